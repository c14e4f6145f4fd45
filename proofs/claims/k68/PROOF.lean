import PyProof.Rows.All
import Wide.All
import OpenK.AllK
import Wide.FinOn
import HandS.ForMost
import HandS.Style
import HandS.IsInst
import HandS.EndBits
import HandS.MakeKwOnly
import KE.IntBitsLaws
import KE.KIntText
import PyProof.Rows.Digits
import HandS.Exc
import HandS.Iter
import HandS.List
import HandS.Text
import HandS.TupMul
import KE.KRevSl
import HandS.SortKw
import HandS.TupLe
import HandS.Walk
import HandS.Zip
import KE.GoesEnum
import HandS.Lambda
import HandS.Nested
import HandS.EndTab
import HandS.Deep
import HandS.NoneIn
import PyProof.P3In
import KE.GoesMore
import KE.GoesZip
import HandS.Star
import HandS.Wide
import HandS.Flow
import HandS.ExcOwn
import HandS.RaiseMore
import HandS.Conv
import HandS.Sort
import HandS.ExcInit
import HandS.ExcField
import HandS.ExcIs
import HandS.ExcValue
import KE.KExcIs
import KE.KExcInit
import HandS.TryMany
import HandS.Codes
import KE.KExcLine
import PySem.Challenge.RW_wiretongue_k68_texts_of_no_thing
set_option Elab.async false
set_option linter.all false
set_option maxRecDepth 100000
set_option maxHeartbeats 4000000
/-! promises of defs that may show things: what runs around holds nothing that is being shown -/
namespace Kit
open PySem PySem.Spec PyProof.Rows L2

/-- nothing is being shown -/
abbrev Qt (A : Around) : Prop := A.guards = some []
theorem Qt.deeper {A : Around} (h : Qt A) (env : Env) : Qt (A.deeper env) := h

structure FnG (P : Program) (w : World) (K : PySem.W.Frag) (mg : Str → Option Value)
    (base : Heap) (CX : CXT) (k : Nat) (f : Addr) (fd : FuncData) (ps : List Str) (sp : Sp) : Prop where
  len : ∀ vs H Q E, sp vs H Q E → vs.length = ps.length
  run : ∀ (A : Around) (outer : List Env) (s : Shared) (H : Hp) (args : Args) (us : List Value)
    (vs : List V) (Q : VK) (E : XK), Qt A → Room k A → Env0 P w K mg base A outer s H →
    BindsTo s fd args (ps.zip us) → Vals vs us → sp vs H Q E →
    codeAny (model P w) A (.call (.ref f) args) (CR CX outer P w H s Q E) s

section
variable {P : Program} {w : World} {K : PySem.W.Frag} {mg : Str → Option Value} {base : Heap} {CX : CXT}

theorem FnG.of {k : Nat} {f : Addr} {fd : FuncData} {ps : List Str} {sp : Sp}
    (F : FnOk P w K mg base CX k f fd ps sp) : FnG P w K mg base CX k f fd ps sp :=
  ⟨F.len, fun A outer s H args us vs Q E _ => F.run A outer s H args us vs Q E⟩

/-- by its body -/
theorem fn_ofG {k : Nat} {f : Addr} {name qual : Str} {params : Arguments} {body : List Stmt} {scope : Scope}
    {dV kV doc pm cdv ct oc : Value} {an od : Option Addr} {osl : Array (Option Value)} {N ps : List Str} {sp : Sp}
    (lk : K.lookup f = some ⟨oc, od, .func (PySem.W.fnOf name qual params body scope dV kV doc pm an cdv ct), osl⟩)
    (hcd : PySem.W.codeIn K cdv qual = true) (S : FnScope N ps scope)
    (len : ∀ vs H Q E, sp vs H Q E → vs.length = ps.length)
    (hbody : ∀ (A : Around) (outer : List Env) (s : Shared) (H : Hp) (vs : List V) (Q : VK) (E : XK),
      Qt (A.deeper (envOfC qual scope s.heap.objs.size f cdv)) →
      Room k (A.deeper (envOfC qual scope s.heap.objs.size f cdv)) → sp vs H Q E →
      ∃ t, PSs (cxOf CX P w K mg base N qual scope f cdv A outer s H E) body t ∧
        t { nx := fun _ H' => Q .non H', rt := Q } (start N vs) H) :
    FnG P w K mg base CX (k + 1) f (PySem.W.fnOf name qual params body scope dV kV doc pm an cdv ct) ps sp := by
  refine ⟨len, ?_⟩
  intro A outer s H args us vs Q E hq hr e0 hb r hsp
  have hl := len _ _ _ _ hsp
  have kept : ∀ b o, base.get? b = some o → s.heap.get? b = some o := fun b o e => (e0.bs b o e).1
  have KX : K.In s.heap := e0.mod.kin.keeps kept
  have lim : s.heap.NoLimit := e0.mod.nolimit.keeps kept
  have hkind : ∀ y ∈ ps.zip us, scope.names.lookup y.1 = some .local ∨
      (scope.names.lookup y.1 = some .cell ∧
        ((cellsFrom (s.heap.objs.size + 1) scope.names []).lookup y.1).isSome = true) := by
    intro y hy
    rcases S.par y.1 (List.of_mem_zip (a := y.1) (b := y.2) hy).1 with q | q
    · exact .inl q
    · exact .inr ⟨q, PySem.W.cellsFrom_some _ _ _ (.inl q)⟩
  refine codeAny_call_function hr.depth (KX _ _ lk) rfl S.co S.gen rfl
    (PySem.W.codeRec_of KX hcd) (hb _ _ _ _ ?_)
  refine wpAny_newFunctionEnv_cells S.kind hkind fun env he s1 x => ?_
  subst he
  refine ⟨lim.keeps x.toInCall.keep, codeAny_func ?_⟩
  obtain ⟨t, ht, go⟩ := hbody A outer s H vs Q E (hq.deeper _) (hr.deeper _) hsp
  have I : Inv (cxOf CX P w K mg base N qual scope f cdv A outer s H E) [] (start N vs) H s1 :=
    inv_start S hr.hd e0 hl r x
  refine wpAny_mono (ht.run [] s1 (start N vs) H _ I go) (fun fl s' hs => ?_) fun e s' hs => hs
  cases fl with
  | ret u =>
    obtain ⟨v, σ', H', J, rv, q⟩ := hs
    exact ⟨v, H', J.os, J.bare, J.base, J.hok, rv, q⟩
  | next =>
    obtain ⟨σ', H', J, q⟩ := hs
    exact ⟨V.non, H', J.os, J.bare, J.base, J.hok, rfl, q⟩
  | brk => obtain ⟨_, _, _, q⟩ := hs; exact False.elim q
  | cont => obtain ⟨_, _, _, q⟩ := hs; exact False.elim q
end

section
variable {X : Cx} {CX : CXT} {k : Nat} {f : Addr} {fd : FuncData} {ps : List Str} {sp : Sp} {ds : List Value} {dvs : List V} {E : XK}

theorem run_fnG {pins : List (Addr × Obj)} {σ : L2.St} {H : Hp} {s : Shared} {Q : VK} {us ws : List Value} {vs zs : List V} {ks : List Str}
    {g : List Value → List Value → List Value} {gV : List V → List V → List V}
    (F : FnG X.prog X.w X.K X.mg X.base CX k f fd ps sp) (hq : Qt X.A) (hr : Room k X.A)
    (hb : KBinds X.K fd ps ks g gV) (hx : Passes CX X E) (I : Inv X pins σ H s) (r : Vals vs us) (rz : Vals zs ws)
    (h : sp (gV vs zs) H Q E) :
    wpAny (model X.prog X.w) X.A (call (.ref f) us (ks.zip ws)) (EP X pins σ Q) X.xe s := by
  have r2 := hb.rel r rz
  have hl : (g us ws).length = ps.length := by
    rw [← r2.length]
    exact F.len _ _ _ _ h
  have z := F.run X.A X.stack s H ⟨us, ks.zip ws⟩ (g us ws) (gV vs zs) Q E hq hr I.env0 (hb.to s us ws I.kIn hl) r2 h
  refine wpAny_call (codeAny_mono z ?_)
  intro o s' ho
  match o, ho with
  | .error e, ho => exact hx pins σ H s e s' I ho
  | .ok (.ret u), ho => exact I.after ho
  | .ok .next, ho => exact False.elim ho
  | .ok .brk, ho => exact False.elim ho
  | .ok .cont, ho => exact False.elim ho

/-- all by their names, or nothing -/
def gK {α : Type} : List α → List α → List α
  | [], ws => ws
  | _ :: _, _ => []

/-- a def of the module that may be called by its name, all parameters given -/
structure Cal (P : Program) (w : World) (K : PySem.W.Frag) (mg : Str → Option Value)
    (base : Heap) (CX : CXT) (k : Nat) (x : Str) (ps : List Str) (sp : Sp) : Prop where
  ex : ∃ (f : Addr) (fd : FuncData), FnG P w K mg base CX k f fd ps sp ∧ mg x = some (.ref f) ∧
    PySem.W.keepIn K (.ref f) = true ∧ Binds K fd ps [] ∧
    (ps ≠ [] → KBinds K fd ps ps gK gK)

variable {x : Str} {p pos : Pos} {e : Expr} {es : List Expr} {kws : List Keyword} {t tk : TA} {j : Nat}

theorem kb_of {fd : FuncData} (hb : Binds X.K fd ps []) : KBinds X.K fd ps [] (fun us _ => us) (fun vs _ => vs) :=
  ⟨fun s us ws hK hl => by
    have z := hb s us hK (by rw [List.append_nil]; exact hl)
    rw [List.append_nil] at z
    exact z, fun r _ => r⟩

theorem pe_c (c : Cal X.prog X.w X.K X.mg X.base CX k x ps sp) (hx : Passes CX X E) (hq : Qt X.A) (hr : Room j X.A) (hk : k ≤ j)
    (hg : Gl X x) (ha : PA X (e :: es) t) (hdb : (x == ("__debug__" : Str)) = false := by decide)
    (he : starEach (e :: es) X.env = (false, eval e X.env) :: starEach es X.env := by rfl)
    (hpl : (backTo pos (starEach es X.env)).any (·.1) = false := by rfl) :
    PE X (.Call (.Name x p) (e :: es) [] pos) (tCall sp [] E t) := by
  obtain ⟨f, fd, F, hm, hkp, hb, _⟩ := c.ex
  constructor
  intro pins s σ H Q I h
  refine wpAny_Call_Name_kw (ld_glob I hg hm ?_ hdb)
  refine PySem.W.callWith_K (h₀ := X.base) I.ok.mod.kin hkp ?_ he hpl
  refine thn (ha.run pos pins s σ H _ I h) ?_
  rintro us s1 ⟨vs, H1, I1, r, q⟩
  rw [List.append_nil] at q
  exact ⟨I1.kIn, run_fnG (ks := []) (ws := []) F hq (hr.mono hk) (kb_of hb) hx I1 r .nil q⟩

theorem pe_c0 (c : Cal X.prog X.w X.K X.mg X.base CX k x ps sp) (hx : Passes CX X E) (hq : Qt X.A) (hr : Room j X.A) (hk : k ≤ j)
    (hg : Gl X x) (hdb : (x == ("__debug__" : Str)) = false := by decide) :
    PE X (.Call (.Name x p) [] [] pos) (tCall sp [] E tNil) := by
  obtain ⟨f, fd, F, hm, hkp, hb, _⟩ := c.ex
  constructor
  intro pins s σ H Q I h
  refine wpAny_Call_Name_kw (ld_glob I hg hm ?_ hdb)
  exact PySem.W.callWith_K0 I.kIn hkp (run_fnG (ks := []) (us := []) (ws := []) F hq (hr.mono hk) (kb_of hb) hx I .nil .nil h)

/-- all by their names, in the parameters' order -/
theorem pe_cK (c : Cal X.prog X.w X.K X.mg X.base CX k x ps sp) (hx : Passes CX X E) (hq : Qt X.A) (hr : Room j X.A) (hk : k ≤ j)
    (hg : Gl X x) (h0 : ps ≠ []) (hkw : PK X kws tk)
    (hall : (backToKw pos (keywordEach kws X.env)).all (·.1.isSome) = true := by rfl)
    (hks : (backToKw pos (keywordEach kws X.env)).filterMap (·.1) = ps := by rfl)
    (hdb : (x == ("__debug__" : Str)) = false := by decide)
    (hpl : ((backTo pos (starEach [] X.env)).any (·.1) || (backToKw pos (keywordEach kws X.env)).any (·.1.isNone)) = false := by rfl) :
    PE X (.Call (.Name x p) [] kws pos) (tCall sp [] E tk) := by
  obtain ⟨f, fd, F, hm, hkp, _, hb⟩ := c.ex
  constructor
  intro pins s σ H Q I h
  refine wpAny_Call_Name_kw (ld_glob I hg hm ?_ hdb)
  refine PySem.W.callWith_KW0 (h₀ := X.base) I.ok.mod.kin hkp hall ?_ hpl
  refine thn (hkw.run pos pins s σ H _ I h) ?_
  rintro ws s1 ⟨zs, H1, I1, r, q⟩
  rw [List.append_nil] at q
  refine ⟨I1.kIn, ?_⟩
  rw [hks]
  exact run_fnG (us := []) (vs := []) F hq (hr.mono hk) (hb h0) hx I1 .nil r q
end

section
variable {P : Program} {w : World} {K : PySem.W.Frag} {mg : Str → Option Value} {base : Heap}
theorem kb_all {fd : FuncData} {ps : List Str} (h0 : ps ≠ [])
    (h : ∀ ws : List Value, ws.length = ps.length → bindArgs fd ⟨[], ps.zip ws⟩ = pure (ps.zip ws)) : KBinds K fd ps ps gK gK where
  to := fun s us ws _ hl => by
    cases us with
    | nil => exact .of_eq (h ws hl)
    | cons u us =>
      exfalso
      cases ps with
      | nil => exact h0 rfl
      | cons y ps => cases hl
  rel := fun {vs us zs ws} r rz => by
    cases r with
    | nil => exact rz
    | cons _ _ => exact .nil
/-- a def by its body; nothing leaves it by a raise -/
theorem fng_of {x0 x : Str} {st : Stmt} {f : Addr} {fd : FuncData} {N ps : List Str} {k : Nat} {sp : Sp}
    (F : L2.Fun K x0 x st f fd)
    (S : FnScope N ps (defScope st)) (len : ∀ vs H Q E, sp vs H Q E → vs.length = ps.length)
    (hbody : ∀ (cdv : Value) (A : Around) (outer : List Env) (s : Shared) (H : Hp) (vs : List V) (Q : VK) (E : XK),
      Qt (A.deeper (envOfC x (defScope st) s.heap.objs.size f cdv)) →
      Room k (A.deeper (envOfC x (defScope st) s.heap.objs.size f cdv)) → sp vs H Q E →
      ∃ t, PSs (cxOf L2.CX0 P w K mg base N x (defScope st) f cdv A outer s H E).nox (defBody st) t ∧
        t { nx := fun _ H' => Q .non H', rt := Q } (start N vs) H) :
    FnG P w K mg base L2.CX0 (k + 1) f fd ps sp := by
  obtain ⟨oc, od, kV, doc, pm, an, cdv, ct, osl, rfl, lk, hcd⟩ := F.ex
  refine fn_ofG lk hcd S len ?_
  intro A outer s H vs Q E hq hr hsp
  obtain ⟨t, h, q⟩ := hbody cdv A outer s H vs Q E hq hr hsp
  exact ⟨t, h.nox, q⟩
theorem cal_of {x : Str} {st : Stmt} {f : Addr} {fd : FuncData} {N ps : List Str} {k : Nat} {sp : Sp}
    (F : L2.Fun K x x st f fd) (hm : mg x = some (.ref f)) (hb : Binds K fd ps []) (hkb : ps ≠ [] → KBinds K fd ps ps gK gK)
    (S : FnScope N ps (defScope st)) (len : ∀ vs H Q E, sp vs H Q E → vs.length = ps.length)
    (hbody : ∀ (cdv : Value) (A : Around) (outer : List Env) (s : Shared) (H : Hp) (vs : List V) (Q : VK) (E : XK),
      Qt (A.deeper (envOfC x (defScope st) s.heap.objs.size f cdv)) →
      Room k (A.deeper (envOfC x (defScope st) s.heap.objs.size f cdv)) → sp vs H Q E →
      ∃ t, PSs (cxOf L2.CX0 P w K mg base N x (defScope st) f cdv A outer s H E).nox (defBody st) t ∧
        t { nx := fun _ H' => Q .non H', rt := Q } (start N vs) H) :
    Cal P w K mg base L2.CX0 (k + 1) x ps sp :=
  ⟨f, fd, fng_of F S len hbody, hm, F.kp, hb, hkb⟩

/-- the law's call, from the world outside -/
theorem law_callG {mb : Str → Option Value} {CX : CXT} {k : Nat} {fa a : Addr} {fd : FuncData} {x : Str} {sp : Sp}
    {s₁ : Shared} {vs : List Value} {ns : List Int}
    (KX : K.In s₁.heap) (hns : s₁.heap.Ns mainGlobals mg) (hb : s₁.heap.Ns builtinsNs mb)
    (hbb : ∀ x : Str, x ≠ "__name__" → mb x = bootBuiltins x) (hlim : s₁.heap.NoLimit) (hg : s₁.gens = #[])
    (ha : s₁.heap.get? a = some { cls := .type "list", data := .seq vs.toArray }) (hi : IntsAre vs ns)
    (hl : ns.length ≤ sizeLine) (hr : Room k callerA)
    (F : ∀ base : Heap, K.In base → base.Ns mainGlobals mg → FnG P w K mg base CX k fa fd [x] sp)
    (hbind : ∀ (s : Shared) (u : Value), BindsTo s fd ⟨[u], []⟩ [(x, u)])
    (hsp : ∀ H : Hp, Only H → SqL K H a (ns.map V.int) → sp [.ref a] H (fun v _ => v = .bl true) fun _ _ _ => False)
    (hCX : ∀ H e s', CX [] H s₁ (fun _ _ _ => False) e s' → False) :
    codeAny (model P w) callerA (.call (.ref fa) ⟨[.ref a], []⟩)
      (fun r s' => r = .ok (.ret (.bool true)) ∧ OldK s₁.heap s'.heap ∧ s'.os = s₁.os ∧ AllBare s'.gens) s₁ := by
  have rv := vals_ints hi
  have lenV := hi.length
  -- over any abstract heap that tracks the script at most
  have inner : ∀ H : Hp, Only H → SqL K H a (ns.map V.int) → HOk P w H s₁.heap → (∀ b, H b ≠ none → b = a) →
      (H a ≠ none → K.lookup a = none) →
      codeAny (model P w) callerA (.call (.ref fa) ⟨[.ref a], []⟩)
        (fun r s' => r = .ok (.ret (.bool true)) ∧ OldK s₁.heap s'.heap ∧ s'.os = s₁.os ∧ AllBare s'.gens) s₁ := by
    intro H hO hS hok hA hK
    have one : ∀ {b : Addr} {u : HO}, H b = some u → b = a := fun {b u} z => hA b (by rw [z]; simp)
    have noD : ∀ {b : Addr} {o : Obj} {es : Array DictEntry} {ep : Nat},
        s₁.heap.get? b = some o → o.data = .dict es ep → H b = none := by
      intro b o es ep e d
      cases q : H b with
      | none => rfl
      | some u =>
        obtain rfl := one q
        rw [ha] at e
        cases e
        have d' : Data.seq vs.toArray _ = Data.dict es ep := d
        cases d'
    have nsK : ∀ {b : Addr} {m : Str → Option Value}, s₁.heap.Ns b m → (hidT s₁.heap H).Ns b m := by
      rintro b m ⟨o, es, ep, e, d, r⟩
      exact ⟨o, es, ep, hidT_get e (noD e d), d, r⟩
    have hKb : K.In (hidT s₁.heap H) := by
      intro b o e
      refine hidT_get (KX b o e) ?_
      cases q : H b with
      | none => rfl
      | some u =>
        obtain rfl := one q
        rw [hK (by rw [q]; simp)] at e
        cases e
    obtain ⟨mc, l1, l2⟩ := hlim
    have hM : Mod K mg (hidT s₁.heap H) := ⟨hKb, nsK hns, ⟨mb, nsK hb, hbb⟩, mc, nsK l1, l2⟩
    have no0 : ∀ b : Addr, b ∈ ([] : List Addr) → False := fun b z => by simp at z
    have e0 : Env0 P w K mg (hidT s₁.heap H) callerA [] s₁ H :=
      ⟨rfl, hM, fun b o e => of_hidT e, Nat.le_of_eq (hidT_size _ _), trivial, fun b z => (no0 b z).elim, hok, .of_eq hg⟩
    have go := (F _ hKb (nsK hns)).run callerA [] s₁ H ⟨[.ref a], []⟩ [.ref a] [.ref a] _ _ rfl hr e0
      (hbind s₁ (.ref a)) (.cons rfl .nil) (hsp H hO hS)
    refine codeAny_mono go ?_
    intro r s' h
    match r, h with
    | .error e, h => exact (hCX H e s' h).elim
    | .ok .next, h => exact False.elim h
    | .ok .brk, h => exact False.elim h
    | .ok .cont, h => exact False.elim h
    | .ok (.ret u), h =>
      obtain ⟨v, H', os, bare, un, hok', r', q⟩ := h
      have q' : v = .bl true := q
      subst q'
      obtain rfl : u = Value.bool true := r'
      refine ⟨rfl, OldK.of_keep ?_, os, bare⟩
      intro b o e
      cases q : H b with
      | none => exact un.keep b o e q (no0 b) (by simp)
      | some u =>
        rcases hO b with z | ⟨ob, xs, z⟩
        · rw [q] at z
          cases z
        · obtain ⟨e1, _⟩ := hok b _ z
          obtain ⟨e2, _⟩ := hok' b _ (un.frzs b ob _ z)
          rw [e] at e1
          cases e1
          exact e2
  cases hk : K.lookup a with
  | some o =>
    have e := KX a o hk
    rw [ha] at e
    cases e
    have sz : vs.toArray.size ≤ sizeLine := by
      rw [List.size_toArray, lenV]
      exact hl
    refine inner (fun _ => none) (fun _ => .inl rfl) (.inr ⟨_, vs.toArray, _, hk, rfl, rfl, rfl, sz, by simpa using rv⟩) ?_ ?_ ?_
    · intro b u z
      have z' : (none : Option HO) = some u := z
      cases z'
    · exact fun b z => absurd rfl z
    · exact fun z => absurd rfl z
  | none =>
    let u : HO := .frz { cls := .type "list", data := .seq vs.toArray } (.lst (ns.map V.int))
    have yes : ∀ {b : Addr}, b = a → (if b = a then some u else none) = some u := fun h => if_pos h
    have no : ∀ {b : Addr}, ¬ b = a → (if b = a then some u else none) = none := fun h => if_neg h
    refine inner (fun b => if b = a then some u else none) ?_ (.inl (.inr ⟨_, yes rfl⟩)) ?_ ?_ fun _ => hk
    · intro b
      by_cases hb : b = a
      · exact .inr ⟨_, _, yes hb⟩
      · exact .inl (no hb)
    · intro b v z
      by_cases hb : b = a
      · have z' := (yes hb).symm.trans z
        cases z'
        subst hb
        refine ⟨ha, ?_, vs, _, rv, ha⟩
        rw [List.length_map]
        exact hl
      · have z' := (no hb).symm.trans z
        cases z'
    · intro b z
      by_cases hb : b = a
      · exact hb
      · exact absurd (no hb) z
end

/-- the goal of the head, from the law's promise -/
theorem walk_ofG {l : PySem.W.OpenLaw} {n k : Nat} {q : Program} {loose : List Str} {XP : (Str → Option Value) → Heap → Prop}
    {YP : World → Heap → Prop} {d : DefRec} {K : Params → PySem.W.Frag} {CX : World → CXT} {sp : World → Sp} {x : Str}
    (hn : l.most = some n) (hn2 : n ≤ sizeLine) (hdf : d.params.defaults = []) (hr : Room k callerA)
    (hY : ∀ (w : World) (h : Heap), YP w h → (K w.params).In h)
    (F : ∀ (w : World) (mg : Str → Option Value) (fa : Addr) (h : Heap), (K w.params).In h → h.Ns mainGlobals mg →
      mg d.name = some (.ref fa) →
      ∃ fd : FuncData, (∀ (s : Shared) (u : Value), BindsTo s fd ⟨[u], []⟩ [(x, u)]) ∧
        ∀ base : Heap, (K w.params).In base → base.Ns mainGlobals mg → FnG l.prog w (K w.params) mg base (CX w) k fa fd [x] (sp w))
    (hsp : ∀ (w : World) (H : Hp) (a : Addr) (ns : List Int), ns.length ≤ n →
      (∀ z ∈ ns, Builtin.Int.intBits z ≤ 1048576) → Only H → SqL (K w.params) H a (ns.map V.int) →
      sp w [.ref a] H (fun v _ => v = .bl true) fun _ _ _ => False)
    (hCX : ∀ (w : World) (H : Hp) (s : Shared) (e : Value) (s' : Shared), CX w [] H s (fun _ _ _ => False) e s' → False) :
    PySem.W.WalkO q loose XP YP l.row.toRowW d [] (fun f vs => PySem.call f vs) := by
  refine Att.attach_callB hn hdf ?_
  intro w s₀ s₁ mg mb fa o pm cd doc a vs ns G Y ho hd hcd hmg hobj hints hlen hbits hg
  have KX := hY w _ Y
  obtain ⟨fd, hb, hF⟩ := F w mg fa _ KX G.T.g hmg
  exact law_callG KX G.T.g G.T.b G.T.builtins G.T.nolimit hg hobj hints (Nat.le_trans hlen hn2) hr hF hb
    (fun H hO hS => hsp w H a ns hlen hbits hO hS) fun H e s' => hCX w H s₁ e s'
end Kit

namespace Kit
open PySem PySem.Spec PyProof.Rows L2
section
variable {X : Cx}
/-- * of whole numbers, as great as the machine lets -/
theorem op_mulB : OpR X (binaryOp .Mult) (rI IntMulOk fun i j => .int (i * j)) :=
  opI fun i j t u s Q E hc q => mul_int q hc

/-- a text times a number -/
def rRepS : R2 := fun x y H Q => ∃ (z : Str) (k : Int), x = .str z ∧ y = .int k ∧ z.length ≤ 1000 ∧ 0 ≤ k ∧ k ≤ 1000 ∧ Q (.str (Txt.mul z k)) H
theorem op_repS : OpR X (binaryOp .Mult) rRepS := by
  intro pins s σ H x y v u Q I rx ry h
  obtain ⟨z, k, rfl, rfl, hz, h0, hk, q⟩ := h
  obtain ⟨t, rfl⟩ := rx
  obtain ⟨t', rfl⟩ := ry
  exact SB.mul (mulOk_of 1000 1000 hz hk (by omega) (by decide) (by decide)) fun t' k => ⟨.str _, H, I.tok _, ⟨_, rfl⟩, q⟩

/-- repr of lists and tuples of data -/
def rReprD (K : PySem.W.Frag) : List V → Hp → VK → Prop := fun xs H Q => ∃ (a : Addr) (d : PyData), xs = [.ref a] ∧ Dp K H (.ref a) d ∧
  d.showable = true ∧ d.hasDict = false ∧ d.depth ≤ 150 ∧ d.shown.length ≤ sizeLine ∧ Q (.str d.shown) H
theorem call_reprD (hq : Qt X.A) (hu : X.A.units + 200 < cLine) : CallR X (.builtin "repr") (rReprD X.K) := by
  intro pins s σ H xs us Q I r h
  obtain ⟨a, d, rfl, hd, hs, hn, hp, hz, q⟩ := h
  obtain ⟨u, rfl, ru⟩ := vals1 r
  obtain ⟨as, rd⟩ := Dp.reads I d _ _ hd ru
  obtain rfl : u = Value.ref a := ru
  refine repr_of_reads' rd hs (PyData.noDict_hsm hn) hq (by omega) (fun _ _ e => e) (fun h' u tk hk => ?_) hz
  exact ⟨.str _, H, I.kept hk, ⟨_, rfl⟩, q⟩

/-- a list of anything beside one without items -/
def rEqNil (K : PySem.W.Frag) : R2 := fun x y H Q => ∃ (a b : Addr) (xs : List V), x = .ref a ∧ y = .ref b ∧ SqL K H a xs ∧ SqL K H b [] ∧ Q (.bl xs.isEmpty) H
def rNeNil (K : PySem.W.Frag) : R2 := fun x y H Q => ∃ (a b : Addr) (xs : List V), x = .ref a ∧ y = .ref b ∧ SqL K H a xs ∧ SqL K H b [] ∧ Q (.bl (!xs.isEmpty)) H
theorem op_eqNil (hu : X.A.units + 200 < cLine) : OpR X (compareOp .Eq) (rEqNil X.K) := by
  intro pins s σ H x y v u Q I rx ry h
  obtain ⟨a, b, xs, rfl, rfl, ha, hb, q⟩ := h
  cases rx
  cases ry
  obtain ⟨its, r1, p1, _⟩ := I.list ha
  obtain ⟨its2, r2, p2, _⟩ := I.list hb
  cases r2
  cases xs with
  | nil =>
    cases r1
    exact SeqAt.eq_listAt (e := fun _ => true) p1.isList p2.isList rfl (by omega) (fun j h1 _ => absurd h1 (Nat.not_lt_zero j)) ⟨.bl true, H, I, rfl, q⟩
  | cons z zs =>
    cases r1
    exact SeqAt.eq_list_lengthsAt p1.isList p2.isList (by simp) (by omega) ⟨.bl false, H, I, rfl, q⟩
theorem op_neNil (hu : X.A.units + 200 < cLine) : OpR X (compareOp .NotEq) (rNeNil X.K) := by
  intro pins s σ H x y v u Q I rx ry h
  obtain ⟨a, b, xs, rfl, rfl, ha, hb, q⟩ := h
  cases rx
  cases ry
  obtain ⟨its, r1, p1, _⟩ := I.list ha
  obtain ⟨its2, r2, p2, _⟩ := I.list hb
  cases r2
  cases xs with
  | nil =>
    cases r1
    exact SeqAt.RcNeAt.lists (e := fun _ => true) p1.isList p2.isList rfl (by omega) (fun j h1 _ => absurd h1 (Nat.not_lt_zero j)) _ _ _ _ ⟨.bl false, H, I, rfl, q⟩
  | cons z zs =>
    cases r1
    exact SeqAt.RcNeAt.lists_lengths p1.isList p2.isList (by simp) (by omega) _ _ _ _ ⟨.bl true, H, I, rfl, q⟩

/-- a text from behind: what of it is told is its length -/
def tRevS (te : TE) : TE := fun σ H Q => te σ H fun x H1 => ∃ z : Str, x = .str z ∧ z.length ≤ sizeLine ∧ ∀ y : Str, y.length ≤ z.length → Q (.str y) H1
theorem pe_revS {e : Expr} {te : TE} {k : Nat} {p1 p2 p3 pos : Pos} (he : PE X e te)
    (hlt : ∀ (z : Str) (t : Tok) r, letTemporaryGo e (.str z t) r = pure () := by intro _ _ _; with_unfolding_all rfl) :
    PE X (.Subscript e (.Slice none none (some (.UnaryOp .USub (.Constant (.int 1) k p1) p2)) p3) pos) (tRevS te) := by
  constructor
  intro pins s σ H Q I h
  refine Subscript_ (thn (he.run pins s σ H _ I h) ?_)
  rintro v s1 ⟨x, H1, I1, r1, z, rfl, hz, q⟩
  obtain ⟨t, rfl⟩ := r1
  have hst : PO X (some (.UnaryOp .USub (.Constant (.int 1) k p1) p2)) (tPart (tUn (rU fun i => .int (-i)) (tC (.int 1)))) :=
    po_some (pe_un un_neg pe_int)
  refine wpAny_Slice (thn (po_none.run pins s1 σ H1 (fun o H2 => o = none ∧ H2 = H1) I1 ⟨rfl, rfl⟩) ?_)
  rintro vl s2 ⟨l, H2, I2, pl, rfl, rfl⟩
  refine thn (po_none.run pins s2 σ H2 (fun o H3 => o = none ∧ H3 = H2) I2 ⟨rfl, rfl⟩) ?_
  rintro vu s3 ⟨u, H3, I3, pu, rfl, rfl⟩
  refine thn (hst.run pins s3 σ H3 (fun o H4 => o = some (-1) ∧ H4 = H3) I3 ⟨1, rfl, -1, rfl, rfl, rfl⟩) ?_
  rintro vs s4 ⟨o, H4, I4, ps, rfl, rfl⟩
  cases pl
  cases pu
  cases ps with
  | int _ uk =>
    refine tail_of_ItemOn (ops := [.ref s4.heap.objs.size, .str z t]) ⟨"str", _, F.slot_str_getitem.lookup, typeIs_str _ _ _,
      wpAny_getItem_str_slice (l := none) (u := none) (st := some (-1, uk)) ⟨_, Heap.get?_push_size _ rfl, rfl, rfl⟩ rfl
        (post_val_or_str ⟨?_, ?_⟩)⟩ (by with_unfolding_all rfl) (hlt z t)
    · exact Nat.le_trans (Txt.sliceBy_le z none none (-1, uk) (by show (-1 : Int) ≠ 0; decide)) hz
    · intro t' c
      exact ⟨.str _, H4, I4.kept (fun b u e => Heap.get?_push_of_some _ e), ⟨_, rfl⟩, q _ (Txt.sliceBy_le z none none (-1, uk) (by show (-1 : Int) ≠ 0; decide))⟩

/-- the signs of a text, a text each -/
def sgV (z : Str) : List V := z.cps.toList.map fun c => .str ⟨#[c]⟩
theorem sgV_len (z : Str) : (sgV z).length = z.length := by
  unfold sgV
  rw [List.length_map, Array.length_toList]
  rfl
theorem vals_signs : ∀ (cs : List Nat) (us : List Value), us.length = cs.length → (∀ (j : Nat) (v : Value), us[j]? = some v → ∃ c t, cs[j]? = some c ∧ v = Value.str ⟨#[c]⟩ t) →
    Vals (cs.map fun c => V.str ⟨#[c]⟩) us
  | [], [], _, _ => .nil
  | [], _ :: _, h, _ => by cases h
  | _ :: _, [], h, _ => by cases h
  | c :: cs, u :: us, hl, h => by
    obtain ⟨c', t, e1, e2⟩ := h 0 u rfl
    have e1' : c = c' := Option.some.inj e1
    subst e1'
    exact .cons ⟨t, e2⟩ (vals_signs cs us (by simpa using hl) fun j v e => h (j + 1) v (by simpa using e))
/-- list(a text) -/
theorem call_listS (hc : X.calm = true) : CallR X (.type "list") (fun xs H Q => ∃ z : Str, xs = [.str z] ∧ z.length ≤ sizeLine ∧ ∀ l, H l = none → Q (.ref l) (upd H l (.lst (sgV z)))) := by
  intro pins s σ H xs us Q I r h
  obtain ⟨z, rfl, hz, q⟩ := h
  obtain ⟨u, rfl, t, rfl⟩ := vals1 r
  refine PySem.call_list_str (I.ok.hd hc) z t (fun h' tk acc c' kp e ia => ?_) hz
  have hv : Vals (sgV z) acc.toList := vals_signs _ _ (by rw [Array.length_toList, Array.length_toList]; exact ia.1) fun j v e => by
    obtain ⟨c, u, h1, h2⟩ := ia.2 j v (by rw [← Array.getElem?_toList]; exact e)
    exact ⟨c, u, by rw [Array.getElem?_toList]; exact h1, h2⟩
  exact ⟨.ref s.heap.objs.size, _, I.laid (t' := tk) kp (Nat.le_refl _)
    (show ObjOk X.prog X.w _ h' _ (.lst (sgV z)) from ⟨by rw [sgV_len]; exact hz, acc.toList, c', hv, by rw [Array.toArray_toList]; exact e⟩), rfl, q _ (I.hok.fresh (Nat.le_refl _))⟩
end

/-! ### a comprehension over the signs of a text -/
theorem lc_str {x : Str} {g : TG} {tt : TT} {te : TE} {vs : List Nat} {σ : L2.St} {H1 : Hp} {D : Addr} {Qd : Hp → Prop} (Pv : Nat → Hp → Prop)
    (h0 : Pv 0 (upd H1 D (.lst [])))
    (hs : ∀ i c H, x.cps.toList[i]? = some c → Pv i H → g (.str ⟨#[c]⟩) (wipe σ vs) H fun σ2 H2 => wipe σ2 vs = wipe σ vs ∧ tt σ2 H2 fun b H3 =>
      if b = true then te σ2 H3 fun y H4 => ∃ acc, H4 D = some (.lst acc) ∧ acc.length < sizeLine ∧ Pv (i + 1) (upd H4 D (.lst (acc ++ [y])))
      else Pv (i + 1) H3)
    (hd : ∀ H, Pv x.cps.size H → Qd H) :
    ∃ W : Nat → Nat → Hp → Prop, (∃ m, W 0 m (upd H1 D (.lst []))) ∧ ∀ i m H, W i m H →
      ((Its x).stop i H ∧ Qd H) ∨ ((Its x).go i H ∧ ∃ Nx : Hp → Prop, (∀ H', Nx H' → ∃ m', m' < m ∧ W (i + 1) m' H') ∧
        ∀ v H', (Its x).yld i H v H' → g v (wipe σ vs) H' fun σ2 H2 => wipe σ2 vs = wipe σ vs ∧ tt σ2 H2 fun b H3 =>
          if b = true then te σ2 H3 fun y H4 => ∃ acc, H4 D = some (.lst acc) ∧ acc.length < sizeLine ∧ Nx (upd H4 D (.lst (acc ++ [y]))) else Nx H3) := by
  refine ⟨fun i m H => m = x.cps.size - i ∧ i ≤ x.cps.size ∧ Pv i H, ⟨x.cps.size, rfl, Nat.zero_le _, h0⟩, ?_⟩
  rintro i m H ⟨rfl, hi, p⟩
  by_cases hlt : i < x.cps.size
  · refine .inr ⟨hlt, Pv (i + 1), fun H' q => ⟨x.cps.size - (i + 1), by omega, rfl, by omega, q⟩, ?_⟩
    rintro v H' ⟨rfl, c, e, rfl⟩
    exact hs i c H' (by rw [Array.getElem?_toList]; exact e) p
  · have e : i = x.cps.size := by omega
    subst e
    exact .inl ⟨Nat.le_refl _, hd H p⟩

theorem sgV_get {z : Str} {j : Nat} {x : V} (h : (sgV z)[j]? = some x) : ∃ k, x = .str ⟨#[k]⟩ ∧ z.cps.toList[j]? = some k := by
  unfold sgV at h
  rw [List.getElem?_map] at h
  cases q : z.cps.toList[j]? with
  | none =>
    rw [q] at h
    cases h
  | some k =>
    rw [q] at h
    exact ⟨k, (Option.some.inj h).symm, rfl⟩
/-! ### what may be drawn from: a list, a tuple, a text -/
inductive Sq (K : PySem.W.Frag) (H : Hp) : V → List V → Prop
  | lst {a : Addr} {xs : List V} (h : SqL K H a xs) : Sq K H (.ref a) xs
  | tup {a : Addr} {xs : List V} (h : SqT K H a xs) : Sq K H (.ref a) xs
  | str {z : Str} (h : z.length ≤ sizeLine) : Sq K H (.str z) (sgV z)
theorem atI_lt {α : Type} {xs : List α} {i : Int} {n : Nat} (h0 : 0 ≤ i) (h1 : i < (n : Int)) (hn : n = xs.length) : ∃ v, atI xs i = some v ∧ xs[i.toNat]? = some v := by
  subst hn
  obtain ⟨k, rfl⟩ := Int.eq_ofNat_of_zero_le h0
  have h2 : k < xs.length := by omega
  exact ⟨xs[k], atI_nat (List.getElem?_eq_getElem h2), List.getElem?_eq_getElem h2⟩

/-- a def of the module, as it stands behind the top -/
structure DefAt (K : PySem.W.Frag) (mg : Str → Option Value) (x : Str) (ps : List Str) (st : Stmt) (f : Addr) (fd : FuncData) : Prop where
  fn : L2.Fun K x x st f fd
  mgf : mg x = some (.ref f)
  bs : L2.Binds K fd ps []
  kbs : ps ≠ [] → KBinds K fd ps ps gK gK


theorem def_mk {K : PySem.W.Frag} {mg : Str → Option Value} {h : Heap} {x : Str} {ps : List Str} {st : Stmt} {f : Addr} {oc : Value} {od an : Option Addr} {osl : Array (Option Value)}
    {kV doc pm cdv ct : Value} (X : K.In h) (G : h.Ns mainGlobals mg) (a : PySem.W.nsIn K mainGlobals x = some (some (.ref f)))
    (l : K.lookup f = some ⟨oc, od, .func (PySem.W.fnOf x x (defArgs st) (defBody st) (defScope st) .none kV doc pm an cdv ct), osl⟩)
    (c : PySem.W.codeIn K cdv x = true) (k : PySem.W.keepIn K (.ref f) = true)
    (hb : ∀ (kV doc pm : Value) (an : Option Addr) (cdv ct : Value) (us : List Value), us.length = ps.length →
      bindArgs (PySem.W.fnOf x x (defArgs st) (defBody st) (defScope st) .none kV doc pm an cdv ct) ⟨us, []⟩ = pure (ps.zip us))
    (hk : ps ≠ [] → ∀ (kV doc pm : Value) (an : Option Addr) (cdv ct : Value) (ws : List Value), ws.length = ps.length →
      bindArgs (PySem.W.fnOf x x (defArgs st) (defBody st) (defScope st) .none kV doc pm an cdv ct) ⟨[], ps.zip ws⟩ = pure (ps.zip ws)) :
    DefAt K mg x ps st f (PySem.W.fnOf x x (defArgs st) (defBody st) (defScope st) .none kV doc pm an cdv ct) := by
  have F := fun_mk (st := st) l c k
  exact ⟨F, PySem.W.mg_of X G a, F.binds hb, fun h0 => kb_all h0 fun ws hl => hk h0 kV doc pm an cdv ct ws hl⟩

theorem room200 {A : Around} {k : Nat} (hr : Room k A) : A.units + 200 < cLine := by
  have h := hr.un
  omega

/-! ### heaps -/
theorem same_new {H : Hp} {p : Addr} {o : HO} (h : H p = none) : Same H (upd H p o) := fun b x e => by
  rw [upd_ne (ne_of_none e h)]
  exact e
theorem same_mut {H H' : Hp} {p : Addr} {o : HO} (s : Same H H') (h : H p = none) : Same H (upd H' p o) := fun b x e => by
  rw [upd_ne (ne_of_none e h)]
  exact s b x e
/-- all but two is as it was -/
def But (d c : Addr) (H H' : Hp) : Prop := ∀ b o, b ≠ d → b ≠ c → H b = some o → H' b = some o
theorem But.refl (d c : Addr) (H : Hp) : But d c H H := fun _ _ _ _ e => e
theorem But.trans {d c : Addr} {H H1 H2 : Hp} (a : But d c H H1) (b : But d c H1 H2) : But d c H H2 := fun x o h1 h2 e => b x o h1 h2 (a x o h1 h2 e)
theorem But.same {d c : Addr} {H H1 H2 : Hp} (a : But d c H H1) (b : Same H1 H2) : But d c H H2 := fun x o h1 h2 e => b x o (a x o h1 h2 e)
theorem But.of {d c : Addr} {H H1 : Hp} (b : Same H H1) : But d c H H1 := fun x o _ _ e => b x o e
theorem But.mut {d c p : Addr} {o : HO} {H H1 : Hp} (a : But d c H H1) (h : H p = none) : But d c H (upd H1 p o) := fun x u h1 h2 e => by
  rw [upd_ne (ne_of_none e h)]
  exact a x u h1 h2 e
theorem But.sql {K : PySem.W.Frag} {d c a : Addr} {H H1 : Hp} {xs : List V} (h : But d c H H1) (h1 : a ≠ d) (h2 : a ≠ c) (e : SqL K H a xs) : SqL K H1 a xs := by
  rcases e with (e | ⟨o, e⟩) | e
  · exact .inl (.inl (h _ _ h1 h2 e))
  · exact .inl (.inr ⟨o, h _ _ h1 h2 e⟩)
  · exact .inr e
theorem But.sqt {K : PySem.W.Frag} {d c a : Addr} {H H1 : Hp} {xs : List V} (h : But d c H H1) (h1 : a ≠ d) (h2 : a ≠ c) (e : SqT K H a xs) : SqT K H1 a xs := by
  rcases e with (e | ⟨o, e⟩) | e
  · exact .inl (.inl (h _ _ h1 h2 e))
  · exact .inl (.inr ⟨o, h _ _ h1 h2 e⟩)
  · exact .inr e
theorem But.sq {K : PySem.W.Frag} {d c : Addr} {H H1 : Hp} {v : V} {xs : List V} (h : But d c H H1) (h1 : v ≠ .ref d) (h2 : v ≠ .ref c) (e : Sq K H v xs) : Sq K H1 v xs := by
  cases e with
  | lst e => exact .lst (h.sql (fun z => h1 (by rw [z])) (fun z => h2 (by rw [z])) e)
  | tup e => exact .tup (h.sqt (fun z => h1 (by rw [z])) (fun z => h2 (by rw [z])) e)
  | str e => exact .str e
theorem Sq.lenV {K : PySem.W.Frag} {H : Hp} {v : V} {xs : List V} (h : Sq K H v xs) : LenV K v H xs.length := by
  cases h with
  | lst e => exact .inl ⟨_, e, rfl⟩
  | tup e => exact .inr ⟨_, e, rfl⟩
  | str e => exact ⟨e, sgV_len _⟩
/-- an item of it -/
theorem Sq.item {K : PySem.W.Frag} {H : Hp} {v y : V} {xs : List V} {i : Int} {Q : VK} (h : Sq K H v xs) (e : atI xs i = some y) (q : Q y H) : rIx K v (.int i) H Q := by
  cases h with
  | lst h => exact .inl ⟨_, _, _, _, rfl, rfl, h, e, q⟩
  | tup h => exact .inr (.inl ⟨_, _, _, _, rfl, rfl, h, e, q⟩)
  | @str z hz =>
    have e2 : (ixN (sgV z).length i).bind (fun j => (sgV z)[j]?) = some y := e
    have e3 : ∃ c, atI z.cps.toList i = some c ∧ y = .str ⟨#[c]⟩ := by
      unfold sgV at e2
      rw [List.length_map] at e2
      show ∃ c, (ixN z.cps.toList.length i).bind (fun j => z.cps.toList[j]?) = some c ∧ _
      cases q : ixN z.cps.toList.length i with
      | none =>
        rw [q] at e2
        cases e2
      | some j =>
        rw [q] at e2
        have e4 : (z.cps.toList.map fun c => V.str ⟨#[c]⟩)[j]? = some y := e2
        rw [List.getElem?_map] at e4
        show ∃ c, z.cps.toList[j]? = some c ∧ _
        cases q2 : z.cps.toList[j]? with
        | none =>
          rw [q2] at e4
          cases e4
        | some c =>
          rw [q2] at e4
          exact ⟨c, rfl, (Option.some.inj e4).symm⟩
    obtain ⟨c, h1, rfl⟩ := e3
    exact .inr (.inr ⟨z, i, c, rfl, rfl, hz, h1, q⟩)
end Kit

/-! methods over promises of the quiet kind; data made of tuples -/
namespace Kit
open PySem PySem.Spec PyProof.Rows L2
section
variable {X : Cx} {CX : CXT} {k j : Nat} {C : Addr} {m : Str} {ps : List Str} {sp : Sp} {E : XK} {o e : Expr} {es : List Expr} {ta : TE} {t : TA} {pos apos : Pos}
/-- a method of the class at C -/
structure Met (P : Program) (w : World) (K : PySem.W.Frag) (mg : Str → Option Value) (base : Heap) (CX : CXT) (k : Nat) (C : Addr) (m : Str) (ps : List Str) (sp : Sp) : Prop where
  cl : Cls K C
  ex : ∃ (f : Addr) (fd : FuncData), Meth K C m f ∧ FnG P w K mg base CX k f fd ps sp ∧ Binds K fd ps []
theorem pe_m {pl : Sem Bool} (c : Met X.prog X.w X.K X.mg X.base CX k C m ps sp) (hx : Passes CX X E) (hq : Qt X.A) (hr : Room j X.A) (hk : k ≤ j)
    (he : PE X o ta) (ha : PA X (e :: es) t)
    (hst : starEach (e :: es) X.env = (false, eval e X.env) :: starEach es X.env := by rfl)
    (hpl : (backTo pos (starEach es X.env)).any (·.1) = false := by rfl)
    (ht : eval (.Call (.Attribute o m apos) (e :: es) [] pos) X.env = (eval o X.env >>= fun ov => standAt apos.atName >>= fun _ =>
      holding [ov] (getMethod ov m pl) >>= fun q =>
        callWith pos q.1 q.2 (backTo pos (starEach (e :: es) X.env)) (backToKw pos (keywordEach [] X.env))) := by rfl) :
    PE X (.Call (.Attribute o m apos) (e :: es) [] pos) (tMeth C m sp [] E ta t) := by
  obtain ⟨f, fd, hm, F, hb⟩ := c.ex
  constructor
  intro pins s σ H Q I h
  refine PySem.W.methodCall_KW (pl := pl) (thn (he.run pins s σ H _ I h) ?_) ht
  rintro u s1 ⟨x, H1, I1, rx, a, dx, fs, rfl, ea, l, q⟩
  obtain rfl : u = Value.ref a := rx
  refine getmeth_ok I1 ea c.cl hm l ?_
  refine PySem.W.callWith_K (first := [.ref a]) (h₀ := X.base) I.ok.mod.kin hm.kp (thn (ha.run pos pins s1 σ H1 _ I1 q) ?_) hst hpl
  rintro us s2 ⟨vs, H2, I2, r, q2⟩
  rw [List.append_nil] at q2
  exact ⟨I2.kIn, run_fnG (ks := []) (ws := []) (us := .ref a :: us) (vs := .ref a :: vs) F hq (hr.mono hk) (kb_of hb) hx I2 (.cons rfl r) .nil q2⟩
theorem pe_m0 {pl : Sem Bool} (c : Met X.prog X.w X.K X.mg X.base CX k C m ps sp) (hx : Passes CX X E) (hq : Qt X.A) (hr : Room j X.A) (hk : k ≤ j)
    (he : PE X o ta)
    (ht : eval (.Call (.Attribute o m apos) [] [] pos) X.env = (eval o X.env >>= fun ov => standAt apos.atName >>= fun _ =>
      holding [ov] (getMethod ov m pl) >>= fun q =>
        callWith pos q.1 q.2 (backTo pos (starEach [] X.env)) (backToKw pos (keywordEach [] X.env))) := by rfl) :
    PE X (.Call (.Attribute o m apos) [] [] pos) (tMeth C m sp [] E ta tNil) := by
  obtain ⟨f, fd, hm, F, hb⟩ := c.ex
  constructor
  intro pins s σ H Q I h
  refine PySem.W.methodCall_KW (pl := pl) (thn (he.run pins s σ H _ I h) ?_) ht
  rintro u s1 ⟨x, H1, I1, rx, a, dx, fs, rfl, ea, l, q⟩
  obtain rfl : u = Value.ref a := rx
  refine getmeth_ok I1 ea c.cl hm l ?_
  exact PySem.W.callWith_K0 (first := [.ref a]) I1.kIn hm.kp (run_fnG (ks := []) (ws := []) (us := [.ref a]) (vs := [.ref a]) F hq (hr.mono hk) (kb_of hb) hx I1 (.cons rfl .nil) .nil q)
end
end Kit

set_option maxHeartbeats 8000000
/-! int(text) and repr of whole numbers of up to 4300 figures -/
namespace X20
open PySem PySem.Spec PyProof.Rows L2 Kit PySem.W PySem.NumText
theorem txt_long {M : Model} {A : Around} {E Q : Value → Shared → Prop} {s : Shared} {v : Value} {tx sn : List Nat} {n : Int} (esn : tx.takeWhile (· != 0) = sn)
    (nd : s.heap.NoDigits) (lg : ¬ sn.length ≤ 640) (rd : (int_private% "readNumeral") 4300 10 sn = (int_private% "Numeral.value") n) (al : (sn.length == tx.length) = true)
    (q : Q (.int n s.toks) { s with toks := s.toks + 1 }) : wpAny M A ((int_private% "intFromText") v tx 10) Q E s := by
  obtain ⟨mc, hns, hno⟩ := nd
  subst esn
  have lim : ∀ {Q' : Nat → Shared → Prop}, Q' 4300 s → wpAny M A Builtin.intMaxStrDigits Q' E s := fun {Q'} h => by
    unfold Builtin.intMaxStrDigits
    refine wpAny_bind (wpAny_nsGet hns ?_)
    rw [hno]
    exact wpAny_pure h
  obtain ⟨hp, g, d, tk, os⟩ := s
  repeat (any_goals (first
    | assumption
    | (with_reducible refine wpAny_ite_false (decide_eq_false lg) ?_)
    | (with_reducible refine wpAny_ite_true al ?_)
    | (with_reducible refine lim ?_)
    | wp_step))
  all_goals (try rw [rd])
  all_goals (try dsimp only)
  repeat (any_goals (first
    | assumption
    | (with_reducible refine wpAny_ite_true al ?_)
    | wp_step))
  all_goals trace_state
end X20
namespace X20
open PySem PySem.Spec PyProof.Rows L2 Kit PySem.W PySem.NumText
structure Hd (p : Prop) : Prop where
  o : p
set_option maxHeartbeats 8000000 in
theorem meets_long {x : Str} {u : Tok} {n : Int} (lg : ¬ (numSeenOf x).length ≤ 640) (rd : (int_private% "readNumeral") 4300 10 (numSeenOf x) = (int_private% "Numeral.value") n)
    (al : ((numSeenOf x).length == (numTextOf x).length) = true) :
    Meets (Builtin.«int.__new__» ⟨[.type "int", .str x u], []⟩) (fun _ R s => s.heap.NoDigits ∧ R (.ok (.ret (.int n s.toks))) { s with toks := s.toks + 1 }) := by
  intro prog w A R s ⟨nd, q⟩
  obtain ⟨hp, g, d, tk, os⟩ := s
  have c1 := F.conv_sub_int
  have c2 := F.madeHere_int
  have c3 := KIN.str_int
  have c4 := KIN.str_idx
  have c5 := KIN.str_trunc
  have c6 : typeOf (.str x u) = pure (.type "str") := rfl
  have hh := Hd.mk (And.intro lg (And.intro rd (And.intro al nd)))
  clear lg rd al nd
  repeat (any_goals (first
    | assumption
    | ((with_reducible show wpAny _ _ ((int_private% "intFromText") _ _ _) _ _ _); refine txt_long rfl hh.o.2.2.2 hh.o.1 hh.o.2.1 hh.o.2.2.1 ?_)
    | wp_step))
  all_goals first | exact q | skip
  all_goals trace_state
end X20

/-! values as data: tuples and lists that no one changes by what they hold; what changes by its number in a store -/
namespace DL
open PySem PySem.Spec PyProof.Rows L2 Kit

inductive D where
  | non | bl (b : Bool) | int (i : Int) | str (z : Str) | ty (n : String) | ref (n : Nat)
  | tup (xs : List D) | lst (xs : List D) | dct (t : Bool) (kvs : List (D × D)) | scr (ns : List Int) | ktp (xs : List D) | adr (a : Addr)

/-- what stands in the store -/
inductive MO where
  | lst (xs : List D) | deck (t : Nat) | dct (t : Bool) (kvs : List (D × D)) | hid | gone
abbrev Mu := List MO
/-- an exception: its class, its fields, the slots of the def that called or raised -/
structure Exn where
  C : Addr
  fs : List (Str × D)
  sl : List (Option D) := []

structure W (α : Type) where
  run : (α → Mu → Prop) → (Exn → Mu → Prop) → Mu → Prop
  mono : ∀ {Q Q' : α → Mu → Prop} {E E' : Exn → Mu → Prop} {μ : Mu}, (∀ a μ', Q a μ' → Q' a μ') → (∀ x μ', E x μ' → E' x μ') → run Q E μ → run Q' E' μ
namespace W
def ret {α : Type} (a : α) : W α := ⟨fun Q _ μ => Q a μ, fun h _ q => h _ _ q⟩
def bnd {α β : Type} (m : W α) (k : α → W β) : W β := ⟨fun Q E μ => m.run (fun a μ' => (k a).run Q E μ') E μ, fun h h2 q => m.mono (fun a μ' r => (k a).mono h h2 r) h2 q⟩
def fail {α : Type} : W α := ⟨fun _ _ _ => False, fun _ _ q => q⟩
def chk {α : Type} (p : Prop) (m : W α) : W α := ⟨fun Q E μ => p ∧ m.run Q E μ, fun h h2 q => ⟨q.1, m.mono h h2 q.2⟩⟩
def rd {α : Type} (k : Mu → W α) : W α := ⟨fun Q E μ => (k μ).run Q E μ, fun {_ _ _ _ μ} h h2 q => (k μ).mono h h2 q⟩
def wr {α : Type} (f : Mu → Mu) (m : W α) : W α := ⟨fun Q E μ => m.run Q E (f μ), fun h h2 q => m.mono h h2 q⟩
def any {α β : Type} (p : β → Prop) (k : β → W α) : W α := ⟨fun Q E μ => ∀ b, p b → (k b).run Q E μ, fun h h2 q b hb => (k b).mono h h2 (q b hb)⟩
/-- nothing is raised within -/
def nox {α : Type} (m : W α) : W α := ⟨fun Q _ μ => m.run Q (fun _ _ => False) μ, fun h _ q => m.mono h (fun _ _ z => z) q⟩
def exn {α : Type} (x : Exn) : W α := ⟨fun _ E μ => E x μ, fun _ h2 q => h2 _ _ q⟩
/-- .. seen at the slots ε -/
def tag {α : Type} (ε : List (Option D)) (m : W α) : W α := ⟨fun Q E μ => m.run Q (fun x μ' => E { x with sl := ε } μ') μ, fun h h2 q => m.mono h (fun _ _ z => h2 _ _ z) q⟩
def opt {α : Type} : Option α → W α
  | some a => ret a
  | none => fail
end W
section
variable {α β : Type} {Q : α → Mu → Prop} {Qb : β → Mu → Prop} {E : Exn → Mu → Prop} {μ : Mu}
theorem run_ret {a : α} : (W.ret a).run Q E μ = Q a μ := rfl
theorem run_bnd {m : W α} {k : α → W β} : (W.bnd m k).run Qb E μ = m.run (fun a μ' => (k a).run Qb E μ') E μ := rfl
theorem run_fail : (W.fail : W α).run Q E μ = False := rfl
theorem run_chk {p : Prop} {m : W α} : (W.chk p m).run Q E μ = (p ∧ m.run Q E μ) := rfl
theorem run_rd {k : Mu → W α} : (W.rd k).run Q E μ = (k μ).run Q E μ := rfl
theorem run_wr {f : Mu → Mu} {m : W α} : (W.wr f m).run Q E μ = m.run Q E (f μ) := rfl
theorem run_any {p : β → Prop} {k : β → W α} : (W.any p k).run Q E μ = (∀ b, p b → (k b).run Q E μ) := rfl
theorem run_nox {m : W α} : (W.nox m).run Q E μ = m.run Q (fun _ _ => False) μ := rfl
theorem run_exn {x : Exn} : (W.exn x : W α).run Q E μ = E x μ := rfl
theorem run_tag {ε : List (Option D)} {m : W α} : (W.tag ε m).run Q E μ = m.run Q (fun x μ' => E { x with sl := ε } μ') μ := rfl
theorem run_some {a : α} : (W.opt (some a)).run Q E μ = Q a μ := rfl
theorem run_none : (W.opt (none : Option α)).run Q E μ = False := rfl
end

/-! ### where it stands -/
structure Pl where
  L : List Addr
  hid : List Addr
def live (S : Pl) (μ : Mu) (a : Addr) : Prop := a ∈ S.hid ∨ ∃ (n : Nat) (m : MO), S.L[n]? = some a ∧ μ[n]? = some m ∧ m ≠ MO.gone

section
variable (K : PySem.W.Frag)
def FrT (S : Pl) (μ : Mu) (H : Hp) (a : Addr) (vs : List V) : Prop := H a = some (.tup vs) ∧ ¬ live S μ a
def FrL (S : Pl) (μ : Mu) (H : Hp) (a : Addr) (vs : List V) : Prop := H a = some (.lst vs) ∧ ¬ live S μ a
def FrS (S : Pl) (μ : Mu) (H : Hp) (a : Addr) (vs : List V) : Prop := (Rd H a (.lst vs) ∧ ¬ live S μ a) ∨ SqL K (fun _ => none) a vs
/-- a key, as the machine has it -/
def dkK : D → Option Key
  | .int i => some (.inl i)
  | .str z => some (.inr z)
  | _ => none
def dkL : List D → Option (List Key)
  | [] => some []
  | x :: xs => (dkK x).bind fun k => (dkL xs).map (k :: ·)
/-- .. of a dict whose keys are tuples -/
def dkT : D → Option (List Key)
  | .tup ds => dkL ds
  | _ => none
abbrev IsKey (d : D) (k : Key) : Prop := dkK d = some k
abbrev IsKeyT (d : D) (k : List Key) : Prop := dkT d = some k
mutual
inductive Rep (S : Pl) (μ : Mu) (H : Hp) : D → V → Prop
  | non : Rep S μ H .non .non
  | bl (b : Bool) : Rep S μ H (.bl b) (.bl b)
  | int (i : Int) : Rep S μ H (.int i) (.int i)
  | str (z : Str) : Rep S μ H (.str z) (.str z)
  | ty (n : String) : Rep S μ H (.ty n) (.ty n)
  | ref {n : Nat} {a : Addr} (h : S.L[n]? = some a) : Rep S μ H (.ref n) (.ref a)
  | tup {xs : List D} {a : Addr} {vs : List V} (h : FrT S μ H a vs) (r : RepA S μ H xs vs) : Rep S μ H (.tup xs) (.ref a)
  | lst {xs : List D} {a : Addr} {vs : List V} (h : FrL S μ H a vs) (r : RepA S μ H xs vs) : Rep S μ H (.lst xs) (.ref a)
  | ktp {xs : List D} {a : Addr} {vs : List V} (h : SqT K (fun _ => none) a vs) (r : RepA S μ H xs vs) : Rep S μ H (.ktp xs) (.ref a)
  | scr {ns : List Int} {a : Addr} (h : FrS K S μ H a (ns.map V.int)) : Rep S μ H (.scr ns) (.ref a)
  | dcK {ks : List (D × D)} {a : Addr} {kvs : List (Key × V)} (h : H a = some (.dK kvs) ∧ ¬ live S μ a) (r : RepK S μ H ks kvs) : Rep S μ H (.dct false ks) (.ref a)
  | dcT {ks : List (D × D)} {a : Addr} {kvs : List (List Key × V)} (h : H a = some (.dT kvs) ∧ ¬ live S μ a) (r : RepT S μ H ks kvs) : Rep S μ H (.dct true ks) (.ref a)
  | adr (a : Addr) : Rep S μ H (.adr a) (.ref a)
inductive RepA (S : Pl) (μ : Mu) (H : Hp) : List D → List V → Prop
  | nil : RepA S μ H [] []
  | cons {d : D} {v : V} {ds : List D} {vs : List V} (h : Rep S μ H d v) (t : RepA S μ H ds vs) : RepA S μ H (d :: ds) (v :: vs)
inductive RepK (S : Pl) (μ : Mu) (H : Hp) : List (D × D) → List (Key × V) → Prop
  | nil : RepK S μ H [] []
  | cons {k d : D} {q : Key} {v : V} {ds : List (D × D)} {vs : List (Key × V)} (hk : IsKey k q) (h : Rep S μ H d v) (t : RepK S μ H ds vs) : RepK S μ H ((k, d) :: ds) ((q, v) :: vs)
inductive RepT (S : Pl) (μ : Mu) (H : Hp) : List (D × D) → List (List Key × V) → Prop
  | nil : RepT S μ H [] []
  | cons {k d : D} {q : List Key} {v : V} {ds : List (D × D)} {vs : List (List Key × V)} (hk : IsKeyT k q) (h : Rep S μ H d v) (t : RepT S μ H ds vs) : RepT S μ H ((k, d) :: ds) ((q, v) :: vs)
end

structure Ex (S : Pl) (μ : Mu) (H : Hp) (S' : Pl) (μ' : Mu) (H' : Hp) : Prop where
  L : ∃ more, S'.L = S.L ++ more
  hid : S'.hid = S.hid
  keep : ∀ a o, H a = some o → ¬ live S μ a → H' a = some o ∧ ¬ live S' μ' a
  hk : ∀ a ∈ S.hid, H' a = H a

/-- .. what is known of values stays -/
structure Ux (S : Pl) (μ : Mu) (H : Hp) (S' : Pl) (μ' : Mu) (H' : Hp) : Prop where
  L : ∃ more, S'.L = S.L ++ more
  keep : ∀ a o, H a = some o → ¬ live S μ a → H' a = some o ∧ ¬ live S' μ' a

/-- the object of the store at a -/
def MoOk (dk : Hp → Addr → Addr → Nat → Prop) (S : Pl) (μ : Mu) (H : Hp) (n : Nat) (a : Addr) : MO → Prop
  | .lst ds => ∃ vs, H a = some (.lst vs) ∧ RepA K S μ H ds vs
  | .deck t => ∃ c, S.L[n + 1]? = some c ∧ μ[n + 1]? = some .hid ∧ dk H a c t
  | .dct false ks => ∃ kvs, H a = some (.dK kvs) ∧ RepK K S μ H ks kvs
  | .dct true ks => ∃ kvs, H a = some (.dT kvs) ∧ RepT K S μ H ks kvs
  | .hid => True
  | .gone => True
structure Ok (dk : Hp → Addr → Addr → Nat → Prop) (S : Pl) (μ : Mu) (H : Hp) : Prop where
  len : S.L.length = μ.length
  nd : (S.L ++ S.hid).Nodup
  here : ∀ a, a ∈ S.L ++ S.hid → H a ≠ none
  at_ : ∀ (n : Nat) m a, μ[n]? = some m → S.L[n]? = some a → MoOk K dk S μ H n a m
end

section
variable {K : PySem.W.Frag} {S S1 S2 S' : Pl} {μ μ1 μ2 μ' : Mu} {H H1 H2 H' : Hp}
theorem Ex.refl : Ex S μ H S μ H := ⟨⟨[], by rw [List.append_nil]⟩, rfl, fun _ _ h n => ⟨h, n⟩, fun _ _ => rfl⟩
theorem Ex.trans (a : Ex S μ H S1 μ1 H1) (b : Ex S1 μ1 H1 S2 μ2 H2) : Ex S μ H S2 μ2 H2 := by
  refine ⟨?_, b.hid.trans a.hid, fun x o h n => ?_, fun x hx => ?_⟩
  · obtain ⟨m, e⟩ := a.L
    obtain ⟨m2, e2⟩ := b.L
    exact ⟨m ++ m2, by rw [e2, e, List.append_assoc]⟩
  · obtain ⟨h1, n1⟩ := a.keep x o h n
    exact b.keep x o h1 n1
  · exact (b.hk x (by rw [a.hid]; exact hx)).trans (a.hk x hx)
theorem Ex.ux (a : Ex S μ H S1 μ1 H1) : Ux S μ H S1 μ1 H1 := ⟨a.L, a.keep⟩
theorem Ux.trans (a : Ux S μ H S1 μ1 H1) (b : Ux S1 μ1 H1 S2 μ2 H2) : Ux S μ H S2 μ2 H2 := by
  refine ⟨?_, fun x o h n => ?_⟩
  · obtain ⟨m, e⟩ := a.L
    obtain ⟨m2, e2⟩ := b.L
    exact ⟨m ++ m2, by rw [e2, e, List.append_assoc]⟩
  · obtain ⟨h1, n1⟩ := a.keep x o h n
    exact b.keep x o h1 n1
theorem Ux.at (a : Ux S μ H S1 μ1 H1) {n : Nat} {x : Addr} (h : S.L[n]? = some x) : S1.L[n]? = some x := by
  obtain ⟨m, e⟩ := a.L
  rw [e, List.getElem?_append_left (List.getElem?_eq_some_iff.mp h).1]
  exact h
theorem Ux.rd (x : Ux S μ H S1 μ1 H1) {a : Addr} {u : HO} (h : Rd H a u ∧ ¬ live S μ a) : Rd H1 a u ∧ ¬ live S1 μ1 a := by
  rcases h with ⟨h | ⟨o, h⟩, n⟩
  · obtain ⟨h1, n1⟩ := x.keep _ _ h n
    exact ⟨.inl h1, n1⟩
  · obtain ⟨h1, n1⟩ := x.keep _ _ h n
    exact ⟨.inr ⟨o, h1⟩, n1⟩
theorem FrT.ux (x : Ux S μ H S1 μ1 H1) {a : Addr} {vs : List V} (h : FrT S μ H a vs) : FrT S1 μ1 H1 a vs := x.keep _ _ h.1 h.2
theorem FrL.ux (x : Ux S μ H S1 μ1 H1) {a : Addr} {vs : List V} (h : FrL S μ H a vs) : FrL S1 μ1 H1 a vs := x.keep _ _ h.1 h.2
theorem FrS.ux (x : Ux S μ H S1 μ1 H1) {a : Addr} {vs : List V} (h : FrS K S μ H a vs) : FrS K S1 μ1 H1 a vs := by
  rcases h with h | h
  · exact .inl (x.rd h)
  · exact .inr h
theorem FrT.sq {a : Addr} {vs : List V} (h : FrT S μ H a vs) : SqT K H a vs := .inl (.inl h.1)
theorem kt_sq {a : Addr} {vs : List V} (h : SqT K (fun _ => none) a vs) : SqT K H a vs := by
  rcases h with h | h
  · rcases h with h | ⟨_, h⟩ <;> cases h
  · exact .inr h
theorem FrL.sq {a : Addr} {vs : List V} (h : FrL S μ H a vs) : SqL K H a vs := .inl (.inl h.1)
theorem FrS.sq {a : Addr} {vs : List V} (h : FrS K S μ H a vs) : SqL K H a vs := by
  rcases h with ⟨h, _⟩ | (h | h)
  · exact .inl h
  · rcases h with h | ⟨_, h⟩ <;> cases h
  · exact .inr h
mutual
theorem Rep.ux (x : Ux S μ H S1 μ1 H1) : ∀ {d : D} {v : V}, Rep K S μ H d v → Rep K S1 μ1 H1 d v
  | _, _, .non => .non
  | _, _, .bl b => .bl b
  | _, _, .int i => .int i
  | _, _, .str z => .str z
  | _, _, .ty n => .ty n
  | _, _, .ref h => .ref (x.at h)
  | _, _, .tup h r => .tup (h.ux x) (RepA.ux x r)
  | _, _, .lst h r => .lst (h.ux x) (RepA.ux x r)
  | _, _, .ktp h r => .ktp h (RepA.ux x r)
  | _, _, .scr h => .scr (h.ux x)
  | _, _, .dcK h r => .dcK (x.keep _ _ h.1 h.2) (RepK.ux x r)
  | _, _, .dcT h r => .dcT (x.keep _ _ h.1 h.2) (RepT.ux x r)
  | _, _, .adr a => .adr a
theorem RepA.ux (x : Ux S μ H S1 μ1 H1) : ∀ {ds : List D} {vs : List V}, RepA K S μ H ds vs → RepA K S1 μ1 H1 ds vs
  | _, _, .nil => .nil
  | _, _, .cons h t => .cons (Rep.ux x h) (RepA.ux x t)
theorem RepK.ux (x : Ux S μ H S1 μ1 H1) : ∀ {ds : List (D × D)} {vs : List (Key × V)}, RepK K S μ H ds vs → RepK K S1 μ1 H1 ds vs
  | _, _, .nil => .nil
  | _, _, .cons k h t => .cons k (Rep.ux x h) (RepK.ux x t)
theorem RepT.ux (x : Ux S μ H S1 μ1 H1) : ∀ {ds : List (D × D)} {vs : List (List Key × V)}, RepT K S μ H ds vs → RepT K S1 μ1 H1 ds vs
  | _, _, .nil => .nil
  | _, _, .cons k h t => .cons k (Rep.ux x h) (RepT.ux x t)
end
theorem FrT.ex (x : Ex S μ H S1 μ1 H1) {a : Addr} {vs : List V} (h : FrT S μ H a vs) : FrT S1 μ1 H1 a vs := h.ux x.ux
theorem Rep.ex (x : Ex S μ H S1 μ1 H1) {d : D} {v : V} (h : Rep K S μ H d v) : Rep K S1 μ1 H1 d v := Rep.ux x.ux h
theorem RepA.ex (x : Ex S μ H S1 μ1 H1) {ds : List D} {vs : List V} (h : RepA K S μ H ds vs) : RepA K S1 μ1 H1 ds vs := RepA.ux x.ux h
theorem RepK.ex (x : Ex S μ H S1 μ1 H1) {ds : List (D × D)} {vs : List (Key × V)} (h : RepK K S μ H ds vs) : RepK K S1 μ1 H1 ds vs := RepK.ux x.ux h
theorem RepT.ex (x : Ex S μ H S1 μ1 H1) {ds : List (D × D)} {vs : List (List Key × V)} (h : RepT K S μ H ds vs) : RepT K S1 μ1 H1 ds vs := RepT.ux x.ux h
theorem Ex.at (a : Ex S μ H S1 μ1 H1) {n : Nat} {x : Addr} (h : S.L[n]? = some x) : S1.L[n]? = some x := a.ux.at h
theorem RepA.len {ds : List D} {vs : List V} (h : RepA K S μ H ds vs) : ds.length = vs.length := by
  induction ds generalizing vs with
  | nil => cases h; rfl
  | cons d ds ih =>
    cases h with
    | cons h t => rw [List.length_cons, List.length_cons, ih t]
theorem RepA.get {ds : List D} {vs : List V} (h : RepA K S μ H ds vs) : ∀ {i : Nat} {d : D}, ds[i]? = some d → ∃ v, vs[i]? = some v ∧ Rep K S μ H d v := by
  induction ds generalizing vs with
  | nil => intro i d e; cases e
  | cons d ds ih =>
    intro i x e
    cases h with
    | cons h t =>
      cases i with
      | zero => cases e; exact ⟨_, rfl, h⟩
      | succ i => exact ih t e
theorem RepA.app {ds es : List D} {vs ws : List V} (h : RepA K S μ H ds vs) (g : RepA K S μ H es ws) : RepA K S μ H (ds ++ es) (vs ++ ws) := by
  induction ds generalizing vs with
  | nil => cases h; exact g
  | cons d ds ih =>
    cases h with
    | cons h t => exact .cons h (ih t)
theorem RepA.of : ∀ {ds : List D} {vs : List V}, ds.length = vs.length → (∀ (i : Nat) d v, ds[i]? = some d → vs[i]? = some v → Rep K S μ H d v) → RepA K S μ H ds vs
  | [], [], _, _ => .nil
  | [], _ :: _, h, _ => by cases h
  | _ :: _, [], h, _ => by cases h
  | d :: ds, v :: vs, h, g => .cons (g 0 d v rfl rfl) (RepA.of (by simpa using h) fun i d v h1 h2 => g (i + 1) d v h1 h2)

/-! ### slots -/
abbrev DS := List (Option D)
structure RS (K : PySem.W.Frag) (S : Pl) (μ : Mu) (H : Hp) (ε : DS) (σ : L2.St) : Prop where
  len : ε.length = σ.length
  at_ : ∀ (i : Nat) d, ε[i]? = some (some d) → ∃ v, σ[i]? = some (some v) ∧ Rep K S μ H d v
theorem RS.ux (x : Ux S μ H S1 μ1 H1) {ε : DS} {σ : L2.St} (r : RS K S μ H ε σ) : RS K S1 μ1 H1 ε σ := ⟨r.len, fun i d e => by
  obtain ⟨v, h1, h2⟩ := r.at_ i d e
  exact ⟨v, h1, h2.ux x⟩⟩
theorem RS.ex (x : Ex S μ H S1 μ1 H1) {ε : DS} {σ : L2.St} (r : RS K S μ H ε σ) : RS K S1 μ1 H1 ε σ := r.ux x.ux
theorem RS.set {ε : DS} {σ : L2.St} (r : RS K S μ H ε σ) {d : D} {v : V} (i : Nat) (h : Rep K S μ H d v) : RS K S μ H (ε.set i (some d)) (σ.set i (some v)) := by
  refine ⟨by rw [List.length_set, List.length_set]; exact r.len, fun j e h1 => ?_⟩
  by_cases hj : i = j
  · subst hj
    have hl : i < ε.length := by
      have := (List.getElem?_eq_some_iff.mp h1).1
      rw [List.length_set] at this
      exact this
    rw [List.getElem?_set_self hl] at h1
    cases h1
    rw [List.getElem?_set_self (by rw [← r.len]; exact hl)]
    exact ⟨v, rfl, h⟩
  · rw [List.getElem?_set_ne hj] at h1
    rw [List.getElem?_set_ne hj]
    exact r.at_ j e h1
def wipeD (ε : DS) : List Nat → DS
  | [] => ε
  | v :: vs => (wipeD ε vs).set v none
theorem RS.forget {ε : DS} {σ : L2.St} (r : RS K S μ H ε σ) (i : Nat) : RS K S μ H (ε.set i none) (σ.set i none) := by
  refine ⟨by rw [List.length_set, List.length_set]; exact r.len, fun j e h1 => ?_⟩
  by_cases hj : i = j
  · subst hj
    have hl : i < ε.length := by
      have := (List.getElem?_eq_some_iff.mp h1).1
      rw [List.length_set] at this
      exact this
    rw [List.getElem?_set_self hl] at h1
    cases h1
  · rw [List.getElem?_set_ne hj] at h1
    rw [List.getElem?_set_ne hj]
    exact r.at_ j e h1
theorem RS.wipe {ε : DS} {σ : L2.St} (r : RS K S μ H ε σ) : ∀ vs : List Nat, RS K S μ H (wipeD ε vs) (wipe σ vs)
  | [] => r
  | v :: vs => (RS.wipe r vs).forget v
end
end DL

namespace DL
open PySem PySem.Spec PyProof.Rows L2 Kit

structure DK where
  p : Hp → Addr → Addr → Nat → Prop
  st : ∀ {H H' : Hp} {a c : Addr} {t : Nat}, H' a = H a → H' c = H c → p H a c t → p H' a c t
section
variable (K : PySem.W.Frag) (dk : DK)
def Post (S : Pl) (μ : Mu) (H : Hp) (Q : VK) : D → Mu → Prop := fun d μ' => ∀ v S' H', Ex S μ H S' μ' H' → Ok K dk.p S' μ' H' → Rep K S' μ' H' d v → Q v H'
def PostB (S : Pl) (μ : Mu) (H : Hp) (Q : Bool → Hp → Prop) : Bool → Mu → Prop := fun b μ' => ∀ S' H', Ex S μ H S' μ' H' → Ok K dk.p S' μ' H' → Q b H'
def PostA (S : Pl) (μ : Mu) (H : Hp) (Q : List V → Hp → Prop) : List D → Mu → Prop := fun ds μ' => ∀ vs S' H', Ex S μ H S' μ' H' → Ok K dk.p S' μ' H' → RepA K S' μ' H' ds vs → Q vs H'
/-- an exception's fields -/
def RepF (S : Pl) (μ : Mu) (H : Hp) (fs : List (Str × D)) (vs : List (Str × V)) : Prop := fs.map (·.1) = vs.map (·.1) ∧ RepA K S μ H (fs.map (·.2)) (vs.map (·.2))
def PostX (S : Pl) (μ : Mu) (H : Hp) (E : XK) : Exn → Mu → Prop := fun x μ' => ∀ d vs S' H', Ex S μ H S' μ' H' → Ok K dk.p S' μ' H' → H' d = some (.xd vs) → ¬ live S' μ' d → RepF K S' μ' H' x.fs vs → E (.ref x.C) (some d) H'
/-- .. wished at slots -/
def PostXs (S : Pl) (μ : Mu) (H : Hp) (w : WX) : Exn → Mu → Prop := fun x μ' => ∀ d vs S' H' σ, Ex S μ H S' μ' H' → Ok K dk.p S' μ' H' → H' d = some (.xd vs) → ¬ live S' μ' d → RepF K S' μ' H' x.fs vs → RS K S' μ' H' x.sl σ → w (.ref x.C) (some d) σ H'
structure LC where
  E : Exn → Mu → Prop
  lk : Pl → Mu → Hp → Prop
  x : WX
  up : ∀ {S S' : Pl} {μ μ' : Mu} {H H' : Hp}, lk S μ H → Ex S μ H S' μ' H' → lk S' μ' H'
  xl : ∀ {S : Pl} {μ μ' : Mu} {H : Hp} {e : Exn}, lk S μ H → E e μ' → PostXs K dk S μ H x e μ'
/-- within a comprehension -/
def cF : LC K dk := ⟨fun _ _ => False, fun _ _ _ => True, fun _ _ _ _ => False, fun _ _ => True.intro, fun _ h => h.elim⟩
inductive Fl where
  | nx (ε : DS) | rt (d : D) | bk (ε : DS) | ct (ε : DS)
def PostS (S : Pl) (μ : Mu) (H : Hp) (Dn : Ends) : Fl → Mu → Prop
  | .nx ε, μ' => ∀ σ S' H', Ex S μ H S' μ' H' → Ok K dk.p S' μ' H' → RS K S' μ' H' ε σ → Dn.nx σ H'
  | .rt d, μ' => ∀ v S' H', Ex S μ H S' μ' H' → Ok K dk.p S' μ' H' → Rep K S' μ' H' d v → Dn.rt v H'
  | .bk ε, μ' => ∀ σ S' H', Ex S μ H S' μ' H' → Ok K dk.p S' μ' H' → RS K S' μ' H' ε σ → Dn.bk σ H'
  | .ct ε, μ' => ∀ σ S' H', Ex S μ H S' μ' H' → Ok K dk.p S' μ' H' → RS K S' μ' H' ε σ → Dn.ct σ H'
def lowE (c : LC K dk) (f : DS → W D) : TE := fun σ H Q => ∃ ε S μ, c.lk S μ H ∧ Ok K dk.p S μ H ∧ RS K S μ H ε σ ∧ (f ε).run (Post K dk S μ H Q) c.E μ
def lowT (c : LC K dk) (f : DS → W Bool) : TT := fun σ H Q => ∃ ε S μ, c.lk S μ H ∧ Ok K dk.p S μ H ∧ RS K S μ H ε σ ∧ (f ε).run (PostB K dk S μ H Q) c.E μ
def lowA (c : LC K dk) (f : DS → W (List D)) : TA := fun σ H Q => ∃ ε S μ, c.lk S μ H ∧ Ok K dk.p S μ H ∧ RS K S μ H ε σ ∧ (f ε).run (PostA K dk S μ H Q) c.E μ
def lowS (c : LC K dk) (f : DS → W Fl) : TS := fun Dn σ H => ∃ ε S μ, c.lk S μ H ∧ Ok K dk.p S μ H ∧ RS K S μ H ε σ ∧ (f ε).run (PostS K dk S μ H Dn) c.E μ

/-- rules by values -/
def LR2 (r : R2) (g : D → D → W D) : Prop := ∀ {x y : V} {dx dy : D} {S : Pl} {μ : Mu} {H : Hp} {Q : VK} {E : Exn → Mu → Prop}, Ok K dk.p S μ H → Rep K S μ H dx x → Rep K S μ H dy y →
  (g dx dy).run (Post K dk S μ H Q) E μ → r x y H Q
def LR1 (r : V → Hp → VK → Prop) (g : D → W D) : Prop := ∀ {x : V} {dx : D} {S : Pl} {μ : Mu} {H : Hp} {Q : VK} {E : Exn → Mu → Prop}, Ok K dk.p S μ H → Rep K S μ H dx x →
  (g dx).run (Post K dk S μ H Q) E μ → r x H Q
def LRC (r : List V → Hp → VK → Prop) (g : List D → W D) : Prop := ∀ {xs : List V} {ds : List D} {S : Pl} {μ : Mu} {H : Hp} {Q : VK} {E : Exn → Mu → Prop}, Ok K dk.p S μ H → RepA K S μ H ds xs →
  (g ds).run (Post K dk S μ H Q) E μ → r xs H Q
end

section
variable {K : PySem.W.Frag} {dk : DK} {S S1 S' : Pl} {μ μ1 μ' : Mu} {H H1 H' : Hp} {Q : VK}
theorem Post.ex (x : Ex S μ H S1 μ1 H1) {d : D} (h : Post K dk S μ H Q d μ') : Post K dk S1 μ1 H1 Q d μ' := fun v S' H' e => h v S' H' (x.trans e)
theorem PostB.ex {Q : Bool → Hp → Prop} (x : Ex S μ H S1 μ1 H1) {d : Bool} (h : PostB K dk S μ H Q d μ') : PostB K dk S1 μ1 H1 Q d μ' := fun S' H' e => h S' H' (x.trans e)
theorem PostA.ex {Q : List V → Hp → Prop} (x : Ex S μ H S1 μ1 H1) {d : List D} (h : PostA K dk S μ H Q d μ') : PostA K dk S1 μ1 H1 Q d μ' := fun v S' H' e => h v S' H' (x.trans e)
theorem PostS.ex {Dn : Ends} (x : Ex S μ H S1 μ1 H1) {fl : Fl} (h : PostS K dk S μ H Dn fl μ') : PostS K dk S1 μ1 H1 Dn fl μ' := by
  cases fl with
  | nx ε => exact fun σ S' H' e => h σ S' H' (x.trans e)
  | rt d => exact fun v S' H' e => h v S' H' (x.trans e)
  | bk ε => exact fun σ S' H' e => h σ S' H' (x.trans e)
  | ct ε => exact fun σ S' H' e => h σ S' H' (x.trans e)
theorem PostX.ex {E : XK} (x : Ex S μ H S1 μ1 H1) {e : Exn} (h : PostX K dk S μ H E e μ') : PostX K dk S1 μ1 H1 E e μ' := fun d vs S' H' ex => h d vs S' H' (x.trans ex)
theorem W.up {α : Type} {m : W α} {Q Q' : α → Mu → Prop} {E : Exn → Mu → Prop} (r : m.run Q E μ) (h : ∀ a μ', Q a μ' → Q' a μ') : m.run Q' E μ := m.mono h (fun _ _ z => z) r

/-! ### a new object -/
theorem Ok.fresh (ok : Ok K dk.p S μ H) {p : Addr} (hp : H p = none) : p ∉ S.L ++ S.hid := fun h => ok.here p h hp
theorem Ok.dead (ok : Ok K dk.p S μ H) {p : Addr} (hp : H p = none) : ¬ live S μ p := by
  have h := ok.fresh hp
  rintro (z | ⟨n, m, e, _⟩)
  · exact h (List.mem_append_right _ z)
  · exact h (List.mem_append_left _ (List.mem_of_getElem? e))
theorem new_ex (ok : Ok K dk.p S μ H) {p : Addr} {o : HO} (hp : H p = none) : Ex S μ H S μ (upd H p o) := by
  refine ⟨⟨[], by rw [List.append_nil]⟩, rfl, fun a u h n => ⟨?_, n⟩, fun a ha => ?_⟩
  · rw [upd_ne (ne_of_none h hp)]
    exact h
  · rw [upd_ne]
    rintro rfl
    exact ok.fresh hp (List.mem_append_right _ ha)
theorem mo_ux {n : Nat} {a : Addr} {m : MO} (h : MoOk K dk.p S μ H n a m) (x : Ux S μ H S1 μ1 H1) (e : H1 a = H a) (ec : ∀ c, S.L[n + 1]? = some c → H1 c = H c) (em : μ[n + 1]? = some .hid → μ1[n + 1]? = some .hid) : MoOk K dk.p S1 μ1 H1 n a m := by
  cases m with
  | lst ds =>
    obtain ⟨vs, h1, h2⟩ := h
    exact ⟨vs, e.trans h1, h2.ux x⟩
  | deck t =>
    obtain ⟨c, h1, h2, h3⟩ := h
    exact ⟨c, x.at h1, em h2, dk.st e (ec c h1) h3⟩
  | dct b ks =>
    cases b with
    | false =>
      obtain ⟨kvs, h1, h2⟩ := h
      exact ⟨kvs, e.trans h1, h2.ux x⟩
    | true =>
      obtain ⟨kvs, h1, h2⟩ := h
      exact ⟨kvs, e.trans h1, h2.ux x⟩
  | hid => exact True.intro
  | gone => exact True.intro
theorem mo_ex {n : Nat} {a : Addr} {m : MO} (h : MoOk K dk.p S μ H n a m) (x : Ex S μ H S1 μ1 H1) (e : H1 a = H a) (ec : ∀ c, S.L[n + 1]? = some c → H1 c = H c) (em : μ[n + 1]? = some .hid → μ1[n + 1]? = some .hid) : MoOk K dk.p S1 μ1 H1 n a m := mo_ux h x.ux e ec em
theorem new_ok (ok : Ok K dk.p S μ H) {p : Addr} {o : HO} (hp : H p = none) : Ok K dk.p S μ (upd H p o) := by
  have ne : ∀ a, a ∈ S.L ++ S.hid → a ≠ p := fun a ha z => ok.fresh hp (z ▸ ha)
  refine ⟨ok.len, ok.nd, fun a ha => ?_, fun n m a e1 e2 => ?_⟩
  · rw [upd_ne (ne a ha)]
    exact ok.here a ha
  · refine mo_ex (ok.at_ n m a e1 e2) (new_ex ok hp) (upd_ne (ne a (List.mem_append_left _ (List.mem_of_getElem? e2)))) (fun c hc => upd_ne (ne c (List.mem_append_left _ (List.mem_of_getElem? hc)))) (fun z => z)
theorem new_tup (ok : Ok K dk.p S μ H) {p : Addr} {ds : List D} {vs : List V} (hp : H p = none) (r : RepA K S μ H ds vs) : Rep K S μ (upd H p (.tup vs)) (.tup ds) (.ref p) :=
  .tup ⟨upd_same, ok.dead hp⟩ (r.ex (new_ex ok hp))
theorem new_lst (ok : Ok K dk.p S μ H) {p : Addr} {ds : List D} {vs : List V} (hp : H p = none) (r : RepA K S μ H ds vs) : Rep K S μ (upd H p (.lst vs)) (.lst ds) (.ref p) :=
  .lst ⟨upd_same, ok.dead hp⟩ (r.ex (new_ex ok hp))

/-! ### slots, constants -/
def slot : DS → Nat → Option D
  | [], _ => none
  | x :: _, 0 => x
  | _ :: xs, n + 1 => slot xs n
theorem slot_eq : ∀ {ε : DS} {i : Nat} {d : D}, slot ε i = some d → ε[i]? = some (some d)
  | _ :: _, 0, _, h => by
    exact congrArg some h
  | _ :: xs, n + 1, _, h => by
    rw [List.getElem?_cons_succ]
    exact slot_eq h
  | [], 0, _, h => by cases h
  | [], n + 1, _, h => by cases h
def dV (i : Nat) : DS → W D := fun ε => W.opt (slot ε i)
def dC (d : D) : DS → W D := fun _ => W.ret d
end
section
variable {X : Cx} {dk : DK} {c : LC X.K dk} {e a b : Expr} {es : List Expr} {te : TE} {f fa fb : DS → W D} {pos p : Pos}
theorem pe_w (h : PE X e te) (w : ∀ σ H Q, lowE X.K dk c f σ H Q → te σ H Q) : PE X e (lowE X.K dk c f) := ⟨fun pins s σ H Q I q => h.run pins s σ H Q I (w σ H Q q)⟩
theorem pt_w {tt : TT} {f : DS → W Bool} (h : PT X e tt) (w : ∀ σ H Q, lowT X.K dk c f σ H Q → tt σ H Q) : PT X e (lowT X.K dk c f) := ⟨fun pins s σ H Q I q => h.run pins s σ H Q I (w σ H Q q)⟩
theorem pw_w {tt : TT} {f : DS → W Bool} (h : PW X e tt) (w : ∀ σ H Q, lowT X.K dk c f σ H Q → tt σ H Q) : PW X e (lowT X.K dk c f) := ⟨fun wh pins s σ H Q I q => h.run wh pins s σ H Q I (w σ H Q q)⟩
theorem pa_w {ta : TA} {f : DS → W (List D)} (h : PA X es ta) (w : ∀ σ H Q, lowA X.K dk c f σ H Q → ta σ H Q) : PA X es (lowA X.K dk c f) := ⟨fun pos pins s σ H Q I q => h.run pos pins s σ H Q I (w σ H Q q)⟩
theorem pk_w {kws : List Keyword} {ta : TA} {f : DS → W (List D)} (h : PK X kws ta) (w : ∀ σ H Q, lowA X.K dk c f σ H Q → ta σ H Q) : PK X kws (lowA X.K dk c f) := ⟨fun _ pins s σ H Q I q => h.run _ pins s σ H Q I (w σ H Q q)⟩
theorem ps_w {st : Stmt} {ts : TS} {f : DS → W Fl} (h : PS X st ts) (w : ∀ Dn σ H, lowS X.K dk c f Dn σ H → ts Dn σ H) : PS X st (lowS X.K dk c f) := ⟨fun pins s σ H Dn I q => h.run pins s σ H Dn I (w Dn σ H q)⟩
theorem pss_w {st : List Stmt} {ts : TS} {f : DS → W Fl} (h : PSs X st ts) (w : ∀ Dn σ H, lowS X.K dk c f Dn σ H → ts Dn σ H) : PSs X st (lowS X.K dk c f) := ⟨fun pins s σ H Dn I q => h.run pins s σ H Dn I (w Dn σ H q)⟩

theorem de_v {i : Nat} {x : Str} (hN : X.N[i]? = some x) (hv : Vis X.env.scope x) (hd : (x == ("__debug__" : Str)) = false := by decide) (hcd : (x == ("__classdict__" : Str)) = false := by decide) : PE X (.Name x p) (lowE X.K dk c (dV i)) :=
  pe_w (pe_var hN hv hd hcd) fun σ H Q ⟨ε, S, μ, lk, ok, rs, q⟩ => by
    unfold dV at q
    cases hs : slot ε i with
    | none => rw [hs] at q; exact False.elim q
    | some d =>
      rw [hs] at q
      obtain ⟨v, h1, h2⟩ := rs.at_ i d (slot_eq hs)
      exact ⟨v, h1, q v S H Ex.refl ok h2⟩
theorem low_c {d : D} {v : V} (hd : ∀ {S : Pl} {μ : Mu} {H : Hp}, Rep X.K S μ H d v) {σ : L2.St} {H : Hp} {Q : VK} (q : lowE X.K dk c (dC d) σ H Q) : Q v H :=
  let ⟨_, S, _, _, ok, _, q⟩ := q
  q v S H Ex.refl ok hd
theorem de_int {i j pos} : PE X (.Constant (.int i) j pos) (lowE X.K dk c (dC (.int i))) := pe_w pe_int fun _ _ _ q => low_c (.int i) q
theorem de_bl {b j pos} : PE X (.Constant (.bool b) j pos) (lowE X.K dk c (dC (.bl b))) := pe_w pe_bl fun _ _ _ q => low_c (.bl b) q
theorem de_non {j pos} : PE X (.Constant .none j pos) (lowE X.K dk c (dC .non)) := pe_w pe_non fun _ _ _ q => low_c .non q
theorem de_str {x j pos} : PE X (.Constant (.str x) j pos) (lowE X.K dk c (dC (.str x))) := pe_w pe_str fun _ _ _ q => low_c (.str x) q
/-- a module's constant -/
theorem de_g {d : D} {v : V} (h : PE X e (tC v)) (hd : ∀ {S : Pl} {μ : Mu} {H : Hp}, Rep X.K S μ H d v) : PE X e (lowE X.K dk c (dC d)) := pe_w h fun _ _ _ q => low_c hd q

/-! ### operators -/
def dOp (g : D → D → W D) (fa fb : DS → W D) : DS → W D := fun ε => W.bnd (fa ε) fun x => W.bnd (fb ε) fun y => g x y
def dUn (g : D → W D) (fa : DS → W D) : DS → W D := fun ε => W.bnd (fa ε) g
theorem low_op {r : R2} {g : D → D → W D} (l : LR2 X.K dk r g) {σ : L2.St} {H : Hp} {Q : VK} (q : lowE X.K dk c (dOp g fa fb) σ H Q) : tOp r (lowE X.K dk c fa) (lowE X.K dk c fb) σ H Q := by
  obtain ⟨ε, S, μ, lk, ok, rs, run⟩ := q
  refine ⟨ε, S, μ, lk, ok, rs, W.up run fun dx μ1 run1 x S1 H1 ex1 ok1 rep1 => ?_⟩
  refine ⟨ε, S1, μ1, c.up lk ex1, ok1, rs.ex ex1, W.up run1 fun dy μ2 run2 y S2 H2 ex2 ok2 rep2 => ?_⟩
  exact l ok2 (rep1.ex ex2) rep2 (W.up run2 fun d μ' q => q.ex (ex1.trans ex2))
theorem low_un {r : V → Hp → VK → Prop} {g : D → W D} (l : LR1 X.K dk r g) {σ : L2.St} {H : Hp} {Q : VK} (q : lowE X.K dk c (dUn g fa) σ H Q) : tUn r (lowE X.K dk c fa) σ H Q := by
  obtain ⟨ε, S, μ, lk, ok, rs, run⟩ := q
  refine ⟨ε, S, μ, lk, ok, rs, W.up run fun dx μ1 run1 x S1 H1 ex1 ok1 rep1 => ?_⟩
  exact l ok1 rep1 (W.up run1 fun d μ' q => q.ex ex1)
theorem de_op {op : Operator} {r : R2} {g : D → D → W D} (ho : OpR X (binaryOp op) r) (l : LR2 X.K dk r g) (ha : PE X a (lowE X.K dk c fa)) (hb : PE X b (lowE X.K dk c fb)) :
    PE X (.BinOp a op b pos) (lowE X.K dk c (dOp g fa fb)) := pe_w (pe_op ho ha hb) fun _ _ _ q => low_op l q
theorem de_un {op : UnaryOp} {r : V → Hp → VK → Prop} {g : D → W D} (ho : UnR X (unaryOp op) r) (l : LR1 X.K dk r g) (ha : PE X a (lowE X.K dk c fa)) :
    PE X (.UnaryOp op a pos) (lowE X.K dk c (dUn g fa)) := pe_w (pe_un ho ha) fun _ _ _ q => low_un l q
theorem de_cmp {op : CmpOp} {r : R2} {g : D → D → W D} (ho : OpR X (compareOp op) r) (l : LR2 X.K dk r g) (ha : PE X a (lowE X.K dk c fa)) (hb : PE X b (lowE X.K dk c fb)) (hm : behindInMarks op b = false) :
    PE X (.Compare a [op] [b] pos) (lowE X.K dk c (dOp g fa fb)) := pe_w (pe_cmpR ho ha hb hm) fun _ _ _ q => low_op l q
theorem de_ix {r : R2} {g : D → D → W D} (hr : IxR X r) (l : LR2 X.K dk r g) (ha : PE X a (lowE X.K dk c fa)) (hb : PE X b (lowE X.K dk c fb)) (hs : PlainIx b) :
    PE X (.Subscript a b pos) (lowE X.K dk c (dOp g fa fb)) := pe_w (pe_ix hr ha hb hs) fun _ _ _ q => low_op l q

/-! ### tests -/
/-- a value that is a truth -/
def asB : D → W Bool
  | .bl b => W.ret b
  | _ => W.fail
def dB (f : DS → W D) : DS → W Bool := fun ε => W.bnd (f ε) asB
theorem low_b {σ : L2.St} {H : Hp} {Q : Bool → Hp → Prop} (q : lowT X.K dk c (dB f) σ H Q) : lowE X.K dk c f σ H fun x H1 => ∃ k, x = .bl k ∧ Q k H1 := by
  obtain ⟨ε, S, μ, lk, ok, rs, run⟩ := q
  refine ⟨ε, S, μ, lk, ok, rs, W.up run fun dx μ1 run1 x S1 H1 ex1 ok1 rep1 => ?_⟩
  cases dx with
  | bl k =>
    cases rep1
    exact ⟨k, rfl, run1 S1 H1 ex1 ok1⟩
  | _ => exact run1.elim
theorem dt_val (h : PE X e (lowE X.K dk c f)) (he : ∀ whole, isTrue e X.env whole = (do let v ← whole; standAt e.pos; holding [v] (truthy v)) := by intro _; rfl) : PT X e (lowT X.K dk c (dB f)) :=
  pt_w (pt_val h he) fun _ _ _ q => low_b q
theorem dt_cmp {op : CmpOp} {r : R2} {g : D → D → W D} (ho : OpR X (compareOp op) r) (l : LR2 X.K dk r g) (ha : PE X a (lowE X.K dk c fa)) (hb : PE X b (lowE X.K dk c fb)) (hm : behindInMarks op b = false) :
    PT X (.Compare a [op] [b] pos) (lowT X.K dk c (dB (dOp g fa fb))) := pt_w (pt_cmpR ho ha hb hm) fun _ _ _ q => by
  obtain ⟨ε, S, μ, lk, ok, rs, run⟩ := q
  refine low_op l ⟨ε, S, μ, lk, ok, rs, W.up run fun dx μ1 run1 x S1 H1 ex1 ok1 rep1 => ?_⟩
  cases dx with
  | bl k =>
    cases rep1
    exact ⟨k, rfl, run1 S1 H1 ex1 ok1⟩
  | _ => exact run1.elim
variable {t u : DS → W Bool}
def dAnd (t u : DS → W Bool) : DS → W Bool := fun ε => W.bnd (t ε) fun b => if b = true then u ε else W.ret false
def dOr (t u : DS → W Bool) : DS → W Bool := fun ε => W.bnd (t ε) fun b => if b = true then W.ret true else u ε
def dNot (t : DS → W Bool) : DS → W Bool := fun ε => W.bnd (t ε) fun b => W.ret (!b)
def dTrue : DS → W Bool := fun _ => W.ret true
theorem low_bnd {α β : Type} {m : DS → W Bool} {k : Bool → W Bool} {σ : L2.St} {H : Hp} {Q : Bool → Hp → Prop} (q : lowT X.K dk c (fun ε => W.bnd (m ε) k) σ H Q) :
    lowT X.K dk c m σ H fun b H1 => ∃ ε S μ, c.lk S μ H1 ∧ Ok X.K dk.p S μ H1 ∧ RS X.K S μ H1 ε σ ∧ (k b).run (PostB X.K dk S μ H1 Q) c.E μ := by
  obtain ⟨ε, S, μ, lk, ok, rs, run⟩ := q
  refine ⟨ε, S, μ, lk, ok, rs, W.up run fun b μ1 run1 S1 H1 ex1 ok1 => ?_⟩
  exact ⟨ε, S1, μ1, c.up lk ex1, ok1, rs.ex ex1, W.up run1 fun _ _ q => q.ex ex1⟩
theorem dw_and1 (ha : PT X a (lowT X.K dk c t)) : PW X (.BoolOp .And [a] pos) (lowT X.K dk c t) := pw_and1 ha
theorem dw_or1 (ha : PT X a (lowT X.K dk c t)) : PW X (.BoolOp .Or [a] pos) (lowT X.K dk c t) := pw_or1 ha
variable {rest : List Expr}
theorem dw_and (ha : PT X a (lowT X.K dk c t)) (hb : PW X (.BoolOp .And (b :: rest) pos) (lowT X.K dk c u)) : PW X (.BoolOp .And (a :: b :: rest) pos) (lowT X.K dk c (dAnd t u)) :=
  pw_w (pw_and ha hb) fun σ H Q ⟨ε, S, μ, lk, ok, rs, run⟩ => by
    refine ⟨ε, S, μ, lk, ok, rs, W.up run fun b μ1 run1 S1 H1 ex1 ok1 => ?_⟩
    cases b with
    | true => exact ⟨ε, S1, μ1, c.up lk ex1, ok1, rs.ex ex1, W.up run1 fun _ _ q => q.ex ex1⟩
    | false => exact run1 S1 H1 ex1 ok1
theorem dw_or (ha : PT X a (lowT X.K dk c t)) (hb : PW X (.BoolOp .Or (b :: rest) pos) (lowT X.K dk c u)) : PW X (.BoolOp .Or (a :: b :: rest) pos) (lowT X.K dk c (dOr t u)) :=
  pw_w (pw_or ha hb) fun σ H Q ⟨ε, S, μ, lk, ok, rs, run⟩ => by
    refine ⟨ε, S, μ, lk, ok, rs, W.up run fun b μ1 run1 S1 H1 ex1 ok1 => ?_⟩
    cases b with
    | false => exact ⟨ε, S1, μ1, c.up lk ex1, ok1, rs.ex ex1, W.up run1 fun _ _ q => q.ex ex1⟩
    | true => exact run1 S1 H1 ex1 ok1
theorem dt_not (ha : PT X a (lowT X.K dk c t)) : PT X (.UnaryOp .Not a pos) (lowT X.K dk c (dNot t)) :=
  pt_w (pt_not ha) fun σ H Q ⟨ε, S, μ, lk, ok, rs, run⟩ => ⟨ε, S, μ, lk, ok, rs, W.up run fun b μ1 run1 S1 H1 ex1 ok1 => run1 S1 H1 ex1 ok1⟩
/-- as values -/
def dAndV (f g : DS → W D) : DS → W D := fun ε => W.bnd (f ε) fun d => W.bnd (asB d) fun b => if b = true then g ε else W.ret (.bl false)
def dOrV (f g : DS → W D) : DS → W D := fun ε => W.bnd (f ε) fun d => W.bnd (asB d) fun b => if b = true then W.ret (.bl true) else g ε
def dNotV (f : DS → W D) : DS → W D := fun ε => W.bnd (f ε) fun d => W.bnd (asB d) fun b => W.ret (.bl (!b))
theorem de_and (ha : PE X a (lowE X.K dk c fa)) (hb : PE X (.BoolOp .And (b :: rest) pos) (lowE X.K dk c fb)) : PE X (.BoolOp .And (a :: b :: rest) pos) (lowE X.K dk c (dAndV fa fb)) :=
  pe_w (pe_and ha hb) fun σ H Q ⟨ε, S, μ, lk, ok, rs, run⟩ => by
    refine ⟨ε, S, μ, lk, ok, rs, W.up run fun d μ1 run1 x S1 H1 ex1 ok1 rep1 => ?_⟩
    cases d with
    | bl b =>
      cases rep1
      refine ⟨b, rfl, ?_⟩
      cases b with
      | true => exact ⟨ε, S1, μ1, c.up lk ex1, ok1, rs.ex ex1, W.up run1 fun _ _ q => q.ex ex1⟩
      | false => exact run1 _ S1 H1 ex1 ok1 (.bl false)
    | _ => exact run1.elim
theorem de_or (ha : PE X a (lowE X.K dk c fa)) (hb : PE X (.BoolOp .Or (b :: rest) pos) (lowE X.K dk c fb)) : PE X (.BoolOp .Or (a :: b :: rest) pos) (lowE X.K dk c (dOrV fa fb)) :=
  pe_w (pe_or ha hb) fun σ H Q ⟨ε, S, μ, lk, ok, rs, run⟩ => by
    refine ⟨ε, S, μ, lk, ok, rs, W.up run fun d μ1 run1 x S1 H1 ex1 ok1 rep1 => ?_⟩
    cases d with
    | bl b =>
      cases rep1
      refine ⟨b, rfl, ?_⟩
      cases b with
      | false => exact ⟨ε, S1, μ1, c.up lk ex1, ok1, rs.ex ex1, W.up run1 fun _ _ q => q.ex ex1⟩
      | true => exact run1 _ S1 H1 ex1 ok1 (.bl true)
    | _ => exact run1.elim
theorem de_not (ha : PE X a (lowE X.K dk c fa)) : PE X (.UnaryOp .Not a pos) (lowE X.K dk c (dNotV fa)) :=
  pe_w (pe_not ha) fun σ H Q ⟨ε, S, μ, lk, ok, rs, run⟩ => by
    refine ⟨ε, S, μ, lk, ok, rs, W.up run fun d μ1 run1 x S1 H1 ex1 ok1 rep1 => ?_⟩
    cases d with
    | bl b =>
      cases rep1
      exact ⟨b, rfl, run1 _ S1 H1 ex1 ok1 (.bl (!b))⟩
    | _ => exact run1.elim
theorem de_one {op} (h : PE X a (lowE X.K dk c f)) : PE X (.BoolOp op [a] pos) (lowE X.K dk c f) := pe_one h
def dIfE (t : DS → W Bool) (f g : DS → W D) : DS → W D := fun ε => W.bnd (t ε) fun b => if b = true then f ε else g ε
theorem de_if {x : Expr} (hc : PT X x (lowT X.K dk c t)) (ha : PE X a (lowE X.K dk c fa)) (hb : PE X b (lowE X.K dk c fb)) : PE X (.IfExp x a b pos) (lowE X.K dk c (dIfE t fa fb)) :=
  pe_w (pe_ifExp hc ha hb) fun σ H Q ⟨ε, S, μ, lk, ok, rs, run⟩ => by
    refine ⟨ε, S, μ, lk, ok, rs, W.up run fun b μ1 run1 S1 H1 ex1 ok1 => ?_⟩
    cases b with
    | true => exact ⟨ε, S1, μ1, c.up lk ex1, ok1, rs.ex ex1, W.up run1 fun _ _ q => q.ex ex1⟩
    | false => exact ⟨ε, S1, μ1, c.up lk ex1, ok1, rs.ex ex1, W.up run1 fun _ _ q => q.ex ex1⟩

/-! ### arguments, tuples, lists -/
def aNil : DS → W (List D) := fun _ => W.ret []
def aCons (f : DS → W D) (g : DS → W (List D)) : DS → W (List D) := fun ε => W.bnd (f ε) fun d => W.bnd (g ε) fun ds => W.ret (d :: ds)
variable {g : DS → W (List D)}
theorem low_nil {σ : L2.St} {H : Hp} {Q : List V → Hp → Prop} (q : lowA X.K dk c aNil σ H Q) : tNil σ H Q :=
  let ⟨_, S, _, _, ok, _, q⟩ := q
  q [] S H Ex.refl ok .nil
theorem low_cons {σ : L2.St} {H : Hp} {Q : List V → Hp → Prop} (q : lowA X.K dk c (aCons f g) σ H Q) : tCons (lowE X.K dk c f) (lowA X.K dk c g) σ H Q := by
  obtain ⟨ε, S, μ, lk, ok, rs, run⟩ := q
  refine ⟨ε, S, μ, lk, ok, rs, W.up run fun d μ1 run1 x S1 H1 ex1 ok1 rep1 => ?_⟩
  refine ⟨ε, S1, μ1, c.up lk ex1, ok1, rs.ex ex1, W.up run1 fun ds μ2 run2 xs S2 H2 ex2 ok2 rep2 => ?_⟩
  exact run2 (x :: xs) S2 H2 (ex1.trans ex2) ok2 (.cons (rep1.ex ex2) rep2)
theorem da_nil : PA X [] (lowA X.K dk c aNil) := pa_w pa_nil fun _ _ _ q => low_nil q
theorem da_cons (ha : PE X e (lowE X.K dk c f)) (hr : PA X es (lowA X.K dk c g)) (hs : starEach (e :: es) X.env = (false, eval e X.env) :: starEach es X.env := by rfl) : PA X (e :: es) (lowA X.K dk c (aCons f g)) :=
  pa_w (pa_cons ha hr hs) fun _ _ _ q => low_cons q
theorem dk_nil : PK X [] (lowA X.K dk c aNil) := pk_w pk_nil fun _ _ _ q => low_nil q
theorem dk_cons {nm : Option Str} {kpos : Pos} {kws : List Keyword} (ha : PE X e (lowE X.K dk c f)) (hr : PK X kws (lowA X.K dk c g)) : PK X (⟨nm, e, kpos⟩ :: kws) (lowA X.K dk c (aCons f g)) :=
  pk_w (pk_cons ha hr) fun _ _ _ q => low_cons q
def dTup (g : DS → W (List D)) : DS → W D := fun ε => W.bnd (g ε) fun ds => W.chk (ds.length ≤ sizeLine) (W.ret (.tup ds))
def dLst (g : DS → W (List D)) : DS → W D := fun ε => W.bnd (g ε) fun ds => W.chk (ds.length ≤ sizeLine) (W.ret (.lst ds))
theorem de_tup {x1} (h : PA X es (lowA X.K dk c g)) : PE X (.Tuple es x1 pos) (lowE X.K dk c (dTup g)) :=
  pe_w (pe_tup h) fun σ H Q ⟨ε, S, μ, lk, ok, rs, run⟩ => by
    refine ⟨ε, S, μ, lk, ok, rs, W.up run fun ds μ1 run1 xs S1 H1 ex1 ok1 rep1 => ⟨rep1.len ▸ run1.1, fun p hp => ?_⟩⟩
    exact run1.2 (.ref p) S1 _ (ex1.trans (new_ex ok1 hp)) (new_ok ok1 hp) (new_tup ok1 hp rep1)
theorem de_lst (h : PA X es (lowA X.K dk c g)) : PE X (.List es pos) (lowE X.K dk c (dLst g)) :=
  pe_w (pe_lst h) fun σ H Q ⟨ε, S, μ, lk, ok, rs, run⟩ => by
    refine ⟨ε, S, μ, lk, ok, rs, W.up run fun ds μ1 run1 xs S1 H1 ex1 ok1 rep1 => ⟨rep1.len ▸ run1.1, fun p hp => ?_⟩⟩
    exact run1.2 (.ref p) S1 _ (ex1.trans (new_ex ok1 hp)) (new_ok ok1 hp) (new_lst ok1 hp rep1)

/-! ### calls of what the machine brings -/
def dCall (g : List D → W D) (fa : DS → W (List D)) : DS → W D := fun ε => W.bnd (fa ε) g
variable {fs : DS → W (List D)}
theorem low_call {r : List V → Hp → VK → Prop} {g : List D → W D} (l : LRC X.K dk r g) {σ : L2.St} {H : Hp} {Q : VK} (q : lowE X.K dk c (dCall g fs) σ H Q) : tCB r (lowA X.K dk c fs) σ H Q := by
  obtain ⟨ε, S, μ, lk, ok, rs, run⟩ := q
  refine ⟨ε, S, μ, lk, ok, rs, W.up run fun ds μ1 run1 xs S1 H1 ex1 ok1 rep1 => ?_⟩
  exact l ok1 rep1 (W.up run1 fun d μ' q => q.ex ex1)
theorem de_callB {x : Str} {id : String} {r : List V → Hp → VK → Prop} {g : List D → W D} (hc : CallR X (.builtin id) r) (l : LRC X.K dk r g) (hg : Gl X x) (hm : X.mg x = none) (hv : bootBuiltins x = some (.builtin id))
    (ha : PA X (e :: es) (lowA X.K dk c fs)) (hn : x ≠ "__name__" := by decide) (hdb : (x == ("__debug__" : Str)) = false := by decide)
    (he : starEach (e :: es) X.env = (false, eval e X.env) :: starEach es X.env := by rfl) (hpl : (backTo pos (starEach es X.env)).any (·.1) = false := by rfl) :
    PE X (.Call (.Name x p) (e :: es) [] pos) (lowE X.K dk c (dCall g fs)) := pe_w (pe_callB hc hg hm hv ha hn hdb he hpl) fun _ _ _ q => low_call l q
theorem de_callTy {x : Str} {T : String} {r : List V → Hp → VK → Prop} {g : List D → W D} (hc : CallR X (.type T) r) (l : LRC X.K dk r g) (hg : Gl X x) (hm : X.mg x = none) (hv : bootBuiltins x = some (.type T))
    (ha : PA X (e :: es) (lowA X.K dk c fs)) (hn : x ≠ "__name__" := by decide) (hdb : (x == ("__debug__" : Str)) = false := by decide)
    (he : starEach (e :: es) X.env = (false, eval e X.env) :: starEach es X.env := by rfl) (hpl : (backTo pos (starEach es X.env)).any (·.1) = false := by rfl) :
    PE X (.Call (.Name x p) (e :: es) [] pos) (lowE X.K dk c (dCall g fs)) := pe_w (pe_callTy hc hg hm hv ha hn hdb he hpl) fun _ _ _ q => low_call l q
end
end DL

namespace DL
open PySem PySem.Spec PyProof.Rows L2 Kit

/-! ### statements -/
def sNx (ε : DS) : W Fl := W.ret (.nx ε)
def sSet (i : Nat) (f : DS → W D) : DS → W Fl := fun ε => W.bnd (f ε) fun d => W.ret (.nx (ε.set i (some d)))
def sRet (f : DS → W D) : DS → W Fl := fun ε => W.bnd (f ε) fun d => W.ret (.rt d)
def sRetN : DS → W Fl := fun _ => W.ret (.rt .non)
def sExpr (f : DS → W D) : DS → W Fl := fun ε => W.bnd (f ε) fun _ => W.ret (.nx ε)
def sNil : DS → W Fl := fun ε => W.ret (.nx ε)
def sBrk : DS → W Fl := fun ε => W.ret (.bk ε)
def sCt : DS → W Fl := fun ε => W.ret (.ct ε)
def sNever : DS → W Fl := fun _ => W.fail
def andThen (g : DS → W Fl) : Fl → W Fl
  | .nx ε => g ε
  | x => W.ret x
def sSeq (f g : DS → W Fl) : DS → W Fl := fun ε => W.bnd (f ε) (andThen g)
def sIf (t : DS → W Bool) (f g : DS → W Fl) : DS → W Fl := fun ε => W.bnd (t ε) fun b => if b = true then f ε else g ε
/-- a target's reading, by data -/
def LG (K : PySem.W.Frag) (g : TG) (vs : List Nat) (dg : D → DS → Option DS) : Prop := ∀ {v : V} {d : D} {ε ε' : DS} {σ : L2.St} {S : Pl} {μ : Mu} {H : Hp} {Q : L2.St → Hp → Prop},
  Rep K S μ H d v → RS K S μ H ε σ → dg d ε = some ε' → (∀ σ', RS K S μ H ε' σ' → wipe σ' vs = wipe σ vs → Q σ' H) → g v σ H Q
def LGs (K : PySem.W.Frag) (g : TGs) (vs : List Nat) (dg : List D → DS → Option DS) : Prop := ∀ {xs : List V} {ds : List D} {ε ε' : DS} {σ : L2.St} {S : Pl} {μ : Mu} {H : Hp} {Q : L2.St → Hp → Prop},
  RepA K S μ H ds xs → RS K S μ H ε σ → dg ds ε = some ε' → (∀ σ', RS K S μ H ε' σ' → wipe σ' vs = wipe σ vs → Q σ' H) → g xs σ H Q
theorem wipe_get {σ : L2.St} : ∀ {vs : List Nat} {i : Nat}, (wipe σ vs)[i]? = if i ∈ vs ∧ i < σ.length then some none else σ[i]?
  | [], i => by simp [wipe]
  | v :: vs, i => by
    unfold wipe
    have ih := @wipe_get σ vs i
    by_cases hv : v = i
    · subst hv
      by_cases hl : v < σ.length
      · rw [List.getElem?_set_self (by rw [wipe_length]; exact hl), if_pos ⟨List.mem_cons_self, hl⟩]
      · rw [List.getElem?_eq_none (by rw [List.length_set, wipe_length]; omega), if_neg (fun h => hl h.2), List.getElem?_eq_none (by omega)]
    · rw [List.getElem?_set_ne hv, ih]
      have e : (i ∈ v :: vs) = (i ∈ vs) := by
        rw [List.mem_cons]
        exact propext ⟨fun h => h.resolve_left (fun z => hv z.symm), .inr⟩
      simp only [e]
theorem wipe_eq {σ τ : L2.St} {vs : List Nat} (hl : σ.length = τ.length) (h : ∀ i, i ∉ vs → σ[i]? = τ[i]?) : wipe σ vs = wipe τ vs := by
  refine List.ext_getElem? fun i => ?_
  rw [wipe_get, wipe_get, hl]
  by_cases hi : i ∈ vs
  · by_cases hj : i < τ.length
    · rw [if_pos ⟨hi, hj⟩, if_pos ⟨hi, hj⟩]
    · rw [if_neg (fun z => hj z.2), if_neg (fun z => hj z.2), List.getElem?_eq_none (by omega), List.getElem?_eq_none (by omega)]
  · rw [if_neg (fun z => hi z.1), if_neg (fun z => hi z.1), h i hi]
theorem wipe_set {σ : L2.St} {vs : List Nat} {i : Nat} {x : Option V} (h : i ∈ vs) : wipe (σ.set i x) vs = wipe σ vs := by
  refine wipe_eq (by rw [List.length_set]) fun j hj => ?_
  rw [List.getElem?_set_ne]
  rintro rfl
  exact hj h
def gN (i : Nat) : D → DS → Option DS := fun d ε => some (ε.set i (some d))
theorem lg_name {K : PySem.W.Frag} {i : Nat} {vs : List Nat} (h : i ∈ vs) : LG K (gName i) vs (gN i) := fun {_ _ _ _ _ _ _ _ _} r rs e q => by
  cases e
  exact q _ (rs.set i r) (wipe_set h)
def gNl : List D → DS → Option DS
  | [], ε => some ε
  | _ :: _, _ => none
def gCn (g : D → DS → Option DS) (r : List D → DS → Option DS) : List D → DS → Option DS
  | d :: ds, ε => (g d ε).bind fun ε' => r ds ε'
  | [], _ => none
def gTp (n : Nat) (r : List D → DS → Option DS) : D → DS → Option DS
  | .tup ds, ε => if ds.length = n then r ds ε else none
  | _, _ => none
theorem lg_nil {K : PySem.W.Frag} {vs : List Nat} : LGs K gNil vs gNl := fun {xs ds _ _ _ _ _ _ _} r rs e q => by
  cases r with
  | nil =>
    cases e
    exact ⟨rfl, q _ rs rfl⟩
  | cons _ _ => cases e
theorem lg_cons {K : PySem.W.Frag} {vs : List Nat} {g : TG} {gs : TGs} {dg : D → DS → Option DS} {dr : List D → DS → Option DS} (h1 : LG K g vs dg) (h2 : LGs K gs vs dr) : LGs K (gCons g gs) vs (gCn dg dr) := fun {xs ds ε ε' σ S μ H Q} r rs e q => by
  cases r with
  | nil => cases e
  | @cons d v ds vs h t =>
    refine ⟨v, vs, rfl, ?_⟩
    have e : (dg d ε).bind _ = some ε' := e
    cases hd : dg d ε with
    | none => rw [hd] at e; cases e
    | some ε1 =>
      rw [hd] at e
      exact h1 h rs hd fun σ1 r1 w1 => h2 t r1 e fun σ2 r2 w2 => q σ2 r2 (w2.trans w1)
theorem lg_tup {K : PySem.W.Frag} {vs : List Nat} {gs : TGs} {n : Nat} {dr : List D → DS → Option DS} (h2 : LGs K gs vs dr) : LG K (gTup K n gs) vs (gTp n dr) := fun {v d ε ε' σ S μ H Q} r rs e q => by
  cases r with
  | @tup ds a xs h r =>
    have e : (if ds.length = n then dr ds ε else none) = some ε' := e
    by_cases hn : ds.length = n
    · rw [if_pos hn] at e
      exact ⟨a, xs, rfl, h.sq, r.len ▸ hn, h2 r rs e q⟩
    · rw [if_neg hn] at e
      cases e
  | _ => cases e
section
variable {X : Cx} {dk : DK} {c : LC X.K dk} {e : Expr} {st : Stmt} {rest : List Stmt} {f g : DS → W Fl} {fe : DS → W D} {t : DS → W Bool} {pos : Pos}
theorem ds_set {i : Nat} {x : Str} {pos' : Pos} (hN : X.N.Nodup) (hi : X.N[i]? = some x) (hx : Loc X.env.scope x) (he : PE X e (lowE X.K dk c fe)) (hs : swapsWith e (some (.Name x pos')) pos.line X.env = pure false := by rfl)
    (hf : X.fn x = true ∨ X.env.scope.names.lookup x = some .local := by first | exact .inl rfl | exact .inr rfl | assumption) :
    PS X (.Assign [.Name x pos'] e pos) (lowS X.K dk c (sSet i fe)) := ps_w (ps_set hN hi hx he hs hf) fun Dn σ H ⟨ε, S, μ, lk, ok, rs, run⟩ =>
  ⟨ε, S, μ, lk, ok, rs, W.up run fun d μ1 run1 v S1 H1 ex1 ok1 rep1 => run1 _ S1 H1 ex1 ok1 ((rs.ex ex1).set i rep1)⟩
theorem ds_ret (he : PE X e (lowE X.K dk c fe)) : PS X (.Return (some e) pos) (lowS X.K dk c (sRet fe)) := ps_w (ps_ret he) fun Dn σ H ⟨ε, S, μ, lk, ok, rs, run⟩ =>
  ⟨ε, S, μ, lk, ok, rs, W.up run fun d μ1 run1 v S1 H1 ex1 ok1 rep1 => run1 v S1 H1 ex1 ok1 rep1⟩
theorem ds_retN : PS X (.Return none pos) (lowS X.K dk c sRetN) := ps_w ps_retN fun Dn σ H ⟨ε, S, μ, lk, ok, rs, run⟩ => run .non S H Ex.refl ok .non
theorem ds_expr (he : PE X e (lowE X.K dk c fe)) (hs : swapsWith e none pos.line X.env = pure false := by rfl) : PS X (.Expr e pos) (lowS X.K dk c (sExpr fe)) := ps_w (ps_expr he hs) fun Dn σ H ⟨ε, S, μ, lk, ok, rs, run⟩ =>
  ⟨ε, S, μ, lk, ok, rs, W.up run fun d μ1 run1 v S1 H1 ex1 ok1 rep1 => run1 σ S1 H1 ex1 ok1 (rs.ex ex1)⟩
theorem dss_nil : PSs X [] (lowS X.K dk c sNil) := pss_w pss_nil fun Dn σ H ⟨ε, S, μ, lk, ok, rs, run⟩ => run σ S H Ex.refl ok rs
theorem ds_never : PS X st (lowS X.K dk c sNever) := ps_w ps_never fun Dn σ H ⟨_, _, _, _, _, _, run⟩ => run.elim
theorem ds_break : PS X (.Break pos) (lowS X.K dk c sBrk) := ps_w ps_break fun Dn σ H ⟨ε, S, μ, lk, ok, rs, run⟩ => run σ S H Ex.refl ok rs
theorem ds_cont : PS X (.Continue pos) (lowS X.K dk c sCt) := ps_w ps_continue fun Dn σ H ⟨ε, S, μ, lk, ok, rs, run⟩ => run σ S H Ex.refl ok rs
theorem dss_one (h1 : PS X st (lowS X.K dk c f)) : PSs X [st] (lowS X.K dk c f) := pss_one h1
theorem dss_cons (h1 : PS X st (lowS X.K dk c f)) (h2 : PSs X rest (lowS X.K dk c g)) : PSs X (st :: rest) (lowS X.K dk c (sSeq f g)) := pss_w (pss_cons h1 h2) fun Dn σ H ⟨ε, S, μ, lk, ok, rs, run⟩ => by
  refine ⟨ε, S, μ, lk, ok, rs, W.up run fun fl μ1 run1 => ?_⟩
  cases fl with
  | nx ε' => exact fun σ' S1 H1 ex1 ok1 rs1 => ⟨ε', S1, μ1, c.up lk ex1, ok1, rs1, W.up run1 fun _ _ q => q.ex ex1⟩
  | rt d => exact run1
  | bk ε' => exact run1
  | ct ε' => exact run1
theorem ds_if {x : Expr} {a b : List Stmt} (hc : PT X x (lowT X.K dk c t)) (ha : PSs X a (lowS X.K dk c f)) (hb : PSs X b (lowS X.K dk c g)) : PS X (.If x a b pos) (lowS X.K dk c (sIf t f g)) :=
  ps_w (ps_if hc ha hb) fun Dn σ H ⟨ε, S, μ, lk, ok, rs, run⟩ => by
    refine ⟨ε, S, μ, lk, ok, rs, W.up run fun b μ1 run1 S1 H1 ex1 ok1 => ?_⟩
    cases b with
    | true => exact ⟨ε, S1, μ1, c.up lk ex1, ok1, rs.ex ex1, W.up run1 fun _ _ q => q.ex ex1⟩
    | false => exact ⟨ε, S1, μ1, c.up lk ex1, ok1, rs.ex ex1, W.up run1 fun _ _ q => q.ex ex1⟩
/-- a target that is a tuple of names -/
def sAsg (dg : D → DS → Option DS) (fe : DS → W D) : DS → W Fl := fun ε => W.bnd (fe ε) fun d => W.bnd (W.opt (dg d ε)) fun ε' => W.ret (.nx ε')
theorem ds_asg {tg : Expr} {gg : TG} {vs : List Nat} {dg : D → DS → Option DS} (he : PE X e (lowE X.K dk c fe)) (hg : PG X tg gg) (lg : LG X.K gg vs dg) (hs : swapsWithSole [tg] e pos.line X.env = pure false := by rfl) (hw : swappedStores [tg] e X.env = pure none := by rfl)
    (h1 : (assignEach [tg] X.env).map (·.2) = [assign tg X.env] := by rfl) : PS X (.Assign [tg] e pos) (lowS X.K dk c (sAsg dg fe)) := ps_w (ps_asg he hg hs hw h1) fun Dn σ H ⟨ε, S, μ, lk, ok, rs, run⟩ => by
  refine ⟨ε, S, μ, lk, ok, rs, W.up run fun d μ1 run1 v S1 H1 ex1 ok1 rep1 => ?_⟩
  cases hd : dg d ε with
  | none =>
    have run1 : (W.bnd (W.opt (dg d ε)) fun ε' => W.ret (Fl.nx ε')).run (PostS X.K dk S μ H Dn) c.E μ1 := run1
    rw [hd] at run1
    exact run1.elim
  | some ε' =>
    have run1 : (W.bnd (W.opt (dg d ε)) fun ε' => W.ret (Fl.nx ε')).run (PostS X.K dk S μ H Dn) c.E μ1 := run1
    rw [hd] at run1
    exact lg rep1 (rs.ex ex1) hd fun σ' r _ => run1 σ' S1 H1 ex1 ok1 r
/-- a, b = x, y -/
def two (i j : Nat) (ε : DS) : List D → W Fl
  | [x, y] => W.ret (.nx ((ε.set i (some x)).set j (some y)))
  | _ => W.fail
def sPar (i j : Nat) (fa : DS → W (List D)) : DS → W Fl := fun ε => W.bnd (fa ε) (two i j ε)
theorem ds_par {i j : Nat} {x y : Str} {a b : Expr} {fa : DS → W (List D)} {px py pt : Pos} {kt k2 pt2} (hc : X.calm = true) (hN : X.N.Nodup) (hi : X.N[i]? = some x) (hj : X.N[j]? = some y) (hij : i ≠ j)
    (hx : X.env.scope.names.lookup x = some .local) (hy : X.env.scope.names.lookup y = some .local) (ha : PA X [a, b] (lowA X.K dk c fa))
    (hw : swappedStores [.Tuple [.Name x px, .Name y py] kt pt] (.Tuple [a, b] k2 pt2) X.env = pure (some [x, y]))
    (hs : swapsWithSole [.Tuple [.Name x px, .Name y py] kt pt] (.Tuple [a, b] k2 pt2) pos.line X.env = pure false := by rfl) :
    PS X (.Assign [.Tuple [.Name x px, .Name y py] kt pt] (.Tuple [a, b] k2 pt2) pos) (lowS X.K dk c (sPar i j fa)) := ps_w (ps_par hc hN hi hj hij hx hy ha hw hs) fun Dn σ H ⟨ε, S, μ, lk, ok, rs, run⟩ => by
  refine ⟨ε, S, μ, lk, ok, rs, W.up run fun ds μ1 run1 xs S1 H1 ex1 ok1 rep1 => ?_⟩
  cases rep1 with
  | nil => exact run1.elim
  | cons h1 t1 =>
    cases t1 with
    | nil => exact run1.elim
    | cons h2 t2 =>
      cases t2 with
      | nil => exact ⟨_, _, rfl, run1 _ S1 H1 ex1 ok1 (((rs.ex ex1).set i h1).set j h2)⟩
      | cons _ _ => exact run1.elim
/-- x op= e -/
def sAug (i : Nat) (g : D → D → W D) (fe : DS → W D) : DS → W Fl := fun ε => W.bnd (W.opt (slot ε i)) fun x => W.bnd (fe ε) fun y => W.bnd (g x y) fun z => W.ret (.nx (ε.set i (some z)))
theorem ds_aug {i : Nat} {x : Str} {op : Operator} {ti : TIp} {gd : D → D → W D} {pos' : Pos} (hN : X.N.Nodup) (hi : X.N[i]? = some x) (hx : Loc X.env.scope x) (he : PE X e (lowE X.K dk c fe)) (ho : PIp X op ti) (l : LR2 X.K dk ti gd)
    (hf : X.fn x = true ∨ X.env.scope.names.lookup x = some .local := by first | exact .inl rfl | exact .inr rfl | assumption) :
    PS X (.AugAssign (.Name x pos') op e pos) (lowS X.K dk c (sAug i gd fe)) := ps_w (ps_aug hN hi hx he ho hf) fun Dn σ H ⟨ε, S, μ, lk, ok, rs, run⟩ => by
  have run : ((W.opt (slot ε i)).bnd fun x => W.bnd (fe ε) fun y => W.bnd (gd x y) fun z => W.ret (Fl.nx (ε.set i (some z)))).run (PostS X.K dk S μ H Dn) c.E μ := run
  cases hs : slot ε i with
  | none => rw [hs] at run; exact run.elim
  | some d =>
    rw [hs] at run
    obtain ⟨v, h1, h2⟩ := rs.at_ i d (slot_eq hs)
    refine ⟨v, h1, ε, S, μ, lk, ok, rs, W.up (m := fe ε) run fun dy μ1 run1 y S1 H1 ex1 ok1 rep1 => ?_⟩
    exact l ok1 (h2.ex ex1) rep1 (W.up run1 fun z μ2 q v2 S2 H2 ex2 ok2 rep2 => q _ S2 H2 (ex1.trans ex2) ok2 (((rs.ex ex1).ex ex2).set i rep2))
end

/-! ### what is walked -/
/-- the items, and what must stay of the store meanwhile -/
structure Itm where
  xs : List D
  inv : Mu → Prop
abbrev itm (xs : List D) : Itm := ⟨xs, fun _ => True⟩
structure ItD (K : PySem.W.Frag) (dk : DK) (J : L2.It) (S : Pl) (μ : Mu) (H : Hp) (t : Itm) : Prop where
  go : ∀ {i : Nat} {S' μ' H'}, Ux S μ H S' μ' H' → Ok K dk.p S' μ' H' → t.inv μ' → i < t.xs.length → J.go i H'
  stop : ∀ {i : Nat} {S' μ' H'}, Ux S μ H S' μ' H' → Ok K dk.p S' μ' H' → t.inv μ' → i = t.xs.length → J.stop i H'
  yld : ∀ {i : Nat} {S' μ' H' d x H''}, Ux S μ H S' μ' H' → Ok K dk.p S' μ' H' → t.inv μ' → t.xs[i]? = some d → J.yld i H' x H'' → Ex S' μ' H' S' μ' H'' ∧ Ok K dk.p S' μ' H'' ∧ Rep K S' μ' H'' d x
def lowI (K : PySem.W.Frag) (dk : DK) (c : LC K dk) (f : DS → W Itm) : TI := fun σ H R => ∃ ε S μ, c.lk S μ H ∧ Ok K dk.p S μ H ∧ RS K S μ H ε σ ∧
  (f ε).run (fun t μ' => ∀ J S' H', Ex S μ H S' μ' H' → Ok K dk.p S' μ' H' → ItD K dk J S' μ' H' t → R J H') c.E μ
section
variable {X : Cx} {dk : DK} {c : LC X.K dk} {tg iter : Expr} {fi : DS → W Itm}
theorem pi_w {wi : TI} (h : PI X tg iter wi) (w : ∀ σ H R, lowI X.K dk c fi σ H R → wi σ H R) : PI X tg iter (lowI X.K dk c fi) := ⟨fun pins s σ H R I q => h.run pins s σ H R I (w σ H R q)⟩
/-- the items of a tuple, a list, a text -/
def sgD (z : Str) : List D := z.cps.toList.map fun k => .str ⟨#[k]⟩
def itsOf (μ : Mu) : D → Option Itm
  | .tup xs => some (itm xs)
  | .ktp xs => some (itm xs)
  | .lst xs => some (itm xs)
  | .str z => some (itm (sgD z))
  | .ref n => match μ[n]? with
    | some (.lst xs) => some ⟨xs, fun μ => μ[n]? = some (.lst xs)⟩
    | _ => none
  | _ => none
def its (d : D) : W Itm := W.rd fun μ => W.opt (itsOf μ d)
def iOf {α : Type} (g : α → W Itm) (f : DS → W α) : DS → W Itm := fun ε => W.bnd (f ε) g
theorem itd_tup {K : PySem.W.Frag} {dk : DK} {S : Pl} {μ : Mu} {H : Hp} {a : Addr} {xs : List D} {vs : List V} (h : ∀ {S' μ' H'}, Ux S μ H S' μ' H' → SqT K H' a vs) (r : RepA K S μ H xs vs) : ItD K dk (Itt K a) S μ H (itm xs) where
  go := fun ex _ _ hi => ⟨vs, vs[_]'(r.len ▸ hi), h ex, List.getElem?_eq_getElem _⟩
  stop := fun ex _ _ hi => ⟨vs, h ex, r.len ▸ Nat.le_of_eq hi.symm⟩
  yld := fun ex ok _ hd hy => by
    obtain ⟨rfl, hy⟩ := hy
    obtain ⟨v, h1, h2⟩ := (r.ux ex).get hd
    have := hy vs (h ex)
    rw [h1] at this
    cases this
    exact ⟨Ex.refl, ok, h2⟩
theorem itd_lst {K : PySem.W.Frag} {dk : DK} {S : Pl} {μ : Mu} {H : Hp} {a : Addr} {xs : List D} {vs : List V} (h : FrL S μ H a vs) (r : RepA K S μ H xs vs) : ItD K dk (Itl K a) S μ H (itm xs) where
  go := fun ex _ _ hi => ⟨vs, vs[_]'(r.len ▸ hi), (h.ux ex).sq, List.getElem?_eq_getElem _⟩
  stop := fun ex _ _ hi => ⟨vs, (h.ux ex).sq, r.len ▸ Nat.le_of_eq hi.symm⟩
  yld := fun ex ok _ hd hy => by
    obtain ⟨rfl, hy⟩ := hy
    obtain ⟨v, h1, h2⟩ := (r.ux ex).get hd
    have := hy vs (h.ux ex).sq
    rw [h1] at this
    cases this
    exact ⟨Ex.refl, ok, h2⟩
theorem itd_ref {K : PySem.W.Frag} {dk : DK} {S : Pl} {μ : Mu} {H : Hp} {a : Addr} {n : Nat} {xs : List D} (h : S.L[n]? = some a) : ItD K dk (Itl K a) S μ H ⟨xs, fun μ => μ[n]? = some (.lst xs)⟩ where
  go := fun {i S' μ' H'} ex ok hm hi => by
    obtain ⟨vs, h1, h2⟩ := ok.at_ n _ a hm (ex.at h)
    exact ⟨vs, vs[i]'(h2.len ▸ hi), .inl (.inl h1), List.getElem?_eq_getElem _⟩
  stop := fun {i S' μ' H'} ex ok hm hi => by
    obtain ⟨vs, h1, h2⟩ := ok.at_ n _ a hm (ex.at h)
    exact ⟨vs, .inl (.inl h1), h2.len ▸ Nat.le_of_eq hi.symm⟩
  yld := fun {i S' μ' H' d x H''} ex ok hm hd hy => by
    obtain ⟨vs, h1, h2⟩ := ok.at_ n _ a hm (ex.at h)
    obtain ⟨rfl, hy⟩ := hy
    obtain ⟨v, h3, h4⟩ := h2.get hd
    have := hy vs (.inl (.inl h1))
    rw [h3] at this
    cases this
    exact ⟨Ex.refl, ok, h4⟩
theorem itd_str {K : PySem.W.Frag} {dk : DK} {S : Pl} {μ : Mu} {H : Hp} {z : Str} : ItD K dk (Its z) S μ H (itm (sgD z)) where
  go := fun _ _ _ hi => by
    have hi : _ < (z.cps.toList.map _).length := hi
    rw [List.length_map, Array.length_toList] at hi
    exact hi
  stop := fun _ _ _ hi => by
    have hi : _ = (z.cps.toList.map _).length := hi
    rw [List.length_map, Array.length_toList] at hi
    exact Nat.le_of_eq hi.symm
  yld := fun {i S' μ' H' d x H''} _ ok _ hd hy => by
    obtain ⟨rfl, k, h1, rfl⟩ := hy
    have hd : (z.cps.toList.map fun k => D.str ⟨#[k]⟩)[i]? = some d := hd
    rw [List.getElem?_map, Array.getElem?_toList, h1] at hd
    cases hd
    exact ⟨Ex.refl, ok, .str _⟩
theorem pi_seq {l : Expr} {tl : TE} (hl : PE X l tl) : PI X tg l (fun σ H R => tl σ H fun x H1 => (∃ a, x = .ref a ∧ (∃ xs, SqL X.K H1 a xs) ∧ R (Itl X.K a) H1) ∨ (∃ a, x = .ref a ∧ (∃ xs, SqT X.K H1 a xs) ∧ R (Itt X.K a) H1) ∨ ∃ z, x = .str z ∧ R (Its z) H1) := by
  refine ⟨fun pins s σ H R I h => ?_⟩
  refine thn (hl.run pins s σ H _ I h) fun v s1 ⟨x, H1, I1, r1, q1⟩ => ?_
  rcases q1 with ⟨a, e, ⟨xs, hq⟩, q⟩ | ⟨a, e, ⟨xs, hq⟩, q⟩ | ⟨z, e, q⟩
  · subst e
    cases r1
    obtain ⟨its, rv, p, hz⟩ := I1.list hq
    refine wpAny_pyIter_list p.isList ?_
    refine ⟨s1.heap.objs.size, [s1.heap.objs.size], _, _, H1, rfl, I1.kept (t' := s1.toks) fun b o e => Heap.get?_push_of_some _ e, turn_list a _, ⟨_, Heap.get?_push_size _ rfl, rfl, rfl⟩, fun b hb => ?_, q⟩
    have e : b = s1.heap.objs.size := by simpa using hb
    subst e
    exact I1.fpOk (Nat.le_refl _) (I1.hok.fresh (Nat.le_refl _))
  · subst e
    cases r1
    obtain ⟨its, rv, p, hz⟩ := I1.tuple hq
    refine wpAny_pyIter_tuple (show s1.heap.IsTuple a its.toArray from p) ?_
    refine ⟨s1.heap.objs.size, [s1.heap.objs.size], _, _, H1, rfl, I1.kept (t' := s1.toks) fun b o e => Heap.get?_push_of_some _ e, turn_tuple a _, ⟨_, Heap.get?_push_size _ rfl, rfl, rfl⟩, fun b hb => ?_, q⟩
    have e : b = s1.heap.objs.size := by simpa using hb
    subst e
    exact I1.fpOk (Nat.le_refl _) (I1.hok.fresh (Nat.le_refl _))
  · subst e
    obtain ⟨t, rfl⟩ := r1
    cases ha : z.cps.all (· < 128)
    · exact wpAny_pyIter_wide ha (pi_one (tk := s1.toks) I1 _ (turn_str _ z t "str_iterator" (.inr rfl)) ⟨_, Heap.get?_push_size _ rfl, rfl, rfl⟩ q)
    · exact wpAny_pyIter_ascii ha (pi_one (tk := s1.toks) I1 _ (turn_str _ z t "str_ascii_iterator" (.inl rfl)) ⟨_, Heap.get?_push_size _ rfl, rfl, rfl⟩ q)
theorem di_seq {l : Expr} {f : DS → W D} (hl : PE X l (lowE X.K dk c f)) : PI X tg l (lowI X.K dk c (iOf its f)) := pi_w (pi_seq hl) fun σ H R ⟨ε, S, μ, lk, ok, rs, run⟩ => by
  refine ⟨ε, S, μ, lk, ok, rs, W.up run fun d μ1 run1 v S1 H1 ex1 ok1 rep1 => ?_⟩
  have run1 : (W.opt (itsOf μ1 d)).run _ c.E μ1 := run1
  cases rep1 with
  | @tup xs a vs h r => exact .inr (.inl ⟨a, rfl, ⟨vs, h.sq⟩, run1 _ S1 H1 ex1 ok1 (itd_tup (fun x => (h.ux x).sq) r)⟩)
  | @ktp xs a vs h r => exact .inr (.inl ⟨a, rfl, ⟨vs, kt_sq h⟩, run1 _ S1 H1 ex1 ok1 (itd_tup (fun _ => kt_sq h) r)⟩)
  | @lst xs a vs h r => exact .inl ⟨a, rfl, ⟨vs, .inl (.inl h.1)⟩, run1 _ S1 H1 ex1 ok1 (itd_lst h r)⟩
  | str z => exact .inr (.inr ⟨z, rfl, run1 _ S1 H1 ex1 ok1 itd_str⟩)
  | @ref n a h =>
    cases hm : μ1[n]? with
    | none =>
      have e : itsOf μ1 (.ref n) = none := by
        show (match μ1[n]? with
          | some (.lst xs) => some (Itm.mk xs fun μ => μ[n]? = some (MO.lst xs))
          | _ => none) = none
        rw [hm]
      rw [e] at run1
      exact run1.elim
    | some m =>
      cases m with
      | lst xs =>
        have e : itsOf μ1 (.ref n) = some ⟨xs, fun μ => μ[n]? = some (MO.lst xs)⟩ := by
          show (match μ1[n]? with
            | some (.lst xs) => some (Itm.mk xs fun μ => μ[n]? = some (MO.lst xs))
            | _ => none) = _
          rw [hm]
        rw [e] at run1
        obtain ⟨vs, h1, h2⟩ := ok1.at_ n _ a hm h
        exact .inl ⟨a, rfl, ⟨vs, .inl (.inl h1)⟩, run1 _ S1 H1 ex1 ok1 (itd_ref h)⟩
      | _ =>
        have e : itsOf μ1 (.ref n) = none := by
          show (match μ1[n]? with
            | some (.lst xs) => some (Itm.mk xs fun μ => μ[n]? = some (MO.lst xs))
            | _ => none) = none
          rw [hm]
        rw [e] at run1
        exact run1.elim
  | _ => exact run1.elim
def rngD (lo : Int) (n : Nat) : List D := (List.range n).map fun i => .int (lo + (i : Nat))
theorem itd_rng {K : PySem.W.Frag} {dk : DK} {S : Pl} {μ : Mu} {H : Hp} {lo : Int} {n : Nat} : ItD K dk (Itr lo n) S μ H (itm (rngD lo n)) where
  go := fun _ _ _ hi => by
    have hi : _ < ((List.range n).map _).length := hi
    rw [List.length_map, List.length_range] at hi
    exact hi
  stop := fun _ _ _ hi => by
    have hi : _ = ((List.range n).map _).length := hi
    rw [List.length_map, List.length_range] at hi
    exact Nat.le_of_eq hi.symm
  yld := fun {i S' μ' H' d x H''} _ ok _ hd hy => by
    obtain ⟨rfl, rfl⟩ := hy
    have hd : ((List.range n).map fun i => D.int (lo + (i : Nat)))[i]? = some d := hd
    rw [List.getElem?_map] at hd
    by_cases hi : i < n
    · rw [List.getElem?_range hi] at hd
      cases hd
      exact ⟨Ex.refl, ok, .int _⟩
    · rw [List.getElem?_eq_none (by rw [List.length_range]; omega)] at hd
      cases hd
def rng1 : List D → W Itm
  | [.int j] => W.chk (-(2 ^ 62) ≤ j ∧ j < 2 ^ 62) (W.ret (itm (rngD 0 j.toNat)))
  | _ => W.fail
def rng2 : List D → W Itm
  | [.int i, .int j] => W.chk (-(2 ^ 62) ≤ i ∧ i < 2 ^ 62 ∧ -(2 ^ 62) ≤ j ∧ j < 2 ^ 62) (W.ret (itm (rngD i (j - i).toNat)))
  | _ => W.fail
variable {fs : DS → W (List D)}
theorem di_range1 {a : Expr} {p pos : Pos} (hg : Gl X "range") (hm : X.mg "range" = none) (ha : PA X [a] (lowA X.K dk c fs)) (hs : starEach [a] X.env = [(false, eval a X.env)] := by rfl) : PI X tg (.Call (.Name "range" p) [a] [] pos) (lowI X.K dk c (iOf rng1 fs)) :=
  pi_w (pi_range1 hg hm ha hs) fun σ H R ⟨ε, S, μ, lk, ok, rs, run⟩ => by
    refine ⟨ε, S, μ, lk, ok, rs, W.up run fun ds μ1 run1 xs S1 H1 ex1 ok1 rep1 => ?_⟩
    unfold rng1 at run1
    split at run1
    · cases rep1 with
      | cons h t =>
        cases h
        cases t
        exact ⟨_, rfl, run1.1.1, run1.1.2, run1.2 _ S1 H1 ex1 ok1 itd_rng⟩
    · exact run1.elim
theorem di_range2 {a b : Expr} {p pos : Pos} (hg : Gl X "range") (hm : X.mg "range" = none) (ha : PA X [a, b] (lowA X.K dk c fs)) (hs : starEach [a, b] X.env = [(false, eval a X.env), (false, eval b X.env)] := by rfl) (hs2 : starEach [b] X.env = [(false, eval b X.env)] := by rfl) :
    PI X tg (.Call (.Name "range" p) [a, b] [] pos) (lowI X.K dk c (iOf rng2 fs)) :=
  pi_w (pi_range2 hg hm ha hs hs2) fun σ H R ⟨ε, S, μ, lk, ok, rs, run⟩ => by
    refine ⟨ε, S, μ, lk, ok, rs, W.up run fun ds μ1 run1 xs S1 H1 ex1 ok1 rep1 => ?_⟩
    unfold rng2 at run1
    split at run1
    · cases rep1 with
      | cons h t =>
        cases h
        cases t with
        | cons h t =>
          cases h
          cases t
          exact ⟨_, _, rfl, run1.1, run1.2 _ S1 H1 ex1 ok1 itd_rng⟩
    · exact run1.elim
end

/-! ### for -/
def gd {α : Type} (p : Mu → Prop) (m : W α) : W α := W.rd fun μ => W.chk (p μ) m
theorem run_gd {α : Type} {p : Mu → Prop} {m : W α} {Q : α → Mu → Prop} {E : Exn → Mu → Prop} {μ : Mu} : (gd p m).run Q E μ = (p μ ∧ m.run Q E μ) := rfl
def forStep (again : DS → W Fl) : Fl → W Fl
  | .nx ε => again ε
  | .ct ε => again ε
  | .bk ε => W.ret (.nx ε)
  | .rt d => W.ret (.rt d)
def forW (dg : D → DS → Option DS) (fb : DS → W Fl) (p : Mu → Prop) : List D → DS → W Fl
  | [], ε => gd p (W.ret (.nx ε))
  | d :: ds, ε => gd p (W.bnd (W.opt (dg d ε)) fun ε1 => W.bnd (fb ε1) (forStep (forW dg fb p ds)))
def sFor (fi : DS → W Itm) (dg : D → DS → Option DS) (fb : DS → W Fl) : DS → W Fl := fun ε => W.bnd (fi ε) fun t => forW dg fb t.inv t.xs ε
section
variable {X : Cx} {dk : DK} {c : LC X.K dk} {tg iter : Expr} {fi : DS → W Itm} {fb : DS → W Fl} {gg : TG} {vs : List Nat} {dg : D → DS → Option DS} {body : List Stmt} {pos : Pos}
theorem low_for (lg : LG X.K gg vs dg) {Dn : Ends} {σ : L2.St} {H : Hp} (q : lowS X.K dk c (sFor fi dg fb) Dn σ H) : tFor (lowI X.K dk c fi) gg (lowS X.K dk c fb) Dn σ H := by
  obtain ⟨ε, S, μ, lk, ok, rs, run⟩ := q
  refine ⟨ε, S, μ, lk, ok, rs, W.up run fun t μ1 run1 J S1 H1 ex1 ok1 itd => ?_⟩
  obtain ⟨xs, inv⟩ := t
  refine ⟨fun i m σ H => m = xs.length - i ∧ i ≤ xs.length ∧ ∃ ε2 S2 μ2, c.lk S2 μ2 H ∧ Ex S1 μ1 H1 S2 μ2 H ∧ Ok X.K dk.p S2 μ2 H ∧ RS X.K S2 μ2 H ε2 σ ∧ (forW dg fb inv (xs.drop i) ε2).run (PostS X.K dk S2 μ2 H Dn) c.E μ2, ?_, ?_⟩
  · exact ⟨xs.length, (Nat.sub_zero _).symm, Nat.zero_le _, ε, S1, μ1, c.up lk ex1, Ex.refl, ok1, rs.ex ex1, W.up run1 fun _ _ q => q.ex ex1⟩
  rintro i m σ2 H2 ⟨rfl, hi, ε2, S2, μ2, lk2, ex2, ok2, rs2, run2⟩
  by_cases hlt : i < xs.length
  · rw [List.drop_eq_getElem_cons hlt] at run2
    obtain ⟨hv, run2⟩ := (run2 : inv μ2 ∧ ((W.opt (dg xs[i] ε2)).bnd fun ε1 => W.bnd (fb ε1) (forStep (forW dg fb inv (xs.drop (i + 1))))).run (PostS X.K dk S2 μ2 H2 Dn) c.E μ2)
    refine .inr ⟨itd.go ex2.ux ok2 hv hlt, fun σ' H' => ∃ ε3 S3 μ3, c.lk S3 μ3 H' ∧ Ex S1 μ1 H1 S3 μ3 H' ∧ Ok X.K dk.p S3 μ3 H' ∧ RS X.K S3 μ3 H' ε3 σ' ∧ (forW dg fb inv (xs.drop (i + 1)) ε3).run (PostS X.K dk S3 μ3 H' Dn) c.E μ3,
      fun σ' H' h => ⟨xs.length - (i + 1), by omega, rfl, hlt, h⟩, fun x H' hy => ?_⟩
    obtain ⟨exy, oky, repy⟩ := itd.yld ex2.ux ok2 hv (List.getElem?_eq_getElem hlt) hy
    cases hd : dg xs[i] ε2 with
    | none => rw [hd] at run2; exact run2.elim
    | some ε' =>
      rw [hd] at run2
      refine lg repy (rs2.ex exy) hd fun σ3 rs3 _ => ⟨ε', S2, μ2, c.up lk2 exy, oky, rs3, W.up (m := fb ε') run2 fun fl μ4 run4 => ?_⟩
      have again : ∀ {ε4 : DS}, (forW dg fb inv (xs.drop (i + 1)) ε4).run (PostS X.K dk S2 μ2 H2 Dn) c.E μ4 → ∀ σ4 S4 H4, Ex S2 μ2 H' S4 μ4 H4 → Ok X.K dk.p S4 μ4 H4 → RS X.K S4 μ4 H4 ε4 σ4 →
          ∃ ε3 S3 μ3, c.lk S3 μ3 H4 ∧ Ex S1 μ1 H1 S3 μ3 H4 ∧ Ok X.K dk.p S3 μ3 H4 ∧ RS X.K S3 μ3 H4 ε3 σ4 ∧ (forW dg fb inv (xs.drop (i + 1)) ε3).run (PostS X.K dk S3 μ3 H4 Dn) c.E μ3 :=
        fun r σ4 S4 H4 ex4 ok4 rs4 => ⟨_, S4, μ4, c.up lk2 (exy.trans ex4), ex2.trans (exy.trans ex4), ok4, rs4, W.up r fun _ _ q => q.ex (exy.trans ex4)⟩
      cases fl with
      | nx ε4 => exact again run4
      | ct ε4 => exact again run4
      | bk ε4 => exact fun σ4 S4 H4 ex4 ok4 rs4 => run4 σ4 S4 H4 (exy.trans ex4) ok4 rs4
      | rt d => exact fun v S4 H4 ex4 ok4 rs4 => run4 v S4 H4 (exy.trans ex4) ok4 rs4
  · rw [List.drop_eq_nil_of_le (by omega)] at run2
    exact .inl ⟨itd.stop ex2.ux ok2 run2.1 (Nat.le_antisymm hi (Nat.le_of_not_lt hlt)), run2.2 σ2 S2 H2 Ex.refl ok2 rs2⟩
theorem ds_for (hp : PassesOwn (model X.prog X.w) X.A X.env X.xe) (hc : X.calm = true) (hi : PI X tg iter (lowI X.K dk c fi)) (hg : PG X tg gg) (lg : LG X.K gg vs dg) (hb : PSs X body (lowS X.K dk c fb))
    (hs : ∀ x, foldedSetIterable iter X.env x = pure x := by intro _; rfl) : PS X (.For tg iter body [] pos) (lowS X.K dk c (sFor fi dg fb)) := ps_w (ps_for hp hc hi hg hb hs) fun _ _ _ q => low_for lg q
/-- while, at most n turns -/
def whW (t : DS → W Bool) (fb : DS → W Fl) : Nat → DS → W Fl
  | 0, _ => W.fail
  | n + 1, ε => W.bnd (t ε) fun b => if b = true then W.bnd (fb ε) (forStep (whW t fb n)) else W.ret (.nx ε)
def sWh (n : DS → Nat) (t : DS → W Bool) (fb : DS → W Fl) : DS → W Fl := fun ε => whW t fb (n ε) ε
theorem low_wh {n : DS → Nat} {t : DS → W Bool} {Dn : Ends} {σ : L2.St} {H : Hp} (q : lowS X.K dk c (sWh n t fb) Dn σ H) : tWhile (lowT X.K dk c t) (lowS X.K dk c fb) Dn σ H := by
  obtain ⟨ε, S, μ, lk, ok, rs, run⟩ := q
  refine ⟨fun m σ H => ∃ ε2 S2 μ2, c.lk S2 μ2 H ∧ Ok X.K dk.p S2 μ2 H ∧ RS X.K S2 μ2 H ε2 σ ∧ (whW t fb m ε2).run (PostS X.K dk S2 μ2 H Dn) c.E μ2, ⟨n ε, ε, S, μ, lk, ok, rs, run⟩, ?_⟩
  rintro m σ2 H2 ⟨ε2, S2, μ2, lk2, ok2, rs2, run2⟩
  cases m with
  | zero => exact run2.elim
  | succ m =>
    refine ⟨ε2, S2, μ2, lk2, ok2, rs2, W.up (m := t ε2) run2 fun b μ3 run3 S3 H3 ex3 ok3 => ?_⟩
    cases b with
    | false => exact run3 σ2 S3 H3 ex3 ok3 (rs2.ex ex3)
    | true =>
      refine ⟨fun σ' H' => ∃ ε2 S2 μ2, c.lk S2 μ2 H' ∧ Ok X.K dk.p S2 μ2 H' ∧ RS X.K S2 μ2 H' ε2 σ' ∧ (whW t fb m ε2).run (PostS X.K dk S2 μ2 H' Dn) c.E μ2, fun σ' H' h => ⟨m, Nat.lt_succ_self m, h⟩, ?_⟩
      refine ⟨ε2, S3, μ3, c.up lk2 ex3, ok3, rs2.ex ex3, W.up (m := fb ε2) run3 fun fl μ4 run4 => ?_⟩
      have again : ∀ {ε4 : DS}, (whW t fb m ε4).run (PostS X.K dk S2 μ2 H2 Dn) c.E μ4 → ∀ σ4 S4 H4, Ex S3 μ3 H3 S4 μ4 H4 → Ok X.K dk.p S4 μ4 H4 → RS X.K S4 μ4 H4 ε4 σ4 →
          ∃ ε2 S2 μ2, c.lk S2 μ2 H4 ∧ Ok X.K dk.p S2 μ2 H4 ∧ RS X.K S2 μ2 H4 ε2 σ4 ∧ (whW t fb m ε2).run (PostS X.K dk S2 μ2 H4 Dn) c.E μ2 :=
        fun r σ4 S4 H4 ex4 ok4 rs4 => ⟨_, S4, μ4, c.up lk2 (ex3.trans ex4), ok4, rs4, W.up r fun _ _ q => q.ex (ex3.trans ex4)⟩
      cases fl with
      | nx ε4 => exact again run4
      | ct ε4 => exact again run4
      | bk ε4 => exact fun σ4 S4 H4 ex4 ok4 rs4 => run4 σ4 S4 H4 (ex3.trans ex4) ok4 rs4
      | rt d => exact fun v S4 H4 ex4 ok4 rs4 => run4 v S4 H4 (ex3.trans ex4) ok4 rs4
theorem ds_while {x : Expr} {n : DS → Nat} {t : DS → W Bool} (hp : PassesOwn (model X.prog X.w) X.A X.env X.xe) (hc : PT X x (lowT X.K dk c t)) (hb : PSs X body (lowS X.K dk c fb)) : PS X (.While x body [] pos) (lowS X.K dk c (sWh n t fb)) :=
  ps_w (ps_while hp hc hb) fun _ _ _ q => low_wh q
end

/-! ### comprehensions -/
def lcW (dg : D → DS → Option DS) (ft : DS → W Bool) (fe : DS → W D) (ε : DS) (p : Mu → Prop) : List D → W (List D)
  | [] => gd p (W.ret [])
  | d :: ds => gd p (W.bnd (W.opt (dg d ε)) fun ε1 => W.bnd (ft ε1) fun b => if b = true then W.bnd (fe ε1) fun y => W.bnd (lcW dg ft fe ε p ds) fun ys => W.ret (y :: ys) else lcW dg ft fe ε p ds)
def dLc (vs : List Nat) (fi : DS → W Itm) (dg : D → DS → Option DS) (ft : DS → W Bool) (fe : DS → W D) : DS → W D := fun ε => W.bnd (fi ε) fun t => W.chk (t.xs.length < sizeLine) (W.bnd (W.nox (lcW dg ft fe (wipeD ε vs) t.inv t.xs)) fun ys => W.ret (.lst ys))
section
variable {K : PySem.W.Frag} {dk : DK} {S : Pl} {μ : Mu} {H : Hp}
def Pl.plus (S : Pl) (a : Addr) : Pl := ⟨S.L, S.hid ++ [a]⟩
theorem live_plus {a b : Addr} (h : live S μ b) : live (S.plus a) μ b := by
  rcases h with h | h
  · exact .inl (List.mem_append_left _ h)
  · exact .inr h
theorem ux_drop {a : Addr} : Ux (S.plus a) μ H S μ H := ⟨⟨[], by rw [List.append_nil]; rfl⟩, fun x o h n => ⟨h, fun z => n (live_plus z)⟩⟩
theorem Ok.drop {a : Addr} (ok : Ok K dk.p (S.plus a) μ H) : Ok K dk.p S μ H := by
  refine ⟨ok.len, ?_, fun b hb => ok.here b ?_, fun n m b h1 h2 => ?_⟩
  · have h : (S.L ++ (S.hid ++ [a])).Nodup := ok.nd
    rw [← List.append_assoc] at h
    exact (List.nodup_append.mp h).1
  · show b ∈ S.L ++ (S.hid ++ [a])
    rw [← List.append_assoc]
    exact List.mem_append_left _ hb
  · exact mo_ux (ok.at_ n m b h1 h2) ux_drop rfl (fun _ _ => rfl) (fun z => z)
theorem dead_plus {a : Addr} (ok : Ok K dk.p (S.plus a) μ H) : ¬ live S μ a := by
  have h : (S.L ++ (S.hid ++ [a])).Nodup := ok.nd
  rw [← List.append_assoc] at h
  have hn : a ∉ S.L ++ S.hid := fun z => (List.nodup_append.mp h).2.2 a z a List.mem_cons_self rfl
  rintro (z | ⟨n, m, e, _⟩)
  · exact hn (List.mem_append_right _ z)
  · exact hn (List.mem_append_left _ (List.mem_of_getElem? e))
/-- a new object, hidden -/
theorem hide_ux (ok : Ok K dk.p S μ H) {p : Addr} {o : HO} (hp : H p = none) : Ux S μ H (S.plus p) μ (upd H p o) := by
  refine ⟨⟨[], by rw [List.append_nil]; rfl⟩, fun a u h n => ?_⟩
  have ne := ne_of_none h hp
  refine ⟨by rw [upd_ne ne]; exact h, ?_⟩
  rintro (z | z)
  · rcases List.mem_append.mp z with z | z
    · exact n (.inl z)
    · exact ne (List.mem_singleton.mp z)
  · exact n (.inr z)
theorem hide_ok (ok : Ok K dk.p S μ H) {p : Addr} {o : HO} (hp : H p = none) : Ok K dk.p (S.plus p) μ (upd H p o) := by
  have fr := ok.fresh hp
  have ne : ∀ a, a ∈ S.L ++ S.hid → a ≠ p := fun a ha z => fr (z ▸ ha)
  refine ⟨ok.len, ?_, fun a ha => ?_, fun n m a e1 e2 => ?_⟩
  · show (S.L ++ (S.hid ++ [p])).Nodup
    rw [← List.append_assoc]
    exact List.nodup_append.mpr ⟨ok.nd, List.nodup_cons.mpr ⟨List.not_mem_nil, List.nodup_nil⟩, fun x hx y hy => by rw [List.mem_singleton.mp hy]; exact ne x hx⟩
  · have ha : a ∈ S.L ++ (S.hid ++ [p]) := ha
    rw [← List.append_assoc] at ha
    rcases List.mem_append.mp ha with ha | ha
    · rw [upd_ne (ne a ha)]
      exact ok.here a ha
    · rw [List.mem_singleton.mp ha, upd_same]
      intro z
      cases z
  · exact mo_ux (ok.at_ n m a e1 e2) (hide_ux ok hp) (upd_ne (ne a (List.mem_append_left _ (List.mem_of_getElem? e2)))) (fun c hc => upd_ne (ne c (List.mem_append_left _ (List.mem_of_getElem? hc)))) (fun z => z)
/-- a hidden one is written -/
theorem hid_ux {p : Addr} {o : HO} (hp : p ∈ S.hid) : Ux S μ H S μ (upd H p o) := by
  refine ⟨⟨[], by rw [List.append_nil]⟩, fun a u h n => ⟨?_, n⟩⟩
  rw [upd_ne]
  · exact h
  · rintro rfl
    exact n (.inl hp)
theorem hid_ok (ok : Ok K dk.p S μ H) {p : Addr} {o : HO} (hp : p ∈ S.hid) : Ok K dk.p S μ (upd H p o) := by
  have ne : ∀ a, a ∈ S.L → a ≠ p := fun a ha z => (List.nodup_append.mp ok.nd).2.2 a ha p hp z
  refine ⟨ok.len, ok.nd, fun a ha => ?_, fun n m a e1 e2 => ?_⟩
  · by_cases h : a = p
    · rw [h, upd_same]
      intro z
      cases z
    · rw [upd_ne h]
      exact ok.here a ha
  · exact mo_ux (ok.at_ n m a e1 e2) (hid_ux hp) (upd_ne (ne a (List.mem_of_getElem? e2))) (fun c hc => upd_ne (ne c (List.mem_of_getElem? hc))) (fun z => z)
end
theorem wipe_wipe {σ : L2.St} {vs : List Nat} : wipe (wipe σ vs) vs = wipe σ vs := wipe_eq (wipe_length σ vs) fun i hi => by rw [wipe_get, if_neg (fun z => hi z.1)]
section
variable {X : Cx} {dk : DK} {c : LC X.K dk} {tg iter elt : Expr} {ifs : List Expr} {fi : DS → W Itm} {ft : DS → W Bool} {fe : DS → W D} {gg : TG} {vs : List Nat} {dg : D → DS → Option DS} {pos : Pos}
theorem low_lc {K : PySem.W.Frag} {c : LC K dk} (lg : LG K gg vs dg) {σ : L2.St} {H : Hp} {Q : VK} (q : lowE K dk c (dLc vs fi dg ft fe) σ H Q) : tLc (lowI K dk c fi) gg (lowT K dk (cF K dk) ft) (lowE K dk (cF K dk) fe) vs σ H Q := by
  obtain ⟨ε, S, μ, lk, ok, rs, run⟩ := q
  refine ⟨ε, S, μ, lk, ok, rs, W.up run fun t μ1 run1 J S1 H1 ex1 ok1 itd A hA => ?_⟩
  obtain ⟨hsz, run1⟩ := run1
  obtain ⟨xs, inv⟩ := t
  have hsz : xs.length < sizeLine := hsz
  have run1 : (lcW dg ft fe (wipeD ε vs) inv xs).run (fun ys μ' => Post K dk S μ H Q (.lst ys) μ') (fun _ _ => False) μ1 := run1
  refine ⟨fun i m H2 => m = xs.length - i ∧ i ≤ xs.length ∧ ∃ (S2 : Pl) (μ2 : Mu) (ys : List D) (acc : List V), S2.hid = S1.hid ∧ Ux S1 μ1 H1 (S2.plus A) μ2 H2 ∧ (∀ a ∈ S1.hid, H2 a = H1 a) ∧ Ok K dk.p (S2.plus A) μ2 H2 ∧ H2 A = some (.lst acc) ∧
    RepA K (S2.plus A) μ2 H2 ys acc ∧ ys.length ≤ i ∧ (lcW dg ft fe (wipeD ε vs) inv (xs.drop i)).run (fun zs μ' => Post K dk S μ H Q (.lst (ys ++ zs)) μ') (fun _ _ => False) μ2, ?_, ?_⟩
  · refine ⟨xs.length, (Nat.sub_zero _).symm, Nat.zero_le _, S1, μ1, [], [], rfl, hide_ux ok1 hA, fun a ha => upd_ne ?_, hide_ok ok1 hA, upd_same, .nil, Nat.zero_le _, run1⟩
    rintro rfl
    exact ok1.fresh hA (List.mem_append_right _ ha)
  rintro i m H2 ⟨rfl, hi, S2, μ2, ys, acc, eh, ux2, hk2, ok2, eA, rep2, ly, run2⟩
  have memA : A ∈ (S2.plus A).hid := List.mem_append_right _ List.mem_cons_self
  have exF : ∀ {S3 : Pl} {μ3 : Mu} {H3 : Hp}, Ex (S2.plus A) μ2 H2 S3 μ3 H3 → ∃ S4 : Pl, S3 = S4.plus A ∧ S4.hid = S1.hid := fun {S3 _ _} ex => ⟨⟨S3.L, S1.hid⟩, by
    have h : S3.hid = S2.hid ++ [A] := ex.hid
    rw [eh] at h
    obtain ⟨l, hd⟩ := S3
    show Pl.mk l hd = Pl.mk l (S1.hid ++ [A])
    rw [← h], rfl⟩
  have hkF : ∀ {S3 : Pl} {μ3 : Mu} {H3 : Hp}, Ex (S2.plus A) μ2 H2 S3 μ3 H3 → ∀ a ∈ S1.hid, H3 a = H1 a := fun ex a ha => (ex.hk a (List.mem_append_left _ (by rw [eh]; exact ha))).trans (hk2 a ha)
  by_cases hlt : i < xs.length
  · rw [List.drop_eq_getElem_cons hlt] at run2
    obtain ⟨hv, run2⟩ := (run2 : inv μ2 ∧ ((W.opt (dg xs[i] (wipeD ε vs))).bnd fun ε1 => W.bnd (ft ε1) fun b => if b = true then W.bnd (fe ε1) fun y => W.bnd (lcW dg ft fe (wipeD ε vs) inv (xs.drop (i + 1))) fun ys => W.ret (y :: ys) else lcW dg ft fe (wipeD ε vs) inv (xs.drop (i + 1))).run
      (fun zs μ' => Post K dk S μ H Q (.lst (ys ++ zs)) μ') (fun _ _ => False) μ2)
    refine .inr ⟨itd.go ux2 ok2 hv hlt, fun H3 => ∃ (S3 : Pl) (μ3 : Mu) (ys : List D) (acc : List V), S3.hid = S1.hid ∧ Ux S1 μ1 H1 (S3.plus A) μ3 H3 ∧ (∀ a ∈ S1.hid, H3 a = H1 a) ∧ Ok K dk.p (S3.plus A) μ3 H3 ∧ H3 A = some (.lst acc) ∧
      RepA K (S3.plus A) μ3 H3 ys acc ∧ ys.length ≤ i + 1 ∧ (lcW dg ft fe (wipeD ε vs) inv (xs.drop (i + 1))).run (fun zs μ' => Post K dk S μ H Q (.lst (ys ++ zs)) μ') (fun _ _ => False) μ3,
      fun H' h => ⟨xs.length - (i + 1), by omega, rfl, hlt, h⟩, fun x H' hy => ?_⟩
    obtain ⟨exy, oky, repy⟩ := itd.yld ux2 ok2 hv (List.getElem?_eq_getElem hlt) hy
    cases hd : dg xs[i] (wipeD ε vs) with
    | none => rw [hd] at run2; exact run2.elim
    | some ε' =>
      rw [hd] at run2
      refine lg repy (((rs.ex ex1).ux (ux2.trans exy.ux)).wipe vs) hd fun σ3 rs3 w3 => ⟨w3.trans wipe_wipe, ε', S2.plus A, μ2, True.intro, oky, rs3, W.up (m := ft ε') run2 fun b μ3 run3 S3 H3 ex3 ok3 => ?_⟩
      have x3 := exy.trans ex3
      cases b with
      | false =>
        obtain ⟨S4, rfl, e4⟩ := exF x3
        exact ⟨S4, μ3, ys, acc, e4, ux2.trans x3.ux, hkF x3, ok3, (x3.hk A memA).trans eA, rep2.ex x3, by omega, run3⟩
      | true =>
        refine ⟨ε', S3, μ3, True.intro, ok3, rs3.ex ex3, W.up (m := fe ε') run3 fun y μ4 run4 v S4 H4 ex4 ok4 rep4 => ?_⟩
        have x4 := x3.trans ex4
        obtain ⟨S5, rfl, e5⟩ := exF x4
        have la := rep2.len
        have mem5 : A ∈ (S5.plus A).hid := List.mem_append_right _ List.mem_cons_self
        refine ⟨acc, (x4.hk A memA).trans eA, by omega, S5, μ4, ys ++ [y], acc ++ [v], e5, (ux2.trans x4.ux).trans (hid_ux mem5), fun a ha => ?_, hid_ok ok4 mem5, upd_same, ((rep2.ex x4).app (.cons rep4 .nil)).ux (hid_ux mem5), by rw [List.length_append]; show ys.length + 1 ≤ _; omega, ?_⟩
        · rw [upd_ne]
          · exact hkF x4 a ha
          · rintro rfl
            exact ok1.fresh hA (List.mem_append_right _ ha)
        · refine W.up (m := lcW dg ft fe (wipeD ε vs) inv (xs.drop (i + 1))) run4 fun zs μ5 q => ?_
          rw [List.append_assoc]
          exact q
  · rw [List.drop_eq_nil_of_le (by omega)] at run2
    refine .inl ⟨itd.stop ux2 ok2 run2.1 (Nat.le_antisymm hi (Nat.le_of_not_lt hlt)), ?_⟩
    have q : Post K dk S μ H Q (.lst (ys ++ [])) μ2 := run2.2
    rw [List.append_nil] at q
    refine q (.ref A) S2 H2 (ex1.trans ⟨ux2.L, eh, fun a o h n => ?_, hk2⟩) ok2.drop (.lst ⟨eA, dead_plus ok2⟩ (rep2.ux ux_drop))
    obtain ⟨h1, n1⟩ := ux2.keep a o h n
    exact ⟨h1, fun z => n1 (live_plus z)⟩
theorem de_lc {scope : Scope} {own : List (Str × Nat)} (hc : X.calm = true) (hN : X.N.Nodup) (hi : PI X tg iter (lowI X.K dk c fi)) (ok : BlkOk X.N X.env.scope scope own)
    (hg : ∀ (s : Shared) (H : Hp) (C : Addr) (cl : List (Str × Addr)) (fp : List Addr), PG (X.blk s H scope (compEnvC scope cl C X.env) fp) tg gg) (lg : LG X.K gg (own.map (·.2)) dg)
    (ht : ∀ (s : Shared) (H : Hp) (C : Addr) (cl : List (Str × Addr)) (fp : List Addr), PTs (X.blk s H scope (compEnvC scope cl C X.env) fp) ifs (lowT X.K dk (cF X.K dk) ft))
    (he : ∀ (s : Shared) (H : Hp) (C : Addr) (cl : List (Str × Addr)) (fp : List Addr), PE (X.blk s H scope (compEnvC scope cl C X.env) fp) elt (lowE X.K dk (cF X.K dk) fe)) (hs : ∀ x, foldedSetIterable iter X.env x = pure x := by intro _; rfl) :
    PE X (.ListComp elt [⟨tg, iter, ifs, 0⟩] scope pos) (lowE X.K dk c (dLc (own.map (·.2)) fi dg ft fe)) := pe_w (pe_lc hc hN hi ok hg ht he hs) fun _ _ _ q => low_lc lg q
theorem ds_setLc {i : Nat} {y : Str} {py : Pos} {scope : Scope} {own : List (Str × Nat)} {spos : Pos} (hc : X.calm = true) (hN : X.N.Nodup) (hy : X.N[i]? = some y) (hyl : X.env.scope.names.lookup y = some .local)
    (hsw : swapsWith (.ListComp elt [⟨tg, iter, ifs, 0⟩] scope pos) (some (.Name y py)) spos.line X.env = pure true) (hi : PI X tg iter (lowI X.K dk c fi)) (ok : BlkOk X.N X.env.scope scope own)
    (hg : ∀ (s : Shared) (H : Hp) (C : Addr) (cl : List (Str × Addr)) (fp : List Addr), PG (X.blk s H scope (compEnvC scope cl C X.env) fp) tg gg) (lg : LG X.K gg (own.map (·.2)) dg)
    (ht : ∀ (s : Shared) (H : Hp) (C : Addr) (cl : List (Str × Addr)) (fp : List Addr), PTs (X.blk s H scope (compEnvC scope cl C X.env) fp) ifs (lowT X.K dk (cF X.K dk) ft))
    (he : ∀ (s : Shared) (H : Hp) (C : Addr) (cl : List (Str × Addr)) (fp : List Addr), PE (X.blk s H scope (compEnvC scope cl C X.env) fp) elt (lowE X.K dk (cF X.K dk) fe)) (hs : ∀ x, foldedSetIterable iter X.env x = pure x := by intro _; rfl) :
    PS X (.Assign [.Name y py] (.ListComp elt [⟨tg, iter, ifs, 0⟩] scope pos) spos) (lowS X.K dk c (sSet i (dLc (own.map (·.2)) fi dg ft fe))) :=
  ps_w (ps_setLc hc hN hy hyl hsw hi ok hg ht he hs) fun Dn σ H ⟨ε, S, μ, lk, ok, rs, run⟩ => by
    have run : (dLc (own.map (·.2)) fi dg ft fe ε).run (fun d μ' => PostS X.K dk S μ H Dn (.nx (ε.set i (some d))) μ') c.E μ := run
    refine low_lc lg ⟨ε, S, μ, lk, ok, rs, W.up run fun d μ1 run1 v S1 H1 ex1 ok1 rep1 => ?_⟩
    exact run1 _ S1 H1 ex1 ok1 ((rs.ex ex1).set i rep1)
theorem dts_nil : PTs X [] (lowT X.K dk c dTrue) := ⟨fun pins s σ H Q I ⟨_, S, _, _, ok, _, q⟩ => pts_nil.run pins s σ H Q I (q S H Ex.refl ok)⟩
theorem dts_one {x : Expr} (h : PT X x (lowT X.K dk c ft)) : PTs X [x] (lowT X.K dk c ft) := pts_one h
end
end DL

/-! a tuple from behind; a tuple times nought or one -/
namespace X7
open PySem PySem.Spec PyProof.Rows L2 Kit HT
section
variable {prog : Program} {w : World} {A : Around} {E : Value → Shared → Prop} {s : Shared}
theorem adjust_rev (n : Nat) : Builtin.Slice.sliceAdjust none none (-1) (n : Int) = ((n : Int) - 1, -1) := by
  unfold Builtin.Slice.sliceAdjust
  rfl
theorem places_rev (n : Nat) : Builtin.Slice.slicePlaces ((n : Int) - 1) (-1) (-1) = n := by
  unfold Builtin.Slice.slicePlaces
  have h1 : ¬ ((-1 : Int) > 0) := by omega
  have e1 : (- -1 : Int) = 1 := by decide
  simp only [h1, if_false, e1, Int.ediv_one]
  split <;> omega
theorem pick_rev (xs : Array Value) : ((List.range xs.size).filterMap fun (m : Nat) => xs[(((xs.size : Int) - 1) + (m : Int) * -1).toNat]?).toArray = xs.toList.reverse.toArray := by
  have e : (fun (m : Nat) => xs[(((xs.size : Int) - 1) + (m : Int) * -1).toNat]?) = (fun i => xs[i]?) ∘ fun m => xs.size - 1 - m := by
    funext m
    show xs[(((xs.size : Int) - 1) + (m : Int) * -1).toNat]? = xs[xs.size - 1 - m]?
    congr 1
    omega
  rw [e, ← List.filterMap_map, PySem.W.krv_range, List.filterMap_reverse, PySem.W.krv_all]
theorem sliceApplied_rev {sl : Addr} {vs : Value} {n : Nat} {Q : Int × Int × Nat → Shared → Prop} (hs : s.heap.IsSliceOf sl .none .none vs) (ps : IsPart vs (some (-1)))
    (h : Q ((n : Int) - 1, -1, n) s) : wpAny (model prog w) A (Builtin.Slice.sliceApplied (.ref sl) (pure (n : Int))) Q E s := by
  obtain ⟨os, hos, hcs, hds⟩ := id hs
  unfold Builtin.Slice.sliceApplied Builtin.Slice.sliceFields
  refine wpAny_bind (wpAny_bind (wpAny_field hos hds (x := .none) rfl (wpAny_bind (wpAny_field hos hds (x := .none) rfl (wpAny_bind (wpAny_field hos hds (x := vs) rfl (wpAny_pure ?_)))))))
  refine wpAny_bind (slicePart_ ps ?_)
  show wpAny _ _ (if ((-1 : Int) == 0) = true then _ else _) _ _ s
  rw [if_neg (by decide)]
  refine wpAny_bind (slicePart_none (wpAny_bind (slicePart_none (wpAny_bind (wpAny_pure ?_)))))
  show wpAny _ _ (match Builtin.Slice.sliceAdjust none none (-1) (n : Int) with | (lo, hi) => pure (lo, (-1 : Int), Builtin.Slice.slicePlaces lo hi (-1))) _ _ s
  rw [adjust_rev n]
  show wpAny _ _ (pure ((n : Int) - 1, (-1 : Int), Builtin.Slice.slicePlaces ((n : Int) - 1) (-1) (-1))) _ _ s
  rw [places_rev]
  exact wpAny_pure h
theorem getItem_tuple_rev {t sl : Addr} {items : Array Value} {vs : Value} {Q : Value → Shared → Prop} (ht : IsTup s.heap t items) (hs : s.heap.IsSliceOf sl .none .none vs) (ps : IsPart vs (some (-1)))
    (h : Q (.ref s.heap.objs.size) { s with heap := s.heap.push { cls := .type "tuple", data := .seq items.toList.reverse.toArray } })
    (hsz : items.size ≤ sizeLine) : wpAny (model prog w) A (getItem (.ref t) (.ref sl)) Q E s := by
  have htake : sizeOk (.seq items.toList.reverse.toArray) := by
    show items.toList.reverse.toArray.size ≤ sizeLine
    rw [List.size_toArray, List.length_reverse, Array.length_toList]
    exact hsz
  obtain ⟨os, hos, hcs, hds⟩ := id hs
  have hTs : s.TypeIs (.ref sl) "slice" := ⟨os, hos, hcs⟩
  unfold getItem
  try with_reducible refine wpAny_holding ?_
  first | refine wpAny_bind (wpAny_pure ?_) | skip
  refine wpAny_bind (wpAny_sequenceKey ht.typeIs (by decide) ?_)
  refine wpAny_bind (wpAny_callSpecial?_slot (name := Str.ofString "__getitem__") ht.typeIs PyProof.Rows.slot_tuple_getitem
    (wpAny_call_entry PyProof.Rows.slot_tuple_getitem ht.typeIs entry_tuple_getitem ?_ (args_tuple_getitem _ _)))
  show wpAny _ _ (Builtin.Tuple.tupleItemsOf (.ref t) >>= _) _ _ s
  refine wpAny_bind (tupleItemsOf_ ht ?_)
  refine wpAny_bind (wpAny_typeOf hTs ?_)
  rw [if_pos (by decide)]
  refine wpAny_bind (sliceApplied_rev hs ps ?_)
  have hno : ¬ ((((items.size : Int) - 1) == 0 && (-1 : Int) == 1 && items.size == items.size) = true) := by
    intro q
    rw [Bool.and_eq_true, Bool.and_eq_true] at q
    exact absurd (eq_of_beq q.1.2) (by decide)
  show wpAny _ _ (if (((items.size : Int) - 1) == 0 && (-1 : Int) == 1 && items.size == items.size) = true then _ else _) _ _ s
  rw [if_neg hno, pick_rev]
  first
    | exact wpAny_bind (m := Builtin.Tuple.tupleExact _) (wpAny_newObj_type (wpAny_pure ⟨_, rfl, wpAny_pure h⟩) htake)
    | exact wpAny_bind (m := Builtin.Tuple.tupleExact _) (wpAny_newObj_type (wpAny_bind (wpAny_pure (wpAny_pure ⟨_, rfl, wpAny_pure h⟩))) htake)
    | exact wpAny_bind (wpAny_bind (m := Builtin.Tuple.tupleExact _) (wpAny_newObj_type (wpAny_pure (wpAny_pure ⟨_, rfl, wpAny_pure h⟩)) htake))
    | exact wpAny_bind (wpAny_bind (m := Builtin.Tuple.tupleExact _) (wpAny_newObj_type (wpAny_pure ⟨_, rfl, wpAny_pure h⟩) htake))
end
section
variable {X : Cx}
def tRevT (K : PySem.W.Frag) (te : TE) : TE := fun σ H Q => te σ H fun x H1 => ∃ a xs, x = .ref a ∧ SqT K H1 a xs ∧ ∀ p, H1 p = none → Q (.ref p) (upd H1 p (.tup xs.reverse))
theorem pe_revT {e : Expr} {te : TE} {k : Nat} {p1 p2 p3 pos : Pos} (he : PE X e te) : PE X (.Subscript e (.Slice none none (some (.UnaryOp .USub (.Constant (.int 1) k p1) p2)) p3) pos) (tRevT X.K te) := by
  refine ⟨fun pins s σ H Q I h => ?_⟩
  refine Subscript_ (thn (he.run pins s σ H _ I h) fun v s1 ⟨x, H1, I1, r1, q1⟩ => ?_)
  obtain ⟨a, xs, ex, hx, q⟩ := q1
  subst ex
  cases r1
  have hst : PO X (some (.UnaryOp .USub (.Constant (.int 1) k p1) p2)) (tPart (tUn (rU fun i => .int (-i)) (tC (.int 1)))) := po_some (pe_un un_neg pe_int)
  refine wpAny_Slice (thn (po_none.run pins s1 σ H1 (fun o H2 => o = none ∧ H2 = H1) I1 ⟨rfl, rfl⟩) fun vl s2 ⟨l, H2, I2, pl, el, e2⟩ => ?_)
  subst el e2
  refine thn (po_none.run pins s2 σ H2 (fun o H3 => o = none ∧ H3 = H2) I2 ⟨rfl, rfl⟩) fun vu s3 ⟨u, H3, I3, pu, eu, e3⟩ => ?_
  subst eu e3
  refine thn (hst.run pins s3 σ H3 (fun o H4 => o = some (-1) ∧ H4 = H3) I3 ⟨1, rfl, -1, rfl, rfl, rfl⟩) fun vs s4 ⟨o, H4, I4, ps, eo, e4⟩ => ?_
  subst eo e4
  have I5 : Inv X pins σ H4 { s4 with heap := s4.heap.push { cls := .type "slice", data := .fields #[vl, vu, vs] } } := I4.kept (t' := s4.toks) fun b ob q => Heap.get?_push_of_some _ q
  obtain ⟨its, r, ht, hz⟩ := I5.tuple hx
  have hlen : its.toArray.size = xs.length := by rw [List.size_toArray]; exact r.length.symm
  cases pl
  cases pu
  show wpAny (model X.prog X.w) X.A (subscriptTail e (.Slice none none (some (.UnaryOp .USub (.Constant (.int 1) k p1) p2)) p3) (.ref a) (.ref s4.heap.objs.size)) (EP X pins σ Q) X.xe { s4 with heap := s4.heap.push { cls := .type "slice", data := .fields #[.none, .none, vs] } }
  refine tail_any (ops := [.ref a, .ref s4.heap.objs.size]) ht.typeIs (PyProof.Rows.slot_tuple_getitem.lookup) ?_ (by with_unfolding_all rfl)
  refine getItem_tuple_rev ht (Heap.IsSliceOf.new _ .none .none vs) ps ?_ (by rw [hlen]; exact hz)
  refine ⟨.ref _, _, I5.laid (t' := s4.toks) (o := .tup xs.reverse) (fun b ob q => Heap.get?_push_of_some _ q) (Nat.le_refl _) ?_, rfl, q _ (I5.hok.fresh (Nat.le_refl _))⟩
  exact ⟨by rw [List.length_reverse]; exact hz, _, r.reverse, IsTup.new _ _⟩
end
end X7

namespace X7
open PySem PySem.Spec PyProof.Rows L2 Kit HT
theorem tuple_mul1 (l : Addr) (items : Array Value) (n : Nat) (dd : Option Addr) (sl : Array (Option Value)) (u : Tok) :
    Meets (Builtin.«tuple.__mul__» ⟨[.ref l, .int 1 u], []⟩) (fun _ R s => s.heap.get? l = some { cls := .type "tuple", dict := dd, data := .seq items n, slots := sl } ∧
      R (.ok (.ret (Value.ref l))) s) :=
  .of_wp fun prog w A R s h => by
    obtain ⟨hp, g, d, tk, os⟩ := s
    obtain ⟨hl, h⟩ := h
    have f1 := AutoSeq1.idx_int
    have c1 : (items.isEmpty || (1 : Int) == 1) = true := by simp
    wp_walk using wpAny_loadPart' hl
    repeat (first
      | (refine wpAny_ite_false (decide_eq_false (by decide)) ?_; wp_walk using wpAny_loadPart' hl)
      | (refine wpAny_ite_true (decide_eq_true (by rw [c1])) ?_; wp_walk using wpAny_loadPart' hl))
    exact ⟨_, rfl, h⟩
theorem tuple_mul0 (l : Addr) (items : Array Value) (n : Nat) (dd : Option Addr) (sl : Array (Option Value)) (u : Tok) (hi : items.isEmpty = false) :
    Meets (Builtin.«tuple.__mul__» ⟨[.ref l, .int 0 u], []⟩) (fun _ R s => s.heap.get? l = some { cls := .type "tuple", dict := dd, data := .seq items n, slots := sl } ∧
      R (.ok (.ret (Value.ref s.heap.objs.size))) { s with heap := s.heap.push { cls := Value.type "tuple", data := Data.seq #[] }, toks := s.toks }) :=
  .of_wp fun prog w A R s h => by
    obtain ⟨hp, g, d, tk, os⟩ := s
    obtain ⟨hl, h⟩ := h
    have f1 := AutoSeq1.idx_int
    have c1 : ¬ ((items.isEmpty || (0 : Int) == 1) = true) := by rw [hi]; decide
    have c2 : (decide ((0 : Int) ≤ 0) || items.isEmpty) = true := by simp
    wp_walk using wpAny_loadPart' hl
    repeat (first
      | (refine wpAny_ite_false (decide_eq_false c1) ?_; wp_walk using wpAny_loadPart' hl)
      | (refine wpAny_ite_false (decide_eq_false (by decide)) ?_; wp_walk using wpAny_loadPart' hl)
      | (refine wpAny_ite_true (decide_eq_true c2) ?_; wp_walk using wpAny_loadPart' hl))
    exact ⟨_, rfl, h⟩
def rRepT01 (K : PySem.W.Frag) : R2 := fun x y H Q => ∃ l k xs, x = .ref l ∧ y = .int k ∧ SqT K H l xs ∧ xs ≠ [] ∧ (k = 1 ∨ k = 0) ∧ (k = 1 → Q (.ref l) H) ∧ (k = 0 → ∀ p, H p = none → Q (.ref p) (upd H p (.tup [])))
theorem op_repT01 {X : Cx} : OpR X (binaryOp .Mult) (rRepT01 X.K) := by
  intro pins s σ H x y v u Q I rx ry h
  obtain ⟨l, k, xs, rfl, rfl, hT, hne, hk, q1, q0⟩ := h
  cases rx
  obtain ⟨t, rfl⟩ := ry
  obtain ⟨its, r, ⟨⟨cls, dd, data, sl⟩, ho, hc, n, hd⟩, hs⟩ := I.tuple hT
  simp only at hc hd
  subst hc hd
  have hle : its.length = xs.length := r.length.symm
  have hn : its ≠ [] := fun e => hne (by
    rw [e] at hle
    exact List.eq_nil_of_length_eq_zero hle.symm)
  have hi : its.toArray.isEmpty = false := by
    cases its with
    | nil => exact absurd rfl hn
    | cons a b => rfl
  rcases hk with rfl | rfl
  · exact wpAny_binaryOp_repeat_ref (T := "tuple") (U := "int") (by decide) ⟨_, ho, rfl⟩ (fun s' => typeIs_int s' 1 t) noFill_tuple_mul F.fills_int_mul F.slot_int_rmul repeat_tuple F.slot_int_index.lookup
      (call_meets F.slot_int_rmul (typeIs_int s 1 t) F.entry_int_rmul (F.args_int_rmul_2 _ _) (int_rmul_tuple 1 t l its.toArray n dd sl)
        ⟨ho, rfl, ⟨_, ho, rfl⟩, call_meets F.slot_tuple_mul ⟨_, ho, rfl⟩ F.entry_tuple_mul (F.args_tuple_mul_2 _ _) (tuple_mul1 l its.toArray n dd sl t) ⟨ho, ⟨.ref l, H, I, rfl, q1 rfl⟩⟩⟩)
  · refine wpAny_binaryOp_repeat_ref (T := "tuple") (U := "int") (by decide) ⟨_, ho, rfl⟩ (fun s' => typeIs_int s' 0 t) noFill_tuple_mul F.fills_int_mul F.slot_int_rmul repeat_tuple F.slot_int_index.lookup
      (call_meets F.slot_int_rmul (typeIs_int s 0 t) F.entry_int_rmul (F.args_int_rmul_2 _ _) (int_rmul_tuple 0 t l its.toArray n dd sl)
        ⟨ho, rfl, ⟨_, ho, rfl⟩, call_meets F.slot_tuple_mul ⟨_, ho, rfl⟩ F.entry_tuple_mul (F.args_tuple_mul_2 _ _) (tuple_mul0 l its.toArray n dd sl t hi) ⟨ho, ?_⟩⟩)
    refine ⟨.ref s.heap.objs.size, _, I.laid (t' := s.toks) (o := .tup []) (fun b ob q => Heap.get?_push_of_some _ q) (Nat.le_refl _) ?_, rfl, q0 rfl _ (I.hok.fresh (Nat.le_refl _))⟩
    exact ⟨by decide, _, .nil, IsTup.new _ _⟩
end X7

/-! () + t: t itself -/
namespace X10
open PySem PySem.Spec PyProof.Rows L2 Kit HT
theorem tuple_addW0 (t b : Addr) (vs ws : Array Value) (n n2 : Nat) (dd dd2 : Option Addr) (sl sl2 : Array (Option Value)) (hc0 : vs.isEmpty = true) :
    Meets (Builtin.«tuple.__add__» ⟨[.ref t, .ref b], []⟩) (fun _ R s => s.heap.get? t = some { cls := .type "tuple", dict := dd, data := .seq vs n, slots := sl } ∧
      s.heap.get? b = some { cls := .type "tuple", dict := dd2, data := .seq ws n2, slots := sl2 } ∧ R (.ok (.ret (Value.ref b))) s) :=
  .of_wp fun prog w A R s h => by
    obtain ⟨hp, g, d, tk, os⟩ := s
    obtain ⟨hl, hb, h⟩ := h
    have f1 := AutoSeq1.idx_int
    have f2 := AutoSeq1.sub_tuple_tuple
    wp_walk using wpAny_loadPart' hl, wpAny_loadPart' hb
    exact ⟨_, rfl, h⟩
def rCatT0 (K : PySem.W.Frag) : R2 := fun x y H Q => ∃ a b ys, x = .ref a ∧ y = .ref b ∧ SqT K H a [] ∧ SqT K H b ys ∧ Q (.ref b) H
theorem op_catT0 {X : Cx} : OpR X (binaryOp .Add) (rCatT0 X.K) := by
  intro pins s σ H x y v u Q I rx ry h
  obtain ⟨a, b, ys, rfl, rfl, ha, hb, q⟩ := h
  cases rx
  cases ry
  obtain ⟨its, r1, ⟨⟨cls, dd, data, sl⟩, ho, hc, n, hd⟩, _⟩ := I.tuple ha
  obtain ⟨its2, r2, ⟨⟨cls2, dd2, data2, sl2⟩, ho2, hc2, n2, hd2⟩, _⟩ := I.tuple hb
  simp only at hc hd hc2 hd2
  subst hc hd hc2 hd2
  cases r1
  exact concat_meets ⟨_, ho, rfl⟩ ⟨_, ho2, rfl⟩ noFill_tuple_add seq_tuple_add PySem.F.slot_tuple_add PySem.F.entry_tuple_add (PySem.F.args_tuple_add_2 _ _)
    (tuple_addW0 a b _ its2.toArray n n2 dd dd2 sl sl2 rfl) ⟨ho, ho2, ⟨.ref b, H, I, rfl, q⟩⟩
/-- t + u of any two -/
def rCatTA (K : PySem.W.Frag) : R2 := fun x y H Q => rCatT0 K x y H Q ∨ rCatT K x y H Q
theorem op_catTA {X : Cx} : OpR X (binaryOp .Add) (rCatTA X.K) := by
  intro pins s σ H x y v u Q I rx ry h
  rcases h with h | h
  · exact op_catT0 pins s σ H x y v u Q I rx ry h
  · exact op_catT pins s σ H x y v u Q I rx ry h
end X10

/-! a slice that is the whole tuple: the same object -/
namespace X9
open PySem PySem.Spec PyProof.Rows L2 Kit HT
section
variable {prog : Program} {w : World} {A : Around} {E : Value → Shared → Prop} {s : Shared}
theorem getItem_tuple_whole {t sl : Addr} {items : Array Value} {vl vu : Value} {lo hi : Option Int} {Q : Value → Shared → Prop} (ht : IsTup s.heap t items) (hs : s.heap.IsSliceOf sl vl vu .none) (pl : IsPart vl lo) (pu : IsPart vu hi)
    (hw : sIx items.size 0 lo = 0 ∧ sIx items.size items.size hi = items.size)
    (h : Q (.ref t) s)
    (hsz : items.size ≤ sizeLine) : wpAny (model prog w) A (getItem (.ref t) (.ref sl)) Q E s := by
  obtain ⟨os, hos, hcs, hds⟩ := id hs
  have hTs : s.TypeIs (.ref sl) "slice" := ⟨os, hos, hcs⟩
  unfold getItem
  try with_reducible refine wpAny_holding ?_
  first | refine wpAny_bind (wpAny_pure ?_) | skip
  refine wpAny_bind (wpAny_sequenceKey ht.typeIs (by decide) ?_)
  refine wpAny_bind (wpAny_callSpecial?_slot (name := Str.ofString "__getitem__") ht.typeIs PyProof.Rows.slot_tuple_getitem
    (wpAny_call_entry PyProof.Rows.slot_tuple_getitem ht.typeIs entry_tuple_getitem ?_ (args_tuple_getitem _ _)))
  show wpAny _ _ (Builtin.Tuple.tupleItemsOf (.ref t) >>= _) _ _ s
  refine wpAny_bind (tupleItemsOf_ ht ?_)
  refine wpAny_bind (wpAny_typeOf hTs ?_)
  rw [if_pos (by decide)]
  refine wpAny_bind (sliceApplied_gen hs pl pu ?_)
  have hno : ((((sIx items.size 0 lo : Nat) : Int) == 0 && (1 : Int) == 1 && (sIx items.size items.size hi - sIx items.size 0 lo) == items.size) = true) := by
    rw [hw.1, hw.2, Nat.sub_zero]
    simp
  show wpAny _ _ (if (((sIx items.size 0 lo : Nat) : Int) == 0 && (1 : Int) == 1 && (sIx items.size items.size hi - sIx items.size 0 lo) == items.size) = true then _ else _) _ _ s
  rw [if_pos hno]
  have he : ∀ {Q' : Bool → Shared → Prop}, Q' true s → wpAny (model prog w) A.in1 (Builtin.Tuple.tupleIsExact (.ref t)) Q' E s := by
    intro Q' q'
    unfold Builtin.Tuple.tupleIsExact
    refine wpAny_bind (wpAny_typeOf ht.typeIs ?_)
    exact wpAny_pure q'
  refine wpAny_bind (he ?_)
  rw [if_pos rfl]
  first
    | exact wpAny_bind (wpAny_rule (wpAny_pure ⟨_, rfl, wpAny_pure h⟩))
end
def whole (n : Nat) (lo hi : Option Int) : Prop := HT.sIx n 0 lo = 0 ∧ HT.sIx n n hi = n
/-- t[lo:hi]: the whole is t itself -/
def rSlTA (K : PySem.W.Frag) : V → Option Int → Option Int → Hp → VK → Prop := fun x lo hi H Q => ∃ a xs, x = .ref a ∧ SqT K H a xs ∧
  (whole xs.length lo hi → Q (.ref a) H) ∧ (¬ whole xs.length lo hi → ∀ p, H p = none → Q (.ref p) (upd H p (.tup (cutV xs lo hi))))
theorem sl_tupA {X : Cx} : SlR X (rSlTA X.K) := by
  intro pins s σ H x v vl vu lo hi sl Q I rx hs pl pu h
  obtain ⟨a, xs, rfl, hx, q1, q2⟩ := h
  by_cases hw : whole xs.length lo hi
  · cases rx
    obtain ⟨its, r, ht, hz⟩ := I.tuple hx
    have hlen : its.toArray.size = xs.length := by rw [List.size_toArray]; exact r.length.symm
    refine ⟨"tuple", _, PyProof.Rows.slot_tuple_getitem.lookup, ht.typeIs, ?_⟩
    exact getItem_tuple_whole ht hs pl pu (by rw [hlen]; exact hw) ⟨.ref a, H, I, rfl, q1 hw⟩ (by rw [hlen]; exact hz)
  · exact sl_tup pins s σ H _ v vl vu lo hi sl Q I rx hs pl pu ⟨a, xs, rfl, hx, hw, q2 hw⟩
end X9

/-! max of a list whose items lie in the heap (pairs of whole numbers), and max with a default -/
namespace PySem
namespace Mx
open PySem.W PyProof.Rows
/-- all but the iterator and the list of the best stands as it stood -/
def Kp (I S : Addr) (h0 h : Heap) : Prop := ∀ b o, b ≠ I → b ≠ S → h0.get? b = some o → h.get? b = some o
theorem Kp.refl (I S : Addr) (h : Heap) : Kp I S h h := fun _ _ _ _ e => e
theorem Kp.list {I S l : Addr} {h0 h : Heap} {its : Array Value} (k : Kp I S h0 h) (n1 : l ≠ I) (n2 : l ≠ S) (e : h0.IsList l its) : h.IsList l its := e.at fun o q => k l o n1 n2 q
section
variable {prog : Program} {w : World} {A : Around} {R : Result → Shared → Prop} {I S l : Addr} {its : Array Value} {bt : Nat → Nat → Bool} {kws : List (Str × Value)} {h0 : Heap}
def CmpIn (prog : Program) (w : World) (A : Around) (I S : Addr) (h0 : Heap) (its : Array Value) (bt : Nat → Nat → Bool) : Prop :=
  ∀ (i j : Nat) (u v : Value) (s : Shared) (Q : Value → Shared → Prop) (E : Value → Shared → Prop), Kp I S h0 s.heap → its[i]? = some u → its[j]? = some v → Q (.bool (bt i j)) s → wpAny (model prog w) A (richCompare .Gt u v) Q E s
theorem loop (hh : A.in1.handled = none) (n1 : l ≠ I) (n2 : l ≠ S) (n3 : S ≠ I) (hl : h0.IsList l its) (hc : CmpIn prog w A.in1 I S h0 its bt) :
    ∀ (k j : Nat) (s : Shared) (vb : Value) (c : Nat), its.size - (j + 1) = k → j + 1 ≤ its.size → s.heap.IsListIter I l (j + 1) → Kp I S h0 s.heap → its[argBest bt j]? = some vb →
      s.heap.get? S = some { cls := .type "list", dict := none, data := .seq #[vb, vb] c, slots := #[] } →
      (∀ v h' tk, its[argBest bt (its.size - 1)]? = some v → Kp I S h0 h' → R (.ok (.ret v)) { s with heap := h', toks := tk }) →
      codeAny (model prog w) A (.builtin "max.loop" ⟨[.ref I, .none, .ref S], kws⟩) R s := by
  have W := Walks.list (prog := prog) (w := w) (A := A.in1) hh I l n1 its
  have nm : (toString "max" ++ toString ".loop" : String) = "max.loop" := by decide
  have SnI : S ∉ [I] := by simp [n3]
  intro k
  induction k with
  | zero =>
    intro j s vb c hk hj it kp pb hS hR
    have e : j + 1 = its.size := by omega
    apply codeAny_builtin F.entry_max_loop
    rw [Around.under_plainId F.plain_max_loop _]
    change wpAny _ A.in1 (seqItems? (.ref S) >>= _) _ _ s
    refine wpAny_bind (wpAny_seqItems hS rfl ?_)
    change wpAny _ A.in1 (tryCatch (pyNext (.ref I)) _ >>= _) _ _ s
    refine wpAny_bind (wpAny_tryCatch (W.done s _ _ (e ▸ ⟨it, kp.list n1 n2 hl⟩) fun h' tk kk => ?_))
    change wpAny _ A.in1 (updateSeq S (fun _ => #[]) >>= _) _ _ _
    refine wpAny_bind (wpAny_updateSeq (kk S _ SnI hS) rfl (wpAny_bind (wpAny_letGo (wpAny_pure (hR vb _ tk (by rw [← e]; exact pb) ?_)))))
    intro b o h1 h2 q
    exact (Heap.get?_update_other _ _ (Ne.symm h2)).trans (kk b o (by simp [h1]) (kp b o h1 h2 q))
  | succ k ih =>
    intro j s vb c hk hj it kp pb hS hR
    have lt : j + 1 < its.size := by omega
    apply codeAny_builtin F.entry_max_loop
    rw [Around.under_plainId F.plain_max_loop _]
    change wpAny _ A.in1 (seqItems? (.ref S) >>= _) _ _ s
    refine wpAny_bind (wpAny_seqItems hS rfl ?_)
    change wpAny _ A.in1 (tryCatch (pyNext (.ref I)) _ >>= _) _ _ s
    refine wpAny_bind (wpAny_tryCatch (W.item (j + 1) s _ _ lt ⟨it, kp.list n1 n2 hl⟩ fun v h' tk pv st kk => ?_))
    have hS' := kk S _ SnI hS
    have kp' : Kp I S h0 h' := fun b o h1 h2 q => kk b o (by simp [h1]) (kp b o h1 h2 q)
    change wpAny _ A.in1 (tryCatch (holding [v, v] (richCompare .Gt v vb >>= _)) _ >>= _) _ _ _
    refine wpAny_bind (wpAny_tryCatch (wpAny_holding (wpAny_bind (hc (j + 1) (argBest bt j) v vb _ _ _ kp' pv pb ?_))))
    refine wpAny_bind (wpAny_holding (wpAny_truthy_bool (wpAny_bind (wpAny_letGo (wpAny_pure ?_)))))
    cases hb : bt (j + 1) (argBest bt j) with
    | true =>
      simp only [if_true]
      refine wpAny_bind (wpAny_updateSeq hS' rfl (wpAny_bind (wpAny_letGo ?_)))
      rw [nm]
      refine wpAny_pure ⟨plainId_quiet F.plain_max_loop _, ih (j + 1) _ v _ (by omega) lt ?_ ?_ ?_ (Heap.get?_update_self _ hS' rfl) fun v' h2 tk2 p2 k2 => hR v' h2 tk2 p2 k2⟩
      · exact st.1.at fun o q => (Heap.get?_update_other _ _ n3).trans q
      · exact fun b o h1 h2 q => (Heap.get?_update_other _ _ (Ne.symm h2)).trans (kp' b o h1 h2 q)
      · simp only [argBest, hb, if_true]
        exact pv
    | false =>
      simp only [Bool.false_eq_true, if_false]
      refine wpAny_bind (wpAny_letGo ?_)
      rw [nm]
      refine wpAny_pure ⟨plainId_quiet F.plain_max_loop _, ih (j + 1) _ vb c (by omega) lt st.1 kp' ?_ hS' fun v' h2 tk2 p2 k2 => hR v' h2 tk2 p2 k2⟩
      simp only [argBest, hb, Bool.false_eq_true, if_false]
      exact pb
theorem first (hh : A.in1.handled = none) (n1 : l ≠ I) (n2 : l ≠ S) (n3 : S ≠ I) (hl : h0.IsList l its) (hc : CmpIn prog w A.in1 I S h0 its bt) {s : Shared} {c : Nat} (h1 : 0 < its.size)
    (it : s.heap.IsListIter I l 0) (kp : Kp I S h0 s.heap) (hS : s.heap.get? S = some { cls := .type "list", dict := none, data := .seq #[] c, slots := #[] })
    (hR : ∀ v h' tk, its[argBest bt (its.size - 1)]? = some v → Kp I S h0 h' → R (.ok (.ret v)) { s with heap := h', toks := tk }) :
    codeAny (model prog w) A (.builtin "max.loop" ⟨[.ref I, .none, .ref S], kws⟩) R s := by
  have W := Walks.list (prog := prog) (w := w) (A := A.in1) hh I l n1 its
  have nm : (toString "max" ++ toString ".loop" : String) = "max.loop" := by decide
  have SnI : S ∉ [I] := by simp [n3]
  apply codeAny_builtin F.entry_max_loop
  rw [Around.under_plainId F.plain_max_loop _]
  change wpAny _ A.in1 (seqItems? (.ref S) >>= _) _ _ s
  refine wpAny_bind (wpAny_seqItems hS rfl ?_)
  change wpAny _ A.in1 (tryCatch (pyNext (.ref I)) _ >>= _) _ _ s
  refine wpAny_bind (wpAny_tryCatch (W.item 0 s _ _ h1 ⟨it, kp.list n1 n2 hl⟩ fun v h' tk pv st kk => ?_))
  have hS' := kk S _ SnI hS
  have kp' : Kp I S h0 h' := fun b o h1 h2 q => kk b o (by simp [h1]) (kp b o h1 h2 q)
  change wpAny _ A.in1 (updateSeq S (fun _ => #[v, v]) >>= _) _ _ _
  refine wpAny_bind (wpAny_updateSeq hS' rfl ?_)
  rw [nm]
  refine wpAny_pure ⟨plainId_quiet F.plain_max_loop _, loop hh n1 n2 n3 hl hc _ 0 _ v _ rfl h1 ?_ ?_ pv (Heap.get?_update_self _ hS' rfl) fun v' h2 tk2 p2 k2 => hR v' h2 tk2 p2 k2⟩
  · exact st.1.at fun o q => (Heap.get?_update_other _ _ n3).trans q
  · exact fun b o h1 h2 q => (Heap.get?_update_other _ _ (Ne.symm h2)).trans (kp' b o h1 h2 q)
/-- of nothing: the default -/
theorem none_at (hh : A.in1.handled = none) (n1 : l ≠ I) (hl : h0.IsList l #[]) {s : Shared} {c : Nat} {d : Value} (n2 : l ≠ S) (n3 : S ≠ I)
    (it : s.heap.IsListIter I l 0) (kp : Kp I S h0 s.heap) (hS : s.heap.get? S = some { cls := .type "list", dict := none, data := .seq #[] c, slots := #[] })
    (hR : ∀ h' tk, Kp I S h0 h' → R (.ok (.ret d)) { s with heap := h', toks := tk }) :
    codeAny (model prog w) A (.builtin "max.loop" ⟨[.ref I, .none, .ref S], [("default", d)]⟩) R s := by
  have W := Walks.list (prog := prog) (w := w) (A := A.in1) hh I l n1 #[]
  apply codeAny_builtin F.entry_max_loop
  rw [Around.under_plainId F.plain_max_loop _]
  change wpAny _ A.in1 (seqItems? (.ref S) >>= _) _ _ s
  refine wpAny_bind (wpAny_seqItems hS rfl ?_)
  change wpAny _ A.in1 (tryCatch (pyNext (.ref I)) _ >>= _) _ _ s
  refine wpAny_bind (wpAny_tryCatch (W.done s _ _ ⟨it, kp.list n1 n2 hl⟩ fun h' tk kk => ?_))
  have kp' : Kp I S h0 h' := fun b o h1 h2 q => kk b o (by simp [h1]) (kp b o h1 h2 q)
  wp_walk
  exact hR h' tk kp'
end
section
variable {prog : Program} {w : World} {A : Around} {E : Value → Shared → Prop} {s : Shared} {l : Addr} {its : Array Value} {bt : Nat → Nat → Bool} {kws : List (Str × Value)} {df : Option Value} {Q : Value → Shared → Prop}
theorem to_loop (ha : argsOk "max" ⟨[.ref l], kws⟩) (hb : Builtin.Builtins.bindParams "max" ["key", "default"] 0 ⟨[], kws⟩ = pure [none, df]) (hk : df.toList.map (fun d => (("default" : Str), d)) = kws) (hl : s.heap.IsList l its)
    (h : ∀ (s2 : Shared) (I S : Addr), s2.gens = s.gens → s2.drawn = s.drawn → s2.os = s.os → l ≠ I → l ≠ S → S ≠ I → (∀ b o, s.heap.get? b = some o → b ≠ I ∧ b ≠ S) → s2.heap.IsListIter I l 0 → Kp I S s.heap s2.heap →
      s2.heap.get? S = some { cls := .type "list", dict := none, data := .seq #[] 0, slots := #[] } →
      codeAny (model prog w) A (.builtin "max.loop" ⟨[.ref I, .none, .ref S], kws⟩) (fun r s' => match r with | .ok (.ret v) => Q v s' | .ok _ => False | .error e => E e s') s2) :
    wpAny (model prog w) A (call (.builtin "max") [.ref l] kws) Q E s := by
  have nm : (toString "max" ++ toString ".loop" : String) = "max.loop" := by decide
  have ll : l < s.heap.objs.size := by
    obtain ⟨_, e, _⟩ := hl
    exact Heap.lt_size e
  refine wpAny_call (codeAny_call_builtin F.plain_max F.entry_max ?_)
  simp only [checkBuiltinCall, F.kind_max]
  have fin : wpAny (model prog w) A.in1 (Builtin.«max» ⟨[.ref l], kws⟩) (fun fin s' => match fin with
      | .done f => (match (Except.ok f : Result) with | .ok (.ret v) => Q v s' | .ok _ => False | .error e => E e s')
      | .again c' => c'.quiet = true ∧ codeAny (model prog w) A c' (fun r s' => match r with | .ok (.ret v) => Q v s' | .ok _ => False | .error e => E e s') s') E s := by
    change wpAny _ A.in1 (Builtin.Builtins.bindParams "max" ["key", "default"] 0 ⟨[], kws⟩ >>= _) _ _ s
    refine wpAny_bind (wpAny_of_eq hb ?_)
    refine wpAny_bind (wpAny_pure ?_)
    refine wpAny_bind (wpAny_pyIter_list hl ?_)
    refine wpAny_bind (wpAny_newObj_type ?_)
    rw [nm, hk]
    refine wpAny_pure ⟨plainId_quiet F.plain_max_loop _, h _ s.heap.objs.size _ rfl rfl rfl (Nat.ne_of_lt ll) ?_ ?_ ?_ ?_ ?_ (Heap.get?_push_size _ rfl)⟩
    · rw [Heap.size_push]
      exact Nat.ne_of_lt (Nat.lt_succ_of_lt ll)
    · rw [Heap.size_push]
      exact Nat.succ_ne_self _
    · intro b o e
      rw [Heap.size_push]
      exact ⟨Nat.ne_of_lt (Heap.lt_size e), Nat.ne_of_lt (Nat.lt_succ_of_lt (Heap.lt_size e))⟩
    · exact ⟨_, Heap.get?_push_of_some _ (Heap.get?_push_size _ rfl), rfl, rfl⟩
    · exact fun b o _ _ e => Heap.get?_push_of_some _ (Heap.get?_push_of_some _ e)
  cases hsig : Manifest.signature? "max" with
  | none => exact wpAny_pure fin
  | some sig =>
    simp only [argsOk, hsig] at ha
    have h2 : Bind.checkArgs "max" sig ⟨[.ref l], kws⟩ = pure () := ha
    change wpAny _ A.in1 (Bind.checkArgs "max" sig ⟨[.ref l], kws⟩) _ _ s
    rw [h2]
    exact wpAny_pure fin
theorem kept_all {I S : Addr} {h h' : Heap} (f : ∀ b o, h.get? b = some o → b ≠ I ∧ b ≠ S) (k : Kp I S h h') : ∀ b o, h.get? b = some o → h'.get? b = some o := fun b o e => k b o (f b o e).1 (f b o e).2 e
theorem args_def (a d : Value) : argsOk "max" ⟨[a], [("default", d)]⟩ := by
  unfold argsOk
  kernel_rfl
theorem bind_def (d : Value) : Builtin.Builtins.bindParams "max" ["key", "default"] 0 ⟨[], [("default", d)]⟩ = pure [none, some d] := by kernel_rfl
theorem bind_0 : Builtin.Builtins.bindParams "max" ["key", "default"] 0 ⟨[], []⟩ = pure [none, none] := by kernel_rfl
end
end Mx
end PySem
namespace L2
open PySem PySem.Spec PyProof.Rows Kit
/-- pairs of whole numbers, one above the other -/
def pgt (p q : Int × Int) : Bool := decide (q.1 < p.1) || (decide (p.1 = q.1) && decide (q.2 < p.2))
theorem pgt_tr {p q r : Int × Int} (h1 : pgt p q = false) (h2 : pgt q r = false) : pgt p r = false := by
  obtain ⟨a, b⟩ := p
  obtain ⟨c, d⟩ := q
  obtain ⟨e, f⟩ := r
  simp only [pgt, Bool.or_eq_false_iff, Bool.and_eq_false_iff, decide_eq_false_iff_not] at *
  omega
theorem pgt_as {p q : Int × Int} (h : pgt p q = true) : pgt q p = false := by
  obtain ⟨a, b⟩ := p
  obtain ⟨c, d⟩ := q
  simp only [pgt, Bool.or_eq_false_iff, Bool.and_eq_false_iff, decide_eq_false_iff_not, Bool.or_eq_true, Bool.and_eq_true, decide_eq_true_eq] at *
  omega
theorem pgt_ir (p : Int × Int) : pgt p p = false := by
  obtain ⟨a, b⟩ := p
  simp [pgt]
theorem best_of (f : Nat → Int × Int) : ∀ k, argBest (fun i j => pgt (f i) (f j)) k ≤ k ∧ ∀ i, i ≤ k → pgt (f i) (f (argBest (fun i j => pgt (f i) (f j)) k)) = false
  | 0 => ⟨Nat.le_refl _, fun i hi => by
    have e : i = 0 := by omega
    subst e
    exact pgt_ir _⟩
  | k + 1 => by
    obtain ⟨h1, h2⟩ := best_of f k
    rw [show argBest (fun i j => pgt (f i) (f j)) (k + 1) = if pgt (f (k + 1)) (f (argBest (fun i j => pgt (f i) (f j)) k)) = true then k + 1 else argBest (fun i j => pgt (f i) (f j)) k from rfl]
    cases hb : pgt (f (k + 1)) (f (argBest (fun i j => pgt (f i) (f j)) k)) with
    | true =>
      rw [if_pos rfl]
      refine ⟨Nat.le_refl _, fun i hi => ?_⟩
      rcases Nat.lt_or_ge k i with h | h
      · have e : i = k + 1 := by omega
        subst e
        exact pgt_ir _
      · exact pgt_tr (h2 i h) (pgt_as hb)
    | false =>
      rw [if_neg Bool.false_ne_true]
      refine ⟨Nat.le_succ_of_le h1, fun i hi => ?_⟩
      rcases Nat.lt_or_ge k i with h | h
      · have e : i = k + 1 := by omega
        subst e
        exact hb
      · exact h2 i h
theorem best_int (f : Nat → Int) : ∀ k, argBest (fun i j => decide (f i > f j)) k ≤ k ∧ ∀ i, i ≤ k → f i ≤ f (argBest (fun i j => decide (f i > f j)) k)
  | 0 => ⟨Nat.le_refl _, fun i hi => by
    have e : i = 0 := by omega
    subst e
    exact Int.le_refl _⟩
  | k + 1 => by
    obtain ⟨h1, h2⟩ := best_int f k
    rw [show argBest (fun i j => decide (f i > f j)) (k + 1) = if decide (f (k + 1) > f (argBest (fun i j => decide (f i > f j)) k)) = true then k + 1 else argBest (fun i j => decide (f i > f j)) k from rfl]
    by_cases hb : f (k + 1) > f (argBest (fun i j => decide (f i > f j)) k)
    · rw [if_pos (decide_eq_true hb)]
      refine ⟨Nat.le_refl _, fun i hi => ?_⟩
      rcases Nat.lt_or_ge k i with h | h
      · have e : i = k + 1 := by omega
        subst e
        exact Int.le_refl _
      · have := h2 i h
        omega
    · rw [if_neg (by rw [decide_eq_false hb]; exact Bool.false_ne_true)]
      refine ⟨Nat.le_succ_of_le h1, fun i hi => ?_⟩
      rcases Nat.lt_or_ge k i with h | h
      · have e : i = k + 1 := by omega
        subst e
        omega
      · exact h2 i h
section
variable {X : Cx}
theorem cmp_pair {A : Around} {s : Shared} {a b : Addr} {p q : Int × Int} {t1 t2 t3 t4 : Tok} (ha : s.heap.IsTuple a #[.int p.1 t1, .int p.2 t2]) (hb : s.heap.IsTuple b #[.int q.1 t3, .int q.2 t4]) (hu : A.units < cLine) :
    Ob.RcOp .Gt A s (.ref a) (.ref b) (pgt p q) := by
  have h := Ob.RcOp.tuples_gt (A := A) (e := fun j => if j = 0 then p.1 == q.1 else p.2 == q.2) (r := fun j => if j = 0 then decide (q.1 < p.1) else decide (q.2 < p.2)) ha hb hu ?_ ?_
  · have e : Ob.lexAt (fun j => if j = 0 then p.1 == q.1 else p.2 == q.2) (fun j => if j = 0 then decide (q.1 < p.1) else decide (q.2 < p.2)) (decide ((#[Value.int p.1 t1, .int p.2 t2] : Array Value).size > (#[Value.int q.1 t3, .int q.2 t4] : Array Value).size)) 0
        (min (#[Value.int p.1 t1, .int p.2 t2] : Array Value).size (#[Value.int q.1 t3, .int q.2 t4] : Array Value).size) = pgt p q := by
      change (if (p.1 == q.1) = true then (if (p.2 == q.2) = true then decide (2 > 2) else decide (q.2 < p.2)) else decide (q.1 < p.1)) = pgt p q
      unfold pgt
      by_cases h1 : p.1 = q.1
      · by_cases h2 : p.2 = q.2
        · simp [h1, h2]
        · simp [h1, h2]
      · simp [h1]
    rw [e] at h
    exact h
  · intro j h1 h2
    match j, h1, h2 with
    | 0, _, _ => exact SeqAt.EqAt.int_int _ _ _ _
    | 1, _, _ => exact SeqAt.EqAt.int_int _ _ _ _
  · intro j h1 h2 _
    match j, h1, h2 with
    | 0, _, _ => exact Ob.RcOp.gt_int _ _ _ _
    | 1, _, _ => exact Ob.RcOp.gt_int _ _ _ _
/-- max of a list of pairs -/
def rMaxP (K : PySem.W.Frag) : List V → Hp → VK → Prop := fun vs H Q => ∃ (a : Addr) (rs : List Addr) (ps : List (Int × Int)), vs = [.ref a] ∧ SqL K H a (rs.map V.ref) ∧ rs.length = ps.length ∧ 0 < ps.length ∧
  (∀ (i : Nat) (r : Addr) (p : Int × Int), rs[i]? = some r → ps[i]? = some p → SqT K H r [.int p.1, .int p.2]) ∧
  ∀ (i : Nat) (r : Addr) (p : Int × Int), rs[i]? = some r → ps[i]? = some p → (∀ q ∈ ps, pgt q p = false) → Q (.ref r) H
theorem call_maxP (hc : X.calm = true) (hu : X.A.units + 64 < cLine) : CallR X (.builtin "max") (rMaxP X.K) := by
  intro pins s σ H vs us Q I r h
  obtain ⟨a, rs, ps, rfl, hs, hl, h0, ht, q⟩ := h
  obtain ⟨its, rv, pl, _⟩ := I.list hs
  rw [Vals.ref1 r]
  have li := pl.isList
  have hn : its.toArray.size = ps.length := by
    have e1 := Paired.length rv
    rw [List.length_map, hl] at e1
    have e2 : its.toArray.size = its.length := List.size_toArray
    omega
  have at_ : ∀ (i : Nat) (v : Value), its.toArray[i]? = some v → ∃ (r : Addr) (p : Int × Int) (t1 t2 : Tok), rs[i]? = some r ∧ ps[i]? = some p ∧ v = .ref r ∧ s.heap.IsTuple r #[.int p.1 t1, .int p.2 t2] := by
    intro i v hv
    have hi : i < ps.length := by
      rw [← hn]
      exact (Array.getElem?_eq_some_iff.mp hv).1
    obtain ⟨r, e1⟩ : ∃ r, rs[i]? = some r := ⟨rs[i]'(by omega), List.getElem?_eq_getElem _⟩
    obtain ⟨p, e2⟩ : ∃ p, ps[i]? = some p := ⟨ps[i]'hi, List.getElem?_eq_getElem _⟩
    have e0 : (rs.map V.ref)[i]? = some (.ref r) := by
      rw [List.getElem?_map, e1]
      rfl
    obtain ⟨u, hu', ru⟩ := rv.get e0
    have hv' : its[i]? = some v := by
      rw [← hv]
      simp
    rw [hv'] at hu'
    have e4 : v = u := Option.some.inj hu'
    have e3 : u = .ref r := ru
    obtain ⟨ts, rt, tt, _⟩ := I.tuple (ht i r p e1 e2)
    cases rt with
    | cons r1 rt =>
      cases rt with
      | cons r2 rt =>
        cases rt
        obtain ⟨t1, rfl⟩ := r1
        obtain ⟨t2, rfl⟩ := r2
        exact ⟨r, p, t1, t2, e1, e2, e4.trans e3, tt⟩
  refine PySem.Mx.to_loop (kws := []) (df := none) (F.args_max1 _) PySem.Mx.bind_0 rfl li fun s2 Ia Sa g1 g2 g3 n1 n2 n3 fr it kp hS => ?_
  have hh : X.A.in1.handled = none := I.ok.hd hc
  refine PySem.Mx.first (bt := fun i j => pgt (ps.getD i (0, 0)) (ps.getD j (0, 0))) hh n1 n2 n3 li ?_ (by omega) it kp hS ?_
  · intro i j u v s' Q' E' k' hi hj hq
    obtain ⟨r1, p1, t1, t2, _, e2, rfl, tu⟩ := at_ i u hi
    obtain ⟨r2, p2, t3, t4, _, f2, rfl, tv⟩ := at_ j v hj
    have x1 : ps.getD i (0, 0) = p1 := by rw [List.getD_eq_getElem?_getD, e2]; rfl
    have x2 : ps.getD j (0, 0) = p2 := by rw [List.getD_eq_getElem?_getD, f2]; rfl
    have kk := PySem.Mx.kept_all fr k'
    dsimp only at hq
    rw [x1, x2] at hq
    exact cmp_pair (tu.at fun o q => kk _ o q) (tv.at fun o q => kk _ o q) (by show X.A.units + 1 < cLine; omega) _ _ _ _ hq
  · intro v h' tk pv kp'
    obtain ⟨r1, p1, t1, t2, e1, e2, rfl, _⟩ := at_ _ v pv
    have kk := PySem.Mx.kept_all fr kp'
    have bst := best_of (fun i => ps.getD i (0, 0)) (its.toArray.size - 1)
    have eq2 : s2 = { s with heap := s2.heap, toks := s2.toks } := by
      cases s2
      cases s
      simp only at g1 g2 g3
      subst g1 g2 g3
      rfl
    refine ⟨.ref r1, H, ?_, rfl, q _ r1 p1 e1 e2 fun p hp => ?_⟩
    · rw [eq2]
      exact I.kept (t' := tk) kk
    · obtain ⟨j, hj⟩ := List.mem_iff_getElem?.mp hp
      have hj' : j < ps.length := (List.getElem?_eq_some_iff.mp hj).1
      have z := bst.2 j (by omega)
      have x1 : ps.getD j (0, 0) = p := by rw [List.getD_eq_getElem?_getD, hj]; rfl
      have x2 : ps.getD (argBest (fun i j => pgt (ps.getD i (0, 0)) (ps.getD j (0, 0))) (its.toArray.size - 1)) (0, 0) = p1 := by rw [List.getD_eq_getElem?_getD, e2]; rfl
      rw [x1, x2] at z
      exact z
/-- max of a list of whole numbers, or what is told where there is none -/
def rMaxDf (K : PySem.W.Frag) : List V → List V → Hp → VK → Prop := fun vs zs H Q => ∃ (a : Addr) (ns : List Int) (d : V), vs = [.ref a] ∧ zs = [d] ∧ SqL K H a (ns.map V.int) ∧
  (ns = [] → Q d H) ∧ ∀ m, m ∈ ns → (∀ y, y ∈ ns → y ≤ m) → Q (.int m) H
theorem call_maxDf (hc : X.calm = true) : CallRK X (.builtin "max") [("default" : Str)] (rMaxDf X.K) := by
  intro pins s σ H vs zs us ws Q I r rz h
  obtain ⟨a, ns, d, rfl, rfl, hs, qn, q⟩ := h
  obtain ⟨its, rv, pl, _⟩ := I.list hs
  rw [Vals.ref1 r]
  obtain ⟨dv, rfl, rd⟩ := rz.one
  have li := pl.isList
  refine PySem.Mx.to_loop (kws := [("default", dv)]) (df := some dv) (PySem.Mx.args_def _ _) (PySem.Mx.bind_def _) rfl li fun s2 Ia Sa g1 g2 g3 n1 n2 n3 fr it kp hS => ?_
  have hh : X.A.in1.handled = none := I.ok.hd hc
  have eq2 : s2 = { s with heap := s2.heap, toks := s2.toks } := by
    cases s2
    cases s
    simp only at g1 g2 g3
    subst g1 g2 g3
    rfl
  have at_ : ∀ (i : Nat) (v : Value), its.toArray[i]? = some v → ∃ (k : Int) (t : Tok), ns[i]? = some k ∧ v = .int k t := by
    intro i v hv
    have hv' : its[i]? = some v := by
      rw [← hv]
      simp
    have hi : i < its.length := (List.getElem?_eq_some_iff.mp hv').1
    have e1 := Paired.length rv
    rw [List.length_map] at e1
    obtain ⟨k, ek⟩ : ∃ k, ns[i]? = some k := ⟨ns[i]'(by omega), List.getElem?_eq_getElem _⟩
    have e0 : (ns.map V.int)[i]? = some (.int k) := by
      rw [List.getElem?_map, ek]
      rfl
    obtain ⟨u, hu', t, ru⟩ := rv.get e0
    rw [hv'] at hu'
    exact ⟨k, t, ek, (Option.some.inj hu').trans ru⟩
  cases ns with
  | nil =>
    cases rv
    refine PySem.Mx.none_at hh n1 li n2 n3 it kp hS fun h' tk kp' => ?_
    rw [eq2]
    exact ⟨d, H, I.kept (t' := tk) (PySem.Mx.kept_all fr kp'), rd, qn rfl⟩
  | cons k0 ns =>
    have e1 := Paired.length rv
    rw [List.length_map] at e1
    have e2 : its.toArray.size = its.length := List.size_toArray
    have h1 : 0 < its.toArray.size := by
      rw [e2, ← e1]
      exact Nat.succ_pos _
    refine PySem.Mx.first (bt := fun i j => decide ((k0 :: ns).getD i 0 > (k0 :: ns).getD j 0)) hh n1 n2 n3 li ?_ h1 it kp hS ?_
    · intro i j u v s' Q' E' k' hi hj hq
      obtain ⟨a1, t1, x1, rfl⟩ := at_ i u hi
      obtain ⟨a2, t2, x2, rfl⟩ := at_ j v hj
      have y1 : (k0 :: ns).getD i 0 = a1 := by rw [List.getD_eq_getElem?_getD, x1]; rfl
      have y2 : (k0 :: ns).getD j 0 = a2 := by rw [List.getD_eq_getElem?_getD, x2]; rfl
      dsimp only at hq
      rw [y1, y2] at hq
      exact PyProof.Rows.gt_int hq
    · intro v h' tk pv kp'
      obtain ⟨a1, t1, x1, rfl⟩ := at_ _ v pv
      obtain ⟨b1, b2⟩ := best_int (fun i => (k0 :: ns).getD i 0) (its.toArray.size - 1)
      rw [eq2]
      refine ⟨.int a1, H, I.kept (t' := tk) (PySem.Mx.kept_all fr kp'), ⟨t1, rfl⟩, q a1 (List.mem_of_getElem? x1) fun y hy => ?_⟩
      obtain ⟨j, hj⟩ := List.mem_iff_getElem?.mp hy
      have hj' : j < (k0 :: ns).length := (List.getElem?_eq_some_iff.mp hj).1
      have z := b2 j (by omega)
      have y1 : (k0 :: ns).getD j 0 = y := by rw [List.getD_eq_getElem?_getD, hj]; rfl
      have y2 : (k0 :: ns).getD (argBest (fun i j => decide ((k0 :: ns).getD i 0 > (k0 :: ns).getD j 0)) (its.toArray.size - 1)) 0 = a1 := by rw [List.getD_eq_getElem?_getD, x1]; rfl
      rw [y1, y2] at z
      exact z
end
end L2

/-! enumerate over a tuple; walks over zips of tuples -/
namespace PySem
namespace En
open Sem (wp)
set_option maxHeartbeats 1000000 in
theorem new1 {v : Value} {o : Obj} {G : Heap → Prop} (B : Begins v o G) :
    Meets (Builtin.«enumerate.__new__» ⟨[.type "enumerate", v], []⟩) (fun _ R s => G s.heap ∧
      R (.ok (.ret (.ref (s.heap.push o).objs.size))) { s with heap := (s.heap.push o).push { cls := .type "enumerate", data := .fields #[.none, .bool false, .ref s.heap.objs.size, rawInt 0, .none, .none] } }) :=
  .of_wp fun prog w A R s hh => by
    obtain ⟨hp, g, d, tk, os⟩ := s
    obtain ⟨h1, hr⟩ := hh
    have c0 := sub_enumerate
    have c1 : ∀ {A' : Around} {E : Value → Shared → Prop} {Q : Value → Shared → Prop}, Q (.ref hp.objs.size) ⟨hp.push o, g, d, tk, os⟩ → wpAny (model prog w) A' (pyIter v) Q E ⟨hp, g, d, tk, os⟩ :=
      fun z => B.iter prog w _ _ ⟨hp, g, d, tk, os⟩ _ h1 z
    wp_walk using c1
    refine wpAny_stack_any fun _ => wpAny_pure ?_
    split
    · rename_i c _ _ _ _ _
      cases (c == Value.type "enumerate") <;>
      · wp_walk using c1
        exact ⟨_, rfl, hr⟩
    · wp_walk using c1
      exact ⟨_, rfl, hr⟩
section
variable {prog : Program} {w : World} {A : Around} {E : Value → Shared → Prop} {s : Shared}
theorem call1 {v : Value} {o : Obj} {G : Heap → Prop} {Q : Value → Shared → Prop} (B : Begins v o G) (h1 : G s.heap)
    (h : ∀ h', IsEnum h' (s.heap.objs.size + 1) s.heap.objs.size 0 .none → h'.get? s.heap.objs.size = some o →
      (∀ b u, s.heap.get? b = some u → h'.get? b = some u) → Q (.ref (s.heap.objs.size + 1)) { s with heap := h' }) :
    wpAny (model prog w) A (call (.type "enumerate") [v]) Q E s := by
  refine callType_new F.called_enumerate (by decide) (F.typeCall_enumerate_1 _) (F.newCall_enumerate_1 _) (fun obj => F.args_object_init_2 obj _) F.entry_enumerate_new (new1 B) ⟨h1, ?_⟩
  have sz : (s.heap.push o).objs.size = s.heap.objs.size + 1 := Heap.size_push ..
  change _ ∧ _
  rw [sz]
  have at1 : IsEnum ((s.heap.push o).push { cls := .type "enumerate", data := .fields #[.none, .bool false, .ref s.heap.objs.size, rawInt 0, .none, .none] }) (s.heap.objs.size + 1) s.heap.objs.size 0 .none := by
    have z := Heap.get?_push_size (s.heap.push o) (o := { cls := .type "enumerate", data := .fields #[.none, .bool false, .ref s.heap.objs.size, rawInt 0, .none, .none] }) rfl
    rw [sz] at z
    exact z
  exact ⟨⟨_, at1, rfl⟩, h _ at1 (Heap.get?_push_of_some _ (Heap.get?_push_size _ B.free)) fun b u e => Heap.get?_push_of_some _ (Heap.get?_push_of_some _ e)⟩
end
theorem endDraws {prog : Program} {w : World} {A : Around} (hh : A.in1.handled = none) (it t : Addr) (hne : t ≠ it) {items : Array Value} {n : Nat} (hn : items[n]? = none) :
    Draws prog w A.in1 it [it, t] n (fun _ _ => True) (fun j h => j = n ∧ h.IsTupleIter it t n ∧ h.IsTuple t items) where
  live := fun _ _ st => by
    obtain ⟨_, ⟨o, ho, _⟩, _⟩ := st
    exact ⟨o, ho⟩
  frame := fun _ _ _ st hk => ⟨st.1, st.2.1.at fun o e => hk it (by simp) o e, st.2.2.at fun o e => hk t (by simp) o e⟩
  item := fun i s Q E hi st _ => absurd st.1 (Nat.ne_of_lt hi)
  done := fun s Q E st hE => wpAny_nextOf_tuple_end hh st.2.1 st.2.2 hn hE
end En
end PySem
namespace L2
open PySem PySem.Spec PyProof.Rows Kit
/-- the tuple at a as it stands at each turn, each item in a new pair -/
def IteT (K : PySem.W.Frag) (a : Addr) : It :=
  ⟨fun i H => ∃ (xs : List V) (x : V), SqT K H a xs ∧ xs[i]? = some x, fun i H v H' => ∃ T x, v = .ref T ∧ H T = none ∧ H' = upd H T (.tup [.int (i : Nat), x]) ∧ ∀ xs, SqT K H a xs → xs[i]? = some x,
    fun i H => ∃ xs : List V, SqT K H a xs ∧ xs.length ≤ i⟩
theorem turn_enumT {P : Program} {w : World} {K : PySem.W.Frag} {elts : List Expr} {kk : Nat} {tpos : Pos} (a e it : Addr) (n1 : e ≠ it) (n2 : a ≠ it) (n3 : a ≠ e) :
    Turn P w K (.Tuple elts kk tpos) (IteT K a) [e, it] e (fun i h => (∃ old, IsEnum h e it ((i : Nat) : Int) old) ∧ h.IsTupleIter it a i) where
  mem := by simp
  obj := fun i h st b hb => by
    obtain ⟨⟨old, he⟩, ⟨o, ho, hc, hd⟩⟩ := st
    have e' : b = e ∨ b = it := by simpa using hb
    rcases e' with rfl | rfl
    · exact ⟨_, he, fun v q => nomatch q⟩
    · exact ⟨o, ho, fun v q => by
        rw [hd] at q
        cases q⟩
  keep := fun i h h' st k => by
    obtain ⟨⟨old, he⟩, hi⟩ := st
    exact ⟨⟨old, k e (by simp) _ he⟩, hi.at fun o q => k it (by simp) o q⟩
  item := by
    intro X hP hw hK hc i pins s σ H E I hf st hg
    subst hP hw hK
    obtain ⟨⟨old, he⟩, hit⟩ := st
    obtain ⟨xs, x, hq, hx⟩ := hg
    obtain ⟨its, rv, p, hz⟩ := I.tuple hq
    obtain ⟨u, hu, ru⟩ := rv.get hx
    have hel : e < s.heap.objs.size := Heap.lt_size he
    have hil : it < s.heap.objs.size := by
      obtain ⟨_, q, _⟩ := hit
      exact Heap.lt_size q
    have hlen : i < its.toArray.size := by
      have := (List.getElem?_eq_some_iff.mp hu).1
      simpa using this
    have D := Draws.tuple (prog := X.prog) (w := X.w) (A := X.A.in1) (I.ok.hd hc) it a n2 its.toArray
    refine wpAny_pyNext_enum_itemD D he ⟨hit, p⟩ hlen n1 (by simp [n1, Ne.symm n3]) fun y h' tk hy ho st' hT hsz hk => ?_
    have ey : y = u := by
      have z : its[i]? = some y := by simpa using hy
      rw [hu] at z
      exact (Option.some.inj z).symm
    subst ey
    refine ⟨_, rfl, wpAny_letOwnedTupleGo_enum (s := { s with heap := h', toks := tk + 1 }) ho fun h'' he' sb => ?_⟩
    have hT2 : h''.get? s.heap.objs.size = some { cls := .type "tuple", data := .seq #[.int i tk, y] } := (sb.2 _ (Nat.ne_of_gt hel)).trans hT
    have new : ObjOk X.prog X.w (upd H s.heap.objs.size (.tup [.int (i : Nat), x])) h'' s.heap.objs.size (.tup [.int (i : Nat), x]) :=
      ⟨by show 2 ≤ sizeLine; decide, [.int i tk, y], .cons ⟨_, rfl⟩ (.cons ru .nil), ⟨_, hT2, rfl, _, rfl⟩⟩
    have I1 : Inv X pins σ (upd H s.heap.objs.size (.tup [.int (i : Nat), x])) { s with heap := h'', toks := tk + 1 } :=
      I.turnedNew (ch := [e, it]) (fun b ob hb q => (sb.2 b (fun z => hb (by simp [z]))).trans (hk b ob (fun z => hb (by simp [z])) (fun z => hb (by simp [z])) q)) hf (Nat.le_refl _) new
    refine ⟨.ref s.heap.objs.size, _, I1, rfl, ⟨_, x, rfl, I.hok.fresh (Nat.le_refl _), rfl, fun ys hy => by rw [I.tuple_inj hy hq]; exact hx⟩, ⟨⟨y, ?_⟩, st'.1.at fun o q => (sb.2 it (Ne.symm n1)).trans q⟩, fun b hb => ?_⟩
    · have e1 : ((i + 1 : Nat) : Int) = (i : Int) + 1 := by omega
      rw [e1]
      exact he'
    · have hb' : b < s.heap.objs.size := by
        have e' : b = e ∨ b = it := by simpa using hb
        rcases e' with rfl | rfl
        · exact hel
        · exact hil
      rw [upd_ne (Nat.ne_of_lt hb')]
      exact (hf b hb).1
  done := by
    intro X hP hw hK hc i pins s σ H E I hf st hg
    subst hP hw hK
    obtain ⟨⟨old, he⟩, hit⟩ := st
    obtain ⟨xs, hq, hx⟩ := hg
    obtain ⟨its, rv, p, hz⟩ := I.tuple hq
    obtain ⟨f0, f1, f2, f3, f4, f5⟩ := hf it (by simp)
    have hl : xs.length = its.length := Paired.length rv
    have hn : its.toArray[i]? = none := by
      have z : its[i]? = none := List.getElem?_eq_none (by omega)
      simpa using z
    exact wpAny_pyNext_enum_endD (En.endDraws (I.ok.hd hc) it a n2 hn) he ⟨rfl, hit, p⟩ fun h' eb => ⟨rfl, I.turned (t' := s.toks) (fun b o hb q => eb b o hb q) f0 f1 f3 f4 f5⟩
  self := fun A i s Q E st h => by
    obtain ⟨⟨_, he⟩, _⟩ := st
    exact wpAny_pyIter_enum he h
def iEnumT (K : PySem.W.Frag) (ta : TA) : TI := fun σ H R => ta σ H fun vs H1 => ∃ a xs, vs = [.ref a] ∧ SqT K H1 a xs ∧ R (IteT K a) H1
theorem pi_enumT {X : Cx} {e : Expr} {ta : TA} {p pos tpos : Pos} {elts : List Expr} {kk : Nat} (hg : Gl X "enumerate") (hm : X.mg "enumerate" = none) (ha : PA X [e] ta) (hs : starEach [e] X.env = [(false, eval e X.env)] := by rfl) :
    PI X (.Tuple elts kk tpos) (.Call (.Name "enumerate" p) [e] [] pos) (iEnumT X.K ta) := by
  constructor
  intro pins s σ H R I h
  refine Call_ (ld_blt I hg hm boot_enumerate (PyProof.Rows.callWith_type1 (thn (ha.run pos pins s σ H _ I h) ?_) hs rfl))
  rintro us s1 ⟨vs, H1, I1, r1, a, xs, rfl, hq, q⟩
  cases r1 with
  | cons r rr =>
    cases rr
    cases r
    obtain ⟨its, rv, tt, hz⟩ := I1.tuple hq
    have al : a < s1.heap.objs.size := by
      obtain ⟨o, e, _⟩ := tt
      exact Heap.lt_size e
    refine PySem.En.call1 (begins_tuple a its.toArray) tt fun h' he hit hk => wpAny_pyIter_enum he ?_
    have I2 : Inv X pins σ H1 { s1 with heap := h' } := I1.kept (t' := s1.toks) hk
    refine ⟨s1.heap.objs.size + 1, [s1.heap.objs.size + 1, s1.heap.objs.size], _, _, H1, rfl, I2, turn_enumT a (s1.heap.objs.size + 1) s1.heap.objs.size (Nat.succ_ne_self _) (Nat.ne_of_lt al) (Nat.ne_of_lt (Nat.lt_succ_of_lt al)), ⟨⟨.none, he⟩, ⟨_, hit, rfl, rfl⟩⟩, fun b hb => ?_, q⟩
    have e' : b = s1.heap.objs.size + 1 ∨ b = s1.heap.objs.size := by simpa using hb
    have hle : s1.heap.objs.size ≤ b := by
      rcases e' with rfl | rfl
      · exact Nat.le_add_right _ _
      · exact Nat.le_refl _
    exact I1.fpOk hle (I1.hok.fresh hle)
section
variable {K : PySem.W.Frag} {a b : Addr} {xs ys : List V}
theorem walk_enumT : Walk (IteT K a) xs.length (fun H => SqT K H a xs) (YPair (fun i => some (.int (i : Nat))) (fun i => xs[i]?)) where
  goes := fun i H hi h => ⟨xs, xs[i], h, by simp [hi]⟩
  stops := fun H h => ⟨xs, h, Nat.le_refl _⟩
  yields := fun i H x H' hi h y => by
    obtain ⟨T, u, rfl, nT, e, hu⟩ := y
    exact ⟨T, _, u, rfl, nT, e, rfl, hu xs h⟩
theorem walk_zipT {n : Nat} (h1 : n = xs.length) (h2 : n = ys.length) : Walk (RZ.ItzT K a b) n (fun H => SqT K H a xs ∧ SqT K H b ys) (YPair (fun i => xs[i]?) (fun i => ys[i]?)) where
  goes := fun i H hi h => ⟨xs, ys, xs[i]'(by omega), ys[i]'(by omega), h.1, h.2, List.getElem?_eq_getElem _, List.getElem?_eq_getElem _⟩
  stops := fun H h => ⟨xs, ys, h.1, h.2, .inl (by omega)⟩
  yields := fun i H x H' hi h y => by
    obtain ⟨T, u, v, rfl, nT, e, hu, hv⟩ := y
    exact ⟨T, u, v, rfl, nT, e, hu xs h.1, hv ys h.2⟩
end
end L2

/-! lambdas as values: made in a list, handed to a def, called there; a captured cell is known there -/
namespace X11
open PySem PySem.Spec PyProof.Rows L2 LamX NdefX Kit
/-! ### a known object let go, and known -/
def ex (c : Addr) (o : Obj) : HO := .frz o (.ext fun h => h.get? c = some o)
def unc (H : Hp) (c : Addr) : Hp := fun b => if b = c then none else H b
theorem unc_same {H : Hp} {c : Addr} : unc H c c = none := if_pos rfl
theorem unc_ne {H : Hp} {b c : Addr} (h : b ≠ c) : unc H c b = H b := if_neg h
theorem ex_ok {P : Program} {w : World} {H : Hp} {h : Heap} {c : Addr} {o : Obj} (e : h.get? c = some o) : ObjOk P w H h c (ex c o) :=
  ⟨e, e, ⟨o, e⟩, fun h1 h2 q st => st _ q⟩
theorem ne_ex {H : Hp} {b c : Addr} {o : Obj} {u : HO} (e : H c = some (ex c o)) (e2 : H b = some u) (n : ∀ o v, u ≠ .frz o v) : b ≠ c := fun z => by
  rw [z, e] at e2
  cases e2
  exact n _ _ rfl
section
variable {P : Program} {w : World} {H H' : Hp} {h h' : Heap} {c : Addr} {o : Obj} {fs : List Addr}
theorem hok_unc (x : HOk P w H h) (e : H c = some (ex c o)) : HOk P w (unc H c) h := fun b v q => by
  by_cases hb : b = c
  · subst hb
    rw [unc_same] at q
    cases q
  · rw [unc_ne hb] at q
    refine (x b v q).stay (fun _ _ _ z => z) (fun d z => ?_) fun d xs z => ?_
    · rw [unc_ne (ne_ex e z fun _ _ t => by cases t)]
      exact z
    · rw [unc_ne (ne_ex e z fun _ _ t => by cases t)]
      exact z
theorem hok_cov (x : HOk P w H h) (e : H c = none) (ho : h.get? c = some o) : HOk P w (upd H c (ex c o)) h := fun b v q => by
  by_cases hb : b = c
  · subst hb
    rw [upd_same] at q
    cases q
    exact ex_ok ho
  · rw [upd_ne hb] at q
    refine (x b v q).stay (fun _ _ _ z => z) (fun d z => ?_) fun d xs z => ?_
    · rw [upd_ne (ne_of_none z e)]
      exact z
    · rw [upd_ne (ne_of_none z e)]
      exact z
theorem cov_at (x : HOk P w H h) (e : H c = some (ex c o)) : h.get? c = some o := (x c _ e).1
theorem un_cov (u : Un fs [] (upd H c (ex c o)) H' h h') (x : HOk P w H' h') (e : H c = none) (ho : h.get? c = some o) : Un fs [] H (unc H' c) h h' := by
  have ec : H' c = some (ex c o) := u.frzs c o _ upd_same
  have ne : ∀ {b : Addr} {v : HO}, H b = some v → b ≠ c := fun q => ne_of_none q e
  refine ⟨fun b ob q n h1 h2 => ?_, fun b ob q n h1 h2 => ?_, fun b ob q n h2 => ?_, u.there, fun b xs q => ?_, fun b ob v q => ?_, fun b ps q => ?_⟩
  · by_cases hb : b = c
    · subst hb
      rw [ho] at q
      cases q
      exact cov_at x ec
    · exact u.keep b ob q (by rw [upd_ne hb]; exact n) h1 h2
  · by_cases hb : b = c
    · subst hb
      rw [ho] at q
      cases q
      exact ⟨_, cov_at x ec⟩
    · exact u.slot b ob q (by rw [upd_ne hb]; exact n) h1 h2
  · by_cases hb : b = c
    · subst hb
      exact unc_same
    · rw [unc_ne hb]
      exact u.free b ob q (by rw [upd_ne hb]; exact n) h2
  · rw [unc_ne (ne q)]
    exact u.tups b xs (by rw [upd_ne (ne q)]; exact q)
  · rw [unc_ne (ne q)]
    exact u.frzs b ob v (by rw [upd_ne (ne q)]; exact q)
  · rw [unc_ne (ne q)]
    exact u.tbls b ps (by rw [upd_ne (ne q)]; exact q)
theorem un_unc (u : Un fs [] (unc H c) H' h h') (e : H c = some (ex c o)) (ho : h.get? c = some o) : Un fs [] H (upd H' c (ex c o)) h h' := by
  have nn : ∀ {b : Addr}, H b = none → b ≠ c := fun {b} q z => by
    rw [z, e] at q
    cases q
  refine ⟨fun b ob q n h1 h2 => ?_, fun b ob q n h1 h2 => ?_, fun b ob q n h2 => ?_, u.there, fun b xs q => ?_, fun b ob v q => ?_, fun b ps q => ?_⟩
  · exact u.keep b ob q (by rw [unc_ne (nn n)]; exact n) h1 h2
  · exact u.slot b ob q (by rw [unc_ne (nn n)]; exact n) h1 h2
  · rw [upd_ne (nn n)]
    exact u.free b ob q (by rw [unc_ne (nn n)]; exact n) h2
  · have hb := ne_ex e q fun _ _ t => by cases t
    rw [upd_ne hb]
    exact u.tups b xs (by rw [unc_ne hb]; exact q)
  · by_cases hb : b = c
    · subst hb
      rw [e] at q
      cases q
      exact upd_same
    · rw [upd_ne hb]
      exact u.frzs b ob v (by rw [unc_ne hb]; exact q)
  · have hb := ne_ex e q fun _ _ t => by cases t
    rw [upd_ne hb]
    exact u.tbls b ps (by rw [unc_ne hb]; exact q)
end
section
variable {P : Program} {w : World} {K : PySem.W.Frag} {mg : Str → Option Value} {base : Heap} {A : Around} {outer : List Env} {s s' : Shared} {H : Hp} {c : Addr} {o : Obj} {Q : VK} {E : XK} {r : Result}
theorem env0_unc (e0 : Env0 P w K mg base A outer s H) (e : H c = some (ex c o)) : Env0 P w K mg base A outer s (unc H c) := by
  refine ⟨e0.frames, e0.mod, fun b ob q => ⟨(e0.bs b ob q).1, ?_⟩, e0.bsz, e0.funs, fun b q => ?_, hok_unc e0.hok e, e0.bare⟩
  · by_cases hb : b = c
    · rw [hb]; exact unc_same
    · rw [unc_ne hb]; exact (e0.bs b ob q).2
  · by_cases hb : b = c
    · rw [hb]; exact unc_same
    · rw [unc_ne hb]; exact e0.frf b q
theorem env0_cov (e0 : Env0 P w K mg base A outer s H) (e : H c = none) (ho : s.heap.get? c = some o) (nb : base.get? c = none) (nf : c ∉ frs outer) : Env0 P w K mg base A outer s (upd H c (ex c o)) := by
  refine ⟨e0.frames, e0.mod, fun b ob q => ⟨(e0.bs b ob q).1, ?_⟩, e0.bsz, e0.funs, fun b q => ?_, hok_cov e0.hok e ho, e0.bare⟩
  · rw [upd_ne (fun z => by rw [z, nb] at q; cases q)]
    exact (e0.bs b ob q).2
  · rw [upd_ne (fun z => nf (by rw [← z]; exact q))]
    exact e0.frf b q
theorem cr_cov (x : CR L2.CX0 outer P w (upd H c (ex c o)) s (fun v H' => Q v (unc H' c)) E r s') (e : H c = none) (ho : s.heap.get? c = some o) : CR L2.CX0 outer P w H s Q E r s' := by
  match r, x with
  | .error e, x => exact False.elim x
  | .ok (.ret u), x =>
    obtain ⟨v, H', os, bare, un, hok, rv, q⟩ := x
    exact ⟨v, unc H' c, os, bare, un_cov un hok e ho, hok_unc hok (un.frzs c o _ upd_same), rv, q⟩
  | .ok .next, x => exact x
  | .ok .brk, x => exact x
  | .ok .cont, x => exact x
theorem cr_unc (x : CR L2.CX0 outer P w (unc H c) s (fun v H' => H' c = none → Q v (upd H' c (ex c o))) E r s') (e : H c = some (ex c o)) (ho : s.heap.get? c = some o) (nf : c ∉ frs outer) : CR L2.CX0 outer P w H s Q E r s' := by
  match r, x with
  | .error e, x => exact False.elim x
  | .ok (.ret u), x =>
    obtain ⟨v, H', os, bare, un, hok, rv, q⟩ := x
    refine ⟨v, upd H' c (ex c o), os, bare, un_unc un e ho, hok_cov hok (un.free c o ho unc_same (fun z => nomatch z)) (un.keep c o ho unc_same nf (fun z => nomatch z)), rv, q (un.free c o ho unc_same (fun z => nomatch z))⟩
  | .ok .next, x => exact x
  | .ok .brk, x => exact x
  | .ok .cont, x => exact x
end
/-! ### lambdas -/
/-- its words, what it captured, its code object -/
structure LF where
  qual : Str
  params : Arguments
  body : Expr
  scope : Scope
  cl : List (Str × Addr)
  c : Addr
abbrev LF.fd (F : LF) (pm ctv : Value) : FuncData := PySem.W.kla_fn "<lambda>" F.qual F.params F.body F.scope F.cl pm (.ref F.c) ctv
def LmO (f : Addr) (F : LF) : HO := .ext fun h => ∃ (od : Option Addr) (sl : Array (Option Value)) (pm ctv : Value), h.get? f = some (⟨.type "function", od, .func (F.fd pm ctv), sl⟩ : Obj)
theorem lmO_ne {f : Addr} {F : LF} (ps : Array Value) : LmO f F ≠ .tbl ps := fun z => by
  unfold LmO at z
  cases z
theorem lmO_at {P : Program} {w : World} {H : Hp} {h : Heap} {f : Addr} {F : LF} (hok : HOk P w H h) (e : H f = some (LmO f F)) : ∃ (od : Option Addr) (sl : Array (Option Value)) (pm ctv : Value), h.get? f = some (⟨.type "function", od, .func (F.fd pm ctv), sl⟩ : Obj) := by
  obtain ⟨z, _, _⟩ := hok f _ e
  exact z
section
variable {X : Cx} {pins : List (Addr × Obj)} {σ : L2.St} {H : Hp} {s : Shared}
theorem inv_lam {F : LF} {o : Obj} {t' : Nat} {h' : Heap} {pm ctv : Value} (I : Inv X pins σ H { s with heap := h', toks := t' }) (ho : o = { cls := .type "function", data := .func (F.fd pm ctv) }) :
    Inv X pins σ (upd H h'.objs.size (LmO h'.objs.size F)) { s with heap := h'.push o, toks := t' } := by
  subst ho
  refine I.laid (a := h'.objs.size) (fun b u e => Heap.get?_push_of_some _ e) (Nat.le_refl _) ?_
  have e : (h'.push ({ cls := .type "function", data := .func (F.fd pm ctv) } : Obj)).get? h'.objs.size = some ({ cls := .type "function", data := .func (F.fd pm ctv) } : Obj) := Heap.get?_push_size _ rfl
  exact ⟨⟨_, _, pm, ctv, e⟩, ⟨_, e⟩, fun h1 h2 ⟨od, sl, p, t, z⟩ st => ⟨od, sl, p, t, st _ z⟩⟩
/-- it is made: its code object is new, or found in the table -/
theorem lam_mk {T : List (Addr × Str)} {c P : Addr} {params : Arguments} {body : Expr} {scope : Scope} {pos : Pos} {E : Value → Shared → Prop} {Q : Value → Shared → Prop} (I : Inv X pins σ H s) (TB : TabB X.base X.mg c P) (hcode : X.env.code = .ref c)
    (hm : (P, X.env.qual ++ "<lambda>") ∈ T) (hu : ∀ p ∈ T, p.1 = P → p.2 = X.env.qual ++ "<lambda>") (hT : Tabs T H) (hdef : defaultsOf params X.env = ([], [])) (hfree : ∀ y ∈ scope.names, y.2 = .free → ∃ c, X.env.cells.lookup y.1 = some c)
    (h : ∀ (f c' : Addr) (H1 : Hp) (s' : Shared), Inv X pins σ H1 s' → ExtN H H1 → (∀ b, H1 b = none → H b = none) → Tabs T H1 → H f = none → H1 f = some (LmO f ⟨X.env.qual ++ "<lambda>", params, body, scope, cloFrom X.env.cells scope.names [], c'⟩) → H1 c' = some (CodeO c' (X.env.qual ++ "<lambda>")) → Q (.ref f) s') :
    wpAny (model X.prog X.w) X.A (eval (.Lambda params body scope pos) X.env) Q E s := by
  obtain ⟨ps, hP, ht, ha⟩ := hT _ hm
  refine PySem.W.kla_eval hdef ?_
  have bP : s.heap.BuiltinsAt X.mg P := TB.bm.keeps I.bk
  have hP' : s.heap.get? P = some { cls := .none, data := .fields ps } := I.hok P _ hP
  cases hc : codeAmong pos ps.toList with
  | none =>
    refine PySem.W.kla_makeFunction (mg := X.mg) (c := c) (P := P) (ps := ps) (closure_ok hfree) I.ok.glob (I.mod.glob.keeps I.bk) hcode (TB.code.keeps I.bk) hP' ht hc TB.gP bP fun c' ctv h' tk hx hge hlt hrec htb => ?_
    obtain ⟨c2, oc, vs, t, e2, hoc, hd, hv⟩ := hrec
    cases e2
    have nC : H c' = none := I.hok.fresh hge
    have I1 := inv_table (t' := tk) (more := #[rawInt pos.line, rawInt pos.col, .ref c']) (h' := h') I hP (fun b o hb e => hx b o hb e) htb hge ⟨oc, vs, t, hoc, hd, hv⟩
    have hE : ExtN H (upd (upd H P (.tbl (ps ++ #[rawInt pos.line, rawInt pos.col, .ref c']))) c' (CodeO c' (X.env.qual ++ "<lambda>"))) := fun b o e n => by
      rw [upd_ne (ne_of_none e nC), upd_ne (fun z => n ps (Option.some.inj (e.symm.trans (by rw [z]; exact hP))))]
      exact e
    have eL : (ps ++ #[rawInt pos.line, rawInt pos.col, .ref c']).toList = ps.toList ++ [rawInt pos.line, rawInt pos.col, .ref c'] := by simp
    have T1 : Tabs T (upd (upd H P (.tbl (ps ++ #[rawInt pos.line, rawInt pos.col, .ref c']))) c' (CodeO c' (X.env.qual ++ "<lambda>"))) := fun p hp => by
      by_cases hb : p.1 = P
      · rw [hu p hp hb, hb]
        refine ⟨_, by rw [upd_ne (ne_of_none hP nC), upd_same], by rw [eL]; exact PySem.TriplesOk_snoc _ _ _ _ ht, fun p' cv hcv => ?_⟩
        rw [eL] at hcv
        rcases among_app _ ht hcv with z | z
        · obtain ⟨c0, e1, e2⟩ := ha p' cv z
          exact ⟨c0, e1, hE _ _ e2 codeO_ne⟩
        · exact ⟨c', z, upd_same⟩
      · obtain ⟨ps', a1, a2, a3⟩ := hT p hp
        refine ⟨ps', by rw [upd_ne (ne_of_none a1 nC), upd_ne hb]; exact a1, a2, fun p' cv hcv => ?_⟩
        obtain ⟨c0, e1, e2⟩ := a3 p' cv hcv
        exact ⟨c0, e1, hE _ _ e2 codeO_ne⟩
    have nF := I1.hok.fresh (Nat.le_refl _)
    have I2 := inv_lam (F := ⟨X.env.qual ++ "<lambda>", params, body, scope, cloFrom X.env.cells scope.names [], c'⟩) (pm := (X.mg "__name__").getD .none) (ctv := ctv) I1 rfl
    refine h h'.objs.size c' _ _ I2 (fun b o e n => ?_) (fun b e => upd_none (upd_none (upd_none e))) (T1.ext fun b o e => ?_) (I.hok.fresh (Nat.le_trans hge (Nat.le_of_lt hlt))) upd_same ?_
    · have e1 := hE b o e n
      exact (upd_ne (ne_of_none e1 nF)).trans e1
    · exact (upd_ne (ne_of_none e nF)).trans e
    · exact (upd_ne (Nat.ne_of_lt hlt)).trans upd_same
  | some cv =>
    obtain ⟨c', e, hco⟩ := ha pos cv hc
    subst e
    refine PySem.W.kla_makeFunctionHit (mg := X.mg) (c := c) (P := P) (ps := ps) (closure_ok hfree) I.ok.glob (I.mod.glob.keeps I.bk) hcode (TB.code.keeps I.bk) hP' ht hc bP fun ctv h' tk hx hsz => ?_
    have I1 : Inv X pins σ H { s with heap := h', toks := tk } := I.kept hx
    have nF : H h'.objs.size = none := I1.hok.fresh (Nat.le_refl _)
    have I2 := inv_lam (F := ⟨X.env.qual ++ "<lambda>", params, body, scope, cloFrom X.env.cells scope.names [], c'⟩) (pm := (X.mg "__name__").getD .none) (ctv := ctv) I1 rfl
    refine h h'.objs.size c' _ _ I2 (fun b o e n => ?_) (fun b e => upd_none e) (hT.ext fun b o e => ?_) nF upd_same ?_
    · exact (upd_ne (ne_of_none e nF)).trans e
    · exact (upd_ne (ne_of_none e nF)).trans e
    · exact (upd_ne (ne_of_none hco nF)).trans hco
def tLamV (T : List (Addr × Str)) (mk : Addr → LF) : TE := fun σ H Q => Tabs T H ∧ ∀ (f c' : Addr) (H1 : Hp), ExtN H H1 → (∀ b, H1 b = none → H b = none) → Tabs T H1 → H f = none → H1 f = some (LmO f (mk c')) → H1 c' = some (CodeO c' (mk c').qual) → Q (.ref f) H1
theorem pe_lam {T : List (Addr × Str)} {c P : Addr} {params : Arguments} {body : Expr} {scope : Scope} {pos : Pos} (TB : TabB X.base X.mg c P) (hcode : X.env.code = .ref c) (hm : (P, X.env.qual ++ "<lambda>") ∈ T) (hu : ∀ p ∈ T, p.1 = P → p.2 = X.env.qual ++ "<lambda>")
    (hdef : defaultsOf params X.env = ([], [])) (hfree : ∀ y ∈ scope.names, y.2 = .free → X.env.scope.names.lookup y.1 = some .cell ∨ X.env.scope.names.lookup y.1 = some .free) :
    PE X (.Lambda params body scope pos) (tLamV T fun c' => ⟨X.env.qual ++ "<lambda>", params, body, scope, cloFrom X.env.cells scope.names [], c'⟩) := by
  refine ⟨fun pins s σ H Q I h => ?_⟩
  obtain ⟨hT, h⟩ := h
  have hfr : ∀ y ∈ scope.names, y.2 = .free → ∃ c, X.env.cells.lookup y.1 = some c := fun y hy e => (hfree y hy e).elim (fun z => I.ok.has _ (.inl z)) fun z => I.ok.has _ (.inr z)
  exact lam_mk I TB hcode hm hu hT hdef hfr fun f c' H1 s' I1 eN nn T1 f0 f1 c1 => ⟨.ref f, H1, I1, rfl, h f c' H1 eN nn T1 f0 f1 c1⟩
end
/-! ### what it promises -/
structure LOk (P : Program) (w : World) (K : PySem.W.Frag) (mg : Str → Option Value) (base : Heap) (k : Nat) (f : Addr) (F : LF) (pre : Hp → Prop) (sp : Sp) : Prop where
  at_ : ∀ H, pre H → H f = some (LmO f F)
  len : ∀ vs H Q E, sp vs H Q E → vs.length = 1
  run : ∀ (A : Around) (outer : List Env) (s : Shared) (H : Hp) (us : List Value) (vs : List V) (Q : VK) (E : XK), Qt A → Room k A → Env0 P w K mg base A outer s H → pre H → Vals vs us → sp vs H Q E →
    codeAny (model P w) A (.call (.ref f) ⟨us, []⟩) (CR L2.CX0 outer P w H s Q E) s
/-- as a nested def, for its context -/
abbrev LF.nf (F : LF) : NF := ⟨"<lambda>", F.qual, F.params, [], F.scope, F.cl, F.c⟩
/-- what is known when it is called: itself, its code object, the cell c -/
def Lpre (f : Addr) (F : LF) (c : Addr) (o : Obj) (H : Hp) : Prop := H f = some (LmO f F) ∧ H F.c = some (CodeO F.c F.qual) ∧ H c = some (ex c o)
section
variable {P : Program} {w : World} {K : PySem.W.Frag} {mg : Str → Option Value} {base : Heap} {N fr : List Str} {F : LF} {f c : Addr} {o : Obj} {k : Nat} {sp : Sp} {y : Str}
theorem codeO_frz {c : Addr} {q : Str} : ∀ (o : Obj) (v : HO), CodeO c q ≠ .frz o v := fun o v z => by
  unfold CodeO at z
  cases z
theorem lmO_frz {f : Addr} {F : LF} : ∀ (o : Obj) (v : HO), LmO f F ≠ .frz o v := fun o v z => by
  unfold LmO at z
  cases z
/-- THE RULE: a lambda of one parameter by its body; the cell that it may have captured is let go while it runs -/
theorem lok_of (S : NScope N [y] fr F.scope) (hb : ∀ (pm ctv : Value) (u : Value), bindArgs (F.fd pm ctv) ⟨[u], []⟩ = pure [(y, u)]) (len : ∀ vs H Q E, sp vs H Q E → vs.length = 1) (ws : List (Option V))
    (hc : ∀ h : Heap, h.get? c = some o → ∀ H : Hp, H c = none → CellsAt F.cl fr ws h H)
    (hbody : ∀ (A : Around) (outer : List Env) (s : Shared) (H : Hp) (vs : List V) (Q : VK) (E : XK), Qt (A.deeper (envF F.nf f s.heap.objs.size)) → Room k (A.deeper (envF F.nf f s.heap.objs.size)) → sp vs (upd H c (ex c o)) Q E → H c = none →
      ∃ t, PE (ncx L2.CX0 P w K mg base N F.nf f A outer s H E) F.body t ∧ t (startF N vs ws) H (fun v H' => H' c = none → Q v (upd H' c (ex c o)))) :
    LOk P w K mg base (k + 1) f F (Lpre f F c o) sp := by
  refine ⟨fun H h => h.1, len, fun A outer s H us vs Q E hq hr e0 hp r hsp => ?_⟩
  obtain ⟨hf, hcd, hce⟩ := hp
  have hl := len _ _ _ _ hsp
  obtain ⟨v, rfl⟩ : ∃ v, vs = [v] := by
    match vs, hl with
    | [v], _ => exact ⟨v, rfl⟩
  obtain ⟨u, rfl⟩ : ∃ u, us = [u] := by
    match us, r with
    | [u], _ => exact ⟨u, rfl⟩
  have ho : s.heap.get? c = some o := cov_at e0.hok hce
  have nf : c ∉ frs outer := fun z => by
    have q := e0.frf c z
    rw [hce] at q
    cases q
  have e1 := env0_unc e0 hce
  have eH : upd (unc H c) c (ex c o) = H := by
    funext b
    by_cases hb : b = c
    · rw [hb, upd_same, hce]
    · rw [upd_ne hb, unc_ne hb]
  have lim : s.heap.NoLimit := e0.mod.nolimit.keeps fun b o e => (e0.bs b o e).1
  obtain ⟨od, sl, pm, ctv, hof⟩ := lmO_at e0.hok hf
  refine codeAny_mono (R := CR L2.CX0 outer P w (unc H c) s (fun v H' => H' c = none → Q v (upd H' c (ex c o))) E) ?_ fun r s' x => cr_unc x hce ho nf
  refine PySem.W.kla_callFunE hr.depth hof rfl S.co S.gen rfl (codeO_at e0.hok hcd) ?_
  rw [hb pm ctv u]
  refine wpAny_pure (wpAny_newFunctionEnv S.nocell (fun ⟨n, _⟩ hy => S.par n (by cases List.mem_singleton.mp hy; exact List.mem_singleton.mpr rfl)) (fun h₁ hns hsb => ⟨lim.fresh _ hsb, ?_⟩) S.kind)
  show codeAny _ _ (.expr F.body (envF F.nf f s.heap.objs.size)) _ _
  have kp : ∀ b o, s.heap.get? b = some o → h₁.get? b = some o := fun b o e => hsb.extBut b o (Nat.ne_of_lt (Heap.lt_size e)) (Heap.get?_push_of_some _ e)
  have C := hc s.heap ho (unc H c) unc_same
  obtain ⟨t, ht, hq2⟩ := hbody A outer s (unc H c) [v] Q E hq (hr.deeper _) (by rw [eH]; exact hsp) unc_same
  have I : Inv (ncx L2.CX0 P w K mg base N F.nf f A outer s (unc H c) E) [] (startF N [v] ws) (unc H c) { s with heap := h₁, toks := s.toks + ([y].zip [u]).length } := inv_startN (ps := [y]) (us := [u]) S hr.hd e1 rfl r C hns kp
  refine PySem.W.kla_codeExpr (wpAny_mono (ht.run [] _ _ (unc H c) _ I hq2) (fun v s' hq => ?_) fun e s' hq => hq)
  obtain ⟨w', H', J', rv, q⟩ := hq
  exact ⟨w', H', J'.os, J'.bare, J'.base, J'.hok, rv, q⟩
end
/-! ### calls of a name that holds one -/
def tLC (i : Nat) (f : Addr) (pre : Hp → Prop) (sp : Sp) (t : TA) : TE := fun σ H Q => σ[i]? = some (some (.ref f)) ∧ pre H ∧ t σ H fun vs H1 => pre H1 ∧ sp vs H1 Q fun _ _ _ => False
section
variable {X : Cx} {F : LF} {f : Addr} {pre : Hp → Prop} {sp : Sp} {i j k : Nat} {x : Str} {t : TA} {e : Expr} {es : List Expr} {p pos : Pos}
theorem lam_fn {pins : List (Addr × Obj)} {σ : L2.St} {H : Hp} {s : Shared} (I : Inv X pins σ H s) (e : H f = some (LmO f F)) : PySem.W.FnAt f s.heap := by
  obtain ⟨od, sl, pm, ctv, ho⟩ := lmO_at I.hok e
  exact ⟨_, od, _, sl, ho⟩
theorem pe_lcall (L : LOk X.prog X.w X.K X.mg X.base k f F pre sp) (hq : Qt X.A) (hr : Room j X.A) (hk : k ≤ j) (hN : X.N[i]? = some x) (hv : Vis X.env.scope x) (ha : PA X (e :: es) t)
    (hd : (x == ("__debug__" : Str)) = false := by decide) (hcd : (x == ("__classdict__" : Str)) = false := by decide)
    (he : starEach (e :: es) X.env = (false, eval e X.env) :: starEach es X.env := by rfl) (hpl : (backTo pos (starEach es X.env)).any (·.1) = false := by rfl) :
    PE X (.Call (.Name x p) (e :: es) [] pos) (tLC i f pre sp t) := by
  refine ⟨fun pins s σ H Q I h => ?_⟩
  obtain ⟨hs, hf, ht⟩ := h
  refine wpAny_Call_Name_kw (thn ((pe_var (pos := p) hN hv hd hcd).run pins s σ H (fun v H1 => v = .ref f ∧ H1 = H) I ⟨.ref f, hs, rfl, rfl⟩) fun u s1 ⟨v, H1, I1, r1, q1⟩ => ?_)
  obtain ⟨ev, eH⟩ := q1
  subst ev
  rw [eH] at I1
  obtain rfl : u = Value.ref f := r1
  refine PySem.W.callWith_F (first := []) (lam_fn I1 (L.at_ _ hf)) (thn (ha.run pos pins s1 σ H _ I1 ht) fun us s2 ⟨vs, H2, I2, r, h1, q⟩ => ⟨lam_fn I2 (L.at_ _ h1), ?_⟩) he hpl
  show wpAny _ _ (call (.ref f) us) _ _ _
  refine wpAny_call (codeAny_mono (L.run X.A X.stack s2 H2 us vs Q (fun _ _ _ => False) hq (hr.mono hk) I2.env0 h1 r q) fun r s' hq => ?_)
  cases r with
  | error e => exact hq.elim
  | ok fl =>
    cases fl with
    | ret u => exact I2.after hq
    | next => exact False.elim hq
    | brk => exact False.elim hq
    | cont => exact False.elim hq
end
/-! ### a def called while a captured name of the running frame is known -/
def tCT (cells : List (Str × Addr)) (y : Str) (jf : Nat) (sp : Sp) (t : TA) : TE := fun σ H Q => ∃ far : Int, σ[jf]? = some (some (.int far)) ∧
  t σ H fun vs H1 => ∀ (c : Addr) (o : Obj) (tk : Tok), cells.lookup y = some c → o.data = .cell (some (.int far tk)) → H1 c = none → sp vs (upd H1 c (ex c o)) (fun v H' => Q v (unc H' c)) fun _ _ _ => False
section
variable {X : Cx} {sp : Sp} {jf j k : Nat} {x y : Str} {ps : List Str} {t : TA} {e : Expr} {es : List Expr} {p pos : Pos}
theorem pe_cT (c : Cal X.prog X.w X.K X.mg X.base L2.CX0 k x ps sp) (hfn : X.fn y = true) (hyN : X.N[jf]? = some y) (hyc : X.env.scope.names.lookup y = some .cell) (hq : Qt X.A) (hr : Room j X.A) (hk : k ≤ j)
    (hg : Gl X x) (ha : PA X (e :: es) t) (hdb : (x == ("__debug__" : Str)) = false := by decide)
    (he : starEach (e :: es) X.env = (false, eval e X.env) :: starEach es X.env := by rfl)
    (hpl : (backTo pos (starEach es X.env)).any (·.1) = false := by rfl) :
    PE X (.Call (.Name x p) (e :: es) [] pos) (tCT X.env.cells y jf sp t) := by
  obtain ⟨f, fd, F, hm, hkp, hb, _⟩ := c.ex
  constructor
  intro pins s σ H Q I h
  obtain ⟨far, hfar, h⟩ := h
  refine wpAny_Call_Name_kw (ld_glob I hg hm ?_ hdb)
  refine PySem.W.callWith_K (h₀ := X.base) I.ok.mod.kin hkp ?_ he hpl
  refine thn (ha.run pos pins s σ H _ I h) ?_
  rintro us s1 ⟨vs, H1, I1, r, q⟩
  refine ⟨I1.kIn, ?_⟩
  rw [List.nil_append]
  obtain ⟨cc, hcc⟩ : ∃ cc, X.env.cells.lookup y = some cc := I1.ok.has y (.inl hyc)
  obtain ⟨m, hn, hl⟩ := I1.loc
  obtain ⟨u, ru, lk⟩ := hl jf y _ hyN hfar (.inr (.inl hyc))
  obtain ⟨o, ho, hd⟩ : s1.heap.IsCell cc (some u) := by
    rcases lk with ⟨z, _⟩ | ⟨_, c', hc', hcell⟩
    · have z' : X.env.scope.names.lookup y = some .local := z
      rw [hyc] at z'
      cases z'
    · rw [hcc] at hc'
      cases hc'
      exact hcell
  have hcn : H1 cc = none := I1.freeC y cc hcc
  obtain ⟨tk, rfl⟩ : ∃ tk, u = .int far tk := ru
  have hge := I1.ok.cab y cc hfn hcc
  have nb : X.base.get? cc = none := by
    cases e : X.base.get? cc with
    | none => rfl
    | some ob => exact absurd (Heap.lt_size e) (Nat.not_lt.mpr (Nat.le_trans I1.ok.bsz hge))
  have nf : cc ∉ frs X.stack := fun z => by
    rcases List.mem_cons.mp (I1.stkSub _ z) with e | e
    · obtain ⟨ob, es, ep, e1, e2, _⟩ := hn
      rw [← e, ho] at e1
      cases e1
      rw [hd] at e2
      cases e2
    · obtain ⟨_, ob, e1, _⟩ := I1.ok.funs.mem e
      exact absurd (Heap.lt_size e1) (Nat.not_lt.mpr hge)
  have hsp := q cc o tk hcc hd hcn
  have hl2 : us.length = ps.length := by
    rw [← r.length]
    exact F.len _ _ _ _ hsp
  have z := F.run X.A X.stack s1 (upd H1 cc (ex cc o)) ⟨us, []⟩ us vs _ _ hq (hr.mono hk) (env0_cov I1.env0 hcn ho nb nf) (by
    have z := hb s1 us I1.kIn (by rw [List.append_nil]; exact hl2)
    rw [List.append_nil] at z
    exact z) r hsp
  refine wpAny_call (codeAny_mono z ?_)
  intro r' s' ho'
  have ho2 := cr_cov (Q := Q) ho' hcn ho
  match r', ho2 with
  | .error e, ho2 => exact ho2.elim
  | .ok (.ret u), ho2 => exact I1.after ho2
  | .ok .next, ho2 => exact False.elim ho2
  | .ok .brk, ho2 => exact False.elim ho2
  | .ok .cont, ho2 => exact False.elim ho2
end
end X11

/-! the end of a law that itself makes lambdas: its own code object's table is tracked -/
namespace X12
open PySem PySem.Spec PyProof.Rows L2 LamX Kit
/-- the code object of a def, read off the frozen part: its table is at P -/
def codeB (K : PySem.W.Frag) (cd : Value) : Option (Addr × Addr) := match cd with
  | .ref c => match K.lookup c with
    | some ⟨.type n, _, .fields vs, _⟩ => match (vs[11]? : Option Value), vs.getD 7 Value.none, vs.getD 9 Value.none, vs.getD 10 Value.none, vs.getD 18 Value.none with
      | some (Value.ref P), .int _ _, .bool _, .int _ _, .str _ _ => if n = "code" ∧ c ≠ P ∧ (K.lookup P).isNone = true then some (c, P) else none
      | _, _, _, _, _ => none
    | _ => none
  | _ => none
structure CodeK (K : PySem.W.Frag) (c P : Addr) : Prop where
  ex : ∃ (dd : Option Addr) (vs : Array Value) (sl : Array (Option Value)) (file : Str) (tf : Tok) (flags : Int) (tg : Tok) (inF : Bool) (text : Int) (tt : Tok),
    K.lookup c = some ⟨.type "code", dd, .fields vs, sl⟩ ∧ vs[11]? = some (.ref P) ∧ vs.getD 18 .none = .str file tf ∧ vs.getD 7 .none = .int flags tg ∧ vs.getD 9 .none = .bool inF ∧ vs.getD 10 .none = .int text tt
  ne : c ≠ P
  no : K.lookup P = none
theorem codeB_ok {K : PySem.W.Frag} {cd : Value} {c P : Addr} (h : codeB K cd = some (c, P)) : cd = .ref c ∧ CodeK K c P := by
  unfold codeB at h
  split at h
  · rename_i c1
    split at h
    · rename_i n dd vs sl hk
      split at h
      · rename_i P1 flags tg inF text tt file tf h11 h7 h9 h10 h18
        split at h
        · rename_i hc
          obtain ⟨rfl, h2, h3⟩ := hc
          cases h
          exact ⟨rfl, ⟨_, _, _, _, _, _, _, _, _, _, hk, h11, h18, h7, h9, h10⟩, h2, Option.isNone_iff_eq_none.mp h3⟩
        · cases h
      · cases h
    · cases h
  · cases h
theorem CodeK.hd {K : PySem.W.Frag} {c P : Addr} (h : CodeK K c P) {hp : Heap} (X : K.In hp) : PySem.W.CodeHd hp c P := by
  obtain ⟨dd, vs, sl, file, tf, flags, tg, inF, text, tt, e, e11, e18, e7, e9, e10⟩ := h.ex
  refine ⟨_, vs, file, tf, flags, tg, inF, text, tt, X _ _ e, rfl, rfl, e11, ?_, e18, e7, e9, e10, h.ne⟩
  rw [Array.getD_eq_getD_getElem?, e11]
  rfl
section
variable {P : Program} {w : World} {K : PySem.W.Frag} {mg : Str → Option Value}
/-- tracked at most: the script, the table -/
def Two (T : Addr) (H : Hp) : Prop := ∀ b, H b = none ∨ b = T ∨ ∃ o xs, H b = some (.frz o (.lst xs))
theorem law_callT {mb : Str → Option Value} {CX : CXT} {k : Nat} {fa a c T : Addr} {fd : FuncData} {x : Str} {sp : Sp} {s₁ : Shared} {vs : List Value} {ns : List Int}
    (KX : K.In s₁.heap) (hns : s₁.heap.Ns mainGlobals mg) (hb : s₁.heap.Ns builtinsNs mb)
    (hbb : ∀ x : Str, x ≠ "__name__" → mb x = bootBuiltins x) (hlim : s₁.heap.NoLimit) (hg : s₁.gens = #[])
    (ck : CodeK K c T) (eT : s₁.heap.get? T = some { cls := .none, data := .fields #[] })
    (hbm : ∃ (bm : Addr) (ob : Obj), mg "__builtins__" = some (.ref bm) ∧ bm ≠ builtinsNs ∧ s₁.heap.get? bm = some ob ∧
      ob.cls = .type "module" ∧ ob.dict = some builtinsNs ∧ ob.data = .plain)
    (ha : s₁.heap.get? a = some { cls := .type "list", data := .seq vs.toArray }) (hi : IntsAre vs ns)
    (hl : ns.length ≤ sizeLine) (hr : Room k callerA)
    (F : ∀ base : Heap, K.In base → base.Ns mainGlobals mg → TabB base mg c T → FnG P w K mg base CX k fa fd [x] sp)
    (hbind : ∀ (s : Shared) (u : Value), BindsTo s fd ⟨[u], []⟩ [(x, u)])
    (hsp : ∀ H : Hp, H T = some (.tbl #[]) → SqL K H a (ns.map V.int) → sp [.ref a] H (fun v _ => v = .bl true) fun _ _ _ => False)
    (hCX : ∀ H e s', CX [] H s₁ (fun _ _ _ => False) e s' → False) :
    codeAny (model P w) callerA (.call (.ref fa) ⟨[.ref a], []⟩)
      (fun r s' => r = .ok (.ret (.bool true)) ∧ OldK s₁.heap s'.heap ∧ s'.os = s₁.os ∧ AllBare s'.gens) s₁ := by
  have rv := vals_ints hi
  have lenV := hi.length
  have neq : a ≠ T := by
    rintro rfl
    rw [ha] at eT
    cases eT
  have hC := ck.hd KX
  -- over any abstract heap that tracks the table, and the script at most
  have inner : ∀ H : Hp, H T = some (.tbl #[]) → Two T H → SqL K H a (ns.map V.int) → HOk P w H s₁.heap → (∀ b, H b ≠ none → b = a ∨ b = T) → (H a ≠ none → K.lookup a = none) →
      codeAny (model P w) callerA (.call (.ref fa) ⟨[.ref a], []⟩)
        (fun r s' => r = .ok (.ret (.bool true)) ∧ OldK s₁.heap s'.heap ∧ s'.os = s₁.os ∧ AllBare s'.gens) s₁ := by
    intro H hH hO hS hok hA hK
    -- what is neither list nor table is not tracked
    have free : ∀ {b : Addr} {o : Obj}, s₁.heap.get? b = some o → (∀ vs n, o.data ≠ .seq vs n) → o.data ≠ .fields #[] → H b = none := by
      intro b o e n1 n2
      cases q : H b with
      | none => rfl
      | some u =>
        rcases hA b (by rw [q]; simp) with rfl | rfl
        · rw [ha] at e
          cases e
          exact absurd rfl (n1 _ _)
        · rw [eT] at e
          cases e
          exact absurd rfl n2
    have freeD : ∀ {b : Addr} {o : Obj} {es : Array DictEntry} {ep : Nat}, s₁.heap.get? b = some o → o.data = .dict es ep → H b = none := by
      intro b o es ep e d
      refine free e (fun vs n z => ?_) fun z => ?_ <;> rw [d] at z <;> cases z
    have nsK : ∀ {b : Addr} {m : Str → Option Value}, s₁.heap.Ns b m → (hidT s₁.heap H).Ns b m := by
      rintro b m ⟨o, es, ep, e, d, r⟩
      exact ⟨o, es, ep, hidT_get e (freeD e d), d, r⟩
    have hKb : K.In (hidT s₁.heap H) := by
      intro b o e
      refine hidT_get (KX b o e) ?_
      cases q : H b with
      | none => rfl
      | some u =>
        rcases hA b (by rw [q]; simp) with rfl | rfl
        · rw [hK (by rw [q]; simp)] at e
          cases e
        · rw [ck.no] at e
          cases e
    obtain ⟨mc, l1, l2⟩ := hlim
    have hM : Mod K mg (hidT s₁.heap H) := ⟨hKb, nsK hns, ⟨mb, nsK hb, hbb⟩, mc, nsK l1, l2⟩
    have TB : TabB (hidT s₁.heap H) mg c T := by
      refine ⟨ck.hd hKb, ?_, ?_⟩
      · obtain ⟨bm, ob, b1, b2, b3, b4, b5, b6⟩ := hbm
        refine ⟨bm, ob, b1, b2, ?_, ?_, hidT_get b3 (free b3 (fun vs n z => ?_) fun z => ?_), b4, b5, b6⟩
        · rintro rfl
          obtain ⟨o, es, ep, e, hd, _⟩ := hns
          rw [e] at b3
          cases b3
          rw [hd] at b6
          cases b6
        · rintro rfl
          rw [eT] at b3
          cases b3
          cases b6
        · rw [b6] at z
          cases z
        · rw [b6] at z
          cases z
      · intro z
        obtain ⟨o, es, ep, e, hd, _⟩ := hns
        rw [z, eT] at e
        cases e
        cases hd
    have no0 : ∀ b : Addr, b ∈ ([] : List Addr) → False := fun b z => by simp at z
    have e0 : Env0 P w K mg (hidT s₁.heap H) callerA [] s₁ H :=
      ⟨rfl, hM, fun b o e => of_hidT e, Nat.le_of_eq (hidT_size _ _), trivial, fun b z => (no0 b z).elim, hok, .of_eq hg⟩
    have go := (F _ hKb (nsK hns) TB).run callerA [] s₁ H ⟨[.ref a], []⟩ [.ref a] [.ref a] _ _ rfl hr e0
      (hbind s₁ (.ref a)) (.cons rfl .nil) (hsp H hH hS)
    refine codeAny_mono go ?_
    intro r s' h
    match r, h with
    | .error e, h => exact (hCX H e s' h).elim
    | .ok .next, h => exact False.elim h
    | .ok .brk, h => exact False.elim h
    | .ok .cont, h => exact False.elim h
    | .ok (.ret u), h =>
      obtain ⟨v, H', os, bare, un, hok', r', q⟩ := h
      have q' : v = .bl true := q
      subst q'
      obtain rfl : u = Value.bool true := r'
      have kept : ∀ b o, b ≠ T → s₁.heap.get? b = some o → s'.heap.get? b = some o := by
        intro b o nb e
        cases q : H b with
        | none => exact un.keep b o e q (no0 b) (by simp)
        | some u =>
          rcases hO b with z | z | ⟨ob, xs, z⟩
          · rw [q] at z
            cases z
          · exact absurd z nb
          · obtain ⟨e1, _⟩ := hok b _ z
            obtain ⟨e2, _⟩ := hok' b _ (un.frzs b ob _ z)
            rw [e] at e1
            cases e1
            exact e2
      obtain ⟨more, z⟩ := un.tbls T #[] hH
      have gT : s'.heap.get? T = some { cls := .none, data := .fields (#[] ++ more) } := hok' T _ z
      refine ⟨rfl, ⟨?_, ?_⟩, os, bare⟩
      · intro b o e
        by_cases hbT : b = T
        · subst hbT
          rw [eT] at e
          cases e
          exact .inr (.inl ⟨(hC.tab eT).isCodeTable, rfl, #[], more, rfl, gT⟩)
        · exact .inl (kept b o hbT e)
      · intro b o e
        by_cases hbT : b = T
        · subst hbT
          exact ⟨_, gT⟩
        · exact ⟨o, kept b o hbT e⟩
  cases hk : K.lookup a with
  | some o =>
    have e := KX a o hk
    rw [ha] at e
    cases e
    have sz : vs.toArray.size ≤ sizeLine := by
      rw [List.size_toArray, lenV]
      exact hl
    have yes : ∀ {b : Addr}, b = T → (if b = T then some (HO.tbl #[]) else none) = some (.tbl #[]) := fun h => if_pos h
    have no : ∀ {b : Addr}, ¬ b = T → (if b = T then some (HO.tbl #[]) else none) = none := fun h => if_neg h
    refine inner (fun b => if b = T then some (.tbl #[]) else none) (yes rfl) ?_ (.inr ⟨_, vs.toArray, _, hk, rfl, rfl, rfl, sz, by simpa using rv⟩) ?_ ?_ fun z => absurd (no neq) z
    · intro b
      by_cases h : b = T
      · exact .inr (.inl h)
      · exact .inl (no h)
    · intro b u z
      by_cases h : b = T
      · have z' := (yes h).symm.trans z
        cases z'
        subst h
        exact eT
      · have z' := (no h).symm.trans z
        cases z'
    · intro b z
      by_cases h : b = T
      · exact .inr h
      · exact absurd (no h) z
  | none =>
    let u : HO := .frz { cls := .type "list", data := .seq vs.toArray } (.lst (ns.map V.int))
    have atA : ∀ {b : Addr}, b = a → (if b = a then some u else if b = T then some (.tbl #[]) else none) = some u := fun h => if_pos h
    have atT : ∀ {b : Addr}, ¬ b = a → b = T → (if b = a then some u else if b = T then some (.tbl #[]) else none) = some (.tbl #[]) := fun h h2 => (if_neg h).trans (if_pos h2)
    have at0 : ∀ {b : Addr}, ¬ b = a → ¬ b = T → (if b = a then some u else if b = T then some (.tbl #[]) else none) = none := fun h h2 => (if_neg h).trans (if_neg h2)
    refine inner (fun b => if b = a then some u else if b = T then some (.tbl #[]) else none) (atT neq.symm rfl) ?_ (.inl (.inr ⟨_, atA rfl⟩)) ?_ ?_ fun _ => hk
    · intro b
      by_cases h1 : b = a
      · exact .inr (.inr ⟨_, _, atA h1⟩)
      · by_cases h2 : b = T
        · exact .inr (.inl h2)
        · exact .inl (at0 h1 h2)
    · intro b v z
      by_cases h1 : b = a
      · have z' := (atA h1).symm.trans z
        cases z'
        subst h1
        refine ⟨ha, ?_, vs, _, rv, ha⟩
        rw [List.length_map]
        exact hl
      · by_cases h2 : b = T
        · have z' := (atT h1 h2).symm.trans z
          cases z'
          subst h2
          exact eT
        · have z' := (at0 h1 h2).symm.trans z
          cases z'
    · intro b z
      by_cases h1 : b = a
      · exact .inl h1
      · by_cases h2 : b = T
        · exact .inr h2
        · exact absurd (at0 h1 h2) z
end
/-- the goal of the head, for a law that makes lambdas -/
theorem walk_ofT {l : PySem.W.OpenLaw} {n k : Nat} {q : Program} {loose : List Str} {XP : (Str → Option Value) → Heap → Prop}
    {YP : World → Heap → Prop} {d : DefRec} {K : Params → PySem.W.Frag} {CX : World → CXT} {sp : World → Addr → Sp} {x : Str}
    (hn : l.most = some n) (hn2 : n ≤ sizeLine) (hdf : d.params.defaults = []) (hr : Room k callerA)
    (hrec : ((recsOf q).any fun e => e.name == d.name) = true)
    (hY : ∀ (w : World) (h : Heap), YP w h → (K w.params).In h)
    (F : ∀ (w : World) (mg : Str → Option Value) (fa : Addr) (h : Heap), (K w.params).In h → h.Ns mainGlobals mg →
      mg d.name = some (.ref fa) →
      ∃ (fd : FuncData) (c T : Addr) (oc : Value) (od : Option Addr) (sl : Array (Option Value)), (K w.params).lookup fa = some ⟨oc, od, .func fd, sl⟩ ∧ fd.code = .ref c ∧ CodeK (K w.params) c T ∧ (∀ (s : Shared) (u : Value), BindsTo s fd ⟨[u], []⟩ [(x, u)]) ∧
        ∀ base : Heap, (K w.params).In base → base.Ns mainGlobals mg → TabB base mg c T → FnG l.prog w (K w.params) mg base (CX w) k fa fd [x] (sp w T))
    (hsp : ∀ (w : World) (T : Addr) (H : Hp) (a : Addr) (ns : List Int), ns.length ≤ n →
      (∀ z ∈ ns, Builtin.Int.intBits z ≤ 1048576) → H T = some (.tbl #[]) → SqL (K w.params) H a (ns.map V.int) →
      sp w T [.ref a] H (fun v _ => v = .bl true) fun _ _ _ => False)
    (hCX : ∀ (w : World) (H : Hp) (s : Shared) (e : Value) (s' : Shared), CX w [] H s (fun _ _ _ => False) e s' → False) :
    PySem.W.WalkO q loose XP YP l.row.toRowW d [] (fun f vs => PySem.call f vs) := by
  refine Att.attach_callB hn hdf ?_
  intro w s₀ s₁ mg mb fa o pm cd doc a vs ns G Y ho hd hcd hmg hobj hints hlen hbits hg
  have KX := hY w _ Y
  obtain ⟨fd, c, T, oc, od, sl, lk, hc, ck, hbind, hF⟩ := F w mg fa _ KX G.T.g hmg
  have eT : s₁.heap.get? T = some { cls := .none, data := .fields #[] } := by
    obtain ⟨e, he, hne⟩ := List.any_eq_true.mp hrec
    obtain ⟨a', o', fd', c', P', g1, g2, g3, g4, g5, g6⟩ := G.T.tab e he
    rw [show e.name = d.name from beq_iff_eq.mp hne, hmg] at g1
    cases g1
    rw [KX _ _ lk] at g2
    cases g2
    cases g3
    rw [hc] at g4
    cases g4
    obtain ⟨⟨oc', vc, e1, _, e3, e4⟩, hP⟩ := g6
    obtain ⟨_, _, _, _, _, _, _, _, _, _, k1, k2, _⟩ := ck.ex
    rw [KX _ _ k1] at e1
    cases e1
    cases e3
    rw [k2] at e4
    cases e4
    exact hP
  exact law_callT KX G.T.g G.T.b G.T.builtins G.T.nolimit hg ck eT G.T.bmain hobj hints (Nat.le_trans hlen hn2) hr hF hbind (fun H hH hS => hsp w T H a ns hlen hbits hH hS) fun H e s' => hCX w H s₁ e s'
end X12

/-! x in t, t a tuple of data -/
namespace X13
open PySem PySem.Spec PyProof.Rows L2 Kit
def rInTD (K : PySem.W.Frag) : R2 := fun x t H Q => ∃ (dx : PyData) (dt : List PyData), Dp K H x dx ∧ Dp K H t (.tuple dt) ∧
  SeqAt.shaped dx = true ∧ SeqAt.shaped (.tuple dt) = true ∧ Q (.bl (dt.any fun z => PyData.eqv z dx)) H
theorem op_inTD {X : Cx} (room : X.A.units + 65 < cLine) : OpR X (compareOp .In) (rInTD X.K) := by
  intro pins s σ H x t vx vt Q I rx rt h
  obtain ⟨dx, dt, h1, h2, s1, s2, q⟩ := h
  obtain ⟨ax, g1⟩ := Dp.reads I dx x vx h1 rx
  obtain ⟨at', g2⟩ := Dp.reads I (.tuple dt) t vt h2 rt
  exact SeqAt.in_tuple_reads g2 g1 (SeqAt.canLay_of_shaped s2) (SeqAt.canLay_of_shaped s1) (room_in_shaped s1 room)
    ⟨.bl _, H, I, rfl, q⟩
end X13

set_option autoImplicit false
/-! single steps of a question, by name: where a lemma answers a part that is not at the front -/
namespace St
open PySem PySem.Spec PyProof.Rows L2
section
variable {σ : L2.St} {H : Hp} {Q : VK} {D : Ends} {te tf : TE} {ta tr : TA} {QA : List V → Hp → Prop}
theorem ret (h : te σ H fun v H1 => D.rt v H1) : tRet te D σ H := h
theorem tup (h : ta σ H fun xs H1 => xs.length ≤ sizeLine ∧ ∀ p, H1 p = none → Q (.ref p) (upd H1 p (.tup xs))) : tTup ta σ H Q := h
theorem cons (h : te σ H fun x H1 => tr σ H1 fun xs H2 => QA (x :: xs) H2) : tCons te tr σ H QA := h
theorem cb {r : List V → Hp → VK → Prop} (h : ta σ H fun vs H1 => r vs H1 Q) : tCB r ta σ H Q := h
theorem op {r : R2} (h : te σ H fun x H1 => tf σ H1 fun y H2 => r x y H2 Q) : tOp r te tf σ H Q := h
theorem yes {A B : Hp → Prop} (h : A H) : tYes σ H fun b H' => if b = true then A H' else B H' := by
  show if true = true then A H else B H
  rw [if_pos rfl]
  exact h
end
end St

/-! zip of two that are a list, a tuple or a text, in any mixture -/
namespace X16
open PySem PySem.Spec PyProof.Rows L2 Kit
inductive Kd | L | T | S
theorem vals_at {vs : List V} {us : List Value} (r : Vals vs us) {i : Nat} {u : Value} (e : us[i]? = some u) : ∃ v, vs[i]? = some v ∧ RelV v u := by
  induction r generalizing i with
  | nil => cases e
  | cons r1 _ ih =>
    cases i with
    | zero =>
      cases e
      exact ⟨_, rfl, r1⟩
    | succ i => exact ih e
def SqK (K : PySem.W.Frag) (H : Hp) : Kd → V → List V → Prop
  | .L, v, xs => ∃ a, v = .ref a ∧ SqL K H a xs
  | .T, v, xs => ∃ a, v = .ref a ∧ SqT K H a xs
  | .S, v, xs => ∃ z, v = .str z ∧ xs = sgV z
def ItZM (K : PySem.W.Frag) (k1 k2 : Kd) (va vb : V) : It :=
  ⟨fun i H => ∃ (xs ys : List V) (x y : V), SqK K H k1 va xs ∧ SqK K H k2 vb ys ∧ xs[i]? = some x ∧ ys[i]? = some y,
    fun i H v H' => ∃ T x y, v = .ref T ∧ H T = none ∧ H' = upd H T (.tup [x, y]) ∧ (∀ xs, SqK K H k1 va xs → xs[i]? = some x) ∧ ∀ ys, SqK K H k2 vb ys → ys[i]? = some y,
    fun i H => ∃ xs ys : List V, SqK K H k1 va xs ∧ SqK K H k2 vb ys ∧ i ≤ xs.length ∧ i ≤ ys.length ∧ (i = xs.length ∨ i = ys.length)⟩
def IK (h : Heap) (it : Addr) : Kd → Value → Nat → Prop
  | .L, u, i => ∃ l, u = .ref l ∧ h.IsListIter it l i
  | .T, u, i => ∃ l, u = .ref l ∧ h.IsTupleIter it l i
  | .S, u, i => ∃ z t, u = .str z t ∧ h.IsStrIter it (strIterType z) z t i
theorem IK.at {h h' : Heap} {it : Addr} {k : Kd} {u : Value} {i : Nat} (s : IK h it k u i) (q : ∀ o, h.get? it = some o → h'.get? it = some o) : IK h' it k u i := by
  cases k with
  | L =>
    obtain ⟨l, e, o, ho, r⟩ := s
    exact ⟨l, e, o, q o ho, r⟩
  | T =>
    obtain ⟨l, e, o, ho, r⟩ := s
    exact ⟨l, e, o, q o ho, r⟩
  | S =>
    obtain ⟨z, t, e, o, ho, r⟩ := s
    exact ⟨z, t, e, o, q o ho, r⟩
theorem IK.here {h : Heap} {it : Addr} {k : Kd} {u : Value} {i : Nat} (s : IK h it k u i) : ∃ o, h.get? it = some o ∧ ∀ v, o.data ≠ .cell v := by
  cases k with
  | L =>
    obtain ⟨l, e, o, ho, _, d⟩ := s
    exact ⟨o, ho, fun v q => by rw [d] at q; cases q⟩
  | T =>
    obtain ⟨l, e, o, ho, _, d⟩ := s
    exact ⟨o, ho, fun v q => by rw [d] at q; cases q⟩
  | S =>
    obtain ⟨z, t, e, o, ho, _, d⟩ := s
    exact ⟨o, ho, fun v q => by rw [d] at q; cases q⟩
section
variable {X : Cx} {pins : List (Addr × Obj)} {σ : L2.St} {H : Hp} {s : Shared}
theorem sqk_inj (I : Inv X pins σ H s) {k : Kd} {v : V} {xs ys : List V} (a : SqK X.K H k v xs) (b : SqK X.K H k v ys) : xs = ys := by
  cases k with
  | L =>
    obtain ⟨p, rfl, h1⟩ := a
    obtain ⟨q, e, h2⟩ := b
    cases e
    exact I.list_inj h1 h2
  | T =>
    obtain ⟨p, rfl, h1⟩ := a
    obtain ⟨q, e, h2⟩ := b
    cases e
    exact I.tuple_inj h1 h2
  | S =>
    obtain ⟨p, rfl, h1⟩ := a
    obtain ⟨q, e, h2⟩ := b
    cases e
    rw [h1, h2]
theorem draws_of {A : Around} (I : Inv X pins σ H s) (hh : A.handled = none) {k : Kd} {v : V} {xs : List V} {u : Value} {it : Addr} {i : Nat} (q : SqK X.K H k v xs) (r : RelV v u) (st : IK s.heap it k u i) (ap : ∀ l, u = .ref l → l ≠ it) :
    ∃ (fp : List Addr) (n : Nat) (P : Nat → Value → Prop) (St : Nat → Heap → Prop), n = xs.length ∧ Draws X.prog X.w A it fp n P St ∧ St i s.heap ∧ it ∈ fp ∧ (∀ b ∈ fp, b = it ∨ u = .ref b) ∧
      (∀ j x, P j x → ∃ y, xs[j]? = some y ∧ RelV y x) ∧ ∀ j h, St j h → IK h it k u j := by
  cases k with
  | L =>
    obtain ⟨a, rfl, e⟩ := q
    cases r
    obtain ⟨l, e1, hit⟩ := st
    cases e1
    obtain ⟨its, rv, p, _⟩ := I.list e
    refine ⟨[it, a], its.toArray.size, _, _, ?_, Draws.list hh it a (ap a rfl) its.toArray, ⟨hit, p.isList⟩, by simp, ?_, ?_, ?_⟩
    · rw [List.size_toArray, rv.length]
    · intro b hb
      have hb' : b = it ∨ b = a := by simpa using hb
      rcases hb' with z | z
      · exact .inl z
      · exact .inr (by rw [z])
    · intro j x hx
      have hx : its[j]? = some x := by simpa using hx
      obtain ⟨y, h1, h2⟩ := vals_at rv hx
      exact ⟨y, h1, h2⟩
    · intro j h hs
      exact ⟨a, rfl, hs.1⟩
  | T =>
    obtain ⟨a, rfl, e⟩ := q
    cases r
    obtain ⟨l, e1, hit⟩ := st
    cases e1
    obtain ⟨its, rv, p, _⟩ := I.tuple e
    refine ⟨[it, a], its.toArray.size, _, _, ?_, Draws.tuple hh it a (ap a rfl) its.toArray, ⟨hit, p⟩, by simp, ?_, ?_, ?_⟩
    · rw [List.size_toArray, rv.length]
    · intro b hb
      have hb' : b = it ∨ b = a := by simpa using hb
      rcases hb' with z | z
      · exact .inl z
      · exact .inr (by rw [z])
    · intro j x hx
      have hx : its[j]? = some x := by simpa using hx
      obtain ⟨y, h1, h2⟩ := vals_at rv hx
      exact ⟨y, h1, h2⟩
    · intro j h hs
      exact ⟨a, rfl, hs.1⟩
  | S =>
    obtain ⟨z, rfl, rfl⟩ := q
    obtain ⟨t, rfl⟩ := r
    obtain ⟨z', t', e1, hit⟩ := st
    cases e1
    refine ⟨[it], z.cps.size, _, _, ?_, Draws.text hh it z t, hit, by simp, ?_, ?_, ?_⟩
    · rw [sgV_len]
      rfl
    · intro b hb
      exact .inl (by simpa using hb)
    · rintro j x ⟨c, u, hc, rfl⟩
      refine ⟨.str ⟨#[c]⟩, ?_, ⟨u, rfl⟩⟩
      unfold sgV
      rw [List.getElem?_map, Array.getElem?_toList, hc]
      rfl
    · intro j h hs
      exact ⟨z, t, rfl, hs⟩
theorem begins_of (I : Inv X pins σ H s) {k : Kd} {v : V} {xs : List V} {u : Value} (q : SqK X.K H k v xs) (r : RelV v u) :
    ∃ (o : Obj) (H0 : Heap → Prop), Begins u o H0 ∧ H0 s.heap ∧ (∀ (h : Heap) (it : Addr), h.get? it = some o → IK h it k u 0) ∧ ∀ l, u = .ref l → l < s.heap.objs.size := by
  cases k with
  | L =>
    obtain ⟨a, rfl, e⟩ := q
    cases r
    obtain ⟨its, rv, p, _⟩ := I.list e
    exact ⟨_, _, begins_list a its.toArray, p.isList, fun h it g => ⟨a, rfl, _, g, rfl, rfl⟩, fun l e => by cases e; exact p.lt⟩
  | T =>
    obtain ⟨a, rfl, e⟩ := q
    cases r
    obtain ⟨its, rv, p, _⟩ := I.tuple e
    refine ⟨_, _, begins_tuple a its.toArray, p, fun h it g => ⟨a, rfl, _, g, rfl, rfl⟩, fun l e => ?_⟩
    cases e
    obtain ⟨o1, ho1, _⟩ := id p
    exact Heap.lt_size ho1
  | S =>
    obtain ⟨z, rfl, rfl⟩ := q
    obtain ⟨t, rfl⟩ := r
    exact ⟨_, _, begins_text z t, trivial, fun h it g => ⟨z, t, rfl, _, g, rfl, rfl⟩, fun l e => by cases e⟩
end
theorem na {a b : Nat} (h : a ≠ b) : (a : Addr) ≠ b := h
theorem ni {a b : Nat} (h : (a : Addr) = b) : a = b := h
theorem sep_of {n : Nat} {u1 u2 : Value} {fp1 fp2 : List Addr} (l1 : ∀ l : Nat, u1 = .ref l → l < n) (l2 : ∀ l : Nat, u2 = .ref l → l < n) (m1 : n ∈ fp1) (m2 : n + 1 ∈ fp2) (f1 : ∀ b ∈ fp1, b = n ∨ u1 = .ref b) (f2 : ∀ b ∈ fp2, b = n + 1 ∨ u2 = .ref b) :
    ZipSep2 (n + 4) (n + 2) (n + 3) n (n + 1) fp1 fp2 := by
  have g1 : ∀ b : Nat, b ∈ fp1 → b ≤ n := fun b hb => by
    rcases f1 b hb with q | q
    · exact Nat.le_of_eq q
    · exact Nat.le_of_lt (l1 _ q)
  have g2 : ∀ b : Nat, b ∈ fp2 → b ≤ n + 1 ∧ b ≠ n := fun b hb => by
    rcases f2 b hb with q | q
    · have q : b = n + 1 := q
      exact ⟨Nat.le_of_eq q, by omega⟩
    · have := l2 _ q
      exact ⟨by omega, by omega⟩
  refine ⟨na (by omega), na (by omega), na (by omega), na (by omega), m1, fun z => ?_, fun z => ?_, na (by omega), m2, fun z => ?_, fun z => ?_, fun z => ?_, fun z => ?_⟩
  · have := g1 (n + 4) z
    omega
  · have := g1 (n + 3) z
    omega
  · have := (g2 (n + 4) z).1
    omega
  · have := (g2 (n + 3) z).1
    omega
  · exact (g2 n z).2 rfl
  · have := g1 (n + 1) z
    omega
theorem turn_zipM {P : Program} {w : World} {K : PySem.W.Frag} {elts : List Expr} {kk : Nat} {tpos : Pos} {k1 k2 : Kd} {va vb : V} {u1 u2 : Value} {n : Nat} (r1 : RelV va u1) (r2 : RelV vb u2) (l1 : ∀ l : Nat, u1 = .ref l → l < n) (l2 : ∀ l : Nat, u2 = .ref l → l < n) :
    Turn P w K (.Tuple elts kk tpos) (ItZM K k1 k2 va vb) [n + 4, n + 2, n + 3, n, n + 1] (n + 4) (fun i h => IsZip h (n + 4) (n + 2) (n + 3) .none ∧ IsTupOf2 h (n + 2) (.ref n) (.ref (n + 1)) ∧ (∃ x y, IsTupOf2 h (n + 3) x y) ∧ IK h n k1 u1 i ∧ IK h (n + 1) k2 u2 i) where
  mem := by simp
  obj := fun i h st c hc => by
    obtain ⟨hz, hTI, ⟨x, y, hTO⟩, h1, h2⟩ := st
    have e' : c = n + 4 ∨ c = n + 2 ∨ c = n + 3 ∨ c = n ∨ c = n + 1 := by simpa using hc
    rcases e' with q | q | q | q | q
    · rw [q]; exact ⟨_, hz, fun v q => nomatch q⟩
    · rw [q]; exact ⟨_, hTI, fun v q => nomatch q⟩
    · rw [q]; exact ⟨_, hTO, fun v q => nomatch q⟩
    · rw [q]; exact h1.here
    · rw [q]; exact h2.here
  keep := fun i h h' st k => by
    obtain ⟨hz, hTI, ⟨x, y, hTO⟩, h1, h2⟩ := st
    exact ⟨k (n + 4) (by simp) _ hz, k (n + 2) (by simp) _ hTI, ⟨x, y, k (n + 3) (by simp) _ hTO⟩, h1.at fun o q => k n (by simp) o q, h2.at fun o q => k (n + 1) (by simp) o q⟩
  item := by
    intro X hP hw hK hc i pins s σ H E I hf st hg
    subst hP hw hK
    obtain ⟨hz, hTI, ⟨x0, y0, hTO⟩, h1, h2⟩ := st
    obtain ⟨xs, ys, x, y, hqx, hqy, hx, hy⟩ := hg
    have hh : X.A.in1.handled = none := I.ok.hd hc
    obtain ⟨fp1, n1, P1, St1, e1, D1, st1, m1, f1, p1, kk1⟩ := draws_of I hh hqx r1 h1 (fun l e z => by have := l1 l e; have := ni z; omega)
    obtain ⟨fp2, n2, P2, St2, e2, D2, st2, m2, f2, p2, kk2⟩ := draws_of I hh hqy r2 h2 (fun l e z => by have := l2 l e; have := ni z; omega)
    have S : ZipSep2 (n + 4) (n + 2) (n + 3) n (n + 1) fp1 fp2 := sep_of l1 l2 m1 m2 f1 f2
    have hzl : n + 4 < s.heap.objs.size := Heap.lt_size hz
    refine wpAny_pyNext_zipD2_item S D1 D2 hz hTI hTO st1 st2 (by rw [e1]; exact (List.getElem?_eq_some_iff.mp hx).1) (by rw [e2]; exact (List.getElem?_eq_some_iff.mp hy).1) fun v1 v2 h' tk y1 y2 z' TO' s1' s2' hT hsz hk => ?_
    obtain ⟨x', hx', rx⟩ := p1 i v1 y1
    rw [hx] at hx'
    cases hx'
    obtain ⟨y', hy', ry⟩ := p2 i v2 y2
    rw [hy] at hy'
    cases hy'
    refine ⟨_, rfl, wpAny_letOwnedTupleGo_zip (s := { s with heap := h', toks := tk }) z' fun h'' z'' sb => ?_⟩
    have hT2 : h''.get? s.heap.objs.size = some { cls := .type "tuple", data := .seq #[v1, v2] } := (sb.2 _ (Nat.ne_of_gt hzl)).trans hT
    have new : ObjOk X.prog X.w (upd H s.heap.objs.size (.tup [x, y])) h'' s.heap.objs.size (.tup [x, y]) :=
      ⟨by show 2 ≤ sizeLine; decide, [v1, v2], .cons rx (.cons ry .nil), ⟨_, hT2, rfl, _, rfl⟩⟩
    have I1 : Inv X pins σ (upd H s.heap.objs.size (.tup [x, y])) { s with heap := h'', toks := tk } :=
      I.turnedNew (t' := tk) (ch := [n + 4, n + 2, n + 3, n, n + 1]) (fun c o hb q => (sb.2 c (fun q' => hb (by simp [q']))).trans (hk c o (fun q' => hb (by simp [q'])) (fun q' => hb (by simp [q'])) (fun q' => hb (by simp [q'])) (fun q' => hb (by simp [q'])) q)) hf (Nat.le_refl _) new
    refine ⟨.ref s.heap.objs.size, _, I1, rfl, ⟨_, x, y, rfl, I.hok.fresh (Nat.le_refl _), rfl, fun l hl => by rw [sqk_inj I hl hqx]; exact hx, fun l hl => by rw [sqk_inj I hl hqy]; exact hy⟩, ⟨z'', ?_, ⟨v1, v2, ?_⟩, ?_, ?_⟩, fun c hcm => ?_⟩
    · exact (sb.2 _ (na (by omega))).trans (hk _ _ (na (by omega)) (na (by omega)) (na (by omega)) (na (by omega)) hTI)
    · exact (sb.2 _ (na (by omega))).trans TO'
    · exact (kk1 _ _ s1').at fun o q => (sb.2 _ (na (by omega))).trans q
    · exact (kk2 _ _ s2').at fun o q => (sb.2 _ (na (by omega))).trans q
    · have hlt : c < s.heap.objs.size := by
        have e' : c = n + 4 ∨ c = n + 2 ∨ c = n + 3 ∨ c = n ∨ c = n + 1 := by simpa using hcm
        have hzl : (n + 4 : Nat) < s.heap.objs.size := hzl
        rcases e' with q | q | q | q | q
        · rw [q]; exact hzl
        · rw [q]; exact (show (n + 2 : Nat) < s.heap.objs.size by omega)
        · rw [q]; exact (show (n + 3 : Nat) < s.heap.objs.size by omega)
        · rw [q]; exact (show (n : Nat) < s.heap.objs.size by omega)
        · rw [q]; exact (show (n + 1 : Nat) < s.heap.objs.size by omega)
      rw [upd_ne (Nat.ne_of_lt hlt)]
      exact (hf c hcm).1
  done := by
    intro X hP hw hK hc i pins s σ H E I hf st hg
    subst hP hw hK
    obtain ⟨hz, hTI, ⟨x0, y0, hTO⟩, h1, h2⟩ := st
    obtain ⟨xs, ys, hqx, hqy, b1, b2, hend⟩ := hg
    have hh : X.A.in1.handled = none := I.ok.hd hc
    obtain ⟨fp1, n1, P1, St1, e1, D1, st1, m1, f1, p1, kk1⟩ := draws_of I hh hqx r1 h1 (fun l e z => by have := l1 l e; have := ni z; omega)
    obtain ⟨fp2, n2, P2, St2, e2, D2, st2, m2, f2, p2, kk2⟩ := draws_of I hh hqy r2 h2 (fun l e z => by have := l2 l e; have := ni z; omega)
    have S : ZipSep2 (n + 4) (n + 2) (n + 3) n (n + 1) fp1 fp2 := sep_of l1 l2 m1 m2 f1 f2
    exact wpAny_pyNext_zipD2_end S D1 D2 hz hTI hTO st1 st2 (by omega) (by omega) (by omega) fun h' tk hk => ⟨rfl, I.turnedL (t' := tk) (ch := [n + 4, n + 2, n + 3, n, n + 1]) (fun c o hb q =>
      hk c o (fun q' => hb (by simp [q'])) (fun q' => hb (by simp [q'])) (fun q' => hb (by simp [q'])) (fun q' => hb (by simp [q'])) q) hf⟩
  self := fun A i s Q E st h => wpAny_pyIter_zip st.1 h
def iZipM (K : PySem.W.Frag) (k1 k2 : Kd) (ta : TA) : TI := fun σ H R => ta σ H fun vs H1 => ∃ va vb xs ys, vs = [va, vb] ∧ SqK K H1 k1 va xs ∧ SqK K H1 k2 vb ys ∧ R (ItZM K k1 k2 va vb) H1
theorem pi_zipM {X : Cx} {k1 k2 : Kd} {e e2 : Expr} {ta : TA} {p pos tpos : Pos} {elts : List Expr} {kk : Nat} (hg : Gl X "zip") (hm : X.mg "zip" = none) (ha : PA X [e, e2] ta)
    (hs : starEach [e, e2] X.env = (false, eval e X.env) :: starEach [e2] X.env := by rfl) (hpl : (backTo pos (starEach [e2] X.env)).any (·.1) = false := by rfl) :
    PI X (.Tuple elts kk tpos) (.Call (.Name "zip" p) [e, e2] [] pos) (iZipM X.K k1 k2 ta) := by
  refine ⟨fun pins s σ H R I h => ?_⟩
  refine Call_ (ld_blt I hg hm PyProof.Rows.boot_zip (PyProof.Rows.callWith_type1 (thn (ha.run pos pins s σ H _ I h) fun us s1 ⟨vs, H1, I1, r1, q1⟩ => ?_) hs hpl))
  obtain ⟨va, vb, xs, ys, ex, hqx, hqy, q⟩ := q1
  subst ex
  cases r1 with
  | cons r rr =>
    cases rr with
    | cons r' rr =>
      cases rr
      obtain ⟨o1, H01, B1, g1, i1, l1⟩ := begins_of I1 hqx r
      obtain ⟨o2, H02, B2, g2, i2, l2⟩ := begins_of I1 hqy r'
      refine zip_begins2 B1 B2 g1 g2 fun h' hz hTI hTO e1 e2 hsz hk => wpAny_pyIter_zip hz ?_
      have I2 : Inv X pins σ H1 { s1 with heap := h' } := I1.kept (t' := s1.toks) hk
      refine ⟨s1.heap.objs.size + 4, [s1.heap.objs.size + 4, s1.heap.objs.size + 2, s1.heap.objs.size + 3, s1.heap.objs.size, s1.heap.objs.size + 1], _, _, H1, rfl, I2, turn_zipM r r' l1 l2, ⟨hz, hTI, ⟨_, _, hTO⟩, i1 _ _ e1, i2 _ _ e2⟩, fun c hcm => ?_, q⟩
      have e' : c = s1.heap.objs.size + 4 ∨ c = s1.heap.objs.size + 2 ∨ c = s1.heap.objs.size + 3 ∨ c = s1.heap.objs.size ∨ c = s1.heap.objs.size + 1 := by simpa using hcm
      have hle : s1.heap.objs.size ≤ c := by
        rcases e' with z | z | z | z | z
        · rw [z]; exact Nat.le_add_right _ _
        · rw [z]; exact Nat.le_add_right _ _
        · rw [z]; exact Nat.le_add_right _ _
        · rw [z]; exact Nat.le_refl _
        · rw [z]; exact Nat.le_add_right _ _
      exact I1.fpOk hle (I1.hok.fresh hle)
theorem walk_zipM {K : PySem.W.Frag} {k1 k2 : Kd} {a b : V} {xs ys : List V} {n : Nat} (h : n = min xs.length ys.length) :
    Walk (ItZM K k1 k2 a b) n (fun H => SqK K H k1 a xs ∧ SqK K H k2 b ys) (YPair (fun i => xs[i]?) (fun i => ys[i]?)) where
  goes := fun i H hi h => ⟨xs, ys, xs[i]'(by omega), ys[i]'(by omega), h.1, h.2, List.getElem?_eq_getElem _, List.getElem?_eq_getElem _⟩
  stops := fun H h => ⟨xs, ys, h.1, h.2, by omega, by omega, by omega⟩
  yields := fun i H x H' hi h y => by
    obtain ⟨T, u, v, rfl, nT, e, hu, hv⟩ := y
    exact ⟨T, u, v, rfl, nT, e, hu xs h.1, hv ys h.2⟩
end X16

/-! zip of three that are a list, a tuple or a text, in any mixture -/
namespace X19
open PySem PySem.Spec PyProof.Rows L2 Kit X16
def ItZ3 (K : PySem.W.Frag) (k1 k2 k3 : Kd) (va vb vc : V) : It :=
  ⟨fun i H => ∃ (xs ys zs : List V) (x y z : V), SqK K H k1 va xs ∧ SqK K H k2 vb ys ∧ SqK K H k3 vc zs ∧ xs[i]? = some x ∧ ys[i]? = some y ∧ zs[i]? = some z,
    fun i H v H' => ∃ T x y z, v = .ref T ∧ H T = none ∧ H' = upd H T (.tup [x, y, z]) ∧ (∀ xs, SqK K H k1 va xs → xs[i]? = some x) ∧ (∀ ys, SqK K H k2 vb ys → ys[i]? = some y) ∧ ∀ zs, SqK K H k3 vc zs → zs[i]? = some z,
    fun i H => ∃ xs ys zs : List V, SqK K H k1 va xs ∧ SqK K H k2 vb ys ∧ SqK K H k3 vc zs ∧ i ≤ xs.length ∧ i ≤ ys.length ∧ i ≤ zs.length ∧ (i = xs.length ∨ i = ys.length ∨ i = zs.length)⟩
theorem sep_of3 {n : Nat} {u1 u2 u3 : Value} {fp1 fp2 fp3 : List Addr} (l1 : ∀ l : Nat, u1 = .ref l → l < n) (l2 : ∀ l : Nat, u2 = .ref l → l < n) (l3 : ∀ l : Nat, u3 = .ref l → l < n) (m1 : n ∈ fp1) (m2 : n + 1 ∈ fp2) (m3 : n + 2 ∈ fp3)
    (f1 : ∀ b ∈ fp1, b = n ∨ u1 = .ref b) (f2 : ∀ b ∈ fp2, b = n + 1 ∨ u2 = .ref b) (f3 : ∀ b ∈ fp3, b = n + 2 ∨ u3 = .ref b) :
    ZipSep3 (n + 5) (n + 3) (n + 4) n (n + 1) (n + 2) fp1 fp2 fp3 := by
  have g1 : ∀ b : Nat, b ∈ fp1 → b ≤ n := fun b hb => by
    rcases f1 b hb with q | q
    · exact Nat.le_of_eq q
    · exact Nat.le_of_lt (l1 _ q)
  have g2 : ∀ b : Nat, b ∈ fp2 → b ≤ n + 1 ∧ b ≠ n := fun b hb => by
    rcases f2 b hb with q | q
    · have q : b = n + 1 := q
      exact ⟨Nat.le_of_eq q, by omega⟩
    · have := l2 _ q
      exact ⟨by omega, by omega⟩
  have g3 : ∀ b : Nat, b ∈ fp3 → b ≤ n + 2 ∧ b ≠ n ∧ b ≠ n + 1 := fun b hb => by
    rcases f3 b hb with q | q
    · have q : b = n + 2 := q
      exact ⟨Nat.le_of_eq q, by omega, by omega⟩
    · have := l3 _ q
      exact ⟨by omega, by omega, by omega⟩
  constructor
  all_goals first
    | exact m1
    | exact m2
    | exact m3
    | exact na (by omega)
    | (intro z; have := g1 _ z; omega)
    | (intro z; have := g2 _ z; omega)
    | (intro z; have := g3 _ z; omega)
theorem turn_zip3 {P : Program} {w : World} {K : PySem.W.Frag} {elts : List Expr} {kk : Nat} {tpos : Pos} {k1 k2 k3 : Kd} {va vb vc : V} {u1 u2 u3 : Value} {n : Nat} (r1 : RelV va u1) (r2 : RelV vb u2) (r3 : RelV vc u3)
    (l1 : ∀ l : Nat, u1 = .ref l → l < n) (l2 : ∀ l : Nat, u2 = .ref l → l < n) (l3 : ∀ l : Nat, u3 = .ref l → l < n) :
    Turn P w K (.Tuple elts kk tpos) (ItZ3 K k1 k2 k3 va vb vc) [n + 5, n + 3, n + 4, n, n + 1, n + 2] (n + 5) (fun i h => IsZip h (n + 5) (n + 3) (n + 4) .none ∧ IsTupOf3 h (n + 3) (.ref n) (.ref (n + 1)) (.ref (n + 2)) ∧ (∃ x y z, IsTupOf3 h (n + 4) x y z) ∧ IK h n k1 u1 i ∧ IK h (n + 1) k2 u2 i ∧ IK h (n + 2) k3 u3 i) where
  mem := by simp
  obj := fun i h st c hc => by
    obtain ⟨hz, hTI, ⟨x, y, z, hTO⟩, h1, h2, h3⟩ := st
    have e' : c = n + 5 ∨ c = n + 3 ∨ c = n + 4 ∨ c = n ∨ c = n + 1 ∨ c = n + 2 := by simpa using hc
    rcases e' with q | q | q | q | q | q
    · rw [q]; exact ⟨_, hz, fun v q => nomatch q⟩
    · rw [q]; exact ⟨_, hTI, fun v q => nomatch q⟩
    · rw [q]; exact ⟨_, hTO, fun v q => nomatch q⟩
    · rw [q]; exact h1.here
    · rw [q]; exact h2.here
    · rw [q]; exact h3.here
  keep := fun i h h' st k => by
    obtain ⟨hz, hTI, ⟨x, y, z, hTO⟩, h1, h2, h3⟩ := st
    exact ⟨k (n + 5) (by simp) _ hz, k (n + 3) (by simp) _ hTI, ⟨x, y, z, k (n + 4) (by simp) _ hTO⟩, h1.at fun o q => k n (by simp) o q, h2.at fun o q => k (n + 1) (by simp) o q, h3.at fun o q => k (n + 2) (by simp) o q⟩
  item := by
    intro X hP hw hK hc i pins s σ H E I hf st hg
    subst hP hw hK
    obtain ⟨hz, hTI, ⟨x0, y0, z0, hTO⟩, h1, h2, h3⟩ := st
    obtain ⟨xs, ys, zs, x, y, z, hqx, hqy, hqz, hx, hy, hzz⟩ := hg
    have hh : X.A.in1.handled = none := I.ok.hd hc
    obtain ⟨fp1, n1, P1, St1, e1, D1, st1, m1, f1, p1, kk1⟩ := draws_of I hh hqx r1 h1 (fun l e z => by have := l1 l e; have := ni z; omega)
    obtain ⟨fp2, n2, P2, St2, e2, D2, st2, m2, f2, p2, kk2⟩ := draws_of I hh hqy r2 h2 (fun l e z => by have := l2 l e; have := ni z; omega)
    obtain ⟨fp3, n3, P3, St3, e3, D3, st3, m3, f3, p3, kk3⟩ := draws_of I hh hqz r3 h3 (fun l e z => by have := l3 l e; have := ni z; omega)
    have S : ZipSep3 (n + 5) (n + 3) (n + 4) n (n + 1) (n + 2) fp1 fp2 fp3 := sep_of3 l1 l2 l3 m1 m2 m3 f1 f2 f3
    have hzl : n + 5 < s.heap.objs.size := Heap.lt_size hz
    refine wpAny_pyNext_zipD3_item S D1 D2 D3 hz hTI hTO st1 st2 st3 (by rw [e1]; exact (List.getElem?_eq_some_iff.mp hx).1) (by rw [e2]; exact (List.getElem?_eq_some_iff.mp hy).1) (by rw [e3]; exact (List.getElem?_eq_some_iff.mp hzz).1) fun v1 v2 v3 h' tk y1 y2 y3 z' TO' s1' s2' s3' hT hsz hk => ?_
    obtain ⟨x', hx', rx⟩ := p1 i v1 y1
    rw [hx] at hx'
    cases hx'
    obtain ⟨y', hy', ry⟩ := p2 i v2 y2
    rw [hy] at hy'
    cases hy'
    obtain ⟨w', hw', rz⟩ := p3 i v3 y3
    rw [hzz] at hw'
    cases hw'
    refine ⟨_, rfl, wpAny_letOwnedTupleGo_zip (s := { s with heap := h', toks := tk }) z' fun h'' z'' sb => ?_⟩
    have hT2 : h''.get? s.heap.objs.size = some { cls := .type "tuple", data := .seq #[v1, v2, v3] } := (sb.2 _ (Nat.ne_of_gt hzl)).trans hT
    have new : ObjOk X.prog X.w (upd H s.heap.objs.size (.tup [x, y, z])) h'' s.heap.objs.size (.tup [x, y, z]) :=
      ⟨by show 3 ≤ sizeLine; decide, [v1, v2, v3], .cons rx (.cons ry (.cons rz .nil)), ⟨_, hT2, rfl, _, rfl⟩⟩
    have I1 : Inv X pins σ (upd H s.heap.objs.size (.tup [x, y, z])) { s with heap := h'', toks := tk } :=
      I.turnedNew (t' := tk) (ch := [n + 5, n + 3, n + 4, n, n + 1, n + 2]) (fun c o hb q => (sb.2 c (fun q' => hb (by simp [q']))).trans (hk c o (fun q' => hb (by simp [q'])) (fun q' => hb (by simp [q'])) (fun q' => hb (by simp [q'])) (fun q' => hb (by simp [q'])) (fun q' => hb (by simp [q'])) q)) hf (Nat.le_refl _) new
    refine ⟨.ref s.heap.objs.size, _, I1, rfl, ⟨_, x, y, z, rfl, I.hok.fresh (Nat.le_refl _), rfl, fun l hl => by rw [sqk_inj I hl hqx]; exact hx, fun l hl => by rw [sqk_inj I hl hqy]; exact hy, fun l hl => by rw [sqk_inj I hl hqz]; exact hzz⟩, ⟨z'', ?_, ⟨v1, v2, v3, ?_⟩, ?_, ?_, ?_⟩, fun c hcm => ?_⟩
    · exact (sb.2 _ (na (by omega))).trans (hk _ _ (na (by omega)) (na (by omega)) (na (by omega)) (na (by omega)) (na (by omega)) hTI)
    · exact (sb.2 _ (na (by omega))).trans TO'
    · exact (kk1 _ _ s1').at fun o q => (sb.2 _ (na (by omega))).trans q
    · exact (kk2 _ _ s2').at fun o q => (sb.2 _ (na (by omega))).trans q
    · exact (kk3 _ _ s3').at fun o q => (sb.2 _ (na (by omega))).trans q
    · have hlt : c < s.heap.objs.size := by
        have e' : c = n + 5 ∨ c = n + 3 ∨ c = n + 4 ∨ c = n ∨ c = n + 1 ∨ c = n + 2 := by simpa using hcm
        have hzl : (n + 5 : Nat) < s.heap.objs.size := hzl
        rcases e' with q | q | q | q | q | q
        · rw [q]; exact hzl
        · rw [q]; exact (show (n + 3 : Nat) < s.heap.objs.size by omega)
        · rw [q]; exact (show (n + 4 : Nat) < s.heap.objs.size by omega)
        · rw [q]; exact (show (n : Nat) < s.heap.objs.size by omega)
        · rw [q]; exact (show (n + 1 : Nat) < s.heap.objs.size by omega)
        · rw [q]; exact (show (n + 2 : Nat) < s.heap.objs.size by omega)
      rw [upd_ne (Nat.ne_of_lt hlt)]
      exact (hf c hcm).1
  done := by
    intro X hP hw hK hc i pins s σ H E I hf st hg
    subst hP hw hK
    obtain ⟨hz, hTI, ⟨x0, y0, z0, hTO⟩, h1, h2, h3⟩ := st
    obtain ⟨xs, ys, zs, hqx, hqy, hqz, b1, b2, b3, hend⟩ := hg
    have hh : X.A.in1.handled = none := I.ok.hd hc
    obtain ⟨fp1, n1, P1, St1, e1, D1, st1, m1, f1, p1, kk1⟩ := draws_of I hh hqx r1 h1 (fun l e z => by have := l1 l e; have := ni z; omega)
    obtain ⟨fp2, n2, P2, St2, e2, D2, st2, m2, f2, p2, kk2⟩ := draws_of I hh hqy r2 h2 (fun l e z => by have := l2 l e; have := ni z; omega)
    obtain ⟨fp3, n3, P3, St3, e3, D3, st3, m3, f3, p3, kk3⟩ := draws_of I hh hqz r3 h3 (fun l e z => by have := l3 l e; have := ni z; omega)
    have S : ZipSep3 (n + 5) (n + 3) (n + 4) n (n + 1) (n + 2) fp1 fp2 fp3 := sep_of3 l1 l2 l3 m1 m2 m3 f1 f2 f3
    exact wpAny_pyNext_zipD3_end S D1 D2 D3 hz hTI hTO st1 st2 st3 (by omega) (by omega) (by omega) (by omega) fun h' tk hk => ⟨rfl, I.turnedL (t' := tk) (ch := [n + 5, n + 3, n + 4, n, n + 1, n + 2]) (fun c o hb q =>
      hk c o (fun q' => hb (by simp [q'])) (fun q' => hb (by simp [q'])) (fun q' => hb (by simp [q'])) (fun q' => hb (by simp [q'])) (fun q' => hb (by simp [q'])) q) hf⟩
  self := fun A i s Q E st h => wpAny_pyIter_zip st.1 h
def iZip3 (K : PySem.W.Frag) (k1 k2 k3 : Kd) (ta : TA) : TI := fun σ H R => ta σ H fun vs H1 => ∃ va vb vc xs ys zs, vs = [va, vb, vc] ∧ SqK K H1 k1 va xs ∧ SqK K H1 k2 vb ys ∧ SqK K H1 k3 vc zs ∧ R (ItZ3 K k1 k2 k3 va vb vc) H1
theorem pi_zip3 {X : Cx} {k1 k2 k3 : Kd} {e e2 e3 : Expr} {ta : TA} {p pos tpos : Pos} {elts : List Expr} {kk : Nat} (hg : Gl X "zip") (hm : X.mg "zip" = none) (ha : PA X [e, e2, e3] ta)
    (hs : starEach [e, e2, e3] X.env = (false, eval e X.env) :: starEach [e2, e3] X.env := by rfl) (hpl : (backTo pos (starEach [e2, e3] X.env)).any (·.1) = false := by rfl) :
    PI X (.Tuple elts kk tpos) (.Call (.Name "zip" p) [e, e2, e3] [] pos) (iZip3 X.K k1 k2 k3 ta) := by
  refine ⟨fun pins s σ H R I h => ?_⟩
  refine Call_ (ld_blt I hg hm PyProof.Rows.boot_zip (PyProof.Rows.callWith_type1 (thn (ha.run pos pins s σ H _ I h) fun us s1 ⟨vs, H1, I1, r1, q1⟩ => ?_) hs hpl))
  obtain ⟨va, vb, vc, xs, ys, zs, ex, hqx, hqy, hqz, q⟩ := q1
  subst ex
  cases r1 with
  | cons r rr =>
    cases rr with
    | cons r' rr =>
      cases rr with
      | cons r'' rr =>
      cases rr
      obtain ⟨o1, H01, B1, g1, i1, l1⟩ := begins_of I1 hqx r
      obtain ⟨o2, H02, B2, g2, i2, l2⟩ := begins_of I1 hqy r'
      obtain ⟨o3, H03, B3, g3, i3, l3⟩ := begins_of I1 hqz r''
      refine zip_begins3 B1 B2 B3 g1 g2 g3 fun h' hz hTI hTO e1 e2 e3 hsz hk => wpAny_pyIter_zip hz ?_
      have I2 : Inv X pins σ H1 { s1 with heap := h' } := I1.kept (t' := s1.toks) hk
      refine ⟨s1.heap.objs.size + 5, [s1.heap.objs.size + 5, s1.heap.objs.size + 3, s1.heap.objs.size + 4, s1.heap.objs.size, s1.heap.objs.size + 1, s1.heap.objs.size + 2], _, _, H1, rfl, I2, turn_zip3 r r' r'' l1 l2 l3, ⟨hz, hTI, ⟨_, _, _, hTO⟩, i1 _ _ e1, i2 _ _ e2, i3 _ _ e3⟩, fun c hcm => ?_, q⟩
      have e' : c = s1.heap.objs.size + 5 ∨ c = s1.heap.objs.size + 3 ∨ c = s1.heap.objs.size + 4 ∨ c = s1.heap.objs.size ∨ c = s1.heap.objs.size + 1 ∨ c = s1.heap.objs.size + 2 := by simpa using hcm
      have hle : s1.heap.objs.size ≤ c := by
        rcases e' with z | z | z | z | z | z
        · rw [z]; exact Nat.le_add_right _ _
        · rw [z]; exact Nat.le_add_right _ _
        · rw [z]; exact Nat.le_add_right _ _
        · rw [z]; exact Nat.le_refl _
        · rw [z]; exact Nat.le_add_right _ _
        · rw [z]; exact Nat.le_add_right _ _
      exact I1.fpOk hle (I1.hok.fresh hle)
/-- what such a turn gives -/
def YTrip (xs ys zs : List V) : Nat → Hp → V → Hp → Prop := fun i H v H' => ∃ T x y z, v = .ref T ∧ H T = none ∧ H' = upd H T (.tup [x, y, z]) ∧ xs[i]? = some x ∧ ys[i]? = some y ∧ zs[i]? = some z
theorem walk_zip3 {K : PySem.W.Frag} {k1 k2 k3 : Kd} {a b c : V} {xs ys zs : List V} {n : Nat} (h1 : n = xs.length) (h2 : n = ys.length) (h3 : n = zs.length) :
    Walk (ItZ3 K k1 k2 k3 a b c) n (fun H => SqK K H k1 a xs ∧ SqK K H k2 b ys ∧ SqK K H k3 c zs) (YTrip xs ys zs) where
  goes := fun i H hi h => ⟨xs, ys, zs, xs[i]'(by omega), ys[i]'(by omega), zs[i]'(by omega), h.1, h.2.1, h.2.2, List.getElem?_eq_getElem _, List.getElem?_eq_getElem _, List.getElem?_eq_getElem _⟩
  stops := fun H h => ⟨xs, ys, zs, h.1, h.2.1, h.2.2, by omega, by omega, by omega, by omega⟩
  yields := fun i H x H' hi h y => by
    obtain ⟨T, u, v, w, rfl, nT, e, hu, hv, hw⟩ := y
    exact ⟨T, u, v, w, rfl, nT, e, hu xs h.1, hv ys h.2.1, hw zs h.2.2⟩
end X19

namespace DL
open PySem PySem.Spec PyProof.Rows L2 Kit

/-! ### what is read of a value: a list that may change by what it holds now -/
section
variable (K : PySem.W.Frag)
def Vw (S : Pl) (μ : Mu) (H : Hp) (d : D) (v : V) : Prop := match d with
  | .lst xs => ∃ a vs, v = .ref a ∧ H a = some (.lst vs) ∧ RepA K S μ H xs vs
  | .dct false ks => ∃ a kvs, v = .ref a ∧ H a = some (.dK kvs) ∧ RepK K S μ H ks kvs
  | .dct true ks => ∃ a kvs, v = .ref a ∧ H a = some (.dT kvs) ∧ RepT K S μ H ks kvs
  | d => Rep K S μ H d v
end
def lookM : Option MO → Option D
  | some (.lst xs) => some (.lst xs)
  | some (.dct b ks) => some (.dct b ks)
  | _ => none
def look (μ : Mu) : D → Option D
  | .ref n => lookM μ[n]?
  | d => some d
def see (d : D) : W D := W.rd fun μ => W.opt (look μ d)
theorem run_see {d : D} {Q : D → Mu → Prop} {E : Exn → Mu → Prop} {μ : Mu} : (see d).run Q E μ = (W.opt (look μ d)).run Q E μ := rfl
section
variable {K : PySem.W.Frag} {dk : DK} {S : Pl} {μ : Mu} {H : Hp}
theorem Rep.vw {d : D} {v : V} (h : Rep K S μ H d v) : Vw K S μ H d v := by
  cases h with
  | lst h r => exact ⟨_, _, rfl, h.1, r⟩
  | dcK h r => exact ⟨_, _, rfl, h.1, r⟩
  | dcT h r => exact ⟨_, _, rfl, h.1, r⟩
  | ktp h r => exact .ktp h r
  | adr a => exact .adr a
  | non => exact .non
  | bl b => exact .bl b
  | int i => exact .int i
  | str z => exact .str z
  | ty n => exact .ty n
  | ref h => exact .ref h
  | tup h r => exact .tup h r
  | scr h => exact .scr h
theorem see_vw (ok : Ok K dk.p S μ H) {d : D} {v : V} (r : Rep K S μ H d v) {Q : D → Mu → Prop} {E : Exn → Mu → Prop} (h : (see d).run Q E μ) : ∃ d', Vw K S μ H d' v ∧ Q d' μ := by
  rw [run_see] at h
  cases hl : look μ d with
  | none => rw [hl] at h; exact h.elim
  | some d' =>
    rw [hl] at h
    refine ⟨d', ?_, h⟩
    cases d with
    | ref n =>
      cases r with
      | ref hn =>
        have hl : lookM μ[n]? = some d' := hl
        cases hm : μ[n]? with
        | none => rw [hm] at hl; cases hl
        | some m =>
          rw [hm] at hl
          have hk := ok.at_ n m _ hm hn
          cases m with
          | lst xs =>
            cases hl
            obtain ⟨vs, h1, h2⟩ := hk
            exact ⟨_, vs, rfl, h1, h2⟩
          | dct b ks =>
            cases hl
            cases b with
            | false =>
              obtain ⟨kvs, h1, h2⟩ := hk
              exact ⟨_, kvs, rfl, h1, h2⟩
            | true =>
              obtain ⟨kvs, h1, h2⟩ := hk
              exact ⟨_, kvs, rfl, h1, h2⟩
          | _ => cases hl
    | _ => cases hl; exact r.vw
end
/-- rules by what is read -/
def LV1 (K : PySem.W.Frag) (dk : DK) (r : V → Hp → VK → Prop) (g : D → W D) : Prop := ∀ {x : V} {dx : D} {S : Pl} {μ : Mu} {H : Hp} {Q : VK} {E : Exn → Mu → Prop}, Ok K dk.p S μ H → Vw K S μ H dx x →
  (g dx).run (Post K dk S μ H Q) E μ → r x H Q
def LV2 (K : PySem.W.Frag) (dk : DK) (r : R2) (g : D → D → W D) : Prop := ∀ {x y : V} {dx dy : D} {S : Pl} {μ : Mu} {H : Hp} {Q : VK} {E : Exn → Mu → Prop}, Ok K dk.p S μ H → Vw K S μ H dx x → Vw K S μ H dy y →
  (g dx dy).run (Post K dk S μ H Q) E μ → r x y H Q
def s1 (g : D → W D) : D → W D := fun x => W.bnd (see x) g
def s2 (g : D → D → W D) : D → D → W D := fun x y => W.bnd (see x) fun x => W.bnd (see y) fun y => g x y
section
variable {K : PySem.W.Frag} {dk : DK}
theorem LV2.up {r : R2} {g : D → D → W D} (l : LV2 K dk r g) : LR2 K dk r (s2 g) := fun {x y dx dy S μ H Q E} ok rx ry q => by
  obtain ⟨dx', vx, q⟩ := see_vw ok rx (Q := fun x μ' => (W.bnd (see dy) fun y => g x y).run (Post K dk S μ H Q) E μ') q
  obtain ⟨dy', vy, q⟩ := see_vw ok ry (Q := fun y μ' => (g dx' y).run (Post K dk S μ H Q) E μ') q
  exact l ok vx vy q
theorem LV1.up {r : V → Hp → VK → Prop} {g : D → W D} (l : LV1 K dk r g) : LR1 K dk r (s1 g) := fun {x dx S μ H Q E} ok rx q => by
  obtain ⟨dx', vx, q⟩ := see_vw ok rx (Q := fun x μ' => (g x).run (Post K dk S μ H Q) E μ') q
  exact l ok vx q
/-- an argument alone -/
def c1 (g : D → W D) : List D → W D
  | [x] => W.bnd (see x) g
  | _ => W.fail
def c2 (g : D → D → W D) : List D → W D
  | [x, y] => W.bnd (see x) fun x => W.bnd (see y) fun y => g x y
  | _ => W.fail
theorem LV1.call {r : V → Hp → VK → Prop} {g : D → W D} (l : LV1 K dk r g) : LRC K dk (fun xs H Q => ∃ x, xs = [x] ∧ r x H Q) (c1 g) := fun {xs ds S μ H Q E} ok rs q => by
  cases rs with
  | nil => exact q.elim
  | cons h t =>
    cases t with
    | nil =>
      obtain ⟨dx', vx, q⟩ := see_vw ok h (Q := fun x μ' => (g x).run (Post K dk S μ H Q) E μ') q
      exact ⟨_, rfl, l ok vx q⟩
    | cons _ _ => exact q.elim
theorem LV2.call {r : R2} {g : D → D → W D} (l : LV2 K dk r g) : LRC K dk (fun xs H Q => ∃ x y, xs = [x, y] ∧ r x y H Q) (c2 g) := fun {xs ds S μ H Q E} ok rs q => by
  cases rs with
  | nil => exact q.elim
  | cons h t =>
    cases t with
    | nil => exact q.elim
    | cons h2 t2 =>
      cases t2 with
      | nil => exact ⟨_, _, rfl, l.up ok h h2 q⟩
      | cons _ _ => exact q.elim
end
theorem CallR.imp {X : Cx} {f : Value} {r r' : List V → Hp → VK → Prop} (h : CallR X f r) (w : ∀ xs H Q, r' xs H Q → r xs H Q) : CallR X f r' := fun pins s σ H xs us Q I rr q => h pins s σ H xs us Q I rr (w _ _ _ q)
theorem CallR.or {X : Cx} {f : Value} {r r' : List V → Hp → VK → Prop} (h : CallR X f r) (h' : CallR X f r') : CallR X f (fun xs H Q => r xs H Q ∨ r' xs H Q) := fun pins s σ H xs us Q I rr q => by
  rcases q with q | q
  · exact h pins s σ H xs us Q I rr q
  · exact h' pins s σ H xs us Q I rr q

/-! ### whole numbers -/
def oI (C : Int → Int → Prop) (f : Int → Int → D) : D → D → W D
  | .int i, .int j => W.chk (C i j) (W.ret (f i j))
  | _, _ => W.fail
def oI0 (f : Int → Int → D) : D → D → W D
  | .int i, .int j => W.ret (f i j)
  | _, _ => W.fail
section
variable {K : PySem.W.Frag} {dk : DK}
theorem lr_I {C : Int → Int → Prop} {g : Int → Int → V} {f : Int → Int → D} (h : ∀ {S : Pl} {μ : Mu} {H : Hp} (i j : Int), Rep K S μ H (f i j) (g i j)) : LR2 K dk (rI C g) (oI C f) := fun {x y dx dy S μ H Q E} ok rx ry q => by
  unfold oI at q
  split at q
  · cases rx
    cases ry
    exact ⟨_, _, rfl, rfl, q.1, q.2 _ S H Ex.refl ok (h _ _)⟩
  · exact q.elim
theorem lr_I0 {g : Int → Int → V} {f : Int → Int → D} (h : ∀ {S : Pl} {μ : Mu} {H : Hp} (i j : Int), Rep K S μ H (f i j) (g i j)) : LR2 K dk (rI0 g) (oI0 f) := fun {x y dx dy S μ H Q E} ok rx ry q => by
  unfold oI0 at q
  split at q
  · cases rx
    cases ry
    exact ⟨_, _, rfl, rfl, q _ S H Ex.refl ok (h _ _)⟩
  · exact q.elim
def gSub := oI0 fun i j => .int (i - j)
def gMulI := oI IntMulOk fun i j => .int (i * j)
def gDiv := oI CDivW fun i j => .int (i / j)
def gMod := oI (fun _ j => 0 < j) fun i j => .int (i % j)
def gPow := oI CPow fun i j => .int (i ^ j.toNat)
def gShl := oI CPow fun i j => .int (i * 2 ^ j.toNat)
def gShr := oI (fun _ j => 0 ≤ j) fun i j => .int (i / 2 ^ j.toNat)
def gAndI := oI0 fun i j => .int (Builtin.bitAnd i j)
def gOrI := oI0 fun i j => .int (Builtin.bitOr i j)
def gXorI := oI0 fun i j => .int (Builtin.bitXor i j)
theorem l_sub : LR2 K dk (rI0 fun i j => .int (i - j)) gSub := lr_I0 fun _ _ => .int _
theorem l_mulI : LR2 K dk (rI IntMulOk fun i j => .int (i * j)) gMulI := lr_I fun _ _ => .int _
theorem l_div : LR2 K dk (rI CDivW fun i j => .int (i / j)) gDiv := lr_I fun _ _ => .int _
theorem l_mod : LR2 K dk (rI (fun _ j => 0 < j) fun i j => .int (i % j)) gMod := lr_I fun _ _ => .int _
theorem l_pow : LR2 K dk (rI CPow fun i j => .int (i ^ j.toNat)) gPow := lr_I fun _ _ => .int _
theorem l_shl : LR2 K dk (rI CPow fun i j => .int (i * 2 ^ j.toNat)) gShl := lr_I fun _ _ => .int _
theorem l_shr : LR2 K dk (rI (fun _ j => 0 ≤ j) fun i j => .int (i / 2 ^ j.toNat)) gShr := lr_I fun _ _ => .int _
theorem l_andI : LR2 K dk (rI0 fun i j => .int (Builtin.bitAnd i j)) gAndI := lr_I0 fun _ _ => .int _
theorem l_orI : LR2 K dk (rI0 fun i j => .int (Builtin.bitOr i j)) gOrI := lr_I0 fun _ _ => .int _
theorem l_xorI : LR2 K dk (rI0 fun i j => .int (Builtin.bitXor i j)) gXorI := lr_I0 fun _ _ => .int _
def gNeg : D → W D
  | .int i => W.ret (.int (-i))
  | _ => W.fail
theorem l_neg : LR1 K dk (rU fun i => .int (-i)) gNeg := fun {x dx S μ H Q E} ok rx q => by
  unfold gNeg at q
  split at q
  · cases rx
    exact ⟨_, rfl, q _ S H Ex.refl ok (.int _)⟩
  · exact q.elim
/-! order -/
def gOrd (f : Int → Int → Bool) (g : Str → Str → Bool) : D → D → W D
  | .int i, .int j => W.ret (.bl (f i j))
  | .str i, .str j => W.ret (.bl (g i j))
  | _, _ => W.fail
def rOrd (f : Int → Int → Bool) (g : Str → Str → Bool) : R2 := fun x y H Q => rI0 (fun i j => .bl (f i j)) x y H Q ∨ ∃ i j, x = .str i ∧ y = .str j ∧ Q (.bl (g i j)) H
theorem l_ord {f : Int → Int → Bool} {g : Str → Str → Bool} : LR2 K dk (rOrd f g) (gOrd f g) := fun {x y dx dy S μ H Q E} ok rx ry q => by
  unfold gOrd at q
  split at q
  · cases rx
    cases ry
    exact .inl ⟨_, _, rfl, rfl, q _ S H Ex.refl ok (.bl _)⟩
  · cases rx
    cases ry
    exact .inr ⟨_, _, rfl, rfl, q _ S H Ex.refl ok (.bl _)⟩
  · exact q.elim
def ltS (i j : Str) : Bool := decide (i.cps.toList < j.cps.toList)
def gLt := gOrd (fun i j => decide (i < j)) ltS
def gLe := gOrd (fun i j => decide (i ≤ j)) fun i j => !ltS j i
def gGt := gOrd (fun i j => decide (j < i)) fun i j => ltS j i
theorem o_lt {X : Cx} : OpR X (compareOp .Lt) (rOrd (fun i j => decide (i < j)) ltS) := OpR.or op_lt op_lt_str
theorem o_le {X : Cx} : OpR X (compareOp .LtE) (rOrd (fun i j => decide (i ≤ j)) fun i j => !ltS j i) := OpR.or op_le op_le_str
theorem o_gt {X : Cx} : OpR X (compareOp .Gt) (rOrd (fun i j => decide (j < i)) fun i j => ltS j i) := OpR.or op_gt op_gt_str
def gGe := oI0 fun i j => .bl (decide (j ≤ i))
theorem l_ge : LR2 K dk (rI0 fun i j => .bl (decide (j ≤ i))) gGe := lr_I0 fun _ _ => .bl _
end

/-! ### + of numbers, texts, tuples, lists -/
def gAdd : D → D → W D
  | .int i, .int j => W.ret (.int (i + j))
  | .str a, .str b => W.chk (a.length + b.length ≤ sizeLine) (W.ret (.str (a ++ b)))
  | .tup a, .tup b => W.chk (a.length + b.length ≤ sizeLine) (W.ret (.tup (a ++ b)))
  | .lst a, .lst b => W.chk (a.length + b.length ≤ sizeLine) (W.ret (.lst (a ++ b)))
  | _, _ => W.fail
def rAddA (K : PySem.W.Frag) : R2 := fun x y H Q => rI0 (fun i j => .int (i + j)) x y H Q ∨ (∃ i j, x = .str i ∧ y = .str j ∧ i.length + j.length ≤ sizeLine ∧ Q (.str (i ++ j)) H) ∨ X10.rCatTA K x y H Q ∨ rCat x y H Q
theorem o_add {X : Cx} : OpR X (binaryOp .Add) (rAddA X.K) := OpR.or op_add (OpR.or op_add_str (OpR.or X10.op_catTA op_cat))
section
variable {K : PySem.W.Frag} {dk : DK}
theorem l_add : LR2 K dk (rAddA K) (s2 gAdd) := LV2.up fun {x y dx dy S μ H Q E} ok rx ry q => by
  unfold gAdd at q
  split at q
  · cases rx
    cases ry
    exact .inl ⟨_, _, rfl, rfl, q _ S H Ex.refl ok (.int _)⟩
  · cases rx
    cases ry
    exact .inr (.inl ⟨_, _, rfl, rfl, q.1, q.2 _ S H Ex.refl ok (.str _)⟩)
  · refine .inr (.inr (.inl ?_))
    rcases rx with _ | _ | _ | _ | _ | _ | @⟨_, a, vs, hx, rx⟩
    rcases ry with _ | _ | _ | _ | _ | _ | @⟨_, b, ws, hy, ry⟩
    by_cases hv : vs = []
    · subst hv
      cases rx
      exact .inl ⟨a, b, ws, rfl, rfl, hx.sq, hy.sq, q.2 _ S H Ex.refl ok (.tup hy ry)⟩
    · refine .inr ⟨a, b, vs, ws, rfl, rfl, hx.sq, hy.sq, hv, by rw [← rx.len, ← ry.len]; exact q.1, fun hw => ?_, fun _ p hp => ?_⟩
      · subst hw
        cases ry
        have q2 := q.2 (.ref a) S H Ex.refl ok
        rw [List.append_nil] at q2
        exact q2 (.tup hx rx)
      · exact q.2 (.ref p) S _ (new_ex ok hp) (new_ok ok hp) (new_tup ok hp (rx.app ry))
  · obtain ⟨a, vs, rfl, hx, rx⟩ := rx
    obtain ⟨b, ws, rfl, hy, ry⟩ := ry
    refine .inr (.inr (.inr ⟨a, b, vs, ws, rfl, rfl, hx, hy, by rw [← rx.len, ← ry.len]; exact q.1, fun p hp => ?_⟩))
    exact q.2 (.ref p) S _ (new_ex ok hp) (new_ok ok hp) (new_lst ok hp (rx.app ry))
  · exact q.elim

/-! ### subscripts -/
def gIx : D → D → W D
  | .tup xs, .int i => W.opt (atI xs i)
  | .ktp xs, .int i => W.opt (atI xs i)
  | .lst xs, .int i => W.opt (atI xs i)
  | .str z, .int i => W.chk (z.length ≤ sizeLine) (W.opt ((atI z.cps.toList i).map fun c => .str ⟨#[c]⟩))
  | _, _ => W.fail
theorem RepA.atI {S : Pl} {μ : Mu} {H : Hp} {ds : List D} {vs : List V} (h : RepA K S μ H ds vs) {i : Int} {d : D} (e : L2.atI ds i = some d) : ∃ v, L2.atI vs i = some v ∧ Rep K S μ H d v := by
  unfold L2.atI at e ⊢
  rw [← h.len]
  cases hk : ixN ds.length i with
  | none => rw [hk] at e; cases e
  | some k =>
    rw [hk] at e
    obtain ⟨v, h1, h2⟩ := h.get (show ds[k]? = some d from e)
    exact ⟨v, h1, h2⟩
theorem l_ix : LR2 K dk (rIx K) (s2 gIx) := LV2.up fun {x y dx dy S μ H Q E} ok rx ry q => by
  unfold gIx at q
  split at q
  · next xs i =>
    rcases rx with _ | _ | _ | _ | _ | _ | @⟨_, a, vs, hx, rx⟩
    cases ry
    cases hd : L2.atI xs i with
    | none => rw [hd] at q; exact q.elim
    | some d =>
      rw [hd] at q
      obtain ⟨v, h1, h2⟩ := rx.atI hd
      exact .inr (.inl ⟨a, vs, i, v, rfl, rfl, hx.sq, h1, q v S H Ex.refl ok h2⟩)
  · next xs i =>
    rcases rx with _ | _ | _ | _ | _ | _ | _ | _ | @⟨_, a, vs, hx, rx⟩
    cases ry
    cases hd : L2.atI xs i with
    | none => rw [hd] at q; exact q.elim
    | some d =>
      rw [hd] at q
      obtain ⟨v, h1, h2⟩ := rx.atI hd
      exact .inr (.inl ⟨a, vs, i, v, rfl, rfl, kt_sq hx, h1, q v S H Ex.refl ok h2⟩)
  · next xs i =>
    obtain ⟨a, vs, rfl, hx, rx⟩ := rx
    cases ry
    cases hd : L2.atI xs i with
    | none => rw [hd] at q; exact q.elim
    | some d =>
      rw [hd] at q
      obtain ⟨v, h1, h2⟩ := rx.atI hd
      exact .inl ⟨a, vs, i, v, rfl, rfl, .inl (.inl hx), h1, q v S H Ex.refl ok h2⟩
  · next z i =>
    cases rx
    cases ry
    cases hd : L2.atI z.cps.toList i with
    | none => rw [hd] at q; exact q.2.elim
    | some k =>
      rw [hd] at q
      exact .inr (.inr ⟨z, i, k, rfl, rfl, q.1, hd, q.2 _ S H Ex.refl ok (.str _)⟩)
  · exact q.elim

/-! ### lengths -/
def gLen : D → W D
  | .tup xs => W.ret (.int xs.length)
  | .ktp xs => W.ret (.int xs.length)
  | .lst xs => W.ret (.int xs.length)
  | .str z => W.chk (z.length ≤ sizeLine) (W.ret (.int z.length))
  | .scr ns => W.ret (.int ns.length)
  | _ => W.fail
theorem l_len : LRC K dk (fun xs H Q => ∃ x, xs = [x] ∧ ∃ n : Nat, LenV K x H n ∧ Q (.int n) H) (c1 gLen) := LV1.call (r := fun x H Q => ∃ n : Nat, LenV K x H n ∧ Q (.int n) H) fun {x dx S μ H Q E} ok rx q => by
  unfold gLen at q
  split at q
  · rcases rx with _ | _ | _ | _ | _ | _ | @⟨_, a, vs, hx, rx⟩
    exact ⟨vs.length, .inr ⟨vs, hx.sq, rfl⟩, by rw [← rx.len]; exact q _ S H Ex.refl ok (.int _)⟩
  · rcases rx with _ | _ | _ | _ | _ | _ | _ | _ | @⟨_, a, vs, hx, rx⟩
    exact ⟨vs.length, .inr ⟨vs, kt_sq hx, rfl⟩, by rw [← rx.len]; exact q _ S H Ex.refl ok (.int _)⟩
  · obtain ⟨a, vs, rfl, hx, rx⟩ := rx
    exact ⟨vs.length, .inl ⟨vs, .inl (.inl hx), rfl⟩, by rw [← rx.len]; exact q _ S H Ex.refl ok (.int _)⟩
  · cases rx
    exact ⟨_, ⟨q.1, rfl⟩, q.2 _ S H Ex.refl ok (.int _)⟩
  · next ns =>
    cases rx with
    | scr h => exact ⟨ns.length, .inl ⟨_, h.sq, by rw [List.length_map]⟩, q _ S H Ex.refl ok (.int _)⟩
  · exact q.elim
theorem k_len {X : Cx} : CallR X (.builtin "len") (fun xs H Q => ∃ x, xs = [x] ∧ ∃ n : Nat, LenV X.K x H n ∧ Q (.int n) H) := CallR.imp call_len fun _ _ _ ⟨x, e, n, h⟩ => ⟨x, n, e, h⟩

/-! ### slices -/
def dPart (f : DS → W D) : DS → W (Option Int) := fun ε => W.bnd (f ε) fun d => match d with
  | .int i => W.ret (some i)
  | _ => W.fail
def dNoPart : DS → W (Option Int) := fun _ => W.ret none
def lowO (K : PySem.W.Frag) (dk : DK) (c : LC K dk) (f : DS → W (Option Int)) : TO := fun σ H Q => ∃ ε S μ, c.lk S μ H ∧ Ok K dk.p S μ H ∧ RS K S μ H ε σ ∧ (f ε).run (fun o μ' => ∀ S' H', Ex S μ H S' μ' H' → Ok K dk.p S' μ' H' → Q o H') c.E μ
def cutD {α : Type} (xs : List α) (lo hi : Option Int) : List α := (xs.drop (HT.sIx xs.length 0 lo)).take (HT.sIx xs.length xs.length hi - HT.sIx xs.length 0 lo)
def gSl : D → Option Int → Option Int → W D
  | .tup xs, lo, hi => W.ret (.tup (cutD xs lo hi))
  | .lst xs, lo, hi => W.ret (.lst (cutD xs lo hi))
  | .str z, lo, hi => W.chk (z.length ≤ sizeLine) (W.ret (.str (cutS z lo hi)))
  | _, _, _ => W.fail
def dSl (f : DS → W D) (l h : DS → W (Option Int)) : DS → W D := fun ε => W.bnd (f ε) fun x => W.bnd (l ε) fun lo => W.bnd (h ε) fun hi => W.bnd (see x) fun x => gSl x lo hi
def rSlAny (K : PySem.W.Frag) : V → Option Int → Option Int → Hp → VK → Prop := fun x lo hi H Q => X9.rSlTA K x lo hi H Q ∨ rSlL K x lo hi H Q ∨ rSlS x lo hi H Q
theorem o_sl {X : Cx} : SlR X (rSlAny X.K) := SlR.or X9.sl_tupA (SlR.or sl_list sl_str)
theorem cutD_rep {S : Pl} {μ : Mu} {H : Hp} {ds : List D} {vs : List V} (h : RepA K S μ H ds vs) {lo hi : Option Int} : RepA K S μ H (cutD ds lo hi) (cutV vs lo hi) := by
  unfold cutD cutV
  rw [h.len]
  generalize HT.sIx vs.length 0 lo = a
  generalize HT.sIx vs.length vs.length hi - a = b
  refine RepA.of ?_ fun i d v h1 h2 => ?_
  · rw [List.length_take, List.length_take, List.length_drop, List.length_drop, h.len]
  · rw [List.getElem?_take] at h1 h2
    split at h1
    · rw [List.getElem?_drop] at h1
      rw [if_pos ‹_›, List.getElem?_drop] at h2
      obtain ⟨v', h3, h4⟩ := h.get h1
      rw [h2] at h3
      cases h3
      exact h4
    · cases h1
theorem l_sl {S : Pl} {μ : Mu} {H : Hp} {Q : VK} {E : Exn → Mu → Prop} {x : V} {d : D} {lo hi : Option Int} (ok : Ok K dk.p S μ H) (rx : Vw K S μ H d x) (q : (gSl d lo hi).run (Post K dk S μ H Q) E μ) : rSlAny K x lo hi H Q := by
  unfold gSl at q
  split at q
  · rcases rx with _ | _ | _ | _ | _ | _ | @⟨_, a, vs, hx, rx⟩
    refine .inl ⟨a, vs, rfl, hx.sq, fun hw => ?_, fun _ p hp => ?_⟩
    · have q2 := q (.ref a) S H Ex.refl ok
      have e : cutD ‹List D› lo hi = ‹List D› := by
        obtain ⟨w1, w2⟩ := hw
        unfold cutD
        rw [rx.len, w1, w2, List.drop_zero, Nat.sub_zero, List.take_of_length_le (by rw [rx.len]; exact Nat.le_refl _)]
      rw [e] at q2
      exact q2 (.tup hx rx)
    · exact q (.ref p) S _ (new_ex ok hp) (new_ok ok hp) (new_tup ok hp (cutD_rep rx))
  · obtain ⟨a, vs, rfl, hx, rx⟩ := rx
    exact .inr (.inl ⟨a, vs, rfl, .inl (.inl hx), fun p hp => q (.ref p) S _ (new_ex ok hp) (new_ok ok hp) (new_lst ok hp (cutD_rep rx))⟩)
  · cases rx
    exact .inr (.inr ⟨_, rfl, q.1, q.2 _ S H Ex.refl ok (.str _)⟩)
  · exact q.elim
end
section
variable {X : Cx} {dk : DK} {c : LC X.K dk} {e : Expr} {f : DS → W D} {lo hi : Option Expr} {fl fh : DS → W (Option Int)} {pos p2 : Pos}
theorem po_w {to : TO} (h : PO X lo to) (w : ∀ σ H Q, lowO X.K dk c fl σ H Q → to σ H Q) : PO X lo (lowO X.K dk c fl) := ⟨fun pins s σ H Q I q => h.run pins s σ H Q I (w σ H Q q)⟩
theorem do_none : PO X none (lowO X.K dk c dNoPart) := po_w po_none fun _ _ _ ⟨_, S, _, _, ok, _, q⟩ => q S _ Ex.refl ok
theorem do_some (h : PE X e (lowE X.K dk c f)) : PO X (some e) (lowO X.K dk c (dPart f)) := po_w (po_some h) fun σ H Q ⟨ε, S, μ, lk, ok, rs, run⟩ => by
  refine ⟨ε, S, μ, lk, ok, rs, W.up run fun d μ1 run1 v S1 H1 ex1 ok1 rep1 => ?_⟩
  cases rep1 with
  | int i => exact ⟨i, rfl, run1 S1 H1 ex1 ok1⟩
  | _ => exact run1.elim
theorem de_slice (he : PE X e (lowE X.K dk c f)) (hl : PO X lo (lowO X.K dk c fl)) (hu : PO X hi (lowO X.K dk c fh)) : PE X (.Subscript e (.Slice lo hi none p2) pos) (lowE X.K dk c (dSl f fl fh)) :=
  pe_w (pe_slice o_sl he hl hu) fun σ H Q ⟨ε, S, μ, lk, ok, rs, run⟩ => by
    refine ⟨ε, S, μ, lk, ok, rs, W.up run fun d μ1 run1 v S1 H1 ex1 ok1 rep1 => ?_⟩
    refine ⟨ε, S1, μ1, c.up lk ex1, ok1, rs.ex ex1, W.up run1 fun lo μ2 run2 S2 H2 ex2 ok2 => ?_⟩
    have x2 := ex1.trans ex2
    refine ⟨ε, S2, μ2, c.up lk x2, ok2, rs.ex x2, W.up run2 fun hi μ3 run3 S3 H3 ex3 ok3 => ?_⟩
    obtain ⟨d', vw, q⟩ := see_vw ok3 ((rep1.ex ex2).ex ex3) (Q := fun x μ' => (gSl x lo hi).run (Post X.K dk S μ H Q) c.E μ') run3
    exact l_sl ok3 vw (W.up q fun _ _ q => q.ex (x2.trans ex3))
/-- x[::-1] of a tuple, a list -/
def gRev : D → W D
  | .tup xs => W.ret (.tup xs.reverse)
  | .lst xs => W.ret (.lst xs.reverse)
  | _ => W.fail
end
end DL

namespace DL
open PySem PySem.Spec PyProof.Rows L2 Kit

/-! ### data that can be shown and compared -/
mutual
def py : D → Option PyData
  | .non => some .none
  | .bl b => some (.bool b)
  | .int i => some (.int i)
  | .str z => some (.str z)
  | .tup xs => (pyL xs).map .tuple
  | .lst xs => (pyL xs).map .list
  | .ty _ => none
  | .ref _ => none
  | .dct _ _ => none
  | .scr _ => none
  | .ktp _ => none
  | .adr _ => none
def pyL : List D → Option (List PyData)
  | [] => some []
  | x :: xs => (py x).bind fun p => (pyL xs).map fun ps => p :: ps
end
section
variable {K : PySem.W.Frag} {dk : DK} {S : Pl} {μ : Mu} {H : Hp}
theorem map_inv {α β : Type} {o : Option α} {f : α → β} {b : β} (h : o.map f = some b) : ∃ a, o = some a ∧ f a = b := by
  cases o with
  | none => cases h
  | some a => exact ⟨a, rfl, Option.some.inj h⟩
theorem bind_inv {α β : Type} {o : Option α} {f : α → Option β} {b : β} (h : o.bind f = some b) : ∃ a, o = some a ∧ f a = some b := by
  cases o with
  | none => cases h
  | some a => exact ⟨a, rfl, h⟩
mutual
theorem py_dp : ∀ {d : D} {v : V} {p : PyData}, Rep K S μ H d v → py d = some p → Dp K H v p
  | _, _, _, .non, h => by cases h; exact .non
  | _, _, _, .bl b, h => by cases h; exact .bl b
  | _, _, _, .int i, h => by cases h; exact .int i
  | _, _, _, .str z, h => by cases h; exact .str z
  | _, _, _, .ty _, h => by cases h
  | _, _, _, .ref _, h => by cases h
  | _, _, _, .scr _, h => by cases h
  | _, _, _, .ktp _ _, h => by cases h
  | _, _, _, .adr _, h => by cases h
  | _, _, _, .dcK _ _, h => by cases h
  | _, _, _, .dcT _ _, h => by cases h
  | .tup xs, _, _, .tup hx rx, h => by
    rw [py] at h
    obtain ⟨ps, h1, rfl⟩ := map_inv h
    exact .tup hx.sq (pyL_dp rx h1)
  | .lst xs, _, _, .lst hx rx, h => by
    rw [py] at h
    obtain ⟨ps, h1, rfl⟩ := map_inv h
    exact .lst hx.sq (pyL_dp rx h1)
theorem pyL_dp : ∀ {ds : List D} {vs : List V} {ps : List PyData}, RepA K S μ H ds vs → pyL ds = some ps → DpAll K H vs ps
  | _, _, _, .nil, h => by cases h; exact .nil
  | d :: ds, _, _, .cons r t, h => by
    rw [pyL] at h
    obtain ⟨p, h1, h2⟩ := bind_inv h
    obtain ⟨ps', h3, rfl⟩ := map_inv h2
    exact .cons (py_dp r h1) (pyL_dp t h3)
end
theorem pyv_dp {d : D} {v : V} {p : PyData} (r : Vw K S μ H d v) (h : py d = some p) : Dp K H v p := by
  cases d with
  | lst xs =>
    obtain ⟨a, vs, rfl, h1, h2⟩ := r
    rw [py] at h
    obtain ⟨ps, h3, rfl⟩ := map_inv h
    exact .lst (.inl (.inl h1)) (pyL_dp h2 h3)
  | dct _ _ => cases h
  | ktp _ => cases h
  | adr _ => cases h
  | non => exact py_dp (K := K) (S := S) (μ := μ) r h
  | bl b => exact py_dp (K := K) (S := S) (μ := μ) r h
  | int i => exact py_dp (K := K) (S := S) (μ := μ) r h
  | str z => exact py_dp (K := K) (S := S) (μ := μ) r h
  | ty n => exact py_dp (K := K) (S := S) (μ := μ) r h
  | ref n => exact py_dp (K := K) (S := S) (μ := μ) r h
  | tup xs => exact py_dp (K := K) (S := S) (μ := μ) r h
  | scr xs => exact py_dp (K := K) (S := S) (μ := μ) r h
end
def pyW (d : D) : W PyData := W.opt (py d)
def gEq (neg : Bool) : D → D → W D := fun x y => W.bnd (pyW x) fun p => W.bnd (pyW y) fun q => W.chk (SeqAt.shaped p = true ∧ SeqAt.shaped q = true) (W.ret (.bl (if neg then !PyData.eqv p q else PyData.eqv p q)))
section
variable {K : PySem.W.Frag} {dk : DK}
theorem pyW_run {d : D} {Q : PyData → Mu → Prop} {E : Exn → Mu → Prop} {μ : Mu} (h : (pyW d).run Q E μ) : ∃ p, py d = some p ∧ Q p μ := by
  unfold pyW at h
  cases e : py d with
  | none => rw [e] at h; exact h.elim
  | some p => rw [e] at h; exact ⟨p, rfl, h⟩
theorem l_eq : LR2 K dk (rEqD K) (s2 (gEq false)) := LV2.up fun {x y dx dy S μ H Q E} ok rx ry q => by
  obtain ⟨p, h1, q⟩ := pyW_run (Q := fun p μ' => (W.bnd (pyW dy) fun q => W.chk (SeqAt.shaped p = true ∧ SeqAt.shaped q = true) (W.ret (D.bl (PyData.eqv p q)))).run (Post K dk S μ H Q) E μ') q
  obtain ⟨p2, h2, q⟩ := pyW_run (Q := fun q μ' => (W.chk (SeqAt.shaped p = true ∧ SeqAt.shaped q = true) (W.ret (D.bl (PyData.eqv p q)))).run (Post K dk S μ H Q) E μ') q
  exact ⟨p, p2, pyv_dp rx h1, pyv_dp ry h2, q.1.1, q.1.2, q.2 _ S H Ex.refl ok (.bl _)⟩
theorem l_ne : LR2 K dk (rNeD K) (s2 (gEq true)) := LV2.up fun {x y dx dy S μ H Q E} ok rx ry q => by
  obtain ⟨p, h1, q⟩ := pyW_run (Q := fun p μ' => (W.bnd (pyW dy) fun q => W.chk (SeqAt.shaped p = true ∧ SeqAt.shaped q = true) (W.ret (D.bl (!PyData.eqv p q)))).run (Post K dk S μ H Q) E μ') q
  obtain ⟨p2, h2, q⟩ := pyW_run (Q := fun q μ' => (W.chk (SeqAt.shaped p = true ∧ SeqAt.shaped q = true) (W.ret (D.bl (!PyData.eqv p q)))).run (Post K dk S μ H Q) E μ') q
  exact ⟨p, p2, pyv_dp rx h1, pyv_dp ry h2, q.1.1, q.1.2, q.2 _ S H Ex.refl ok (.bl _)⟩
/-! repr -/
def isSeq : D → Bool
  | .tup _ => true
  | .lst _ => true
  | _ => false
def gRepr (d : D) : W D := W.chk (isSeq d = true) (W.bnd (pyW d) fun p => W.chk (p.showable = true ∧ p.depth ≤ 150 ∧ p.shown.length ≤ sizeLine) (W.ret (.str p.shown)))
def rRepr1 (K : PySem.W.Frag) : V → Hp → VK → Prop := fun v H Q => ∃ a p, v = .ref a ∧ Dp K H v p ∧ p.showable = true ∧ p.hasDict = false ∧ p.depth ≤ 150 ∧ p.shown.length ≤ sizeLine ∧ Q (.str p.shown) H
theorem k_repr {X : Cx} (hq : Qt X.A) (hu : X.A.units + 200 < cLine) : CallR X (.builtin "repr") (fun xs H Q => ∃ x, xs = [x] ∧ rRepr1 X.K x H Q) := by
  intro pins s σ H xs us Q I r h
  obtain ⟨x, rfl, a, d, rfl, hd, hs, hn, hp, hz, q⟩ := h
  obtain ⟨u, rfl, ru⟩ := vals1 r
  obtain rfl : u = Value.ref a := ru
  obtain ⟨as, rd⟩ := Dp.reads I d _ _ hd rfl
  refine repr_of_reads' rd hs (PyData.noDict_hsm hn) hq (by omega) (fun _ _ e => e) (fun h' u tk hk => ?_) hz
  exact ⟨.str _, H, I.kept hk, ⟨_, rfl⟩, q⟩
mutual
theorem py_noDict : ∀ {d : D} {p : PyData}, py d = some p → p.hasDict = false
  | .non, _, h => by cases h; rfl
  | .bl b, _, h => by cases h; rfl
  | .int i, _, h => by cases h; rfl
  | .str z, _, h => by cases h; rfl
  | .ty _, _, h => by cases h
  | .ref _, _, h => by cases h
  | .scr _, _, h => by cases h
  | .dct _ _, _, h => by cases h
  | .ktp _, _, h => by cases h
  | .adr _, _, h => by cases h
  | .tup xs, _, h => by
    rw [py] at h
    obtain ⟨ps, h1, rfl⟩ := map_inv h
    rw [PyData.hasDict]
    exact pyL_noDict h1
  | .lst xs, _, h => by
    rw [py] at h
    obtain ⟨ps, h1, rfl⟩ := map_inv h
    rw [PyData.hasDict]
    exact pyL_noDict h1
theorem pyL_noDict : ∀ {ds : List D} {ps : List PyData}, pyL ds = some ps → PyData.hasDictAll ps = false
  | [], _, h => by cases h; rfl
  | d :: ds, _, h => by
    rw [pyL] at h
    obtain ⟨p, h1, h2⟩ := bind_inv h
    obtain ⟨ps', h3, rfl⟩ := map_inv h2
    rw [PyData.hasDictAll, py_noDict h1, pyL_noDict h3]
    rfl
end
theorem l_repr : LRC K dk (fun xs H Q => ∃ x, xs = [x] ∧ rRepr1 K x H Q) (c1 gRepr) := LV1.call fun {x dx S μ H Q E} ok rx q => by
  obtain ⟨sq, q⟩ := q
  have isr : ∃ a, x = .ref a := by
    cases dx <;> first | cases sq | skip
    · rcases rx with _ | _ | _ | _ | _ | _ | @⟨_, a, vs, hy, ry⟩
      exact ⟨a, rfl⟩
    · obtain ⟨a, _, rfl, _⟩ := rx
      exact ⟨a, rfl⟩
  obtain ⟨a, rfl⟩ := isr
  obtain ⟨p, h1, q⟩ := pyW_run (Q := fun p μ' => (W.chk (p.showable = true ∧ p.depth ≤ 150 ∧ p.shown.length ≤ sizeLine) (W.ret (D.str p.shown))).run (Post K dk S μ H Q) E μ') q
  exact ⟨a, p, rfl, pyv_dp rx h1, q.1.1, py_noDict h1, q.1.2.1, q.1.2.2, q.2 _ S H Ex.refl ok (.str _)⟩

/-! in, not in -/
def flatD : D → Bool
  | .non => true
  | .bl _ => true
  | .int _ => true
  | .str _ => true
  | _ => false
def eqD : D → D → Bool
  | .non, .non => true
  | .bl a, .bl b => a == b
  | .bl a, .int b => (if a then 1 else 0) == b
  | .int a, .bl b => a == (if b then 1 else 0)
  | .int a, .int b => a == b
  | .str a, .str b => a == b
  | _, _ => false
def gIn (neg : Bool) : D → D → W D
  | x, .lst ys => W.chk (flatD x = true ∧ ys.all flatD = true) (W.ret (.bl (if neg then !ys.any (eqD · x) else ys.any (eqD · x))))
  | x, .tup ys => W.chk (flatD x = true ∧ ys.all flatD = true) (W.ret (.bl (if neg then !ys.any (eqD · x) else ys.any (eqD · x))))
  | x, .ktp ys => W.chk (flatD x = true ∧ ys.all flatD = true) (W.ret (.bl (if neg then !ys.any (eqD · x) else ys.any (eqD · x))))
  | .str x, .str y => W.ret (.bl (if neg then !(!(Builtin.Str.occurrences y x 0 y.length 1).isEmpty) else !(Builtin.Str.occurrences y x 0 y.length 1).isEmpty))
  | _, _ => W.fail
theorem flat_rep {S : Pl} {μ : Mu} {H : Hp} {d : D} {v : V} (r : Rep K S μ H d v) (h : flatD d = true) : flatV v = true := by
  cases r <;> first | rfl | (cases h; done)
theorem flat_reps {S : Pl} {μ : Mu} {H : Hp} : ∀ {ds : List D} {vs : List V}, RepA K S μ H ds vs → ds.all flatD = true → vs.all flatV = true
  | _, _, .nil, _ => rfl
  | _, _, .cons r t, h => by
    rw [List.all_cons, Bool.and_eq_true] at h
    rw [List.all_cons, flat_rep r h.1, flat_reps t h.2]
    rfl
theorem eq_rep {S : Pl} {μ : Mu} {H : Hp} {x y : D} {v u : V} (rx : Rep K S μ H x v) (ry : Rep K S μ H y u) (fx : flatD x = true) (fy : flatD y = true) : eqV u v = eqD y x := by
  cases rx <;> first | (cases fx; done) | (cases ry <;> first | (cases fy; done) | rfl)
theorem in_rep {S : Pl} {μ : Mu} {H : Hp} {x : D} {v : V} (rx : Rep K S μ H x v) (fx : flatD x = true) : ∀ {ds : List D} {vs : List V}, RepA K S μ H ds vs → ds.all flatD = true → inV v vs = ds.any (eqD · x)
  | _, _, .nil, _ => rfl
  | _, _, .cons r t, h => by
    rw [List.all_cons, Bool.and_eq_true] at h
    have ih := in_rep rx fx t h.2
    unfold inV at ih ⊢
    rw [List.any_cons, List.any_cons, ih, eq_rep rx r fx h.1]
theorem vw_flat {S : Pl} {μ : Mu} {H : Hp} {x : D} {v : V} (r : Vw K S μ H x v) (f : flatD x = true) : Rep K S μ H x v := by
  cases x <;> first | exact r | cases f
def rInA (K : PySem.W.Frag) (neg : Bool) : R2 := fun x y H Q => rIn K neg x y H Q ∨ ∃ i j, x = .str i ∧ y = .str j ∧ Q (.bl (if neg then !(!(Builtin.Str.occurrences j i 0 j.length 1).isEmpty) else !(Builtin.Str.occurrences j i 0 j.length 1).isEmpty)) H
theorem o_in {X : Cx} : OpR X (compareOp .In) (rInA X.K false) := OpR.or op_in_seq op_in_str
theorem o_notIn {X : Cx} : OpR X (compareOp .NotIn) (rInA X.K true) := OpR.or op_notIn_seq op_notin_str
theorem l_in {neg : Bool} : LR2 K dk (rInA K neg) (s2 (gIn neg)) := LV2.up fun {x y dx dy S μ H Q E} ok rx ry q => by
  unfold gIn at q
  split at q
  · obtain ⟨a, vs, rfl, hy, ry⟩ := ry
    have rx' := vw_flat rx q.1.1
    refine .inl ⟨a, vs, rfl, .inl (.inl (.inl hy)), flat_rep rx' q.1.1, flat_reps ry q.1.2, ?_⟩
    rw [in_rep rx' q.1.1 ry q.1.2]
    exact q.2 _ S H Ex.refl ok (.bl _)
  · rcases ry with _ | _ | _ | _ | _ | _ | @⟨_, a, vs, hy, ry⟩
    have rx' := vw_flat rx q.1.1
    refine .inl ⟨a, vs, rfl, .inr hy.sq, flat_rep rx' q.1.1, flat_reps ry q.1.2, ?_⟩
    rw [in_rep rx' q.1.1 ry q.1.2]
    exact q.2 _ S H Ex.refl ok (.bl _)
  · rcases ry with _ | _ | _ | _ | _ | _ | _ | _ | @⟨_, a, vs, hy, ry⟩
    have rx' := vw_flat rx q.1.1
    refine .inl ⟨a, vs, rfl, .inr (kt_sq hy), flat_rep rx' q.1.1, flat_reps ry q.1.2, ?_⟩
    rw [in_rep rx' q.1.1 ry q.1.2]
    exact q.2 _ S H Ex.refl ok (.bl _)
  · cases rx
    cases ry
    exact .inr ⟨_, _, rfl, rfl, q _ S H Ex.refl ok (.bl _)⟩
  · exact q.elim

/-! is None -/
def gIsN (neg : Bool) : D → D → W D
  | .non, .non => W.ret (.bl (!neg))
  | .ty _, .non => W.fail
  | _, .non => W.ret (.bl neg)
  | _, _ => W.fail
theorem non_iff {S : Pl} {μ : Mu} {H : Hp} {d : D} {v : V} (r : Rep K S μ H d v) (h : d ≠ .non) : v ≠ .non := by
  cases r <;> first | exact absurd rfl h | (intro z; cases z)
theorem l_isN : LR2 K dk (fun x y H Q => y = .non ∧ Q (.bl (decide (x = .non))) H) (gIsN false) := fun {x y dx dy S μ H Q E} ok rx ry q => by
  unfold gIsN at q
  split at q
  · cases rx; cases ry
    exact ⟨rfl, q _ S H Ex.refl ok (.bl _)⟩
  · exact q.elim
  · next h1 _ =>
    cases ry
    refine ⟨rfl, ?_⟩
    rw [decide_eq_false (non_iff rx fun z => h1 z)]
    exact q _ S H Ex.refl ok (.bl _)
  · exact q.elim
theorem l_notN : LR2 K dk (fun x y H Q => y = .non ∧ Q (.bl (!decide (x = .non))) H) (gIsN true) := fun {x y dx dy S μ H Q E} ok rx ry q => by
  unfold gIsN at q
  split at q
  · cases rx; cases ry
    exact ⟨rfl, q _ S H Ex.refl ok (.bl _)⟩
  · exact q.elim
  · next h1 _ =>
    cases ry
    refine ⟨rfl, ?_⟩
    rw [decide_eq_false (non_iff rx fun z => h1 z)]
    exact q _ S H Ex.refl ok (.bl _)
  · exact q.elim

/-! ### calls -/
/-- isinstance(x, int) and so on: of data -/
def isI (n : String) : D → Option Bool
  | .non => some (n == "NoneType")
  | .bl _ => some (n == "bool" || n == "int")
  | .int _ => some (n == "int")
  | .str _ => some (n == "str")
  | .tup _ => some (n == "tuple")
  | .lst _ => some (n == "list")
  | _ => none
def gIsI : D → D → W D
  | x, .ty n => W.chk (n ∈ ["int", "str", "tuple", "list", "bool", "dict"]) (W.bnd (W.opt (isI n x)) fun b => W.ret (.bl b))
  | _, _ => W.fail
theorem kit_ty (K : PySem.W.Frag) {n : String} (h : n ∈ ["int", "str", "tuple", "list", "bool", "dict"]) {m : String} (hm : m ∈ ["NoneType", "bool", "int", "str", "tuple", "list", "dict"]) :
    PySem.W.kitOne K (.type m) (.type n) = some (n == m || (m == "bool" && n == "int")) := by
  simp only [List.mem_cons, List.not_mem_nil, or_false] at h hm
  rcases h with rfl | rfl | rfl | rfl | rfl | rfl <;> rcases hm with rfl | rfl | rfl | rfl | rfl | rfl | rfl <;> rfl
end
end DL

namespace DL
open PySem PySem.Spec PyProof.Rows L2 Kit

/-! ### the store grows, is written, is left -/
section
variable {K : PySem.W.Frag} {dk : DK} {S : Pl} {μ : Mu} {H : Hp}
def Pl.add (S : Pl) (a : Addr) : Pl := ⟨S.L ++ [a], S.hid⟩
theorem live_add {m : MO} {p a : Addr} (hl : S.L.length = μ.length) (h : live (S.add p) (μ ++ [m]) a) : live S μ a ∨ a = p := by
  rcases h with h | ⟨n, m', h1, h2, h3⟩
  · exact .inl (.inl h)
  · have h1 : (S.L ++ [p])[n]? = some a := h1
    by_cases hn : n < S.L.length
    · rw [List.getElem?_append_left hn] at h1
      rw [List.getElem?_append_left (by omega)] at h2
      exact .inl (.inr ⟨n, m', h1, h2, h3⟩)
    · rw [List.getElem?_append_right (by omega)] at h1
      rw [List.getElem?_singleton] at h1
      split at h1
      · exact .inr (Option.some.inj h1).symm
      · cases h1
theorem add_ex (ok : Ok K dk.p S μ H) {p : Addr} {o : HO} {m : MO} (hp : H p = none) : Ex S μ H (S.add p) (μ ++ [m]) (upd H p o) := by
  refine ⟨⟨[p], rfl⟩, rfl, fun a u h n => ⟨?_, fun z => ?_⟩, fun a ha => ?_⟩
  · rw [upd_ne (ne_of_none h hp)]
    exact h
  · rcases live_add ok.len z with z | z
    · exact n z
    · exact ne_of_none h hp z
  · rw [upd_ne]
    rintro rfl
    exact ok.fresh hp (List.mem_append_right _ ha)
theorem add_ok (ok : Ok K dk.p S μ H) {p : Addr} {o : HO} {m : MO} (hp : H p = none) (new : MoOk K dk.p (S.add p) (μ ++ [m]) (upd H p o) μ.length p m) : Ok K dk.p (S.add p) (μ ++ [m]) (upd H p o) := by
  have fr := ok.fresh hp
  have ne : ∀ a, a ∈ S.L ++ S.hid → a ≠ p := fun a ha z => fr (z ▸ ha)
  have ex := add_ex (o := o) (m := m) ok hp
  refine ⟨?_, ?_, fun a ha => ?_, fun n m' a e1 e2 => ?_⟩
  · show (S.L ++ [p]).length = _
    rw [List.length_append, List.length_append, ok.len]
    rfl
  · show ((S.L ++ [p]) ++ S.hid).Nodup
    rw [List.append_assoc]
    have h := ok.nd
    refine (List.perm_middle (a := p) (l₁ := S.L) (l₂ := S.hid)).symm.nodup ?_
    exact List.nodup_cons.mpr ⟨fr, h⟩
  · have ha : a ∈ (S.L ++ [p]) ++ S.hid := ha
    rw [List.append_assoc] at ha
    by_cases hap : a = p
    · rw [hap, upd_same]
      intro z
      cases z
    · rw [upd_ne hap]
      refine ok.here a ?_
      rcases List.mem_append.mp ha with h | h
      · exact List.mem_append_left _ h
      · rcases List.mem_append.mp h with h | h
        · exact absurd (List.mem_singleton.mp h) hap
        · exact List.mem_append_right _ h
  · have e2 : (S.L ++ [p])[n]? = some a := e2
    by_cases hn : n < S.L.length
    · rw [List.getElem?_append_left hn] at e2
      rw [List.getElem?_append_left (by rw [← ok.len]; exact hn)] at e1
      refine mo_ex (ok.at_ n m' a e1 e2) ex (upd_ne (ne a (List.mem_append_left _ (List.mem_of_getElem? e2)))) (fun c hc => upd_ne (ne c (List.mem_append_left _ (List.mem_of_getElem? hc)))) fun z => ?_
      rw [List.getElem?_append_left (List.getElem?_eq_some_iff.mp z).1]
      exact z
    · have l := ok.len
      have hl := (List.getElem?_eq_some_iff.mp e2).1
      rw [List.length_append, List.length_singleton] at hl
      have en : n = S.L.length := by omega
      subst en
      rw [List.getElem?_append_right (Nat.le_refl _), Nat.sub_self] at e2
      cases e2
      rw [l, List.getElem?_append_right (Nat.le_refl _), Nat.sub_self] at e1
      cases e1
      rw [l]
      exact new
/-- a changing one is written -/
theorem live_set {n : Nat} {m m' : MO} {a : Addr} (h0 : μ[n]? = some m) (g : m ≠ .gone) : live S (μ.set n m') a → live S μ a := by
  rintro (h | ⟨k, m2, h1, h2, h3⟩)
  · exact .inl h
  · by_cases hk : n = k
    · subst hk
      exact .inr ⟨n, m, h1, h0, g⟩
    · rw [List.getElem?_set_ne hk] at h2
      exact .inr ⟨k, m2, h1, h2, h3⟩
theorem set_ex (ok : Ok K dk.p S μ H) {n : Nat} {a : Addr} {m m' : MO} {o : HO} (ha : S.L[n]? = some a) (h0 : μ[n]? = some m) (g : m ≠ .gone) : Ex S μ H S (μ.set n m') (upd H a o) := by
  have la : live S μ a := .inr ⟨n, m, ha, h0, g⟩
  refine ⟨⟨[], by rw [List.append_nil]⟩, rfl, fun b u h nl => ⟨?_, fun z => nl (live_set h0 g z)⟩, fun b hb => ?_⟩
  · rw [upd_ne]
    · exact h
    · rintro rfl
      exact nl la
  · rw [upd_ne]
    rintro rfl
    exact (List.nodup_append.mp ok.nd).2.2 b (List.mem_of_getElem? ha) b hb rfl
theorem set_ok (ok : Ok K dk.p S μ H) {n : Nat} {a : Addr} {m m' : MO} {o : HO} (ha : S.L[n]? = some a) (h0 : μ[n]? = some m) (g : m ≠ .gone) (gh : m ≠ .hid) (new : MoOk K dk.p S (μ.set n m') (upd H a o) n a m') : Ok K dk.p S (μ.set n m') (upd H a o) := by
  have ndL := (List.nodup_append.mp ok.nd).1
  have inj : ∀ {k : Nat}, S.L[k]? = some a → k = n := fun {k} e => by
    obtain ⟨h1, e1⟩ := List.getElem?_eq_some_iff.mp e
    obtain ⟨h2, e2⟩ := List.getElem?_eq_some_iff.mp ha
    exact (List.getElem_inj ndL).mp (e1.trans e2.symm)
  refine ⟨by rw [List.length_set]; exact ok.len, ok.nd, fun b hb => ?_, fun k m2 b e1 e2 => ?_⟩
  · by_cases h : b = a
    · rw [h, upd_same]
      intro z
      cases z
    · rw [upd_ne h]
      exact ok.here b hb
  · by_cases hk : n = k
    · subst hk
      rw [List.getElem?_set_self (List.getElem?_eq_some_iff.mp h0).1] at e1
      cases e1
      rw [ha] at e2
      cases e2
      exact new
    · rw [List.getElem?_set_ne hk] at e1
      have nb : b ≠ a := by
        rintro rfl
        exact hk (inj e2).symm
      cases m2 with
      | deck t =>
        obtain ⟨c, h1, h2, h3⟩ := ok.at_ k _ b e1 e2
        have hc : k + 1 ≠ n := by
          rintro rfl
          rw [h0] at h2
          cases h2
          exact gh rfl
        have nc : c ≠ a := by
          rintro rfl
          exact hc (inj h1)
        exact ⟨c, h1, by rw [List.getElem?_set_ne (Ne.symm hc)]; exact h2, dk.st (upd_ne nb) (upd_ne nc) h3⟩
      | lst ds =>
        obtain ⟨vs, h1, h2⟩ := ok.at_ k _ b e1 e2
        exact ⟨vs, by rw [upd_ne nb]; exact h1, h2.ex (set_ex ok ha h0 g)⟩
      | dct b ks =>
        cases b with
        | false =>
          obtain ⟨kvs, h1, h2⟩ := ok.at_ k _ _ e1 e2
          exact ⟨kvs, by rw [upd_ne nb]; exact h1, h2.ex (set_ex ok ha h0 g)⟩
        | true =>
          obtain ⟨kvs, h1, h2⟩ := ok.at_ k _ _ e1 e2
          exact ⟨kvs, by rw [upd_ne nb]; exact h1, h2.ex (set_ex ok ha h0 g)⟩
      | hid => exact True.intro
      | gone => exact True.intro
/-- it changes no more -/
theorem gone_ex {n : Nat} {m : MO} (h0 : μ[n]? = some m) (g : m ≠ .gone) : Ex S μ H S (μ.set n .gone) H :=
  ⟨⟨[], by rw [List.append_nil]⟩, rfl, fun _ _ h nl => ⟨h, fun z => nl (live_set h0 g z)⟩, fun _ _ => rfl⟩
theorem gone_ok (ok : Ok K dk.p S μ H) {n : Nat} {m : MO} (h0 : μ[n]? = some m) (g : m ≠ .gone) (gh : m ≠ .hid) : Ok K dk.p S (μ.set n .gone) H := by
  refine ⟨by rw [List.length_set]; exact ok.len, ok.nd, ok.here, fun k m2 b e1 e2 => ?_⟩
  by_cases hk : n = k
  · subst hk
    rw [List.getElem?_set_self (List.getElem?_eq_some_iff.mp h0).1] at e1
    cases e1
    exact True.intro
  · rw [List.getElem?_set_ne hk] at e1
    refine mo_ex (ok.at_ k m2 b e1 e2) (gone_ex h0 g) rfl (fun _ _ => rfl) fun z => ?_
    rw [List.getElem?_set_ne]
    · exact z
    · rintro rfl
      rw [h0] at z
      cases z
      exact gh rfl
theorem gone_dead (ok : Ok K dk.p S μ H) {n : Nat} {a : Addr} (ha : S.L[n]? = some a) : ¬ live S (μ.set n .gone) a := by
  have ndL := (List.nodup_append.mp ok.nd).1
  rintro (h | ⟨k, m, h1, h2, h3⟩)
  · exact (List.nodup_append.mp ok.nd).2.2 a (List.mem_of_getElem? ha) a h rfl
  · have e : k = n := by
      obtain ⟨g1, e1⟩ := List.getElem?_eq_some_iff.mp h1
      obtain ⟨g2, e2⟩ := List.getElem?_eq_some_iff.mp ha
      exact (List.getElem_inj ndL).mp (e1.trans e2.symm)
    subst e
    have hl := (List.getElem?_eq_some_iff.mp h2).1
    rw [List.length_set] at hl
    rw [List.getElem?_set_self hl] at h2
    cases h2
    exact h3 rfl
end
def alloc (m : MO) : W D := W.rd fun μ => W.wr (· ++ [m]) (W.ret (.ref μ.length))
theorem run_alloc {m : MO} {Q : D → Mu → Prop} {E : Exn → Mu → Prop} {μ : Mu} : (alloc m).run Q E μ = Q (.ref μ.length) (μ ++ [m]) := rfl
def atM (n : Nat) (k : List D → W D) : W D := W.rd fun μ => match μ[n]? with
  | some (.lst xs) => k xs
  | _ => W.fail
def putM (n : Nat) (m : MO) (w : W D) : W D := W.wr (fun μ => μ.set n m) w
theorem atM_run {n : Nat} {k : List D → W D} {Q : D → Mu → Prop} {E : Exn → Mu → Prop} {μ : Mu} (h : (atM n k).run Q E μ) : ∃ xs, μ[n]? = some (.lst xs) ∧ (k xs).run Q E μ := by
  have h : (match μ[n]? with
    | some (.lst xs) => k xs
    | _ => W.fail).run Q E μ := h
  cases e : μ[n]? with
  | none => rw [e] at h; exact h.elim
  | some m =>
    rw [e] at h
    cases m with
    | lst xs => exact ⟨xs, rfl, h⟩
    | _ => exact h.elim
/-- it is left as it is from now on -/
def gFrz : D → W D
  | .ref n => atM n fun xs => putM n .gone (W.ret (.lst xs))
  | d => W.ret d
section
variable {X : Cx} {dk : DK} {c : LC X.K dk} {e : Expr} {es : List Expr} {f : DS → W D} {g : DS → W (List D)} {pos : Pos}
theorem de_frz (h : PE X e (lowE X.K dk c f)) : PE X e (lowE X.K dk c (dUn gFrz f)) := pe_w h fun σ H Q ⟨ε, S, μ, lk, ok, rs, run⟩ => by
  refine ⟨ε, S, μ, lk, ok, rs, W.up run fun d μ1 run1 v S1 H1 ex1 ok1 rep1 => ?_⟩
  cases d with
  | ref n =>
    obtain ⟨xs, h0, q⟩ := atM_run run1
    cases rep1 with
    | ref ha =>
      obtain ⟨vs, h1, h2⟩ := ok1.at_ n _ _ h0 ha
      have ng : MO.lst xs ≠ .gone := fun z => by cases z
      have gx := gone_ex (S := S1) (H := H1) h0 ng
      exact q _ S1 H1 (ex1.trans gx) (gone_ok ok1 h0 ng fun z => by cases z) (.lst ⟨h1, gone_dead ok1 ha⟩ (h2.ex gx))
  | _ => exact run1 v S1 H1 ex1 ok1 rep1
/-- a new list that will change -/
def dLstM (g : DS → W (List D)) : DS → W D := fun ε => W.bnd (g ε) fun ds => W.chk (ds.length ≤ sizeLine) (alloc (.lst ds))
theorem de_lstM (h : PA X es (lowA X.K dk c g)) : PE X (.List es pos) (lowE X.K dk c (dLstM g)) :=
  pe_w (pe_lst h) fun σ H Q ⟨ε, S, μ, lk, ok, rs, run⟩ => by
    refine ⟨ε, S, μ, lk, ok, rs, W.up run fun ds μ1 run1 xs S1 H1 ex1 ok1 rep1 => ⟨rep1.len ▸ run1.1, fun p hp => ?_⟩⟩
    have ex := add_ex (o := .lst xs) (m := .lst ds) ok1 hp
    refine run1.2 (.ref p) (S1.add p) _ (ex1.trans ex) (add_ok ok1 hp ⟨xs, upd_same, rep1.ex ex⟩) (.ref ?_)
    show (S1.L ++ [p])[μ1.length]? = _
    rw [← ok1.len, List.getElem?_append_right (Nat.le_refl _), Nat.sub_self]
    rfl
/-! methods of lists that change -/
def isL : D → W Unit
  | .lst _ => W.ret ()
  | _ => W.fail
def dMet (g : D → List D → W D) (f : DS → W D) (fa : DS → W (List D)) : DS → W D := fun ε => W.bnd (f ε) fun x => W.bnd (see x) fun l => W.bnd (isL l) fun _ => W.bnd (fa ε) fun ds => g x ds
/-- a method by values -/
def LM (K : PySem.W.Frag) (dk : DK) (r : V → List V → Hp → VK → Prop) (g : D → List D → W D) : Prop := ∀ {x : V} {dx : D} {xs : List V} {ds : List D} {S : Pl} {μ : Mu} {H : Hp} {Q : VK} {E : Exn → Mu → Prop}, Ok K dk.p S μ H → Rep K S μ H dx x → RepA K S μ H ds xs →
  (g dx ds).run (Post K dk S μ H Q) E μ → r x xs H Q
theorem low_met {r : V → List V → Hp → VK → Prop} {gm : D → List D → W D} (l : LM X.K dk r gm) {σ : L2.St} {H : Hp} {Q : VK} (q : lowE X.K dk c (dMet gm f g) σ H Q) : tBM X.K "list" r (lowE X.K dk c f) (lowA X.K dk c g) σ H Q := by
  obtain ⟨ε, S, μ, lk, ok, rs, run⟩ := q
  refine ⟨ε, S, μ, lk, ok, rs, W.up run fun d μ1 run1 x S1 H1 ex1 ok1 rep1 => ?_⟩
  obtain ⟨d', vw, q⟩ := see_vw ok1 rep1 (Q := fun l μ' => (W.bnd (isL l) fun _ => W.bnd (g ε) fun ds => gm d ds).run (Post X.K dk S μ H Q) c.E μ') run1
  cases d' with
  | lst xs =>
    obtain ⟨a, vs, rfl, h1, h2⟩ := vw
    refine ⟨.inl ⟨rfl, vs, .inl (.inl h1)⟩, ε, S1, μ1, c.up lk ex1, ok1, rs.ex ex1, W.up (m := g ε) q fun ds μ2 run2 ys S2 H2 ex2 ok2 rep2 => ?_⟩
    exact l ok2 (rep1.ex ex2) rep2 (W.up run2 fun _ _ q => q.ex (ex1.trans ex2))
  | _ => exact q.elim
theorem low_met0 {r : V → List V → Hp → VK → Prop} {gm : D → List D → W D} (l : LM X.K dk r gm) {σ : L2.St} {H : Hp} {Q : VK} (q : lowE X.K dk c (dMet gm f aNil) σ H Q) : tBM0 X.K "list" r (lowE X.K dk c f) σ H Q := by
  obtain ⟨ε, S, μ, lk, ok, rs, run⟩ := q
  refine ⟨ε, S, μ, lk, ok, rs, W.up run fun d μ1 run1 x S1 H1 ex1 ok1 rep1 => ?_⟩
  obtain ⟨d', vw, q⟩ := see_vw ok1 rep1 (Q := fun l μ' => (W.bnd (isL l) fun _ => W.bnd (aNil ε) fun ds => gm d ds).run (Post X.K dk S μ H Q) c.E μ') run1
  cases d' with
  | lst xs =>
    obtain ⟨a, vs, rfl, h1, h2⟩ := vw
    exact ⟨.inl ⟨rfl, vs, .inl (.inl h1)⟩, l ok1 rep1 .nil (W.up (m := gm d []) q fun _ _ q => q.ex ex1)⟩
  | _ => exact q.elim
def gAppend : D → List D → W D
  | .ref n, [y] => atM n fun xs => W.chk (xs.length < sizeLine) (putM n (.lst (xs ++ [y])) (W.ret .non))
  | _, _ => W.fail
theorem l_append {K : PySem.W.Frag} : LM K dk rAppend gAppend := fun {x dx xs ds S μ H Q E} ok rx rs q => by
  unfold gAppend at q
  split at q
  · next n y =>
    obtain ⟨ys, h0, hl, q⟩ := atM_run q
    cases rx with
    | @ref _ a ha =>
      cases rs with
      | @cons _ v _ _ ry t =>
        cases t
        obtain ⟨vs, h1, h2⟩ := ok.at_ n _ _ h0 ha
        have ng : MO.lst ys ≠ .gone := fun z => by cases z
        have ex := set_ex (o := .lst (vs ++ [v])) (m' := .lst (ys ++ [y])) ok ha h0 ng
        exact ⟨a, vs, v, rfl, rfl, h1, by rw [← h2.len]; exact hl, q .non S _ ex (set_ok ok ha h0 ng (fun z => by cases z) ⟨_, upd_same, (h2.ex ex).app (.cons (ry.ex ex) .nil)⟩) .non⟩
  · exact q.elim
def gPop : D → List D → W D
  | .ref n, [] => atM n fun xs => W.bnd (W.opt xs[xs.length - 1]?) fun y => putM n (.lst xs.dropLast) (W.ret y)
  | _, _ => W.fail
theorem RepA.dropLast {K : PySem.W.Frag} {S : Pl} {μ : Mu} {H : Hp} : ∀ {ds : List D} {vs : List V}, RepA K S μ H ds vs → RepA K S μ H ds.dropLast vs.dropLast
  | _, _, .nil => .nil
  | _, _, .cons r .nil => .nil
  | _, _, .cons r (.cons r2 t) => .cons r (RepA.dropLast (.cons r2 t))
theorem RepA.erase {K : PySem.W.Frag} {S : Pl} {μ : Mu} {H : Hp} : ∀ {ds : List D} {vs : List V} (k : Nat), RepA K S μ H ds vs → RepA K S μ H (ds.eraseIdx k) (vs.eraseIdx k)
  | _, _, _, .nil => .nil
  | _, _, 0, .cons r t => t
  | _, _, k + 1, .cons r t => .cons r (RepA.erase k t)
theorem l_pop {K : PySem.W.Frag} : LM K dk rPop gPop := fun {x dx xs ds S μ H Q E} ok rx rs q => by
  unfold gPop at q
  split at q
  · next n =>
    obtain ⟨ys, h0, q⟩ := atM_run q
    cases rx with
    | @ref _ a ha =>
      cases rs
      obtain ⟨vs, h1, h2⟩ := ok.at_ n _ _ h0 ha
      cases hy : ys[ys.length - 1]? with
      | none =>
        have q : ((W.opt ys[ys.length - 1]?).bnd fun y => putM n (.lst ys.dropLast) (W.ret y)).run (Post K dk S μ H Q) E μ := q
        rw [hy] at q
        exact q.elim
      | some y =>
        have q : ((W.opt ys[ys.length - 1]?).bnd fun y => putM n (.lst ys.dropLast) (W.ret y)).run (Post K dk S μ H Q) E μ := q
        rw [hy] at q
        have ng : MO.lst ys ≠ .gone := fun z => by cases z
        obtain ⟨v, h3, h4⟩ := h2.get hy
        have ex := set_ex (o := .lst vs.dropLast) (m' := .lst ys.dropLast) ok ha h0 ng
        exact ⟨a, vs, v, rfl, rfl, h1, by rw [← h2.len]; exact h3, q v S _ ex (set_ok ok ha h0 ng (fun z => by cases z) ⟨_, upd_same, (h2.ex ex).dropLast⟩) (h4.ex ex)⟩
  · exact q.elim
def gPopAt : D → List D → W D
  | .ref n, [.int i] => atM n fun xs => W.chk (0 ≤ i ∧ i < xs.length ∧ xs.length < 2 ^ 62) (W.bnd (W.opt xs[i.toNat]?) fun y => putM n (.lst (xs.eraseIdx i.toNat)) (W.ret y))
  | _, _ => W.fail
theorem l_popAt {K : PySem.W.Frag} : LM K dk rPopAt gPopAt := fun {x dx xs ds S μ H Q E} ok rx rs q => by
  unfold gPopAt at q
  split at q
  · next n i =>
    obtain ⟨ys, h0, ⟨i0, i1, i2⟩, q⟩ := atM_run q
    cases rx with
    | @ref _ a ha =>
      cases rs with
      | @cons _ v _ _ ry t =>
        cases t
        cases ry
        obtain ⟨vs, h1, h2⟩ := ok.at_ n _ _ h0 ha
        have q : ((W.opt ys[i.toNat]?).bnd fun y => putM n (.lst (ys.eraseIdx i.toNat)) (W.ret y)).run (Post K dk S μ H Q) E μ := q
        cases hy : ys[i.toNat]? with
        | none => rw [hy] at q; exact q.elim
        | some y =>
          rw [hy] at q
          have ng : MO.lst ys ≠ .gone := fun z => by cases z
          obtain ⟨v, h3, h4⟩ := h2.get hy
          have ex := set_ex (o := .lst (vs.eraseIdx i.toNat)) (m' := .lst (ys.eraseIdx i.toNat)) ok ha h0 ng
          have lv := h2.len
          refine ⟨a, vs, i, i.toNat, v, rfl, rfl, h1, by omega, by omega, seqIndex_of i0 (by omega), h3, q v S _ ex (set_ok ok ha h0 ng (fun z => by cases z) ⟨_, upd_same, (h2.ex ex).erase _⟩) (h4.ex ex)⟩
  · exact q.elim
end
end DL

namespace DL
open PySem PySem.Spec PyProof.Rows L2 Kit

section
variable {K : PySem.W.Frag} {dk : DK}
/-! ### isinstance -/
def tyN : D → Option String
  | .non => some "NoneType"
  | .bl _ => some "bool"
  | .int _ => some "int"
  | .str _ => some "str"
  | .tup _ => some "tuple"
  | .lst _ => some "list"
  | .dct _ _ => some "dict"
  | _ => none
theorem tyx {S : Pl} {μ : Mu} {H : Hp} {d : D} {v : V} {n : String} (r : Vw K S μ H d v) (h : tyN d = some n) : TyX K H v (.type n) := by
  cases d with
  | non => cases r; cases h; exact .base .non
  | bl b => cases r; cases h; exact .base (.bl b)
  | int i => cases r; cases h; exact .base (.int i)
  | str z => cases r; cases h; exact .base (.str z)
  | tup xs =>
    cases h
    rcases r with _ | _ | _ | _ | _ | _ | @⟨_, a, vs, hy, ry⟩
    exact .base (.tup hy.1)
  | lst xs =>
    cases h
    obtain ⟨a, vs, rfl, h1, h2⟩ := r
    exact .base (.lst h1)
  | dct b ks =>
    cases h
    cases b with
    | false =>
      obtain ⟨a, vs, rfl, h1, h2⟩ := r
      exact .base (.dK h1)
    | true =>
      obtain ⟨a, vs, rfl, h1, h2⟩ := r
      exact .base (.dT h1)
  | _ => cases h
def oneI (m n : String) : Bool := n == m || (m == "bool" && n == "int")
def gIs1 : D → D → W D
  | x, .ty n => W.chk (n ∈ ["int", "str", "tuple", "list", "bool", "dict"]) (W.bnd (W.opt (tyN x)) fun m => W.ret (.bl (oneI m n)))
  | _, _ => W.fail
theorem ty_mem {d : D} {m : String} (h : tyN d = some m) : m ∈ ["NoneType", "bool", "int", "str", "tuple", "list", "dict"] := by
  cases d <;> first | (cases h; done) | (cases h; decide)
theorem l_is1 : LRC K dk (fun xs H Q => ∃ x y, xs = [x, y] ∧ ∃ (t u : Value) (b : Bool), ClsV y u ∧ TyX K H x t ∧ PySem.W.kitOne K t u = some b ∧ Q (.bl b) H) (c2 gIs1) :=
  LV2.call (r := fun x y H Q => ∃ (t u : Value) (b : Bool), ClsV y u ∧ TyX K H x t ∧ PySem.W.kitOne K t u = some b ∧ Q (.bl b) H) fun {x y dx dy S μ H Q E} ok rx ry q => by
    cases dy with
    | ty n =>
      cases ry
      obtain ⟨hn, q⟩ := (q : n ∈ ["int", "str", "tuple", "list", "bool", "dict"] ∧ ((W.opt (tyN dx)).bnd fun m => W.ret (.bl (oneI m n))).run (Post K dk S μ H Q) E μ)
      cases ht : tyN dx with
      | none => rw [ht] at q; exact q.elim
      | some m =>
        rw [ht] at q
        exact ⟨_, _, _, .ty n, tyx rx ht, kit_ty K hn (ty_mem ht), q _ S H Ex.refl ok (.bl _)⟩
    | _ => exact q.elim
theorem k_is1 {X : Cx} : CallR X (.builtin "isinstance") (fun xs H Q => ∃ x y, xs = [x, y] ∧ ∃ (t u : Value) (b : Bool), ClsV y u ∧ TyX X.K H x t ∧ PySem.W.kitOne X.K t u = some b ∧ Q (.bl b) H) :=
  CallR.imp call_isi fun _ _ _ ⟨x, y, e, t, u, b, h⟩ => ⟨x, y, t, u, b, e, h⟩

/-! ### int, str -/
def gInt : D → W D
  | .int i => W.ret (.int i)
  | .bl b => W.ret (.int (if b then 1 else 0))
  | .str z => W.chk (z.length ≤ 640) (W.bnd (W.opt (PySem.intText? z)) fun n => W.ret (.int n))
  | _ => W.fail
theorem l_int : LRC K dk (fun xs H Q => ∃ x, xs = [x] ∧ ((∃ i, x = .int i ∧ Q (.int i) H) ∨ (∃ k, x = .bl k ∧ Q (.int (if k then 1 else 0)) H) ∨ ∃ a n, x = .str a ∧ PySem.intText? a = some n ∧ a.length ≤ 640 ∧ Q (.int n) H)) (c1 gInt) :=
  LV1.call (r := fun x H Q => (∃ i, x = .int i ∧ Q (.int i) H) ∨ (∃ k, x = .bl k ∧ Q (.int (if k then 1 else 0)) H) ∨ ∃ a n, x = .str a ∧ PySem.intText? a = some n ∧ a.length ≤ 640 ∧ Q (.int n) H) fun {x dx S μ H Q E} ok rx q => by
    unfold gInt at q
    split at q
    · cases rx; exact .inl ⟨_, rfl, q _ S H Ex.refl ok (.int _)⟩
    · cases rx; exact .inr (.inl ⟨_, rfl, q _ S H Ex.refl ok (.int _)⟩)
    · next z =>
      cases rx
      obtain ⟨hz, q⟩ := q
      have q : ((W.opt (PySem.intText? z)).bnd fun n => W.ret (.int n)).run (Post K dk S μ H Q) E μ := q
      cases hn : PySem.intText? z with
      | none => rw [hn] at q; exact q.elim
      | some n =>
        rw [hn] at q
        exact .inr (.inr ⟨z, n, rfl, hn, hz, q _ S H Ex.refl ok (.int _)⟩)
    · exact q.elim
theorem k_int {X : Cx} : CallR X (.type "int") (fun xs H Q => ∃ x, xs = [x] ∧ ((∃ i, x = .int i ∧ Q (.int i) H) ∨ (∃ k, x = .bl k ∧ Q (.int (if k then 1 else 0)) H) ∨ ∃ a n, x = .str a ∧ PySem.intText? a = some n ∧ a.length ≤ 640 ∧ Q (.int n) H)) :=
  CallR.imp (CallR.or call_int1 call_int_str) fun _ _ _ ⟨x, e, h⟩ => by
    rcases h with ⟨i, rfl, q⟩ | ⟨i, rfl, q⟩ | ⟨a, n, rfl, q⟩
    · exact .inl (.inl ⟨i, e, q⟩)
    · exact .inl (.inr ⟨i, e, q⟩)
    · exact .inr ⟨a, n, e, q⟩
def gStr : D → W D
  | .int i => W.chk (i.natAbs.log2 < 1920) (W.ret (.str (toString i)))
  | .str z => W.ret (.str z)
  | _ => W.fail
theorem l_str : LRC K dk (fun xs H Q => ∃ x, xs = [x] ∧ ((∃ i, x = .int i ∧ i.natAbs.log2 < 1920 ∧ Q (.str (toString i)) H) ∨ ∃ a, x = .str a ∧ Q (.str a) H)) (c1 gStr) :=
  LV1.call (r := fun x H Q => (∃ i, x = .int i ∧ i.natAbs.log2 < 1920 ∧ Q (.str (toString i)) H) ∨ ∃ a, x = .str a ∧ Q (.str a) H) fun {x dx S μ H Q E} ok rx q => by
    unfold gStr at q
    split at q
    · cases rx; exact .inl ⟨_, rfl, q.1, q.2 _ S H Ex.refl ok (.str _)⟩
    · cases rx; exact .inr ⟨_, rfl, q _ S H Ex.refl ok (.str _)⟩
    · exact q.elim
theorem k_str {X : Cx} : CallR X (.type "str") (fun xs H Q => ∃ x, xs = [x] ∧ ((∃ i, x = .int i ∧ i.natAbs.log2 < 1920 ∧ Q (.str (toString i)) H) ∨ ∃ a, x = .str a ∧ Q (.str a) H)) :=
  CallR.imp (CallR.or call_str_int SkE.call_str_str) fun _ _ _ ⟨x, e, h⟩ => by
    rcases h with ⟨i, rfl, q⟩ | ⟨i, rfl, q⟩
    · exact .inl ⟨i, e, q⟩
    · exact .inr ⟨i, e, q⟩

/-! ### tuple, list -/
def gTuple : D → W D
  | .lst xs => W.ret (.tup xs)
  | .tup xs => W.ret (.tup xs)
  | _ => W.fail
theorem lst_le {S : Pl} {μ : Mu} {H : Hp} {a : Addr} {vs : List V} (h : H a = some (.lst vs)) : True := True.intro
theorem l_tuple : LRC K dk (fun xs H Q => ∃ x, xs = [x] ∧ ∃ p ys, x = .ref p ∧ ((SqL K H p ys ∧ ∀ l, H l = none → Q (.ref l) (upd H l (.tup ys))) ∨ (SqT K H p ys ∧ Q (.ref p) H))) (c1 gTuple) :=
  LV1.call (r := fun x H Q => ∃ p ys, x = .ref p ∧ ((SqL K H p ys ∧ ∀ l, H l = none → Q (.ref l) (upd H l (.tup ys))) ∨ (SqT K H p ys ∧ Q (.ref p) H))) fun {x dx S μ H Q E} ok rx q => by
    unfold gTuple at q
    split at q
    · obtain ⟨a, vs, rfl, hx, rx⟩ := rx
      exact ⟨a, vs, rfl, .inl ⟨.inl (.inl hx), fun p hp => q (.ref p) S _ (new_ex ok hp) (new_ok ok hp) (new_tup ok hp rx)⟩⟩
    · rcases rx with _ | _ | _ | _ | _ | _ | @⟨_, a, vs, hx, rx⟩
      exact ⟨a, vs, rfl, .inr ⟨hx.sq, q _ S H Ex.refl ok (.tup hx rx)⟩⟩
    · exact q.elim
theorem k_tuple {X : Cx} : CallR X (.type "tuple") (fun xs H Q => ∃ x, xs = [x] ∧ ∃ p ys, x = .ref p ∧ ((SqL X.K H p ys ∧ ∀ l, H l = none → Q (.ref l) (upd H l (.tup ys))) ∨ (SqT X.K H p ys ∧ Q (.ref p) H))) :=
  CallR.imp call_tuple_of fun _ _ _ ⟨x, e, p, ys, ex, h⟩ => ⟨p, ys, by rw [e, ex], h⟩
def gList : D → W D
  | .lst xs => W.ret (.lst xs)
  | .tup xs => W.ret (.lst xs)
  | _ => W.fail
theorem l_list : LRC K dk (fun xs H Q => ∃ x, xs = [x] ∧ ∃ p ys, x = .ref p ∧ (SqL K H p ys ∨ SqT K H p ys) ∧ ∀ l, H l = none → Q (.ref l) (upd H l (.lst ys))) (c1 gList) :=
  LV1.call (r := fun x H Q => ∃ p ys, x = .ref p ∧ (SqL K H p ys ∨ SqT K H p ys) ∧ ∀ l, H l = none → Q (.ref l) (upd H l (.lst ys))) fun {x dx S μ H Q E} ok rx q => by
    unfold gList at q
    split at q
    · obtain ⟨a, vs, rfl, hx, rx⟩ := rx
      exact ⟨a, vs, rfl, .inl (.inl (.inl hx)), fun p hp => q (.ref p) S _ (new_ex ok hp) (new_ok ok hp) (new_lst ok hp rx)⟩
    · rcases rx with _ | _ | _ | _ | _ | _ | @⟨_, a, vs, hx, rx⟩
      exact ⟨a, vs, rfl, .inr hx.sq, fun p hp => q (.ref p) S _ (new_ex ok hp) (new_ok ok hp) (new_lst ok hp rx)⟩
    · exact q.elim
theorem k_list {X : Cx} : CallR X (.type "list") (fun xs H Q => ∃ x, xs = [x] ∧ ∃ p ys, x = .ref p ∧ (SqL X.K H p ys ∨ SqT X.K H p ys) ∧ ∀ l, H l = none → Q (.ref l) (upd H l (.lst ys))) :=
  CallR.imp call_list_of fun _ _ _ ⟨x, e, p, ys, ex, h⟩ => ⟨p, ys, by rw [e, ex], h⟩
/-! ### all, any, sum, max, min, abs -/
def blsD : List D → Option (List Bool)
  | [] => some []
  | .bl b :: r => (blsD r).map (b :: ·)
  | _ :: _ => none
def intsD : List D → Option (List Int)
  | [] => some []
  | .int i :: r => (intsD r).map (i :: ·)
  | _ :: _ => none
theorem blsD_rep {S : Pl} {μ : Mu} {H : Hp} : ∀ {ds : List D} {vs : List V} {bs : List Bool}, RepA K S μ H ds vs → blsD ds = some bs → vs = bs.map V.bl
  | _, _, _, .nil, h => by cases h; rfl
  | d :: ds, _, _, .cons r t, h => by
    cases d <;> first | (cases h; done) | skip
    cases r
    rw [blsD] at h
    obtain ⟨bs, h1, rfl⟩ := map_inv h
    rw [blsD_rep t h1]
    rfl
theorem intsD_rep {S : Pl} {μ : Mu} {H : Hp} : ∀ {ds : List D} {vs : List V} {bs : List Int}, RepA K S μ H ds vs → intsD ds = some bs → vs = bs.map V.int
  | _, _, _, .nil, h => by cases h; rfl
  | d :: ds, _, _, .cons r t, h => by
    cases d <;> first | (cases h; done) | skip
    cases r
    rw [intsD] at h
    obtain ⟨bs, h1, rfl⟩ := map_inv h
    rw [intsD_rep t h1]
    rfl
def gBs (f : List Bool → Bool) : D → W D
  | .lst xs => W.bnd (W.opt (blsD xs)) fun bs => W.ret (.bl (f bs))
  | _ => W.fail
def gNs (p : List Int → Prop) (f : List Int → Int) : D → W D
  | .lst xs => W.bnd (W.opt (intsD xs)) fun ns => W.chk (p ns) (W.ret (.int (f ns)))
  | _ => W.fail
theorem l_bs {f : List Bool → Bool} : LRC K dk (fun xs H Q => ∃ x, xs = [x] ∧ ∃ (a : Addr) (bs : List Bool), x = .ref a ∧ SqL K H a (bs.map V.bl) ∧ Q (.bl (f bs)) H) (c1 (gBs f)) :=
  LV1.call (r := fun x H Q => ∃ (a : Addr) (bs : List Bool), x = .ref a ∧ SqL K H a (bs.map V.bl) ∧ Q (.bl (f bs)) H) fun {x dx S μ H Q E} ok rx q => by
    unfold gBs at q
    split at q
    · next xs =>
      obtain ⟨a, vs, rfl, hx, rx⟩ := rx
      cases hb : blsD xs with
      | none => rw [hb] at q; exact q.elim
      | some bs =>
        rw [hb] at q
        rw [blsD_rep rx hb] at hx
        exact ⟨a, bs, rfl, .inl (.inl hx), q _ S H Ex.refl ok (.bl _)⟩
    · exact q.elim
theorem k_all {X : Cx} (hc : X.calm = true) : CallR X (.builtin "all") (fun xs H Q => ∃ x, xs = [x] ∧ ∃ (a : Addr) (bs : List Bool), x = .ref a ∧ SqL X.K H a (bs.map V.bl) ∧ Q (.bl (bs.all id)) H) :=
  CallR.imp (cr_all hc) fun _ _ _ ⟨x, e, p, ys, ex, h⟩ => ⟨p, ys, by rw [e, ex], h⟩
theorem k_any {X : Cx} (hc : X.calm = true) : CallR X (.builtin "any") (fun xs H Q => ∃ x, xs = [x] ∧ ∃ (a : Addr) (bs : List Bool), x = .ref a ∧ SqL X.K H a (bs.map V.bl) ∧ Q (.bl (bs.any id)) H) :=
  CallR.imp (cr_any hc) fun _ _ _ ⟨x, e, p, ys, ex, h⟩ => ⟨p, ys, by rw [e, ex], h⟩
theorem l_sum : LRC K dk (fun xs H Q => ∃ x, xs = [x] ∧ ∃ (a : Addr) (ns : List Int), x = .ref a ∧ SqL K H a (ns.map V.int) ∧ Q (.int ns.sum) H) (c1 (gNs (fun _ => True) List.sum)) :=
  LV1.call (r := fun x H Q => ∃ (a : Addr) (ns : List Int), x = .ref a ∧ SqL K H a (ns.map V.int) ∧ Q (.int ns.sum) H) fun {x dx S μ H Q E} ok rx q => by
    unfold gNs at q
    split at q
    · next xs =>
      obtain ⟨a, vs, rfl, hx, rx⟩ := rx
      cases hb : intsD xs with
      | none => rw [hb] at q; exact q.elim
      | some bs =>
        rw [hb] at q
        rw [intsD_rep rx hb] at hx
        exact ⟨a, bs, rfl, .inl (.inl hx), q.2 _ S H Ex.refl ok (.int _)⟩
    · exact q.elim
theorem k_sum {X : Cx} (hc : X.calm = true) : CallR X (.builtin "sum") (fun xs H Q => ∃ x, xs = [x] ∧ ∃ (a : Addr) (ns : List Int), x = .ref a ∧ SqL X.K H a (ns.map V.int) ∧ Q (.int ns.sum) H) :=
  CallR.imp (cr_sum hc) fun _ _ _ ⟨x, e, p, ys, ex, h⟩ => ⟨p, ys, by rw [e, ex], h⟩
def gN2 (f : Int → Int → Int) : D → D → W D := oI0 fun i j => .int (f i j)
theorem l_n2 {f : Int → Int → Int} : LRC K dk (fun xs H Q => ∃ x y, xs = [x, y] ∧ rI0 (fun i j => .int (f i j)) x y H Q) (c2 (gN2 f)) :=
  LV2.call (r := rI0 fun i j => .int (f i j)) fun {x y dx dy S μ H Q E} ok rx ry q => by
    unfold gN2 oI0 at q
    split at q
    · cases rx; cases ry
      exact ⟨_, _, rfl, rfl, q _ S H Ex.refl ok (.int _)⟩
    · exact q.elim
theorem k_max2 {X : Cx} (hc : X.calm = true) : CallR X (.builtin "max") (fun xs H Q => ∃ x y, xs = [x, y] ∧ rI0 (fun i j => .int (if j > i then j else i)) x y H Q) :=
  CallR.imp (call_max2 hc) fun _ _ _ ⟨x, y, e, i, j, ex, ey, h⟩ => ⟨i, j, by rw [e, ex, ey], h⟩
theorem k_min2 {X : Cx} (hc : X.calm = true) : CallR X (.builtin "min") (fun xs H Q => ∃ x y, xs = [x, y] ∧ rI0 (fun i j => .int (if j < i then j else i)) x y H Q) :=
  CallR.imp (call_min2 hc) fun _ _ _ ⟨x, y, e, i, j, ex, ey, h⟩ => ⟨i, j, by rw [e, ex, ey], h⟩
end

/-! ### own defs -/
section
variable (K : PySem.W.Frag) (dk : DK)
/-- what is promised of a def that computes F -/
def spX (n : Nat) (F : List D → W D) : Sp := fun vs H Q E => vs.length = n ∧ ∃ ds S μ, Ok K dk.p S μ H ∧ RepA K S μ H ds vs ∧ (F ds).run (Post K dk S μ H Q) (PostX K dk S μ H E) μ
end
def dOwn (n : Nat) (F : List D → W D) (fa : DS → W (List D)) : DS → W D := fun ε => W.bnd (fa ε) fun ds => W.chk (ds.length = n) (W.tag ε (F ds))
section
variable {X : Cx} {dk : DK} {c : LC X.K dk} {e : Expr} {es : List Expr} {kws : List Keyword} {fs : DS → W (List D)} {F : List D → W D} {k j n : Nat} {x : Str} {ps : List Str} {p pos : Pos} {sp : Sp} {t tk : TA} {Ew : L2.St → XK}
/-- an own def's call, what is raised being wished for at the slots -/
def tCallE (sp : Sp) (Ew : L2.St → XK) (t : TA) : TE := fun σ H Q => t σ H fun vs H1 => sp vs H1 Q (Ew σ)
theorem run_fnE {pins : List (Addr × Obj)} {σ : L2.St} {H : Hp} {s : Shared} {Q : VK} {us ws : List Value} {vs zs : List V} {ks : List Str} {CX : CXT} {f : Addr} {fd : FuncData} {E : XK}
    {g : List Value → List Value → List Value} {gV : List V → List V → List V}
    (F : FnG X.prog X.w X.K X.mg X.base CX k f fd ps sp) (hq : Qt X.A) (hr : Room k X.A) (hb : KBinds X.K fd ps ks g gV) (hx : PassesAt CX X σ E) (I : Inv X pins σ H s) (r : Vals vs us) (rz : Vals zs ws)
    (h : sp (gV vs zs) H Q E) : wpAny (model X.prog X.w) X.A (call (.ref f) us (ks.zip ws)) (EP X pins σ Q) X.xe s := by
  have w := hb.rel r rz
  have l : (g us ws).length = ps.length := w.length.symm.trans (F.len _ _ _ _ h)
  refine wpAny_call (codeAny_mono (F.run X.A X.stack s H ⟨us, ks.zip ws⟩ _ _ Q E hq hr I.env0 (hb.to s us ws I.kIn l) w h) fun o s2 ho => ?_)
  cases o with
  | error y => exact hx pins H s y s2 I ho
  | ok fl => cases fl <;> first | exact I.after ho | exact ho.elim
theorem pe_cE (cal : Cal X.prog X.w X.K X.mg X.base (L2.CX X.prog X.w) k x ps sp) (hx : ∀ σ, PassesAt (L2.CX X.prog X.w) X σ (Ew σ)) (hq : Qt X.A) (hr : Room j X.A) (hk : k ≤ j)
    (hg : Gl X x) (ha : PA X (e :: es) t) (hdb : (x == ("__debug__" : Str)) = false := by decide)
    (he : starEach (e :: es) X.env = (false, eval e X.env) :: starEach es X.env := by rfl)
    (hpl : (backTo pos (starEach es X.env)).any (·.1) = false := by rfl) : PE X (.Call (.Name x p) (e :: es) [] pos) (tCallE sp Ew t) := by
  obtain ⟨f, fd, F, hm, kf, hb, _⟩ := cal.ex
  exact ⟨fun pins s σ H Q I h => wpAny_Call_Name_kw (ld_glob I hg hm (PySem.W.callWith_K (h₀ := X.base) I.ok.mod.kin kf (thn (ha.run pos pins s σ H _ I h) fun us s1 ⟨vs, H1, I1, r, q⟩ =>
    ⟨I1.kIn, run_fnE (ks := []) (ws := []) F hq (hr.mono hk) (kb_of hb) (hx σ) I1 r .nil q⟩) he hpl) hdb)⟩
theorem pe_cE0 (cal : Cal X.prog X.w X.K X.mg X.base (L2.CX X.prog X.w) k x ps sp) (hx : ∀ σ, PassesAt (L2.CX X.prog X.w) X σ (Ew σ)) (hq : Qt X.A) (hr : Room j X.A) (hk : k ≤ j)
    (hg : Gl X x) (hdb : (x == ("__debug__" : Str)) = false := by decide) : PE X (.Call (.Name x p) [] [] pos) (tCallE sp Ew tNil) := by
  obtain ⟨f, fd, F, hm, kf, hb, _⟩ := cal.ex
  exact ⟨fun pins s σ H Q I h => wpAny_Call_Name_kw (ld_glob I hg hm (PySem.W.callWith_K0 I.kIn kf (run_fnE (ks := []) (us := []) (ws := []) F hq (hr.mono hk) (kb_of hb) (hx σ) I .nil .nil h)) hdb)⟩
theorem pe_cEK (cal : Cal X.prog X.w X.K X.mg X.base (L2.CX X.prog X.w) k x ps sp) (hx : ∀ σ, PassesAt (L2.CX X.prog X.w) X σ (Ew σ)) (hq : Qt X.A) (hr : Room j X.A) (hk : k ≤ j)
    (hg : Gl X x) (h0 : ps ≠ []) (hkw : PK X kws tk)
    (hall : (backToKw pos (keywordEach kws X.env)).all (·.1.isSome) = true := by rfl)
    (hks : (backToKw pos (keywordEach kws X.env)).filterMap (·.1) = ps := by rfl)
    (hdb : (x == ("__debug__" : Str)) = false := by decide)
    (hpl : ((backTo pos (starEach [] X.env)).any (·.1) || (backToKw pos (keywordEach kws X.env)).any (·.1.isNone)) = false := by rfl) :
    PE X (.Call (.Name x p) [] kws pos) (tCallE sp Ew tk) := by
  obtain ⟨f, fd, F, hm, kf, _, hb⟩ := cal.ex
  exact ⟨fun pins s σ H Q I h => wpAny_Call_Name_kw (ld_glob I hg hm (PySem.W.callWith_KW0 (h₀ := X.base) I.ok.mod.kin kf hall (thn (hkw.run pos pins s σ H _ I h) fun ws s1 ⟨zs, H1, I1, r, q⟩ =>
    ⟨I1.kIn, by rw [hks]; exact run_fnE (us := []) (vs := []) F hq (hr.mono hk) (hb h0) (hx σ) I1 .nil r q⟩) hpl) hdb)⟩
theorem low_own {σ : L2.St} {H : Hp} {Q : VK} (q : lowE X.K dk c (dOwn n F fs) σ H Q) : tCallE (spX X.K dk n F) (WE c.x) (lowA X.K dk c fs) σ H Q := by
  obtain ⟨ε, S, μ, lk, ok, rs, run⟩ := q
  refine ⟨ε, S, μ, lk, ok, rs, W.up run fun ds μ1 run1 vs S1 H1 ex1 ok1 rep1 => ?_⟩
  obtain ⟨hl, run1⟩ := run1
  have run1 : (F ds).run (Post X.K dk S μ H Q) (fun x μ' => c.E { x with sl := ε } μ') μ1 := run1
  exact ⟨by rw [← rep1.len]; exact hl, ds, S1, μ1, ok1, rep1, (F ds).mono (fun _ _ q => q.ex ex1) (fun xn μ' q d vs S' H' ex ok' hd nl rf => c.xl (e := { xn with sl := ε }) (c.up lk ex1) q d vs S' H' σ ex ok' hd nl rf ((rs.ex ex1).ex ex)) run1⟩
theorem de_own (cal : Cal X.prog X.w X.K X.mg X.base (L2.CX X.prog X.w) k x ps (spX X.K dk n F)) (tks : Takes X c.x) (hq : Qt X.A) (hr : Room j X.A) (hk : k ≤ j)
    (hg : Gl X x) (ha : PA X (e :: es) (lowA X.K dk c fs)) (hdb : (x == ("__debug__" : Str)) = false := by decide)
    (he : starEach (e :: es) X.env = (false, eval e X.env) :: starEach es X.env := by rfl)
    (hpl : (backTo pos (starEach es X.env)).any (·.1) = false := by rfl) :
    PE X (.Call (.Name x p) (e :: es) [] pos) (lowE X.K dk c (dOwn n F fs)) := pe_w (pe_cE cal (passAt tks) hq hr hk hg ha hdb he hpl) fun _ _ _ q => low_own q
theorem de_own0 (cal : Cal X.prog X.w X.K X.mg X.base (L2.CX X.prog X.w) k x ps (spX X.K dk n F)) (tks : Takes X c.x) (hq : Qt X.A) (hr : Room j X.A) (hk : k ≤ j)
    (hg : Gl X x) (hdb : (x == ("__debug__" : Str)) = false := by decide) : PE X (.Call (.Name x p) [] [] pos) (lowE X.K dk c (dOwn n F aNil)) :=
  pe_w (pe_cE0 cal (passAt tks) hq hr hk hg hdb) fun σ H Q ⟨ε, S, μ, lk, ok, rs, run⟩ => by
    obtain ⟨hl, run1⟩ := (run : ([] : List D).length = n ∧ (F []).run (Post X.K dk S μ H Q) (fun x μ' => c.E { x with sl := ε } μ') μ)
    exact ⟨hl, [], S, μ, ok, .nil, (F []).mono (fun _ _ q => q) (fun xn μ' q d vs S' H' ex ok' hd nl rf => c.xl (e := { xn with sl := ε }) lk q d vs S' H' σ ex ok' hd nl rf (rs.ex ex)) run1⟩
theorem de_ownK (cal : Cal X.prog X.w X.K X.mg X.base (L2.CX X.prog X.w) k x ps (spX X.K dk n F)) (tks : Takes X c.x) (hq : Qt X.A) (hr : Room j X.A) (hk : k ≤ j)
    (hg : Gl X x) (h0 : ps ≠ []) (hkw : PK X kws (lowA X.K dk c fs))
    (hall : (backToKw pos (keywordEach kws X.env)).all (·.1.isSome) = true := by rfl)
    (hks : (backToKw pos (keywordEach kws X.env)).filterMap (·.1) = ps := by rfl)
    (hdb : (x == ("__debug__" : Str)) = false := by decide)
    (hpl : ((backTo pos (starEach [] X.env)).any (·.1) || (backToKw pos (keywordEach kws X.env)).any (·.1.isNone)) = false := by rfl) :
    PE X (.Call (.Name x p) [] kws pos) (lowE X.K dk c (dOwn n F fs)) := pe_w (pe_cEK cal (passAt tks) hq hr hk hg h0 hkw hall hks hdb hpl) fun _ _ _ q => low_own q
end
/-- a def's computation, by its body's -/
def endF : Fl → W D
  | .rt d => W.ret d
  | .nx _ => W.ret .non
  | _ => W.fail
def startD (m : Nat) (ds : List D) : DS := ds.map some ++ List.replicate m none
def defW (m : Nat) (b : DS → W Fl) : List D → W D := fun ds => W.bnd (b (startD m ds)) endF
section
variable {P : Program} {w : World} {K : PySem.W.Frag} {mg : Str → Option Value} {base : Heap}
/-- the letters of a def's body -/
def cDef (K : PySem.W.Frag) (dk : DK) (S : Pl) (μ : Mu) (H : Hp) (E : XK) : LC K dk := ⟨PostX K dk S μ H E, fun S' μ' H' => Ex S μ H S' μ' H', fun cls d _ H => E cls d H, fun a b => a.trans b, fun lk h d vs S' H' _ ex ok hd nl rf _ => h.ex lk d vs S' H' ex ok hd nl rf⟩
theorem rs_start {S : Pl} {μ : Mu} {H : Hp} {ds : List D} {vs : List V} {N : List Str} {m : Nat} (r : RepA K S μ H ds vs) (hm : N.length = vs.length + m) : RS K S μ H (startD m ds) (L2.start N vs) := by
  unfold startD L2.start
  refine ⟨?_, fun i d e => ?_⟩
  · rw [List.length_append, List.length_append, List.length_map, List.length_map, List.length_replicate, List.length_replicate, r.len]
    omega
  · by_cases hi : i < ds.length
    · rw [List.getElem?_append_left (by rw [List.length_map]; exact hi), List.getElem?_map] at e
      obtain ⟨d', e1, e2⟩ := map_inv e
      cases e2
      obtain ⟨v, h1, h2⟩ := r.get e1
      refine ⟨v, ?_, h2⟩
      rw [List.getElem?_append_left (by rw [List.length_map, ← r.len]; exact hi), List.getElem?_map, h1]
      rfl
    · rw [List.getElem?_append_right (by rw [List.length_map]; omega), List.getElem?_replicate] at e
      split at e <;> cases e
theorem cal_D {dk : DK} {x : Str} {st : Stmt} {f : Addr} {fd : FuncData} {N ps : List Str} {k m : Nat} {b : DS → W Fl} (D : DefAt K mg x ps st f fd)
    (S : FnScope N ps (defScope st)) (hm : N.length = ps.length + m)
    (hbody : ∀ (cdv : Value) (A : Around) (outer : List Env) (s : Shared) (H0 : Hp) (E : XK),
      Qt (A.deeper (envOfC x (defScope st) s.heap.objs.size f cdv)) →
      Room k (A.deeper (envOfC x (defScope st) s.heap.objs.size f cdv)) → ∀ (S0 : Pl) (μ0 : Mu) (H : Hp),
      PSs (cxOf (L2.CX P w) P w K mg base N x (defScope st) f cdv A outer s H0 E) (defBody st) (lowS K dk (cDef K dk S0 μ0 H E) b)) :
    Cal P w K mg base (L2.CX P w) (k + 1) x ps (spX K dk ps.length (defW m b)) := by
  obtain ⟨oc, od, kV, doc, pm, an, cdv, ct, osl, rfl, lk, hcd⟩ := D.fn.ex
  refine ⟨f, _, ?_, D.mgf, D.fn.kp, D.bs, D.kbs⟩
  refine fn_ofG lk hcd S (fun vs H Q E h => h.1) fun A outer s H vs Q E hq hr hsp => ?_
  obtain ⟨hl, ds, S0, μ0, ok, rep, run⟩ := hsp
  refine ⟨_, hbody cdv A outer s H E hq hr S0 μ0 H, startD m ds, S0, μ0, Ex.refl, ok, rs_start rep (by omega), ?_⟩
  have run : (b (startD m ds)).run (fun fl μ' => (endF fl).run (Post K dk S0 μ0 H Q) (PostX K dk S0 μ0 H E) μ') (PostX K dk S0 μ0 H E) μ0 := run
  refine W.up run fun fl μ1 q => ?_
  cases fl with
  | nx ε => exact fun σ S' H' ex ok' rs' => q .non S' H' ex ok' .non
  | rt d => exact fun v S' H' ex ok' r' => q v S' H' ex ok' r'
  | bk ε => exact q.elim
  | ct ε => exact q.elim
end
end DL

namespace DL
open PySem PySem.Spec PyProof.Rows L2 Kit X16

/-! ### enumerate, zip -/
def kdOk : Kd → D → Bool
  | .L, .lst _ => true
  | .L, .ref _ => true
  | .T, .tup _ => true
  | .T, .ktp _ => true
  | .S, .str _ => true
  | _, _ => false
section
variable {K : PySem.W.Frag} {dk : DK}
theorem itsOf_ref {μ : Mu} {n : Nat} {t : Itm} (h : itsOf μ (.ref n) = some t) : ∃ xs, μ[n]? = some (.lst xs) ∧ t = ⟨xs, fun μ => μ[n]? = some (.lst xs)⟩ := by
  have h : (match μ[n]? with
    | some (.lst xs) => some (Itm.mk xs fun μ => μ[n]? = some (MO.lst xs))
    | _ => none) = some t := h
  cases e : μ[n]? with
  | none => rw [e] at h; cases h
  | some m =>
    rw [e] at h
    cases m with
    | lst xs => cases h; exact ⟨xs, rfl, rfl⟩
    | _ => cases h
theorem sg_rep {S : Pl} {μ : Mu} {H : Hp} : ∀ {cs : List Nat}, RepA K S μ H (cs.map fun k => D.str ⟨#[k]⟩) (cs.map fun k => V.str ⟨#[k]⟩)
  | [] => .nil
  | k :: cs => .cons (.str _) sg_rep
theorem kd_at {k : Kd} {S : Pl} {μ : Mu} {H : Hp} {d : D} {v : V} {t : Itm} (r : Rep K S μ H d v) (hk : kdOk k d = true) (ht : itsOf μ d = some t) {S' : Pl} {μ' : Mu} {H' : Hp} (ex : Ux S μ H S' μ' H') (ok : Ok K dk.p S' μ' H') (hv : t.inv μ') :
    ∃ vs, SqK K H' k v vs ∧ RepA K S' μ' H' t.xs vs := by
  cases r with
  | @tup xs a vs h r =>
    cases k <;> first | (cases hk; done) | skip
    cases ht
    exact ⟨vs, ⟨a, rfl, (h.ux ex).sq⟩, r.ux ex⟩
  | @ktp xs a vs h r =>
    cases k <;> first | (cases hk; done) | skip
    cases ht
    exact ⟨vs, ⟨a, rfl, kt_sq h⟩, r.ux ex⟩
  | @lst xs a vs h r =>
    cases k <;> first | (cases hk; done) | skip
    cases ht
    exact ⟨vs, ⟨a, rfl, .inl (.inl (h.ux ex).1)⟩, r.ux ex⟩
  | str z =>
    cases k <;> first | (cases hk; done) | skip
    cases ht
    exact ⟨_, ⟨z, rfl, rfl⟩, sg_rep⟩
  | @ref n a h =>
    cases k <;> first | (cases hk; done) | skip
    obtain ⟨xs, h1, rfl⟩ := itsOf_ref ht
    obtain ⟨vs, h2, h3⟩ := ok.at_ n _ a hv (ex.at h)
    exact ⟨vs, ⟨a, rfl, .inl (.inl h2)⟩, h3⟩
  | _ => cases k <;> cases hk
def enumD : Nat → List D → List D
  | _, [] => []
  | n, x :: xs => .tup [.int n, x] :: enumD (n + 1) xs
theorem enumD_get : ∀ {xs : List D} {n i : Nat}, (enumD n xs)[i]? = xs[i]?.map fun x => .tup [.int ((n + i : Nat) : Int), x]
  | [], n, i => rfl
  | x :: xs, n, 0 => rfl
  | x :: xs, n, i + 1 => by
    show (enumD (n + 1) xs)[i]? = _
    rw [enumD_get]
    show _ = xs[i]?.map _
    congr 1
    funext y
    congr 4
    omega
theorem enumD_len : ∀ {xs : List D} {n : Nat}, (enumD n xs).length = xs.length
  | [], _ => rfl
  | _ :: xs, n => by
    show (enumD (n + 1) xs).length + 1 = _
    rw [enumD_len]
    rfl
theorem pair_new {S : Pl} {μ : Mu} {H : Hp} {T : Addr} {d e : D} {x y : V} (ok : Ok K dk.p S μ H) (hT : H T = none) (r1 : Rep K S μ H d x) (r2 : Rep K S μ H e y) :
    Ex S μ H S μ (upd H T (.tup [x, y])) ∧ Ok K dk.p S μ (upd H T (.tup [x, y])) ∧ Rep K S μ (upd H T (.tup [x, y])) (.tup [d, e]) (.ref T) :=
  ⟨new_ex ok hT, new_ok ok hT, new_tup ok hT (.cons r1 (.cons r2 .nil))⟩
theorem itd_enumT {S : Pl} {μ : Mu} {H : Hp} {d : D} {a : Addr} {t : Itm} (r : Rep K S μ H d (.ref a)) (hk : kdOk .T d = true) (ht : itsOf μ d = some t) : ItD K dk (IteT K a) S μ H ⟨enumD 0 t.xs, t.inv⟩ where
  go := fun ex ok hv hi => by
    obtain ⟨vs, ⟨b, e, h1⟩, h2⟩ := kd_at r hk ht ex ok hv
    cases e
    have hi : _ < (enumD 0 t.xs).length := hi
    rw [enumD_len, h2.len] at hi
    exact ⟨vs, vs[_]'hi, h1, List.getElem?_eq_getElem _⟩
  stop := fun ex ok hv hi => by
    obtain ⟨vs, ⟨b, e, h1⟩, h2⟩ := kd_at r hk ht ex ok hv
    cases e
    have hi : _ = (enumD 0 t.xs).length := hi
    rw [enumD_len, h2.len] at hi
    exact ⟨vs, h1, Nat.le_of_eq hi.symm⟩
  yld := fun {i S' μ' H' e x H''} ex ok hv hd hy => by
    obtain ⟨vs, ⟨b, e, h1⟩, h2⟩ := kd_at r hk ht ex ok hv
    cases e
    obtain ⟨T, y, rfl, nT, rfl, hy⟩ := hy
    have hd : (enumD 0 t.xs)[i]? = some e := hd
    rw [enumD_get] at hd
    obtain ⟨z, hz, rfl⟩ := map_inv hd
    obtain ⟨v, h3, h4⟩ := h2.get hz
    have := hy vs h1
    rw [h3] at this
    cases this
    rw [Nat.zero_add]
    exact pair_new ok nT (.int _) h4
theorem itd_enumL {S : Pl} {μ : Mu} {H : Hp} {d : D} {a : Addr} {t : Itm} (r : Rep K S μ H d (.ref a)) (hk : kdOk .L d = true) (ht : itsOf μ d = some t) : ItD K dk (Ite K a) S μ H ⟨enumD 0 t.xs, t.inv⟩ where
  go := fun ex ok hv hi => by
    obtain ⟨vs, ⟨b, e, h1⟩, h2⟩ := kd_at r hk ht ex ok hv
    cases e
    have hi : _ < (enumD 0 t.xs).length := hi
    rw [enumD_len, h2.len] at hi
    exact ⟨vs, vs[_]'hi, h1, List.getElem?_eq_getElem _⟩
  stop := fun ex ok hv hi => by
    obtain ⟨vs, ⟨b, e, h1⟩, h2⟩ := kd_at r hk ht ex ok hv
    cases e
    have hi : _ = (enumD 0 t.xs).length := hi
    rw [enumD_len, h2.len] at hi
    exact ⟨vs, h1, Nat.le_of_eq hi.symm⟩
  yld := fun {i S' μ' H' e x H''} ex ok hv hd hy => by
    obtain ⟨vs, ⟨b, e, h1⟩, h2⟩ := kd_at r hk ht ex ok hv
    cases e
    obtain ⟨T, y, rfl, nT, rfl, hy⟩ := hy
    have hd : (enumD 0 t.xs)[i]? = some e := hd
    rw [enumD_get] at hd
    obtain ⟨z, hz, rfl⟩ := map_inv hd
    obtain ⟨v, h3, h4⟩ := h2.get hz
    have := hy vs h1
    rw [h3] at this
    cases this
    rw [Nat.zero_add]
    exact pair_new ok nT (.int _) h4
def gIts (k : Kd) (g : Itm → Itm) : List D → W Itm
  | [d] => W.rd fun μ => W.bnd (W.opt (itsOf μ d)) fun t => W.chk (kdOk k d = true) (W.ret (g t))
  | _ => W.fail
def gEnum (t : Itm) : Itm := ⟨enumD 0 t.xs, t.inv⟩
def zipD (xs ys : List D) : List D := List.zipWith (fun x y => .tup [x, y]) xs ys
def gZip (k1 k2 : Kd) : List D → W Itm
  | [d, e] => W.rd fun μ => W.bnd (W.opt (itsOf μ d)) fun t => W.bnd (W.opt (itsOf μ e)) fun u => W.chk (kdOk k1 d = true ∧ kdOk k2 e = true) (W.ret ⟨zipD t.xs u.xs, fun μ => t.inv μ ∧ u.inv μ⟩)
  | _ => W.fail
theorem zipD_get {xs ys : List D} {i : Nat} {d : D} (h : (zipD xs ys)[i]? = some d) : ∃ x y, xs[i]? = some x ∧ ys[i]? = some y ∧ d = .tup [x, y] := by
  unfold zipD at h
  rw [List.getElem?_zipWith] at h
  cases hx : xs[i]? with
  | none => rw [hx] at h; cases h
  | some x =>
    cases hy : ys[i]? with
    | none => rw [hx, hy] at h; cases h
    | some y =>
      rw [hx, hy] at h
      exact ⟨x, y, rfl, rfl, (Option.some.inj h).symm⟩
theorem zipD_len {xs ys : List D} : (zipD xs ys).length = min xs.length ys.length := by
  unfold zipD
  rw [List.length_zipWith]
theorem itd_zip {k1 k2 : Kd} {S : Pl} {μ : Mu} {H : Hp} {d e : D} {va vb : V} {t u : Itm} (r : Rep K S μ H d va) (hk : kdOk k1 d = true) (ht : itsOf μ d = some t) (r2 : Rep K S μ H e vb) (hk2 : kdOk k2 e = true) (ht2 : itsOf μ e = some u) :
    ItD K dk (ItZM K k1 k2 va vb) S μ H ⟨zipD t.xs u.xs, fun μ => t.inv μ ∧ u.inv μ⟩ where
  go := fun {i S' μ' H'} ex ok hv hi => by
    obtain ⟨vs, h1, h2⟩ := kd_at r hk ht ex ok hv.1
    obtain ⟨ws, h3, h4⟩ := kd_at r2 hk2 ht2 ex ok hv.2
    have hi : i < (zipD t.xs u.xs).length := hi
    rw [zipD_len, h2.len, h4.len] at hi
    exact ⟨vs, ws, vs[i]'(by omega), ws[i]'(by omega), h1, h3, List.getElem?_eq_getElem _, List.getElem?_eq_getElem _⟩
  stop := fun {i S' μ' H'} ex ok hv hi => by
    obtain ⟨vs, h1, h2⟩ := kd_at r hk ht ex ok hv.1
    obtain ⟨ws, h3, h4⟩ := kd_at r2 hk2 ht2 ex ok hv.2
    have hi : i = (zipD t.xs u.xs).length := hi
    rw [zipD_len, h2.len, h4.len] at hi
    exact ⟨vs, ws, h1, h3, by omega, by omega, by omega⟩
  yld := fun {i S' μ' H' g x H''} ex ok hv hd hy => by
    obtain ⟨vs, h1, h2⟩ := kd_at r hk ht ex ok hv.1
    obtain ⟨ws, h3, h4⟩ := kd_at r2 hk2 ht2 ex ok hv.2
    obtain ⟨T, p, q, rfl, nT, rfl, hp, hq⟩ := hy
    obtain ⟨y, z, hy, hz, rfl⟩ := zipD_get hd
    obtain ⟨v, h5, h6⟩ := h2.get hy
    obtain ⟨w, h7, h8⟩ := h4.get hz
    have e1 := hp vs h1
    rw [h5] at e1
    cases e1
    have e2 := hq ws h3
    rw [h7] at e2
    cases e2
    exact pair_new ok nT h6 h8
end
section
variable {X : Cx} {dk : DK} {c : LC X.K dk} {fs : DS → W (List D)} {elts : List Expr} {kk : Nat} {p pos tpos : Pos} {e e2 : Expr}
theorem gIts_run {k : Kd} {g : Itm → Itm} {ds : List D} {Q : Itm → Mu → Prop} {E : Exn → Mu → Prop} {μ : Mu} (h : (gIts k g ds).run Q E μ) : ∃ d t, ds = [d] ∧ itsOf μ d = some t ∧ kdOk k d = true ∧ Q (g t) μ := by
  unfold gIts at h
  split at h
  · next d =>
    have h : ((W.opt (itsOf μ d)).bnd fun t => W.chk (kdOk k d = true) (W.ret (g t))).run Q E μ := h
    cases ht : itsOf μ d with
    | none => rw [ht] at h; exact h.elim
    | some t => rw [ht] at h; exact ⟨d, t, rfl, ht, h.1, h.2⟩
  · exact h.elim
theorem kd_ref {K : PySem.W.Frag} {S : Pl} {μ : Mu} {H : Hp} {k : Kd} {d : D} {v : V} (r : Rep K S μ H d v) (hk : kdOk k d = true) (h : k ≠ .S) : ∃ a, v = .ref a := by
  cases r <;> first | exact ⟨_, rfl⟩ | (cases k <;> first | (cases hk; done) | exact absurd rfl h)
theorem di_enumT (hg : Gl X "enumerate") (hm : X.mg "enumerate" = none) (ha : PA X [e] (lowA X.K dk c fs)) (hs : starEach [e] X.env = [(false, eval e X.env)] := by rfl) :
    PI X (.Tuple elts kk tpos) (.Call (.Name "enumerate" p) [e] [] pos) (lowI X.K dk c (iOf (gIts .T gEnum) fs)) := pi_w (pi_enumT hg hm ha hs) fun σ H R ⟨ε, S, μ, lk, ok, rs, run⟩ => by
  refine ⟨ε, S, μ, lk, ok, rs, W.up run fun ds μ1 run1 xs S1 H1 ex1 ok1 rep1 => ?_⟩
  obtain ⟨d, t, rfl, ht, hk, q⟩ := gIts_run run1
  cases rep1 with
  | cons r tl =>
    cases tl
    obtain ⟨a, rfl⟩ := kd_ref r hk (fun z => by cases z)
    have inv : t.inv μ1 := by
      cases d <;> first | (cases hk; done) | (cases ht; exact True.intro)
    obtain ⟨vs, ⟨b, e, h1⟩, h2⟩ := kd_at r hk ht (Ex.refl.ux) ok1 inv
    cases e
    exact ⟨a, vs, rfl, h1, q _ S1 H1 ex1 ok1 (itd_enumT r hk ht)⟩
theorem di_enumL (hg : Gl X "enumerate") (hm : X.mg "enumerate" = none) (ha : PA X [e] (lowA X.K dk c fs)) (hs : starEach [e] X.env = [(false, eval e X.env)] := by rfl) :
    PI X (.Tuple elts kk tpos) (.Call (.Name "enumerate" p) [e] [] pos) (lowI X.K dk c (iOf (gIts .L gEnum) fs)) := pi_w (pi_enum hg hm ha hs) fun σ H R ⟨ε, S, μ, lk, ok, rs, run⟩ => by
  refine ⟨ε, S, μ, lk, ok, rs, W.up run fun ds μ1 run1 xs S1 H1 ex1 ok1 rep1 => ?_⟩
  obtain ⟨d, t, rfl, ht, hk, q⟩ := gIts_run run1
  cases rep1 with
  | cons r tl =>
    cases tl
    obtain ⟨a, rfl⟩ := kd_ref r hk (fun z => by cases z)
    have inv : t.inv μ1 := by
      cases d <;> first | (cases hk; done) | (cases ht; exact True.intro) | (obtain ⟨xs, h1, rfl⟩ := itsOf_ref ht; exact h1)
    obtain ⟨vs, ⟨b, e, h1⟩, h2⟩ := kd_at r hk ht (Ex.refl.ux) ok1 inv
    cases e
    exact ⟨a, vs, rfl, h1, q _ S1 H1 ex1 ok1 (itd_enumL r hk ht)⟩
theorem itsOf_inv {μ : Mu} {d : D} {t : Itm} (ht : itsOf μ d = some t) : t.inv μ := by
  cases d <;> first | (cases ht; done) | (cases ht; exact True.intro) | (obtain ⟨xs, h1, rfl⟩ := itsOf_ref ht; exact h1)
theorem di_zip {k1 k2 : Kd} (hg : Gl X "zip") (hm : X.mg "zip" = none) (ha : PA X [e, e2] (lowA X.K dk c fs))
    (hs : starEach [e, e2] X.env = (false, eval e X.env) :: starEach [e2] X.env := by rfl) (hpl : (backTo pos (starEach [e2] X.env)).any (·.1) = false := by rfl) :
    PI X (.Tuple elts kk tpos) (.Call (.Name "zip" p) [e, e2] [] pos) (lowI X.K dk c (iOf (gZip k1 k2) fs)) := pi_w (X16.pi_zipM (k1 := k1) (k2 := k2) hg hm ha hs hpl) fun σ H R ⟨ε, S, μ, lk, ok, rs, run⟩ => by
  refine ⟨ε, S, μ, lk, ok, rs, W.up run fun ds μ1 run1 xs S1 H1 ex1 ok1 rep1 => ?_⟩
  unfold gZip at run1
  split at run1
  · next d d2 =>
    cases rep1 with
    | cons r tl =>
      cases tl with
      | cons r2 tl =>
        cases tl
        have run1 : ((W.opt (itsOf μ1 d)).bnd fun t => W.bnd (W.opt (itsOf μ1 d2)) fun u => W.chk (kdOk k1 d = true ∧ kdOk k2 d2 = true) (W.ret (Itm.mk (zipD t.xs u.xs) fun μ => t.inv μ ∧ u.inv μ))).run
          (fun t μ' => ∀ J S' H', Ex S μ H S' μ' H' → Ok X.K dk.p S' μ' H' → ItD X.K dk J S' μ' H' t → R J H') c.E μ1 := run1
        cases ht : itsOf μ1 d with
        | none => rw [ht] at run1; exact run1.elim
        | some t =>
          rw [ht] at run1
          have run1 : ((W.opt (itsOf μ1 d2)).bnd fun u => W.chk (kdOk k1 d = true ∧ kdOk k2 d2 = true) (W.ret (Itm.mk (zipD t.xs u.xs) fun μ => t.inv μ ∧ u.inv μ))).run
            (fun t μ' => ∀ J S' H', Ex S μ H S' μ' H' → Ok X.K dk.p S' μ' H' → ItD X.K dk J S' μ' H' t → R J H') c.E μ1 := run1
          cases ht2 : itsOf μ1 d2 with
          | none => rw [ht2] at run1; exact run1.elim
          | some u =>
            rw [ht2] at run1
            obtain ⟨⟨hk, hk2⟩, q⟩ := run1
            obtain ⟨vs, h1, h2⟩ := kd_at r hk ht (Ex.refl.ux) ok1 (itsOf_inv ht)
            obtain ⟨ws, h3, h4⟩ := kd_at r2 hk2 ht2 (Ex.refl.ux) ok1 (itsOf_inv ht2)
            exact ⟨_, _, vs, ws, rfl, h1, h3, q _ S1 H1 ex1 ok1 (itd_zip r hk ht r2 hk2 ht2)⟩
  · exact run1.elim
end
end DL

namespace DL
open PySem PySem.Spec PyProof.Rows L2 Kit

/-! ### dicts -/
noncomputable instance decD : DecidableEq D := Classical.typeDecidableEq D
noncomputable def dval (ks : List (D × D)) (k : D) : Option D := (ks.find? fun p => decide (p.1 = k)).map (·.2)
noncomputable def dputL (ks : List (D × D)) (k v : D) : List (D × D) :=
  if (ks.any fun p => decide (p.1 = k)) = true then ks.map (fun p => if p.1 = k then (p.1, v) else p) else ks ++ [(k, v)]
theorem dkK_inj {a b : D} {q : Key} (h1 : dkK a = some q) (h2 : dkK b = some q) : a = b := by
  cases a <;> first | (cases h1; done) | (cases h1; cases b <;> first | (cases h2; done) | (cases h2; rfl))
theorem dkL_inj : ∀ {a b : List D} {q : List Key}, dkL a = some q → dkL b = some q → a = b
  | [], [], _, _, _ => rfl
  | [], y :: ys, q, h1, h2 => by
    cases h1
    rw [dkL] at h2
    obtain ⟨k, _, h⟩ := bind_inv h2
    obtain ⟨ks, _, h⟩ := map_inv h
    cases h
  | x :: xs, [], q, h1, h2 => by
    cases h2
    rw [dkL] at h1
    obtain ⟨k, _, h⟩ := bind_inv h1
    obtain ⟨ks, _, h⟩ := map_inv h
    cases h
  | x :: xs, y :: ys, q, h1, h2 => by
    rw [dkL] at h1 h2
    obtain ⟨k, e1, h⟩ := bind_inv h1
    obtain ⟨ks, e2, h⟩ := map_inv h
    cases h
    obtain ⟨k', e3, h⟩ := bind_inv h2
    obtain ⟨ks', e4, h⟩ := map_inv h
    cases h
    rw [dkK_inj e1 e3, dkL_inj e2 e4]
theorem dkT_inj {a b : D} {q : List Key} (h1 : dkT a = some q) (h2 : dkT b = some q) : a = b := by
  cases a <;> first | (cases h1; done) | skip
  cases b <;> first | (cases h2; done) | skip
  rw [dkL_inj (show dkL _ = some q from h1) (show dkL _ = some q from h2)]
section
variable {K : PySem.W.Frag} {dk : DK} {S : Pl} {μ : Mu} {H : Hp}
theorem repK_val {k : D} {q : Key} (hk : IsKey k q) : ∀ {ks : List (D × D)} {kvs : List (Key × V)}, RepK K S μ H ks kvs → (∀ d, dval ks k = some d → ∃ v, valV kvs q = some v ∧ Rep K S μ H d v) ∧ (dval ks k = none → valV kvs q = none)
  | _, _, .nil => ⟨fun d h => (by cases h), fun _ => rfl⟩
  | _, _, @RepK.cons _ _ _ _ k1 d1 q1 v1 ds vs hk1 r t => by
    have ih := repK_val hk t
    by_cases e : k1 = k
    · subst e
      have e2 : q1 = q := Option.some.inj (hk1.symm.trans hk)
      subst e2
      have a : dval ((k1, d1) :: ds) k1 = some d1 := by simp [dval, List.find?_cons]
      have b : valV ((q1, v1) :: vs) q1 = some v1 := valV_pos rfl
      rw [a, b]
      exact ⟨fun d h => by cases h; exact ⟨v1, rfl, r⟩, fun h => by cases h⟩
    · have e2 : ¬ q1 = q := fun z => e (dkK_inj (z ▸ hk1) hk)
      have a : dval ((k1, d1) :: ds) k = dval ds k := by simp [dval, List.find?_cons, e]
      have b : valV ((q1, v1) :: vs) q = valV vs q := valV_neg e2
      rw [a, b]
      exact ih
theorem repT_val {k : D} {q : List Key} (hk : IsKeyT k q) : ∀ {ks : List (D × D)} {kvs : List (List Key × V)}, RepT K S μ H ks kvs → (∀ d, dval ks k = some d → ∃ v, valV kvs q = some v ∧ Rep K S μ H d v) ∧ (dval ks k = none → valV kvs q = none)
  | _, _, .nil => ⟨fun d h => (by cases h), fun _ => rfl⟩
  | _, _, @RepT.cons _ _ _ _ k1 d1 q1 v1 ds vs hk1 r t => by
    have ih := repT_val hk t
    by_cases e : k1 = k
    · subst e
      have e2 : q1 = q := Option.some.inj (hk1.symm.trans hk)
      subst e2
      have a : dval ((k1, d1) :: ds) k1 = some d1 := by simp [dval, List.find?_cons]
      have b : valV ((q1, v1) :: vs) q1 = some v1 := valV_pos rfl
      rw [a, b]
      exact ⟨fun d h => by cases h; exact ⟨v1, rfl, r⟩, fun h => by cases h⟩
    · have e2 : ¬ q1 = q := fun z => e (dkT_inj (z ▸ hk1) hk)
      have a : dval ((k1, d1) :: ds) k = dval ds k := by simp [dval, List.find?_cons, e]
      have b : valV ((q1, v1) :: vs) q = valV vs q := valV_neg e2
      rw [a, b]
      exact ih
theorem repK_any {k : D} {q : Key} (hk : IsKey k q) : ∀ {ks : List (D × D)} {kvs : List (Key × V)}, RepK K S μ H ks kvs → (ks.any fun p => decide (p.1 = k)) = kvs.any fun p => decide (p.1 = q)
  | _, _, .nil => rfl
  | _, _, @RepK.cons _ _ _ _ k1 d1 q1 v1 ds vs hk1 r t => by
    rw [List.any_cons, List.any_cons, repK_any hk t]
    congr 1
    by_cases e : k1 = k
    · subst e
      have e2 : q1 = q := Option.some.inj (hk1.symm.trans hk)
      simp [e2]
    · have e2 : ¬ q1 = q := fun z => e (dkK_inj (z ▸ hk1) hk)
      simp [e, e2]
theorem repK_map {k : D} {q : Key} {d : D} {v : V} (hk : IsKey k q) (rd : Rep K S μ H d v) : ∀ {ks : List (D × D)} {kvs : List (Key × V)}, RepK K S μ H ks kvs → RepK K S μ H (ks.map fun p => if p.1 = k then (p.1, d) else p) (kvs.map fun p => if p.1 = q then (p.1, v) else p)
  | _, _, .nil => .nil
  | _, _, @RepK.cons _ _ _ _ k1 d1 q1 v1 ds vs hk1 r t => by
    rw [List.map_cons, List.map_cons]
    have ih := repK_map hk rd t
    by_cases e : k1 = k
    · subst e
      have e2 : q1 = q := Option.some.inj (hk1.symm.trans hk)
      rw [if_pos rfl, if_pos e2]
      exact .cons hk1 rd ih
    · have e2 : ¬ q1 = q := fun z => e (dkK_inj (z ▸ hk1) hk)
      rw [if_neg e, if_neg e2]
      exact .cons hk1 r ih
theorem repK_app {k : D} {q : Key} {d : D} {v : V} (hk : IsKey k q) (rd : Rep K S μ H d v) : ∀ {ks : List (D × D)} {kvs : List (Key × V)}, RepK K S μ H ks kvs → RepK K S μ H (ks ++ [(k, d)]) (kvs ++ [(q, v)])
  | _, _, .nil => .cons hk rd .nil
  | _, _, .cons hk1 r t => .cons hk1 r (repK_app hk rd t)
theorem repK_put {k : D} {q : Key} {d : D} {v : V} (hk : IsKey k q) (rd : Rep K S μ H d v) {ks : List (D × D)} {kvs : List (Key × V)} (r : RepK K S μ H ks kvs) : RepK K S μ H (dputL ks k d) (putK kvs q v) := by
  unfold dputL putK
  rw [repK_any hk r]
  split
  · exact repK_map hk rd r
  · exact repK_app hk rd r
theorem repK_len : ∀ {ks : List (D × D)} {kvs : List (Key × V)}, RepK K S μ H ks kvs → ks.length = kvs.length
  | _, _, .nil => rfl
  | _, _, .cons _ _ t => by rw [List.length_cons, List.length_cons, repK_len t]
theorem repT_any {k : D} {q : List Key} (hk : IsKeyT k q) : ∀ {ks : List (D × D)} {kvs : List (List Key × V)}, RepT K S μ H ks kvs → (ks.any fun p => decide (p.1 = k)) = kvs.any fun p => decide (p.1 = q)
  | _, _, .nil => rfl
  | _, _, @RepT.cons _ _ _ _ k1 d1 q1 v1 ds vs hk1 r t => by
    rw [List.any_cons, List.any_cons, repT_any hk t]
    congr 1
    by_cases e : k1 = k
    · subst e
      have e2 : q1 = q := Option.some.inj (hk1.symm.trans hk)
      simp [e2]
    · have e2 : ¬ q1 = q := fun z => e (dkT_inj (z ▸ hk1) hk)
      simp [e, e2]
theorem repT_map {k : D} {q : List Key} {d : D} {v : V} (hk : IsKeyT k q) (rd : Rep K S μ H d v) : ∀ {ks : List (D × D)} {kvs : List (List Key × V)}, RepT K S μ H ks kvs → RepT K S μ H (ks.map fun p => if p.1 = k then (p.1, d) else p) (kvs.map fun p => if p.1 = q then (p.1, v) else p)
  | _, _, .nil => .nil
  | _, _, @RepT.cons _ _ _ _ k1 d1 q1 v1 ds vs hk1 r t => by
    rw [List.map_cons, List.map_cons]
    have ih := repT_map hk rd t
    by_cases e : k1 = k
    · subst e
      have e2 : q1 = q := Option.some.inj (hk1.symm.trans hk)
      rw [if_pos rfl, if_pos e2]
      exact .cons hk1 rd ih
    · have e2 : ¬ q1 = q := fun z => e (dkT_inj (z ▸ hk1) hk)
      rw [if_neg e, if_neg e2]
      exact .cons hk1 r ih
theorem repT_app {k : D} {q : List Key} {d : D} {v : V} (hk : IsKeyT k q) (rd : Rep K S μ H d v) : ∀ {ks : List (D × D)} {kvs : List (List Key × V)}, RepT K S μ H ks kvs → RepT K S μ H (ks ++ [(k, d)]) (kvs ++ [(q, v)])
  | _, _, .nil => .cons hk rd .nil
  | _, _, .cons hk1 r t => .cons hk1 r (repT_app hk rd t)
theorem repT_put {k : D} {q : List Key} {d : D} {v : V} (hk : IsKeyT k q) (rd : Rep K S μ H d v) {ks : List (D × D)} {kvs : List (List Key × V)} (r : RepT K S μ H ks kvs) : RepT K S μ H (dputL ks k d) (putK kvs q v) := by
  unfold dputL putK
  rw [repT_any hk r]
  split
  · exact repT_map hk rd r
  · exact repT_app hk rd r
theorem repT_len : ∀ {ks : List (D × D)} {kvs : List (List Key × V)}, RepT K S μ H ks kvs → ks.length = kvs.length
  | _, _, .nil => rfl
  | _, _, .cons _ _ t => by rw [List.length_cons, List.length_cons, repT_len t]
theorem key_rep {d : D} {v : V} {q : Key} (r : Rep K S μ H d v) (h : dkK d = some q) : v = kV q := by
  cases r <;> first | (cases h; done) | (cases h; rfl)
theorem keys_rep : ∀ {ds : List D} {vs : List V} {q : List Key}, RepA K S μ H ds vs → dkL ds = some q → vs = q.map kV
  | _, _, _, .nil, h => by cases h; rfl
  | _, _, _, .cons r t, h => by
    rw [dkL] at h
    obtain ⟨k, h1, h⟩ := bind_inv h
    obtain ⟨ks, h2, h⟩ := map_inv h
    cases h
    rw [key_rep r h1, keys_rep t h2]
    rfl
theorem keyT_rep {d : D} {v : V} {q : List Key} (r : Rep K S μ H d v) (h : dkT d = some q) : ∃ b, v = .ref b ∧ H b = some (.tup (q.map kV)) := by
  cases r <;> first | (cases h; done) | skip
  case tup xs a vs h1 r => exact ⟨a, rfl, by rw [← keys_rep r h]; exact h1.1⟩
end
/-- what a dict holds at a key; whether the key is one -/
noncomputable def dfind (ks : List (D × D)) (k : D) : Option D := dval ks k
def okKey (t : Bool) (k : D) : Bool := if t = true then (dkT k).isSome else (dkK k).isSome
def asDct : D → W (Bool × List (D × D))
  | .dct t ks => W.ret (t, ks)
  | _ => W.fail
noncomputable def gGet (d k : D) : W D := W.bnd (see d) fun d => W.bnd (asDct d) fun p => W.chk (okKey p.1 k = true) (W.opt (dval p.2 k))
noncomputable def dGet (f g : DS → W D) : DS → W D := fun ε => W.bnd (f ε) fun d => W.bnd (g ε) fun k => gGet d k
noncomputable def gHas (neg : Bool) (k d : D) : W D := W.bnd (see d) fun d => W.bnd (asDct d) fun p => W.chk (okKey p.1 k = true) (W.ret (.bl (if neg then !(dval p.2 k).isSome else (dval p.2 k).isSome)))
section
variable {K : PySem.W.Frag} {dk : DK} {S : Pl} {μ : Mu} {H : Hp}
theorem dct_get {d k : D} {x y : V} {t : Bool} {ks : List (D × D)} (rd : Vw K S μ H (.dct t ks) x) (rk : Rep K S μ H k y) (ok : okKey t k = true) :
    ∃ a o, x = .ref a ∧ DGet H a y o ∧ (∀ d, dval ks k = some d → ∃ v, o = some v ∧ Rep K S μ H d v) ∧ (dval ks k = none → o = none) := by
  cases t with
  | false =>
    obtain ⟨a, kvs, rfl, h1, h2⟩ := rd
    obtain ⟨q, hq⟩ := Option.isSome_iff_exists.mp ok
    obtain ⟨p1, p2⟩ := repK_val hq h2
    exact ⟨a, valV kvs q, rfl, .inl ⟨kvs, q, .inl h1, key_rep rk hq, rfl⟩, p1, p2⟩
  | true =>
    obtain ⟨a, kvs, rfl, h1, h2⟩ := rd
    obtain ⟨q, hq⟩ := Option.isSome_iff_exists.mp ok
    obtain ⟨p1, p2⟩ := repT_val hq h2
    obtain ⟨b, rfl, hb⟩ := keyT_rep rk hq
    exact ⟨a, valV kvs q, rfl, .inr ⟨kvs, q, b, .inl h1, rfl, hb, rfl⟩, p1, p2⟩
end
section
variable {X : Cx} {dk : DK} {c : LC X.K dk} {f g fv : DS → W D} {o i value : Expr} {pos pos' : Pos}
theorem de_dget (hu : X.A.units + 1 < cLine) (ho : PE X o (lowE X.K dk c f)) (hi : PE X i (lowE X.K dk c g)) (hs : NoSl i) : PE X (.Subscript o i pos) (lowE X.K dk c (dGet f g)) :=
  pe_w (pe_dget hu ho hi hs) fun σ H Q ⟨ε, S, μ, lk, ok, rs, run⟩ => by
    refine ⟨ε, S, μ, lk, ok, rs, W.up run fun d μ1 run1 x S1 H1 ex1 ok1 rep1 => ?_⟩
    refine ⟨ε, S1, μ1, c.up lk ex1, ok1, rs.ex ex1, W.up run1 fun k μ2 run2 y S2 H2 ex2 ok2 rep2 => ?_⟩
    obtain ⟨d', vw, q⟩ := see_vw ok2 (rep1.ex ex2) (Q := fun d μ' => (W.bnd (asDct d) fun p => W.chk (okKey p.1 k = true) (W.opt (dval p.2 k))).run (Post X.K dk S μ H Q) c.E μ') run2
    cases d' with
    | dct t ks =>
      obtain ⟨hk, q⟩ := (q : okKey t k = true ∧ (W.opt (dval ks k)).run (Post X.K dk S μ H Q) c.E μ2)
      obtain ⟨a, w, rfl, dg, p1, p2⟩ := dct_get (d := d) vw rep2 hk
      cases hv : dval ks k with
      | none => rw [hv] at q; exact q.elim
      | some z =>
        rw [hv] at q
        obtain ⟨v, rfl, rv⟩ := p1 z hv
        exact ⟨a, v, rfl, dg, q v S2 H2 (ex1.trans ex2) ok2 rv⟩
    | _ => exact q.elim
theorem o_dhas {neg : Bool} (hu : X.A.units + 1 < cLine) : OpR X (if neg then compareOp .NotIn else compareOp .In) (fun y x H Q => ∃ a o, x = .ref a ∧ DGet H a y o ∧ Q (.bl (if neg then !o.isSome else o.isSome)) H) := by
  intro pins s σ H y x v u Q I ry rx h
  obtain ⟨a, o, rfl, dg, q⟩ := h
  obtain rfl : u = Value.ref a := rx
  cases neg with
  | false => exact d_in hu I dg ry fun s' I' => ⟨.bl o.isSome, H, I', rfl, q⟩
  | true => exact d_notIn hu I dg ry fun s' I' => ⟨.bl (!o.isSome), H, I', rfl, q⟩
theorem l_dhas {K : PySem.W.Frag} {neg : Bool} : LR2 K dk (fun y x H Q => ∃ a o, x = .ref a ∧ DGet H a y o ∧ Q (.bl (if neg then !o.isSome else o.isSome)) H) (gHas neg) := fun {y x dy dx S μ H Q E} ok ry rx q => by
  obtain ⟨d', vw, q⟩ := see_vw ok rx (Q := fun d μ' => (W.bnd (asDct d) fun p => W.chk (okKey p.1 dy = true) (W.ret (D.bl (if neg = true then !(dval p.2 dy).isSome else (dval p.2 dy).isSome)))).run (Post K dk S μ H Q) E μ') q
  cases d' with
  | dct t ks =>
    obtain ⟨hk, q⟩ := (q : okKey t dy = true ∧ Post K dk S μ H Q (.bl (if neg then !(dval ks dy).isSome else (dval ks dy).isSome)) μ)
    obtain ⟨a, w, rfl, dg, p1, p2⟩ := dct_get (d := dx) vw ry hk
    refine ⟨a, w, rfl, dg, ?_⟩
    have e : w.isSome = (dval ks dy).isSome := by
      cases hv : dval ks dy with
      | none =>
        rw [p2 hv]
        rfl
      | some z =>
        obtain ⟨v, rfl, _⟩ := p1 z hv
        rfl
    rw [e]
    exact q _ S H Ex.refl ok (.bl _)
  | _ => exact q.elim
/-- {}: a new dict that changes; t: its keys are tuples -/
def dNew (t : Bool) : DS → W D := fun _ => alloc (.dct t [])
theorem de_dnew (t : Bool) : PE X (.Dict [] [] pos) (lowE X.K dk c (dNew t)) := by
  cases t with
  | false =>
    refine pe_w pe_dnewK fun σ H Q ⟨ε, S, μ, lk, ok, rs, run⟩ p hp => ?_
    have ex := add_ex (o := .dK []) (m := .dct false []) ok hp
    refine run (.ref p) (S.add p) _ ex (add_ok ok hp ⟨[], upd_same, .nil⟩) (.ref ?_)
    show (S.L ++ [p])[μ.length]? = _
    rw [← ok.len, List.getElem?_append_right (Nat.le_refl _), Nat.sub_self]
    rfl
  | true =>
    refine pe_w pe_dnewT fun σ H Q ⟨ε, S, μ, lk, ok, rs, run⟩ p hp => ?_
    have ex := add_ex (o := .dT []) (m := .dct true []) ok hp
    refine run (.ref p) (S.add p) _ ex (add_ok ok hp ⟨[], upd_same, .nil⟩) (.ref ?_)
    show (S.L ++ [p])[μ.length]? = _
    rw [← ok.len, List.getElem?_append_right (Nat.le_refl _), Nat.sub_self]
    rfl
/-- d[k] = v -/
noncomputable def gPut (d k v : D) : W Unit := match d with
  | .ref n => W.rd fun μ => match μ[n]? with
    | some (.dct t ks) => W.chk (okKey t k = true ∧ ks.length < sizeLine) (W.wr (fun μ => μ.set n (.dct t (dputL ks k v))) (W.ret ()))
    | _ => W.fail
  | _ => W.fail
noncomputable def sPut (f g fv : DS → W D) : DS → W Fl := fun ε => W.bnd (fv ε) fun v => W.bnd (f ε) fun d => W.bnd (g ε) fun k => W.bnd (gPut d k v) fun _ => W.ret (.nx ε)
theorem gPut_run {d k v : D} {Q : Unit → Mu → Prop} {E : Exn → Mu → Prop} {μ : Mu} (h : (gPut d k v).run Q E μ) : ∃ n t ks, d = .ref n ∧ μ[n]? = some (.dct t ks) ∧ okKey t k = true ∧ ks.length < sizeLine ∧ Q () (μ.set n (.dct t (dputL ks k v))) := by
  cases d with
  | ref n =>
    have h : (match μ[n]? with
      | some (.dct t ks) => W.chk (okKey t k = true ∧ ks.length < sizeLine) (W.wr (fun μ => μ.set n (.dct t (dputL ks k v))) (W.ret ()))
      | _ => W.fail).run Q E μ := h
    cases e : μ[n]? with
    | none => rw [e] at h; exact h.elim
    | some m =>
      rw [e] at h
      cases m with
      | dct t ks => exact ⟨n, t, ks, rfl, e, h.1.1, h.1.2, h.2⟩
      | _ => exact h.elim
  | _ => exact h.elim
theorem ds_put (hu : X.A.units + 1 < cLine) (ho : PE X o (lowE X.K dk c f)) (hi : PE X i (lowE X.K dk c g)) (hv : PE X value (lowE X.K dk c fv)) (hs : swapsWith value (some (.Subscript o i pos')) pos.line X.env = pure false := by rfl) :
    PS X (.Assign [.Subscript o i pos'] value pos) (lowS X.K dk c (sPut f g fv)) := ps_w (ps_dput hu ho hi hv hs) fun Dn σ H ⟨ε, S, μ, lk, ok, rs, run⟩ => by
  refine ⟨ε, S, μ, lk, ok, rs, W.up run fun dv μ1 run1 v S1 H1 ex1 ok1 rep1 => ?_⟩
  refine ⟨ε, S1, μ1, c.up lk ex1, ok1, rs.ex ex1, W.up run1 fun d μ2 run2 x S2 H2 ex2 ok2 rep2 => ?_⟩
  have x2 := ex1.trans ex2
  refine ⟨ε, S2, μ2, c.up lk x2, ok2, rs.ex x2, W.up run2 fun k μ3 run3 y S3 H3 ex3 ok3 rep3 => ?_⟩
  obtain ⟨n, t, ks, rfl, h0, hk, hl, q⟩ := gPut_run run3
  cases rep2.ex ex3 with
  | @ref _ a ha =>
    have ng : MO.dct t ks ≠ .gone := fun z => by cases z
    have rv := (rep1.ex ex2).ex ex3
    have x3 := x2.trans ex3
    cases t with
    | false =>
      obtain ⟨kvs, h1, h2⟩ := ok3.at_ n _ _ h0 ha
      obtain ⟨w, hw⟩ := Option.isSome_iff_exists.mp hk
      have ex := set_ex (o := .dK (putK kvs w v)) (m' := .dct false (dputL ks k dv)) ok3 ha h0 ng
      refine ⟨a, _, rfl, .inl ⟨kvs, w, h1, key_rep rep3 hw, by rw [← repK_len h2]; exact hl, rfl⟩, ?_⟩
      exact q σ S3 _ (x3.trans ex) (set_ok ok3 ha h0 ng (fun z => by cases z) ⟨_, upd_same, repK_put hw (rv.ex ex) (h2.ex ex)⟩) (rs.ex (x3.trans ex))
    | true =>
      obtain ⟨kvs, h1, h2⟩ := ok3.at_ n _ _ h0 ha
      obtain ⟨w, hw⟩ := Option.isSome_iff_exists.mp hk
      obtain ⟨b, rfl, hb⟩ := keyT_rep rep3 hw
      have ex := set_ex (o := .dT (putK kvs w v)) (m' := .dct true (dputL ks k dv)) ok3 ha h0 ng
      refine ⟨a, _, rfl, .inr ⟨kvs, w, b, h1, rfl, hb, by rw [← repT_len h2]; exact hl, rfl⟩, ?_⟩
      exact q σ S3 _ (x3.trans ex) (set_ok ok3 ha h0 ng (fun z => by cases z) ⟨_, upd_same, repT_put hw (rv.ex ex) (h2.ex ex)⟩) (rs.ex (x3.trans ex))
end
end DL

namespace DL
open PySem PySem.Spec PyProof.Rows L2 Kit

section
variable {X : Cx} {dk : DK} {c : LC X.K dk} {e o : Expr} {es : List Expr} {f g : DS → W D} {fs : DS → W (List D)} {pos p apos : Pos}
theorem dv (i : Nat) {x : Str} (hN : X.N[i]? = some x := by rfl) (hv : Vis X.env.scope x := by first | exact Or.inl rfl | exact Or.inr (Or.inl rfl) | exact Or.inr (Or.inr rfl)) (hd : (x == ("__debug__" : Str)) = false := by decide)
    (hcd : (x == ("__classdict__" : Str)) = false := by decide) : PE X (.Name x p) (lowE X.K dk c (dV i)) := de_v hN hv hd hcd
/-- a starred argument -/
def seqOf : D → W (List D)
  | .tup xs => W.ret xs
  | .ktp xs => W.ret xs
  | .lst xs => W.ret xs
  | _ => W.fail
def aStar (f : DS → W D) (g : DS → W (List D)) : DS → W (List D) := fun ε => W.bnd (f ε) fun d => W.bnd (see d) fun d => W.bnd (seqOf d) fun xs => W.bnd (g ε) fun ds => W.ret (xs ++ ds)
theorem da_star (he : PE X e (lowE X.K dk c f)) (hr : PA X es (lowA X.K dk c fs)) (hs : starEach (.Starred e p :: es) X.env = (true, eval e X.env) :: starEach es X.env := by rfl) : PA X (.Starred e p :: es) (lowA X.K dk c (aStar f fs)) :=
  pa_w (StX.pa_star he hr hs) fun σ H Q ⟨ε, S, μ, lk, ok, rs, run⟩ => by
    refine ⟨ε, S, μ, lk, ok, rs, W.up run fun d μ1 run1 x S1 H1 ex1 ok1 rep1 => ?_⟩
    obtain ⟨d', vw, q⟩ := see_vw ok1 rep1 (Q := fun d μ' => (W.bnd (seqOf d) fun xs => W.bnd (fs ε) fun ds => W.ret (xs ++ ds)).run (PostA X.K dk S μ H Q) c.E μ') run1
    have go : ∀ (xs : List D) (vs : List V), RepA X.K S1 μ1 H1 xs vs → ((fs ε).bnd fun ds => W.ret (xs ++ ds)).run (PostA X.K dk S μ H Q) c.E μ1 → lowA X.K dk c fs σ H1 fun ys H2 => Q (vs ++ ys) H2 :=
      fun xs vs r q => ⟨ε, S1, μ1, c.up lk ex1, ok1, rs.ex ex1, W.up (m := fs ε) q fun ds μ2 run2 ys S2 H2 ex2 ok2 rep2 => run2 _ S2 H2 (ex1.trans ex2) ok2 ((r.ex ex2).app rep2)⟩
    cases d' with
    | tup xs =>
      rcases vw with _ | _ | _ | _ | _ | _ | @⟨_, a, vs, hx, rx⟩
      exact ⟨a, vs, rfl, .inl hx.sq, go _ _ rx q⟩
    | ktp xs =>
      rcases vw with _ | _ | _ | _ | _ | _ | _ | _ | @⟨_, a, vs, hx, rx⟩
      exact ⟨a, vs, rfl, .inl (kt_sq hx), go _ _ rx q⟩
    | lst xs =>
      obtain ⟨a, vs, rfl, hx, rx⟩ := vw
      exact ⟨a, vs, rfl, .inr (.inl (.inl hx)), go _ _ rx q⟩
    | _ => exact q.elim
/-! ### truth -/
def truD : D → W Bool
  | .non => W.ret false
  | .bl b => W.ret b
  | .int i => W.ret (i != 0)
  | .str z => W.chk (z.length ≤ sizeLine) (W.ret ((z.length : Int) != 0))
  | .tup xs => W.ret (!xs.isEmpty)
  | .ktp xs => W.ret (!xs.isEmpty)
  | .lst xs => W.ret (!xs.isEmpty)
  | .dct false ks => W.ret (!ks.isEmpty)
  | _ => W.fail
def dTru (f : DS → W D) : DS → W Bool := fun ε => W.bnd (f ε) fun d => W.bnd (see d) truD
theorem empty_rep {K : PySem.W.Frag} {S : Pl} {μ : Mu} {H : Hp} {ds : List D} {vs : List V} (r : RepA K S μ H ds vs) : vs.isEmpty = ds.isEmpty := by
  cases r <;> rfl
theorem tru_vw {K : PySem.W.Frag} {S : Pl} {μ : Mu} {H : Hp} {d : D} {v : V} (r : Vw K S μ H d v) {Q : Bool → Mu → Prop} {E : Exn → Mu → Prop} {μ' : Mu} (q : (truD d).run Q E μ') : ∃ k, TruV K v H k ∧ Q k μ' := by
  cases d with
  | non => cases r; exact ⟨_, rfl, q⟩
  | bl b => cases r; exact ⟨_, rfl, q⟩
  | int i => cases r; exact ⟨_, rfl, q⟩
  | str z => cases r; exact ⟨_, ⟨q.1, rfl⟩, q.2⟩
  | tup xs =>
    rcases r with _ | _ | _ | _ | _ | _ | @⟨_, a, vs, hx, rx⟩
    exact ⟨_, .inr (.inl ⟨vs, hx.sq, rfl⟩), by rw [empty_rep rx]; exact q⟩
  | ktp xs =>
    rcases r with _ | _ | _ | _ | _ | _ | _ | _ | @⟨_, a, vs, hx, rx⟩
    exact ⟨_, .inr (.inl ⟨vs, kt_sq hx, rfl⟩), by rw [empty_rep rx]; exact q⟩
  | lst xs =>
    obtain ⟨a, vs, rfl, hx, rx⟩ := r
    exact ⟨_, .inl ⟨vs, .inl (.inl hx), rfl⟩, by rw [empty_rep rx]; exact q⟩
  | dct b ks =>
    cases b with
    | false =>
      obtain ⟨a, kvs, rfl, hx, rx⟩ := r
      refine ⟨_, .inr (.inr ⟨kvs, hx, rfl⟩), ?_⟩
      have e : kvs.isEmpty = ks.isEmpty := by cases rx <;> rfl
      rw [e]
      exact q
    | true => exact q.elim
  | _ => exact q.elim
theorem dt_tru (ha : PE X e (lowE X.K dk c f)) (he : ∀ whole, isTrue e X.env whole = (do let v ← whole; standAt e.pos; holding [v] (truthy v))) : PT X e (lowT X.K dk c (dTru f)) :=
  pt_w (pt_truth ha he) fun σ H Q ⟨ε, S, μ, lk, ok, rs, run⟩ => by
    refine ⟨ε, S, μ, lk, ok, rs, W.up run fun d μ1 run1 v S1 H1 ex1 ok1 rep1 => ?_⟩
    obtain ⟨d', vw, q⟩ := see_vw ok1 rep1 (Q := fun d μ' => (truD d).run (PostB X.K dk S μ H Q) c.E μ') run1
    obtain ⟨k, h1, h2⟩ := tru_vw vw q
    exact ⟨k, h1, h2 S1 H1 ex1 ok1⟩
def dNotT (f : DS → W D) : DS → W D := fun ε => W.bnd (f ε) fun d => W.bnd (see d) fun d => W.bnd (truD d) fun b => W.ret (.bl (!b))
theorem de_notT (ha : PE X e (lowE X.K dk c f)) : PE X (.UnaryOp .Not e pos) (lowE X.K dk c (dNotT f)) :=
  pe_w (pe_notT ha) fun σ H Q ⟨ε, S, μ, lk, ok, rs, run⟩ => by
    refine ⟨ε, S, μ, lk, ok, rs, W.up run fun d μ1 run1 v S1 H1 ex1 ok1 rep1 => ?_⟩
    obtain ⟨d', vw, q⟩ := see_vw ok1 rep1 (Q := fun d μ' => (W.bnd (truD d) fun b => W.ret (D.bl (!b))).run (Post X.K dk S μ H Q) c.E μ') run1
    obtain ⟨k, h1, h2⟩ := tru_vw vw (Q := fun b μ' => Post X.K dk S μ H Q (.bl (!b)) μ') q
    exact ⟨k, h1, h2 _ S1 H1 ex1 ok1 (.bl _)⟩
/-! ### chains -/
def dChain (r1 r2 : D → D → W D) (f g h : DS → W D) : DS → W D := fun ε => W.bnd (f ε) fun x => W.bnd (g ε) fun y => W.bnd (r1 x y) fun z => W.bnd (asB z) fun b => if b = true then W.bnd (h ε) fun w => r2 y w else W.ret (.bl false)
variable {op op' : CmpOp} {a b d : Expr} {h : DS → W D}
theorem de_chain {r r' : R2} {k k' : D → D → W D} (ho : OpR X (compareOp op) r) (ho' : OpR X (compareOp op') r') (l : LR2 X.K dk r k) (l' : LR2 X.K dk r' k') (ha : PE X a (lowE X.K dk c f)) (hb : PE X b (lowE X.K dk c g)) (hd : PE X d (lowE X.K dk c h))
    (hm : lastMarks [op, op'] [b, d] = false := by rfl) :
    PE X (.Compare a [op, op'] [b, d] pos) (lowE X.K dk c (dChain k k' f g h)) :=
  pe_w (pe_chain ho ho' ha hb hd hm) fun σ H Q ⟨ε, S, μ, lk, ok, rs, run⟩ => by
    refine ⟨ε, S, μ, lk, ok, rs, W.up run fun dx μ1 run1 x S1 H1 ex1 ok1 rep1 => ?_⟩
    refine ⟨ε, S1, μ1, c.up lk ex1, ok1, rs.ex ex1, W.up run1 fun dy μ2 run2 y S2 H2 ex2 ok2 rep2 => ?_⟩
    have x2 := ex1.trans ex2
    refine l ok2 (rep1.ex ex2) rep2 (W.up (m := k dx dy) run2 fun dz μ3 run3 z S3 H3 ex3 ok3 rep3 => ?_)
    have x3 := x2.trans ex3
    cases dz with
    | bl t =>
      cases rep3
      refine ⟨t, rfl, ?_⟩
      cases t with
      | false => exact run3 _ S3 H3 x3 ok3 (.bl false)
      | true => exact ⟨ε, S3, μ3, c.up lk x3, ok3, rs.ex x3, W.up (m := h ε) run3 fun dw μ4 run4 w S4 H4 ex4 ok4 rep4 => l' ok4 ((rep2.ex ex3).ex ex4) rep4 (W.up run4 fun _ _ q => q.ex (x3.trans ex4))⟩
    | _ => exact run3.elim
/-! ### methods -/
theorem de_append (ho : PE X o (lowE X.K dk c f)) (ha : PA X [e] (lowA X.K dk c fs)) (hbase : attributeBase o "append" X.env (eval o X.env) = eval o X.env := by rfl)
    (hfew : ((backTo pos (starEach [e] X.env)).all (fun x => !x.1) && (backToKw pos (keywordEach [] X.env)).all (fun x => x.1.isSome)
      && decide ([e].length + ([] : List Keyword).length + (if ([] : List Keyword).isEmpty then 0 else 1) < 30)) = true := by rfl)
    (hline : (apos.endLine == pos.line) = true := by rfl) (hs : starEach [e] X.env = (false, eval e X.env) :: starEach [] X.env := by rfl) (hplain : (backTo pos (starEach [] X.env)).any (·.1) = false := by rfl) :
    PE X (.Call (.Attribute o "append" apos) [e] [] pos) (lowE X.K dk c (dMet gAppend f fs)) :=
  pe_w (pe_bm PySem.F.plainAttrs_list PySem.F.slot_list_append PySem.F.type_list_append mt_append ho ha hbase hfew hline hs hplain) fun _ _ _ q => low_met l_append q
theorem de_popAt (ho : PE X o (lowE X.K dk c f)) (ha : PA X [e] (lowA X.K dk c fs)) (hbase : attributeBase o "pop" X.env (eval o X.env) = eval o X.env := by rfl)
    (hfew : ((backTo pos (starEach [e] X.env)).all (fun x => !x.1) && (backToKw pos (keywordEach [] X.env)).all (fun x => x.1.isSome)
      && decide ([e].length + ([] : List Keyword).length + (if ([] : List Keyword).isEmpty then 0 else 1) < 30)) = true := by rfl)
    (hline : (apos.endLine == pos.line) = true := by rfl) (hs : starEach [e] X.env = (false, eval e X.env) :: starEach [] X.env := by rfl) (hplain : (backTo pos (starEach [] X.env)).any (·.1) = false := by rfl) :
    PE X (.Call (.Attribute o "pop" apos) [e] [] pos) (lowE X.K dk c (dMet gPopAt f fs)) :=
  pe_w (pe_bm PySem.F.plainAttrs_list PySem.F.slot_list_pop PySem.F.type_list_pop mt_popAt ho ha hbase hfew hline hs hplain) fun _ _ _ q => low_met l_popAt q
theorem de_pop (ho : PE X o (lowE X.K dk c f)) (hbase : attributeBase o "pop" X.env (eval o X.env) = eval o X.env := by rfl) (hline : (apos.endLine == pos.line) = true := by rfl) :
    PE X (.Call (.Attribute o "pop" apos) [] [] pos) (lowE X.K dk c (dMet gPop f aNil)) :=
  pe_w (pe_bm0 PySem.F.plainAttrs_list PySem.F.slot_list_pop PySem.F.type_list_pop mt_pop ho hbase hline) fun _ _ _ q => low_met0 l_pop q
/-- xs.index(y) -/
def indexD (y : D) : D → W D
    | .lst xs => W.bnd (W.opt (pyL xs)) fun ps => W.bnd (pyW y) fun q => W.chk (SeqAt.shaped (.list ps) = true ∧ SeqAt.shaped q = true) (W.bnd (W.opt (ps.findIdx? fun z => PyData.eqv z q)) fun j => W.ret (.int (j : Nat)))
    | _ => W.fail
def gIndex : D → List D → W D
  | x, [y] => W.bnd (see x) (indexD y)
  | _, _ => W.fail
theorem l_index {K : PySem.W.Frag} : LM K dk (rIndexD K) gIndex := fun {x dx xs ds S μ H Q E} ok rx rs q => by
  cases rs with
  | nil => exact q.elim
  | @cons dy y _ _ ry t =>
    cases t with
    | cons _ _ => exact q.elim
    | nil =>
      obtain ⟨d', vw, q⟩ := see_vw ok rx (Q := fun x μ' => (indexD dy x).run (Post K dk S μ H Q) E μ') q
      cases d' with
      | lst zs =>
        have q : ((W.opt (pyL zs)).bnd fun ps => W.bnd (pyW dy) fun q => W.chk (SeqAt.shaped (.list ps) = true ∧ SeqAt.shaped q = true) (W.bnd (W.opt (ps.findIdx? fun z => PyData.eqv z q)) fun j => W.ret (D.int (j : Nat)))).run (Post K dk S μ H Q) E μ := q
        cases hp : pyL zs with
        | none => rw [hp] at q; exact q.elim
        | some ps =>
          rw [hp] at q
          obtain ⟨p2, h2, q⟩ := pyW_run (Q := fun q μ' => (W.chk (SeqAt.shaped (.list ps) = true ∧ SeqAt.shaped q = true) (W.bnd (W.opt (ps.findIdx? fun z => PyData.eqv z q)) fun j => W.ret (D.int (j : Nat)))).run (Post K dk S μ H Q) E μ') q
          obtain ⟨⟨s1, s2⟩, q⟩ := q
          have q : ((W.opt (ps.findIdx? fun z => PyData.eqv z p2)).bnd fun j => W.ret (D.int (j : Nat))).run (Post K dk S μ H Q) E μ := q
          cases hj : ps.findIdx? fun z => PyData.eqv z p2 with
          | none => rw [hj] at q; exact q.elim
          | some j =>
            rw [hj] at q
            obtain ⟨hl, hj1, hj2⟩ := List.findIdx?_eq_some_iff_getElem.mp hj
            obtain ⟨a, vs, rfl, hx, rx2⟩ := vw
            refine ⟨a, y, p2, ps, j, ps[j], rfl, rfl, .lst (.inl (.inl hx)) (pyL_dp rx2 hp), py_dp ry h2, s1, s2, List.getElem?_eq_getElem hl, hj1, fun m z hm hz => ?_, q _ S H Ex.refl ok (.int _)⟩
            obtain ⟨hl2, rfl⟩ := List.getElem?_eq_some_iff.mp hz
            have := hj2 m hm
            simpa using this
      | _ => exact q.elim
theorem de_index (hu : X.A.units + 65 < cLine) (ho : PE X o (lowE X.K dk c f)) (ha : PA X [e] (lowA X.K dk c fs)) (hbase : attributeBase o "index" X.env (eval o X.env) = eval o X.env := by rfl)
    (hfew : ((backTo pos (starEach [e] X.env)).all (fun x => !x.1) && (backToKw pos (keywordEach [] X.env)).all (fun x => x.1.isSome)
      && decide ([e].length + ([] : List Keyword).length + (if ([] : List Keyword).isEmpty then 0 else 1) < 30)) = true := by rfl)
    (hline : (apos.endLine == pos.line) = true := by rfl) (hs : starEach [e] X.env = (false, eval e X.env) :: starEach [] X.env := by rfl) (hplain : (backTo pos (starEach [] X.env)).any (·.1) = false := by rfl) :
    PE X (.Call (.Attribute o "index" apos) [e] [] pos) (lowE X.K dk c (dMet gIndex f fs)) :=
  pe_w (pe_bm PySem.F.plainAttrs_list PySem.F.slot_list_index PySem.F.type_list_index (mt_indexD hu) ho ha hbase hfew hline hs hplain) fun _ _ _ q => low_met l_index q
/-! texts -/
def strsD : List D → Option (List Str)
  | [] => some []
  | .str z :: r => (strsD r).map (z :: ·)
  | _ :: _ => none
def gJoin (d x : D) : W D := match d with
  | .str z => W.bnd (see x) fun x => W.bnd (seqOf x) fun xs => W.bnd (W.opt (strsD xs)) fun ys => W.chk ((ys.map (·.length)).sum + ys.length * z.length ≤ 16777216) (W.ret (.str (Txt.join z ys)))
  | _ => W.fail
theorem strs_rep {K : PySem.W.Frag} {S : Pl} {μ : Mu} {H : Hp} : ∀ {ds : List D} {vs : List V} {ys : List Str}, RepA K S μ H ds vs → strsD ds = some ys → vs = ys.map V.str
  | _, _, _, .nil, h => by cases h; rfl
  | d :: ds, _, _, .cons r t, h => by
    cases d <;> first | (cases h; done) | skip
    cases r
    simp only [strsD] at h
    obtain ⟨bs, h1, rfl⟩ := map_inv h
    rw [strs_rep t h1]
    rfl
def dJoin (f g : DS → W D) : DS → W D := fun ε => W.bnd (f ε) fun d => W.bnd (isS d) fun _ => W.bnd (g ε) fun x => gJoin d x
where isS : D → W Unit
  | .str _ => W.ret ()
  | _ => W.fail
theorem de_join (ho : PE X o (lowE X.K dk c f)) (he : PE X e (lowE X.K dk c g)) (hs : starEach [e] X.env = [(false, eval e X.env)] := by rfl) (hbase : attributeBase o "join" X.env (eval o X.env) = eval o X.env := by rfl) (hline : (apos.endLine == pos.line) = true := by rfl) :
    PE X (.Call (.Attribute o "join" apos) [e] [] pos) (lowE X.K dk c (dJoin f g)) := pe_w (pe_join ho he hs hbase hline) fun σ H Q ⟨ε, S, μ, lk, ok, rs, run⟩ => by
  refine ⟨ε, S, μ, lk, ok, rs, W.up run fun d μ1 run1 v S1 H1 ex1 ok1 rep1 => ?_⟩
  cases d with
  | str z =>
    cases rep1
    refine ⟨⟨z, rfl⟩, ε, S1, μ1, c.up lk ex1, ok1, rs.ex ex1, W.up (m := g ε) run1 fun x μ2 run2 y S2 H2 ex2 ok2 rep2 => ?_⟩
    obtain ⟨d', vw, q⟩ := see_vw ok2 rep2 (Q := fun x μ' => (W.bnd (seqOf x) fun xs => W.bnd (W.opt (strsD xs)) fun ys => W.chk ((ys.map (·.length)).sum + ys.length * z.length ≤ 16777216) (W.ret (D.str (Txt.join z ys)))).run (Post X.K dk S μ H Q) c.E μ') run2
    have go : ∀ (xs : List D) (vs : List V) (a : Addr), RepA X.K S2 μ2 H2 xs vs → (SqL X.K H2 a vs ∨ SqT X.K H2 a vs) → ((W.opt (strsD xs)).bnd fun ys => W.chk ((ys.map (·.length)).sum + ys.length * z.length ≤ 16777216) (W.ret (.str (Txt.join z ys)))).run (Post X.K dk S μ H Q) c.E μ2 →
        ∃ a' p, ∃ ys : List Str, (.str z : V) = .str a' ∧ [V.ref a] = [.ref p] ∧ (SqL X.K H2 p (ys.map V.str) ∨ SqT X.K H2 p (ys.map V.str)) ∧ (ys.map (·.length)).sum + ys.length * a'.length ≤ 16777216 ∧ Q (.str (Txt.join a' ys)) H2 := fun xs vs a r h q => by
      cases hy : strsD xs with
      | none => rw [hy] at q; exact q.elim
      | some ys =>
        rw [hy] at q
        rw [strs_rep r hy] at h
        exact ⟨z, a, ys, rfl, rfl, h, q.1, q.2 _ S2 H2 (ex1.trans ex2) ok2 (.str _)⟩
    cases d' with
    | tup xs =>
      rcases vw with _ | _ | _ | _ | _ | _ | @⟨_, a, vs, hx, rx⟩
      exact go _ _ _ rx (.inr hx.sq) q
    | ktp xs =>
      rcases vw with _ | _ | _ | _ | _ | _ | _ | _ | @⟨_, a, vs, hx, rx⟩
      exact go _ _ _ rx (.inr (kt_sq hx)) q
    | lst xs =>
      obtain ⟨a, vs, rfl, hx, rx⟩ := vw
      exact go _ _ _ rx (.inl (.inl (.inl hx))) q
    | _ => exact q.elim
  | _ => exact run1.elim
/-- a text's method of one argument -/
def dM1 (g1 : Str → D → W D) (f g : DS → W D) : DS → W D := fun ε => W.bnd (f ε) fun d => W.bnd (dJoin.isS d) fun _ => W.bnd (g ε) fun x => match d with
  | .str z => g1 z x
  | _ => W.fail
theorem low_m1 {r : V → List V → Hp → VK → Prop} {g1 : Str → D → W D} (l : ∀ {z : Str} {y : V} {dy : D} {S : Pl} {μ : Mu} {H : Hp} {Q : VK} {E : Exn → Mu → Prop}, Ok X.K dk.p S μ H → Rep X.K S μ H dy y → (g1 z dy).run (Post X.K dk S μ H Q) E μ → r (.str z) [y] H Q)
    {σ : L2.St} {H : Hp} {Q : VK} (q : lowE X.K dk c (dM1 g1 f g) σ H Q) : tM1 r (lowE X.K dk c f) (lowE X.K dk c g) σ H Q := by
  obtain ⟨ε, S, μ, lk, ok, rs, run⟩ := q
  refine ⟨ε, S, μ, lk, ok, rs, W.up run fun d μ1 run1 v S1 H1 ex1 ok1 rep1 => ?_⟩
  cases d with
  | str z =>
    cases rep1
    exact ⟨⟨z, rfl⟩, ε, S1, μ1, c.up lk ex1, ok1, rs.ex ex1, W.up (m := g ε) run1 fun x μ2 run2 y S2 H2 ex2 ok2 rep2 => l ok2 rep2 (W.up (m := g1 z x) run2 fun _ _ q => q.ex (ex1.trans ex2))⟩
  | _ => exact run1.elim
def gSplit (z : Str) : D → W D
  | .str b => W.chk ((b.length == 0) = false ∧ z.length + 2 ≤ sizeLine) (W.ret (.lst ((Txt.split z b).map D.str)))
  | _ => W.fail
theorem rep_strs {K : PySem.W.Frag} {S : Pl} {μ : Mu} {H : Hp} : ∀ {ys : List Str}, RepA K S μ H (ys.map D.str) (ys.map V.str)
  | [] => .nil
  | _ :: _ => .cons (.str _) rep_strs
theorem de_split (ho : PE X o (lowE X.K dk c f)) (he : PE X e (lowE X.K dk c g)) (hs : starEach [e] X.env = [(false, eval e X.env)] := by rfl) (hbase : attributeBase o "split" X.env (eval o X.env) = eval o X.env := by rfl) (hline : (apos.endLine == pos.line) = true := by rfl) :
    PE X (.Call (.Attribute o "split" apos) [e] [] pos) (lowE X.K dk c (dM1 gSplit f g)) := pe_w (pe_split ho he hs hbase hline) fun _ _ _ q => low_m1 (fun {z y dy S μ H Q E} ok ry q => by
  unfold gSplit at q
  split at q
  · cases ry
    exact ⟨z, _, rfl, rfl, q.1.1, q.1.2, fun p hp => q.2 (.ref p) S _ (new_ex ok hp) (new_ok ok hp) (new_lst ok hp rep_strs)⟩
  · exact q.elim) q
end
end DL

/-! exceptions of own classes as plain values: made by places or names, their fields, what they are -/
namespace PySem
namespace Ex4
open PySem.W PySem.Calls PyProof.Rows PySem.HandSPX
open Builtin Builtin.ObjectAttr

section
variable {M : Model} {prog : Program} {w : World} {A : Around} {E : Value → Shared → Prop} {R : Result → Shared → Prop} {h : Heap} {g : Array GenState} {d : Drawn} {t : Nat} {os : OsState}
variable {nm q : Str} {C N : Addr} {bs bm bmB : List Value} {hdct : Bool} {sn : List Str} {sub : List Value} {ab : Bool} {col : Option Bool} {dd : Option Addr} {k0 k1 k2 k3 k5 : Option Value} {B newId initId : String}

theorem chk_new (F : ExcBaseFacts B newId initId bmB) (hT : bm.contains (.type B) = true ∧ bm.contains (.type "AttributeError") = false ∧ bm.contains (.type "NameError") = false) {rest : List Value} {kws : List (Str × Value)} {Q : Unit → Shared → Prop}
    (hC : h.get? C = some (excClassObj nm q C N bs bm hdct sn sub ab col dd k0 k1 k2 k3 k5 newId)) (hq : Q () ⟨h, g, d, t, os⟩) :
    wpAny M A (checkBuiltinCall newId ⟨.ref C :: rest, kws⟩) Q E ⟨h, g, d, t, os⟩ := by
  have c1 : (Value.ref C :: bm).contains (.type B) = true := by rw [List.contains_cons, hT.1, Bool.or_true]
  have c2 := F.noStar
  simp only [checkBuiltinCall, F.newKind, F.newSplit, F.newRow]
  repeat (first
    | refine wpAny_loadPart_at hC ?_
    | (refine wpAny_isSubtype_exc hC ?_
       rw [c1])
    | refine wpAny_staticBase_exc hC ?_
    | refine wpAny_madeBy_exc hC ?_
    | simp only [bne_self_eq_false, Bool.false_eq_true, if_false]
    | wp_step)
  exact hq

theorem chk_call {rest : List Value} {kws : List (Str × Value)} {Q : Unit → Shared → Prop}
    (hC : h.get? C = some (excClassObj nm q C N bs bm hdct sn sub ab col dd k0 k1 k2 k3 k5 newId)) (hq : Q () ⟨h, g, d, t, os⟩) :
    wpAny M A (checkBuiltinCall "type.__call__" ⟨.ref C :: rest, kws⟩) Q E ⟨h, g, d, t, os⟩ := by
  have c1 := tc_sub
  have c2 : (⟨h, g, d, t, os⟩ : Shared).TypeIs (.ref C) "type" := ⟨_, hC, rfl⟩
  simp only [checkBuiltinCall, tc_kind, tc_split]
  repeat (any_goals (first
    | assumption
    | with_reducible refine wpAny_loadPart_at hC ?_
    | with_reducible refine wpAny_onRaise ?_
    | with_reducible refine wpAny_map ?_
    | wp_step))

theorem new_kw (F : ExcBaseFacts B newId initId bmB) (hT : bm.contains (.type B) = true ∧ bm.contains (.type "AttributeError") = false ∧ bm.contains (.type "NameError") = false) {rest : List Value} {kws : List (Str × Value)}
    (hC : h.get? C = some (excClassObj nm q C N bs bm hdct sn sub ab col dd k0 k1 k2 k3 k5 newId)) (hz : rest.length ≤ sizeLine)
    (hq : R (.ok (.ret (.ref (h.objs.size + 1)))) ⟨(h.push (W.kdv_tup rest)).push (excO C h.objs.size), g, d, t, os⟩) :
    codeAny (model prog w) A (.builtin newId ⟨.ref C :: rest, kws⟩) R ⟨h, g, d, t, os⟩ := by
  have c0 := F.ends
  have c1 : (Value.ref C :: bm).contains (.type B) = true := by rw [List.contains_cons, hT.1, Bool.or_true]
  have c2 : (Value.ref C :: bm).contains (.type "AttributeError") = false := by rw [List.contains_cons, hT.2.1] <;> rfl
  have c3 : (Value.ref C :: bm).contains (.type "NameError") = false := by rw [List.contains_cons, hT.2.2] <;> rfl
  apply codeAny_builtinAt F.entry
  unfold Builtin.«BaseException.__new__»
  apply wpAt_bind
  change wpAt _ _ _ (stack >>= _) _ _ _
  refine wpAt_bind (wpAt_stack fun _ _ => wpAt_of_wpAny ?_)
  wp_walk
  apply wpAt_of_wpAny
  rw [F.owner]
  repeat (first
    | with_reducible refine wpAny_madeHere_exc F.canon hC ?_
    | with_reducible refine wpAny_loadPart_at hC ?_
    | (with_reducible refine wpAny_isSubtype_exc hC ?_
       first | rw [c1] | rw [c2] | rw [c3])
    | wp_step)
  change R _ _
  rw [Heap.size_push]
  exact hq

theorem type_kw (F : ExcBaseFacts B newId initId bmB) (hT : bm.contains (.type B) = true ∧ bm.contains (.type "AttributeError") = false ∧ bm.contains (.type "NameError") = false) {rest : List Value} {kws : List (Str × Value)} {fI : Addr} {Q : Fin → Shared → Prop}
    (hC : h.get? C = some (excClassObj nm q C N bs bm hdct sn sub ab col dd k0 k1 k2 k3 k5 newId)) (hz : rest.length ≤ sizeLine)
    (hi : W.Looks (model prog w) h (typeLookup (.ref C) "__init__") (some (.ref fI))) (hb : ∀ self, W.Looks (model prog w) h (bindSpecial (.ref fI) self) (.ref fI, [self]))
    (hq : codeAny (model prog w) A (.call (.ref fI) ⟨.ref (h.objs.size + 1) :: rest, kws⟩)
      (fun r s' => match r with | .ok (.ret v) => v = .none ∧ Q (.done (.ret (.ref (h.objs.size + 1)))) s' | .ok _ => False | .error e => E e s')
      ⟨(h.push (W.kdv_tup rest)).push (excO C h.objs.size), g, d, t, os⟩) :
    wpAny (model prog w) A (Builtin.«type.__call__» ⟨.ref C :: rest, kws⟩) Q E ⟨h, g, d, t, os⟩ := by
  repeat (first
    | with_reducible refine wpAny_loadPart_at hC ?_
    | with_reducible refine wpAny_madeBy_exc hC ?_
    | wp_step)
  refine codeAny_call_builtin_code (Code.quiet_builtin _ F.quiet) (chk_new F hT hC (new_kw F hT hC hz ?_))
  change wpAny _ _ _ _ _ _
  have kp : ∀ b o, h.get? b = some o → ((h.push (W.kdv_tup rest)).push (excO C h.objs.size)).get? b = some o :=
    fun b o e => Heap.get?_push_of_some _ (Heap.get?_push_of_some _ e)
  have C2 := kp _ _ hC
  have e2 : ((h.push (W.kdv_tup rest)).push (excO C h.objs.size)).get? (h.objs.size + 1) = some (excO C h.objs.size) := by heap_get
  have m2 : (Value.ref C :: bm).contains (.ref C) = true := by simp
  have i2 := hi.keeps kp
  have b2 := (hb (.ref (h.objs.size + 1))).keeps kp
  unfold isInstance
  repeat (first
    | with_reducible refine wpAny_loadPart_at e2 ?_
    | (with_reducible refine wpAny_isSubtype_exc C2 ?_
       rw [m2])
    | wp_step)
  change wpAny _ _ (typeLookup (.ref C) _) _ _ _
  refine i2.at (wpAny_holding (wpAny_bind (b2.at (wpAny_bind (wpAny_call (codeAny_mono hq ?_))))))
  intro r s' z
  match r, z with
  | .error e, z => exact z
  | .ok .next, z => exact False.elim z
  | .ok .brk, z => exact False.elim z
  | .ok .cont, z => exact False.elim z
  | .ok (.ret v), z =>
    obtain ⟨rfl, z⟩ := z
    first
      | exact wpAny_pure (wpAny_pure z)
      | (wp_walk
         exact z)

theorem call_kw (F : ExcBaseFacts B newId initId bmB) (hT : bm.contains (.type B) = true ∧ bm.contains (.type "AttributeError") = false ∧ bm.contains (.type "NameError") = false) {rest : List Value} {kws : List (Str × Value)} {fI : Addr}
    (hC : h.get? C = some (excClassObj nm q C N bs bm hdct sn sub ab col dd k0 k1 k2 k3 k5 newId)) (hz : rest.length ≤ sizeLine)
    (hi : W.Looks (model prog w) h (typeLookup (.ref C) "__init__") (some (.ref fI))) (hb : ∀ self, W.Looks (model prog w) h (bindSpecial (.ref fI) self) (.ref fI, [self]))
    (hq : codeAny (model prog w) (A.under (.builtin "type.__call__" ⟨.ref C :: rest, kws⟩)) (.call (.ref fI) ⟨.ref (h.objs.size + 1) :: rest, kws⟩) (W.InitBack (h.objs.size + 1) R)
      ⟨(h.push (W.kdv_tup rest)).push (excO C h.objs.size), g, d, t, os⟩) :
    codeAny (model prog w) A (.call (.ref C) ⟨rest, kws⟩) R ⟨h, g, d, t, os⟩ := by
  have c1 := tc_lookup
  have c2 := tc_bind (.ref C)
  have c3 : (⟨h, g, d, t, os⟩ : Shared).TypeIs (.ref C) "type" := ⟨_, hC, rfl⟩
  apply codeAny_of_tree
  change wpAny _ _ (callAny (.ref C) _) _ _ _
  repeat (any_goals (first
    | assumption
    | with_reducible refine wpAny_loadPart_at hC ?_
    | wp_step))
  refine ⟨rfl, codeAny_call_builtin_at (Code.quiet_builtin _ (by decide +kernel)) entry_typeCall (chk_call hC (type_kw F hT hC hz hi hb (codeAny_mono hq ?_)))⟩
  intro r s' z
  rcases r with e | (v | _ | _ | _) <;> exact z
end
end Ex4
end PySem

namespace PySem.F
theorem store_KeyError : StoreFacts "KeyError" [.type "KeyError", .type "LookupError", .type "Exception", .type "BaseException", .type "object"] "object.__setattr__" "object" where
  mro := by kernel_rfl
  slot := Slot.of (owner := "object") (n := "__setattr__")
    (by rw [typeLookup_type, builtinLookup_eq_fast]
        kernel_rfl)
    (by decide +kernel) (by decide +kernel) (by decide +kernel)
    (by first
          | exact .inl (by decide +kernel)
          | exact .inr (by decide +kernel))
    (by rw [isSubtype_type]
        kernel_rfl)
  entry := entry_object_sa
  kind := by decide +kernel
  split := by decide +kernel
  hasOwner := by decide +kernel
  args := store_ValueError.args
  passes := fun self => by kernel_rfl
end PySem.F
namespace L2
open PySem PySem.Spec PyProof.Rows
/-- what the written part says of an own class of exceptions that takes fields -/
structure ExK (K : PySem.W.Frag) (C : Addr) : Prop where
  base : ∃ (B S newId initId : String) (bF bmB : List Value), ExcBaseFacts B newId initId bF ∧ StoreFacts S bmB "object.__setattr__" "object" ∧
    (bmB.contains (.type B) = true ∧ bmB.contains (.type "AttributeError") = false ∧ bmB.contains (.type "NameError") = false) ∧
    PySem.W.excInitIn K C bmB newId = true ∧ PySem.W.excOver K C bmB = true
  sa : PySem.W.findIn K (.ref C) "__setattr__" = some (some (.builtin "object.__setattr__"))
  kC : PySem.W.keepIn K (.ref C) = true
  xf : XfC K C
/-- of such classes and those without fields: what isinstance asks -/
structure ExI (K : PySem.W.Frag) (C : Addr) : Prop where
  xf : XfC K C
  ca : PySem.W.findIn K (.ref C) "__class__" = some (some (.builtin "object.__class__"))
  cn : PySem.W.specialIn K (.builtin "object.__class__") "__get__" = some (some (.builtin "getset_descriptor.__get__"))
  ct : PySem.W.takesIn K (.builtin "object.__class__") = some true
  cm : PySem.W.mroIn K C (.type "object") = some true
section
variable {X : Cx} {pins : List (Addr × Obj)} {σ : L2.St} {H : Hp} {s : Shared} {a C dx : Addr} {f : Str} {y : V} {u : Value} {fs : List (Str × V)} {Q : Unit → Shared → Prop} {E : Value → Shared → Prop} {A : Around}
/-- the first field -/
theorem ex_new (T : ExK X.K C) (I : Inv X pins σ H s) (e : H a = some (exo a C none)) (hno : PySem.W.takerIn X.K C f = some none) (ry : RelV y u)
    (h : ∀ dx s', H dx = none → dx ≠ a → Inv X pins σ (upd (upd H dx (exd dx [(f, y)])) a (exo a C (some dx))) s' → Q () s') : wpAny (model X.prog X.w) A (setAttr (.ref a) f u) Q E s := by
  obtain ⟨B, S, newId, initId, bF, bmB, _, SF, _, _, hov⟩ := T.base
  obtain ⟨cd, hcl, hdd⟩ := PySem.W.any_some T.xf.hdC
  obtain ⟨t1, ho⟩ := exo_at I.hok e
  obtain ⟨hp, g, d, t, os⟩ := s
  have lt := Heap.lt_size ho
  refine PySem.W.set_plain I.kIn (od := none) ⟨ho, rfl, rfl, trivial⟩ T.sa (PySem.W.osa_openX (od := none) SF I.kIn ⟨ho, rfl, rfl, trivial⟩ hov hno fun b => ?_)
  have Lc : PySem.W.Looks (model X.prog X.w) hp (classData C) cd := PySem.W.looks_clsIn I.kIn hcl
  refine wpAny_bind (wpAny_pure (wpAny_bind (PySem.W.instanceDict_exc (s := ⟨hp, g, d, t + 1, os⟩) (c2 := .none) ho Lc hdd ?_)))
  have D0 : ((hp.push (PySem.W.dictOf [] 0)).update a fun o => { o with dict := some hp.objs.size }).Ns hp.objs.size (fun _ => none) :=
    ⟨_, #[], _, (Heap.get?_update_ne _ _ _ _ (Nat.ne_of_gt lt)).trans (Heap.get?_push_at rfl rfl), rfl, fun z hz => absurd hz (by simp), fun _ => rfl⟩
  refine PySem.HandSPX.store_in_new D0 fun h' tk' hn' hs => ?_
  have ne : hp.objs.size ≠ a := Nat.ne_of_gt lt
  have n0 : H hp.objs.size = none := I.hok.fresh (Nat.le_refl _)
  have ga : h'.get? a = some { cls := .ref C, dict := some hp.objs.size, data := .fields #[.ref t1, .none, .none, .none, .bool false, .none] } :=
    (hs.2 a (Ne.symm ne)).trans (Heap.get?_update_self _ (Heap.get?_push_of_some _ ho) rfl)
  have gb : ∀ b o, b ≠ a → hp.get? b = some o → h'.get? b = some o := fun b o hb hg =>
    (hs.2 b (Nat.ne_of_lt (Heap.lt_size hg))).trans ((Heap.get?_update_ne _ _ _ _ hb).trans (Heap.get?_push_of_some _ hg))
  have na : ∀ {b : Addr}, H b = none → b ≠ a := fun {b} n z => by
    rw [z, e] at n
    cases n
  have nd : ∀ {b : Addr} {o : Obj}, hp.get? b = some o → b ≠ hp.objs.size := fun {b o} z => Nat.ne_of_lt (Heap.lt_size z)
  refine h hp.objs.size _ n0 ne (I.un (t' := tk') (h' := h') ⟨?_, ?_, ?_, ?_, ?_, ?_, ?_⟩ fun b o q => ?_)
  · exact fun b o z n _ _ => gb b o (na n) z
  · exact fun b o z n _ _ => ⟨o.slots, gb b o (na n) z⟩
  · intro b o z n _
    rw [upd_ne (na n), upd_ne (nd z)]
    exact n
  · intro b o z _
    by_cases hb : b = a
    · subst hb
      exact ⟨_, ga⟩
    · exact ⟨o, gb b o hb z⟩
  · intro b xs z
    rw [upd_ne (at_ne e z exo_tup), upd_ne (ne_of_none z n0)]
    exact z
  · intro b o v z
    rw [upd_ne (at_ne e z exo_frz), upd_ne (ne_of_none z n0)]
    exact z
  · intro b ps z
    refine ⟨#[], ?_⟩
    rw [upd_ne (at_ne e z exo_tbl), upd_ne (ne_of_none z n0), z]
    simp
  · by_cases hb : b = a
    · subst hb
      rw [upd_same] at q
      cases q
      exact exo_ok ga
    · by_cases hd : b = hp.objs.size
      · subst hd
        rw [upd_ne hb, upd_same] at q
        cases q
        exact exd_ok hn' (relO_put (fs := []) ry fun _ => True.intro)
      · rw [upd_ne hb, upd_ne hd] at q
        refine (I.hok b o q).stay (fun c v hc z => gb c v ?_ z) (fun c hc => ?_) (fun c xs hc => ?_)
        · rcases hc with rfl | hc
          · exact hb
          · exact at_ne e hc exo_own
        · rw [upd_ne (at_ne e hc exo_own), upd_ne (ne_of_none hc n0)]
          exact hc
        · rw [upd_ne (at_ne e hc exo_tup), upd_ne (ne_of_none hc n0)]
          exact hc
/-- a further field -/
theorem ex_old (T : ExK X.K C) (I : Inv X pins σ H s) (e : H a = some (exo a C (some dx))) (ed : H dx = some (exd dx fs)) (hl : fs.length ≤ 900) (hno : PySem.W.takerIn X.K C f = some none) (ry : RelV y u)
    (h : ∀ s', Inv X pins σ (upd H dx (exd dx ((f, y) :: fs))) s' → Q () s') : wpAny (model X.prog X.w) A (setAttr (.ref a) f u) Q E s := by
  obtain ⟨B, S, newId, initId, bF, bmB, _, SF, _, _, hov⟩ := T.base
  obtain ⟨cd, hcl, hdd⟩ := PySem.W.any_some T.xf.hdC
  obtain ⟨t1, ho⟩ := exo_at I.hok e
  obtain ⟨mA, hns, rel⟩ := exd_at I.hok ed
  have hw := within_of rel
  obtain ⟨hp, g, d, t, os⟩ := s
  obtain ⟨oD, _, _, hoD, _, _⟩ := hns.count hw
  refine PySem.W.set_plain I.kIn (od := some oD) ⟨ho, rfl, rfl, hoD⟩ T.sa (PySem.W.osa_openX (od := some oD) SF I.kIn ⟨ho, rfl, rfl, hoD⟩ hov hno fun b => ?_)
  have Lc : PySem.W.Looks (model X.prog X.w) hp (classData C) cd := PySem.W.looks_clsIn I.kIn hcl
  refine wpAny_bind (wpAny_pure (wpAny_bind (wpAny_bind (wpAny_loadPart ho (wpAny_bind (Lc.here ?_))))))
  rw [hdd]
  refine wpAny_pure (a := some dx) (PySem.OEX.store_in_old hns hw (by rw [List.length_map]; omega) fun h' tk' hn hs => ?_)
  have there : ∃ o, h'.get? dx = some o := by
    obtain ⟨o, _, _, q, _⟩ := hn
    exact ⟨o, q⟩
  exact h _ (I.write (t' := tk') (h' := h') (x := dx) (e := dx) (o := exd dx ((f, y) :: fs)) (by rw [ed]; exact True.intro) (.inl rfl) (fun b o hb z => (hs.2 b hb).trans z) there (exd_ok hn (relO_put ry rel)))
end
/-- self.f = e in an own __init__ -/
def tExs (K : PySem.W.Frag) (f : Str) (to te : TE) : TS := fun D σ H => te σ H fun y H1 => to σ H1 fun x H2 => ∃ a C : Addr, x = .ref a ∧ ExK K C ∧ PySem.W.takerIn K C f = some none ∧
  ((H2 a = some (exo a C none) ∧ ∀ dx, H2 dx = none → dx ≠ a → D.nx σ (upd (upd H2 dx (exd dx [(f, y)])) a (exo a C (some dx)))) ∨
    ∃ (dx : Addr) (fs : List (Str × V)), H2 a = some (exo a C (some dx)) ∧ H2 dx = some (exd dx fs) ∧ fs.length ≤ 900 ∧ D.nx σ (upd H2 dx (exd dx ((f, y) :: fs))))
section
variable {X : Cx} {o e : Expr} {es : List Expr} {to te : TE} {ta : TA} {f : Str} {p p' p1 p2 pos : Pos}
theorem ps_exs (ho : PE X o to) (he : PE X e te) (hs : swapsWith e (some (.Attribute o f p')) pos.line X.env = pure false := by rfl) : PS X (.Assign [.Attribute o f p'] e pos) (tExs X.K f to te) := by
  constructor
  intro pins s σ H D I h
  refine plainObj_wpAny_Assign_Attribute (thn (he.run pins s σ H _ I h) ?_) hs
  rintro v s1 ⟨y, H1, I1, r1, q1⟩
  refine thn (ho.run pins s1 σ H1 _ I1 q1) ?_
  rintro u s2 ⟨x, H2, I2, r2, a, C, rfl, T, hno, q⟩
  obtain rfl : u = Value.ref a := r2
  rcases q with ⟨ea, q⟩ | ⟨dx, fs, ea, ed, hl, q⟩
  · exact ex_new T I2 ea hno r1 fun dx s' n ne J => ⟨σ, _, J, q dx n ne⟩
  · exact ex_old T I2 ea ed hl hno r1 fun s' J => ⟨σ, _, J, q⟩
end
end L2

namespace L2
open PySem PySem.Spec PyProof.Rows
section
variable {X : Cx} {CX : CXT} {k n : Nat} {fI C : Addr} {fd : FuncData} {ps ks : List Str} {sp : Sp} {E : XK} {x : Str} {p pos : Pos} {e : Expr} {es : List Expr} {kws : List Keyword} {t tk : TA}
  {g : List Value → List Value → List Value} {gV : List V → List V → List V}
/-- C(e, .., k = v, ..): an exception is laid, its own __init__ is called -/
theorem run_ex {pins : List (Addr × Obj)} {σ : L2.St} {H : Hp} {s : Shared} {Q : VK} {us ws : List Value} {vs zs : List V}
    (T : ExK X.K C) (iC : PySem.W.findIn X.K (.ref C) "__init__" = some (some (.ref fI))) (tI : PySem.W.typeIn X.K (.ref fI) = some (.type "function"))
    (F : FnOk X.prog X.w X.K X.mg X.base CX k fI fd ps sp) (hr : Room (k + 1) X.A) (hb : KBn X.K fd ps (n + 1) ks g gV) (hx : Passes CX X E)
    (I : Inv X pins σ H s) (r : Vals vs us) (rz : Vals zs ws) (l1 : vs.length = n) (l2 : zs.length = ks.length) (hn : n ≤ 1000)
    (h : ∀ a, H a = none → sp (gV (.ref a :: vs) zs) (upd H a (exo a C none)) (fun v H2 => v = .non ∧ Q (.ref a) H2) E) :
    wpAny (model X.prog X.w) X.A (call (.ref C) us (ks.zip ws)) (EP X pins σ Q) X.xe s := by
  obtain ⟨B, S, newId, initId, bF, bmB, FB, _, hT, hin, _⟩ := T.base
  obtain ⟨nm, N', qn, bs, bm, hdct, sn, sub, ab, col, dd, k0, k1, k2, k3, k5, hC, hbm⟩ := PySem.W.excInit_of I.kIn hin
  have hT2 : bm.contains (.type B) = true ∧ bm.contains (.type "AttributeError") = false ∧ bm.contains (.type "NameError") = false :=
    ⟨(hbm _).trans hT.1, (hbm _).trans hT.2.1, (hbm _).trans hT.2.2⟩
  obtain ⟨hp, gs, dr, tk', os⟩ := s
  have big : hp.objs.size ≤ hp.objs.size + 1 := Nat.le_succ _
  have hq := h (hp.objs.size + 1) (I.hok.fresh big)
  have kp : ∀ b o, hp.get? b = some o → ((hp.push (PySem.W.kdv_tup us)).push (PySem.HandSPX.excO C hp.objs.size)).get? b = some o :=
    fun b o z => Heap.get?_push_of_some _ (Heap.get?_push_of_some _ z)
  have ge : ((hp.push (PySem.W.kdv_tup us)).push (PySem.HandSPX.excO C hp.objs.size)).get? (hp.objs.size + 1) = some (PySem.HandSPX.excO C hp.objs.size) := by heap_get
  have J := I.laid (t' := tk') (a := hp.objs.size + 1) (o := exo (hp.objs.size + 1) C none) kp big (exo_ok ge)
  have rr : Vals (V.ref (hp.objs.size + 1) :: vs) (Value.ref (hp.objs.size + 1) :: us) := .cons rfl r
  have e1 : (Value.ref (hp.objs.size + 1) :: us).length = n + 1 := rr.length.symm.trans (congrArg Nat.succ l1)
  have e2 : ws.length = ks.length := rz.length.symm.trans l2
  have hz : us.length ≤ sizeLine := by
    have := r.length
    rw [sizeLine_eq]
    omega
  refine wpAny_call (PySem.Ex4.call_kw FB hT2 hC hz (PySem.W.looks_findIn I.kIn iC) (fun self => PySem.W.bind_fn I.kIn self tI) (codeAny_mono (F.run _ X.stack _ _ ⟨Value.ref (hp.objs.size + 1) :: us, ks.zip ws⟩
    (g (Value.ref (hp.objs.size + 1) :: us) ws) _ _ E (hr.make C us (ks.zip ws)) (J.env0.make C us (ks.zip ws)) (hb.to _ _ ws J.kIn e1 e2) (hb.rel rr rz) hq) ?_))
  intro r s' hq'
  match r, hq' with
  | .error er, hq' => exact hx pins σ _ _ er s' J hq'
  | .ok .next, hq' => exact False.elim hq'
  | .ok .brk, hq' => exact False.elim hq'
  | .ok .cont, hq' => exact False.elim hq'
  | .ok (.ret u), hq' =>
    obtain ⟨v, H', J3, rv, rfl, q3⟩ := J.after hq'
    exact ⟨rv, ⟨V.ref (hp.objs.size + 1), H', J3, rfl, q3⟩⟩

/-- the promise of such an __init__: each name gets its value -/
def spEx (C : Addr) (ns : List Str) : Sp := fun vs H Q _ => ∃ (a : Addr) (ys : List V), vs = .ref a :: ys ∧ ys.length = ns.length ∧ H a = some (exo a C none) ∧
  ∀ (d : Addr) (H' : Hp), H d = none → d ≠ a → H' a = some (exo a C (some d)) → H' d = some (exd d (ns.zip ys).reverse) → (∀ b, b ≠ a → b ≠ d → H' b = H b) → Q .non H'
/-- a new exception with its fields -/
def NewEx (C : Addr) (ns : List Str) (vs : List V) (H : Hp) (Q : VK) : Prop := vs.length = ns.length ∧ ∀ (a d : Addr) (H' : Hp), H a = none → H d = none → d ≠ a → H' a = some (exo a C (some d)) → H' d = some (exd d (ns.zip vs).reverse) →
  (∀ b, b ≠ a → b ≠ d → H' b = H b) → Q (.ref a) H'
/-- what is told of a class that makes exceptions with fields; ks: the names as some call gives them, pm: their order as the parameters have it -/
structure ExMk (P : Program) (w : World) (K : PySem.W.Frag) (mg : Str → Option Value) (base : Heap) (k : Nat) (x : Str) (C : Addr) (ns ks : List Str) (pm : {α : Type} → List α → List α) : Prop where
  ex : ExK K C
  mgx : mg x = some (.ref C)
  init : ∃ (fI : Addr) (fd : FuncData), PySem.W.findIn K (.ref C) "__init__" = some (some (.ref fI)) ∧ PySem.W.typeIn K (.ref fI) = some (.type "function") ∧
    FnOk P w K mg base L2.CX0 k fI fd (("self" : Str) :: ns) (spEx C ns) ∧
    KBn K fd (("self" : Str) :: ns) (ns.length + 1) [] (fun us _ => us) (fun vs _ => vs) ∧
    KBn K fd (("self" : Str) :: ns) 1 ks (fun us ws => us ++ pm ws) (fun vs zs => vs ++ pm zs)
  len : ∀ zs : List V, zs.length = ks.length → (pm zs).length = ns.length
  few : ns.length ≤ 1000
theorem newEx_of {H : Hp} {Q : VK} {ns : List Str} {ys : List V} {a : Addr} (ha : H a = none) (h : NewEx C ns ys H Q) :
    spEx C ns (.ref a :: ys) (upd H a (exo a C none)) (fun v H2 => v = .non ∧ Q (.ref a) H2) (fun _ _ _ => False) := by
  refine ⟨a, ys, rfl, h.1, upd_same, ?_⟩
  intro d H' hd hne h1 h2 h3
  rw [upd_ne hne] at hd
  refine ⟨rfl, h.2 a d H' ha hd hne h1 h2 fun b hb hb2 => ?_⟩
  rw [h3 b hb hb2, upd_ne hb]
def tEx (C : Addr) (ns : List Str) (t : TA) : TE := fun σ H Q => t σ H fun vs H1 => NewEx C ns vs H1 Q
def tExK (C : Addr) (ns ks : List Str) (pm : List V → List V) (t : TA) : TE := fun σ H Q => t σ H fun zs H1 => zs.length = ks.length ∧ NewEx C ns (pm zs) H1 Q
theorem pe_ex {ns : List Str} {pm : {α : Type} → List α → List α} {j : Nat} (M : ExMk X.prog X.w X.K X.mg X.base k x C ns ks pm) (hx : Passes L2.CX0 X (fun _ _ _ => False)) (hr : Room j X.A) (hk : k + 1 ≤ j) (hg : Gl X x) (ha : PA X (e :: es) t)
    (hdb : (x == ("__debug__" : Str)) = false := by decide) (he : starEach (e :: es) X.env = (false, eval e X.env) :: starEach es X.env := by rfl)
    (hpl : (backTo pos (starEach es X.env)).any (·.1) = false := by rfl) : PE X (.Call (.Name x p) (e :: es) [] pos) (tEx C ns t) := by
  obtain ⟨fI, fd, iC, tI, F, hb, _⟩ := M.init
  constructor
  intro pins s σ H Q I h
  refine wpAny_Call_Name_kw (ld_glob I hg M.mgx ?_ hdb)
  refine PySem.W.callWith_K (h₀ := X.base) I.ok.mod.kin M.ex.kC (thn (ha.run pos pins s σ H _ I h) ?_) he hpl
  rintro us s1 ⟨vs, H1, I1, r, q⟩
  exact ⟨I1.kIn, run_ex (ks := []) (ws := []) (zs := []) M.ex iC tI F (hr.mono hk) hb hx I1 r .nil q.1 rfl M.few fun a hn => newEx_of hn q⟩
theorem pe_exK {ns : List Str} {pm : {α : Type} → List α → List α} {j : Nat} (M : ExMk X.prog X.w X.K X.mg X.base k x C ns ks pm) (hx : Passes L2.CX0 X (fun _ _ _ => False)) (hr : Room j X.A) (hk : k + 1 ≤ j) (hg : Gl X x) (hkw : PK X kws tk)
    (hall : (backToKw pos (keywordEach kws X.env)).all (·.1.isSome) = true := by rfl)
    (hks : (backToKw pos (keywordEach kws X.env)).filterMap (·.1) = ks := by rfl)
    (hdb : (x == ("__debug__" : Str)) = false := by decide)
    (hpl : ((backTo pos (starEach [] X.env)).any (·.1) || (backToKw pos (keywordEach kws X.env)).any (·.1.isNone)) = false := by rfl) :
    PE X (.Call (.Name x p) [] kws pos) (tExK C ns ks pm tk) := by
  obtain ⟨fI, fd, iC, tI, F, _, hb⟩ := M.init
  constructor
  intro pins s σ H Q I h
  refine wpAny_Call_Name_kw (ld_glob I hg M.mgx ?_ hdb)
  refine PySem.W.callWith_KW0 (h₀ := X.base) I.ok.mod.kin M.ex.kC hall ?_ hpl
  refine thn (hkw.run pos pins s σ H _ I h) ?_
  rintro ws s1 ⟨zs, H1, I1, r, l, q⟩
  refine ⟨I1.kIn, ?_⟩
  rw [hks]
  exact run_ex (us := []) (vs := []) (n := 0) M.ex iC tI F (hr.mono hk) hb hx I1 .nil r rfl l (Nat.zero_le _) fun a hn => newEx_of hn q
/-- C() of a class without an own __init__ -/
theorem pe_ex0 {B newId initId : String} {bmB : List Value} (FB : ExcBaseFacts B newId initId bmB) (q0 : PySem.W.excIn X.K C bmB newId = true) (hm : X.mg x = some (.ref C)) (kC : PySem.W.keepIn X.K (.ref C) = true) (hg : Gl X x)
    (hdb : (x == ("__debug__" : Str)) = false := by decide) :
    PE X (.Call (.Name x p) [] [] pos) (fun _ H Q => ∀ a, H a = none → Q (.ref a) (upd H a (exo a C none))) := by
  constructor
  intro pins s σ H Q I h
  refine wpAny_Call_Name_kw (ld_glob I hg hm ?_ hdb)
  refine PySem.W.callWith_K0 I.kIn kC ?_
  change wpAny _ _ (call (.ref C) []) _ _ _
  obtain ⟨bm, N, nm, qn, bs, hdct, sn, sub, ab, col, dd, k0, k1, k2, k3, k5, mN, hC, hN, hni, T⟩ := exc_obj I.kIn q0
  refine wpAny_call_exc_subT FB T hC hN hni (fun h' a hm => ?_) (by show 0 ≤ sizeLine; exact Nat.zero_le _)
  have hn : H a = none := I.hok.gone hm.new
  obtain ⟨t, ht, _, _⟩ := hm.there
  exact ⟨.ref a, _, I.laidN hm.keeps hm.new hn (exo_ok ht), rfl, h a hn⟩
/-- e.f, a field of such an exception -/
def tExF (K : PySem.W.Frag) (f : Str) (te : TE) : TE := fun σ H Q => te σ H fun x H1 => ∃ (a C d : Addr) (fs : List (Str × V)) (v : V), x = .ref a ∧ H1 a = some (exo a C (some d)) ∧ H1 d = some (exd d fs) ∧
  XfC K C ∧ PySem.W.findIn K (.ref C) f = some none ∧ fs.lookup f = some v ∧ Q v H1
theorem inst_of {pins : List (Addr × Obj)} {σ : L2.St} {H : Hp} {s : Shared} {a d : Addr} {fs : List (Str × V)} (I : Inv X pins σ H s) (ea : H a = some (exo a C (some d))) (ed : H d = some (exd d fs)) :
    ∃ (ox od : Obj), PySem.W.InstAt s.heap a ox C (some od) ∧ ∀ f, ∃ o, PySem.W.lookIn f od = some o ∧ RelO (fs.lookup f) o := by
  obtain ⟨t1, ho⟩ := exo_at I.hok ea
  obtain ⟨mA, hns, rel⟩ := exd_at I.hok ed
  obtain ⟨od, hd, hl⟩ := lookIn_ns hns
  exact ⟨_, od, ⟨ho, rfl, rfl, hd⟩, fun f => ⟨mA f, hl f, rel f⟩⟩
theorem pe_exf {f : Str} {te : TE} (he : PE X e te) (hb : attributeBase e f X.env (eval e X.env) = eval e X.env := by rfl) : PE X (.Attribute e f pos) (tExF X.K f te) := by
  constructor
  intro pins s σ H Q I h
  refine attr_of hb (thn (he.run pins s σ H _ I h) ?_)
  rintro u s1 ⟨x, H1, I1, rx, a, C, d, fs, v, rfl, ea, ed, T, hno, l, q⟩
  obtain rfl : u = Value.ref a := rx
  obtain ⟨ox, od, J, hl⟩ := inst_of I1 ea ed
  obtain ⟨o, l1, l2⟩ := hl f
  obtain ⟨u, rfl, ru⟩ := RelO.some_of (v := v) (o := o) (by rw [← l]; exact l2)
  exact PySem.HandSPX.exc_get I1.kIn J T.ga T.gg T.exC (PySem.W.findObj_own T.hdC hno rfl (by rw [l1])) (handed_of ru) ⟨v, H1, I1.tok _, ru, q⟩
/-- at a: such an exception, with a dict or without one -/
def ExThere (H : Hp) (a C : Addr) : Prop := H a = some (exo a C none) ∨ ∃ d fs, H a = some (exo a C (some d)) ∧ H d = some (exd d fs)
theorem kit_ex {pins : List (Addr × Obj)} {σ : L2.St} {H : Hp} {s : Shared} {a : Addr} (I : Inv X pins σ H s) (T : ExI X.K C) (h : ExThere H a C) : ∃ Pr : Heap → Prop, PySem.W.KitX X.K (.ref a) (.ref C) Pr ∧ Pr s.heap := by
  have hcl : (PySem.W.clsIn X.K C).isSome = true := by
    obtain ⟨cd, hcl, _⟩ := PySem.W.any_some T.xf.hdC
    rw [hcl]
    rfl
  rcases h with ea | ⟨d, fs, ea, ed⟩
  · obtain ⟨t1, ho⟩ := exo_at I.hok ea
    exact ⟨_, PySem.W.kitx_exc (ox := _) (od := none) hcl T.xf.ga T.xf.gg T.xf.exC T.ca T.cn T.ct T.cm, ho, rfl, rfl, trivial⟩
  · obtain ⟨ox, od, J, _⟩ := inst_of I ea ed
    exact ⟨_, PySem.W.kitx_exc (ox := ox) (od := some od) hcl T.xf.ga T.xf.gg T.xf.exC T.ca T.cn T.ct T.cm, J⟩
/-- isinstance(e, c) -/
theorem call_isX : CallR X (.builtin "isinstance") (fun xs H Q => ∃ (a C : Addr) (c : V) (u : Value) (b : Bool), xs = [.ref a, c] ∧ ClsV c u ∧ ExThere H a C ∧ ExI X.K C ∧ PySem.W.kitOne X.K (.ref C) u = some b ∧ Q (.bl b) H) := by
  intro pins s σ H xs us Q I r h
  obtain ⟨a, C, c, u, b, rfl, k, hx, T, e, q⟩ := h
  obtain ⟨u1, u2, rfl, r1, r2⟩ := vals2 r
  obtain rfl := k.eq r2
  obtain rfl : u1 = Value.ref a := r1
  obtain ⟨Pr, Z, pr⟩ := kit_ex I T hx
  exact PySem.W.kia_one Z I.kIn pr e (fun z => nomatch z) fun tk => ⟨.bl b, H, I.tok tk, rfl, q⟩
theorem call_isXT : CallR X (.builtin "isinstance") (fun xs H Q => ∃ (a C tp : Addr) (cs : List V) (us : List Value) (b : Bool), xs = [.ref a, .ref tp] ∧ H tp = some (.tup cs) ∧ Paired ClsV cs us ∧ ExThere H a C ∧ ExI X.K C ∧ PySem.W.kitAny X.K (.ref C) us = some b ∧ Q (.bl b) H) := by
  intro pins s σ H xs us Q I r h
  obtain ⟨a, C, tp, cs, ws, b, rfl, hT, k, hx, T, e, q⟩ := h
  obtain ⟨u1, u2, rfl, r1, r2⟩ := vals2 r
  obtain rfl : u1 = Value.ref a := r1
  obtain rfl : u2 = Value.ref tp := r2
  obtain ⟨Pr, Z, pr⟩ := kit_ex I T hx
  have ot : ObjOk X.prog X.w H s.heap tp (.tup cs) := I.hok tp _ hT
  obtain ⟨_, its, rv, o, h1, h2, n, h3⟩ := ot
  obtain rfl := ClsV.all k rv
  cases o with
  | mk oc od dt sl =>
    simp only at h2 h3
    subst h2 h3
    exact PySem.W.kia_tup Z I.kIn pr h1 e (fun z => nomatch z) fun tk => ⟨.bl b, H, I.tok tk, rfl, q⟩
end
end L2

/-! exceptions: raise C(..), try: .. except C as e: .., e.f, isinstance(e, ..) -/
namespace DL
open PySem PySem.Spec PyProof.Rows L2 Kit

/-! ### raise -/
/-- what a made exception with fields is, thrown -/
def tMkE (C : Addr) (ns : List Str) (t : TA) : L2.St → Hp → XK → Prop := fun σ H Q => t σ H fun vs H1 => vs.length = ns.length ∧ ∀ d, H1 d = none → Q (.ref C) (some d) (upd H1 d (.xd (ns.zip vs).reverse))
section
variable {X : Cx} {C : Addr} {k j : Nat} {x : Str} {p pos : Pos} {e : Expr} {es : List Expr} {t : TA} {ns ks : List Str} {pm : {α : Type} → List α → List α}
theorem spEx_raise {H : Hp} {Q : XK} {E : XK} {vs : List V} {a : Addr} (ha : H a = none) (hl : vs.length = ns.length) (h : ∀ d, H d = none → Q (.ref C) (some d) (upd H d (.xd (ns.zip vs).reverse))) :
    spEx C ns (.ref a :: vs) (upd H a (exo a C none)) (fun v H2 => v = .non ∧ ∃ (d : Addr) (fs : List (Str × V)), H2 a = some (exo a C (some d)) ∧ H2 d = some (exd d fs) ∧ H d = none ∧ Q (.ref C) (some d) (upd (del H2 a) d (.xd fs))) E := by
  refine ⟨a, vs, rfl, hl, upd_same, fun d H' hd hne e1 e2 e3 => ⟨rfl, d, _, e1, e2, ?_, ?_⟩⟩
  · rw [← hd, upd_ne hne]
  · have hn : H d = none := by rw [← hd, upd_ne hne]
    have e : upd (del H' a) d (.xd (ns.zip vs).reverse) = upd H d (.xd (ns.zip vs).reverse) := by
      funext b
      by_cases hb : b = d
      · rw [hb, upd_same, upd_same]
      · rw [upd_ne hb, upd_ne hb]
        by_cases ba : b = a
        · rw [ba, del_same, ha]
        · rw [del_ne ba, e3 b ba hb, upd_ne ba]
    rw [e]
    exact h d hn
theorem pmk_ex (M : ExMk X.prog X.w X.K X.mg X.base k x C ns ks pm) (ty : PySem.W.typeIn X.K (.ref C) = some (.type "type")) (hr : Room j X.A) (hk : k + 1 ≤ j) (hg : Gl X x) (ha : PA X (e :: es) t)
    (hdb : (x == ("__debug__" : Str)) = false := by decide) (he : starEach (e :: es) X.env = (false, eval e X.env) :: starEach es X.env := by rfl)
    (hpl : (backTo pos (starEach es X.env)).any (·.1) = false := by rfl) : PMk X (.Call (.Name x p) (e :: es) [] pos) (tMkE C ns t) := by
  obtain ⟨fI, fd, iC, tI, F, hb, _⟩ := M.init
  intro pins s σ H Q I h
  refine wpAny_Call_Name_kw (ld_glob I hg M.mgx (PySem.W.callWith_K (h₀ := X.base) I.ok.mod.kin M.ex.kC (thn (ha.run pos pins s σ H _ I h) fun us s1 ⟨vs, H1, I1, r1, hl, q1⟩ => ⟨I1.kIn, ?_⟩) he hpl) hdb)
  obtain ⟨B, S, newId, initId, bF, bmB, FB, _, hT, hin, _⟩ := M.ex.base
  obtain ⟨nm, N', qn, bs, bm, hdct, sn, sub, ab, col, dd, k0, k1, k2, k3, k5, hC, hbm⟩ := PySem.W.excInit_of I1.kIn hin
  have hT2 : bm.contains (.type B) = true ∧ bm.contains (.type "AttributeError") = false ∧ bm.contains (.type "NameError") = false :=
    ⟨(hbm _).trans hT.1, (hbm _).trans hT.2.1, (hbm _).trans hT.2.2⟩
  obtain ⟨hp, g, dr, tk, os⟩ := s1
  have big : hp.objs.size ≤ hp.objs.size + 1 := Nat.le_succ _
  have hn : H1 (hp.objs.size + 1) = none := I1.hok.fresh big
  have kp : ∀ b o, hp.get? b = some o → ((hp.push (PySem.W.kdv_tup us)).push (PySem.HandSPX.excO C hp.objs.size)).get? b = some o :=
    fun b o z => Heap.get?_push_of_some _ (Heap.get?_push_of_some _ z)
  have ge : ((hp.push (PySem.W.kdv_tup us)).push (PySem.HandSPX.excO C hp.objs.size)).get? (hp.objs.size + 1) = some (PySem.HandSPX.excO C hp.objs.size) := by heap_get
  have J := I1.laid (t' := tk) (a := hp.objs.size + 1) (o := exo (hp.objs.size + 1) C none) kp big (exo_ok ge)
  have rr : Vals (V.ref (hp.objs.size + 1) :: vs) (Value.ref (hp.objs.size + 1) :: us) := .cons rfl r1
  have hz : us.length ≤ sizeLine := by
    have := r1.length
    have := M.few
    rw [sizeLine_eq]
    omega
  have hq := spEx_raise (C := C) (E := fun _ _ _ => False) (Q := Q) hn hl q1
  refine wpAny_call (PySem.Ex4.call_kw FB hT2 hC hz (PySem.W.looks_findIn I1.kIn iC) (fun self => PySem.W.bind_fn I1.kIn self tI) (codeAny_mono (F.run _ X.stack _ _ ⟨Value.ref (hp.objs.size + 1) :: us, []⟩
    (Value.ref (hp.objs.size + 1) :: us) _ _ (fun _ _ _ => False) ((hr.mono hk).make C us []) (J.env0.make C us []) (hb.to _ _ [] J.kIn (by rw [← rr.length, List.length_cons, hl]) rfl) rr hq) ?_))
  intro r s' hq'
  cases r with
  | error er => exact hq'.elim
  | ok fl =>
    cases fl with
    | ret u =>
      obtain ⟨v, H2, os2, bare2, un2, hok2, rv, ev, d, fs, ea, ed, hd1, q2⟩ := hq'
      subst ev
      obtain ⟨h2, g2, d2, t2, os'⟩ := s'
      exact ⟨rv, mk_end (raises_own M.ex.xf.exC ty) I1 big kp un2 hok2 os2 bare2 ea ed hd1 q2⟩
    | next => exact hq'.elim
    | brk => exact hq'.elim
    | cont => exact hq'.elim
end
section
variable {K : PySem.W.Frag} {dk : DK} {S S' : Pl} {μ μ' : Mu} {H H' : Hp}
theorem RepA.rev {ds : List D} {vs : List V} (h : RepA K S μ H ds vs) : RepA K S μ H ds.reverse vs.reverse := by
  induction ds generalizing vs with
  | nil => cases h; exact .nil
  | cons d ds ih =>
    cases h with
    | cons h t =>
      rw [List.reverse_cons, List.reverse_cons]
      exact (ih t).app (.cons h .nil)
theorem map_fst {α β : Type} : ∀ {xs : List α} {ys : List β}, ys.length = xs.length → (xs.zip ys).map (·.1) = xs
  | [], _, _ => rfl
  | _ :: _, [], h => by cases h
  | x :: xs, y :: ys, h => by rw [List.zip_cons_cons, List.map_cons, map_fst (by simpa using h)]
theorem map_snd {α β : Type} : ∀ {xs : List α} {ys : List β}, ys.length = xs.length → (xs.zip ys).map (·.2) = ys
  | [], [], _ => rfl
  | [], _ :: _, h => by cases h
  | _ :: _, [], h => by cases h
  | x :: xs, y :: ys, h => by rw [List.zip_cons_cons, List.map_cons, map_snd (by simpa using h)]
theorem repF_of {ns : List Str} {ds : List D} {vs : List V} (r : RepA K S μ H ds vs) (hl : ds.length = ns.length) : RepF K S μ H (ns.zip ds).reverse (ns.zip vs).reverse := by
  have hv : vs.length = ns.length := r.len.symm.trans hl
  refine ⟨?_, ?_⟩
  · rw [List.map_reverse, List.map_reverse, map_fst hl, map_fst hv]
  · rw [List.map_reverse, List.map_reverse, map_snd hl, map_snd hv]
    exact r.rev
theorem RepF.ex (x : Ex S μ H S' μ' H') {fs : List (Str × D)} {vs : List (Str × V)} (h : RepF K S μ H fs vs) : RepF K S' μ' H' fs vs := ⟨h.1, h.2.ex x⟩
theorem RepF.get {n : Str} : ∀ {fs : List (Str × D)} {vs : List (Str × V)} {d : D}, RepF K S μ H fs vs → fs.lookup n = some d → ∃ v, vs.lookup n = some v ∧ Rep K S μ H d v
  | [], _, _, _, h => by cases h
  | (m, x) :: fs, [], _, ⟨h, _⟩, _ => by cases h
  | (m, x) :: fs, (m2, y) :: vs, d, ⟨h, r⟩, e => by
    obtain ⟨e1, e2⟩ := List.cons.inj (show m :: fs.map (·.1) = m2 :: vs.map (·.1) from h)
    subst e1
    cases (r : RepA K S μ H (x :: fs.map (·.2)) (y :: vs.map (·.2))) with
    | cons h1 h2 =>
      by_cases hm : n = m
      · subst hm
        rw [List.lookup_cons_self] at e ⊢
        cases e
        exact ⟨y, rfl, h1⟩
      · have hb : (n == m) = false := by simpa using hm
        rw [List.lookup_cons, hb] at e ⊢
        exact RepF.get ⟨e2, h2⟩ e
end
def sRaise (C : Addr) (ns : List Str) (fa : DS → W (List D)) : DS → W Fl := fun ε => W.bnd (fa ε) fun ds => W.chk (ds.length = ns.length) (W.exn ⟨C, (ns.zip ds).reverse, ε⟩)
/-- what a class that is raised must have -/
structure ExR (P : Program) (w : World) (K : PySem.W.Frag) (mg : Str → Option Value) (base : Heap) (k : Nat) (x : Str) (C : Addr) (ns : List Str) : Prop where
  mkx : ∃ (ks : List Str) (pm : {α : Type} → List α → List α), ExMk P w K mg base k x C ns ks pm
  ty : PySem.W.typeIn K (.ref C) = some (.type "type")
section
variable {X : Cx} {dk : DK} {c : LC X.K dk} {C : Addr} {k j : Nat} {x : Str} {p p' pos : Pos} {e : Expr} {es : List Expr} {ns : List Str} {fa : DS → W (List D)}
theorem ds_raise (M : ExR X.prog X.w X.K X.mg X.base k x C ns) (hc : X.calm = true) (tk : Takes X c.x) (hr : Room j X.A) (hk : k + 1 ≤ j) (hg : Gl X x) (ha : PA X (e :: es) (lowA X.K dk c fa))
    (hdb : (x == ("__debug__" : Str)) = false := by decide) (he : starEach (e :: es) X.env = (false, eval e X.env) :: starEach es X.env := by rfl)
    (hpl : (backTo pos (starEach es X.env)).any (·.1) = false := by rfl) : PS X (.Raise (some (.Call (.Name x p) (e :: es) [] pos)) none p') (lowS X.K dk c (sRaise C ns fa)) := by
  obtain ⟨⟨ks, pm, mk⟩, ty⟩ := M
  refine ps_w (ps_raise hc tk (pmk_ex mk ty hr hk hg ha hdb he hpl)) fun Dn σ H ⟨ε, S, μ, lk, ok, rs, run⟩ => ?_
  refine ⟨ε, S, μ, lk, ok, rs, W.up run fun ds μ1 run1 vs S1 H1 ex1 ok1 rep1 => ?_⟩
  obtain ⟨hl, q⟩ := run1
  refine ⟨rep1.len.symm.trans hl, fun d hd => ?_⟩
  have ex2 : Ex S1 μ1 H1 S1 μ1 (upd H1 d (.xd (ns.zip vs).reverse)) := new_ex ok1 hd
  exact c.xl (e := ⟨C, (ns.zip ds).reverse, ε⟩) (c.up lk ex1) q d _ S1 _ σ ex2 (new_ok ok1 hd) upd_same (ok1.dead hd) ((repF_of rep1 hl).ex ex2) ((rs.ex ex1).ex ex2)
end

/-! ### try: .. except C as e: .. -/
def unset (i : Nat) : Fl → Fl
  | .nx ε => .nx (ε.set i none)
  | .rt d => .rt d
  | .bk ε => .bk (ε.set i none)
  | .ct ε => .ct (ε.set i none)
/-- what the clause does of an exception -/
def catchW (i : Nat) (cat : Addr → Option Bool) (fu : Addr → Exn → DS → W Fl) (Q : Fl → Mu → Prop) (E : Exn → Mu → Prop) : Exn → Mu → Prop := fun x μ =>
  (cat x.C = some true ∧ ∀ a, (fu a x (x.sl.set i (some (.adr a)))).run (fun fl μ' => Q (unset i fl) μ') (fun _ _ => False) μ) ∨ (cat x.C = some false ∧ E x μ)
def sTry (i : Nat) (cat : Addr → Option Bool) (fb : DS → W Fl) (fu : Addr → Exn → DS → W Fl) : DS → W Fl := fun ε =>
  ⟨fun Q E μ => (fb ε).run Q (catchW i cat fu Q E) μ, fun h h2 q => (fb ε).mono h (fun x μ' z => z.elim
    (fun ⟨z1, z2⟩ => .inl ⟨z1, fun a => (fu a x _).mono (fun _ _ y => h _ _ y) (fun _ _ y => y) (z2 a)⟩) fun ⟨z1, z2⟩ => .inr ⟨z1, h2 _ _ z2⟩) q⟩
section
variable {X : Cx} {dk : DK} {c : LC X.K dk} {C : Addr} {i : Nat} {x n : Str} {body suite : List Stmt} {b₀ : Stmt} {np pos pos' : Pos} {fb : DS → W Fl} {fu : Addr → Exn → DS → W Fl} {cat : Addr → Option Bool}
/-- what is known in a suite -/
def XdAt (K : PySem.W.Frag) (dk : DK) (c : LC K dk) (d : Addr) (y : Exn) : Prop := ∀ S μ H, c.lk S μ H → ∃ vs, H d = some (.xd vs) ∧ ¬ live S μ d ∧ RepF K S μ H y.fs vs
/-- the letters of a suite -/
def cSu (K : PySem.W.Frag) (dk : DK) (S : Pl) (μ : Mu) (H : Hp) : LC K dk := ⟨fun _ _ => False, fun S' μ' H' => Ex S μ H S' μ' H', fun _ _ _ _ => False, fun a b => a.trans b, fun _ h => h.elim⟩
def tsD (X : Cx) (dk : DK) (cat : Addr → Option Bool) (fu : Addr → Exn → DS → W Fl) : Addr → Value → Option Addr → TS := fun a cls d D σ H =>
  ∃ (y : Exn) (dd : Addr) (c' : LC X.K dk), cls = .ref y.C ∧ d = some dd ∧ XdAt X.K dk c' dd y ∧ c'.x = (fun _ _ _ _ => False) ∧ cat y.C = some true ∧ lowS X.K dk c' (fu a y) D σ H
theorem ds_try (hs : X.stack = X.env :: X.outer) (hf : X.env.frame = some X.env.locals) (hN : X.N.Nodup) (hi : X.N[i]? = some n) (hln : X.env.kindOf n = some .local) (hc : Names X x (.ref C))
    (hm : ∀ C' b, cat C' = some b → PySem.W.exmOne X.K (.ref C') (.ref C) = some b) (tk : Takes X c.x)
    (hb : ∀ (c' : LC X.K dk) (pn : List (Addr × Obj)) (xe : Value → Shared → Prop), Takes (X.tr pn xe) c'.x → PSs (X.tr pn xe) body (lowS X.K dk c' fb))
    (hsu : ∀ (a : Addr) (oe : Obj) (d : Addr) (y : Exn) (c' : LC X.K dk) (pn : List (Addr × Obj)), Zc (.ref y.C) (some d) oe → (∃ vs, oe.data = .fields vs) → XdAt X.K dk c' d y → Takes (X.suite a ((a, oe) :: pn)) c'.x → cat y.C = some true →
      PSs (X.suite a ((a, oe) :: pn)) (b₀ :: suite) (lowS X.K dk c' (fu a y))) :
    PS X (.Try body [.ExceptHandler (some (.Name x np)) (some n) (b₀ :: suite) pos'] [] [] pos) (lowS X.K dk c (sTry i cat fb fu)) := by
  refine ps_w (ps_try_as (tb := fun w D σ H => ∃ c' : LC X.K dk, c'.x = w ∧ lowS X.K dk c' fb D σ H)
    (ts := tsD X dk cat fu)
    (Wout := c.x) hs hf hN hi hln hc tk (fun w pn xe tw _ => ⟨fun pins s σ H D I ⟨c', e, q⟩ => (hb c' pn xe (e ▸ tw)).run pins s σ H D I q⟩)
    (fun a oe cls d pn hz hd => ⟨fun pins s σ H D I ⟨y, dd, c', e1, e2, hx, ex, hcat, q⟩ => by
      subst e1 e2
      exact (hsu a oe dd y c' pn hz hd hx (ex ▸ takes_none5) hcat).run pins s σ H D I q⟩)) fun Dn σ H ⟨ε, S, μ, lk, ok, rs, run⟩ => ?_
  refine ⟨⟨catchW i cat fu (PostS X.K dk S μ H Dn) c.E, fun S' μ' H' => Ex S μ H S' μ' H', wAs X.K (.ref C) i (tsD X dk cat fu) c.x Dn, fun a b => a.trans b, ?_⟩, rfl, ε, S, μ, Ex.refl, ok, rs, run⟩
  intro S1 μ1 μ2 H1 y lk1 q d vs S' H' σ' ex ok' hd nl rf rs'
  rcases q with ⟨hcat, q⟩ | ⟨hcat, q⟩
  · refine ⟨true, hm _ _ hcat, fun _ a _ => ?_, fun z => by cases z⟩
    refine ⟨y, d, cSu X.K dk S' μ2 H', rfl, rfl, fun S2 μ3 H2 ex2 => ?_, rfl, hcat, ?_⟩
    · obtain ⟨h1, h2⟩ := ex2.keep d _ hd nl
      exact ⟨vs, h1, h2, rf.ex ex2⟩
    · refine ⟨y.sl.set i (some (.adr a)), S', μ2, Ex.refl, ok', rs'.set i (.adr a), (fu a y _).mono (fun fl μ3 q => ?_) (fun _ _ z => z) (q a)⟩
      cases fl with
      | nx ε2 => exact fun σ2 S2 H2 ex2 ok2 rs2 => q _ S2 H2 ((lk1.trans ex).trans ex2) ok2 (rs2.forget i)
      | rt v => exact fun v S2 H2 ex2 ok2 r2 => q v S2 H2 ((lk1.trans ex).trans ex2) ok2 r2
      | bk ε2 => exact fun σ2 S2 H2 ex2 ok2 rs2 => q _ S2 H2 ((lk1.trans ex).trans ex2) ok2 (rs2.forget i)
      | ct ε2 => exact fun σ2 S2 H2 ex2 ok2 rs2 => q _ S2 H2 ((lk1.trans ex).trans ex2) ok2 (rs2.forget i)
  · refine ⟨false, hm _ _ hcat, fun z => (by cases z), fun _ => ?_⟩
    exact c.xl (c.up lk lk1) q d vs S' H' σ' ex ok' hd nl rf rs'
end

/-! ### within a suite -/
section
variable {X : Cx} {dk : DK} {a d : Addr} {y : Exn} {oe : Obj} {pn : List (Addr × Obj)} {c : LC X.K dk} {n : Str} {e e2 : Expr} {f : DS → W D} {fs : DS → W (List D)} {p pos : Pos}
/-- e.f -/
def dXf (a : Addr) (y : Exn) (n : Str) (f : DS → W D) : DS → W D := fun ε => W.bnd (f ε) fun x => match x with
  | .adr b => W.chk (b = a) (W.opt (y.fs.lookup n))
  | _ => W.fail
theorem de_xf (T : XfC X.K y.C) (hno : PySem.W.findIn X.K (.ref y.C) n = some none) (hz : Zc (.ref y.C) (some d) oe) (hf : ∃ vs, oe.data = .fields vs) (hx : XdAt X.K dk c d y)
    (he : PE (X.suite a ((a, oe) :: pn)) e (lowE X.K dk c f)) (hb : attributeBase e n X.env (eval e X.env) = eval e X.env := by rfl) :
    PE (X.suite a ((a, oe) :: pn)) (.Attribute e n pos) (lowE X.K dk c (dXf a y n f)) :=
  pe_w (X := X.suite a ((a, oe) :: pn)) (pe_xf T hno hz hf he hb) fun σ H Q ⟨ε, S, μ, lk, ok, rs, run⟩ => by
    refine ⟨ε, S, μ, lk, ok, rs, W.up run fun dx μ1 run1 v S1 H1 ex1 ok1 rep1 => ?_⟩
    cases dx with
    | adr b =>
      cases rep1
      obtain ⟨e1, run1⟩ := (run1 : b = a ∧ (W.opt (y.fs.lookup n)).run (Post X.K dk S μ H Q) c.E μ1)
      subst e1
      obtain ⟨vs, h1, h2, h3⟩ := hx S1 μ1 H1 (c.up lk ex1)
      cases hl : y.fs.lookup n with
      | none => rw [hl] at run1; exact run1.elim
      | some dv =>
        rw [hl] at run1
        obtain ⟨w, l, r⟩ := h3.get hl
        exact ⟨rfl, rfl, d, vs, w, rfl, h1, l, run1 w S1 H1 ex1 ok1 r⟩
    | _ => exact run1.elim
theorem kit_pin {pins : List (Addr × Obj)} {σ : L2.St} {H : Hp} {s : Shared} {vs : List (Str × V)} (I : Inv (X.suite a ((a, oe) :: pn)) pins σ H s) (T : ExI X.K y.C) (hz : Zc (.ref y.C) (some d) oe) (hf : ∃ vs, oe.data = .fields vs)
    (ed : H d = some (.xd vs)) : ∃ Pr : Heap → Prop, PySem.W.KitX X.K (.ref a) (.ref y.C) Pr ∧ Pr s.heap := by
  obtain ⟨cd, hcl, _⟩ := PySem.W.any_some T.xf.hdC
  obtain ⟨ha, _⟩ := I.pin (a, oe) (List.mem_append_left _ List.mem_cons_self)
  obtain ⟨ws, hd⟩ := hf
  have hx : ObjOk X.prog X.w H s.heap d (.xd vs) := I.hok d _ ed
  obtain ⟨mA, hns, _⟩ := hx
  obtain ⟨od, ho, _⟩ := lookIn_ns hns
  exact ⟨_, PySem.W.kitx_exc (ox := oe) (od := some od) (by rw [hcl]; rfl) T.xf.ga T.xf.gg T.xf.exC T.ca T.cn T.ct T.cm, ha, hz.1, by unfold PySem.W.notCls; rw [hd] <;> rfl, by rw [hz.2]; exact ho⟩
/-- a class, as data -/
def clsD : D → Option Value
  | .ty n => some (.type n)
  | .adr C => some (.ref C)
  | _ => none
def clsDs : List D → Option (List Value)
  | [] => some []
  | x :: xs => (clsD x).bind fun u => (clsDs xs).map (u :: ·)
theorem cls_rep {K : PySem.W.Frag} {S : Pl} {μ : Mu} {H : Hp} {dx : D} {v : V} {u : Value} (r : Rep K S μ H dx v) (h : clsD dx = some u) : ClsV v u := by
  cases dx <;> first | (cases h; done) | skip
  · cases h; cases r; exact .ty _
  · cases h; cases r; exact .own _
theorem clss_rep {K : PySem.W.Frag} {S : Pl} {μ : Mu} {H : Hp} : ∀ {ds : List D} {vs : List V} {us : List Value}, RepA K S μ H ds vs → clsDs ds = some us → Paired ClsV vs us
  | [], _, _, .nil, h => by cases h; exact .nil
  | x :: xs, _, _, .cons r t, h => by
    rw [clsDs] at h
    obtain ⟨u, h1, h2⟩ := bind_inv h
    obtain ⟨us, h3, rfl⟩ := map_inv h2
    exact .cons (cls_rep r h1) (clss_rep t h3)
/-- isinstance(e, c), isinstance(e, (c, ..)), e the suite's exception -/
def gIsE (a : Addr) (is : D → Option Bool) : List D → W D
  | [.adr b, z] => W.chk (b = a) (W.bnd (W.opt (is z)) fun t => W.ret (.bl t))
  | _ => W.fail
/-- what is said of the exceptions of C is so -/
def IsOk (K : PySem.W.Frag) (C : Addr) (is : D → Option Bool) : Prop := ∀ z t, is z = some t → (∃ u, clsD z = some u ∧ PySem.W.kitOne K (.ref C) u = some t) ∨ ∃ cs us, z = .tup cs ∧ clsDs cs = some us ∧ PySem.W.kitAny K (.ref C) us = some t
theorem call_isE (T : ExI X.K y.C) (hz : Zc (.ref y.C) (some d) oe) (hf : ∃ vs, oe.data = .fields vs) : CallR (X.suite a ((a, oe) :: pn)) (.builtin "isinstance") (fun xs H Q => (∃ vs, H d = some (.xd vs)) ∧
    ((∃ (z : V) (u : Value) (b : Bool), xs = [.ref a, z] ∧ ClsV z u ∧ PySem.W.kitOne X.K (.ref y.C) u = some b ∧ Q (.bl b) H) ∨
     (∃ (tp : Addr) (cs : List V) (us : List Value) (b : Bool), xs = [.ref a, .ref tp] ∧ H tp = some (.tup cs) ∧ Paired ClsV cs us ∧ PySem.W.kitAny X.K (.ref y.C) us = some b ∧ Q (.bl b) H))) := by
  intro pins s σ H xs us Q I r ⟨⟨vs, ed⟩, h⟩
  obtain ⟨Pr, Z, pr⟩ := kit_pin I T hz hf ed
  rcases h with ⟨z, u, b, rfl, k, e, q⟩ | ⟨tp, cs, ws, b, rfl, hT, k, e, q⟩
  · obtain ⟨u1, u2, rfl, r1, r2⟩ := vals2 r
    obtain rfl := k.eq r2
    obtain rfl : u1 = Value.ref a := r1
    exact PySem.W.kia_one Z I.kIn pr e (fun z => nomatch z) fun tk => ⟨.bl b, H, I.tok tk, rfl, q⟩
  · obtain ⟨u1, u2, rfl, r1, r2⟩ := vals2 r
    obtain rfl : u1 = Value.ref a := r1
    obtain rfl : u2 = Value.ref tp := r2
    have ot : ObjOk X.prog X.w H s.heap tp (.tup cs) := I.hok tp _ hT
    obtain ⟨_, its, rv, o, h1, h2, n, h3⟩ := ot
    obtain rfl := ClsV.all k rv
    cases o with
    | mk oc od dt sl =>
      simp only at h2 h3
      subst h2 h3
      exact PySem.W.kia_tup Z I.kIn pr h1 e (fun z => nomatch z) fun tk => ⟨.bl b, H, I.tok tk, rfl, q⟩
theorem de_isE {is : D → Option Bool} (T : ExI X.K y.C ∧ IsOk X.K y.C is) (hz : Zc (.ref y.C) (some d) oe) (hf : ∃ vs, oe.data = .fields vs) (hx : XdAt X.K dk c d y) (hg : Gl (X.suite a ((a, oe) :: pn)) "isinstance") (hm : X.mg "isinstance" = none)
    (ha : PA (X.suite a ((a, oe) :: pn)) [e, e2] (lowA X.K dk c fs))
    (he : starEach [e, e2] X.env = (false, eval e X.env) :: starEach [e2] X.env := by rfl) (hpl : (backTo pos (starEach [e2] X.env)).any (·.1) = false := by rfl) :
    PE (X.suite a ((a, oe) :: pn)) (.Call (.Name "isinstance" p) [e, e2] [] pos) (lowE X.K dk c (dCall (gIsE a is) fs)) :=
  pe_w (X := X.suite a ((a, oe) :: pn)) (pe_callB (X := X.suite a ((a, oe) :: pn)) (call_isE T.1 hz hf) hg hm rfl ha (by decide) (by decide) he hpl) fun σ H Q ⟨ε, S, μ, lk, ok, rs, run⟩ => by
    refine ⟨ε, S, μ, lk, ok, rs, W.up run fun ds μ1 run1 xs S1 H1 ex1 ok1 rep1 => ?_⟩
    obtain ⟨vs, h1, h2, h3⟩ := hx S1 μ1 H1 (c.up lk ex1)
    refine ⟨⟨vs, h1⟩, ?_⟩
    have run1 : (gIsE a is ds).run (Post X.K dk S μ H Q) c.E μ1 := run1
    cases rep1 with
    | nil => exact run1.elim
    | @cons dx vx _ _ r1 t1 =>
      cases t1 with
      | nil => cases dx <;> exact run1.elim
      | @cons z vz _ _ r2 t2 =>
        cases t2 with
        | cons _ _ => cases dx <;> exact run1.elim
        | nil =>
          cases dx with
          | adr b =>
            cases r1
            obtain ⟨e1, run2⟩ := (run1 : b = a ∧ ((W.opt (is z)).bnd fun t => W.ret (D.bl t)).run (Post X.K dk S μ H Q) c.E μ1)
            subst e1
            cases hk : is z with
            | none => rw [hk] at run2; exact run2.elim
            | some t =>
              rw [hk] at run2
              have q := run2 _ S1 H1 ex1 ok1 (.bl t)
              rcases T.2 z t hk with ⟨u, k1, k2⟩ | ⟨cs, us, rfl, k1, k2⟩
              · exact .inl ⟨_, u, t, rfl, cls_rep r2 k1, k2, q⟩
              · rcases r2 with _ | _ | _ | _ | _ | _ | @⟨_, tp, ws, hT, rT⟩
                exact .inr ⟨tp, ws, us, t, rfl, hT.1, clss_rep rT k1, k2, q⟩
          | _ => exact run1.elim
end
/-- the clause takes the exceptions of the class at C; no others are raised -/
noncomputable def catN (C : Addr) : Addr → Option Bool := fun C' => if C' = C then some true else none
theorem catN_eq {C C' : Addr} (h : catN C C' = some true) : C' = C := by
  unfold catN at h
  split at h
  · assumption
  · cases h
theorem catN_ok {K : PySem.W.Frag} {C : Addr} (h : PySem.W.exmOne K (.ref C) (.ref C) = some true) : ∀ C' b, catN C C' = some b → PySem.W.exmOne K (.ref C') (.ref C) = some b := fun C' b e => by
  unfold catN at e
  split at e
  · next hc =>
    cases e
    rw [hc]
    exact h
  · cases e
end DL

/-! times, [::-1], chains as tests, startswith -/
namespace DL
open PySem PySem.Spec PyProof.Rows L2 Kit

section
variable {K : PySem.W.Frag} {dk : DK}
def gMul : D → D → W D
  | .int i, .int j => W.chk (IntMulOk i j) (W.ret (.int (i * j)))
  | .str z, .int k => W.chk (z.length ≤ 100 ∧ 0 ≤ k ∧ k ≤ 10000) (W.ret (.str (Txt.mul z k)))
  | .lst xs, .int k => W.chk (-(2 ^ 63) ≤ k ∧ k < 2 ^ 63 ∧ xs.length * k.toNat ≤ sizeLine) (W.ret (.lst (List.replicate k.toNat xs).flatten))
  | _, _ => W.fail
def rRepS2 : R2 := fun x y H Q => ∃ (z : Str) (k : Int), x = .str z ∧ y = .int k ∧ z.length ≤ 100 ∧ 0 ≤ k ∧ k ≤ 10000 ∧ Q (.str (Txt.mul z k)) H
theorem op_repS2 {X : Cx} : OpR X (binaryOp .Mult) rRepS2 := by
  intro pins s σ H x y v u Q I rx ry ⟨z, k, e1, e2, hz, h0, hk, q⟩
  subst e1 e2
  obtain ⟨t, rfl⟩ := rx
  obtain ⟨t', rfl⟩ := ry
  exact SB.mul (mulOk_of 100 10000 hz hk (by omega) (by decide) (by decide)) fun tk k => ⟨.str _, H, I.tok _, ⟨_, rfl⟩, q⟩
def rMulA : R2 := fun x y H Q => rI IntMulOk (fun i j => .int (i * j)) x y H Q ∨ rRepS2 x y H Q ∨ rRep x y H Q
theorem o_mul {X : Cx} : OpR X (binaryOp .Mult) rMulA := OpR.or op_mulB (OpR.or op_repS2 op_rep)
theorem RepA.flat {S : Pl} {μ : Mu} {H : Hp} {ds : List D} {vs : List V} (h : RepA K S μ H ds vs) : ∀ n : Nat, RepA K S μ H (List.replicate n ds).flatten (List.replicate n vs).flatten
  | 0 => .nil
  | n + 1 => by
    rw [List.replicate_succ, List.replicate_succ, List.flatten_cons, List.flatten_cons]
    exact h.app (RepA.flat h n)
theorem l_mul : LR2 K dk rMulA (s2 gMul) := LV2.up fun {x y dx dy S μ H Q E} ok rx ry q => by
  unfold gMul at q
  split at q
  · cases rx; cases ry
    exact .inl ⟨_, _, rfl, rfl, q.1, q.2 _ S H Ex.refl ok (.int _)⟩
  · cases rx; cases ry
    exact .inr (.inl ⟨_, _, rfl, rfl, q.1.1, q.1.2.1, q.1.2.2, q.2 _ S H Ex.refl ok (.str _)⟩)
  · obtain ⟨a, vs, rfl, hx, rx⟩ := rx
    cases ry
    refine .inr (.inr ⟨a, _, vs, rfl, rfl, hx, q.1.1, q.1.2.1, by rw [← rx.len]; exact q.1.2.2, fun p hp => ?_⟩)
    exact q.2 (.ref p) S _ (new_ex ok hp) (new_ok ok hp) (new_lst ok hp (rx.flat _))
  · exact q.elim
def gAddI := oI0 fun i j => .int (i + j)
theorem l_addI : LR2 K dk (ipI fun i j => i + j) gAddI := fun {x y dx dy S μ H Q E} ok rx ry q => by
  unfold gAddI oI0 at q
  split at q
  · cases rx; cases ry
    exact ⟨_, _, rfl, rfl, q _ S H Ex.refl ok (.int _)⟩
  · exact q.elim
end
/-! == of two texts, two whole numbers, and of any data -/
section
variable {K : PySem.W.Frag} {dk : DK}
def gE2 (neg : Bool) : D → D → W D
  | .str a, .str b => W.ret (.bl (if neg then !decide (a = b) else decide (a = b)))
  | .int a, .int b => W.ret (.bl (if neg then !decide (a = b) else decide (a = b)))
  | .lst xs, .lst [] => W.ret (.bl (if neg then !xs.isEmpty else xs.isEmpty))
  | x, y => gEq neg x y
theorem decS (a b : Str) : decide (V.str a = V.str b) = decide (a = b) := by
  by_cases h : a = b
  · rw [decide_eq_true h, h, decide_eq_true rfl]
  · rw [decide_eq_false h, decide_eq_false (fun z => h (by cases z; rfl))]
theorem decI (a b : Int) : decide (V.int a = V.int b) = decide (a = b) := by
  by_cases h : a = b
  · rw [decide_eq_true h, h, decide_eq_true rfl]
  · rw [decide_eq_false h, decide_eq_false (fun z => h (by cases z; rfl))]
def rEq2 (K : PySem.W.Frag) : R2 := fun x y H Q => rEq x y H Q ∨ rEqNil K x y H Q ∨ rEqD K x y H Q
def rNe2 (K : PySem.W.Frag) : R2 := fun x y H Q => rNe x y H Q ∨ rNeNil K x y H Q ∨ rNeD K x y H Q
theorem o_eq2 {X : Cx} (hu : X.A.units + 200 < cLine) : OpR X (compareOp .Eq) (rEq2 X.K) := OpR.or op_eq (OpR.or (op_eqNil hu) (op_eqD (by omega)))
theorem o_ne2 {X : Cx} (hu : X.A.units + 200 < cLine) : OpR X (compareOp .NotEq) (rNe2 X.K) := OpR.or op_ne (OpR.or (op_neNil hu) (op_neD (by omega)))
theorem l_eq2 : LR2 K dk (rEq2 K) (s2 (gE2 false)) := LV2.up fun {x y dx dy S μ H Q E} ok rx ry q => by
  unfold gE2 at q
  split at q
  · cases rx; cases ry
    exact .inl ⟨rfl, by rw [decS]; exact q _ S H Ex.refl ok (.bl _)⟩
  · cases rx; cases ry
    exact .inl ⟨rfl, by rw [decI]; exact q _ S H Ex.refl ok (.bl _)⟩
  · obtain ⟨a, vs, rfl, hx, rx⟩ := rx
    obtain ⟨b, ws, rfl, hy, ry⟩ := ry
    cases ry
    exact .inr (.inl ⟨a, b, vs, rfl, rfl, .inl (.inl hx), .inl (.inl hy), by rw [empty_rep rx]; exact q _ S H Ex.refl ok (.bl _)⟩)
  · refine .inr (.inr ?_)
    obtain ⟨p, h1, q⟩ := pyW_run (Q := fun p μ' => (W.bnd (pyW dy) fun q => W.chk (SeqAt.shaped p = true ∧ SeqAt.shaped q = true) (W.ret (D.bl (PyData.eqv p q)))).run (Post K dk S μ H Q) E μ') q
    obtain ⟨p2, h2, q⟩ := pyW_run (Q := fun q μ' => (W.chk (SeqAt.shaped p = true ∧ SeqAt.shaped q = true) (W.ret (D.bl (PyData.eqv p q)))).run (Post K dk S μ H Q) E μ') q
    exact ⟨p, p2, pyv_dp rx h1, pyv_dp ry h2, q.1.1, q.1.2, q.2 _ S H Ex.refl ok (.bl _)⟩
theorem l_ne2 : LR2 K dk (rNe2 K) (s2 (gE2 true)) := LV2.up fun {x y dx dy S μ H Q E} ok rx ry q => by
  unfold gE2 at q
  split at q
  · cases rx; cases ry
    exact .inl ⟨rfl, by rw [decS]; exact q _ S H Ex.refl ok (.bl _)⟩
  · cases rx; cases ry
    exact .inl ⟨rfl, by rw [decI]; exact q _ S H Ex.refl ok (.bl _)⟩
  · obtain ⟨a, vs, rfl, hx, rx⟩ := rx
    obtain ⟨b, ws, rfl, hy, ry⟩ := ry
    cases ry
    exact .inr (.inl ⟨a, b, vs, rfl, rfl, .inl (.inl hx), .inl (.inl hy), by rw [empty_rep rx]; exact q _ S H Ex.refl ok (.bl _)⟩)
  · refine .inr (.inr ?_)
    obtain ⟨p, h1, q⟩ := pyW_run (Q := fun p μ' => (W.bnd (pyW dy) fun q => W.chk (SeqAt.shaped p = true ∧ SeqAt.shaped q = true) (W.ret (D.bl (!PyData.eqv p q)))).run (Post K dk S μ H Q) E μ') q
    obtain ⟨p2, h2, q⟩ := pyW_run (Q := fun q μ' => (W.chk (SeqAt.shaped p = true ∧ SeqAt.shaped q = true) (W.ret (D.bl (!PyData.eqv p q)))).run (Post K dk S μ H Q) E μ') q
    exact ⟨p, p2, pyv_dp rx h1, pyv_dp ry h2, q.1.1, q.1.2, q.2 _ S H Ex.refl ok (.bl _)⟩
end
section
variable {X : Cx} {dk : DK} {c : LC X.K dk} {e o a b d : Expr} {f g h : DS → W D} {k : Nat} {p1 p2 p3 pos apos : Pos}
def rvT : D → W D
  | .tup xs => W.ret (.tup xs.reverse)
  | .ktp xs => W.ret (.tup xs.reverse)
  | _ => W.fail
def rvL : D → W D
  | .lst xs => W.ret (.lst xs.reverse)
  | _ => W.fail
theorem de_revT (he : PE X e (lowE X.K dk c f)) : PE X (.Subscript e (.Slice none none (some (.UnaryOp .USub (.Constant (.int 1) k p1) p2)) p3) pos) (lowE X.K dk c (dUn (s1 rvT) f)) := pe_w (X7.pe_revT he) fun σ H Q ⟨ε, S, μ, lk, ok, rs, run⟩ => by
  refine ⟨ε, S, μ, lk, ok, rs, W.up run fun dx μ1 run1 v S1 H1 ex1 ok1 rep1 => ?_⟩
  obtain ⟨d', vw, q⟩ := see_vw ok1 rep1 (Q := fun x μ' => (rvT x).run (Post X.K dk S μ H Q) c.E μ') run1
  cases d' with
  | tup xs =>
    rcases vw with _ | _ | _ | _ | _ | _ | @⟨_, a, vs, hx, rx⟩
    exact ⟨a, vs, rfl, hx.sq, fun p hp => q (.ref p) S1 _ (ex1.trans (new_ex ok1 hp)) (new_ok ok1 hp) (new_tup ok1 hp rx.rev)⟩
  | ktp xs =>
    rcases vw with _ | _ | _ | _ | _ | _ | _ | _ | @⟨_, a, vs, hx, rx⟩
    exact ⟨a, vs, rfl, kt_sq hx, fun p hp => q (.ref p) S1 _ (ex1.trans (new_ex ok1 hp)) (new_ok ok1 hp) (new_tup ok1 hp rx.rev)⟩
  | _ => exact q.elim
theorem de_revL (he : PE X e (lowE X.K dk c f)) : PE X (.Subscript e (.Slice none none (some (.UnaryOp .USub (.Constant (.int 1) k p1) p2)) p3) pos) (lowE X.K dk c (dUn (s1 rvL) f)) := pe_w (pe_revL he) fun σ H Q ⟨ε, S, μ, lk, ok, rs, run⟩ => by
  refine ⟨ε, S, μ, lk, ok, rs, W.up run fun dx μ1 run1 v S1 H1 ex1 ok1 rep1 => ?_⟩
  obtain ⟨d', vw, q⟩ := see_vw ok1 rep1 (Q := fun x μ' => (rvL x).run (Post X.K dk S μ H Q) c.E μ') run1
  cases d' with
  | lst xs =>
    obtain ⟨a, vs, rfl, hx, rx⟩ := vw
    exact ⟨a, vs, rfl, .inl (.inl hx), fun p hp => q (.ref p) S1 _ (ex1.trans (new_ex ok1 hp)) (new_ok ok1 hp) (new_lst ok1 hp rx.rev)⟩
  | _ => exact q.elim
theorem dt_chain {op op' : CmpOp} {r r' : R2} {k k' : D → D → W D} (ho : OpR X (compareOp op) r) (ho' : OpR X (compareOp op') r') (l : LR2 X.K dk r k) (l' : LR2 X.K dk r' k') (ha : PE X a (lowE X.K dk c f)) (hb : PE X b (lowE X.K dk c g)) (hd : PE X d (lowE X.K dk c h))
    (hm : lastMarks [op, op'] [b, d] = false := by with_unfolding_all rfl) : PT X (.Compare a [op, op'] [b, d] pos) (lowT X.K dk c (dB (dChain k k' f g h))) :=
  pt_w (pt_chain ho ho' ha hb hd hm) fun σ H Q ⟨ε, S, μ, lk, ok, rs, run⟩ => by
    have run : (dChain k k' f g h ε).run (fun dx μ' => (asB dx).run (PostB X.K dk S μ H Q) c.E μ') c.E μ := run
    have fin : ∀ (dx : D) (μ' : Mu), (asB dx).run (PostB X.K dk S μ H Q) c.E μ' → Post X.K dk S μ H (fun v H' => ∃ t, v = .bl t ∧ Q t H') dx μ' := fun dx μ' q v S' H' ex ok' rep => by
      cases dx with
      | bl t => cases rep; exact ⟨t, rfl, q S' H' ex ok'⟩
      | _ => exact q.elim
    refine ⟨ε, S, μ, lk, ok, rs, W.up (m := f ε) run fun dx μ1 run1 x S1 H1 ex1 ok1 rep1 => ?_⟩
    refine ⟨ε, S1, μ1, c.up lk ex1, ok1, rs.ex ex1, W.up (m := g ε) run1 fun dy μ2 run2 y S2 H2 ex2 ok2 rep2 => ?_⟩
    have x2 := ex1.trans ex2
    refine l ok2 (rep1.ex ex2) rep2 (W.up (m := k dx dy) run2 fun dz μ3 run3 z S3 H3 ex3 ok3 rep3 => ?_)
    have x3 := x2.trans ex3
    cases dz with
    | bl t =>
      cases rep3
      refine ⟨t, rfl, ?_⟩
      cases t with
      | false => exact ⟨false, rfl, run3 S3 H3 x3 ok3⟩
      | true => exact ⟨ε, S3, μ3, c.up lk x3, ok3, rs.ex x3, W.up (m := h ε) run3 fun dw μ4 run4 w S4 H4 ex4 ok4 rep4 => l' ok4 ((rep2.ex ex3).ex ex4) rep4 (W.up (m := k' dy dw) run4 fun dq μ5 q => (fin dq μ5 q).ex (x3.trans ex4))⟩
    | _ => exact run3.elim
def gStarts (z : Str) : D → W D
  | .str b => W.ret (.bl (Txt.startswith z b))
  | _ => W.fail
theorem de_starts (ho : PE X o (lowE X.K dk c f)) (he : PE X e (lowE X.K dk c g)) (hs : starEach [e] X.env = [(false, eval e X.env)] := by rfl) (hbase : attributeBase o "startswith" X.env (eval o X.env) = eval o X.env := by rfl) (hline : (apos.endLine == pos.line) = true := by rfl) :
    PE X (.Call (.Attribute o "startswith" apos) [e] [] pos) (lowE X.K dk c (dM1 gStarts f g)) := pe_w (pe_m1 PySem.F.slot_str_startswith PySem.F.type_str_startswith mt_startswith ho he hs hbase hline) fun _ _ _ q => low_m1 (fun {z y dy S μ H Q E} ok ry q => by
  unfold gStarts at q
  split at q
  · cases ry
    exact ⟨z, _, rfl, rfl, q _ S H Ex.refl ok (.bl _)⟩
  · exact q.elim) q
end
end DL

/-! the deck; the law -/
namespace DL
open PySem PySem.Spec PyProof.Rows L2 Kit
/-! ### the deck -/
abbrev big : Int := 170141183460469231731687303715884105727
def deckKv (c : Addr) (sd : Int) (t : Nat) : List (L2.Key × V) := [(.inr "cells", .ref c), (.inr "seed", .int sd), (.inr "at", .int (t : Int))]
structure Deck (H : Hp) (d c : Addr) (t : Nat) : Prop where
  ex : ∃ (cs : List Int) (sd : Int), H d = some (.dK (deckKv c sd t)) ∧ H c = some (.lst (cs.map V.int)) ∧ 0 ≤ sd ∧ sd < big ∧ cs.length ≤ 63 ∧
    ∀ z ∈ cs, Builtin.Int.intBits z ≤ 1048576


theorem put_at (c : Addr) (sd : Int) (t : Nat) (v : V) : putK (deckKv c sd t) (Sum.inr "at") v = [(.inr "cells", .ref c), (.inr "seed", .int sd), (.inr "at", v)] := by
  rfl
theorem get_at (c : Addr) (sd : Int) (t : Nat) : valV (deckKv c sd t) (Sum.inr "at") = some (.int (t : Int)) := rfl
theorem get_seed (c : Addr) (sd : Int) (t : Nat) : valV (deckKv c sd t) (Sum.inr "seed") = some (.int sd) := rfl
theorem get_cells (c : Addr) (sd : Int) (t : Nat) : valV (deckKv c sd t) (Sum.inr "cells") = some (.ref c) := rfl
theorem sl3 (c : Addr) (sd : Int) (t : Nat) : (deckKv c sd t).length < sizeLine := by
  show 3 < sizeLine
  decide

/-- what the draw makes of it is small again -/
theorem bits_lt {x : Int} {n : Nat} (h0 : 0 ≤ x) (h : x < 2 ^ n) : Builtin.Int.intBits x ≤ n := by
  refine PySem.intBits_le_iff.mpr ?_
  have e : ((2 ^ n : Nat) : Int) = (2 : Int) ^ n := by rw [Int.natCast_pow]; rfl
  have h2 : x < ((2 ^ n : Nat) : Int) := by rw [e]; exact h
  omega
theorem bits_add {x y : Int} {n : Nat} (hx : Builtin.Int.intBits x ≤ n) (hy : Builtin.Int.intBits y ≤ n) : Builtin.Int.intBits (x + y) ≤ n + 1 := by
  have h1 := PySem.intBits_le_iff.mp hx
  have h2 := PySem.intBits_le_iff.mp hy
  refine PySem.intBits_le_iff.mpr ?_
  have e : 2 ^ (n + 1) = 2 ^ n + 2 ^ n := by rw [Nat.pow_succ]; omega
  rw [e]
  omega

theorem snoc {α : Type} (cs : List α) : cs = [] ∨ ∃ l x, cs = l ++ [x] := by
  rcases List.eq_nil_or_concat cs with h | ⟨l, x, h⟩
  · exact .inl h
  · exact .inr ⟨l, x, by rw [h, List.concat_eq_append]⟩
theorem pos_big : (0 : Int) < 170141183460469231731687303715884105727 := by decide
theorem dp_ints {K : PySem.W.Frag} {H : Hp} : ∀ ns : List Int, DpAll K H (ns.map V.int) (ns.map PyData.int)
  | [] => .nil
  | n :: ns => .cons (.int n) (dp_ints ns)
def spDraw : Sp := fun vs H Q _ => ∃ (d c : Addr) (n : Int) (t : Nat), vs = [.ref d, .int n] ∧ 1 ≤ n ∧ n < 2000000000000 ∧ Deck H d c t ∧ t < 1000000000000 ∧
  ∀ (r : Int) (H' : Hp), 0 ≤ r → r < n → But d c H H' → Deck H' d c (t + 1) → Q (.int r) H'


def spDeck (K : PySem.W.Frag) : Sp := fun vs H Q _ => ∃ (a : Addr) (ns : List Int), vs = [.ref a] ∧ SqL K H a (ns.map V.int) ∧ ns.length ≤ 63 ∧
  (∀ z ∈ ns, Builtin.Int.intBits z ≤ 1048576) ∧ ∀ (d c : Addr) (H' : Hp), Same H H' → H d = none → H c = none → Deck H' d c 0 → Q (.ref d) H'
theorem Deck.ne2 {H : Hp} {d c : Addr} {t : Nat} (h : Deck H d c t) : d ≠ c := by
  obtain ⟨cs, sd, h1, h2, _⟩ := h.ex
  exact ne_of h1 h2 (by intro z; cases z)
theorem Deck.both {H : Hp} {d c : Addr} {t : Nat} (h : Deck H d c t) : H d ≠ none ∧ H c ≠ none := by
  obtain ⟨cs, sd, h1, h2, _⟩ := h.ex
  rw [h1, h2]
  exact ⟨fun z => (by cases z), fun z => (by cases z)⟩
/-- a deck stands as it stood -/
def dkD : DK := ⟨Deck, fun {H H' a c t} e1 e2 h => by
  obtain ⟨cs, sd, h1, h2, h3⟩ := h.ex
  exact ⟨cs, sd, e1.trans h1, e2.trans h2, h3⟩⟩
section
variable {P : Program} {w : World} {K : PySem.W.Frag} {mg : Str → Option Value} {base : Heap} {k : Nat} {x : Str} {ps : List Str} {sp sp' : Sp}
theorem FnG.cx {f : Addr} {fd : FuncData} (F : FnG P w K mg base L2.CX0 k f fd ps sp) : FnG P w K mg base (L2.CX P w) k f fd ps sp :=
  ⟨F.len, fun A outer s H args us vs Q E hq hr e0 hb r h => codeAny_mono (F.run A outer s H args us vs Q E hq hr e0 hb r h) fun o s' z => by
    cases o with
    | error e => exact (z : False).elim
    | ok fl => cases fl <;> exact z⟩
theorem FnG.imp {CX : CXT} {f : Addr} {fd : FuncData} (F : FnG P w K mg base CX k f fd ps sp) (h : ∀ vs H Q E, sp' vs H Q E → sp vs H Q E) : FnG P w K mg base CX k f fd ps sp' :=
  ⟨fun vs H Q E z => F.len vs H Q E (h _ _ _ _ z), fun A outer s H args us vs Q E hq hr e0 hb r z => F.run A outer s H args us vs Q E hq hr e0 hb r (h _ _ _ _ z)⟩
theorem Cal.cxD (c : Cal P w K mg base L2.CX0 k x ps sp) (h : ∀ vs H Q E, sp' vs H Q E → sp vs H Q E) : Cal P w K mg base (L2.CX P w) k x ps sp' := by
  obtain ⟨f, fd, F, r⟩ := c.ex
  exact ⟨f, fd, FnG.imp (FnG.cx F) h, r⟩
end
/-! a draw -/
def F_draw : List D → W D
  | [.ref n, .int k] => W.rd fun μ => match μ[n]? with
    | some (.deck t) => W.chk (1 ≤ k ∧ k < 2000000000000 ∧ t < 1000000000000) (W.any (fun r : Int => 0 ≤ r ∧ r < k) fun r => W.wr (fun μ => μ.set n (.deck (t + 1))) (W.ret (.int r)))
    | _ => W.fail
  | _ => W.fail
def F_deck : List D → W D
  | [.scr ns] => W.chk (ns.length ≤ 63 ∧ ∀ z ∈ ns, Builtin.Int.intBits z ≤ 1048576) (W.rd fun μ => W.wr (fun μ => μ ++ [.deck 0, .hid]) (W.ret (.ref μ.length)))
  | _ => W.fail
section
variable {K : PySem.W.Frag} {S : Pl} {μ : Mu} {H H' : Hp} {n t : Nat} {a c : Addr}
theorem nth_inj {L : List Addr} (h : L.Nodup) {i j : Nat} {x : Addr} (h1 : L[i]? = some x) (h2 : L[j]? = some x) : i = j := by
  induction L generalizing i j with
  | nil => cases h1
  | cons y L ih =>
    obtain ⟨n1, n2⟩ := List.nodup_cons.mp h
    cases i with
    | zero =>
      cases j with
      | zero => rfl
      | succ j =>
        cases h1
        exact absurd (List.mem_of_getElem? (show L[j]? = some _ from h2)) n1
    | succ i =>
      cases j with
      | zero =>
        cases h2
        exact absurd (List.mem_of_getElem? (show L[i]? = some _ from h1)) n1
      | succ j => exact congrArg _ (ih n2 h1 h2)
theorem draw_ex (ok : Ok K dkD.p S μ H) (ha : S.L[n]? = some a) (hc : S.L[n + 1]? = some c) (h0 : μ[n]? = some (.deck t)) (h1 : μ[n + 1]? = some .hid) (b : But a c H H') : Ex S μ H S (μ.set n (.deck (t + 1))) H' := by
  have la : live S μ a := .inr ⟨n, _, ha, h0, fun z => by cases z⟩
  have lc : live S μ c := .inr ⟨n + 1, _, hc, h1, fun z => by cases z⟩
  have na : ∀ x ∈ S.hid, x ≠ a ∧ x ≠ c := fun x hx => by
    have d := List.nodup_append.mp ok.nd
    exact ⟨fun z => d.2.2 a (List.mem_of_getElem? ha) x hx z.symm, fun z => d.2.2 c (List.mem_of_getElem? hc) x hx z.symm⟩
  refine ⟨⟨[], by rw [List.append_nil]⟩, rfl, fun x o h nl => ⟨b x o (fun z => nl (z ▸ la)) (fun z => nl (z ▸ lc)) h, fun z => nl (live_set h0 (fun z => by cases z) z)⟩, fun x hx => ?_⟩
  cases hh : H x with
  | none => exact absurd hh (ok.here x (List.mem_append_right _ hx))
  | some o => exact b x o (na x hx).1 (na x hx).2 hh
theorem draw_ok (ok : Ok K dkD.p S μ H) (ha : S.L[n]? = some a) (hc : S.L[n + 1]? = some c) (h0 : μ[n]? = some (.deck t)) (h1 : μ[n + 1]? = some .hid) (b : But a c H H') (d : Deck H' a c (t + 1)) : Ok K dkD.p S (μ.set n (.deck (t + 1))) H' := by
  have ex := draw_ex ok ha hc h0 h1 b
  have nd := (List.nodup_append.mp ok.nd).1
  have ln : n < μ.length := (List.getElem?_eq_some_iff.mp h0).1
  have st : ∀ m x, S.L[m]? = some x → m ≠ n → m ≠ n + 1 → H' x = H x := fun m x hx m1 m2 => by
    cases hh : H x with
    | none => exact absurd hh (ok.here x (List.mem_append_left _ (List.mem_of_getElem? hx)))
    | some o => exact b x o (fun z => m1 (nth_inj nd hx (z ▸ ha))) (fun z => m2 (nth_inj nd hx (z ▸ hc))) hh
  refine ⟨by rw [List.length_set]; exact ok.len, ok.nd, fun x hx => ?_, fun m mo x e1 e2 => ?_⟩
  · by_cases xa : x = a
    · rw [xa]; exact d.both.1
    · by_cases xc : x = c
      · rw [xc]; exact d.both.2
      · cases hh : H x with
        | none => exact absurd hh (ok.here x hx)
        | some o =>
          rw [b x o xa xc hh]
          exact fun z => by cases z
  · by_cases hm : m = n
    · subst hm
      rw [List.getElem?_set_self ln] at e1
      cases e1
      obtain rfl : x = a := Option.some.inj (e2.symm.trans ha)
      exact ⟨c, hc, by rw [List.getElem?_set_ne (by omega)]; exact h1, d⟩
    · rw [List.getElem?_set_ne (fun z => hm z.symm)] at e1
      by_cases hm1 : m = n + 1
      · subst hm1
        rw [h1] at e1
        cases e1
        exact True.intro
      · have k := ok.at_ m mo x e1 e2
        have e := st m x e2 hm hm1
        cases mo with
        | lst ds =>
          obtain ⟨vs, k1, k2⟩ := k
          exact ⟨vs, e.trans k1, k2.ex ex⟩
        | deck t2 =>
          obtain ⟨c2, k1, k2, k3⟩ := k
          have m2 : m + 1 ≠ n := fun z => by rw [z, h0] at k2; cases k2
          exact ⟨c2, k1, by rw [List.getElem?_set_ne (fun z => m2 z.symm)]; exact k2, dkD.st e (st (m + 1) c2 k1 m2 (by omega)) k3⟩
        | dct b ks =>
          cases b with
          | false =>
            obtain ⟨kvs, k1, k2⟩ := k
            exact ⟨kvs, e.trans k1, k2.ex ex⟩
          | true =>
            obtain ⟨kvs, k1, k2⟩ := k
            exact ⟨kvs, e.trans k1, k2.ex ex⟩
        | hid => exact True.intro
        | gone => exact True.intro
theorem draw_sp (vs : List V) (H : Hp) (Q : VK) (E : XK) (h : spX K dkD 2 F_draw vs H Q E) : spDraw vs H Q E := by
  obtain ⟨_, ds, S, μ, ok, rep, run⟩ := h
  unfold F_draw at run
  split at run
  · next n k =>
    have run : (match μ[n]? with
      | some (.deck t) => W.chk (1 ≤ k ∧ k < 2000000000000 ∧ t < 1000000000000) (W.any (fun r : Int => 0 ≤ r ∧ r < k) fun r => W.wr (fun μ => μ.set n (.deck (t + 1))) (W.ret (D.int r)))
      | _ => W.fail).run (Post K dkD S μ H Q) (PostX K dkD S μ H E) μ := run
    cases hm : μ[n]? with
    | none => rw [hm] at run; exact run.elim
    | some mo =>
      rw [hm] at run
      cases mo with
      | deck t =>
        obtain ⟨⟨k1, k2, k3⟩, run⟩ := run
        cases rep with
        | cons r1 t1 =>
          cases t1 with
          | cons r2 t2 =>
            cases t2
            cases r2
            cases r1 with
            | @ref _ a ha =>
              obtain ⟨c, hc, h1, d⟩ := ok.at_ n _ a hm ha
              refine ⟨a, c, k, t, rfl, k1, k2, d, k3, fun r H' r0 rk b d' => ?_⟩
              have ok' : Ok K dkD.p S (μ.set n (.deck (t + 1))) H' := draw_ok ok ha hc hm h1 b d'
              exact run r ⟨r0, rk⟩ _ S H' (draw_ex ok ha hc hm h1 b) ok' (.int r)
      | _ => exact run.elim
  · exact run.elim
theorem deck_sp (vs : List V) (H : Hp) (Q : VK) (E : XK) (h : spX K dkD 1 F_deck vs H Q E) : spDeck K vs H Q E := by
  obtain ⟨_, ds, S, μ, ok, rep, run⟩ := h
  unfold F_deck at run
  split at run
  · next ns =>
    obtain ⟨⟨k1, k2⟩, run⟩ := run
    cases rep with
    | cons r1 t1 =>
      cases t1
      cases r1 with
      | @scr _ a ha =>
        refine ⟨a, ns, rfl, ha.sq, k1, k2, fun d c H' sm hd hc dk => ?_⟩
        have fd := ok.fresh hd
        have fc := ok.fresh hc
        have ne := dk.ne2
        have lv : ∀ {x : Addr}, live ⟨S.L ++ [d, c], S.hid⟩ (μ ++ [.deck 0, .hid]) x → live S μ x ∨ x = d ∨ x = c := fun {x} z => by
          rcases z with z | ⟨m, mo, e1, e2, e3⟩
          · exact .inl (.inl z)
          · have e1 : (S.L ++ [d, c])[m]? = some x := e1
            by_cases hm : m < S.L.length
            · rw [List.getElem?_append_left hm] at e1
              rw [List.getElem?_append_left (by rw [← ok.len]; exact hm)] at e2
              exact .inl (.inr ⟨m, mo, e1, e2, e3⟩)
            · rw [List.getElem?_append_right (by omega)] at e1
              have := List.mem_of_getElem? e1
              simp at this
              exact .inr this
        have ex : Ex S μ H ⟨S.L ++ [d, c], S.hid⟩ (μ ++ [.deck 0, .hid]) H' := ⟨⟨[d, c], rfl⟩, rfl, fun x o h nl => ⟨sm x o h, fun z => by
            rcases lv z with z | z | z
            · exact nl z
            · rw [z, hd] at h; cases h
            · rw [z, hc] at h; cases h⟩, fun x hx => by
          cases hh : H x with
          | none => exact absurd hh (ok.here x (List.mem_append_right _ hx))
          | some o => exact sm x o hh⟩
        refine run (.ref d) ⟨S.L ++ [d, c], S.hid⟩ H' ex ⟨?_, ?_, fun x hx => ?_, fun m mo x e1 e2 => ?_⟩ (.ref ?_)
        · show (S.L ++ [d, c]).length = (μ ++ [MO.deck 0, MO.hid]).length
          rw [List.length_append, List.length_append, ok.len]
          rfl
        · show ((S.L ++ [d, c]) ++ S.hid).Nodup
          have nd := ok.nd
          rw [List.append_assoc]
          rw [List.nodup_append] at nd ⊢
          refine ⟨nd.1, ?_, fun x hx y hy z => ?_⟩
          · rw [List.nodup_append]
            refine ⟨by simp [ne], nd.2.1, fun x hx y hy z => ?_⟩
            subst z
            rcases List.mem_cons.mp hx with e | e
            · exact fd (e ▸ List.mem_append_right _ hy)
            · rw [List.mem_singleton] at e
              exact fc (e ▸ List.mem_append_right _ hy)
          · subst z
            rcases List.mem_append.mp hy with hy | hy
            · rcases List.mem_cons.mp hy with e | e
              · exact fd (e ▸ List.mem_append_left _ hx)
              · rw [List.mem_singleton] at e
                exact fc (e ▸ List.mem_append_left _ hx)
            · exact nd.2.2 x hx x hy rfl
        · have hx : x ∈ (S.L ++ [d, c]) ++ S.hid := hx
          have old : x ∈ S.L ++ S.hid → H' x ≠ none := fun z => by
            cases hh : H x with
            | none => exact absurd hh (ok.here x z)
            | some o => rw [sm x o hh]; exact fun z => by cases z
          rcases List.mem_append.mp hx with hx | hx
          · rcases List.mem_append.mp hx with hx | hx
            · exact old (List.mem_append_left _ hx)
            · rcases List.mem_cons.mp hx with e | e
              · rw [e]; exact dk.both.1
              · rw [List.mem_singleton] at e
                rw [e]; exact dk.both.2
          · exact old (List.mem_append_right _ hx)
        · have e2 : (S.L ++ [d, c])[m]? = some x := e2
          by_cases hm : m < S.L.length
          · rw [List.getElem?_append_left hm] at e2
            rw [List.getElem?_append_left (by rw [← ok.len]; exact hm)] at e1
            have st : ∀ j y, S.L[j]? = some y → H' y = H y := fun j y hy => by
              cases hh : H y with
              | none => exact absurd hh (ok.here y (List.mem_append_left _ (List.mem_of_getElem? hy)))
              | some o => exact sm y o hh
            have k := ok.at_ m mo x e1 e2
            have e := st m x e2
            cases mo with
            | lst ds =>
              obtain ⟨vs, k1, k2⟩ := k
              exact ⟨vs, e.trans k1, k2.ex ex⟩
            | deck t2 =>
              obtain ⟨c2, k1, k2, k3⟩ := k
              have l1 := (List.getElem?_eq_some_iff.mp k1).1
              refine ⟨c2, ?_, ?_, dkD.st e (st (m + 1) c2 k1) k3⟩
              · show (S.L ++ [d, c])[m + 1]? = _
                rw [List.getElem?_append_left l1]; exact k1
              · rw [List.getElem?_append_left (by rw [← ok.len]; exact l1)]; exact k2
            | dct b ks =>
              cases b with
              | false =>
                obtain ⟨kvs, k1, k2⟩ := k
                exact ⟨kvs, e.trans k1, k2.ex ex⟩
              | true =>
                obtain ⟨kvs, k1, k2⟩ := k
                exact ⟨kvs, e.trans k1, k2.ex ex⟩
            | hid => exact True.intro
            | gone => exact True.intro
          · have hl := ok.len
            rw [List.getElem?_append_right (by omega)] at e1 e2
            rw [← hl] at e1
            generalize hj : m - S.L.length = j at e1 e2
            match j, e1, e2 with
            | 0, e1, e2 =>
              cases e1
              cases e2
              have hm2 : m = S.L.length := by omega
              subst hm2
              refine ⟨c, ?_, ?_, dk⟩
              · show (S.L ++ [_, c])[S.L.length + 1]? = _
                rw [List.getElem?_append_right (by omega)]
                simp
              · rw [hl, List.getElem?_append_right (by omega)]
                simp
            | 1, e1, e2 =>
              cases e1
              exact True.intro
            | j + 2, e1, e2 => cases e1
        · show (S.L ++ [d, c])[μ.length]? = _
          rw [← ok.len, List.getElem?_append_right (by omega), Nat.sub_self]
          rfl
  · exact run.elim
end
/-- the law's promise, from what its data say -/
theorem law_sp {K : PySem.W.Frag} {F : List D → W D} {H : Hp} {a : Addr} {ns : List Int} (hO : Only H) (hS : SqL K H a (ns.map V.int))
    (run : (F [.scr ns]).run (fun d _ => d = .bl true) (fun _ _ => False) []) : spX K dkD 1 F [.ref a] H (fun v _ => v = .bl true) fun _ _ _ => False := by
  refine ⟨rfl, [.scr ns], ⟨[], []⟩, [], ⟨rfl, List.nodup_nil, fun x hx => (by simp at hx), fun m mo x e => (by simp at e)⟩, .cons (.scr ?_) .nil, (F [.scr ns]).mono (fun d μ' e v S' H' _ _ r => ?_) (fun _ _ z => z.elim) run⟩
  · rcases hS with h | h
    · refine .inl ⟨h, ?_⟩
      rintro (z | ⟨m, mo, e, _⟩)
      · simp at z
      · simp at e
    · exact .inr (.inr h)
  · subst e
    cases r
    rfl
end DL

/-! int and repr of whole numbers of up to 4300 figures, as rules -/
namespace X21
open PySem PySem.Spec PyProof.Rows L2 Kit PySem.W PySem.NumText
section
variable {prog : Program} {w : World} {A : Around} {E : Value → Shared → Prop} {s : Shared} {a : Int} {t : Tok}
theorem obj_long {Q : Value → Shared → Prop} (nd : s.heap.NoDigits) (ha : a.natAbs < 10 ^ 4300) (h : Q (.str (toString a) s.toks) { s with toks := s.toks + 1 }) : wpAny (model prog w) A (pyReprObj (.int a t)) Q E s := by
  have ty := typeIs_int s a t
  have hv : ([Value.int a t]).any Value.onHeap = false := rfl
  unfold pyReprObj
  simp only [cRoomFor, hv, Bool.false_eq_true, if_false, pure_bind]
  refine wpAny_bind (wpAny_specialOf (name := Str.ofString "__repr__") ty F.slot_int_repr.lookup (wpAny_bind (m := callSpecialIfBound? (.int a t) (Str.ofString "__repr__")) (wpAny_callSpecialIfBound?_slot (name := Str.ofString "__repr__") ty F.slot_int_repr
    (wpAny_call (codeAny_call_builtin F.slot_int_repr.plain F.entry_int_repr (F.slot_int_repr.check _ _ _ _ _ _ _ _ ty (F.args_int_repr_1 _) ?_))))))
  show wpAny _ _ (do let r ← Builtin.overDigitLimit? a; _) _ _ s
  refine wpAny_bind (overDigitLimit_any nd (fun _ => ?_) fun hge => absurd hge (Nat.not_le.mpr ha))
  refine wpAny_bind (wpAny_mkStr (wpAny_pure ?_) (int_text_fits10 ha))
  exact wpAny_bind (wpAny_isInstance (T := "str") (b := true) rfl isSubtype_str_str (wpAny_pure h))
theorem k_long {h0 : Heap} {d : Nat} (nd : h0.NoDigits) (ha : a.natAbs < 10 ^ 4300) : ReprK prog w [] h0 d (.int a t) (toString a) := fun base hb A g E s Q hg hcl hu hk hQ => by
  rw [pyReprUnder_leaf (v := .int a t) (by omega) (fun _ e => nomatch e)]
  unfold pyRepr
  exact wpAny_bind (obj_long (nd.keeps hk) ha (wpAny_pure (hQ s.heap _ fun _ _ e => e)))
end
section
variable {X : Cx}
theorem call_reprL (nd : X.base.NoDigits) (hq : Qt X.A) (hu : X.A.units + 200 < cLine) : CallR X (.builtin "repr") (fun xs H Q => ∃ (p : Addr) (z : Str) (n : Int), xs = [.ref p] ∧ SqT X.K H p [.str z, .int n] ∧ n.natAbs < 10 ^ 4300 ∧
    (PyData.tuple [.str z, .int n]).shown.length ≤ sizeLine ∧ Q (.str (PyData.tuple [.str z, .int n]).shown) H) := by
  intro pins s σ H xs us Q I r ⟨p, z, n, ex, hT, hn, hz, q⟩
  subst ex
  obtain ⟨u, rfl, ru⟩ := vals1 r
  obtain rfl : u = Value.ref p := ru
  obtain ⟨its, rv, ⟨o, ho, hc, m, hd⟩, _⟩ := I.tuple hT
  obtain ⟨u1, u2, rfl, ⟨t1, rfl⟩, ⟨t2, rfl⟩⟩ := vals2 rv
  have hz2 : (tupleText [reprText z, toString n]).length ≤ sizeLine := hz
  have hs1 : (reprText z).length ≤ sizeLine := Nat.le_trans (tupleText_mem_le List.mem_cons_self) hz2
  have hd2 : o.data = .seq [Value.str z t1, Value.int n t2].toArray m := hd
  have K2 : ReprAllK X.prog X.w [] s.heap 0 [Value.str z t1, Value.int n t2] [reprText z, toString n] := .cons (.of_is (ReprIs.str z t1 hs1) _ _ _) (.cons (k_long (nd.keeps I.bk) hn) .nil)
  refine call_repr_slot (by omega) ⟨o, ho, hc⟩ F.slot_tuple_repr (call_tuple_reprK (h₀ := s.heap) ho hc hd2 (by simp) K2 (A := X.A.in1) (show X.A.in1.guards = some [] from hq) (fun b _ => Clear.nil b) (by show X.A.units + 1 + (0 + 1) < cLine; omega) (fun _ _ e => e) (fun h' u tk hk => ?_) hz2)
  exact ⟨_, _, rfl, .str _, H, I.kept hk, ⟨_, rfl⟩, q⟩
theorem call_intL (nd : X.base.NoDigits) : CallR X (.type "int") (fun xs H Q => ∃ (z : Str) (n : Int), xs = [.str z] ∧ PySem.intText? z = some n ∧ (z.length ≤ 640 ∨ (¬ (numSeenOf z).length ≤ 640 ∧ z.length ≤ sizeLine)) ∧ Q (.int n) H) := by
  intro pins s σ H xs us Q I r ⟨z, n, ex, hn, hl, q⟩
  subst ex
  obtain ⟨u, rfl, t, rfl⟩ := vals1 r
  rcases hl with hl | ⟨lg, hl⟩
  · exact KIN.call_text hn hl ⟨.int n, H, I.tok _, ⟨_, rfl⟩, q⟩
  · rcases read4300 z hl with ⟨m, e1, e2, e3⟩ | ⟨e1, _⟩
    · obtain rfl : m = n := Option.some.inj (e1.symm.trans hn)
      exact call_int_1 (X20.meets_long (u := t) lg e3 e2) ⟨nd.keeps I.bk, rfl, .int m, H, I.tok _, ⟨_, rfl⟩, q⟩
    · rw [e1] at hn
      cases hn
end
/-! over data -/
open DL
def gIntL : D → W D
  | .str z => W.chk (z.length ≤ 640 ∨ (¬ (numSeenOf z).length ≤ 640 ∧ z.length ≤ sizeLine)) (W.bnd (W.opt (PySem.intText? z)) fun n => W.ret (.int n))
  | d => gInt d
def rIntL : V → Hp → VK → Prop := fun x H Q => (∃ (z : Str) (n : Int), x = .str z ∧ PySem.intText? z = some n ∧ (z.length ≤ 640 ∨ (¬ (numSeenOf z).length ≤ 640 ∧ z.length ≤ sizeLine)) ∧ Q (.int n) H) ∨ (∃ i, x = .int i ∧ Q (.int i) H) ∨ (∃ k, x = .bl k ∧ Q (.int (if k then 1 else 0)) H)
theorem k_intL {X : Cx} (nd : X.base.NoDigits) : CallR X (.type "int") (fun xs H Q => ∃ x, xs = [x] ∧ rIntL x H Q) :=
  CallR.imp (DL.CallR.or (call_intL nd) call_int1) fun _ _ _ ⟨x, e, h⟩ => by
    subst e
    rcases h with ⟨z, n, rfl, h⟩ | ⟨i, rfl, h⟩ | ⟨k, rfl, h⟩
    · exact .inl ⟨z, n, rfl, h⟩
    · exact .inr (.inl ⟨i, rfl, h⟩)
    · exact .inr (.inr ⟨k, rfl, h⟩)
theorem l_intL {K : PySem.W.Frag} {dk : DK} : LRC K dk (fun xs H Q => ∃ x, xs = [x] ∧ rIntL x H Q) (c1 gIntL) := LV1.call fun {x dx S μ H Q E} ok rx q => by
  cases dx with
  | str z =>
    cases rx
    obtain ⟨hc, q⟩ := q
    have q : ((W.opt (PySem.intText? z)).bnd fun n => W.ret (D.int n)).run (Post K dk S μ H Q) E μ := q
    cases hn : PySem.intText? z with
    | none => rw [hn] at q; exact q.elim
    | some n =>
      rw [hn] at q
      exact .inl ⟨z, n, rfl, hn, hc, q _ S H Ex.refl ok (.int _)⟩
  | int i =>
    cases rx
    exact .inr (.inl ⟨i, rfl, q _ S H Ex.refl ok (.int _)⟩)
  | bl k =>
    cases rx
    exact .inr (.inr ⟨k, rfl, q _ S H Ex.refl ok (.int _)⟩)
  | _ => exact q.elim
def twoL : D → Option (Str × Int)
  | .tup [.str z, .int n] => some (z, n)
  | _ => none
def gReprL (d : D) : W D := match twoL d with
  | some (z, n) => W.chk (n.natAbs < 10 ^ 4300 ∧ (PyData.tuple [.str z, .int n]).shown.length ≤ sizeLine) (W.ret (.str (PyData.tuple [.str z, .int n]).shown))
  | none => gRepr d
theorem twoL_eq {d : D} {z : Str} {n : Int} (h : twoL d = some (z, n)) : d = .tup [.str z, .int n] := by
  unfold twoL at h
  split at h
  · cases h; rfl
  · cases h
def rReprL (K : PySem.W.Frag) : V → Hp → VK → Prop := fun x H Q => (∃ (p : Addr) (z : Str) (n : Int), x = .ref p ∧ SqT K H p [.str z, .int n] ∧ n.natAbs < 10 ^ 4300 ∧ (PyData.tuple [.str z, .int n]).shown.length ≤ sizeLine ∧ Q (.str (PyData.tuple [.str z, .int n]).shown) H) ∨ rRepr1 K x H Q
theorem k_reprL {X : Cx} (nd : X.base.NoDigits) (hq : Qt X.A) (hu : X.A.units + 200 < cLine) : CallR X (.builtin "repr") (fun xs H Q => ∃ x, xs = [x] ∧ rReprL X.K x H Q) :=
  CallR.imp (DL.CallR.or (call_reprL nd hq hu) (k_repr hq hu)) fun _ _ _ ⟨x, e, h⟩ => by
    subst e
    rcases h with ⟨p, z, n, rfl, h⟩ | h
    · exact .inl ⟨p, z, n, rfl, h⟩
    · exact .inr ⟨x, rfl, h⟩
theorem l_reprL {K : PySem.W.Frag} {dk : DK} : LRC K dk (fun xs H Q => ∃ x, xs = [x] ∧ rReprL K x H Q) (c1 gReprL) := LV1.call fun {x dx S μ H Q E} ok rx q => by
  unfold gReprL at q
  split at q
  · next z n h =>
    rw [twoL_eq h] at rx
    rcases rx with _ | _ | _ | _ | _ | _ | @⟨_, a, vs, hx, rx⟩
    cases rx with
    | cons r1 t1 =>
      cases t1 with
      | cons r2 t2 =>
        cases t2
        cases r1
        cases r2
        exact .inl ⟨a, z, n, rfl, hx.sq, q.1.1, q.1.2, q.2 _ S H Ex.refl ok (.str _)⟩
  · obtain ⟨h1, q⟩ := q
    have q : ((pyW dx).bnd fun p => W.chk (p.showable = true ∧ p.depth ≤ 150 ∧ p.shown.length ≤ sizeLine) (W.ret (D.str p.shown))).run (Post K dk S μ H Q) E μ := q
    obtain ⟨p, h2, q⟩ := pyW_run (Q := fun p μ' => (W.chk (p.showable = true ∧ p.depth ≤ 150 ∧ p.shown.length ≤ sizeLine) (W.ret (D.str p.shown))).run (Post K dk S μ H Q) E μ') q
    refine .inr ?_
    have ⟨a, ea⟩ : ∃ a, x = .ref a := by
      cases dx <;> first | (cases h1; done) | skip
      · rcases rx with _ | _ | _ | _ | _ | _ | @⟨_, a, vs, hx, rx⟩
        exact ⟨a, rfl⟩
      · obtain ⟨a, vs, rfl, _⟩ := rx
        exact ⟨a, rfl⟩
    subst ea
    exact ⟨a, p, rfl, pyv_dp rx h2, q.1.1, py_noDict h2, q.1.2.1, q.1.2.2, q.2 _ S H Ex.refl ok (.str _)⟩
/-! str(None) besides -/
def gStrN : D → W D
  | .non => W.ret (.str "None")
  | d => gStr d
def rStrN : V → Hp → VK → Prop := fun x H Q => (x = .non ∧ Q (.str "None") H) ∨ (∃ i, x = .int i ∧ i.natAbs.log2 < 1920 ∧ Q (.str (toString i)) H) ∨ ∃ a, x = .str a ∧ Q (.str a) H
theorem k_strN {X : Cx} : CallR X (.type "str") (fun xs H Q => ∃ x, xs = [x] ∧ rStrN x H Q) := fun pins s σ H xs us Q I r ⟨x, e, h⟩ => by
  subst e
  rcases h with ⟨rfl, q⟩ | h
  · obtain ⟨u, rfl, ru⟩ := vals1 r
    obtain rfl : u = Value.none := ru
    exact P.str_of_none ⟨.str "None", H, I.tok _, ⟨_, rfl⟩, q⟩
  · exact k_str pins s σ H [x] us Q I r ⟨x, rfl, h⟩
theorem l_strN {K : PySem.W.Frag} {dk : DK} : LRC K dk (fun xs H Q => ∃ x, xs = [x] ∧ rStrN x H Q) (c1 gStrN) := LV1.call fun {x dx S μ H Q E} ok rx q => by
  cases dx with
  | non =>
    cases rx
    exact .inl ⟨rfl, q _ S H Ex.refl ok (.str _)⟩
  | int i =>
    cases rx
    exact .inr (.inl ⟨i, rfl, q.1, q.2 _ S H Ex.refl ok (.str _)⟩)
  | str z =>
    cases rx
    exact .inr (.inr ⟨z, rfl, q _ S H Ex.refl ok (.str _)⟩)
  | _ => exact q.elim
end X21

namespace K68
open PySem PySem.Spec PyProof.Rows L2 Kit DL
def topS (i : Nat) : Stmt := PySem.Challenge.pw_wiretongue_k68_texts_of_no_thing.main.body.getD i (.Pass ⟨0, 0, 0, 0⟩)
abbrev s_NoText_init : Stmt := inClass (topS 2) 0
abbrev N_NoText_init : List Str := ["self", "place"]
theorem S_NoText_init : FnScope N_NoText_init ["self", "place"] (defScope s_NoText_init) := ⟨rfl, rfl, rfl, by decide +kernel, rfl, by decide +kernel, by decide +kernel⟩
abbrev s_is_shown_number : Stmt := topS 8
abbrev N_is_shown_number : List Str := ["word", "figures", "sign"]
theorem S_is_shown_number : FnScope N_is_shown_number ["word"] (defScope s_is_shown_number) := ⟨rfl, rfl, rfl, by decide +kernel, rfl, by decide +kernel, by decide +kernel⟩
abbrev s_is_shown_text : Stmt := topS 9
abbrev N_is_shown_text : List Str := ["word", "sign"]
theorem S_is_shown_text : FnScope N_is_shown_text ["word"] (defScope s_is_shown_text) := ⟨rfl, rfl, rfl, by decide +kernel, rfl, by decide +kernel, by decide +kernel⟩
abbrev s_read_word : Stmt := topS 10
abbrev N_read_word : List Str := ["word", "k"]
theorem S_read_word : FnScope N_read_word ["word", "k"] (defScope s_read_word) := ⟨rfl, rfl, rfl, by decide +kernel, rfl, by decide +kernel, by decide +kernel⟩
abbrev s_read_thing : Stmt := topS 11
abbrev N_read_thing : List Str := ["text", "words", "parts", "k", "word", "told"]
theorem S_read_thing : FnScope N_read_thing ["text"] (defScope s_read_thing) := ⟨rfl, rfl, rfl, by decide +kernel, rfl, by decide +kernel, by decide +kernel⟩
abbrev s_l_deck : Stmt := topS 13
abbrev N_l_deck : List Str := ["_law_script", "_law_cells", "_law_seed", "_law_cell"]
theorem S_l_deck : FnScope N_l_deck ["_law_script"] (defScope s_l_deck) := ⟨rfl, rfl, rfl, by decide +kernel, rfl, by decide +kernel, by decide +kernel⟩
abbrev s_l_draw : Stmt := topS 14
abbrev N_l_draw : List Str := ["_law_deck_here", "_law_sides", "_law_at", "_law_number", "_law_cell"]
theorem S_l_draw : FnScope N_l_draw ["_law_deck_here", "_law_sides"] (defScope s_l_draw) := ⟨rfl, rfl, rfl, by decide +kernel, rfl, by decide +kernel, by decide +kernel⟩
abbrev s_l_thing : Stmt := topS 15
abbrev N_l_thing : List Str := ["_law_deck_here", "_law_deep", "_law_way", "_law_k", "_law_signs", "_law_some"]
theorem S_l_thing : FnScope N_l_thing ["_law_deck_here", "_law_deep"] (defScope s_l_thing) := ⟨rfl, rfl, rfl, by decide +kernel, rfl, by decide +kernel, by decide +kernel⟩
abbrev s_l_words_of : Stmt := topS 16
abbrev N_l_words_of : List Str := ["_law_thing_here", "_law_found", "_law_part"]
theorem S_l_words_of : FnScope N_l_words_of ["_law_thing_here"] (defScope s_l_words_of) := ⟨rfl, rfl, rfl, by decide +kernel, rfl, by decide +kernel, by decide +kernel⟩
abbrev s_l_is_number : Stmt := topS 17
abbrev N_l_is_number : List Str := ["_law_word", "_law_figures", "_law_sign"]
theorem S_l_is_number : FnScope N_l_is_number ["_law_word"] (defScope s_l_is_number) := ⟨rfl, rfl, rfl, by decide +kernel, rfl, by decide +kernel, by decide +kernel⟩
abbrev s_l_read : Stmt := topS 18
abbrev N_l_read : List Str := ["_law_line", "_law_words", "_law_open_ones", "_law_k", "_law_word", "_law_alone", "_law_shut", "_law_said"]
theorem S_l_read : FnScope N_l_read ["_law_line"] (defScope s_l_read) := ⟨rfl, rfl, rfl, by decide +kernel, rfl, by decide +kernel, by decide +kernel⟩
abbrev s_l_heard : Stmt := topS 19
abbrev N_l_heard : List Str := ["_law_line", "_law_found", "e"]
theorem S_l_heard : FnScope N_l_heard ["_law_line"] (defScope s_l_heard) := ⟨rfl, rfl, rfl, by decide +kernel, rfl, by decide +kernel, by decide +kernel⟩
abbrev s_l_right : Stmt := topS 20
abbrev N_l_right : List Str := ["_law_line", "_law_due"]
theorem S_l_right : FnScope N_l_right ["_law_line"] (defScope s_l_right) := ⟨rfl, rfl, rfl, by decide +kernel, rfl, by decide +kernel, by decide +kernel⟩
abbrev s_l_bent : Stmt := topS 21
abbrev N_l_bent : List Str := ["_law_deck_here", "_law_line", "_law_way", "_law_words", "_law_spot", "_law_at", "_law_some", "_law_word", "_law_sign", "_law_two", "_law_rows", "_law_said"]
theorem S_l_bent : FnScope N_l_bent ["_law_deck_here", "_law_line", "_law_way"] (defScope s_l_bent) := ⟨rfl, rfl, rfl, by decide +kernel, rfl, by decide +kernel, by decide +kernel⟩
abbrev s_law : Stmt := topS 22
abbrev N_law : List Str := ["_law_script", "_law_deck_here", "_law_fixed", "_law_line", "_law_turn", "_law_ways", "_law_k", "_law_way", "_law_more", "_law_twice", "_law_bent_here"]
theorem S_law : FnScope N_law ["_law_script"] (defScope s_law) := ⟨rfl, rfl, rfl, by decide +kernel, rfl, by decide +kernel, by decide +kernel⟩
structure Bi (mg : Str → Option Value) : Prop where
  isinstance_ : mg "isinstance" = none
  len_ : mg "len" = none
  list_ : mg "list" = none
  range_ : mg "range" = none
  repr_ : mg "repr" = none
  enumerate_ : mg "enumerate" = none
  tuple_ : mg "tuple" = none
  int_ : mg "int" = none
  str_ : mg "str" = none
  all_ : mg "all" = none
  ValueError_ : mg "ValueError" = none
structure Tp (mg : Str → Option Value) : Prop where
  c_FIGURES : ∃ u, mg "FIGURES" = some u ∧ RelV (.str "0123456789") u
  c_MOST_FIGURES : ∃ u, mg "MOST_FIGURES" = some u ∧ RelV (.int 4000) u
/-- what isinstance says of a NoText -/
def is68 (cW cN cP : Addr) : D → Option Bool
  | .ty "ValueError" => some true
  | .tup [.adr a, .adr b, .adr c] => if a = cW ∧ b = cN ∧ c = cP then some false else none
  | _ => none
structure Xc (P : Program) (w : World) (K : PySem.W.Frag) (mg : Str → Option Value) (base : Heap) (cNoText cWireError cNoName cNoPath : Addr) : Prop where
  NoText : ExR P w K mg base 1 "NoText" cNoText ["place"]
  NoText_xf : XfC K cNoText
  NoText_place : PySem.W.findIn K (.ref cNoText) "place" = some none
  NoText_me : PySem.W.exmOne K (.ref cNoText) (.ref cNoText) = some true
  NoText_i : ExI K cNoText
  g_NoText : mg "NoText" = some (.ref cNoText)
  g_WireError : mg "WireError" = some (.ref cWireError)
  g_NoName : mg "NoName" = some (.ref cNoName)
  g_NoPath : mg "NoPath" = some (.ref cNoPath)
  isok : IsOk K cNoText (is68 cWireError cNoName cNoPath)
abbrev F_l_draw := F_draw
abbrev F_l_deck := F_deck
noncomputable def B_is_shown_number : DS → W Fl :=
  (sSeq (sSet 1 (dIfE (dB (dM1 gStarts (dV 0) (dC (.str "-")))) (dSl (dV 0) (dPart (dC (.int 1))) dNoPart) (dV 0)))
  (sSeq (sIf (dOr (dNot (dB (dChain gLe gLe (dC (.int 1)) (dCall (c1 gLen) (aCons (dV 1) aNil)) (dC (.int 4000))))) (dNot (dB (dCall (c1 (gBs fun bs => bs.all id)) (aCons (dLc [2] (iOf its (dV 1)) (gN 2) dTrue (dOp (s2 (gIn false)) (dV 2) (dC (.str "0123456789")))) aNil)))))
  (sRet (dC (.bl false)))
  sNil)
  (sRet (dOrV (dOp (s2 (gE2 true)) (dOp (s2 gIx) (dV 1) (dC (.int 0))) (dC (.str "0"))) (dOp (s2 (gE2 false)) (dV 0) (dC (.str "0")))))))
noncomputable def F_is_shown_number : List D → W D := defW 2 (B_is_shown_number)
noncomputable def B_is_shown_text : DS → W Fl :=
  (sRet (dAndV (dM1 gStarts (dV 0) (dC (.str "'"))) (dAndV (dOp gGt (dCall (c1 gLen) (aCons (dV 0) aNil)) (dC (.int 1))) (dCall (c1 (gBs fun bs => bs.all id)) (aCons (dLc [1] (iOf its (dV 0)) (gN 1) dTrue (dChain gLe gLe (dC (.str "!")) (dV 1) (dC (.str "~")))) aNil)))))
noncomputable def F_is_shown_text : List D → W D := defW 1 (B_is_shown_text)
noncomputable def B_read_word (cNoText : Addr) : DS → W Fl :=
  (sSeq (sIf (dB (dOp (s2 (gE2 false)) (dV 0) (dC (.str "none"))))
  (sRet (dC .non))
  sNil)
  (sSeq (sIf (dB (dOwn 1 F_is_shown_text (aCons (dV 0) aNil)))
  (sRet (dSl (dV 0) (dPart (dC (.int 1))) dNoPart))
  sNil)
  (sSeq (sIf (dNot (dB (dOwn 1 F_is_shown_number (aCons (dV 0) aNil))))
  (sRaise cNoText ["place"] (aCons (dTup (aCons (dC (.int 0)) (aCons (dV 1) aNil))) aNil))
  sNil)
  (sRet (dCall (c1 X21.gIntL) (aCons (dV 0) aNil))))))
noncomputable def F_read_word (cNoText : Addr) : List D → W D := defW 0 (B_read_word cNoText)
noncomputable def L_read_thing_1 (cNoText : Addr) : DS → W Fl :=
  (sSeq (sIf (dOr (dTru (dOp (s2 gIx) (dV 2) (dC (.int 0)))) (dAnd (dB (dOp (s2 (gE2 false)) (dV 4) (dC (.str ")")))) (dB (dOp (s2 (gE2 false)) (dCall (c1 gLen) (aCons (dV 2) aNil)) (dC (.int 1))))))
  (sRaise cNoText ["place"] (aCons (dTup (aCons (dC (.int 0)) (aCons (dV 3) aNil))) aNil))
  sNil)
  (sIf (dB (dOp (s2 (gE2 false)) (dV 4) (dC (.str "("))))
  (sExpr (dMet gAppend (dV 2) (aCons (dLstM aNil) aNil)))
  (sIf (dB (dOp (s2 (gE2 false)) (dV 4) (dC (.str ")"))))
  (sSeq (sSet 5 (dCall (c1 gTuple) (aCons (dMet gPop (dV 2) aNil) aNil)))
  (sExpr (dMet gAppend (dOp (s2 gIx) (dV 2) (dUn gNeg (dC (.int 1)))) (aCons (dV 5) aNil))))
  (sExpr (dMet gAppend (dOp (s2 gIx) (dV 2) (dUn gNeg (dC (.int 1)))) (aCons (dOwn 2 (F_read_word cNoText) (aCons (dV 4) (aCons (dV 3) aNil))) aNil))))))
noncomputable def B_read_thing (cNoText : Addr) : DS → W Fl :=
  (sSeq (sIf (dNot (dB (dCall (c2 gIs1) (aCons (dV 0) (aCons (dC (.ty "str")) aNil)))))
  (sRaise cNoText ["place"] (aCons (dTup (aCons (dC (.int 0)) (aCons (dC (.int 0)) aNil))) aNil))
  sNil)
  (sSeq (sSet 1 (dM1 gSplit (dV 0) (dC (.str " "))))
  (sSeq (sSet 2 (dLstM (aCons (dLstM aNil) aNil)))
  (sSeq (sFor (iOf (gIts .L gEnum) (aCons (dV 1) aNil)) (gTp 2 (gCn (gN 3) (gCn (gN 4) gNl)))
  (L_read_thing_1 cNoText))
  (sSeq (sIf (dB (dOp gGt (dCall (c1 gLen) (aCons (dV 2) aNil)) (dC (.int 1))))
  (sRaise cNoText ["place"] (aCons (dTup (aCons (dC (.int 0)) (aCons (dCall (c1 gLen) (aCons (dV 1) aNil)) aNil))) aNil))
  sNil)
  (sRet (dOp (s2 gIx) (dOp (s2 gIx) (dV 2) (dC (.int 0))) (dC (.int 0)))))))))
noncomputable def F_read_thing (cNoText : Addr) : List D → W D := defW 5 (B_read_thing cNoText)
noncomputable def B_l_thing (self : List D → W D) : DS → W Fl :=
  (sSeq (sSet 2 (dOwn 2 F_l_draw (aCons (dV 0) (aCons (dC (.int 7)) aNil))))
  (sSeq (sIf (dAnd (dB (dOp gGt (dV 1) (dC (.int 0)))) (dB (dOp gLt (dV 2) (dC (.int 3)))))
  (sRet (dCall (c1 gTuple) (aCons (dLc [3] (iOf rng1 (aCons (dOwn 2 F_l_draw (aCons (dV 0) (aCons (dC (.int 5)) aNil))) aNil)) (gN 3) dTrue (dOwn 2 self (aCons (dV 0) (aCons (dOp gSub (dV 1) (dC (.int 1))) aNil)))) aNil)))
  sNil)
  (sSeq (sIf (dB (dOp (s2 (gE2 false)) (dV 2) (dC (.int 3))))
  (sRet (dC .non))
  sNil)
  (sSeq (sIf (dB (dOp (s2 (gE2 false)) (dV 2) (dC (.int 4))))
  (sSeq (sSet 4 (dC (.str "!\"#$&'()*+,-./0123456789:;<=>?@AZ[\\]^_`az{|}~")))
  (sRet (dJoin (dC (.str "")) (dLc [3] (iOf rng1 (aCons (dOp (s2 gAdd) (dC (.int 1)) (dOwn 2 F_l_draw (aCons (dV 0) (aCons (dC (.int 6)) aNil)))) aNil)) (gN 3) dTrue (dOp (s2 gIx) (dV 4) (dOwn 2 F_l_draw (aCons (dV 0) (aCons (dCall (c1 gLen) (aCons (dV 4) aNil)) aNil))))))))
  sNil)
  (sSeq (sIf (dB (dOp (s2 (gE2 false)) (dV 2) (dC (.int 5))))
  (sRet (dOp (s2 gIx) (dLst (aCons (dC (.str "none")) (aCons (dC (.str "(")) (aCons (dC (.str ")")) (aCons (dC (.str "'")) (aCons (dC (.str "-1")) (aCons (dC (.str "0")) (aCons (dC (.str "gate")) (aCons (dC (.str "and")) aNil))))))))) (dOwn 2 F_l_draw (aCons (dV 0) (aCons (dC (.int 8)) aNil)))))
  sNil)
  (sSeq (sSet 5 (dLst (aCons (dC (.int 0)) (aCons (dC (.int 9)) (aCons (dC (.int 10)) (aCons (dC (.int 99)) (aCons (dC (.int 100)) (aCons (dOwn 2 F_l_draw (aCons (dV 0) (aCons (dC (.int 1000)) aNil))) (aCons (dOp gSub (dOp gPow (dC (.int 10)) (dC (.int 39))) (dOwn 2 F_l_draw (aCons (dV 0) (aCons (dC (.int 9)) aNil)))) (aCons (dOwn 2 F_l_draw (aCons (dV 0) (aCons (dOp gPow (dC (.int 10)) (dC (.int 12))) aNil))) aNil))))))))))
  (sRet (dOp (s2 gMul) (dOp (s2 gIx) (dV 5) (dOwn 2 F_l_draw (aCons (dV 0) (aCons (dC (.int 8)) aNil)))) (dOp (s2 gIx) (dLst (aCons (dC (.int 1)) (aCons (dUn gNeg (dC (.int 1))) aNil))) (dOwn 2 F_l_draw (aCons (dV 0) (aCons (dC (.int 2)) aNil))))))))))))
noncomputable def F_l_thing : Nat → List D → W D
  | 0 => fun _ => W.fail
  | n + 1 => defW 4 (B_l_thing (F_l_thing n))
noncomputable def L_l_words_of_1 (self : List D → W D) : DS → W Fl :=
  (sSet 1 (dOp (s2 gAdd) (dV 1) (dOwn 1 self (aCons (dV 2) aNil))))
noncomputable def B_l_words_of (self : List D → W D) : DS → W Fl :=
  (sSeq (sIf (dB (dCall (c2 gIs1) (aCons (dV 0) (aCons (dC (.ty "tuple")) aNil))))
  (sSeq (sSet 1 (dLst (aCons (dC (.str "(")) aNil)))
  (sSeq (sFor (iOf its (dV 0)) (gN 2)
  (L_l_words_of_1 self))
  (sRet (dOp (s2 gAdd) (dV 1) (dLst (aCons (dC (.str ")")) aNil))))))
  sNil)
  (sRet (dLst (aCons (dOp (s2 gIx) (dLst (aCons (dC (.str "none")) (aCons (dOp (s2 gAdd) (dC (.str "'")) (dCall (c1 X21.gStrN) (aCons (dV 0) aNil))) (aCons (dCall (c1 X21.gStrN) (aCons (dV 0) aNil)) aNil)))) (dOp (s2 gAdd) (dCall (c1 X21.gIntL) (aCons (dOp (gIsN true) (dV 0) (dC .non)) aNil)) (dCall (c1 X21.gIntL) (aCons (dCall (c2 gIs1) (aCons (dV 0) (aCons (dC (.ty "int")) aNil))) aNil)))) aNil))))
noncomputable def F_l_words_of : Nat → List D → W D
  | 0 => fun _ => W.fail
  | n + 1 => defW 2 (B_l_words_of (F_l_words_of n))
noncomputable def B_l_is_number : DS → W Fl :=
  (sSeq (sSet 1 (dSl (dV 0) (dPart (dCall (c1 X21.gIntL) (aCons (dOp (s2 (gE2 false)) (dSl (dV 0) dNoPart (dPart (dC (.int 1)))) (dC (.str "-"))) aNil))) dNoPart))
  (sSeq (sIf (dOr (dNot (dB (dChain gLe gLe (dC (.int 1)) (dCall (c1 gLen) (aCons (dV 1) aNil)) (dC (.int 4000))))) (dB (dOp (s2 (gE2 true)) (dLc [2] (iOf its (dV 1)) (gN 2) (dB (dOp (s2 (gIn true)) (dV 2) (dC (.str "0123456789")))) (dV 2)) (dLst aNil))))
  (sRet (dC (.bl false)))
  sNil)
  (sRet (dOrV (dOp (s2 (gE2 false)) (dV 0) (dC (.str "0"))) (dOp (s2 (gE2 true)) (dOp (s2 gIx) (dV 1) (dC (.int 0))) (dC (.str "0")))))))
noncomputable def F_l_is_number : List D → W D := defW 2 (B_l_is_number)
noncomputable def L_l_read_1 : DS → W Fl :=
  (sSeq (sSet 5 (dOrV (dOp (s2 (gE2 false)) (dV 4) (dC (.str "none"))) (dOrV (dAndV (dOp (s2 (gE2 false)) (dSl (dV 4) dNoPart (dPart (dC (.int 1)))) (dC (.str "'"))) (dAndV (dOp gGt (dCall (c1 gLen) (aCons (dV 4) aNil)) (dC (.int 1))) (dOp (s2 (gIn true)) (dC (.str "\n")) (dV 4)))) (dOwn 1 F_l_is_number (aCons (dV 4) aNil)))))
  (sSeq (sIf (dOr (dAnd (dB (dOp (s2 (gE2 false)) (dCall (c1 gLen) (aCons (dV 2) aNil)) (dC (.int 1)))) (dOr (dB (dOp (s2 (gE2 true)) (dOp (s2 gIx) (dV 2) (dC (.int 0))) (dLst aNil))) (dB (dOp (s2 (gE2 false)) (dV 4) (dC (.str ")")))))) (dAnd (dNot (dB (dV 5))) (dB (dOp (s2 (gIn true)) (dV 4) (dTup (aCons (dC (.str "(")) (aCons (dC (.str ")")) aNil)))))))
  (sRet (dTup (aCons (dC (.str "place")) (aCons (dV 3) aNil))))
  sNil)
  (sIf (dB (dOp (s2 (gE2 false)) (dV 4) (dC (.str "("))))
  (sExpr (dMet gAppend (dV 2) (aCons (dLstM aNil) aNil)))
  (sIf (dB (dOp (s2 (gE2 false)) (dV 4) (dC (.str ")"))))
  (sSeq (sSet 6 (dCall (c1 gTuple) (aCons (dMet gPop (dV 2) aNil) aNil)))
  (sExpr (dMet gAppend (dOp (s2 gIx) (dV 2) (dUn gNeg (dC (.int 1)))) (aCons (dV 6) aNil))))
  (sSeq (sSet 7 (dIfE (dB (dOp (s2 (gE2 false)) (dOp (s2 gIx) (dV 4) (dC (.int 0))) (dC (.str "'")))) (dSl (dV 4) (dPart (dC (.int 1))) dNoPart) (dC .non)))
  (sExpr (dMet gAppend (dOp (s2 gIx) (dV 2) (dUn gNeg (dC (.int 1)))) (aCons (dIfE (dB (dOwn 1 F_l_is_number (aCons (dV 4) aNil))) (dCall (c1 X21.gIntL) (aCons (dV 4) aNil)) (dV 7)) aNil))))))))
noncomputable def B_l_read : DS → W Fl :=
  (sSeq (sIf (dNot (dB (dCall (c2 gIs1) (aCons (dV 0) (aCons (dC (.ty "str")) aNil)))))
  (sRet (dTup (aCons (dC (.str "place")) (aCons (dC (.int 0)) aNil))))
  sNil)
  (sSeq (sPar 1 2 (aCons (dM1 gSplit (dV 0) (dC (.str " "))) (aCons (dLstM (aCons (dLstM aNil) aNil)) aNil)))
  (sSeq (sFor (iOf (gIts .L gEnum) (aCons (dV 1) aNil)) (gTp 2 (gCn (gN 3) (gCn (gN 4) gNl)))
  L_l_read_1)
  (sRet (dIfE (dB (dOp (s2 (gE2 false)) (dCall (c1 gLen) (aCons (dV 2) aNil)) (dC (.int 1)))) (dTup (aCons (dC (.str "thing")) (aCons (dOp (s2 gIx) (dOp (s2 gIx) (dV 2) (dC (.int 0))) (dC (.int 0))) aNil))) (dTup (aCons (dC (.str "place")) (aCons (dCall (c1 gLen) (aCons (dV 1) aNil)) aNil))))))))
noncomputable def F_l_read : List D → W D := defW 7 (B_l_read)
noncomputable def B_l_heard (cNoText : Addr) (cWireError : Addr) (cNoName : Addr) (cNoPath : Addr) : DS → W Fl :=
  (sSeq (sSet 1 (dTup (aCons (dC (.str "odd")) (aCons (dC .non) aNil))))
  (sSeq (sTry 2 (catN cNoText) (sSet 1 (dTup (aCons (dC (.str "thing")) (aCons (dOwn 1 (F_read_thing cNoText) (aCons (dV 0) aNil)) aNil)))) (fun a y => (sIf (dAnd (dB (dCall (gIsE a (is68 cWireError cNoName cNoPath)) (aCons (dV 2) (aCons (dC (.ty "ValueError")) aNil)))) (dNot (dB (dCall (gIsE a (is68 cWireError cNoName cNoPath)) (aCons (dV 2) (aCons (dTup (aCons (dC (.adr cWireError)) (aCons (dC (.adr cNoName)) (aCons (dC (.adr cNoPath)) aNil)))) aNil))))))
  (sSet 1 (dTup (aCons (dC (.str "place")) (aCons (dXf a y "place" (dV 2)) aNil))))
  sNil)))
  (sRet (dV 1))))
noncomputable def F_l_heard (cNoText : Addr) (cWireError : Addr) (cNoName : Addr) (cNoPath : Addr) : List D → W D := defW 2 (B_l_heard cNoText cWireError cNoName cNoPath)
noncomputable def B_l_right (cNoText : Addr) (cWireError : Addr) (cNoName : Addr) (cNoPath : Addr) : DS → W Fl :=
  (sSeq (sSet 1 (dOwn 1 F_l_read (aCons (dV 0) aNil)))
  (sSeq (sIf (dB (dOp (s2 (gE2 false)) (dOp (s2 gIx) (dV 1) (dC (.int 0))) (dC (.str "place"))))
  (sSet 1 (dTup (aCons (dC (.str "place")) (aCons (dTup (aCons (dC (.int 0)) (aCons (dOp (s2 gIx) (dV 1) (dC (.int 1))) aNil))) aNil))))
  sNil)
  (sRet (dOp (s2 (gE2 false)) (dCall (c1 X21.gReprL) (aCons (dOwn 1 (F_l_heard cNoText cWireError cNoName cNoPath) (aCons (dV 0) aNil)) aNil)) (dCall (c1 X21.gReprL) (aCons (dV 1) aNil))))))
noncomputable def F_l_right (cNoText : Addr) (cWireError : Addr) (cNoName : Addr) (cNoPath : Addr) : List D → W D := defW 1 (B_l_right cNoText cWireError cNoName cNoPath)
noncomputable def B_l_bent : DS → W Fl :=
  (sSeq (sPar 3 4 (aCons (dM1 gSplit (dV 1) (dC (.str " "))) (aCons (dOwn 2 F_l_draw (aCons (dV 0) (aCons (dOp (s2 gAdd) (dCall (c1 gLen) (aCons (dV 1) aNil)) (dC (.int 1))) aNil))) aNil)))
  (sSeq (sSet 5 (dOwn 2 F_l_draw (aCons (dV 0) (aCons (dCall (c1 gLen) (aCons (dV 3) aNil)) aNil))))
  (sSeq (sSet 6 (dLst (aCons (dC (.str "(")) (aCons (dC (.str ")")) (aCons (dC (.str "none")) (aCons (dC (.str "None")) (aCons (dC (.str "'")) (aCons (dC (.str "''")) (aCons (dC (.str "'a")) (aCons (dC (.str "a")) (aCons (dC (.str "0")) (aCons (dC (.str "00")) (aCons (dC (.str "-0")) (aCons (dC (.str "-")) (aCons (dC (.str "-1")) (aCons (dC (.str "+1")) (aCons (dC (.str "1_0")) (aCons (dC (.str "1.0")) (aCons (dC (.str "")) (aCons (dC (.str "'\n")) aNil))))))))))))))))))))
  (sSeq (sSet 6 (dOp (s2 gAdd) (dV 6) (dLst (aCons (dC (.str "()")) (aCons (dC (.str "( )")) (aCons (dC (.str "12")) (aCons (dC (.str "-12a")) (aCons (dC (.str "'none")) (aCons (dC (.str "nonet")) (aCons (dOp (s2 gMul) (dC (.str "1")) (dC (.int 60))) (aCons (dC (.str "((")) (aCons (dC (.str "'(")) (aCons (dC (.str "\n")) (aCons (dC (.str "none)")) (aCons (dC (.str "0x1")) (aCons (dC (.str "7")) (aCons (dC (.str "'b'")) aNil)))))))))))))))))
  (sSeq (sPar 7 8 (aCons (dOp (s2 gIx) (dV 6) (dOwn 2 F_l_draw (aCons (dV 0) (aCons (dC (.int 32)) aNil)))) (aCons (dOp (s2 gIx) (dC (.str "()'0-n \n")) (dOwn 2 F_l_draw (aCons (dV 0) (aCons (dC (.int 8)) aNil)))) aNil)))
  (sSeq (sSet 9 (dUn (s1 rvL) (dSl (dV 3) (dPart (dV 5)) (dPart (dOp (s2 gAdd) (dV 5) (dC (.int 2)))))))
  (sSeq (sSet 10 (dLst (aCons (dOp (s2 gAdd) (dSl (dV 3) dNoPart (dPart (dV 5))) (dSl (dV 3) (dPart (dOp (s2 gAdd) (dV 5) (dC (.int 1)))) dNoPart)) (aCons (dOp (s2 gAdd) (dSl (dV 3) dNoPart (dPart (dOp (s2 gAdd) (dV 5) (dC (.int 1))))) (dSl (dV 3) (dPart (dV 5)) dNoPart)) (aCons (dOp (s2 gAdd) (dOp (s2 gAdd) (dSl (dV 3) dNoPart (dPart (dV 5))) (dV 9)) (dSl (dV 3) (dPart (dOp (s2 gAdd) (dV 5) (dC (.int 2)))) dNoPart)) aNil)))))
  (sSeq (sSet 10 (dOp (s2 gAdd) (dV 10) (dLst (aCons (dOp (s2 gAdd) (dOp (s2 gAdd) (dSl (dV 3) dNoPart (dPart (dV 5))) (dLst (aCons (dV 7) aNil))) (dSl (dV 3) (dPart (dV 5)) dNoPart)) (aCons (dOp (s2 gAdd) (dOp (s2 gAdd) (dSl (dV 3) dNoPart (dPart (dV 5))) (dLst (aCons (dV 7) aNil))) (dSl (dV 3) (dPart (dOp (s2 gAdd) (dV 5) (dC (.int 1)))) dNoPart)) aNil)))))
  (sSeq (sIf (dB (dOp gLt (dV 2) (dC (.int 5))))
  (sRet (dJoin (dC (.str " ")) (dOp (s2 gIx) (dV 10) (dV 2))))
  sNil)
  (sSeq (sSet 11 (dLst (aCons (dOp (s2 gAdd) (dOp (s2 gAdd) (dSl (dV 1) dNoPart (dPart (dV 4))) (dV 8)) (dSl (dV 1) (dPart (dV 4)) dNoPart)) (aCons (dOp (s2 gAdd) (dSl (dV 1) dNoPart (dPart (dV 4))) (dSl (dV 1) (dPart (dOp (s2 gAdd) (dV 4) (dC (.int 1)))) dNoPart)) aNil))))
  (sRet (dOp (s2 gIx) (dOp (s2 gAdd) (dV 11) (dLst (aCons (dOp (s2 gAdd) (dOp (s2 gAdd) (dSl (dV 1) dNoPart (dPart (dV 4))) (dV 8)) (dSl (dV 1) (dPart (dOp (s2 gAdd) (dV 4) (dC (.int 1)))) dNoPart)) aNil))) (dOp gSub (dV 2) (dC (.int 5)))))))))))))))
noncomputable def F_l_bent : List D → W D := defW 9 (B_l_bent)
noncomputable def L_law_1 (cNoText : Addr) (cWireError : Addr) (cNoName : Addr) (cNoPath : Addr) : DS → W Fl :=
  (sIf (dNot (dB (dOwn 1 (F_l_right cNoText cWireError cNoName cNoPath) (aCons (dV 3) aNil))))
  (sRet (dC (.bl false)))
  sNil)
noncomputable def L_law_2 (cNoText : Addr) (cWireError : Addr) (cNoName : Addr) (cNoPath : Addr) : DS → W Fl :=
  (sSeq (sSet 10 (dOwn 3 F_l_bent (aCons (dV 1) (aCons (dV 3) (aCons (dV 7) aNil)))))
  (sSeq (sIf (dB (dOp (s2 (gE2 false)) (dV 9) (dC (.int 0))))
  (sSet 10 (dOwn 3 F_l_bent (aCons (dV 1) (aCons (dV 10) (aCons (dV 8) aNil)))))
  sNil)
  (sIf (dOr (dNot (dB (dOwn 1 (F_l_right cNoText cWireError cNoName cNoPath) (aCons (dV 10) aNil)))) (dNot (dB (dOwn 1 (F_l_right cNoText cWireError cNoName cNoPath) (aCons (dV 3) aNil)))))
  (sRet (dC (.bl false)))
  sNil)))
noncomputable def L_law_3 (cNoText : Addr) (cWireError : Addr) (cNoName : Addr) (cNoPath : Addr) : DS → W Fl :=
  (sSeq (sSet 5 (dLc [6] (iOf rng1 (aCons (dC (.int 16)) aNil)) (gN 6) dTrue (dTup (aCons (dOwn 2 F_l_draw (aCons (dV 1) (aCons (dC (.int 8)) aNil))) (aCons (dOwn 2 F_l_draw (aCons (dV 1) (aCons (dC (.int 8)) aNil))) (aCons (dOwn 2 F_l_draw (aCons (dV 1) (aCons (dC (.int 3)) aNil))) aNil))))))
  (sSeq (sSet 3 (dJoin (dC (.str " ")) (dOwn 1 (F_l_words_of 60) (aCons (dOwn 2 (F_l_thing 4) (aCons (dV 1) (aCons (dC (.int 3)) aNil))) aNil))))
  (sFor (iOf its (dV 5)) (gTp 3 (gCn (gN 7) (gCn (gN 8) (gCn (gN 9) gNl))))
  (L_law_2 cNoText cWireError cNoName cNoPath))))
noncomputable def B_law (cNoText : Addr) (cWireError : Addr) (cNoName : Addr) (cNoPath : Addr) : DS → W Fl :=
  (sSeq (sSet 1 (dOwn 1 F_l_deck (aCons (dV 0) aNil)))
  (sSeq (sSet 2 (dLst (aCons (dC (.str "")) (aCons (dC (.str " ")) (aCons (dC (.str "(")) (aCons (dC (.str ")")) (aCons (dC (.str "( )")) (aCons (dC (.str "()")) (aCons (dC (.str "( ) ")) (aCons (dC (.str " ( )")) (aCons (dC (.str "none none")) (aCons (dC (.str "0 0")) (aCons (dC (.str "( none")) (aCons (dC (.str ") (")) (aCons (dC (.str "'")) (aCons (dC (.str "'a b")) (aCons (dC (.str "-")) aNil)))))))))))))))))
  (sSeq (sSet 2 (dOp (s2 gAdd) (dV 2) (dLst (aCons (dC (.str "00")) (aCons (dOp (s2 gAdd) (dOp (s2 gAdd) (dOp (s2 gMul) (dC (.str "( ")) (dC (.int 60))) (dC (.str "0"))) (dOp (s2 gMul) (dC (.str " )")) (dC (.int 60)))) (aCons (dOp (s2 gAdd) (dOp (s2 gAdd) (dOp (s2 gMul) (dC (.str "( ")) (dC (.int 60))) (dC (.str "0"))) (dOp (s2 gMul) (dC (.str " )")) (dC (.int 59)))) (aCons (dOp (s2 gAdd) (dC (.str "( )")) (dOp (s2 gMul) (dC (.str " )")) (dC (.int 300)))) aNil)))))))
  (sSeq (sSet 2 (dOp (s2 gAdd) (dV 2) (dLst (aCons (dC (.str "' a")) (aCons (dOp (s2 gMul) (dC (.str "1")) (dC (.int 900))) (aCons (dOp (s2 gMul) (dC (.str "1")) (dC (.int 4000))) (aCons (dOp (s2 gMul) (dC (.str "1")) (dC (.int 4001))) (aCons (dOp (s2 gAdd) (dOp (s2 gAdd) (dC (.str "( ")) (dOp (s2 gMul) (dC (.str "9")) (dC (.int 4400)))) (dC (.str " )"))) (aCons (dOp (s2 gAdd) (dC (.str "-")) (dOp (s2 gMul) (dC (.str "1")) (dC (.int 4000)))) aNil)))))))))
  (sSeq (sFor (iOf its (dOp (s2 gAdd) (dV 2) (dLst (aCons (dC .non) (aCons (dC (.bl true)) (aCons (dC (.int 0)) (aCons (dTup aNil) (aCons (dTup (aCons (dC (.str "none")) aNil)) (aCons (dLst aNil) (aCons (dNew false) (aCons (dLst (aCons (dC (.str "none")) aNil)) aNil))))))))))) (gN 3)
  (L_law_1 cNoText cWireError cNoName cNoPath))
  (sSeq (sFor (iOf rng1 (aCons (dC (.int 2)) aNil)) (gN 4)
  (L_law_3 cNoText cWireError cNoName cNoPath))
  (sRet (dC (.bl true)))))))))
noncomputable def F_law (cNoText : Addr) (cWireError : Addr) (cNoName : Addr) (cNoPath : Addr) : List D → W D := defW 10 (B_law cNoText cWireError cNoName cNoPath)
end K68

namespace K68
open PySem PySem.Spec PyProof.Rows L2 Kit DL
section
variable {P : Program} {w : World} {K : PySem.W.Frag} {mg : Str → Option Value} {base : Heap} {cNoText cWireError cNoName cNoPath : Addr}
theorem ok_is_shown_number {f : Addr} {fd : FuncData} (D : DefAt K mg "is_shown_number" ["word"] s_is_shown_number f fd) (M : Bi mg) (T : Tp mg) : Cal P w K mg base (L2.CX P w) 1 "is_shown_number" ["word"] (spX K dkD 1 F_is_shown_number) := by
  have S := S_is_shown_number
  exact cal_D (m := 2) D S rfl fun cdv A outer s H0 E hq hr S0 μ0 H => (dss_cons (ds_set (i := 1) S.nd rfl (.inl rfl) (de_if (dt_val (de_starts (dv 0) de_str)) (de_slice (dv 0) (do_some de_int) do_none) (dv 0)))
  (dss_cons (ds_if (PW.pt (dw_or (dt_not (dt_chain o_le o_le l_ord l_ord de_int (de_callB k_len l_len (by rfl) M.len_ (by decide +kernel) (da_cons (dv 1) da_nil)) (de_g (d := (.int 4000)) (C8.pe_gc (by rfl) T.c_MOST_FIGURES) (.int _)))) (dw_or1 (dt_not (dt_val (de_callB (k_all rfl) l_bs (by rfl) M.all_ (by decide +kernel) (da_cons (de_lc (own := [("sign", 2)]) (gg := (gName 2)) (dg := (gN 2)) (ft := dTrue) (fe := (dOp (s2 (gIn false)) (dV 2) (dC (.str "0123456789")))) rfl S.nd (di_seq (dv 1)) (blkOk_by (own := [("sign", 2)]) (N := N_is_shown_number) (sc := defScope s_is_shown_number) (by decide +kernel)) (fun _ _ _ _ _ => (pg_name (i := 2) S.nd rfl (.inl rfl))) (lg_name (by decide)) (fun _ _ _ _ _ => dts_nil) (fun _ _ _ _ _ => (de_cmp o_in l_in (dv 2) (de_g (d := (.str "0123456789")) (C8.pe_gc (by rfl) T.c_FIGURES) (.str _)) rfl))) da_nil)))))))
  (dss_one (ds_ret de_bl))
  dss_nil)
  (dss_one (ds_ret (de_or (de_cmp (o_ne2 (room200 hr)) l_ne2 (de_ix ix_seq l_ix (dv 1) de_int (fun _ _ => rfl)) de_str (nomark _)) (de_one (de_cmp (o_eq2 (room200 hr)) l_eq2 (dv 0) de_str (nomark _))))))))
theorem ok_is_shown_text {f : Addr} {fd : FuncData} (D : DefAt K mg "is_shown_text" ["word"] s_is_shown_text f fd) (M : Bi mg) : Cal P w K mg base (L2.CX P w) 1 "is_shown_text" ["word"] (spX K dkD 1 F_is_shown_text) := by
  have S := S_is_shown_text
  exact cal_D (m := 1) D S rfl fun cdv A outer s H0 E hq hr S0 μ0 H => (dss_one (ds_ret (de_and (de_starts (dv 0) de_str) (de_and (de_cmp o_gt l_ord (de_callB k_len l_len (by rfl) M.len_ (by decide +kernel) (da_cons (dv 0) da_nil)) de_int (nomark _)) (de_one (de_callB (k_all rfl) l_bs (by rfl) M.all_ (by decide +kernel) (da_cons (de_lc (own := [("sign", 1)]) (gg := (gName 1)) (dg := (gN 1)) (ft := dTrue) (fe := (dChain gLe gLe (dC (.str "!")) (dV 1) (dC (.str "~")))) rfl S.nd (di_seq (dv 0)) (blkOk_by (own := [("sign", 1)]) (N := N_is_shown_text) (sc := defScope s_is_shown_text) (by decide +kernel)) (fun _ _ _ _ _ => (pg_name (i := 1) S.nd rfl (.inl rfl))) (lg_name (by decide)) (fun _ _ _ _ _ => dts_nil) (fun _ _ _ _ _ => (de_chain o_le o_le l_ord l_ord de_str (dv 1) de_str))) da_nil)))))))
theorem ok_read_word {f : Addr} {fd : FuncData} (nd : base.NoDigits) (D : DefAt K mg "read_word" ["word", "k"] s_read_word f fd) (M : Bi mg) (XC : Xc P w K mg base cNoText cWireError cNoName cNoPath)
    (C_is_shown_text : Cal P w K mg base (L2.CX P w) 1 "is_shown_text" ["word"] (spX K dkD 1 F_is_shown_text))
    (C_is_shown_number : Cal P w K mg base (L2.CX P w) 1 "is_shown_number" ["word"] (spX K dkD 1 F_is_shown_number)) : Cal P w K mg base (L2.CX P w) 5 "read_word" ["word", "k"] (spX K dkD 2 (F_read_word cNoText)) := by
  have S := S_read_word
  exact cal_D (m := 0) D S rfl fun cdv A outer s H0 E hq hr S0 μ0 H => (dss_cons (ds_if (dt_cmp (o_eq2 (room200 hr)) l_eq2 (dv 0) de_str (nomark _))
  (dss_one (ds_ret de_non))
  dss_nil)
  (dss_cons (ds_if (dt_val (de_own C_is_shown_text (takes_of rfl rfl rfl rfl) hq hr (by omega) (by rfl) (da_cons (dv 0) da_nil)))
  (dss_one (ds_ret (de_slice (dv 0) (do_some de_int) do_none)))
  dss_nil)
  (dss_cons (ds_if (dt_not (dt_val (de_own C_is_shown_number (takes_of rfl rfl rfl rfl) hq hr (by omega) (by rfl) (da_cons (dv 0) da_nil))))
  (dss_one (ds_raise XC.NoText rfl (takes_of rfl rfl rfl rfl) hr (by omega) (by rfl) (da_cons (de_tup (da_cons de_int (da_cons (dv 1) da_nil))) da_nil)))
  dss_nil)
  (dss_one (ds_ret (de_callTy (X21.k_intL nd) X21.l_intL (by rfl) M.int_ (by decide +kernel) (da_cons (dv 0) da_nil)))))))
theorem ok_read_thing {f : Addr} {fd : FuncData} (D : DefAt K mg "read_thing" ["text"] s_read_thing f fd) (M : Bi mg) (XC : Xc P w K mg base cNoText cWireError cNoName cNoPath)
    (C_read_word : Cal P w K mg base (L2.CX P w) 5 "read_word" ["word", "k"] (spX K dkD 2 (F_read_word cNoText))) : Cal P w K mg base (L2.CX P w) 6 "read_thing" ["text"] (spX K dkD 1 (F_read_thing cNoText)) := by
  have S := S_read_thing
  exact cal_D (m := 5) D S rfl fun cdv A outer s H0 E hq hr S0 μ0 H => (dss_cons (ds_if (dt_not (dt_val (de_callB k_is1 l_is1 (by rfl) M.isinstance_ (by decide +kernel) (da_cons (dv 0) (da_cons (de_g (d := .ty "str") (pe_bltn (v := .ty "str") (u := .type "str") (by rfl) M.str_ (by decide +kernel) rfl) (.ty _)) da_nil)))))
  (dss_one (ds_raise XC.NoText rfl (takes_of rfl rfl rfl rfl) hr (by omega) (by rfl) (da_cons (de_tup (da_cons de_int (da_cons de_int da_nil))) da_nil)))
  dss_nil)
  (dss_cons (ds_set (i := 1) S.nd rfl (.inl rfl) (de_split (dv 0) de_str))
  (dss_cons (ds_set (i := 2) S.nd rfl (.inl rfl) (de_lstM (da_cons (de_lstM da_nil) da_nil)))
  (dss_cons (ds_for (vs := [3, 4]) (passes_of rfl) rfl (di_enumL (by rfl) M.enumerate_ (da_cons (dv 1) da_nil)) (pg_tup (by rfl) (pgs_cons (pg_name (i := 3) S.nd rfl (.inl rfl)) (pgs_cons (pg_name (i := 4) S.nd rfl (.inl rfl)) pgs_nil))) (lg_tup (n := 2) (lg_cons (lg_name (by decide)) (lg_cons (lg_name (by decide)) lg_nil)))
  (dss_cons (ds_if (PW.pt (dw_or (dt_tru (de_ix ix_seq l_ix (dv 2) de_int (fun _ _ => rfl)) (by intro _; rfl)) (dw_or1 (PW.pt (dw_and (dt_cmp (o_eq2 (room200 hr)) l_eq2 (dv 4) de_str (nomark _)) (dw_and1 (dt_cmp (o_eq2 (room200 hr)) l_eq2 (de_callB k_len l_len (by rfl) M.len_ (by decide +kernel) (da_cons (dv 2) da_nil)) de_int (nomark _))))))))
  (dss_one (ds_raise XC.NoText rfl (takes_of rfl rfl rfl rfl) hr (by omega) (by rfl) (da_cons (de_tup (da_cons de_int (da_cons (dv 3) da_nil))) da_nil)))
  dss_nil)
  (dss_one (ds_if (dt_cmp (o_eq2 (room200 hr)) l_eq2 (dv 4) de_str (nomark _))
  (dss_one (ds_expr (de_append (dv 2) (da_cons (de_lstM da_nil) da_nil))))
  (dss_one (ds_if (dt_cmp (o_eq2 (room200 hr)) l_eq2 (dv 4) de_str (nomark _))
  (dss_cons (ds_set (i := 5) S.nd rfl (.inl rfl) (de_callTy k_tuple l_tuple (by rfl) M.tuple_ (by decide +kernel) (da_cons (de_pop (dv 2)) da_nil)))
  (dss_one (ds_expr (de_append (de_ix ix_seq l_ix (dv 2) (de_un un_neg l_neg de_int) (fun _ _ => rfl)) (da_cons (dv 5) da_nil)))))
  (dss_one (ds_expr (de_append (de_ix ix_seq l_ix (dv 2) (de_un un_neg l_neg de_int) (fun _ _ => rfl)) (da_cons (de_own C_read_word (takes_of rfl rfl rfl rfl) hq hr (by omega) (by rfl) (da_cons (dv 4) (da_cons (dv 3) da_nil))) da_nil))))))))))
  (dss_cons (ds_if (dt_cmp o_gt l_ord (de_callB k_len l_len (by rfl) M.len_ (by decide +kernel) (da_cons (dv 2) da_nil)) de_int (nomark _))
  (dss_one (ds_raise XC.NoText rfl (takes_of rfl rfl rfl rfl) hr (by omega) (by rfl) (da_cons (de_tup (da_cons de_int (da_cons (de_callB k_len l_len (by rfl) M.len_ (by decide +kernel) (da_cons (dv 1) da_nil)) da_nil))) da_nil)))
  dss_nil)
  (dss_one (ds_ret (de_ix ix_seq l_ix (de_ix ix_seq l_ix (dv 2) de_int (fun _ _ => rfl)) de_int (fun _ _ => rfl)))))))))
theorem ok_l_thing {f : Addr} {fd : FuncData} (D : DefAt K mg "_law_thing" ["_law_deck_here", "_law_deep"] s_l_thing f fd) (M : Bi mg)
    (C_l_draw : Cal P w K mg base (L2.CX P w) 1 "_law_draw" ["_law_deck_here", "_law_sides"] (spX K dkD 2 F_l_draw)) {n : Nat} (IH : Cal P w K mg base (L2.CX P w) (2 + n) "_law_thing" ["_law_deck_here", "_law_deep"] (spX K dkD 2 (F_l_thing n))) : Cal P w K mg base (L2.CX P w) (2 + n + 1) "_law_thing" ["_law_deck_here", "_law_deep"] (spX K dkD 2 (F_l_thing (n + 1))) := by
  have S := S_l_thing
  exact cal_D (m := 4) D S rfl fun cdv A outer s H0 E hq hr S0 μ0 H => (dss_cons (ds_set (i := 2) S.nd rfl (.inl rfl) (de_own C_l_draw (takes_of rfl rfl rfl rfl) hq hr (by omega) (by rfl) (da_cons (dv 0) (da_cons de_int da_nil))))
  (dss_cons (ds_if (PW.pt (dw_and (dt_cmp o_gt l_ord (dv 1) de_int (nomark _)) (dw_and1 (dt_cmp o_lt l_ord (dv 2) de_int (nomark _)))))
  (dss_one (ds_ret (de_callTy k_tuple l_tuple (by rfl) M.tuple_ (by decide +kernel) (da_cons (de_lc (own := [("_law_k", 3)]) (gg := (gName 3)) (dg := (gN 3)) (ft := dTrue) (fe := (dOwn 2 (F_l_thing n) (aCons (dV 0) (aCons (dOp gSub (dV 1) (dC (.int 1))) aNil)))) rfl S.nd (di_range1 (by rfl) M.range_ (da_cons (de_own C_l_draw (takes_of rfl rfl rfl rfl) hq hr (by omega) (by rfl) (da_cons (dv 0) (da_cons de_int da_nil))) da_nil)) (blkOk_by (own := [("_law_k", 3)]) (N := N_l_thing) (sc := defScope s_l_thing) (by decide +kernel)) (fun _ _ _ _ _ => (pg_name (i := 3) S.nd rfl (.inl rfl))) (lg_name (by decide)) (fun _ _ _ _ _ => dts_nil) (fun _ _ _ _ _ => (de_own IH takes_none5 hq hr (by omega) (by rfl) (da_cons (dv 0) (da_cons (de_op op_sub l_sub (dv 1) de_int) da_nil))))) da_nil))))
  dss_nil)
  (dss_cons (ds_if (dt_cmp (o_eq2 (room200 hr)) l_eq2 (dv 2) de_int (nomark _))
  (dss_one (ds_ret de_non))
  dss_nil)
  (dss_cons (ds_if (dt_cmp (o_eq2 (room200 hr)) l_eq2 (dv 2) de_int (nomark _))
  (dss_cons (ds_set (i := 4) S.nd rfl (.inr rfl) de_str)
  (dss_one (ds_ret (de_join de_str (de_lc (own := [("_law_k", 3)]) (gg := (gName 3)) (dg := (gN 3)) (ft := dTrue) (fe := (dOp (s2 gIx) (dV 4) (dOwn 2 F_l_draw (aCons (dV 0) (aCons (dCall (c1 gLen) (aCons (dV 4) aNil)) aNil))))) rfl S.nd (di_range1 (by rfl) M.range_ (da_cons (de_op o_add l_add de_int (de_own C_l_draw (takes_of rfl rfl rfl rfl) hq hr (by omega) (by rfl) (da_cons (dv 0) (da_cons de_int da_nil)))) da_nil)) (blkOk_by (own := [("_law_k", 3)]) (N := N_l_thing) (sc := defScope s_l_thing) (by decide +kernel)) (fun _ _ _ _ _ => (pg_name (i := 3) S.nd rfl (.inl rfl))) (lg_name (by decide)) (fun _ _ _ _ _ => dts_nil) (fun _ _ _ _ _ => (de_ix ix_seq l_ix (dv 4) (de_own C_l_draw takes_none5 hq hr (by omega) (by rfl) (da_cons (dv 0) (da_cons (de_callB k_len l_len (by rfl) M.len_ (by decide +kernel) (da_cons (dv 4) da_nil)) da_nil))) (fun _ _ => rfl))))))))
  dss_nil)
  (dss_cons (ds_if (dt_cmp (o_eq2 (room200 hr)) l_eq2 (dv 2) de_int (nomark _))
  (dss_one (ds_ret (de_ix ix_seq l_ix (de_lst (da_cons de_str (da_cons de_str (da_cons de_str (da_cons de_str (da_cons de_str (da_cons de_str (da_cons de_str (da_cons de_str da_nil))))))))) (de_own C_l_draw (takes_of rfl rfl rfl rfl) hq hr (by omega) (by rfl) (da_cons (dv 0) (da_cons de_int da_nil))) (fun _ _ => rfl))))
  dss_nil)
  (dss_cons (ds_set (i := 5) S.nd rfl (.inl rfl) (de_lst (da_cons de_int (da_cons de_int (da_cons de_int (da_cons de_int (da_cons de_int (da_cons (de_own C_l_draw (takes_of rfl rfl rfl rfl) hq hr (by omega) (by rfl) (da_cons (dv 0) (da_cons de_int da_nil))) (da_cons (de_op op_sub l_sub (de_op op_pow l_pow de_int de_int) (de_own C_l_draw (takes_of rfl rfl rfl rfl) hq hr (by omega) (by rfl) (da_cons (dv 0) (da_cons de_int da_nil)))) (da_cons (de_own C_l_draw (takes_of rfl rfl rfl rfl) hq hr (by omega) (by rfl) (da_cons (dv 0) (da_cons (de_op op_pow l_pow de_int de_int) da_nil))) da_nil))))))))))
  (dss_one (ds_ret (de_op o_mul l_mul (de_ix ix_seq l_ix (dv 5) (de_own C_l_draw (takes_of rfl rfl rfl rfl) hq hr (by omega) (by rfl) (da_cons (dv 0) (da_cons de_int da_nil))) (fun _ _ => rfl)) (de_ix ix_seq l_ix (de_lst (da_cons de_int (da_cons (de_un un_neg l_neg de_int) da_nil))) (de_own C_l_draw (takes_of rfl rfl rfl rfl) hq hr (by omega) (by rfl) (da_cons (dv 0) (da_cons de_int da_nil))) (fun _ _ => rfl)))))))))))
theorem ok_l_words_of {f : Addr} {fd : FuncData} (nd : base.NoDigits) (D : DefAt K mg "_law_words_of" ["_law_thing_here"] s_l_words_of f fd) (M : Bi mg) {n : Nat} (IH : Cal P w K mg base (L2.CX P w) (1 + n) "_law_words_of" ["_law_thing_here"] (spX K dkD 1 (F_l_words_of n))) : Cal P w K mg base (L2.CX P w) (1 + n + 1) "_law_words_of" ["_law_thing_here"] (spX K dkD 1 (F_l_words_of (n + 1))) := by
  have S := S_l_words_of
  exact cal_D (m := 2) D S rfl fun cdv A outer s H0 E hq hr S0 μ0 H => (dss_cons (ds_if (dt_val (de_callB k_is1 l_is1 (by rfl) M.isinstance_ (by decide +kernel) (da_cons (dv 0) (da_cons (de_g (d := .ty "tuple") (pe_bltn (v := .ty "tuple") (u := .type "tuple") (by rfl) M.tuple_ (by decide +kernel) rfl) (.ty _)) da_nil))))
  (dss_cons (ds_set (i := 1) S.nd rfl (.inl rfl) (de_lst (da_cons de_str da_nil)))
  (dss_cons (ds_for (vs := [2]) (passes_of rfl) rfl (di_seq (dv 0)) (pg_name (i := 2) S.nd rfl (.inl rfl)) (lg_name (by decide))
  (dss_one (ds_set (i := 1) S.nd rfl (.inl rfl) (de_op o_add l_add (dv 1) (de_own IH (takes_of rfl rfl rfl rfl) hq hr (by omega) (by rfl) (da_cons (dv 2) da_nil))))))
  (dss_one (ds_ret (de_op o_add l_add (dv 1) (de_lst (da_cons de_str da_nil)))))))
  dss_nil)
  (dss_one (ds_ret (de_lst (da_cons (de_ix ix_seq l_ix (de_lst (da_cons de_str (da_cons (de_op o_add l_add de_str (de_callTy X21.k_strN X21.l_strN (by rfl) M.str_ (by decide +kernel) (da_cons (dv 0) da_nil))) (da_cons (de_callTy X21.k_strN X21.l_strN (by rfl) M.str_ (by decide +kernel) (da_cons (dv 0) da_nil)) da_nil)))) (de_op o_add l_add (de_callTy (X21.k_intL nd) X21.l_intL (by rfl) M.int_ (by decide +kernel) (da_cons (de_cmp op_notN l_notN (dv 0) de_non (nomark _)) da_nil)) (de_callTy (X21.k_intL nd) X21.l_intL (by rfl) M.int_ (by decide +kernel) (da_cons (de_callB k_is1 l_is1 (by rfl) M.isinstance_ (by decide +kernel) (da_cons (dv 0) (da_cons (de_g (d := .ty "int") (pe_bltn (v := .ty "int") (u := .type "int") (by rfl) M.int_ (by decide +kernel) rfl) (.ty _)) da_nil))) da_nil))) (fun _ _ => rfl)) da_nil)))))
theorem ok_l_is_number {f : Addr} {fd : FuncData} (nd : base.NoDigits) (D : DefAt K mg "_law_is_number" ["_law_word"] s_l_is_number f fd) (M : Bi mg) : Cal P w K mg base (L2.CX P w) 1 "_law_is_number" ["_law_word"] (spX K dkD 1 F_l_is_number) := by
  have S := S_l_is_number
  exact cal_D (m := 2) D S rfl fun cdv A outer s H0 E hq hr S0 μ0 H => (dss_cons (ds_set (i := 1) S.nd rfl (.inl rfl) (de_slice (dv 0) (do_some (de_callTy (X21.k_intL nd) X21.l_intL (by rfl) M.int_ (by decide +kernel) (da_cons (de_cmp (o_eq2 (room200 hr)) l_eq2 (de_slice (dv 0) do_none (do_some de_int)) de_str (nomark _)) da_nil))) do_none))
  (dss_cons (ds_if (PW.pt (dw_or (dt_not (dt_chain o_le o_le l_ord l_ord de_int (de_callB k_len l_len (by rfl) M.len_ (by decide +kernel) (da_cons (dv 1) da_nil)) de_int)) (dw_or1 (dt_cmp (o_ne2 (room200 hr)) l_ne2 (de_lc (own := [("_law_sign", 2)]) (gg := (gName 2)) (dg := (gN 2)) (ft := (dB (dOp (s2 (gIn true)) (dV 2) (dC (.str "0123456789"))))) (fe := (dV 2)) rfl S.nd (di_seq (dv 1)) (blkOk_by (own := [("_law_sign", 2)]) (N := N_l_is_number) (sc := defScope s_l_is_number) (by decide +kernel)) (fun _ _ _ _ _ => (pg_name (i := 2) S.nd rfl (.inl rfl))) (lg_name (by decide)) (fun _ _ _ _ _ => (dts_one (dt_cmp o_notIn l_in (dv 2) de_str rfl))) (fun _ _ _ _ _ => (dv 2))) (de_lst da_nil) (nomark _)))))
  (dss_one (ds_ret de_bl))
  dss_nil)
  (dss_one (ds_ret (de_or (de_cmp (o_eq2 (room200 hr)) l_eq2 (dv 0) de_str (nomark _)) (de_one (de_cmp (o_ne2 (room200 hr)) l_ne2 (de_ix ix_seq l_ix (dv 1) de_int (fun _ _ => rfl)) de_str (nomark _))))))))
theorem ok_l_read {f : Addr} {fd : FuncData} (nd : base.NoDigits) (D : DefAt K mg "_law_read" ["_law_line"] s_l_read f fd) (M : Bi mg)
    (C_l_is_number : Cal P w K mg base (L2.CX P w) 1 "_law_is_number" ["_law_word"] (spX K dkD 1 F_l_is_number)) : Cal P w K mg base (L2.CX P w) 2 "_law_read" ["_law_line"] (spX K dkD 1 F_l_read) := by
  have S := S_l_read
  exact cal_D (m := 7) D S rfl fun cdv A outer s H0 E hq hr S0 μ0 H => (dss_cons (ds_if (dt_not (dt_val (de_callB k_is1 l_is1 (by rfl) M.isinstance_ (by decide +kernel) (da_cons (dv 0) (da_cons (de_g (d := .ty "str") (pe_bltn (v := .ty "str") (u := .type "str") (by rfl) M.str_ (by decide +kernel) rfl) (.ty _)) da_nil)))))
  (dss_one (ds_ret (de_tup (da_cons de_str (da_cons de_int da_nil)))))
  dss_nil)
  (dss_cons (ds_par (i := 1) (j := 2) rfl S.nd rfl rfl (by decide) rfl rfl (da_cons (de_split (dv 0) de_str) (da_cons (de_lstM (da_cons (de_lstM da_nil) da_nil)) da_nil)) (by rfl))
  (dss_cons (ds_for (vs := [3, 4]) (passes_of rfl) rfl (di_enumL (by rfl) M.enumerate_ (da_cons (dv 1) da_nil)) (pg_tup (by rfl) (pgs_cons (pg_name (i := 3) S.nd rfl (.inl rfl)) (pgs_cons (pg_name (i := 4) S.nd rfl (.inl rfl)) pgs_nil))) (lg_tup (n := 2) (lg_cons (lg_name (by decide)) (lg_cons (lg_name (by decide)) lg_nil)))
  (dss_cons (ds_set (i := 5) S.nd rfl (.inl rfl) (de_or (de_cmp (o_eq2 (room200 hr)) l_eq2 (dv 4) de_str (nomark _)) (de_or (de_and (de_cmp (o_eq2 (room200 hr)) l_eq2 (de_slice (dv 4) do_none (do_some de_int)) de_str (nomark _)) (de_and (de_cmp o_gt l_ord (de_callB k_len l_len (by rfl) M.len_ (by decide +kernel) (da_cons (dv 4) da_nil)) de_int (nomark _)) (de_one (de_cmp o_notIn l_in de_str (dv 4) rfl)))) (de_one (de_own C_l_is_number (takes_of rfl rfl rfl rfl) hq hr (by omega) (by rfl) (da_cons (dv 4) da_nil))))))
  (dss_cons (ds_if (PW.pt (dw_or (PW.pt (dw_and (dt_cmp (o_eq2 (room200 hr)) l_eq2 (de_callB k_len l_len (by rfl) M.len_ (by decide +kernel) (da_cons (dv 2) da_nil)) de_int (nomark _)) (dw_and1 (PW.pt (dw_or (dt_cmp (o_ne2 (room200 hr)) l_ne2 (de_ix ix_seq l_ix (dv 2) de_int (fun _ _ => rfl)) (de_lst da_nil) (nomark _)) (dw_or1 (dt_cmp (o_eq2 (room200 hr)) l_eq2 (dv 4) de_str (nomark _)))))))) (dw_or1 (PW.pt (dw_and (dt_not (dt_val (dv 5))) (dw_and1 (dt_cmp o_notIn l_in (dv 4) (de_tup (da_cons de_str (da_cons de_str da_nil))) rfl)))))))
  (dss_one (ds_ret (de_tup (da_cons de_str (da_cons (dv 3) da_nil)))))
  dss_nil)
  (dss_one (ds_if (dt_cmp (o_eq2 (room200 hr)) l_eq2 (dv 4) de_str (nomark _))
  (dss_one (ds_expr (de_append (dv 2) (da_cons (de_lstM da_nil) da_nil))))
  (dss_one (ds_if (dt_cmp (o_eq2 (room200 hr)) l_eq2 (dv 4) de_str (nomark _))
  (dss_cons (ds_set (i := 6) S.nd rfl (.inl rfl) (de_callTy k_tuple l_tuple (by rfl) M.tuple_ (by decide +kernel) (da_cons (de_pop (dv 2)) da_nil)))
  (dss_one (ds_expr (de_append (de_ix ix_seq l_ix (dv 2) (de_un un_neg l_neg de_int) (fun _ _ => rfl)) (da_cons (dv 6) da_nil)))))
  (dss_cons (ds_set (i := 7) S.nd rfl (.inl rfl) (de_if (dt_cmp (o_eq2 (room200 hr)) l_eq2 (de_ix ix_seq l_ix (dv 4) de_int (fun _ _ => rfl)) de_str (nomark _)) (de_slice (dv 4) (do_some de_int) do_none) de_non))
  (dss_one (ds_expr (de_append (de_ix ix_seq l_ix (dv 2) (de_un un_neg l_neg de_int) (fun _ _ => rfl)) (da_cons (de_if (dt_val (de_own C_l_is_number (takes_of rfl rfl rfl rfl) hq hr (by omega) (by rfl) (da_cons (dv 4) da_nil))) (de_callTy (X21.k_intL nd) X21.l_intL (by rfl) M.int_ (by decide +kernel) (da_cons (dv 4) da_nil)) (dv 7)) da_nil))))))))))))
  (dss_one (ds_ret (de_if (dt_cmp (o_eq2 (room200 hr)) l_eq2 (de_callB k_len l_len (by rfl) M.len_ (by decide +kernel) (da_cons (dv 2) da_nil)) de_int (nomark _)) (de_tup (da_cons de_str (da_cons (de_ix ix_seq l_ix (de_ix ix_seq l_ix (dv 2) de_int (fun _ _ => rfl)) de_int (fun _ _ => rfl)) da_nil))) (de_tup (da_cons de_str (da_cons (de_callB k_len l_len (by rfl) M.len_ (by decide +kernel) (da_cons (dv 1) da_nil)) da_nil)))))))))
theorem ok_l_heard {f : Addr} {fd : FuncData} (D : DefAt K mg "_law_heard" ["_law_line"] s_l_heard f fd) (M : Bi mg) (XC : Xc P w K mg base cNoText cWireError cNoName cNoPath)
    (C_read_thing : Cal P w K mg base (L2.CX P w) 6 "read_thing" ["text"] (spX K dkD 1 (F_read_thing cNoText))) : Cal P w K mg base (L2.CX P w) 7 "_law_heard" ["_law_line"] (spX K dkD 1 (F_l_heard cNoText cWireError cNoName cNoPath)) := by
  have S := S_l_heard
  exact cal_D (m := 2) D S rfl fun cdv A outer s H0 E hq hr S0 μ0 H => (dss_cons (ds_set (i := 1) S.nd rfl (.inl rfl) (de_tup (da_cons de_str (da_cons de_non da_nil))))
  (dss_cons (ds_try (i := 2) rfl rfl S.nd rfl rfl ⟨(by rfl), (by decide), .inl XC.g_NoText⟩ (catN_ok XC.NoText_me) (takes_of rfl rfl rfl rfl) (fun c' pn xe tw => (dss_one (ds_set (i := 1) S.nd rfl (.inl rfl) (de_tup (da_cons de_str (da_cons (de_own C_read_thing tw hq hr (by omega) (by rfl) (da_cons (dv 0) da_nil)) da_nil)))))) (fun a oe d y c' pn hz hf hx tw2 hcat => by obtain rfl := catN_eq hcat; exact (dss_one (ds_if (PW.pt (dw_and (dt_val (de_isE ⟨XC.NoText_i, XC.isok⟩ hz hf hx (by rfl) M.isinstance_ (da_cons (dv 2) (da_cons (de_g (d := .ty "ValueError") (pe_bltn (v := .ty "ValueError") (u := .type "ValueError") (by rfl) M.ValueError_ (by decide +kernel) rfl) (.ty _)) da_nil)))) (dw_and1 (dt_not (dt_val (de_isE ⟨XC.NoText_i, XC.isok⟩ hz hf hx (by rfl) M.isinstance_ (da_cons (dv 2) (da_cons (de_tup (da_cons (de_g (d := .adr cWireError) (pe_glob (v := .ref cWireError) (by rfl) XC.g_WireError rfl) (.adr _)) (da_cons (de_g (d := .adr cNoName) (pe_glob (v := .ref cNoName) (by rfl) XC.g_NoName rfl) (.adr _)) (da_cons (de_g (d := .adr cNoPath) (pe_glob (v := .ref cNoPath) (by rfl) XC.g_NoPath rfl) (.adr _)) da_nil)))) da_nil))))))))
  (dss_one (ds_set (i := 1) S.nd rfl (.inl rfl) (de_tup (da_cons de_str (da_cons (de_xf (n := "place") XC.NoText_xf XC.NoText_place hz hf hx (dv 2)) da_nil)))))
  dss_nil))))
  (dss_one (ds_ret (dv 1)))))
theorem ok_l_right {f : Addr} {fd : FuncData} (nd : base.NoDigits) (D : DefAt K mg "_law_right" ["_law_line"] s_l_right f fd) (M : Bi mg)
    (C_l_read : Cal P w K mg base (L2.CX P w) 2 "_law_read" ["_law_line"] (spX K dkD 1 F_l_read))
    (C_l_heard : Cal P w K mg base (L2.CX P w) 7 "_law_heard" ["_law_line"] (spX K dkD 1 (F_l_heard cNoText cWireError cNoName cNoPath))) : Cal P w K mg base (L2.CX P w) 8 "_law_right" ["_law_line"] (spX K dkD 1 (F_l_right cNoText cWireError cNoName cNoPath)) := by
  have S := S_l_right
  exact cal_D (m := 1) D S rfl fun cdv A outer s H0 E hq hr S0 μ0 H => (dss_cons (ds_set (i := 1) S.nd rfl (.inl rfl) (de_own C_l_read (takes_of rfl rfl rfl rfl) hq hr (by omega) (by rfl) (da_cons (dv 0) da_nil)))
  (dss_cons (ds_if (dt_cmp (o_eq2 (room200 hr)) l_eq2 (de_ix ix_seq l_ix (dv 1) de_int (fun _ _ => rfl)) de_str (nomark _))
  (dss_one (ds_set (i := 1) S.nd rfl (.inl rfl) (de_tup (da_cons de_str (da_cons (de_tup (da_cons de_int (da_cons (de_ix ix_seq l_ix (dv 1) de_int (fun _ _ => rfl)) da_nil))) da_nil)))))
  dss_nil)
  (dss_one (ds_ret (de_cmp (o_eq2 (room200 hr)) l_eq2 (de_callB (X21.k_reprL nd hq (room200 hr)) X21.l_reprL (by rfl) M.repr_ (by decide +kernel) (da_cons (de_own C_l_heard (takes_of rfl rfl rfl rfl) hq hr (by omega) (by rfl) (da_cons (dv 0) da_nil)) da_nil)) (de_callB (X21.k_reprL nd hq (room200 hr)) X21.l_reprL (by rfl) M.repr_ (by decide +kernel) (da_cons (dv 1) da_nil)) (nomark _))))))
theorem ok_l_bent {f : Addr} {fd : FuncData} (D : DefAt K mg "_law_bent" ["_law_deck_here", "_law_line", "_law_way"] s_l_bent f fd) (M : Bi mg)
    (C_l_draw : Cal P w K mg base (L2.CX P w) 1 "_law_draw" ["_law_deck_here", "_law_sides"] (spX K dkD 2 F_l_draw)) : Cal P w K mg base (L2.CX P w) 2 "_law_bent" ["_law_deck_here", "_law_line", "_law_way"] (spX K dkD 3 F_l_bent) := by
  have S := S_l_bent
  exact cal_D (m := 9) D S rfl fun cdv A outer s H0 E hq hr S0 μ0 H => (dss_cons (ds_par (i := 3) (j := 4) rfl S.nd rfl rfl (by decide) rfl rfl (da_cons (de_split (dv 1) de_str) (da_cons (de_own C_l_draw (takes_of rfl rfl rfl rfl) hq hr (by omega) (by rfl) (da_cons (dv 0) (da_cons (de_op o_add l_add (de_callB k_len l_len (by rfl) M.len_ (by decide +kernel) (da_cons (dv 1) da_nil)) de_int) da_nil))) da_nil)) (by rfl))
  (dss_cons (ds_set (i := 5) S.nd rfl (.inl rfl) (de_own C_l_draw (takes_of rfl rfl rfl rfl) hq hr (by omega) (by rfl) (da_cons (dv 0) (da_cons (de_callB k_len l_len (by rfl) M.len_ (by decide +kernel) (da_cons (dv 3) da_nil)) da_nil))))
  (dss_cons (ds_set (i := 6) S.nd rfl (.inl rfl) (de_lst (da_cons de_str (da_cons de_str (da_cons de_str (da_cons de_str (da_cons de_str (da_cons de_str (da_cons de_str (da_cons de_str (da_cons de_str (da_cons de_str (da_cons de_str (da_cons de_str (da_cons de_str (da_cons de_str (da_cons de_str (da_cons de_str (da_cons de_str (da_cons de_str da_nil))))))))))))))))))))
  (dss_cons (ds_set (i := 6) S.nd rfl (.inl rfl) (de_op o_add l_add (dv 6) (de_lst (da_cons de_str (da_cons de_str (da_cons de_str (da_cons de_str (da_cons de_str (da_cons de_str (da_cons (de_op o_mul l_mul de_str de_int) (da_cons de_str (da_cons de_str (da_cons de_str (da_cons de_str (da_cons de_str (da_cons de_str (da_cons de_str da_nil)))))))))))))))))
  (dss_cons (ds_par (i := 7) (j := 8) rfl S.nd rfl rfl (by decide) rfl rfl (da_cons (de_ix ix_seq l_ix (dv 6) (de_own C_l_draw (takes_of rfl rfl rfl rfl) hq hr (by omega) (by rfl) (da_cons (dv 0) (da_cons de_int da_nil))) (fun _ _ => rfl)) (da_cons (de_ix ix_seq l_ix de_str (de_own C_l_draw (takes_of rfl rfl rfl rfl) hq hr (by omega) (by rfl) (da_cons (dv 0) (da_cons de_int da_nil))) (fun _ _ => rfl)) da_nil)) (by rfl))
  (dss_cons (ds_set (i := 9) S.nd rfl (.inl rfl) (de_revL (de_slice (dv 3) (do_some (dv 5)) (do_some (de_op o_add l_add (dv 5) de_int)))))
  (dss_cons (ds_set (i := 10) S.nd rfl (.inl rfl) (de_lst (da_cons (de_op o_add l_add (de_slice (dv 3) do_none (do_some (dv 5))) (de_slice (dv 3) (do_some (de_op o_add l_add (dv 5) de_int)) do_none)) (da_cons (de_op o_add l_add (de_slice (dv 3) do_none (do_some (de_op o_add l_add (dv 5) de_int))) (de_slice (dv 3) (do_some (dv 5)) do_none)) (da_cons (de_op o_add l_add (de_op o_add l_add (de_slice (dv 3) do_none (do_some (dv 5))) (dv 9)) (de_slice (dv 3) (do_some (de_op o_add l_add (dv 5) de_int)) do_none)) da_nil)))))
  (dss_cons (ds_set (i := 10) S.nd rfl (.inl rfl) (de_op o_add l_add (dv 10) (de_lst (da_cons (de_op o_add l_add (de_op o_add l_add (de_slice (dv 3) do_none (do_some (dv 5))) (de_lst (da_cons (dv 7) da_nil))) (de_slice (dv 3) (do_some (dv 5)) do_none)) (da_cons (de_op o_add l_add (de_op o_add l_add (de_slice (dv 3) do_none (do_some (dv 5))) (de_lst (da_cons (dv 7) da_nil))) (de_slice (dv 3) (do_some (de_op o_add l_add (dv 5) de_int)) do_none)) da_nil)))))
  (dss_cons (ds_if (dt_cmp o_lt l_ord (dv 2) de_int (nomark _))
  (dss_one (ds_ret (de_join de_str (de_ix ix_seq l_ix (dv 10) (dv 2) (fun _ _ => rfl)))))
  dss_nil)
  (dss_cons (ds_set (i := 11) S.nd rfl (.inl rfl) (de_lst (da_cons (de_op o_add l_add (de_op o_add l_add (de_slice (dv 1) do_none (do_some (dv 4))) (dv 8)) (de_slice (dv 1) (do_some (dv 4)) do_none)) (da_cons (de_op o_add l_add (de_slice (dv 1) do_none (do_some (dv 4))) (de_slice (dv 1) (do_some (de_op o_add l_add (dv 4) de_int)) do_none)) da_nil))))
  (dss_one (ds_ret (de_ix ix_seq l_ix (de_op o_add l_add (dv 11) (de_lst (da_cons (de_op o_add l_add (de_op o_add l_add (de_slice (dv 1) do_none (do_some (dv 4))) (dv 8)) (de_slice (dv 1) (do_some (de_op o_add l_add (dv 4) de_int)) do_none)) da_nil))) (de_op op_sub l_sub (dv 2) de_int) (fun _ _ => rfl))))))))))))))
theorem ok_law {f : Addr} {fd : FuncData} (D : DefAt K mg "law" ["_law_script"] s_law f fd) (M : Bi mg)
    (C_l_deck : Cal P w K mg base (L2.CX P w) 1 "_law_deck" ["_law_script"] (spX K dkD 1 F_l_deck))
    (C_l_right : Cal P w K mg base (L2.CX P w) 8 "_law_right" ["_law_line"] (spX K dkD 1 (F_l_right cNoText cWireError cNoName cNoPath)))
    (C_l_words_of : Cal P w K mg base (L2.CX P w) 61 "_law_words_of" ["_law_thing_here"] (spX K dkD 1 (F_l_words_of 60)))
    (C_l_bent : Cal P w K mg base (L2.CX P w) 2 "_law_bent" ["_law_deck_here", "_law_line", "_law_way"] (spX K dkD 3 F_l_bent))
    (C_l_draw : Cal P w K mg base (L2.CX P w) 1 "_law_draw" ["_law_deck_here", "_law_sides"] (spX K dkD 2 F_l_draw))
    (C_l_thing : Cal P w K mg base (L2.CX P w) 6 "_law_thing" ["_law_deck_here", "_law_deep"] (spX K dkD 2 (F_l_thing 4))) : Cal P w K mg base (L2.CX P w) 66 "law" ["_law_script"] (spX K dkD 1 (F_law cNoText cWireError cNoName cNoPath)) := by
  have S := S_law
  exact cal_D (m := 10) D S rfl fun cdv A outer s H0 E hq hr S0 μ0 H => (dss_cons (ds_set (i := 1) S.nd rfl (.inr rfl) (de_own C_l_deck (takes_of rfl rfl rfl rfl) hq hr (by omega) (by rfl) (da_cons (dv 0) da_nil)))
  (dss_cons (ds_set (i := 2) S.nd rfl (.inl rfl) (de_lst (da_cons de_str (da_cons de_str (da_cons de_str (da_cons de_str (da_cons de_str (da_cons de_str (da_cons de_str (da_cons de_str (da_cons de_str (da_cons de_str (da_cons de_str (da_cons de_str (da_cons de_str (da_cons de_str (da_cons de_str da_nil)))))))))))))))))
  (dss_cons (ds_set (i := 2) S.nd rfl (.inl rfl) (de_op o_add l_add (dv 2) (de_lst (da_cons de_str (da_cons (de_op o_add l_add (de_op o_add l_add (de_op o_mul l_mul de_str de_int) de_str) (de_op o_mul l_mul de_str de_int)) (da_cons (de_op o_add l_add (de_op o_add l_add (de_op o_mul l_mul de_str de_int) de_str) (de_op o_mul l_mul de_str de_int)) (da_cons (de_op o_add l_add de_str (de_op o_mul l_mul de_str de_int)) da_nil)))))))
  (dss_cons (ds_set (i := 2) S.nd rfl (.inl rfl) (de_op o_add l_add (dv 2) (de_lst (da_cons de_str (da_cons (de_op o_mul l_mul de_str de_int) (da_cons (de_op o_mul l_mul de_str de_int) (da_cons (de_op o_mul l_mul de_str de_int) (da_cons (de_op o_add l_add (de_op o_add l_add de_str (de_op o_mul l_mul de_str de_int)) de_str) (da_cons (de_op o_add l_add de_str (de_op o_mul l_mul de_str de_int)) da_nil)))))))))
  (dss_cons (ds_for (vs := [3]) (passes_of rfl) rfl (di_seq (de_op o_add l_add (dv 2) (de_lst (da_cons de_non (da_cons de_bl (da_cons de_int (da_cons (de_tup da_nil) (da_cons (de_tup (da_cons de_str da_nil)) (da_cons (de_lst da_nil) (da_cons (de_dnew false) (da_cons (de_lst (da_cons de_str da_nil)) da_nil))))))))))) (pg_name (i := 3) S.nd rfl (.inl rfl)) (lg_name (by decide))
  (dss_one (ds_if (dt_not (dt_val (de_own C_l_right (takes_of rfl rfl rfl rfl) hq hr (by omega) (by rfl) (da_cons (dv 3) da_nil))))
  (dss_one (ds_ret de_bl))
  dss_nil)))
  (dss_cons (ds_for (vs := [4]) (passes_of rfl) rfl (di_range1 (by rfl) M.range_ (da_cons de_int da_nil)) (pg_name (i := 4) S.nd rfl (.inl rfl)) (lg_name (by decide))
  (dss_cons (ds_setLc (i := 5) (own := [("_law_k", 6)]) (gg := (gName 6)) (dg := (gN 6)) (ft := dTrue) (fe := (dTup (aCons (dOwn 2 F_l_draw (aCons (dV 1) (aCons (dC (.int 8)) aNil))) (aCons (dOwn 2 F_l_draw (aCons (dV 1) (aCons (dC (.int 8)) aNil))) (aCons (dOwn 2 F_l_draw (aCons (dV 1) (aCons (dC (.int 3)) aNil))) aNil))))) rfl S.nd rfl rfl (sw_true rfl rfl rfl (by decide +kernel)) (di_range1 (by rfl) M.range_ (da_cons de_int da_nil)) (blkOk_by (own := [("_law_k", 6)]) (N := N_law) (sc := defScope s_law) (by decide +kernel)) (fun _ _ _ _ _ => (pg_name (i := 6) S.nd rfl (.inl rfl))) (lg_name (by decide)) (fun _ _ _ _ _ => dts_nil) (fun _ _ _ _ _ => (de_tup (da_cons (de_own C_l_draw takes_none5 hq hr (by omega) (by rfl) (da_cons (dv 1) (da_cons de_int da_nil))) (da_cons (de_own C_l_draw takes_none5 hq hr (by omega) (by rfl) (da_cons (dv 1) (da_cons de_int da_nil))) (da_cons (de_own C_l_draw takes_none5 hq hr (by omega) (by rfl) (da_cons (dv 1) (da_cons de_int da_nil))) da_nil))))))
  (dss_cons (ds_set (i := 3) S.nd rfl (.inl rfl) (de_join de_str (de_own C_l_words_of (takes_of rfl rfl rfl rfl) hq hr (by omega) (by rfl) (da_cons (de_own C_l_thing (takes_of rfl rfl rfl rfl) hq hr (by omega) (by rfl) (da_cons (dv 1) (da_cons de_int da_nil))) da_nil))))
  (dss_one (ds_for (vs := [7, 8, 9]) (passes_of rfl) rfl (di_seq (dv 5)) (pg_tup (by rfl) (pgs_cons (pg_name (i := 7) S.nd rfl (.inl rfl)) (pgs_cons (pg_name (i := 8) S.nd rfl (.inl rfl)) (pgs_cons (pg_name (i := 9) S.nd rfl (.inl rfl)) pgs_nil)))) (lg_tup (n := 3) (lg_cons (lg_name (by decide)) (lg_cons (lg_name (by decide)) (lg_cons (lg_name (by decide)) lg_nil))))
  (dss_cons (ds_set (i := 10) S.nd rfl (.inl rfl) (de_own C_l_bent (takes_of rfl rfl rfl rfl) hq hr (by omega) (by rfl) (da_cons (dv 1) (da_cons (dv 3) (da_cons (dv 7) da_nil)))))
  (dss_cons (ds_if (dt_cmp (o_eq2 (room200 hr)) l_eq2 (dv 9) de_int (nomark _))
  (dss_one (ds_set (i := 10) S.nd rfl (.inl rfl) (de_own C_l_bent (takes_of rfl rfl rfl rfl) hq hr (by omega) (by rfl) (da_cons (dv 1) (da_cons (dv 10) (da_cons (dv 8) da_nil))))))
  dss_nil)
  (dss_one (ds_if (PW.pt (dw_or (dt_not (dt_val (de_own C_l_right (takes_of rfl rfl rfl rfl) hq hr (by omega) (by rfl) (da_cons (dv 10) da_nil)))) (dw_or1 (dt_not (dt_val (de_own C_l_right (takes_of rfl rfl rfl rfl) hq hr (by omega) (by rfl) (da_cons (dv 3) da_nil)))))))
  (dss_one (ds_ret de_bl))
  dss_nil)))))))))
  (dss_one (ds_ret de_bl))))))))
end
end K68

namespace K68
open PySem PySem.Spec PyProof.Rows L2 Kit DL
/-! ### data of tuples; the reader as a function -/
inductive Td
  | non
  | str (z : Str)
  | int (i : Int)
  | tup (xs : List Td)
inductive TdR (H : Hp) : Td → V → Prop
  | non : TdR H .non .non
  | str (z : Str) : TdR H (.str z) (.str z)
  | int (i : Int) : TdR H (.int i) (.int i)
  | tup {p : Addr} {xs : List Td} {vs : List V} (h : H p = some (.tup vs)) (hl : xs.length = vs.length)
      (ha : ∀ (i : Nat) x v, xs[i]? = some x → vs[i]? = some v → TdR H x v) : TdR H (.tup xs) (.ref p)
theorem TdR.keep {H H' : Hp} {t : Td} {v : V} (h : TdR H t v) (k : ∀ p vs, H p = some (.tup vs) → H' p = some (.tup vs)) : TdR H' t v := by
  induction h with
  | non => exact .non
  | str z => exact .str z
  | int i => exact .int i
  | tup e hl ha ih => exact .tup (k _ _ e) hl ih
def All2 (H : Hp) (ts : List Td) (vs : List V) : Prop := ts.length = vs.length ∧ ∀ (i : Nat) x v, ts[i]? = some x → vs[i]? = some v → TdR H x v
theorem All2.nil {H : Hp} : All2 H [] [] := ⟨rfl, fun i x v h => by cases h⟩
theorem All2.cons {H : Hp} {t : Td} {v : V} {ts : List Td} {vs : List V} (h : TdR H t v) (hs : All2 H ts vs) : All2 H (t :: ts) (v :: vs) := by
  refine ⟨by rw [List.length_cons, List.length_cons, hs.1], fun i x u h1 h2 => ?_⟩
  cases i with
  | zero =>
    cases h1
    cases h2
    exact h
  | succ i => exact hs.2 i x u h1 h2
theorem All2.snoc {H : Hp} {t : Td} {v : V} : ∀ {ts : List Td} {vs : List V}, All2 H ts vs → TdR H t v → All2 H (ts ++ [t]) (vs ++ [v])
  | [], [], _, h => .cons h .nil
  | [], _ :: _, hs, _ => absurd hs.1 (by simp)
  | _ :: _, [], hs, _ => absurd hs.1 (by simp)
  | a :: ts, b :: vs, hs, h => .cons (hs.2 0 _ _ rfl rfl) (All2.snoc ⟨Nat.succ.inj hs.1, fun i x u h1 h2 => hs.2 (i + 1) x u h1 h2⟩ h)
theorem All2.keep {H H' : Hp} {ts : List Td} {vs : List V} (h : All2 H ts vs) (k : ∀ p vs, H p = some (.tup vs) → H' p = some (.tup vs)) : All2 H' ts vs :=
  ⟨h.1, fun i x v h1 h2 => (h.2 i x v h1 h2).keep k⟩
theorem TdR.mk {H : Hp} {p : Addr} {ts : List Td} {vs : List V} (h : H p = some (.tup vs)) (a : All2 H ts vs) : TdR H (.tup ts) (.ref p) := .tup h a.1 a.2
theorem TdR.inv_tup {H : Hp} {ts : List Td} {v : V} (h : TdR H (.tup ts) v) : ∃ a vs, v = .ref a ∧ H a = some (.tup vs) ∧ All2 H ts vs := by
  cases h with
  | tup e hl ha => exact ⟨_, _, rfl, e, hl, ha⟩
theorem TdR.inv_str {H : Hp} {z : Str} {v : V} (h : TdR H (.str z) v) : v = .str z := by
  cases h
  rfl
theorem TdR.inv_int {H : Hp} {i : Int} {v : V} (h : TdR H (.int i) v) : v = .int i := by
  cases h
  rfl
theorem TdR.inv_non {H : Hp} {v : V} (h : TdR H .non v) : v = .non := by
  cases h
  rfl
theorem All2.inv_cons {H : Hp} {t : Td} {ts : List Td} {vs : List V} (h : All2 H (t :: ts) vs) : ∃ v vs', vs = v :: vs' ∧ TdR H t v ∧ All2 H ts vs' := by
  cases vs with
  | nil => exact absurd h.1 (by simp)
  | cons v vs => exact ⟨v, vs, rfl, h.2 0 _ _ rfl rfl, Nat.succ.inj h.1, fun i x u h1 h2 => h.2 (i + 1) x u h1 h2⟩
theorem All2.inv_nil {H : Hp} {vs : List V} (h : All2 H [] vs) : vs = [] := by
  cases vs with
  | nil => rfl
  | cons v vs => exact absurd h.1 (by simp)
theorem All2.same {H H' : Hp} {ts : List Td} {vs : List V} (h : All2 H ts vs) (s : Same H H') : All2 H' ts vs := h.keep fun p vs e => s p _ e
theorem TdR.same {H H' : Hp} {t : Td} {v : V} (h : TdR H t v) (s : Same H H') : TdR H' t v := h.keep fun p vs e => s p _ e
mutual
def pd : Td → PyData
  | .non => .none
  | .str z => .str z
  | .int i => .int i
  | .tup xs => .tuple (pdL xs)
def pdL : List Td → List PyData
  | [] => []
  | x :: xs => pd x :: pdL xs
end
theorem dpall {K : PySem.W.Frag} {H : Hp} : ∀ (xs : List Td) (vs : List V), xs.length = vs.length → (∀ (i : Nat) x v, xs[i]? = some x → vs[i]? = some v → Dp K H v (pd x)) → DpAll K H vs (pdL xs)
  | [], [], _, _ => by
    rw [pdL]
    exact .nil
  | [], _ :: _, h, _ => by cases h
  | _ :: _, [], h, _ => by cases h
  | x :: xs, v :: vs, h, ha => by
    rw [pdL]
    exact .cons (ha 0 x v rfl rfl) (dpall xs vs (Nat.succ.inj h) fun i y u h1 h2 => ha (i + 1) y u h1 h2)
theorem dp_of {K : PySem.W.Frag} {H : Hp} {t : Td} {v : V} (h : TdR H t v) : Dp K H v (pd t) := by
  induction h with
  | non =>
    rw [pd]
    exact .non
  | str z =>
    rw [pd]
    exact .str z
  | int i =>
    rw [pd]
    exact .int i
  | tup e hl ha ih =>
    rw [pd]
    exact .tup (.inl (.inl e)) (dpall _ _ hl ih)

/-! ### words of things -/
def istr (i : Int) : Str := Str.ofString (toString i)
mutual
def wordsT : Td → List Str
  | .non => ["none"]
  | .str z => ["'" ++ z]
  | .int i => [istr i]
  | .tup xs => ("(" : Str) :: (wordsL xs ++ [(")" : Str)])
def wordsL : List Td → List Str
  | [] => []
  | x :: xs => wordsT x ++ wordsL xs
end
def goodZ (z : Str) : Prop := 1 ≤ z.length ∧ z.length ≤ 20 ∧ ∀ c ∈ z.cps.toList, 33 ≤ c ∧ c ≤ 126
def goodI (i : Int) : Prop := i.natAbs < 10 ^ 41
mutual
def wfT : Td → Prop
  | .non => True
  | .str z => goodZ z
  | .int i => goodI i
  | .tup xs => wfL xs
def wfL : List Td → Prop
  | [] => True
  | x :: xs => wfT x ∧ wfL xs
end
mutual
def depT : Td → Nat
  | .tup xs => depL xs + 1
  | _ => 0
def depL : List Td → Nat
  | [] => 0
  | x :: xs => max (depT x) (depL xs)
end
def okW (w : Str) : Prop := 1 ≤ w.length ∧ w.length ≤ 50 ∧ ∀ c ∈ w.cps.toList, 33 ≤ c ∧ c ≤ 126
theorem okW_dec {z : Str} (h : (decide (1 ≤ z.length ∧ z.length ≤ 50) && z.cps.toList.all fun c => decide (33 ≤ c ∧ c ≤ 126)) = true) : okW z := by
  rw [Bool.and_eq_true, decide_eq_true_eq, List.all_eq_true] at h
  exact ⟨h.1.1, h.1.2, fun c hc => of_decide_eq_true (h.2 c hc)⟩
theorem len_cps (z : Str) : z.cps.toList.length = z.length := Array.length_toList
theorem cps_app (a b : Str) : (a ++ b).cps.toList = a.cps.toList ++ b.cps.toList := by
  show (a.cps ++ b.cps).toList = _
  rw [Array.toList_append]
theorem str_ext {a b : Str} (h : a.cps.toList = b.cps.toList) : a = b := by
  cases a with
  | mk x =>
    cases b with
    | mk y =>
      congr 1
      exact Array.toList_inj.mp h
theorem dch (n : Nat) (h : n < 10) : Char.toNat (Nat.digitChar n) = 48 + n := by
  match n, h with
  | 0, _ => rfl
  | 1, _ => rfl
  | 2, _ => rfl
  | 3, _ => rfl
  | 4, _ => rfl
  | 5, _ => rfl
  | 6, _ => rfl
  | 7, _ => rfl
  | 8, _ => rfl
  | 9, _ => rfl
  | n + 10, h => omega
abbrev dgs (i : Nat) : List Nat := (Nat.toDigits 10 i).map Char.toNat
theorem digs (i : Nat) : NumText.digitsVal (dgs i) = i ∧ (∀ c ∈ dgs i, 48 ≤ c ∧ c ≤ 57) ∧ (i = 0 ∨ ∃ c r, dgs i = c :: r ∧ 49 ≤ c) := by
  unfold dgs
  induction i using Nat.strongRecOn with
  | _ i ih =>
    by_cases h : i < 10
    · rw [Nat.toDigits_of_lt_base h]
      refine ⟨?_, ?_, ?_⟩
      · show 0 * 10 + (Char.toNat (Nat.digitChar i) - 48) = i
        rw [dch i h]
        omega
      · intro c hc
        rw [List.map_cons, List.map_nil, List.mem_singleton] at hc
        rw [hc, dch i h]
        omega
      · rcases Nat.eq_zero_or_pos i with e | e
        · exact .inl e
        · refine .inr ⟨_, _, rfl, ?_⟩
          rw [dch i h]
          omega
    · obtain ⟨h1, h2, h3⟩ := ih (i / 10) (by omega)
      rw [Nat.toDigits_of_base_le (by decide) (by omega), List.map_append]
      have hm : i % 10 < 10 := Nat.mod_lt _ (by decide)
      refine ⟨?_, ?_, .inr ?_⟩
      · rw [List.map_cons, List.map_nil, NumText.digitsVal_snoc, h1, dch _ hm]
        omega
      · intro c hc
        rcases List.mem_append.mp hc with hc | hc
        · exact h2 c hc
        · rw [List.map_cons, List.map_nil, List.mem_singleton] at hc
          rw [hc, dch _ hm]
          omega
      · rcases h3 with h3 | ⟨c, r, e, hc⟩
        · omega
        · rw [e]
          exact ⟨c, _, rfl, hc⟩
theorem digs_len : ∀ (k i : Nat), i < 10 ^ (k + 1) → (Nat.toDigits 10 i).length ≤ k + 1 ∧ 1 ≤ (Nat.toDigits 10 i).length
  | 0, i, h => by
    rw [Nat.toDigits_of_lt_base (by omega)]
    exact ⟨Nat.le_refl _, Nat.le_refl _⟩
  | k + 1, i, h => by
    by_cases h1 : i < 10
    · rw [Nat.toDigits_of_lt_base h1]
      exact ⟨by show 1 ≤ _; omega, Nat.le_refl _⟩
    · obtain ⟨a, b⟩ := digs_len k (i / 10) (by rw [Nat.pow_succ] at h; omega)
      rw [Nat.toDigits_of_base_le (by decide) (by omega), List.length_append]
      exact ⟨by show _ + 1 ≤ _; omega, by omega⟩
theorem istr_pos (n : Nat) : (istr (n : Int)).cps.toList = dgs n := by
  unfold istr dgs
  rw [signs_ofString]
  show (Nat.repr n).toList.map Char.toNat = _
  rw [Nat.repr_eq_ofList_toDigits, String.toList_ofList]
theorem istr_neg (n : Nat) : (istr (Int.negSucc n)).cps.toList = 45 :: dgs (n + 1) := by
  unfold istr dgs
  rw [signs_ofString]
  show ("-" ++ Nat.repr (n + 1)).toList.map Char.toNat = _
  rw [String.toList_append, List.map_append, Nat.repr_eq_ofList_toDigits]
  rw [String.toList_ofList, String.toList_ofList]
  rfl
theorem istr_form (i : Int) : (∃ n : Nat, i = (n : Int) ∧ (istr i).cps.toList = dgs n) ∨ ∃ n : Nat, i = -((n + 1 : Nat) : Int) ∧ (istr i).cps.toList = 45 :: dgs (n + 1) := by
  cases i with
  | ofNat n => exact .inl ⟨n, rfl, istr_pos n⟩
  | negSucc n => exact .inr ⟨n, rfl, istr_neg n⟩
theorem dgs_len {i : Nat} (h : i < 10 ^ 41) : (dgs i).length ≤ 41 ∧ 1 ≤ (dgs i).length := by
  have := digs_len 40 i h
  rw [List.length_map]
  omega
theorem istr_ok {i : Int} (h : goodI i) : okW (istr i) := by
  unfold goodI at h
  rcases istr_form i with ⟨n, rfl, e⟩ | ⟨n, rfl, e⟩
  · have hl := dgs_len (i := n) (by omega)
    have hd := (digs n).2.1
    refine ⟨by rw [← len_cps, e]; omega, by rw [← len_cps, e]; omega, fun c hc => ?_⟩
    rw [e] at hc
    have := hd c hc
    omega
  · have hl := dgs_len (i := n + 1) (by omega)
    have hd := (digs (n + 1)).2.1
    refine ⟨by rw [← len_cps, e, List.length_cons]; omega, by rw [← len_cps, e, List.length_cons]; omega, fun c hc => ?_⟩
    rw [e] at hc
    rcases List.mem_cons.mp hc with rfl | hc
    · decide
    · have := hd c hc
      omega
theorem quote_cps : ("'" : Str).cps.toList = [39] := by decide +kernel
theorem quote_ok {z : Str} (h : goodZ z) : okW ("'" ++ z) := by
  have e : ("'" ++ z : Str).cps.toList = 39 :: z.cps.toList := by rw [cps_app, quote_cps]; rfl
  obtain ⟨h1, h2, h3⟩ := h
  refine ⟨by rw [← len_cps, e, List.length_cons]; omega, by rw [← len_cps, e, List.length_cons, len_cps]; omega, fun c hc => ?_⟩
  rw [e] at hc
  rcases List.mem_cons.mp hc with rfl | hc
  · decide
  · exact h3 c hc
mutual
theorem words_ok : ∀ (t : Td), wfT t → ∀ w ∈ wordsT t, okW w
  | .non, _, w, hw => by
    rw [wordsT, List.mem_singleton] at hw
    rw [hw]
    exact okW_dec (by decide +kernel)
  | .str z, h, w, hw => by
    rw [wordsT, List.mem_singleton] at hw
    rw [wfT] at h
    rw [hw]
    exact quote_ok h
  | .int i, h, w, hw => by
    rw [wordsT, List.mem_singleton] at hw
    rw [wfT] at h
    rw [hw]
    exact istr_ok h
  | .tup xs, h, w, hw => by
    rw [wordsT] at hw
    rw [wfT] at h
    rcases List.mem_cons.mp hw with rfl | hw
    · exact okW_dec (by decide +kernel)
    · rcases List.mem_append.mp hw with hw | hw
      · exact words_okL xs h w hw
      · rw [List.mem_singleton.mp hw]
        exact okW_dec (by decide +kernel)
theorem words_okL : ∀ (ts : List Td), wfL ts → ∀ w ∈ wordsL ts, okW w
  | [], _, w, hw => by
    rw [wordsL] at hw
    exact absurd hw List.not_mem_nil
  | x :: xs, h, w, hw => by
    rw [wordsL] at hw
    rw [wfL] at h
    rcases List.mem_append.mp hw with hw | hw
    · exact words_ok x h.1 w hw
    · exact words_okL xs h.2 w hw
end
theorem words_ne (t : Td) : wordsT t ≠ [] := by cases t <;> simp [wordsT]
def lineT (t : Td) : Str := Txt.join " " (wordsT t)
theorem line_split {t : Td} (h : wfT t) : Txt.split (lineT t) " " = wordsT t :=
  TL.split_join (s := 32) (S := []) (by decide +kernel) (by decide +kernel) (words_ne t) fun p hp hc => by
    have := (words_ok t h p hp).2.2 32 hc
    omega
/-! ### what a word tells -/
theorem starts1 (w : Str) (k : Nat) : Txt.startswith w ⟨#[k]⟩ = decide (w.cps.toList.head? = some k) := by
  obtain ⟨⟨l⟩⟩ := w
  unfold Txt.startswith Builtin.Str.subAt
  show (decide (0 + 1 ≤ l.length) && (Array.mk l).extract 0 (0 + 1) == #[k]) = decide (l.head? = some k)
  cases l with
  | nil => rfl
  | cons c l =>
    have e1 : (Array.mk (c :: l)).extract 0 (0 + 1) = #[c] := by
      apply Array.toList_inj.mp
      rw [Array.toList_extract]
      simp
    rw [e1]
    have e2 : decide (0 + 1 ≤ (c :: l).length) = true := decide_eq_true (by rw [List.length_cons]; omega)
    rw [e2, Bool.true_and]
    by_cases h : c = k
    · subst h
      simp
    · have : ¬ (some c = some k) := fun z => h (Option.some.inj z)
      simp [h]
def dig (c : Nat) : Bool := decide (c ∈ ("0123456789" : Str).cps.toList)
theorem dig_iff (c : Nat) : dig c = true ↔ 48 ≤ c ∧ c ≤ 57 := by
  have e : ("0123456789" : Str).cps.toList = [48, 49, 50, 51, 52, 53, 54, 55, 56, 57] := by decide +kernel
  unfold dig
  rw [e, decide_eq_true_eq]
  simp only [List.mem_cons, List.not_mem_nil, or_false]
  omega
def vis (c : Nat) : Bool := decide (33 ≤ c ∧ c ≤ 126)
def isTxtW (w : Str) : Bool := decide (w.cps.toList.head? = some 39) && (decide (1 < w.length) && w.cps.toList.all vis)
def figW (w : Str) : Str := if w.cps.toList.head? = some 45 then cutS w (some 1) none else w
def isNumW (w : Str) : Bool := (decide (1 ≤ (figW w).length ∧ (figW w).length ≤ 4000) && (figW w).cps.toList.all dig) && (decide ((figW w).cps.toList.head? ≠ some 48) || decide (w = "0"))
def rdW (w : Str) : Option Td := if w = "none" then some .non else if isTxtW w = true then some (.str (cutS w (some 1) none)) else if isNumW w = true then (intText? w).map Td.int else none
theorem cut1 {w : Str} {c : Nat} {r : List Nat} (h : w.cps.toList = c :: r) : (cutS w (some 1) none).cps.toList = r := by
  unfold cutS
  have hl : w.length = r.length + 1 := by rw [← len_cps, h, List.length_cons]
  have e1 : HT.sIx w.length 0 (some 1) = 1 := by
    rw [show (some (1 : Int)) = some ((1 : Nat) : Int) from rfl, HT.sIx_nat, hl]
    omega
  have e2 : HT.sIx w.length w.length none = w.length := rfl
  rw [e1, e2, h, hl]
  show List.take _ r = r
  exact List.take_of_length_le (by omega)
theorem none_cps : ("none" : Str).cps.toList = [110, 111, 110, 101] := by decide +kernel
theorem zero_cps : ("0" : Str).cps.toList = [48] := by decide +kernel
theorem rd_non : rdW "none" = some .non := by
  unfold rdW
  rw [if_pos rfl]
theorem rd_str {z : Str} (h : goodZ z) : rdW ("'" ++ z) = some (.str z) := by
  have e : ("'" ++ z : Str).cps.toList = 39 :: z.cps.toList := by rw [cps_app, quote_cps]; rfl
  unfold rdW
  rw [if_neg fun q => by rw [q, none_cps] at e; cases e]
  have e2 : isTxtW ("'" ++ z) = true := by
    unfold isTxtW
    rw [e, Bool.and_eq_true, Bool.and_eq_true, decide_eq_true_eq, decide_eq_true_eq, List.all_eq_true]
    refine ⟨rfl, ?_, fun c hc => ?_⟩
    · rw [← len_cps, e, List.length_cons, len_cps]
      have := h.1
      omega
    · rcases List.mem_cons.mp hc with rfl | hc
      · rfl
      · exact decide_eq_true (h.2.2 c hc)
  rw [if_pos e2]
  congr 2
  exact str_ext (cut1 e)
theorem istr_num {i : Int} (h : goodI i) : istr i ≠ "none" ∧ isTxtW (istr i) = false ∧ isNumW (istr i) = true ∧ intText? (istr i) = some i := by
  unfold goodI at h
  rcases istr_form i with ⟨n, rfl, e⟩ | ⟨n, rfl, e⟩
  · have hl := dgs_len (i := n) (by omega)
    obtain ⟨d1, d2, d3⟩ := digs n
    have hn : dgs n ≠ [] := fun z => by rw [z] at hl; exact absurd hl.2 (by decide)
    obtain ⟨c0, r0, e0⟩ : ∃ c r, dgs n = c :: r := by
      cases q : dgs n with
      | nil => exact absurd q hn
      | cons c r => exact ⟨c, r, rfl⟩
    have hc0 := d2 c0 (by rw [e0]; exact List.mem_cons_self)
    have ef : figW (istr n) = istr n := by
      unfold figW
      rw [e, e0, if_neg]
      intro z
      cases z
      omega
    refine ⟨fun q => ?_, ?_, ?_, ?_⟩
    · rw [q, none_cps] at e
      rw [← e] at e0
      cases e0
      omega
    · unfold isTxtW
      rw [e, e0]
      have : decide ((c0 :: r0).head? = some 39) = false := decide_eq_false fun z => by
        cases z
        omega
      rw [this]
      rfl
    · unfold isNumW
      rw [ef, e, Bool.and_eq_true, Bool.and_eq_true, decide_eq_true_eq, List.all_eq_true, Bool.or_eq_true, decide_eq_true_eq, decide_eq_true_eq]
      refine ⟨⟨by rw [← len_cps, e]; omega, fun c hc => (dig_iff c).mpr (d2 c hc)⟩, ?_⟩
      rcases d3 with rfl | ⟨c, r, ec, hc⟩
      · exact .inr (by decide +kernel)
      · refine .inl fun z => ?_
        rw [ec] at z
        cases z
        omega
    · rw [intText_digits (x := istr n) (by rw [e]; exact d2) (by rw [e]; exact hn) (by rw [← len_cps, e]; omega), e, d1]
  · have hl := dgs_len (i := n + 1) (by omega)
    obtain ⟨d1, d2, d3⟩ := digs (n + 1)
    have hn : dgs (n + 1) ≠ [] := fun z => by rw [z] at hl; exact absurd hl.2 (by decide)
    generalize ei : istr (-((n + 1 : Nat) : Int)) = w at *
    have ef : (figW w).cps.toList = dgs (n + 1) := by
      unfold figW
      rw [e, if_pos (by rfl)]
      exact cut1 e
    refine ⟨fun q => ?_, ?_, ?_, ?_⟩
    · rw [q, none_cps] at e
      cases e
    · unfold isTxtW
      rw [e]
      rfl
    · unfold isNumW
      rw [ef, Bool.and_eq_true, Bool.and_eq_true, decide_eq_true_eq, List.all_eq_true, Bool.or_eq_true, decide_eq_true_eq]
      refine ⟨⟨by rw [← len_cps, ef]; omega, fun c hc => (dig_iff c).mpr (d2 c hc)⟩, .inl fun z => ?_⟩
      rcases d3 with h0 | ⟨c, r, ec, hc⟩
      · omega
      · rw [ec] at z
        cases z
        omega
    · rw [intText_neg e d2 hn (by rw [← len_cps, e, List.length_cons]; omega), d1]
theorem rd_int {i : Int} (h : goodI i) : rdW (istr i) = some (.int i) := by
  obtain ⟨h1, h2, h3, h4⟩ := istr_num h
  unfold rdW
  rw [if_neg h1, if_neg (by rw [h2]; exact Bool.false_ne_true), if_pos h3, h4]
  rfl
theorem par_ne : rdW "(" = none ∧ rdW ")" = none := by
  constructor
  · unfold rdW
    rw [if_neg (by decide +kernel), if_neg (by decide +kernel), if_neg (by decide +kernel)]
  · unfold rdW
    rw [if_neg (by decide +kernel), if_neg (by decide +kernel), if_neg (by decide +kernel)]
theorem rd_not {w : Str} {t : Td} (h : rdW w = some t) : w ≠ "(" ∧ w ≠ ")" := by
  constructor
  · rintro rfl
    rw [par_ne.1] at h
    cases h
  · rintro rfl
    rw [par_ne.2] at h
    cases h
/-! ### a stack of parts, the top first -/
def okS (s : List (List Td)) : Bool := match s.getLast? with
  | some [] => true
  | _ => false
def stepP (s : List (List Td)) (w : Str) : Option (List (List Td)) :=
  if okS s = true then
    (if w = "(" then some ([] :: s)
    else if w = ")" then (match s with
      | a :: b :: r => some ((b ++ [.tup a]) :: r)
      | _ => none)
    else match s with
      | a :: r => (rdW w).map fun t => (a ++ [t]) :: r
      | _ => none)
  else none
def runW : List Str → List (List Td) → Option (List (List Td))
  | [], s => some s
  | w :: ws, s => (stepP s w).bind (runW ws)
theorem runW_app : ∀ (a b : List Str) (s : List (List Td)), runW (a ++ b) s = (runW a s).bind (runW b)
  | [], b, s => rfl
  | w :: a, b, s => by
    show (stepP s w).bind (runW (a ++ b)) = ((stepP s w).bind (runW a)).bind (runW b)
    cases stepP s w with
    | none => rfl
    | some s1 => exact runW_app a b s1
theorem runW_take {ws : List Str} {s f : List (List Td)} (h : runW ws s = some f) (i : Nat) : ∃ m, runW (ws.take i) s = some m := by
  have e := runW_app (ws.take i) (ws.drop i) s
  rw [List.take_append_drop, h] at e
  cases q : runW (ws.take i) s with
  | none =>
    rw [q] at e
    cases e
  | some m => exact ⟨m, rfl⟩
theorem runW_step {ws : List Str} {s f m : List (List Td)} {i : Nat} {w : Str} (h : runW ws s = some f) (hm : runW (ws.take i) s = some m) (hw : ws[i]? = some w) : ∃ m', stepP m w = some m' ∧ runW (ws.take (i + 1)) s = some m' := by
  obtain ⟨m', h'⟩ := runW_take h (i + 1)
  have h2 := h'
  rw [List.take_add_one, hw, runW_app, hm] at h'
  have h3 : (stepP m w).bind (runW []) = some m' := h'
  cases q : stepP m w with
  | none =>
    rw [q] at h3
    cases h3
  | some x =>
    rw [q] at h3
    cases h3
    exact ⟨_, rfl, h2⟩
mutual
theorem run_T : ∀ (t : Td) (a : List Td) (r : List (List Td)), wfT t → okS (a :: r) = true → runW (wordsT t) (a :: r) = some ((a ++ [t]) :: r)
  | .non, a, r, _, h => by
    rw [wordsT]
    show (stepP (a :: r) "none").bind (runW []) = _
    unfold stepP
    rw [if_pos h, if_neg (by decide +kernel), if_neg (by decide +kernel)]
    show (Option.map _ (rdW "none")).bind (runW []) = _
    rw [rd_non]
    rfl
  | .str z, a, r, hz, h => by
    rw [wfT] at hz
    rw [wordsT]
    have e := rd_str hz
    obtain ⟨n1, n2⟩ := rd_not e
    show (stepP (a :: r) ("'" ++ z)).bind (runW []) = _
    unfold stepP
    rw [if_pos h, if_neg n1, if_neg n2]
    show (Option.map _ (rdW ("'" ++ z))).bind (runW []) = _
    rw [e]
    rfl
  | .int i, a, r, hz, h => by
    rw [wfT] at hz
    rw [wordsT]
    have e := rd_int hz
    obtain ⟨n1, n2⟩ := rd_not e
    show (stepP (a :: r) (istr i)).bind (runW []) = _
    unfold stepP
    rw [if_pos h, if_neg n1, if_neg n2]
    show (Option.map _ (rdW (istr i))).bind (runW []) = _
    rw [e]
    rfl
  | .tup xs, a, r, hz, h => by
    rw [wfT] at hz
    rw [wordsT]
    show (stepP (a :: r) "(").bind (runW (wordsL xs ++ [(")" : Str)])) = _
    unfold stepP
    rw [if_pos h, if_pos rfl]
    show runW (wordsL xs ++ [(")" : Str)]) ([] :: a :: r) = _
    rw [runW_app, run_L xs [] a r hz h]
    show (stepP (([] ++ xs) :: a :: r) ")").bind (runW []) = _
    unfold stepP
    rw [if_pos (by unfold okS; rw [List.getLast?_cons_cons]; exact h), if_neg (by decide +kernel), if_pos rfl]
    rfl
theorem run_L : ∀ (ts : List Td) (a b : List Td) (r : List (List Td)), wfL ts → okS (b :: r) = true → runW (wordsL ts) (a :: b :: r) = some ((a ++ ts) :: b :: r)
  | [], a, b, r, _, h => by
    rw [wordsL, List.append_nil]
    rfl
  | x :: xs, a, b, r, hz, h => by
    rw [wfL] at hz
    rw [wordsL, runW_app, run_T x a (b :: r) hz.1 (by unfold okS; rw [List.getLast?_cons_cons]; exact h)]
    show runW (wordsL xs) ((a ++ [x]) :: b :: r) = _
    rw [run_L xs (a ++ [x]) b r hz.2 h, List.append_assoc]
    rfl
end
theorem run_line {t : Td} (h : wfT t) : runW (wordsT t) [[]] = some [[t]] := run_T t [] [] h rfl

theorem starts_minus (w : Str) : Txt.startswith w "-" = decide (w.cps.toList.head? = some 45) := by
  have e : ("-" : Str) = ⟨#[45]⟩ := by decide +kernel
  rw [e]
  exact starts1 w 45
theorem starts_quote (w : Str) : Txt.startswith w "'" = decide (w.cps.toList.head? = some 39) := by
  have e : ("'" : Str) = ⟨#[39]⟩ := by decide +kernel
  rw [e]
  exact starts1 w 39
theorem figW_len (w : Str) : (figW w).length ≤ w.length := by
  unfold figW
  split
  · next h =>
    cases e : w.cps.toList with
    | nil =>
      rw [e] at h
      cases h
    | cons c r =>
      rw [← len_cps, cut1 e, ← len_cps w, e, List.length_cons]
      omega
  · exact Nat.le_refl _
/-- a comprehension that changes nothing -/
theorem run_lc {i : Nat} {ft : DS → W Bool} {fe : DS → W D} {ε : DS} {p : Mu → Prop} {f : D → D} {t : D → Bool} {μ : Mu} {E : Exn → Mu → Prop} (hp : p μ) : ∀ {xs : List D} {Q : List D → Mu → Prop},
    (∀ x ∈ xs, ∀ Q' : Bool → Mu → Prop, (ft (ε.set i (some x))).run Q' E μ = Q' (t x) μ) → (∀ x ∈ xs, t x = true → ∀ Q' : D → Mu → Prop, (fe (ε.set i (some x))).run Q' E μ = Q' (f x) μ) →
    (lcW (gN i) ft fe ε p xs).run Q E μ = Q ((xs.filter t).map f) μ
  | [], Q, _, _ => by simp only [lcW, gd, run_rd, run_chk, run_ret, hp, true_and, List.filter_nil, List.map_nil]
  | x :: xs, Q, h1, h2 => by
    simp only [lcW, gd, run_rd, run_chk, hp, true_and, run_bnd, gN, W.opt, run_ret]
    rw [h1 x List.mem_cons_self]
    have ih := fun Q : List D → Mu → Prop => run_lc (Q := Q) (xs := xs) hp (fun y hy => h1 y (List.mem_cons_of_mem _ hy)) (fun y hy => h2 y (List.mem_cons_of_mem _ hy))
    cases ht : t x with
    | true =>
      rw [if_pos rfl, run_bnd, h2 x List.mem_cons_self ht, run_bnd, ih, List.filter_cons_of_pos ht]
      rfl
    | false =>
      rw [if_neg (by decide), ih, List.filter_cons_of_neg (by rw [ht]; decide)]
def digD : D → D
  | .str w => .bl (dig ((w.cps.toList.head?).getD 0))
  | _ => .non
theorem blsD_map : ∀ bs : List Bool, blsD (bs.map D.bl) = some bs
  | [] => rfl
  | b :: bs => by
    rw [List.map_cons, blsD, blsD_map bs]
    rfl
theorem sgD_len (z : Str) : (sgD z).length = z.length := by
  unfold sgD
  rw [List.length_map]
  exact len_cps z
theorem one_zero (c : Nat) : decide ((⟨#[c]⟩ : Str) = ("0" : Str)) = decide (c = 48) := by
  have e0 : ("0" : Str) = ⟨#[48]⟩ := by decide +kernel
  rw [e0]
  by_cases h : c = 48
  · subst h
    rw [decide_eq_true rfl]
    rfl
  · rw [decide_eq_false h]
    exact decide_eq_false fun z => h (by cases z; rfl)
theorem run_isnum {z : Str} {Q E μ} (hz : z.length ≤ 1000000) : (F_is_shown_number [.str z]).run Q E μ = Q (.bl (isNumW z)) μ := by
  have hf := figW_len z
  have big : 1000000 < sizeLine := by decide
  have hz2 : z.length ≤ sizeLine := by omega
  have e : ∀ (Q : D → Mu → Prop) (E : Exn → Mu → Prop), (dIfE (dB (dM1 gStarts (dV 0) (dC (.str "-")))) (dSl (dV 0) (dPart (dC (.int 1))) dNoPart) (dV 0) [some (.str z), none, none]).run Q E μ = Q (.str (figW z)) μ := fun Q E => by
    simp only [defW, sSeq, sIf, sSet, sRet, sRetN, sExpr, sPar, two, sFor, sRaise, dB, dOp, dUn, dV, dC, dIfE, dM1, dJoin.isS, dSl, dPart, dNoPart, dNot, dAnd, dOr, dNotV, dOrV, dAndV, dChain, dCall, dOwn, dTup, dLst, dLstM, dMet, isL, aCons, aNil, dTru, slot, startD, iOf, its, itsOf, itm, run_bnd, run_ret, run_fail, run_chk, run_rd, run_wr, run_any, run_nox, run_exn, run_tag, see, look, lookM, W.opt, s1, s2, c1, c2, asB, List.map, List.replicate, List.append_eq, List.cons_append, List.nil_append, List.set, andThen, endF, sNil, wipeD, dTrue, gStarts, starts_minus]
    unfold figW
    by_cases h : z.cps.toList.head? = some 45
    · simp only [h, decide_true, if_true, run_bnd, run_ret, run_rd, gSl, run_chk, hz2, true_and]
    · simp only [h, decide_false, if_false, run_ret, Bool.false_eq_true]
  unfold isNumW
  simp only [F_is_shown_number, defW, B_is_shown_number, sSeq, sSet, run_bnd, run_ret, startD, List.map, List.replicate, List.append_eq, List.cons_append, List.nil_append, List.set]
  rw [e]
  clear e
  revert hf
  generalize figW z = f
  intro hf
  have hf2 : f.length ≤ sizeLine := by omega
  have hlc : ∀ {Q' : List D → Mu → Prop} {E' : Exn → Mu → Prop}, (lcW (gN 2) dTrue (dOp (s2 (gIn false)) (dV 2) (dC (.str "0123456789"))) [some (.str z), some (.str f), none] (fun _ => True) (sgD f)).run Q' E' μ = Q' ((f.cps.toList.map dig).map D.bl) μ := fun {Q' E'} => by
    refine (run_lc (f := digD) (t := fun _ => true) (ε := [some (.str z), some (.str f), none]) True.intro (fun x _ Q'' => ?_) (fun x hx _ Q'' => ?_)).trans ?_
    · simp only [dTrue, run_ret]
    · obtain ⟨c, hc, rfl⟩ := List.mem_map.mp hx
      simp only [defW, sSeq, sIf, sSet, sRet, sRetN, sExpr, sPar, two, sFor, sRaise, dB, dOp, dUn, dV, dC, dIfE, dM1, dJoin.isS, dSl, dPart, dNoPart, dNot, dAnd, dOr, dNotV, dOrV, dAndV, dChain, dCall, dOwn, dTup, dLst, dLstM, dMet, isL, aCons, aNil, dTru, slot, startD, iOf, its, itsOf, itm, run_bnd, run_ret, run_fail, run_chk, run_rd, run_wr, run_any, run_nox, run_exn, run_tag, see, look, lookM, W.opt, s1, s2, c1, c2, asB, List.map, List.replicate, List.append_eq, List.cons_append, List.nil_append, List.set, andThen, endF, sNil, wipeD, dTrue, gIn]
      rw [show (!(Builtin.Str.occurrences ("0123456789" : Str) ⟨#[c]⟩ 0 ("0123456789" : Str).length 1).isEmpty) = dig c from StrLaws.found_one _ c]
      rfl
    · rw [List.filter_eq_self.mpr (fun _ _ => rfl)]
      unfold sgD
      rw [List.map_map, List.map_map]
      rfl
  have hsl : (sgD f).length < sizeLine := by rw [sgD_len]; omega
  simp only [defW, sSeq, sIf, sSet, sRet, sRetN, sExpr, sPar, two, sFor, sRaise, dB, dOp, dUn, dV, dC, dIfE, dM1, dJoin.isS, dSl, dPart, dNoPart, dNot, dAnd, dOr, dNotV, dOrV, dAndV, dChain, dCall, dOwn, dTup, dLst, dLstM, dMet, isL, aCons, aNil, dTru, slot, startD, iOf, its, itsOf, itm, run_bnd, run_ret, run_fail, run_chk, run_rd, run_wr, run_any, run_nox, run_exn, run_tag, see, look, lookM, W.opt, s1, s2, c1, c2, asB, List.map, List.replicate, List.append_eq, List.cons_append, List.nil_append, List.set, andThen, endF, sNil, wipeD, dTrue, gLen, gLe, gOrd, hf2, true_and]
  by_cases h1 : 1 ≤ f.length
  · have i1 : decide ((1 : Int) ≤ f.length) = true := decide_eq_true (by omega)
    by_cases h2 : f.length ≤ 4000
    · have i2 : decide ((f.length : Int) ≤ 4000) = true := decide_eq_true (by omega)
      simp only [i1, i2, if_true, run_bnd, run_ret, Bool.not_true, Bool.false_eq_true, if_false, dLc, iOf, its, itsOf, run_rd, W.opt, itm, dV, slot, run_chk, hsl, true_and, wipeD, List.set, run_nox]
      rw [hlc]
      simp only [defW, sSeq, sIf, sSet, sRet, sRetN, sExpr, sPar, two, sFor, sRaise, dB, dOp, dUn, dV, dC, dIfE, dM1, dJoin.isS, dSl, dPart, dNoPart, dNot, dAnd, dOr, dNotV, dOrV, dAndV, dChain, dCall, dOwn, dTup, dLst, dLstM, dMet, isL, aCons, aNil, dTru, slot, startD, iOf, its, itsOf, itm, run_bnd, run_ret, run_fail, run_chk, run_rd, run_wr, run_any, run_nox, run_exn, run_tag, see, look, lookM, W.opt, s1, s2, c1, c2, asB, List.map, List.replicate, List.append_eq, List.cons_append, List.nil_append, List.set, andThen, endF, sNil, wipeD, dTrue, gBs, blsD_map, List.all_map]
      have ea : f.cps.toList.all (id ∘ dig) = f.cps.toList.all dig := rfl
      rw [ea]
      have ed : decide (1 ≤ f.length ∧ f.length ≤ 4000) = true := decide_eq_true ⟨h1, h2⟩
      rw [ed, Bool.true_and]
      cases hd : f.cps.toList.all dig with
      | false => simp only [Bool.not_false, if_true, run_bnd, run_ret, endF, Bool.false_and]
      | true =>
        obtain ⟨c, r, ec⟩ : ∃ c r, f.cps.toList = c :: r := by
          cases e : f.cps.toList with
          | nil =>
            have h2 := len_cps f
            rw [e] at h2
            have h3 : f.length = 0 := h2.symm
            omega
          | cons c r => exact ⟨c, r, rfl⟩
        have at0 : L2.atI f.cps.toList 0 = some c := by rw [ec]; exact atI_nat (j := 0) rfl
        simp only [Bool.not_true, Bool.false_eq_true, if_false, defW, sSeq, sIf, sSet, sRet, sRetN, sExpr, sPar, two, sFor, sRaise, dB, dOp, dUn, dV, dC, dIfE, dM1, dJoin.isS, dSl, dPart, dNoPart, dNot, dAnd, dOr, dNotV, dOrV, dAndV, dChain, dCall, dOwn, dTup, dLst, dLstM, dMet, isL, aCons, aNil, dTru, slot, startD, iOf, its, itsOf, itm, run_bnd, run_ret, run_fail, run_chk, run_rd, run_wr, run_any, run_nox, run_exn, run_tag, see, look, lookM, W.opt, s1, s2, c1, c2, asB, List.map, List.replicate, List.append_eq, List.cons_append, List.nil_append, List.set, andThen, endF, sNil, wipeD, dTrue, gIx, hf2, true_and, at0, Option.map, gE2, one_zero, Bool.true_and, if_true]
        rw [ec]
        by_cases h : c = 48
        · subst h
          simp only [decide_true, Bool.not_true, Bool.false_eq_true, if_false, run_bnd, run_ret, run_chk, run_rd, true_and, List.head?_cons, ne_eq, not_true, decide_false, Bool.false_or]
        · simp only [h, decide_false, Bool.not_false, if_true, run_ret, List.head?_cons, ne_eq, Option.some.injEq, not_false_eq_true, decide_true, Bool.true_or]
    · have i2 : decide ((f.length : Int) ≤ 4000) = false := decide_eq_false (by omega)
      have ed : decide (1 ≤ f.length ∧ f.length ≤ 4000) = false := decide_eq_false fun z => h2 z.2
      simp only [i1, i2, ed, if_true, run_bnd, run_ret, Bool.not_false, endF, Bool.false_and]
  · have i1 : decide ((1 : Int) ≤ f.length) = false := decide_eq_false (by omega)
    have ed : decide (1 ≤ f.length ∧ f.length ≤ 4000) = false := decide_eq_false fun z => h1 z.1
    simp only [i1, ed, if_true, run_bnd, run_ret, Bool.not_false, Bool.false_eq_true, if_false, endF, Bool.false_and]
end K68

namespace K68
open PySem PySem.Spec PyProof.Rows L2 Kit DL
/-! ### the words, one by one -/
theorem hd1 (c : Nat) : ((⟨#[c]⟩ : Str).cps.toList.head?).getD 0 = c := rfl
theorem mem_sgD {z : Str} {x : D} (h : x ∈ sgD z) : ∃ c ∈ z.cps.toList, x = .str ⟨#[c]⟩ := by
  obtain ⟨c, hc, rfl⟩ := List.mem_map.mp h
  exact ⟨c, hc, rfl⟩
def visD : D → D
  | .str w => .bl (vis ((w.cps.toList.head?).getD 0))
  | _ => .non
theorem le_one (c k : Nat) : (!ltS ⟨#[c]⟩ ⟨#[k]⟩) = decide (k ≤ c) := by
  unfold ltS
  have e : ((⟨#[c]⟩ : Str).cps.toList < (⟨#[k]⟩ : Str).cps.toList) ↔ c < k := by
    show ([c] < [k]) ↔ _
    rw [List.cons_lt_cons_iff]
    constructor
    · rintro (h | ⟨_, h⟩)
      · exact h
      · cases h
    · exact .inl
  by_cases h : c < k
  · rw [decide_eq_true (e.mpr h), decide_eq_false (by omega)]
    rfl
  · rw [decide_eq_false (fun z => h (e.mp z)), decide_eq_true (by omega)]
    rfl
theorem run_istxt {z : Str} {Q E μ} (hz : z.length ≤ 1000000) : (F_is_shown_text [.str z]).run Q E μ = Q (.bl (isTxtW z)) μ := by
  have big : 1000000 < sizeLine := by decide
  have hz2 : z.length ≤ sizeLine := by omega
  have hsl : (sgD z).length < sizeLine := by rw [sgD_len]; omega
  have e33 : ("!" : Str) = ⟨#[33]⟩ := by decide +kernel
  have e126 : ("~" : Str) = ⟨#[126]⟩ := by decide +kernel
  have hlc : ∀ {Q' : List D → Mu → Prop} {E' : Exn → Mu → Prop}, (lcW (gN 1) dTrue (dChain gLe gLe (dC (.str "!")) (dV 1) (dC (.str "~"))) [some (.str z), none] (fun _ => True) (sgD z)).run Q' E' μ = Q' ((z.cps.toList.map vis).map D.bl) μ := fun {Q' E'} => by
    refine (run_lc (f := visD) (t := fun _ => true) (ε := [some (.str z), none]) True.intro (fun x _ Q'' => ?_) (fun x hx _ Q'' => ?_)).trans ?_
    · simp only [dTrue, run_ret]
    · obtain ⟨c, hc, rfl⟩ := mem_sgD hx
      simp only [defW, sSeq, sIf, sSet, sRet, sRetN, sExpr, sPar, two, sFor, sRaise, dB, dOp, dUn, dV, dC, dIfE, dM1, dJoin.isS, dSl, dPart, dNoPart, dNot, dAnd, dOr, dNotV, dOrV, dAndV, dChain, dCall, dOwn, dTup, dLst, dLstM, dMet, isL, aCons, aNil, dTru, slot, startD, iOf, its, itsOf, itm, run_bnd, run_ret, run_fail, run_chk, run_rd, run_wr, run_any, run_nox, run_exn, run_tag, see, look, lookM, W.opt, s1, s2, c1, c2, asB, List.map, List.replicate, List.append_eq, List.cons_append, List.nil_append, List.set, andThen, endF, sNil, wipeD, dTrue, gLe, gOrd, e33, e126, le_one]
      show _ = Q'' (.bl (vis c)) μ
      unfold vis
      by_cases h : 33 ≤ c
      · simp only [h, decide_true, if_true, run_bnd, run_ret, true_and, le_one]
      · simp only [h, decide_false, if_false, Bool.false_eq_true, run_ret, false_and]
    · rw [List.filter_eq_self.mpr (fun _ _ => rfl)]
      unfold sgD
      rw [List.map_map, List.map_map]
      rfl
  simp only [F_is_shown_text, defW, B_is_shown_text, sRet, dAndV, run_bnd, run_ret, startD, List.map, List.replicate, List.append_eq, List.cons_append, List.nil_append, List.set, dM1, dV, dC, slot, W.opt, dJoin.isS, gStarts, starts_quote, asB]
  unfold isTxtW
  by_cases h : z.cps.toList.head? = some 39
  · simp only [h, decide_true, if_true, dOp, dCall, aCons, aNil, run_bnd, run_ret, dV, slot, W.opt, c1, see, look, run_rd, gLen, run_chk, hz2, true_and, dC, gGt, gOrd, asB, Bool.true_and]
    by_cases h2 : 1 < z.length
    · have i2 : decide ((1 : Int) < z.length) = true := decide_eq_true (by omega)
      simp only [i2, h2, decide_true, if_true, dLc, iOf, its, itsOf, run_bnd, run_rd, run_ret, W.opt, itm, dV, slot, run_chk, hsl, true_and, wipeD, List.set, run_nox, Bool.true_and]
      rw [hlc]
      simp only [defW, sSeq, sIf, sSet, sRet, sRetN, sExpr, sPar, two, sFor, sRaise, dB, dOp, dUn, dV, dC, dIfE, dM1, dJoin.isS, dSl, dPart, dNoPart, dNot, dAnd, dOr, dNotV, dOrV, dAndV, dChain, dCall, dOwn, dTup, dLst, dLstM, dMet, isL, aCons, aNil, dTru, slot, startD, iOf, its, itsOf, itm, run_bnd, run_ret, run_fail, run_chk, run_rd, run_wr, run_any, run_nox, run_exn, run_tag, see, look, lookM, W.opt, s1, s2, c1, c2, asB, List.map, List.replicate, List.append_eq, List.cons_append, List.nil_append, List.set, andThen, endF, sNil, wipeD, dTrue, gBs, blsD_map, List.all_map]
      rfl
    · have i2 : decide ((1 : Int) < z.length) = false := decide_eq_false (by omega)
      simp only [i2, h2, decide_false, if_false, Bool.false_eq_true, run_ret, run_bnd, endF, Bool.false_and]
  · simp only [h, decide_false, if_false, Bool.false_eq_true, run_ret, run_bnd, endF, Bool.false_and]
/-- the law's own: is it a number -/
def nod (x : D) : Bool := match x with
  | .str w => !dig ((w.cps.toList.head?).getD 0)
  | _ => false
theorem filt_nil {f : Str} : ((sgD f).filter nod).map (fun x => x) = [] ↔ f.cps.toList.all dig = true := by
  rw [List.map_eq_nil_iff, List.filter_eq_nil_iff, List.all_eq_true]
  constructor
  · intro h c hc
    have h2 := h (.str ⟨#[c]⟩) (List.mem_map.mpr ⟨c, hc, rfl⟩)
    cases hd : dig c with
    | true => rfl
    | false =>
      refine absurd ?_ h2
      show (!dig c) = true
      rw [hd]
      rfl
  · intro h x hx
    obtain ⟨c, hc, rfl⟩ := mem_sgD hx
    show ¬ (!dig c) = true
    rw [h c hc]
    decide
theorem cut_to (z : Str) (k : Nat) : (cutS z none (some (k : Int))).cps.toList = z.cps.toList.take k := by
  unfold cutS
  rw [HT.sIx_none, show HT.sIx z.length z.length (some (k : Int)) = min k z.length from HT.sIx_nat _ _ k]
  show ((z.cps.toList.drop 0).take (min k z.length - 0)) = _
  rw [List.drop_zero, Nat.sub_zero, ← len_cps z]
  exact (List.take_eq_take_min).symm
theorem cut_from (z : Str) (k : Nat) : (cutS z (some (k : Int)) none).cps.toList = z.cps.toList.drop k := by
  unfold cutS
  rw [HT.sIx_none, show HT.sIx z.length 0 (some (k : Int)) = min k z.length from HT.sIx_nat _ _ k]
  show ((z.cps.toList.drop (min k z.length)).take (z.length - min k z.length)) = _
  rw [← len_cps z]
  by_cases h : k ≤ z.cps.toList.length
  · rw [Nat.min_eq_left h]
    exact List.take_of_length_le (by rw [List.length_drop]; exact Nat.le_refl _)
  · rw [Nat.min_eq_right (by omega), List.drop_of_length_le (Nat.le_refl _), List.drop_of_length_le (by omega), List.take_nil]
theorem minus_cps : ("-" : Str).cps.toList = [45] := by decide +kernel
theorem first_is {z w : Str} {k : Nat} (hw : w.cps.toList = [k]) : (cutS z none (some 1) = w) ↔ z.cps.toList.head? = some k := by
  have e := cut_to z 1
  constructor
  · intro h
    rw [show ((1 : Nat) : Int) = 1 from rfl, h, hw] at e
    cases hz : z.cps.toList with
    | nil => rw [hz] at e; cases e
    | cons c r =>
      rw [hz] at e
      cases e
      rfl
  · intro h
    refine str_ext ?_
    rw [show (some (1 : Int)) = some ((1 : Nat) : Int) from rfl, e, hw]
    cases hz : z.cps.toList with
    | nil => rw [hz] at h; cases h
    | cons c r =>
      rw [hz] at h
      cases h
      rfl
theorem cut_zero (z : Str) : cutS z (some 0) none = z := by
  refine str_ext ?_
  exact cut_from z 0
theorem isE_map {f : Str} : ((sgD f).filter nod).isEmpty = f.cps.toList.all dig := by
  cases h : f.cps.toList.all dig with
  | true =>
    have e := (filt_nil (f := f)).mpr h
    rw [List.map_id'] at e
    rw [e]
    rfl
  | false =>
    cases hx : ((sgD f).filter nod) with
    | nil =>
      have := (filt_nil (f := f)).mp (by rw [hx]; rfl)
      rw [h] at this
      cases this
    | cons _ _ => rfl
theorem run_lnum {z : Str} {Q E μ} (hz : z.length ≤ 1000000) : (F_l_is_number [.str z]).run Q E μ = Q (.bl (isNumW z)) μ := by
  have hf := figW_len z
  have big : 1000000 < sizeLine := by decide
  have hz2 : z.length ≤ sizeLine := by omega
  have e : ∀ (Q : D → Mu → Prop) (E : Exn → Mu → Prop), (dSl (dV 0) (dPart (dCall (c1 X21.gIntL) (aCons (dOp (s2 (gE2 false)) (dSl (dV 0) dNoPart (dPart (dC (.int 1)))) (dC (.str "-"))) aNil))) dNoPart [some (.str z), none, none]).run Q E μ = Q (.str (figW z)) μ := fun Q E => by
    simp only [defW, sSeq, sIf, sSet, sRet, sRetN, sExpr, sPar, two, sFor, sRaise, dB, dOp, dUn, dV, dC, dIfE, dM1, dJoin.isS, dSl, dPart, dNoPart, dNot, dAnd, dOr, dNotV, dOrV, dAndV, dChain, dCall, dOwn, dTup, dLst, dLstM, dMet, isL, aCons, aNil, dTru, slot, startD, iOf, its, itsOf, itm, run_bnd, run_ret, run_fail, run_chk, run_rd, run_wr, run_any, run_nox, run_exn, run_tag, see, look, lookM, W.opt, s1, s2, c1, c2, asB, List.map, List.replicate, List.append_eq, List.cons_append, List.nil_append, List.set, andThen, endF, sNil, wipeD, dTrue, gSl, hz2, true_and, gE2, X21.gIntL, gInt, Bool.false_eq_true, if_false, decide_eq_true_eq]
    unfold figW
    by_cases h : z.cps.toList.head? = some 45
    · rw [if_pos h, if_pos ((first_is minus_cps).mpr h)]
    · rw [if_neg h, if_neg (fun q => h ((first_is minus_cps).mp q)), cut_zero]
  unfold isNumW
  simp only [F_l_is_number, defW, B_l_is_number, sSeq, sSet, run_bnd, run_ret, startD, List.map, List.replicate, List.append_eq, List.cons_append, List.nil_append, List.set]
  rw [e]
  clear e
  revert hf
  generalize figW z = f
  intro hf
  have hf2 : f.length ≤ sizeLine := by omega
  have hlc : ∀ {Q' : List D → Mu → Prop} {E' : Exn → Mu → Prop}, (lcW (gN 2) (dB (dOp (s2 (gIn true)) (dV 2) (dC (.str "0123456789")))) (dV 2) [some (.str z), some (.str f), none] (fun _ => True) (sgD f)).run Q' E' μ = Q' ((sgD f).filter nod) μ := fun {Q' E'} => by
    refine (run_lc (f := fun x => x) (t := nod) (ε := [some (.str z), some (.str f), none]) True.intro (fun x hx Q'' => ?_) (fun x hx _ Q'' => ?_)).trans ?_
    · obtain ⟨c, hc, rfl⟩ := mem_sgD hx
      simp only [defW, sSeq, sIf, sSet, sRet, sRetN, sExpr, sPar, two, sFor, sRaise, dB, dOp, dUn, dV, dC, dIfE, dM1, dJoin.isS, dSl, dPart, dNoPart, dNot, dAnd, dOr, dNotV, dOrV, dAndV, dChain, dCall, dOwn, dTup, dLst, dLstM, dMet, isL, aCons, aNil, dTru, slot, startD, iOf, its, itsOf, itm, run_bnd, run_ret, run_fail, run_chk, run_rd, run_wr, run_any, run_nox, run_exn, run_tag, see, look, lookM, W.opt, s1, s2, c1, c2, asB, List.map, List.replicate, List.append_eq, List.cons_append, List.nil_append, List.set, andThen, endF, sNil, wipeD, dTrue, gIn]
      rw [show (!(Builtin.Str.occurrences ("0123456789" : Str) ⟨#[c]⟩ 0 ("0123456789" : Str).length 1).isEmpty) = dig c from StrLaws.found_one _ c]
      rfl
    · obtain ⟨c, hc, rfl⟩ := mem_sgD hx
      simp only [defW, sSeq, sIf, sSet, sRet, sRetN, sExpr, sPar, two, sFor, sRaise, dB, dOp, dUn, dV, dC, dIfE, dM1, dJoin.isS, dSl, dPart, dNoPart, dNot, dAnd, dOr, dNotV, dOrV, dAndV, dChain, dCall, dOwn, dTup, dLst, dLstM, dMet, isL, aCons, aNil, dTru, slot, startD, iOf, its, itsOf, itm, run_bnd, run_ret, run_fail, run_chk, run_rd, run_wr, run_any, run_nox, run_exn, run_tag, see, look, lookM, W.opt, s1, s2, c1, c2, asB, List.map, List.replicate, List.append_eq, List.cons_append, List.nil_append, List.set, andThen, endF, sNil, wipeD, dTrue]
    · rw [List.map_id']
  have hsl : (sgD f).length < sizeLine := by rw [sgD_len]; omega
  have h0 : (0 : Nat) ≤ sizeLine := Nat.zero_le _
  simp only [defW, sSeq, sIf, sSet, sRet, sRetN, sExpr, sPar, two, sFor, sRaise, dB, dOp, dUn, dV, dC, dIfE, dM1, dJoin.isS, dSl, dPart, dNoPart, dNot, dAnd, dOr, dNotV, dOrV, dAndV, dChain, dCall, dOwn, dTup, dLst, dLstM, dMet, isL, aCons, aNil, dTru, slot, startD, iOf, its, itsOf, itm, run_bnd, run_ret, run_fail, run_chk, run_rd, run_wr, run_any, run_nox, run_exn, run_tag, see, look, lookM, W.opt, s1, s2, c1, c2, asB, List.map, List.replicate, List.append_eq, List.cons_append, List.nil_append, List.set, andThen, endF, sNil, wipeD, dTrue, gLen, gLe, gOrd, hf2, true_and]
  by_cases h1 : 1 ≤ f.length
  · have i1 : decide ((1 : Int) ≤ f.length) = true := decide_eq_true (by omega)
    by_cases h2 : f.length ≤ 4000
    · have i2 : decide ((f.length : Int) ≤ 4000) = true := decide_eq_true (by omega)
      simp only [i1, i2, if_true, run_bnd, run_ret, Bool.not_true, Bool.false_eq_true, if_false, dLc, iOf, its, itsOf, run_rd, W.opt, itm, dV, slot, run_chk, hsl, true_and, wipeD, List.set, run_nox]
      rw [hlc]
      simp only [defW, sSeq, sIf, sSet, sRet, sRetN, sExpr, sPar, two, sFor, sRaise, dB, dOp, dUn, dV, dC, dIfE, dM1, dJoin.isS, dSl, dPart, dNoPart, dNot, dAnd, dOr, dNotV, dOrV, dAndV, dChain, dCall, dOwn, dTup, dLst, dLstM, dMet, isL, aCons, aNil, dTru, slot, startD, iOf, its, itsOf, itm, run_bnd, run_ret, run_fail, run_chk, run_rd, run_wr, run_any, run_nox, run_exn, run_tag, see, look, lookM, W.opt, s1, s2, c1, c2, asB, List.map, List.replicate, List.append_eq, List.cons_append, List.nil_append, List.set, andThen, endF, sNil, wipeD, dTrue, gE2, isE_map, List.length_nil, h0]
      have ed : decide (1 ≤ f.length ∧ f.length ≤ 4000) = true := decide_eq_true ⟨h1, h2⟩
      rw [ed, Bool.true_and, if_pos True.intro]
      cases hd : f.cps.toList.all dig with
      | false => simp only [Bool.not_false, if_true, run_bnd, run_ret, endF, Bool.false_and, true_and]
      | true =>
        obtain ⟨c, r, ec⟩ : ∃ c r, f.cps.toList = c :: r := by
          cases e : f.cps.toList with
          | nil =>
            have h2 := len_cps f
            rw [e] at h2
            have h3 : f.length = 0 := h2.symm
            omega
          | cons c r => exact ⟨c, r, rfl⟩
        have at0 : L2.atI f.cps.toList 0 = some c := by rw [ec]; exact atI_nat (j := 0) rfl
        have e3 : decide ((c :: r).head? ≠ some 48) = !decide (c = 48) := by
          by_cases h : c = 48
          · subst h
            rw [decide_eq_true rfl]
            exact decide_eq_false fun z => z rfl
          · rw [decide_eq_false h]
            exact decide_eq_true fun z => h (Option.some.inj z)
        rw [ec, e3]
        by_cases hz0 : z = "0"
        · simp only [Bool.not_true, Bool.false_eq_true, if_false, defW, sSeq, sIf, sSet, sRet, sRetN, sExpr, sPar, two, sFor, sRaise, dB, dOp, dUn, dV, dC, dIfE, dM1, dJoin.isS, dSl, dPart, dNoPart, dNot, dAnd, dOr, dNotV, dOrV, dAndV, dChain, dCall, dOwn, dTup, dLst, dLstM, dMet, isL, aCons, aNil, dTru, slot, startD, iOf, its, itsOf, itm, run_bnd, run_ret, run_fail, run_chk, run_rd, run_wr, run_any, run_nox, run_exn, run_tag, see, look, lookM, W.opt, s1, s2, c1, c2, asB, List.map, List.replicate, List.append_eq, List.cons_append, List.nil_append, List.set, andThen, endF, sNil, wipeD, dTrue, true_and, Bool.true_and, decide_eq_true hz0, if_true, Bool.or_true]
        · simp only [Bool.not_true, Bool.false_eq_true, if_false, defW, sSeq, sIf, sSet, sRet, sRetN, sExpr, sPar, two, sFor, sRaise, dB, dOp, dUn, dV, dC, dIfE, dM1, dJoin.isS, dSl, dPart, dNoPart, dNot, dAnd, dOr, dNotV, dOrV, dAndV, dChain, dCall, dOwn, dTup, dLst, dLstM, dMet, isL, aCons, aNil, dTru, slot, startD, iOf, its, itsOf, itm, run_bnd, run_ret, run_fail, run_chk, run_rd, run_wr, run_any, run_nox, run_exn, run_tag, see, look, lookM, W.opt, s1, s2, c1, c2, asB, List.map, List.replicate, List.append_eq, List.cons_append, List.nil_append, List.set, andThen, endF, sNil, wipeD, dTrue, true_and, Bool.true_and, decide_eq_false hz0, gIx, hf2, at0, Option.map, gE2, one_zero, if_true, Bool.or_false]
    · have i2 : decide ((f.length : Int) ≤ 4000) = false := decide_eq_false (by omega)
      have ed : decide (1 ≤ f.length ∧ f.length ≤ 4000) = false := decide_eq_false fun z => h2 z.2
      simp only [i1, i2, ed, if_true, run_bnd, run_ret, Bool.not_false, endF, Bool.false_and]
  · have i1 : decide ((1 : Int) ≤ f.length) = false := decide_eq_false (by omega)
    have ed : decide (1 ≤ f.length ∧ f.length ≤ 4000) = false := decide_eq_false fun z => h1 z.1
    simp only [i1, ed, if_true, run_bnd, run_ret, Bool.not_false, Bool.false_eq_true, if_false, endF, Bool.false_and]
end K68

namespace K68
open PySem PySem.Spec PyProof.Rows L2 Kit DL
/-! ### a word read -/
theorem dval_lt : ∀ cs : List Nat, NumText.AllDigits cs → NumText.digitsVal cs < 10 ^ cs.length := by
  intro cs
  rw [← List.reverse_reverse cs]
  generalize cs.reverse = r
  induction r with
  | nil => intro _; decide
  | cons c r ih =>
    intro h
    rw [List.reverse_cons] at h ⊢
    have h1 := ih fun d hd => h d (List.mem_append_left _ hd)
    have h2 := h c (List.mem_append_right _ List.mem_cons_self)
    rw [NumText.digitsVal_snoc, List.length_append, List.length_singleton, Nat.pow_succ]
    omega
theorem num_text {w : Str} (h : isNumW w = true) : ∃ n, PySem.intText? w = some n ∧ n.natAbs < 10 ^ 4000 ∧ (w.length ≤ 640 ∨ (¬ (numSeenOf w).length ≤ 640 ∧ w.length ≤ sizeLine)) := by
  unfold isNumW at h
  rw [Bool.and_eq_true, Bool.and_eq_true, decide_eq_true_eq, List.all_eq_true] at h
  obtain ⟨⟨⟨h1, h2⟩, h3⟩, _⟩ := h
  have hd : NumText.AllDigits (figW w).cps.toList := fun c hc => (dig_iff c).mp (h3 c hc)
  have hn : (figW w).cps.toList ≠ [] := fun z => by
    rw [← len_cps, z] at h1
    exact absurd h1 (by decide)
  have hv := dval_lt _ hd
  rw [len_cps] at hv
  have hp : 10 ^ (figW w).length ≤ 10 ^ 4000 := Nat.pow_le_pow_right (by decide) h2
  have hv2 : NumText.digitsVal (figW w).cps.toList < 10 ^ 4000 := Nat.lt_of_lt_of_le hv hp
  have big : 5000 < sizeLine := by decide
  have seen : (∀ c ∈ w.cps.toList, c = 45 ∨ (48 ≤ c ∧ c ≤ 57)) → w.length ≤ 4001 → (w.length ≤ 640 ∨ (¬ (numSeenOf w).length ≤ 640 ∧ w.length ≤ sizeLine)) := fun hc hl => by
    by_cases h6 : w.length ≤ 640
    · exact .inl h6
    · refine .inr ⟨?_, by omega⟩
      rw [(PySem.numText_signs hc).2, len_cps]
      exact h6
  by_cases hh : w.cps.toList.head? = some 45
  · obtain ⟨r, er⟩ : ∃ r, w.cps.toList = 45 :: r := by
      cases e : w.cps.toList with
      | nil => rw [e] at hh; cases hh
      | cons c r => rw [e] at hh; cases hh; exact ⟨r, rfl⟩
    have ef : (figW w).cps.toList = r := by
      unfold figW
      rw [if_pos hh]
      exact cut1 er
    have hl : w.length = (figW w).length + 1 := by rw [← len_cps, ← len_cps, er, ef, List.length_cons]
    rw [ef] at hd hn hv2
    refine ⟨_, PySem.intText_neg er hd hn (by omega), ?_, seen ?_ (by omega)⟩
    · rw [Int.natAbs_neg, Int.natAbs_natCast]
      exact hv2
    · rw [er]
      intro c hc
      rcases List.mem_cons.mp hc with e | hc
      · exact .inl e
      · exact .inr (hd c hc)
  · have ef : figW w = w := by
      unfold figW
      rw [if_neg hh]
    rw [ef] at hd hn hv2 h2
    refine ⟨_, PySem.intText_digits hd hn (by omega), ?_, seen (fun c hc => .inr (hd c hc)) (by omega)⟩
    rw [Int.natAbs_natCast]
    exact hv2
mutual
def dT : Td → D
  | .non => .non
  | .str z => .str z
  | .int i => .int i
  | .tup xs => .tup (dTL xs)
def dTL : List Td → List D
  | [] => []
  | x :: xs => dT x :: dTL xs
end
theorem dTL_map : ∀ xs : List Td, dTL xs = xs.map dT
  | [] => rfl
  | x :: xs => by rw [dTL, List.map_cons, dTL_map xs]
/-- an exception with a place -/
def exP (c : Addr) (k : Int) (ε : DS) : Exn := ⟨c, [("place", .tup [.int 0, .int k])], ε⟩
theorem two_le : 2 ≤ sizeLine := by decide
theorem run_word {c : Addr} {w : Str} {k : Int} {Q E μ} (hw : w.length ≤ 1000000) : (F_read_word c [.str w, .int k]).run Q E μ = match rdW w with
    | some t => Q (dT t) μ
    | none => E (exP c k [some (.str w), some (.int k)]) μ := by
  have big : 1000000 < sizeLine := by decide
  have hz2 : w.length ≤ sizeLine := by omega
  unfold rdW
  simp only [F_read_word, B_read_word, defW, sSeq, sIf, sSet, sRet, sRetN, sExpr, sPar, two, sFor, sRaise, dB, dOp, dUn, dV, dC, dIfE, dM1, dJoin.isS, dSl, dPart, dNoPart, dNot, dAnd, dOr, dNotV, dOrV, dAndV, dChain, dCall, dOwn, dTup, dLst, dLstM, dMet, isL, aCons, aNil, dTru, slot, startD, iOf, its, itsOf, itm, run_bnd, run_ret, run_fail, run_chk, run_rd, run_wr, run_any, run_nox, run_exn, run_tag, see, look, lookM, W.opt, s1, s2, c1, c2, asB, List.map, List.replicate, List.append_eq, List.cons_append, List.nil_append, List.set, andThen, endF, sNil, wipeD, dTrue, gE2, Bool.false_eq_true, if_false]
  by_cases h1 : w = "none"
  · simp only [h1, decide_true, if_true, run_bnd, run_ret, endF, dT]
  · simp only [h1, decide_false, if_false, Bool.false_eq_true, run_ret, run_bnd, run_istxt hw, defW, sSeq, sIf, sSet, sRet, sRetN, sExpr, sPar, two, sFor, sRaise, dB, dOp, dUn, dV, dC, dIfE, dM1, dJoin.isS, dSl, dPart, dNoPart, dNot, dAnd, dOr, dNotV, dOrV, dAndV, dChain, dCall, dOwn, dTup, dLst, dLstM, dMet, isL, aCons, aNil, dTru, slot, startD, iOf, its, itsOf, itm, run_bnd, run_ret, run_fail, run_chk, run_rd, run_wr, run_any, run_nox, run_exn, run_tag, see, look, lookM, W.opt, s1, s2, c1, c2, asB, List.map, List.replicate, List.append_eq, List.cons_append, List.nil_append, List.set, andThen, endF, sNil, wipeD, dTrue]
    cases h2 : isTxtW w with
    | true => simp only [if_true, run_bnd, run_ret, run_rd, gSl, run_chk, hz2, true_and, endF, dT, List.length_singleton]
    | false =>
      simp only [Bool.false_eq_true, if_false, run_ret, defW, sSeq, sIf, sSet, sRet, sRetN, sExpr, sPar, two, sFor, sRaise, dB, dOp, dUn, dV, dC, dIfE, dM1, dJoin.isS, dSl, dPart, dNoPart, dNot, dAnd, dOr, dNotV, dOrV, dAndV, dChain, dCall, dOwn, dTup, dLst, dLstM, dMet, isL, aCons, aNil, dTru, slot, startD, iOf, its, itsOf, itm, run_bnd, run_ret, run_fail, run_chk, run_rd, run_wr, run_any, run_nox, run_exn, run_tag, see, look, lookM, W.opt, s1, s2, c1, c2, asB, List.map, List.replicate, List.append_eq, List.cons_append, List.nil_append, List.set, andThen, endF, sNil, wipeD, dTrue, run_isnum hw]
      cases h3 : isNumW w with
      | true =>
        obtain ⟨n, e1, e2, e3⟩ := num_text h3
        simp only [Bool.not_true, Bool.false_eq_true, if_false, if_true, defW, sSeq, sIf, sSet, sRet, sRetN, sExpr, sPar, two, sFor, sRaise, dB, dOp, dUn, dV, dC, dIfE, dM1, dJoin.isS, dSl, dPart, dNoPart, dNot, dAnd, dOr, dNotV, dOrV, dAndV, dChain, dCall, dOwn, dTup, dLst, dLstM, dMet, isL, aCons, aNil, dTru, slot, startD, iOf, its, itsOf, itm, run_bnd, run_ret, run_fail, run_chk, run_rd, run_wr, run_any, run_nox, run_exn, run_tag, see, look, lookM, W.opt, s1, s2, c1, c2, asB, List.map, List.replicate, List.append_eq, List.cons_append, List.nil_append, List.set, andThen, endF, sNil, wipeD, dTrue, X21.gIntL, e3, e1, true_and, Option.map, dT, List.length_singleton]
      | false =>
        simp only [Bool.not_false, if_true, Bool.false_eq_true, if_false, defW, sSeq, sIf, sSet, sRet, sRetN, sExpr, sPar, two, sFor, sRaise, dB, dOp, dUn, dV, dC, dIfE, dM1, dJoin.isS, dSl, dPart, dNoPart, dNot, dAnd, dOr, dNotV, dOrV, dAndV, dChain, dCall, dOwn, dTup, dLst, dLstM, dMet, isL, aCons, aNil, dTru, slot, startD, iOf, its, itsOf, itm, run_bnd, run_ret, run_fail, run_chk, run_rd, run_wr, run_any, run_nox, run_exn, run_tag, see, look, lookM, W.opt, s1, s2, c1, c2, asB, List.map, List.replicate, List.append_eq, List.cons_append, List.nil_append, List.set, andThen, endF, sNil, wipeD, dTrue, List.length_cons, List.length_nil, Nat.zero_add, Nat.reduceAdd, two_le, List.zip_cons_cons, List.zip_nil_right, List.reverse_cons, List.reverse_nil, true_and, exP]
end K68

namespace K68
open PySem PySem.Spec PyProof.Rows L2 Kit DL
/-! ### the parts, in the store -/
theorem dTL_app (a : List Td) (t : Td) : dTL (a ++ [t]) = dTL a ++ [dT t] := by
  rw [dTL_map, dTL_map, List.map_append]
  rfl
theorem dTL_len (a : List Td) : (dTL a).length = a.length := by rw [dTL_map, List.length_map]
theorem dTL_emp (a : List Td) : (dTL a).isEmpty = a.isEmpty := by cases a <;> rfl
structure Stk (μ : Mu) (n : Nat) (rs : List Nat) (s : List (List Td)) : Prop where
  base : μ[n]? = some (.lst (rs.map D.ref).reverse)
  len : rs.length = s.length
  nd : rs.Nodup
  gt : ∀ r ∈ rs, n ≠ r ∧ n ≤ r + 1
  at_ : ∀ (i : Nat) r a, rs[i]? = some r → s[i]? = some a → μ[r]? = some (.lst (dTL a))
def Ov (μ0 μ : Mu) : Prop := ∃ more, μ = μ0 ++ more
theorem Ov.refl (μ : Mu) : Ov μ μ := ⟨[], by rw [List.append_nil]⟩
theorem Ov.set {μ0 μ : Mu} (h : Ov μ0 μ) {k : Nat} (hk : μ0.length ≤ k) (x : MO) : Ov μ0 (μ.set k x) := by
  obtain ⟨m, rfl⟩ := h
  exact ⟨m.set (k - μ0.length) x, by rw [List.set_append, if_neg (by omega)]⟩
theorem Ov.app {μ0 μ : Mu} (h : Ov μ0 μ) (x : List MO) : Ov μ0 (μ ++ x) := by
  obtain ⟨m, rfl⟩ := h
  exact ⟨m ++ x, by rw [List.append_assoc]⟩
section
variable {μ : Mu} {n r : Nat} {rs : List Nat} {s : List (List Td)} {a : List Td} {t : Td}
theorem Stk.lt (h : Stk μ n rs s) (x : Nat) (hx : x ∈ rs) : x < μ.length := by
  obtain ⟨i, hi⟩ := List.mem_iff_getElem?.mp hx
  have hl := (List.getElem?_eq_some_iff.mp hi).1
  obtain ⟨b, hb⟩ : ∃ b, s[i]? = some b := ⟨_, List.getElem?_eq_getElem (by rw [← h.len]; exact hl)⟩
  exact (List.getElem?_eq_some_iff.mp (h.at_ i x b hi hb)).1
theorem Stk.ltn (h : Stk μ n rs s) : n < μ.length := (List.getElem?_eq_some_iff.mp h.base).1
theorem Stk.push (h : Stk μ n rs s) : Stk ((μ ++ [MO.lst []]).set n (MO.lst ((rs.map D.ref).reverse ++ [D.ref μ.length]))) n (μ.length :: rs) ([] :: s) := by
  have hn := h.ltn
  refine ⟨?_, by rw [List.length_cons, List.length_cons, h.len], List.nodup_cons.mpr ⟨fun z => Nat.lt_irrefl _ (h.lt _ z), h.nd⟩, fun x hx => ?_, fun i x b h1 h2 => ?_⟩
  · rw [List.getElem?_set_self (by rw [List.length_append]; exact Nat.lt_of_lt_of_le hn (Nat.le_add_right _ _)), List.map_cons, List.reverse_cons]
  · rcases List.mem_cons.mp hx with e | e
    · rw [e]; exact ⟨Nat.ne_of_lt hn, by omega⟩
    · exact h.gt x e
  · cases i with
    | zero =>
      cases h1
      cases h2
      rw [List.getElem?_set_ne (Nat.ne_of_lt hn), List.getElem?_append_right (Nat.le_refl _), Nat.sub_self]
      rfl
    | succ i =>
      have h1 : rs[i]? = some x := h1
      have h2 : s[i]? = some b := h2
      have hx := List.mem_of_getElem? h1
      rw [List.getElem?_set_ne (h.gt x hx).1, List.getElem?_append_left (h.lt x hx)]
      exact h.at_ i x b h1 h2
theorem Stk.item (h : Stk μ n (r :: rs) (a :: s)) : Stk (μ.set r (.lst (dTL a ++ [dT t]))) n (r :: rs) ((a ++ [t]) :: s) := by
  have hr := h.lt r List.mem_cons_self
  refine ⟨?_, h.len, h.nd, h.gt, fun i x b h1 h2 => ?_⟩
  · rw [List.getElem?_set_ne (fun z => (h.gt r List.mem_cons_self).1 z.symm)]
    exact h.base
  · cases i with
    | zero =>
      cases h1
      cases h2
      rw [List.getElem?_set_self hr, dTL_app]
    | succ i =>
      have h1' : rs[i]? = some x := h1
      have ne : r ≠ x := fun z => (List.nodup_cons.mp h.nd).1 (z ▸ List.mem_of_getElem? h1')
      rw [List.getElem?_set_ne ne]
      exact h.at_ (i + 1) x b h1 h2
theorem Stk.pop (h : Stk μ n (r :: rs) (a :: s)) : Stk (μ.set n (.lst (rs.map D.ref).reverse)) n rs s := by
  refine ⟨by rw [List.getElem?_set_self h.ltn], by have := h.len; simpa using this, (List.nodup_cons.mp h.nd).2, fun x hx => h.gt x (List.mem_cons_of_mem _ hx), fun i x b h1 h2 => ?_⟩
  rw [List.getElem?_set_ne (h.gt x (List.mem_cons_of_mem _ (List.mem_of_getElem? h1))).1]
  exact h.at_ (i + 1) x b h1 h2
theorem Stk.top (h : Stk μ n (r :: rs) (a :: s)) : L2.atI ((r :: rs).map D.ref).reverse (-1) = some (.ref r) ∧ μ[r]? = some (.lst (dTL a)) := by
  refine ⟨?_, h.at_ 0 r a rfl rfl⟩
  rw [List.map_cons, List.reverse_cons]
  exact atI_last _ _
theorem rev_last {r : Nat} {rs : List Nat} : (((r :: rs).map D.ref).reverse)[(((r :: rs).map D.ref).reverse).length - 1]? = some (.ref r) ∧ (((r :: rs).map D.ref).reverse).dropLast = (rs.map D.ref).reverse := by
  rw [List.map_cons, List.reverse_cons]
  refine ⟨?_, by rw [List.dropLast_concat]⟩
  rw [List.length_append, List.length_singleton, Nat.add_sub_cancel, List.getElem?_append_right (Nat.le_refl _), Nat.sub_self]
  rfl
theorem Stk.bot (h : Stk μ n rs s) (hs : s ≠ []) : ∃ r0 b, L2.atI (rs.map D.ref).reverse 0 = some (.ref r0) ∧ μ[r0]? = some (.lst (dTL b)) ∧ s.getLast? = some b := by
  have hl : 0 < s.length := List.length_pos_iff.mpr hs
  have hr : 0 < rs.length := by rw [h.len]; exact hl
  refine ⟨rs[rs.length - 1], s[s.length - 1], ?_, h.at_ (rs.length - 1) _ _ (List.getElem?_eq_getElem _) (by rw [h.len]; exact List.getElem?_eq_getElem _), ?_⟩
  · refine atI_nat (j := 0) ?_
    rw [List.getElem?_reverse (by rw [List.length_map]; exact hr), List.length_map, List.getElem?_map, Nat.sub_zero, List.getElem?_eq_getElem (by omega)]
    rfl
  · rw [List.getLast?_eq_getElem?]
    exact List.getElem?_eq_getElem _
end
def good (s : List (List Td)) : Prop := s ≠ [] ∧ (2 ≤ s.length → okS s = true)
theorem okS_of {s : List (List Td)} {b : List Td} (h : s.getLast? = some b) : okS s = b.isEmpty := by
  unfold okS
  rw [h]
  cases b <;> rfl
section
variable {c : Addr} {μ : Mu} {n : Nat} {rs : List Nat} {s : List (List Td)} {x0 x1 x5 : Option D} {k : Int} {w : Str} {Q : Fl → Mu → Prop} {E : Exn → Mu → Prop}
theorem run_step (h : Stk μ n rs s) (g : good s) (hw : w.length ≤ 1000000) (hl : rs.length < sizeLine) (hA : ∀ a ∈ s, a.length < sizeLine)
    (q1 : ∀ s', stepP s w = some s' → ∀ μ' rs' y5, Stk μ' n rs' s' → (∀ μ0, Ov μ0 μ → μ0.length < n → Ov μ0 μ') → Q (.nx [x0, x1, some (.ref n), some (.int k), some (.str w), y5]) μ')
    (q2 : stepP s w = none → ∀ sl, E (exP c k sl) μ) : (L_read_thing_1 c [x0, x1, some (.ref n), some (.int k), some (.str w), x5]).run Q E μ := by
  obtain ⟨r0, b, e1, e2, e3⟩ := h.bot g.1
  have ok := okS_of e3
  have hb := h.base
  have hlen : ((rs.map D.ref).reverse).length = rs.length := by rw [List.length_reverse, List.length_map]
  have hL : decide ((((rs.map D.ref).reverse.length : Nat) : Int) = 1) = decide (s.length = 1) := by
    rw [hlen, h.len]
    exact decide_eq_decide.mpr ⟨fun z => by omega, fun z => by omega⟩
  simp only [L_read_thing_1, defW, sSeq, sIf, sSet, sRet, sRetN, sExpr, sPar, two, sFor, sRaise, dB, dOp, dUn, dV, dC, dIfE, dM1, dJoin.isS, dSl, dPart, dNoPart, dNot, dAnd, dOr, dNotV, dOrV, dAndV, dChain, dCall, dOwn, dTup, dLst, dLstM, dMet, isL, aCons, aNil, dTru, slot, startD, iOf, its, itsOf, itm, run_bnd, run_ret, run_fail, run_chk, run_rd, run_wr, run_any, run_nox, run_exn, run_tag, see, look, lookM, W.opt, s1, s2, c1, c2, asB, List.map, List.replicate, List.append_eq, List.cons_append, List.nil_append, List.set, andThen, endF, sNil, wipeD, dTrue, hb, gIx, e1, e2, truD, dTL_emp]
  cases hbE : b.isEmpty with
  | false =>
    have hn : stepP s w = none := by
      unfold stepP
      rw [if_neg (by rw [ok, hbE]; decide)]
    simp only [Bool.not_false, if_true, defW, sSeq, sIf, sSet, sRet, sRetN, sExpr, sPar, two, sFor, sRaise, dB, dOp, dUn, dV, dC, dIfE, dM1, dJoin.isS, dSl, dPart, dNoPart, dNot, dAnd, dOr, dNotV, dOrV, dAndV, dChain, dCall, dOwn, dTup, dLst, dLstM, dMet, isL, aCons, aNil, dTru, slot, startD, iOf, its, itsOf, itm, run_bnd, run_ret, run_fail, run_chk, run_rd, run_wr, run_any, run_nox, run_exn, run_tag, see, look, lookM, W.opt, s1, s2, c1, c2, asB, List.map, List.replicate, List.append_eq, List.cons_append, List.nil_append, List.set, andThen, endF, sNil, wipeD, dTrue, List.length_cons, List.length_nil, Nat.zero_add, Nat.reduceAdd, two_le, List.zip_cons_cons, List.zip_nil_right, List.reverse_cons, List.reverse_nil, true_and]
    exact q2 hn _
  | true =>
    have okT : okS s = true := by rw [ok, hbE]
    by_cases hcl : w = ")"
    · have e5 : decide (w = (")" : Str)) = true := decide_eq_true hcl
      simp only [Bool.not_true, Bool.false_eq_true, if_false, defW, sSeq, sIf, sSet, sRet, sRetN, sExpr, sPar, two, sFor, sRaise, dB, dOp, dUn, dV, dC, dIfE, dM1, dJoin.isS, dSl, dPart, dNoPart, dNot, dAnd, dOr, dNotV, dOrV, dAndV, dChain, dCall, dOwn, dTup, dLst, dLstM, dMet, isL, aCons, aNil, dTru, slot, startD, iOf, its, itsOf, itm, run_bnd, run_ret, run_fail, run_chk, run_rd, run_wr, run_any, run_nox, run_exn, run_tag, see, look, lookM, W.opt, s1, s2, c1, c2, asB, List.map, List.replicate, List.append_eq, List.cons_append, List.nil_append, List.set, andThen, endF, sNil, wipeD, dTrue, gE2, e5, if_true, hb, gLen, hL]
      by_cases h1 : s.length = 1
      · have hn : stepP s w = none := by
          obtain ⟨a, rfl⟩ := List.length_eq_one_iff.mp h1
          unfold stepP
          rw [if_pos okT, if_neg (by rw [hcl]; decide +kernel), if_pos hcl]
        have e6 : decide (s.length = 1) = true := decide_eq_true h1
        simp only [e6, if_true, defW, sSeq, sIf, sSet, sRet, sRetN, sExpr, sPar, two, sFor, sRaise, dB, dOp, dUn, dV, dC, dIfE, dM1, dJoin.isS, dSl, dPart, dNoPart, dNot, dAnd, dOr, dNotV, dOrV, dAndV, dChain, dCall, dOwn, dTup, dLst, dLstM, dMet, isL, aCons, aNil, dTru, slot, startD, iOf, its, itsOf, itm, run_bnd, run_ret, run_fail, run_chk, run_rd, run_wr, run_any, run_nox, run_exn, run_tag, see, look, lookM, W.opt, s1, s2, c1, c2, asB, List.map, List.replicate, List.append_eq, List.cons_append, List.nil_append, List.set, andThen, endF, sNil, wipeD, dTrue, List.length_cons, List.length_nil, Nat.zero_add, Nat.reduceAdd, two_le, List.zip_cons_cons, List.zip_nil_right, List.reverse_cons, List.reverse_nil, true_and]
        exact q2 hn _
      · have e6 : decide (s.length = 1) = false := decide_eq_false h1
        have e7 : decide (w = ("(" : Str)) = false := decide_eq_false (by rw [hcl]; decide +kernel)
        match s, rs, h, g, okT, h1, q1, e1, hb with
        | [], _, _, g, _, _, _, _, _ => exact absurd rfl g.1
        | [a], _, _, _, _, h1, _, _, _ => exact absurd rfl h1
        | a :: a2 :: v2, [], h, _, _, _, _, _, _ => exact absurd h.len (by simp)
        | a :: a2 :: v2, [r], h, _, _, _, _, _, _ => exact absurd h.len (by simp)
        | a :: a2 :: v2, r :: r2 :: rs2, h, g, okT, h1, q1, e1, hb =>
          obtain ⟨t1, t2⟩ := h.top
          have hp := h.pop
          obtain ⟨t3, t4⟩ := hp.top
          obtain ⟨u1, u2⟩ := rev_last (r := r) (rs := r2 :: rs2)
          have nr : n ≠ r := (h.gt r List.mem_cons_self).1
          have t2' : (μ.set n (.lst ((r2 :: rs2).map D.ref).reverse))[r]? = some (.lst (dTL a)) := by rw [List.getElem?_set_ne nr]; exact t2
          have hit := hp.item (t := .tup a)
          have hb2 := hp.base
          have hq := q1 ((a2 ++ [.tup a]) :: v2) (by unfold stepP; rw [if_pos okT, if_neg (by rw [hcl]; decide +kernel), if_pos hcl]) _ _ (some (.tup (dTL a))) hit fun μ0 ho hn => (ho.set (Nat.le_of_lt hn) _).set (by have := (hp.gt r2 List.mem_cons_self).2; omega) _
          have la : (dTL a2).length < sizeLine := by rw [dTL_len]; exact hA _ (List.mem_cons_of_mem _ List.mem_cons_self)
          clear hL hlen e1 e2 h hp hit q1 q2
          revert hb u1 u2 t1 t2' t3 t4 hb2 hq
          generalize ((r :: r2 :: rs2).map D.ref).reverse = X
          generalize ((r2 :: rs2).map D.ref).reverse = X2
          intro hb u1 u2 t1 t2' t3 t4 hb2 hq
          simp only [e6, Bool.false_eq_true, if_false, defW, sSeq, sIf, sSet, sRet, sRetN, sExpr, sPar, two, sFor, sRaise, dB, dOp, dUn, dV, dC, dIfE, dM1, dJoin.isS, dSl, dPart, dNoPart, dNot, dAnd, dOr, dNotV, dOrV, dAndV, dChain, dCall, dOwn, dTup, dLst, dLstM, dMet, isL, aCons, aNil, dTru, slot, startD, iOf, its, itsOf, itm, run_bnd, run_ret, run_fail, run_chk, run_rd, run_wr, run_any, run_nox, run_exn, run_tag, see, look, lookM, W.opt, s1, s2, c1, c2, asB, List.map, List.replicate, List.append_eq, List.cons_append, List.nil_append, List.set, andThen, endF, sNil, wipeD, dTrue, gE2, e7, e5, if_true, hb, gPop, atM, u1, u2, putM, t2', gTuple, gNeg, gIx, hb2, t3, t4, gAppend, la, true_and, t1]
          exact hq
    · have e5 : decide (w = (")" : Str)) = false := decide_eq_false hcl
      simp only [Bool.not_true, Bool.false_eq_true, if_false, defW, sSeq, sIf, sSet, sRet, sRetN, sExpr, sPar, two, sFor, sRaise, dB, dOp, dUn, dV, dC, dIfE, dM1, dJoin.isS, dSl, dPart, dNoPart, dNot, dAnd, dOr, dNotV, dOrV, dAndV, dChain, dCall, dOwn, dTup, dLst, dLstM, dMet, isL, aCons, aNil, dTru, slot, startD, iOf, its, itsOf, itm, run_bnd, run_ret, run_fail, run_chk, run_rd, run_wr, run_any, run_nox, run_exn, run_tag, see, look, lookM, W.opt, s1, s2, c1, c2, asB, List.map, List.replicate, List.append_eq, List.cons_append, List.nil_append, List.set, andThen, endF, sNil, wipeD, dTrue, gE2, e5]
      by_cases hop : w = "("
      · have e7 : decide (w = ("(" : Str)) = true := decide_eq_true hop
        have hq := q1 ([] :: s) (by unfold stepP; rw [if_pos okT, if_pos hop]) _ _ x5 h.push fun μ0 ho hn => (ho.app _).set (Nat.le_of_lt hn) _
        have lX : ((rs.map D.ref).reverse).length < sizeLine := by rw [hlen]; exact hl
        have z0 : (0 : Nat) ≤ sizeLine := Nat.zero_le _
        have hb3 : (μ ++ [MO.lst []])[n]? = some (.lst (rs.map D.ref).reverse) := by rw [List.getElem?_append_left h.ltn]; exact hb
        clear hL hlen e1 e2 h q1 q2
        revert hb hb3 hq lX
        generalize (rs.map D.ref).reverse = X
        intro hb hq lX hb3
        simp only [e7, if_true, defW, sSeq, sIf, sSet, sRet, sRetN, sExpr, sPar, two, sFor, sRaise, dB, dOp, dUn, dV, dC, dIfE, dM1, dJoin.isS, dSl, dPart, dNoPart, dNot, dAnd, dOr, dNotV, dOrV, dAndV, dChain, dCall, dOwn, dTup, dLst, dLstM, dMet, isL, aCons, aNil, dTru, slot, startD, iOf, its, itsOf, itm, run_bnd, run_ret, run_fail, run_chk, run_rd, run_wr, run_any, run_nox, run_exn, run_tag, see, look, lookM, W.opt, s1, s2, c1, c2, asB, List.map, List.replicate, List.append_eq, List.cons_append, List.nil_append, List.set, andThen, endF, sNil, wipeD, dTrue, hb, List.length_nil, z0, true_and, DL.alloc, gAppend, atM, hb3, lX, putM]
        assumption
      · have e7 : decide (w = ("(" : Str)) = false := decide_eq_false hop
        match s, rs, h, g, okT, q1, e1, hb with
        | [], _, _, g, _, _, _, _ => exact absurd rfl g.1
        | a :: v, [], h, _, _, _, _, _ => exact absurd h.len (by simp)
        | a :: v, r :: rs2, h, g, okT, q1, e1, hb =>
          obtain ⟨t1, t2⟩ := h.top
          have la : (dTL a).length < sizeLine := by rw [dTL_len]; exact hA _ List.mem_cons_self
          have l2 : ([D.str w, D.int k] : List D).length = 2 := rfl
          have hst : stepP (a :: v) w = (rdW w).map fun t => (a ++ [t]) :: v := by unfold stepP; rw [if_pos okT, if_neg hop, if_neg hcl]
          cases hr : rdW w with
          | none =>
            have hn := q2 (by rw [hst, hr]; rfl)
            clear hL hlen e1 e2 h q1 q2
            revert hb t1
            generalize ((r :: rs2).map D.ref).reverse = X
            intro hb t1
            simp only [e5, e7, Bool.false_eq_true, if_false, defW, sSeq, sIf, sSet, sRet, sRetN, sExpr, sPar, two, sFor, sRaise, dB, dOp, dUn, dV, dC, dIfE, dM1, dJoin.isS, dSl, dPart, dNoPart, dNot, dAnd, dOr, dNotV, dOrV, dAndV, dChain, dCall, dOwn, dTup, dLst, dLstM, dMet, isL, aCons, aNil, dTru, slot, startD, iOf, its, itsOf, itm, run_bnd, run_ret, run_fail, run_chk, run_rd, run_wr, run_any, run_nox, run_exn, run_tag, see, look, lookM, W.opt, s1, s2, c1, c2, asB, List.map, List.replicate, List.append_eq, List.cons_append, List.nil_append, List.set, andThen, endF, sNil, wipeD, dTrue, gE2, hb, gNeg, gIx, t1, t2, l2, true_and, run_word hw, hr]
            exact hn _
          | some t =>
            have hq := q1 ((a ++ [t]) :: v) (by rw [hst, hr]; rfl) _ _ x5 (h.item (t := t)) fun μ0 ho hn => ho.set (by have := (h.gt r List.mem_cons_self).2; omega) _
            clear hL hlen e1 e2 h q1 q2
            revert hb t1
            generalize ((r :: rs2).map D.ref).reverse = X
            intro hb t1
            simp only [e5, e7, Bool.false_eq_true, if_false, defW, sSeq, sIf, sSet, sRet, sRetN, sExpr, sPar, two, sFor, sRaise, dB, dOp, dUn, dV, dC, dIfE, dM1, dJoin.isS, dSl, dPart, dNoPart, dNot, dAnd, dOr, dNotV, dOrV, dAndV, dChain, dCall, dOwn, dTup, dLst, dLstM, dMet, isL, aCons, aNil, dTru, slot, startD, iOf, its, itsOf, itm, run_bnd, run_ret, run_fail, run_chk, run_rd, run_wr, run_any, run_nox, run_exn, run_tag, see, look, lookM, W.opt, s1, s2, c1, c2, asB, List.map, List.replicate, List.append_eq, List.cons_append, List.nil_append, List.set, andThen, endF, sNil, wipeD, dTrue, gE2, hb, gNeg, gIx, t1, t2, l2, true_and, run_word hw, hr, gAppend, atM, la, putM]
            exact hq
end
end K68

namespace K68
open PySem PySem.Spec PyProof.Rows L2 Kit DL
/-! ### a line read -/
theorem okS_cons {a b : List Td} {r : List (List Td)} (h : r ≠ []) : okS (a :: r) = okS (b :: r) := by
  unfold okS
  cases r with
  | nil => exact absurd rfl h
  | cons x y => rw [List.getLast?_cons_cons, List.getLast?_cons_cons]
theorem okS_tail {a : List Td} {r : List (List Td)} (h : r ≠ []) : okS (a :: r) = okS r := by
  unfold okS
  cases r with
  | nil => exact absurd rfl h
  | cons x y => rw [List.getLast?_cons_cons]
theorem step_good {s s' : List (List Td)} {w : Str} {i : Nat} (g : good s) (h : stepP s w = some s') (h1 : s.length ≤ i + 1) (h2 : ∀ a ∈ s, a.length ≤ i) : good s' ∧ s'.length ≤ i + 2 ∧ ∀ a ∈ s', a.length ≤ i + 1 := by
  unfold stepP at h
  by_cases ok : okS s = true
  · rw [if_pos ok] at h
    by_cases ho : w = "("
    · rw [if_pos ho] at h
      cases h
      refine ⟨⟨by simp, fun _ => (okS_tail g.1).trans ok⟩, by rw [List.length_cons]; omega, fun a ha => ?_⟩
      rcases List.mem_cons.mp ha with e | e
      · rw [e]; exact Nat.zero_le _
      · exact Nat.le_succ_of_le (h2 a e)
    · rw [if_neg ho] at h
      by_cases hc : w = ")"
      · rw [if_pos hc] at h
        match s, h, g, ok, h1, h2 with
        | a :: b :: r, h, g, ok, h1, h2 =>
          cases h
          refine ⟨⟨by simp, fun hl => ?_⟩, by simp at h1 ⊢; omega, fun x hx => ?_⟩
          · have hr : r ≠ [] := fun z => by rw [z] at hl; exact absurd hl (by simp)
            rw [okS_tail hr]
            rw [okS_tail (by simp), okS_tail hr] at ok
            exact ok
          · rcases List.mem_cons.mp hx with e | e
            · rw [e, List.length_append]
              have := h2 b (List.mem_cons_of_mem _ List.mem_cons_self)
              show _ + 1 ≤ _
              omega
            · exact Nat.le_succ_of_le (h2 x (List.mem_cons_of_mem _ (List.mem_cons_of_mem _ e)))
        | [], h, _, _, _, _ => cases h
        | [_], h, _, _, _, _ => cases h
      · rw [if_neg hc] at h
        match s, h, g, ok, h1, h2 with
        | [], h, _, _, _, _ => cases h
        | a :: r, h, g, ok, h1, h2 =>
          obtain ⟨t, _, e⟩ := map_inv h
          cases e
          refine ⟨⟨by simp, fun hl => ?_⟩, by simp at h1 ⊢; omega, fun x hx => ?_⟩
          · have hr : r ≠ [] := fun z => by rw [z] at hl; exact absurd hl (by simp)
            rw [okS_cons (b := a) hr]
            exact ok
          · rcases List.mem_cons.mp hx with e | e
            · rw [e, List.length_append]
              have := h2 a List.mem_cons_self
              show _ + 1 ≤ _
              omega
            · exact Nat.le_succ_of_le (h2 x (List.mem_cons_of_mem _ e))
  · rw [if_neg ok] at h
    cases h
def goP : List Str → List (List Td) → Nat → Sum (List (List Td)) Nat
  | [], s, _ => .inl s
  | w :: ws, s, i => match stepP s w with
    | some s' => goP ws s' (i + 1)
    | none => .inr i
theorem szOk {k : Nat} (h : k ≤ 1000001) : k < sizeLine := Nat.lt_of_le_of_lt h (by decide)
section
variable {c : Addr} {n : Nat} {x0 x1 : Option D} {E : Exn → Mu → Prop}
theorem run_loop : ∀ (ws : List Str) (i : Nat) {s : List (List Td)} {rs : List Nat} {μ : Mu} {a b x5 : Option D} {Q : Fl → Mu → Prop}, good s → Stk μ n rs s → s.length ≤ i + 1 → (∀ a ∈ s, a.length ≤ i) → i + ws.length ≤ 1000000 → (∀ w ∈ ws, w.length ≤ 1000000) →
    (∀ s', goP ws s i = .inl s' → good s' → ∀ μ' rs' a' b' y5, Stk μ' n rs' s' → (∀ μ0, Ov μ0 μ → μ0.length < n → Ov μ0 μ') → Q (.nx [x0, x1, some (.ref n), a', b', y5]) μ') →
    (∀ k : Nat, goP ws s i = .inr k → ∀ μ' sl, (∀ μ0, Ov μ0 μ → μ0.length < n → Ov μ0 μ') → E (exP c k sl) μ') →
    (forW (gTp 2 (gCn (gN 3) (gCn (gN 4) gNl))) (L_read_thing_1 c) (fun _ => True) (enumD i (ws.map D.str)) [x0, x1, some (.ref n), a, b, x5]).run Q E μ
  | [], i, s, rs, μ, a, b, x5, Q, g, h, _, _, _, _, q1, q2 => ⟨True.intro, q1 s rfl g μ rs a b x5 h fun _ z _ => z⟩
  | w :: ws, i, s, rs, μ, a, b, x5, Q, g, h, h1, h2, h3, h4, q1, q2 => by
    have h3' : i + (ws.length + 1) ≤ 1000000 := h3
    refine ⟨True.intro, ?_⟩
    show ((L_read_thing_1 c [x0, x1, some (.ref n), some (.int (i : Nat)), some (.str w), x5]).bnd _).run _ _ _
    refine run_step h g (h4 w List.mem_cons_self) (szOk (by rw [h.len]; omega)) (fun a ha => szOk (by have := h2 a ha; omega)) (fun s' hs μ' rs' y5 hS ho => ?_) (fun hs sl => ?_)
    · obtain ⟨g', l1, l2⟩ := step_good g hs h1 h2
      have e : goP (w :: ws) s i = goP ws s' (i + 1) := by rw [goP, hs]
      exact run_loop ws (i + 1) g' hS l1 l2 (by omega) (fun x hx => h4 x (List.mem_cons_of_mem _ hx))
        (fun s2 e2 g2 μ2 rs2 a' b' z5 hS2 ho2 => q1 s2 (e.trans e2) g2 μ2 rs2 a' b' z5 hS2 fun μ0 o l => ho2 μ0 (ho μ0 o l) l)
        (fun k e2 μ2 sl ho2 => q2 k (e.trans e2) μ2 sl fun μ0 o l => ho2 μ0 (ho μ0 o l) l)
    · exact q2 i (by rw [goP, hs]) μ sl fun _ z _ => z
end
theorem step_ne {s s' : List (List Td)} {w : Str} (g : good s) (h : stepP s w = some s') : ∀ a, s' = [a] → a ≠ [] := by
  intro a ea z
  subst ea z
  unfold stepP at h
  by_cases ok : okS s = true
  · rw [if_pos ok] at h
    by_cases ho : w = "("
    · rw [if_pos ho] at h
      cases h
      exact g.1 rfl
    · rw [if_neg ho] at h
      by_cases hc : w = ")"
      · rw [if_pos hc] at h
        match s, h with
        | a :: b :: r, h =>
          have h := Option.some.inj h
          have e := (List.cons.inj h).1
          exact absurd e (by simp)
        | [], h => cases h
        | [_], h => cases h
      · rw [if_neg hc] at h
        match s, h with
        | [], h => cases h
        | a :: r, h =>
          obtain ⟨t, _, e⟩ := map_inv h
          exact absurd (List.cons.inj e).1 (by simp)
  · rw [if_neg ok] at h
    cases h
theorem goP_ne : ∀ (ws : List Str) {s : List (List Td)} {i : Nat} {a : List Td}, good s → (∀ x ∈ s, x.length ≤ i) → s.length ≤ i + 1 → ws ≠ [] → goP ws s i = .inl [a] → a ≠ []
  | [], _, _, _, _, _, _, h, _ => absurd rfl h
  | w :: ws, s, i, a, g, h2, h1, _, h => by
    rw [goP] at h
    cases hs : stepP s w with
    | none => rw [hs] at h; cases h
    | some s' =>
      rw [hs] at h
      obtain ⟨g', l1, l2⟩ := step_good g hs h1 h2
      cases ws with
      | nil =>
        have h : (Sum.inl s' : Sum (List (List Td)) Nat) = .inl [a] := h
        exact step_ne g hs a (Sum.inl.inj h)
      | cons w2 ws => exact goP_ne (w2 :: ws) g' l2 l1 (by simp) h
def rdLine (z : Str) : Sum Td Nat := match goP (Txt.split z " ") [[]] 0 with
  | .inr k => .inr k
  | .inl s => if 1 < s.length then .inr (Txt.split z " ").length else match s with
    | [t :: _] => .inl t
    | _ => .inr 0
theorem good0 : good [[]] := ⟨by simp, fun h => absurd h (by decide)⟩
theorem stk0 (μ : Mu) : Stk (μ ++ [.lst []] ++ [.lst [.ref μ.length]]) (μ.length + 1) [μ.length] [[]] := by
  refine ⟨?_, rfl, by simp, fun r hr => ?_, fun i r a h1 h2 => ?_⟩
  · rw [List.getElem?_append_right (by rw [List.length_append]; exact Nat.le_refl _), List.length_append]
    simp
  · rw [List.mem_singleton] at hr
    subst hr
    exact ⟨by omega, Nat.le_refl _⟩
  · match i, h1, h2 with
    | 0, h1, h2 =>
      cases h1
      cases h2
      rw [List.getElem?_append_left (by rw [List.length_append]; show _ < _ + 1; omega), List.getElem?_append_right (Nat.le_refl _), Nat.sub_self]
      rfl
    | i + 1, h1, _ => cases h1
/-- what is so of a line -/
structure LineOk (z : Str) : Prop where
  len : z.length ≤ 100000
  sg : ∀ c ∈ z.cps.toList, c = 10 ∨ (32 ≤ c ∧ c ≤ 126)
structure WordsOk (ws : List Str) : Prop where
  ne : ws ≠ []
  len : ws.length ≤ 100001
  each : ∀ w ∈ ws, w.length ≤ 100000 ∧ ∀ c ∈ w.cps.toList, c = 10 ∨ (33 ≤ c ∧ c ≤ 126)
section
variable {c : Addr} {z : Str} {μ : Mu} {Q : D → Mu → Prop} {E : Exn → Mu → Prop}
theorem run_thing (hz : LineOk z) (wk : WordsOk (Txt.split z " ")) (q1 : ∀ t, rdLine z = .inl t → ∀ μ', Ov μ μ' → Q (dT t) μ') (q2 : ∀ k, rdLine z = .inr k → ∀ μ' sl, Ov μ μ' → E (exP c k sl) μ') :
    (F_read_thing c [.str z]).run Q E μ := by
  have hl := hz.len
  have hz2 : z.length + 2 ≤ sizeLine := Nat.le_of_lt (szOk (by omega))
  have m1 : "str" ∈ ["int", "str", "tuple", "list", "bool", "dict"] := by decide
  have o1 : oneI "str" "str" = true := by decide
  have bl : (((" " : Str).length == 0) = false) := by decide +kernel
  simp only [F_read_thing, B_read_thing, defW, sSeq, sIf, sSet, sRet, sRetN, sExpr, sPar, two, sFor, sRaise, dB, dOp, dUn, dV, dC, dIfE, dM1, dJoin.isS, dSl, dPart, dNoPart, dNot, dAnd, dOr, dNotV, dOrV, dAndV, dChain, dCall, dOwn, dTup, dLst, dLstM, dMet, isL, aCons, aNil, dTru, slot, startD, iOf, its, itsOf, itm, run_bnd, run_ret, run_fail, run_chk, run_rd, run_wr, run_any, run_nox, run_exn, run_tag, see, look, lookM, W.opt, s1, s2, c1, c2, asB, List.map, List.replicate, List.append_eq, List.cons_append, List.nil_append, List.set, andThen, endF, sNil, wipeD, dTrue, gIs1, m1, tyN, o1, true_and, gSplit, bl, hz2, Bool.not_true, Bool.false_eq_true, if_false, List.length_nil, Nat.zero_le, List.length_singleton, DL.alloc]
  refine ⟨by decide, ⟨rfl, ?_⟩⟩
  have ln : (μ ++ [MO.lst []]).length = μ.length + 1 := List.length_append
  have ww := wk.each
  have wl := wk.len
  have wn := wk.ne
  rw [ln]
  unfold rdLine at q1 q2
  revert q1 q2 ww wl wn
  generalize Txt.split z " " = ws
  intro q1 q2 ww wl wn
  have o0 : Ov μ (μ ++ [MO.lst []] ++ [MO.lst [D.ref μ.length]]) := ((Ov.refl μ).app _).app _
  have lw : (ws.map D.str).length = ws.length := List.length_map _
  refine run_loop (c := c) ws 0 good0 (stk0 μ) (by decide) (fun a ha => by rw [List.mem_singleton.mp ha]; exact Nat.le_refl _) (by omega) (fun w hw => Nat.le_trans (ww w hw).1 (by decide)) (fun s' e g' μ' rs' a' b' y5 hS ho => ?_) (fun k e μ' sl ho => ?_)
  · rw [e] at q1 q2
    have ov := ho μ o0 (Nat.lt_succ_self _)
    have hb := hS.base
    have hlen : ((rs'.map D.ref).reverse).length = s'.length := by rw [List.length_reverse, List.length_map, hS.len]
    have hL : decide ((1 : Int) < (((rs'.map D.ref).reverse.length : Nat) : Int)) = decide (1 < s'.length) := by
      rw [hlen]
      exact decide_eq_decide.mpr ⟨fun z => by omega, fun z => by omega⟩
    obtain ⟨r0, b, e1, e2, e3⟩ := hS.bot g'.1
    simp only [defW, sSeq, sIf, sSet, sRet, sRetN, sExpr, sPar, two, sFor, sRaise, dB, dOp, dUn, dV, dC, dIfE, dM1, dJoin.isS, dSl, dPart, dNoPart, dNot, dAnd, dOr, dNotV, dOrV, dAndV, dChain, dCall, dOwn, dTup, dLst, dLstM, dMet, isL, aCons, aNil, dTru, slot, startD, iOf, its, itsOf, itm, run_bnd, run_ret, run_fail, run_chk, run_rd, run_wr, run_any, run_nox, run_exn, run_tag, see, look, lookM, W.opt, s1, s2, c1, c2, asB, List.map, List.replicate, List.append_eq, List.cons_append, List.nil_append, List.set, andThen, endF, sNil, wipeD, dTrue, hb, gLen, gGt, gOrd, hL, lw]
    by_cases h1 : 1 < s'.length
    · have e6 : decide (1 < s'.length) = true := decide_eq_true h1
      simp only [e6, if_true, defW, sSeq, sIf, sSet, sRet, sRetN, sExpr, sPar, two, sFor, sRaise, dB, dOp, dUn, dV, dC, dIfE, dM1, dJoin.isS, dSl, dPart, dNoPart, dNot, dAnd, dOr, dNotV, dOrV, dAndV, dChain, dCall, dOwn, dTup, dLst, dLstM, dMet, isL, aCons, aNil, dTru, slot, startD, iOf, its, itsOf, itm, run_bnd, run_ret, run_fail, run_chk, run_rd, run_wr, run_any, run_nox, run_exn, run_tag, see, look, lookM, W.opt, s1, s2, c1, c2, asB, List.map, List.replicate, List.append_eq, List.cons_append, List.nil_append, List.set, andThen, endF, sNil, wipeD, dTrue, gLen, lw, List.length_cons, List.length_nil, Nat.zero_add, Nat.reduceAdd, two_le, List.zip_cons_cons, List.zip_nil_right, List.reverse_cons, List.reverse_nil, true_and]
      exact q2 ws.length (by show (if 1 < s'.length then (Sum.inr ws.length : Sum Td Nat) else _) = _; rw [if_pos h1]) μ' _ ov
    · have e6 : decide (1 < s'.length) = false := decide_eq_false h1
      obtain ⟨a, rfl⟩ : ∃ a, s' = [a] := by
        match s', g', h1 with
        | [], g', _ => exact absurd rfl g'.1
        | [a], _, _ => exact ⟨a, rfl⟩
        | _ :: _ :: _, _, h1 => exact absurd (by simp) h1
      have na := goP_ne ws (i := 0) good0 (fun x hx => by rw [List.mem_singleton.mp hx]; exact Nat.le_refl _) (by decide) wn e
      obtain ⟨t, r, rfl⟩ : ∃ t r, a = t :: r := by
        cases a with
        | nil => exact absurd rfl na
        | cons t r => exact ⟨t, r, rfl⟩
      obtain rfl : t :: r = b := Option.some.inj e3
      have e4 : L2.atI (dTL (t :: r)) 0 = some (dT t) := atI_nat (j := 0) rfl
      simp only [e6, Bool.false_eq_true, if_false, defW, sSeq, sIf, sSet, sRet, sRetN, sExpr, sPar, two, sFor, sRaise, dB, dOp, dUn, dV, dC, dIfE, dM1, dJoin.isS, dSl, dPart, dNoPart, dNot, dAnd, dOr, dNotV, dOrV, dAndV, dChain, dCall, dOwn, dTup, dLst, dLstM, dMet, isL, aCons, aNil, dTru, slot, startD, iOf, its, itsOf, itm, run_bnd, run_ret, run_fail, run_chk, run_rd, run_wr, run_any, run_nox, run_exn, run_tag, see, look, lookM, W.opt, s1, s2, c1, c2, asB, List.map, List.replicate, List.append_eq, List.cons_append, List.nil_append, List.set, andThen, endF, sNil, wipeD, dTrue, hb, gIx, e1, e2, e4]
      exact q1 t rfl μ' ov
  · rw [e] at q2
    exact q2 k rfl μ' sl (ho μ o0 (Nat.lt_succ_self _))
end
end K68

namespace K68
open PySem PySem.Spec PyProof.Rows L2 Kit DL
/-! ### the law's own reader -/
theorem quote1_cps : ("'" : Str).cps.toList = [39] := by decide +kernel
theorem nl_str : ("\n" : Str) = ⟨#[10]⟩ := by decide +kernel
theorem rd_some (w : Str) : (rdW w).isSome = (decide (w = "none") || (isTxtW w || isNumW w)) := by
  unfold rdW
  by_cases h1 : w = "none"
  · rw [if_pos h1, decide_eq_true h1]
    rfl
  · rw [if_neg h1, decide_eq_false h1]
    cases h2 : isTxtW w with
    | true => rfl
    | false =>
      rw [if_neg (by decide)]
      cases h3 : isNumW w with
      | true =>
        obtain ⟨n, e, _⟩ := num_text h3
        rw [if_pos rfl, e]
        rfl
      | false => rfl
theorem txt_law {w : Str} (hw : ∀ c ∈ w.cps.toList, c = 10 ∨ (33 ≤ c ∧ c ≤ 126)) : (decide (w.cps.toList.head? = some 39) && (decide (1 < w.length) && !decide (10 ∈ w.cps.toList))) = isTxtW w := by
  unfold isTxtW
  congr 2
  by_cases h : 10 ∈ w.cps.toList
  · rw [decide_eq_true h]
    symm
    rw [Bool.not_true, List.all_eq_false]
    exact ⟨10, h, by decide⟩
  · rw [decide_eq_false h]
    symm
    rw [Bool.not_false, List.all_eq_true]
    intro c hc
    rcases hw c hc with e | e
    · exact absurd (e ▸ hc) h
    · exact decide_eq_true e
theorem txt_num {w : Str} (h : isTxtW w = true) : isNumW w = false := by
  unfold isTxtW at h
  rw [Bool.and_eq_true, decide_eq_true_eq] at h
  have hh := h.1
  have ef : figW w = w := by
    unfold figW
    rw [if_neg (by rw [hh]; decide)]
  unfold isNumW
  rw [ef]
  cases hd : w.cps.toList.all dig with
  | false => rw [Bool.and_false, Bool.false_and]
  | true =>
    obtain ⟨r, er⟩ : ∃ r, w.cps.toList = 39 :: r := by
      cases e : w.cps.toList with
      | nil => rw [e] at hh; cases hh
      | cons c r => rw [e] at hh; cases hh; exact ⟨r, rfl⟩
    rw [er, List.all_cons] at hd
    exact absurd (Bool.and_eq_true_iff.mp hd).1 (by decide +kernel)
theorem num_head {w : Str} (h : isNumW w = true) : ∃ c r, w.cps.toList = c :: r ∧ c ≠ 39 := by
  unfold isNumW at h
  rw [Bool.and_eq_true, Bool.and_eq_true, decide_eq_true_eq, List.all_eq_true] at h
  obtain ⟨⟨⟨h1, _⟩, h3⟩, _⟩ := h
  cases e : w.cps.toList with
  | nil =>
    have : figW w = w := by
      unfold figW
      rw [if_neg (by rw [e]; decide)]
    rw [this, ← len_cps, e] at h1
    exact absurd h1 (by decide)
  | cons c r =>
    refine ⟨c, r, rfl, fun z => ?_⟩
    subst z
    have ef : figW w = w := by
      unfold figW
      rw [if_neg (fun z => by rw [e] at z; cases z)]
    have := (dig_iff 39).mp (h3 39 (by rw [ef, e]; exact List.mem_cons_self))
    omega
theorem head_quote (c : Nat) : decide ((⟨#[c]⟩ : Str) = ("'" : Str)) = decide (c = 39) := by
  have e0 : ("'" : Str) = ⟨#[39]⟩ := by decide +kernel
  rw [e0]
  by_cases h : c = 39
  · subst h
    rw [decide_eq_true rfl]
    rfl
  · rw [decide_eq_false h]
    exact decide_eq_false fun z => h (by cases z; rfl)
section
variable {μ : Mu} {n : Nat} {rs : List Nat} {s : List (List Td)} {x0 x1 x5 x6 x7 : Option D} {k : Int} {w : Str} {Q : Fl → Mu → Prop} {E : Exn → Mu → Prop}
theorem run_alone {Q : D → Mu → Prop} {ε : DS} (h4 : slot ε 4 = some (.str w)) (hw : w.length ≤ 1000000) (hs : ∀ c ∈ w.cps.toList, c = 10 ∨ (33 ≤ c ∧ c ≤ 126)) :
    (dOrV (dOp (s2 (gE2 false)) (dV 4) (dC (.str "none"))) (dOrV (dAndV (dOp (s2 (gE2 false)) (dSl (dV 4) dNoPart (dPart (dC (.int 1)))) (dC (.str "'"))) (dAndV (dOp gGt (dCall (c1 gLen) (aCons (dV 4) aNil)) (dC (.int 1))) (dOp (s2 (gIn true)) (dC (.str "\n")) (dV 4)))) (dOwn 1 F_l_is_number (aCons (dV 4) aNil))) ε).run Q E μ = Q (.bl (rdW w).isSome) μ := by
  have hz2 : w.length ≤ sizeLine := Nat.le_of_lt (szOk (by omega))
  have l1 : ([D.str w] : List D).length = 1 := rfl
  rw [rd_some]
  simp only [dOrV, dOp, dV, h4, defW, sSeq, sIf, sSet, sRet, sRetN, sExpr, sPar, two, sFor, sRaise, dB, dOp, dUn, dV, dC, dIfE, dM1, dJoin.isS, dSl, dPart, dNoPart, dNot, dAnd, dOr, dNotV, dOrV, dAndV, dChain, dCall, dOwn, dTup, dLst, dLstM, dMet, isL, aCons, aNil, dTru, slot, startD, iOf, its, itsOf, itm, run_bnd, run_ret, run_fail, run_chk, run_rd, run_wr, run_any, run_nox, run_exn, run_tag, see, look, lookM, W.opt, s1, s2, c1, c2, asB, List.map, List.replicate, List.append_eq, List.cons_append, List.nil_append, List.set, andThen, endF, sNil, wipeD, dTrue, gE2, Bool.false_eq_true, if_false]
  by_cases h1 : w = "none"
  · simp only [decide_eq_true h1, if_true, run_ret, Bool.true_or]
  · simp only [decide_eq_false h1, Bool.false_eq_true, if_false, Bool.false_or, defW, sSeq, sIf, sSet, sRet, sRetN, sExpr, sPar, two, sFor, sRaise, dB, dOp, dUn, dV, dC, dIfE, dM1, dJoin.isS, dSl, dPart, dNoPart, dNot, dAnd, dOr, dNotV, dOrV, dAndV, dChain, dCall, dOwn, dTup, dLst, dLstM, dMet, isL, aCons, aNil, dTru, slot, startD, iOf, its, itsOf, itm, run_bnd, run_ret, run_fail, run_chk, run_rd, run_wr, run_any, run_nox, run_exn, run_tag, see, look, lookM, W.opt, s1, s2, c1, c2, asB, List.map, List.replicate, List.append_eq, List.cons_append, List.nil_append, List.set, andThen, endF, sNil, wipeD, dTrue, h4, gSl, hz2, true_and]
    rw [← txt_law hs]
    by_cases h2 : w.cps.toList.head? = some 39
    · have e2 : decide (cutS w none (some 1) = ("'" : Str)) = true := decide_eq_true ((first_is quote1_cps).mpr h2)
      simp only [e2, h2, decide_true, if_true, Bool.true_and, defW, sSeq, sIf, sSet, sRet, sRetN, sExpr, sPar, two, sFor, sRaise, dB, dOp, dUn, dV, dC, dIfE, dM1, dJoin.isS, dSl, dPart, dNoPart, dNot, dAnd, dOr, dNotV, dOrV, dAndV, dChain, dCall, dOwn, dTup, dLst, dLstM, dMet, isL, aCons, aNil, dTru, slot, startD, iOf, its, itsOf, itm, run_bnd, run_ret, run_fail, run_chk, run_rd, run_wr, run_any, run_nox, run_exn, run_tag, see, look, lookM, W.opt, s1, s2, c1, c2, asB, List.map, List.replicate, List.append_eq, List.cons_append, List.nil_append, List.set, andThen, endF, sNil, wipeD, dTrue, h4, gLen, hz2, true_and, gGt, gOrd]
      by_cases h3 : 1 < w.length
      · have e3 : decide ((1 : Int) < (w.length : Int)) = true := decide_eq_true (by omega)
        simp only [e3, h3, decide_true, if_true, Bool.true_and, defW, sSeq, sIf, sSet, sRet, sRetN, sExpr, sPar, two, sFor, sRaise, dB, dOp, dUn, dV, dC, dIfE, dM1, dJoin.isS, dSl, dPart, dNoPart, dNot, dAnd, dOr, dNotV, dOrV, dAndV, dChain, dCall, dOwn, dTup, dLst, dLstM, dMet, isL, aCons, aNil, dTru, slot, startD, iOf, its, itsOf, itm, run_bnd, run_ret, run_fail, run_chk, run_rd, run_wr, run_any, run_nox, run_exn, run_tag, see, look, lookM, W.opt, s1, s2, c1, c2, asB, List.map, List.replicate, List.append_eq, List.cons_append, List.nil_append, List.set, andThen, endF, sNil, wipeD, dTrue, h4, gIn]
        rw [nl_str, show (!(Builtin.Str.occurrences w ⟨#[10]⟩ 0 w.length 1).isEmpty) = decide (10 ∈ w.cps.toList) from StrLaws.found_one _ 10]
        cases h5 : decide (10 ∈ w.cps.toList) with
        | true => simp only [if_true, defW, sSeq, sIf, sSet, sRet, sRetN, sExpr, sPar, two, sFor, sRaise, dB, dOp, dUn, dV, dC, dIfE, dM1, dJoin.isS, dSl, dPart, dNoPart, dNot, dAnd, dOr, dNotV, dOrV, dAndV, dChain, dCall, dOwn, dTup, dLst, dLstM, dMet, isL, aCons, aNil, dTru, slot, startD, iOf, its, itsOf, itm, run_bnd, run_ret, run_fail, run_chk, run_rd, run_wr, run_any, run_nox, run_exn, run_tag, see, look, lookM, W.opt, s1, s2, c1, c2, asB, List.map, List.replicate, List.append_eq, List.cons_append, List.nil_append, List.set, andThen, endF, sNil, wipeD, dTrue, h4, run_lnum hw, l1, true_and, Bool.not_true, Bool.false_or, Bool.false_eq_true, if_false]
        | false => simp only [if_true, defW, sSeq, sIf, sSet, sRet, sRetN, sExpr, sPar, two, sFor, sRaise, dB, dOp, dUn, dV, dC, dIfE, dM1, dJoin.isS, dSl, dPart, dNoPart, dNot, dAnd, dOr, dNotV, dOrV, dAndV, dChain, dCall, dOwn, dTup, dLst, dLstM, dMet, isL, aCons, aNil, dTru, slot, startD, iOf, its, itsOf, itm, run_bnd, run_ret, run_fail, run_chk, run_rd, run_wr, run_any, run_nox, run_exn, run_tag, see, look, lookM, W.opt, s1, s2, c1, c2, asB, List.map, List.replicate, List.append_eq, List.cons_append, List.nil_append, List.set, andThen, endF, sNil, wipeD, dTrue, Bool.not_false, Bool.true_or]
      · have e3 : decide ((1 : Int) < (w.length : Int)) = false := decide_eq_false (by omega)
        simp only [e3, h3, decide_false, if_false, Bool.false_eq_true, Bool.false_and, Bool.false_or, defW, sSeq, sIf, sSet, sRet, sRetN, sExpr, sPar, two, sFor, sRaise, dB, dOp, dUn, dV, dC, dIfE, dM1, dJoin.isS, dSl, dPart, dNoPart, dNot, dAnd, dOr, dNotV, dOrV, dAndV, dChain, dCall, dOwn, dTup, dLst, dLstM, dMet, isL, aCons, aNil, dTru, slot, startD, iOf, its, itsOf, itm, run_bnd, run_ret, run_fail, run_chk, run_rd, run_wr, run_any, run_nox, run_exn, run_tag, see, look, lookM, W.opt, s1, s2, c1, c2, asB, List.map, List.replicate, List.append_eq, List.cons_append, List.nil_append, List.set, andThen, endF, sNil, wipeD, dTrue, h4, run_lnum hw, l1, true_and]
    · have e2 : decide (cutS w none (some 1) = ("'" : Str)) = false := decide_eq_false fun z => h2 ((first_is quote1_cps).mp z)
      simp only [e2, h2, decide_false, if_false, Bool.false_eq_true, Bool.false_and, Bool.false_or, defW, sSeq, sIf, sSet, sRet, sRetN, sExpr, sPar, two, sFor, sRaise, dB, dOp, dUn, dV, dC, dIfE, dM1, dJoin.isS, dSl, dPart, dNoPart, dNot, dAnd, dOr, dNotV, dOrV, dAndV, dChain, dCall, dOwn, dTup, dLst, dLstM, dMet, isL, aCons, aNil, dTru, slot, startD, iOf, its, itsOf, itm, run_bnd, run_ret, run_fail, run_chk, run_rd, run_wr, run_any, run_nox, run_exn, run_tag, see, look, lookM, W.opt, s1, s2, c1, c2, asB, List.map, List.replicate, List.append_eq, List.cons_append, List.nil_append, List.set, andThen, endF, sNil, wipeD, dTrue, h4, run_lnum hw, l1, true_and]
end
end K68

namespace K68
open PySem PySem.Spec PyProof.Rows L2 Kit DL
section
variable {μ : Mu} {n : Nat} {rs : List Nat} {s : List (List Td)} {x0 x1 x5 x6 x7 : Option D} {k : Int} {w : Str} {Q : Fl → Mu → Prop} {E : Exn → Mu → Prop}
theorem par_flat : (List.all [D.str "(", D.str ")"] flatD) = true := by decide +kernel
theorem rd_open : (rdW "(").isSome = false := by rw [par_ne.1]; rfl
theorem rd_shut : (rdW ")").isSome = false := by rw [par_ne.2]; rfl
theorem par_in (w : Str) : ([D.str "(", D.str ")"].any fun x => eqD x (.str w)) = (decide (w = "(") || decide (w = ")")) := by
  have e : ∀ a : Str, eqD (.str a) (.str w) = decide (w = a) := fun a => by
    show (a == w) = _
    by_cases h : w = a
    · rw [decide_eq_true h, h]
      exact beq_self_eq_true _
    · rw [decide_eq_false h]
      exact beq_eq_false_iff_ne.mpr fun z => h z.symm
  rw [List.any_cons, List.any_cons, List.any_nil, e, e, Bool.or_false]
theorem run_lcond {Q : Bool → Mu → Prop} (h : Stk μ n rs s) (g : good s) :
    (dOr (dAnd (dB (dOp (s2 (gE2 false)) (dCall (c1 gLen) (aCons (dV 2) aNil)) (dC (.int 1)))) (dOr (dB (dOp (s2 (gE2 true)) (dOp (s2 gIx) (dV 2) (dC (.int 0))) (dLst aNil))) (dB (dOp (s2 (gE2 false)) (dV 4) (dC (.str ")")))))) (dAnd (dNot (dB (dV 5))) (dB (dOp (s2 (gIn true)) (dV 4) (dTup (aCons (dC (.str "(")) (aCons (dC (.str ")")) aNil))))))
      [x0, x1, some (.ref n), some (.int k), some (.str w), some (.bl (rdW w).isSome), x6, x7]).run Q E μ = Q (stepP s w).isNone μ := by
  obtain ⟨r0, b, e1, e2, e3⟩ := h.bot g.1
  have ok := okS_of e3
  have hb := h.base
  have hlen : ((rs.map D.ref).reverse).length = rs.length := by rw [List.length_reverse, List.length_map]
  have hL : decide ((((rs.map D.ref).reverse.length : Nat) : Int) = 1) = decide (s.length = 1) := by
    rw [hlen, h.len]
    exact decide_eq_decide.mpr ⟨fun z => by omega, fun z => by omega⟩
  have z0 : (0 : Nat) ≤ sizeLine := Nat.zero_le _
  have fl : flatD (.str w) = true := rfl
  have l2 : ([D.str "(", D.str ")"] : List D).length ≤ sizeLine := two_le
  have tail : (if (!(rdW w).isSome) = true then (if (!(decide (w = ("(" : Str)) || decide (w = (")" : Str)))) = true then True else False) else False) ↔ (rdW w = none ∧ w ≠ "(" ∧ w ≠ ")") := by
    cases hr : rdW w <;> by_cases h1 : w = "(" <;> by_cases h2 : w = ")" <;> simp [h1, h2]
  simp only [defW, sSeq, sIf, sSet, sRet, sRetN, sExpr, sPar, two, sFor, sRaise, dB, dOp, dUn, dV, dC, dIfE, dM1, dJoin.isS, dSl, dPart, dNoPart, dNot, dAnd, dOr, dNotV, dOrV, dAndV, dChain, dCall, dOwn, dTup, dLst, dLstM, dMet, isL, aCons, aNil, dTru, slot, startD, iOf, its, itsOf, itm, run_bnd, run_ret, run_fail, run_chk, run_rd, run_wr, run_any, run_nox, run_exn, run_tag, see, look, lookM, W.opt, s1, s2, c1, c2, asB, List.map, List.replicate, List.append_eq, List.cons_append, List.nil_append, List.set, andThen, endF, sNil, wipeD, dTrue, hb, gLen, gE2, hL, Bool.false_eq_true, if_false]
  by_cases h1 : s.length = 1
  · have e6 : decide (s.length = 1) = true := decide_eq_true h1
    simp only [e6, if_true, defW, sSeq, sIf, sSet, sRet, sRetN, sExpr, sPar, two, sFor, sRaise, dB, dOp, dUn, dV, dC, dIfE, dM1, dJoin.isS, dSl, dPart, dNoPart, dNot, dAnd, dOr, dNotV, dOrV, dAndV, dChain, dCall, dOwn, dTup, dLst, dLstM, dMet, isL, aCons, aNil, dTru, slot, startD, iOf, its, itsOf, itm, run_bnd, run_ret, run_fail, run_chk, run_rd, run_wr, run_any, run_nox, run_exn, run_tag, see, look, lookM, W.opt, s1, s2, c1, c2, asB, List.map, List.replicate, List.append_eq, List.cons_append, List.nil_append, List.set, andThen, endF, sNil, wipeD, dTrue, hb, gIx, e1, e2, List.length_nil, z0, true_and, dTL_emp, gE2]
    cases hbE : b.isEmpty with
    | false =>
      have hn : stepP s w = none := by unfold stepP; rw [if_neg (by rw [ok, hbE]; decide)]
      simp only [Bool.not_false, if_true, defW, sSeq, sIf, sSet, sRet, sRetN, sExpr, sPar, two, sFor, sRaise, dB, dOp, dUn, dV, dC, dIfE, dM1, dJoin.isS, dSl, dPart, dNoPart, dNot, dAnd, dOr, dNotV, dOrV, dAndV, dChain, dCall, dOwn, dTup, dLst, dLstM, dMet, isL, aCons, aNil, dTru, slot, startD, iOf, its, itsOf, itm, run_bnd, run_ret, run_fail, run_chk, run_rd, run_wr, run_any, run_nox, run_exn, run_tag, see, look, lookM, W.opt, s1, s2, c1, c2, asB, List.map, List.replicate, List.append_eq, List.cons_append, List.nil_append, List.set, andThen, endF, sNil, wipeD, dTrue, hn, Option.isNone]
    | true =>
      have okT : okS s = true := by rw [ok, hbE]
      by_cases hcl : w = ")"
      · have e5 : decide (w = (")" : Str)) = true := decide_eq_true hcl
        have hn : stepP s w = none := by
          obtain ⟨a, rfl⟩ := List.length_eq_one_iff.mp h1
          unfold stepP
          rw [if_pos okT, if_neg (by rw [hcl]; decide +kernel), if_pos hcl]
        simp only [Bool.not_true, Bool.false_eq_true, if_false, e5, if_true, defW, sSeq, sIf, sSet, sRet, sRetN, sExpr, sPar, two, sFor, sRaise, dB, dOp, dUn, dV, dC, dIfE, dM1, dJoin.isS, dSl, dPart, dNoPart, dNot, dAnd, dOr, dNotV, dOrV, dAndV, dChain, dCall, dOwn, dTup, dLst, dLstM, dMet, isL, aCons, aNil, dTru, slot, startD, iOf, its, itsOf, itm, run_bnd, run_ret, run_fail, run_chk, run_rd, run_wr, run_any, run_nox, run_exn, run_tag, see, look, lookM, W.opt, s1, s2, c1, c2, asB, List.map, List.replicate, List.append_eq, List.cons_append, List.nil_append, List.set, andThen, endF, sNil, wipeD, dTrue, gE2, hn, Option.isNone]
      · have e5 : decide (w = (")" : Str)) = false := decide_eq_false hcl
        simp only [Bool.not_true, Bool.false_eq_true, if_false, e5, defW, sSeq, sIf, sSet, sRet, sRetN, sExpr, sPar, two, sFor, sRaise, dB, dOp, dUn, dV, dC, dIfE, dM1, dJoin.isS, dSl, dPart, dNoPart, dNot, dAnd, dOr, dNotV, dOrV, dAndV, dChain, dCall, dOwn, dTup, dLst, dLstM, dMet, isL, aCons, aNil, dTru, slot, startD, iOf, its, itsOf, itm, run_bnd, run_ret, run_fail, run_chk, run_rd, run_wr, run_any, run_nox, run_exn, run_tag, see, look, lookM, W.opt, s1, s2, c1, c2, asB, List.map, List.replicate, List.append_eq, List.cons_append, List.nil_append, List.set, andThen, endF, sNil, wipeD, dTrue, gE2]
        by_cases hop : w = "("
        · have e7 : decide (w = ("(" : Str)) = true := decide_eq_true hop
          have hn : stepP s w = some ([] :: s) := by unfold stepP; rw [if_pos okT, if_pos hop]
          have e8 : (rdW w).isSome = false := by rw [hop]; exact rd_open
          simp only [e8, Bool.not_false, if_true, defW, sSeq, sIf, sSet, sRet, sRetN, sExpr, sPar, two, sFor, sRaise, dB, dOp, dUn, dV, dC, dIfE, dM1, dJoin.isS, dSl, dPart, dNoPart, dNot, dAnd, dOr, dNotV, dOrV, dAndV, dChain, dCall, dOwn, dTup, dLst, dLstM, dMet, isL, aCons, aNil, dTru, slot, startD, iOf, its, itsOf, itm, run_bnd, run_ret, run_fail, run_chk, run_rd, run_wr, run_any, run_nox, run_exn, run_tag, see, look, lookM, W.opt, s1, s2, c1, c2, asB, List.map, List.replicate, List.append_eq, List.cons_append, List.nil_append, List.set, andThen, endF, sNil, wipeD, dTrue, l2, true_and, gIn, fl, par_flat, par_in, e7, Bool.true_or, Bool.not_true, hn, Option.isNone, and_self]
        · have e7 : decide (w = ("(" : Str)) = false := decide_eq_false hop
          obtain ⟨a, rfl⟩ := List.length_eq_one_iff.mp h1
          have hn : stepP [a] w = (rdW w).map fun t => (a ++ [t]) :: [] := by unfold stepP; rw [if_pos okT, if_neg hop, if_neg hcl]
          cases hr : rdW w with
          | none => simp only [hn, hr, Option.map, Option.isNone, Option.isSome, Bool.not_false, if_true, defW, sSeq, sIf, sSet, sRet, sRetN, sExpr, sPar, two, sFor, sRaise, dB, dOp, dUn, dV, dC, dIfE, dM1, dJoin.isS, dSl, dPart, dNoPart, dNot, dAnd, dOr, dNotV, dOrV, dAndV, dChain, dCall, dOwn, dTup, dLst, dLstM, dMet, isL, aCons, aNil, dTru, slot, startD, iOf, its, itsOf, itm, run_bnd, run_ret, run_fail, run_chk, run_rd, run_wr, run_any, run_nox, run_exn, run_tag, see, look, lookM, W.opt, s1, s2, c1, c2, asB, List.map, List.replicate, List.append_eq, List.cons_append, List.nil_append, List.set, andThen, endF, sNil, wipeD, dTrue, l2, true_and, gIn, fl, par_flat, par_in, e7, e5, Bool.or_false, and_self]
          | some t => simp only [hn, hr, Option.map, Option.isNone, Option.isSome, Bool.not_true, Bool.false_eq_true, if_false, defW, sSeq, sIf, sSet, sRet, sRetN, sExpr, sPar, two, sFor, sRaise, dB, dOp, dUn, dV, dC, dIfE, dM1, dJoin.isS, dSl, dPart, dNoPart, dNot, dAnd, dOr, dNotV, dOrV, dAndV, dChain, dCall, dOwn, dTup, dLst, dLstM, dMet, isL, aCons, aNil, dTru, slot, startD, iOf, its, itsOf, itm, run_bnd, run_ret, run_fail, run_chk, run_rd, run_wr, run_any, run_nox, run_exn, run_tag, see, look, lookM, W.opt, s1, s2, c1, c2, asB, List.map, List.replicate, List.append_eq, List.cons_append, List.nil_append, List.set, andThen, endF, sNil, wipeD, dTrue]
  · have e6 : decide (s.length = 1) = false := decide_eq_false h1
    have hl2 : 2 ≤ s.length := by
      have := List.length_pos_iff.mpr g.1
      omega
    have okT := g.2 hl2
    simp only [e6, Bool.false_eq_true, if_false, defW, sSeq, sIf, sSet, sRet, sRetN, sExpr, sPar, two, sFor, sRaise, dB, dOp, dUn, dV, dC, dIfE, dM1, dJoin.isS, dSl, dPart, dNoPart, dNot, dAnd, dOr, dNotV, dOrV, dAndV, dChain, dCall, dOwn, dTup, dLst, dLstM, dMet, isL, aCons, aNil, dTru, slot, startD, iOf, its, itsOf, itm, run_bnd, run_ret, run_fail, run_chk, run_rd, run_wr, run_any, run_nox, run_exn, run_tag, see, look, lookM, W.opt, s1, s2, c1, c2, asB, List.map, List.replicate, List.append_eq, List.cons_append, List.nil_append, List.set, andThen, endF, sNil, wipeD, dTrue]
    by_cases hop : w = "("
    · have e7 : decide (w = ("(" : Str)) = true := decide_eq_true hop
      have hn : stepP s w = some ([] :: s) := by unfold stepP; rw [if_pos okT, if_pos hop]
      have e8 : (rdW w).isSome = false := by rw [hop]; exact rd_open
      simp only [e8, Bool.not_false, if_true, defW, sSeq, sIf, sSet, sRet, sRetN, sExpr, sPar, two, sFor, sRaise, dB, dOp, dUn, dV, dC, dIfE, dM1, dJoin.isS, dSl, dPart, dNoPart, dNot, dAnd, dOr, dNotV, dOrV, dAndV, dChain, dCall, dOwn, dTup, dLst, dLstM, dMet, isL, aCons, aNil, dTru, slot, startD, iOf, its, itsOf, itm, run_bnd, run_ret, run_fail, run_chk, run_rd, run_wr, run_any, run_nox, run_exn, run_tag, see, look, lookM, W.opt, s1, s2, c1, c2, asB, List.map, List.replicate, List.append_eq, List.cons_append, List.nil_append, List.set, andThen, endF, sNil, wipeD, dTrue, l2, true_and, gIn, fl, par_flat, par_in, e7, Bool.true_or, Bool.not_true, hn, Option.isNone, and_self]
    · have e7 : decide (w = ("(" : Str)) = false := decide_eq_false hop
      by_cases hcl : w = ")"
      · have e5 : decide (w = (")" : Str)) = true := decide_eq_true hcl
        have e8 : (rdW w).isSome = false := by rw [hcl]; exact rd_shut
        have hn : (stepP s w).isNone = false := by
          unfold stepP
          rw [if_pos okT, if_neg hop, if_pos hcl]
          match s, hl2 with
          | a :: b :: r, _ => rfl
        simp only [e8, Bool.not_false, if_true, defW, sSeq, sIf, sSet, sRet, sRetN, sExpr, sPar, two, sFor, sRaise, dB, dOp, dUn, dV, dC, dIfE, dM1, dJoin.isS, dSl, dPart, dNoPart, dNot, dAnd, dOr, dNotV, dOrV, dAndV, dChain, dCall, dOwn, dTup, dLst, dLstM, dMet, isL, aCons, aNil, dTru, slot, startD, iOf, its, itsOf, itm, run_bnd, run_ret, run_fail, run_chk, run_rd, run_wr, run_any, run_nox, run_exn, run_tag, see, look, lookM, W.opt, s1, s2, c1, c2, asB, List.map, List.replicate, List.append_eq, List.cons_append, List.nil_append, List.set, andThen, endF, sNil, wipeD, dTrue, l2, true_and, gIn, fl, par_flat, par_in, e7, e5, Bool.or_true, Bool.not_true, hn, and_self]
      · have e5 : decide (w = (")" : Str)) = false := decide_eq_false hcl
        have hn : (stepP s w).isNone = (rdW w).isNone := by
          unfold stepP
          rw [if_pos okT, if_neg hop, if_neg hcl]
          match s, hl2 with
          | a :: r, _ => cases rdW w <;> rfl
        rw [hn]
        cases hr : rdW w with
        | none => simp only [Option.isNone, Option.isSome, Bool.not_false, if_true, defW, sSeq, sIf, sSet, sRet, sRetN, sExpr, sPar, two, sFor, sRaise, dB, dOp, dUn, dV, dC, dIfE, dM1, dJoin.isS, dSl, dPart, dNoPart, dNot, dAnd, dOr, dNotV, dOrV, dAndV, dChain, dCall, dOwn, dTup, dLst, dLstM, dMet, isL, aCons, aNil, dTru, slot, startD, iOf, its, itsOf, itm, run_bnd, run_ret, run_fail, run_chk, run_rd, run_wr, run_any, run_nox, run_exn, run_tag, see, look, lookM, W.opt, s1, s2, c1, c2, asB, List.map, List.replicate, List.append_eq, List.cons_append, List.nil_append, List.set, andThen, endF, sNil, wipeD, dTrue, l2, true_and, gIn, fl, par_flat, par_in, e7, e5, Bool.or_false, and_self]
        | some t => simp only [Option.isNone, Option.isSome, Bool.not_true, Bool.false_eq_true, if_false, defW, sSeq, sIf, sSet, sRet, sRetN, sExpr, sPar, two, sFor, sRaise, dB, dOp, dUn, dV, dC, dIfE, dM1, dJoin.isS, dSl, dPart, dNoPart, dNot, dAnd, dOr, dNotV, dOrV, dAndV, dChain, dCall, dOwn, dTup, dLst, dLstM, dMet, isL, aCons, aNil, dTru, slot, startD, iOf, its, itsOf, itm, run_bnd, run_ret, run_fail, run_chk, run_rd, run_wr, run_any, run_nox, run_exn, run_tag, see, look, lookM, W.opt, s1, s2, c1, c2, asB, List.map, List.replicate, List.append_eq, List.cons_append, List.nil_append, List.set, andThen, endF, sNil, wipeD, dTrue]
end
end K68

namespace K68
open PySem PySem.Spec PyProof.Rows L2 Kit DL
noncomputable def EV1 : DS → W D := (dIfE (dB (dOp (s2 (gE2 false)) (dOp (s2 gIx) (dV 4) (dC (.int 0))) (dC (.str "'")))) (dSl (dV 4) (dPart (dC (.int 1))) dNoPart) (dC .non))
noncomputable def EV2 : DS → W D := (dIfE (dB (dOwn 1 F_l_is_number (aCons (dV 4) aNil))) (dCall (c1 X21.gIntL) (aCons (dV 4) aNil)) (dV 7))
noncomputable def LT : DS → W Fl :=
  (sIf (dB (dOp (s2 (gE2 false)) (dV 4) (dC (.str "("))))
  (sExpr (dMet gAppend (dV 2) (aCons (dLstM aNil) aNil)))
  (sIf (dB (dOp (s2 (gE2 false)) (dV 4) (dC (.str ")"))))
  (sSeq (sSet 6 (dCall (c1 gTuple) (aCons (dMet gPop (dV 2) aNil) aNil)))
  (sExpr (dMet gAppend (dOp (s2 gIx) (dV 2) (dUn gNeg (dC (.int 1)))) (aCons (dV 6) aNil))))
  (sSeq (sSet 7 EV1)
  (sExpr (dMet gAppend (dOp (s2 gIx) (dV 2) (dUn gNeg (dC (.int 1)))) (aCons EV2 aNil))))))
section
variable {μ : Mu} {n : Nat} {rs : List Nat} {s s' : List (List Td)} {x0 x1 x5 x6 x7 : Option D} {k : Int} {w : Str} {Q : Fl → Mu → Prop} {E : Exn → Mu → Prop}
/-- a word's value, as the law takes it -/
theorem run_val {t : Td} (hw : w.length ≤ 1000000) (hr : rdW w = some t) : ∃ d7, (∀ (Q : D → Mu → Prop) (ε : DS), slot ε 4 = some (.str w) → (EV1 ε).run Q E μ = Q d7 μ) ∧
    (∀ (Q : D → Mu → Prop) (ε : DS), slot ε 4 = some (.str w) → slot ε 7 = some d7 → (EV2 ε).run Q E μ = Q (dT t) μ) := by
  have hz2 : w.length ≤ sizeLine := Nat.le_of_lt (szOk (by omega))
  have l1 : ([D.str w] : List D).length = 1 := rfl
  have A : ∀ (c : Nat) (r : List Nat), w.cps.toList = c :: r → ∀ (Q : D → Mu → Prop) (ε : DS), slot ε 4 = some (.str w) → (EV1 ε).run Q E μ = Q (if c = 39 then .str (cutS w (some 1) none) else .non) μ := fun c r ec Q ε h4 => by
    have at0 : L2.atI w.cps.toList 0 = some c := by rw [ec]; exact atI_nat (j := 0) rfl
    simp only [EV1, dIfE, dB, dOp, dV, h4, defW, sSeq, sIf, sSet, sRet, sRetN, sExpr, sPar, two, sFor, sRaise, dB, dOp, dUn, dV, dC, dIfE, dM1, dJoin.isS, dSl, dPart, dNoPart, dNot, dAnd, dOr, dNotV, dOrV, dAndV, dChain, dCall, dOwn, dTup, dLst, dLstM, dMet, isL, aCons, aNil, dTru, slot, startD, iOf, its, itsOf, itm, run_bnd, run_ret, run_fail, run_chk, run_rd, run_wr, run_any, run_nox, run_exn, run_tag, see, look, lookM, W.opt, s1, s2, c1, c2, asB, List.map, List.replicate, List.append_eq, List.cons_append, List.nil_append, List.set, andThen, endF, sNil, wipeD, dTrue, gIx, hz2, true_and, at0, Option.map, gE2, Bool.false_eq_true, if_false, head_quote]
    by_cases h : c = 39
    · simp only [h, decide_true, if_true, defW, sSeq, sIf, sSet, sRet, sRetN, sExpr, sPar, two, sFor, sRaise, dB, dOp, dUn, dV, dC, dIfE, dM1, dJoin.isS, dSl, dPart, dNoPart, dNot, dAnd, dOr, dNotV, dOrV, dAndV, dChain, dCall, dOwn, dTup, dLst, dLstM, dMet, isL, aCons, aNil, dTru, slot, startD, iOf, its, itsOf, itm, run_bnd, run_ret, run_fail, run_chk, run_rd, run_wr, run_any, run_nox, run_exn, run_tag, see, look, lookM, W.opt, s1, s2, c1, c2, asB, List.map, List.replicate, List.append_eq, List.cons_append, List.nil_append, List.set, andThen, endF, sNil, wipeD, dTrue, h4, gSl, hz2, true_and]
    · simp only [h, decide_false, Bool.false_eq_true, if_false, defW, sSeq, sIf, sSet, sRet, sRetN, sExpr, sPar, two, sFor, sRaise, dB, dOp, dUn, dV, dC, dIfE, dM1, dJoin.isS, dSl, dPart, dNoPart, dNot, dAnd, dOr, dNotV, dOrV, dAndV, dChain, dCall, dOwn, dTup, dLst, dLstM, dMet, isL, aCons, aNil, dTru, slot, startD, iOf, its, itsOf, itm, run_bnd, run_ret, run_fail, run_chk, run_rd, run_wr, run_any, run_nox, run_exn, run_tag, see, look, lookM, W.opt, s1, s2, c1, c2, asB, List.map, List.replicate, List.append_eq, List.cons_append, List.nil_append, List.set, andThen, endF, sNil, wipeD, dTrue]
  unfold rdW at hr
  by_cases h1 : w = "none"
  · rw [if_pos h1] at hr
    cases hr
    refine ⟨_, A 110 _ (by rw [h1]; exact none_cps), fun Q ε h4 h7 => ?_⟩
    have hn : isNumW w = false := by rw [h1]; decide +kernel
    simp only [EV2, dIfE, dB, dOwn, aCons, aNil, dV, h4, defW, sSeq, sIf, sSet, sRet, sRetN, sExpr, sPar, two, sFor, sRaise, dB, dOp, dUn, dV, dC, dIfE, dM1, dJoin.isS, dSl, dPart, dNoPart, dNot, dAnd, dOr, dNotV, dOrV, dAndV, dChain, dCall, dOwn, dTup, dLst, dLstM, dMet, isL, aCons, aNil, dTru, slot, startD, iOf, its, itsOf, itm, run_bnd, run_ret, run_fail, run_chk, run_rd, run_wr, run_any, run_nox, run_exn, run_tag, see, look, lookM, W.opt, s1, s2, c1, c2, asB, List.map, List.replicate, List.append_eq, List.cons_append, List.nil_append, List.set, andThen, endF, sNil, wipeD, dTrue, l1, true_and, run_lnum hw, hn, Bool.false_eq_true, if_false, h7, dT]
    rfl
  · rw [if_neg h1] at hr
    cases h2 : isTxtW w with
    | true =>
      rw [h2, if_pos rfl] at hr
      cases hr
      have hh : w.cps.toList.head? = some 39 := by
        unfold isTxtW at h2
        rw [Bool.and_eq_true, decide_eq_true_eq] at h2
        exact h2.1
      obtain ⟨r, er⟩ : ∃ r, w.cps.toList = 39 :: r := by
        cases e : w.cps.toList with
        | nil => rw [e] at hh; cases hh
        | cons c r => rw [e] at hh; cases hh; exact ⟨r, rfl⟩
      refine ⟨_, A 39 r er, fun Q ε h4 h7 => ?_⟩
      simp only [EV2, dIfE, dB, dOwn, aCons, aNil, dV, h4, defW, sSeq, sIf, sSet, sRet, sRetN, sExpr, sPar, two, sFor, sRaise, dB, dOp, dUn, dV, dC, dIfE, dM1, dJoin.isS, dSl, dPart, dNoPart, dNot, dAnd, dOr, dNotV, dOrV, dAndV, dChain, dCall, dOwn, dTup, dLst, dLstM, dMet, isL, aCons, aNil, dTru, slot, startD, iOf, its, itsOf, itm, run_bnd, run_ret, run_fail, run_chk, run_rd, run_wr, run_any, run_nox, run_exn, run_tag, see, look, lookM, W.opt, s1, s2, c1, c2, asB, List.map, List.replicate, List.append_eq, List.cons_append, List.nil_append, List.set, andThen, endF, sNil, wipeD, dTrue, l1, true_and, run_lnum hw, txt_num h2, Bool.false_eq_true, if_false, h7, if_true, dT]
    | false =>
      rw [h2, if_neg (by decide)] at hr
      cases h3 : isNumW w with
      | false => rw [h3, if_neg (by decide)] at hr; cases hr
      | true =>
        obtain ⟨m, e1, e2, e3⟩ := num_text h3
        rw [h3, if_pos rfl, e1] at hr
        cases hr
        obtain ⟨c, r, ec, hc⟩ := num_head h3
        refine ⟨_, A c r ec, fun Q ε h4 h7 => ?_⟩
        simp only [EV2, dIfE, dB, dOwn, dCall, aCons, aNil, dV, h4, defW, sSeq, sIf, sSet, sRet, sRetN, sExpr, sPar, two, sFor, sRaise, dB, dOp, dUn, dV, dC, dIfE, dM1, dJoin.isS, dSl, dPart, dNoPart, dNot, dAnd, dOr, dNotV, dOrV, dAndV, dChain, dCall, dOwn, dTup, dLst, dLstM, dMet, isL, aCons, aNil, dTru, slot, startD, iOf, its, itsOf, itm, run_bnd, run_ret, run_fail, run_chk, run_rd, run_wr, run_any, run_nox, run_exn, run_tag, see, look, lookM, W.opt, s1, s2, c1, c2, asB, List.map, List.replicate, List.append_eq, List.cons_append, List.nil_append, List.set, andThen, endF, sNil, wipeD, dTrue, l1, true_and, run_lnum hw, h3, if_true, X21.gIntL, e3, e1, dT]
theorem run_lact (h : Stk μ n rs s) (g : good s) (hw : w.length ≤ 1000000) (hl : rs.length < sizeLine) (hA : ∀ a ∈ s, a.length < sizeLine) (hs : stepP s w = some s')
    (q1 : ∀ μ' rs' y5 y6 y7, Stk μ' n rs' s' → (∀ μ0, Ov μ0 μ → μ0.length < n → Ov μ0 μ') → Q (.nx [x0, x1, some (.ref n), some (.int k), some (.str w), y5, y6, y7]) μ') :
    (LT [x0, x1, some (.ref n), some (.int k), some (.str w), x5, x6, x7]).run Q E μ := by
  have hb := h.base
  have hlen : ((rs.map D.ref).reverse).length = rs.length := by rw [List.length_reverse, List.length_map]
  have okT : okS s = true := by
    unfold stepP at hs
    by_cases ok : okS s = true
    · exact ok
    · rw [if_neg ok] at hs; cases hs
  simp only [LT, defW, sSeq, sIf, sSet, sRet, sRetN, sExpr, sPar, two, sFor, sRaise, dB, dOp, dUn, dV, dC, dIfE, dM1, dJoin.isS, dSl, dPart, dNoPart, dNot, dAnd, dOr, dNotV, dOrV, dAndV, dChain, dCall, dOwn, dTup, dLst, dLstM, dMet, isL, aCons, aNil, dTru, slot, startD, iOf, its, itsOf, itm, run_bnd, run_ret, run_fail, run_chk, run_rd, run_wr, run_any, run_nox, run_exn, run_tag, see, look, lookM, W.opt, s1, s2, c1, c2, asB, List.map, List.replicate, List.append_eq, List.cons_append, List.nil_append, List.set, andThen, endF, sNil, wipeD, dTrue, gE2, Bool.false_eq_true, if_false]
  by_cases hop : w = "("
  · have e7 : decide (w = ("(" : Str)) = true := decide_eq_true hop
    obtain rfl : [] :: s = s' := by
      unfold stepP at hs
      rw [if_pos okT, if_pos hop] at hs
      exact Option.some.inj hs
    have hq := q1 _ _ x5 x6 x7 h.push fun μ0 ho hn => (ho.app _).set (Nat.le_of_lt hn) _
    have lX : ((rs.map D.ref).reverse).length < sizeLine := by rw [hlen]; exact hl
    have z0 : (0 : Nat) ≤ sizeLine := Nat.zero_le _
    have hb3 : (μ ++ [MO.lst []])[n]? = some (.lst (rs.map D.ref).reverse) := by rw [List.getElem?_append_left h.ltn]; exact hb
    clear hlen h q1
    revert hb hb3 hq lX
    generalize (rs.map D.ref).reverse = X
    intro hb hq lX hb3
    simp only [e7, if_true, defW, sSeq, sIf, sSet, sRet, sRetN, sExpr, sPar, two, sFor, sRaise, dB, dOp, dUn, dV, dC, dIfE, dM1, dJoin.isS, dSl, dPart, dNoPart, dNot, dAnd, dOr, dNotV, dOrV, dAndV, dChain, dCall, dOwn, dTup, dLst, dLstM, dMet, isL, aCons, aNil, dTru, slot, startD, iOf, its, itsOf, itm, run_bnd, run_ret, run_fail, run_chk, run_rd, run_wr, run_any, run_nox, run_exn, run_tag, see, look, lookM, W.opt, s1, s2, c1, c2, asB, List.map, List.replicate, List.append_eq, List.cons_append, List.nil_append, List.set, andThen, endF, sNil, wipeD, dTrue, hb, List.length_nil, z0, true_and, DL.alloc, gAppend, atM, hb3, lX, putM]
    assumption
  · have e7 : decide (w = ("(" : Str)) = false := decide_eq_false hop
    by_cases hcl : w = ")"
    · have e5 : decide (w = (")" : Str)) = true := decide_eq_true hcl
      unfold stepP at hs
      rw [if_pos okT, if_neg hop, if_pos hcl] at hs
      match s, rs, h, hs, hb with
      | [], _, _, hs, _ => cases hs
      | [a], _, _, hs, _ => cases hs
      | a :: a2 :: v2, [], h, _, _ => exact absurd h.len (by simp)
      | a :: a2 :: v2, [r], h, _, _ => exact absurd h.len (by simp)
      | a :: a2 :: v2, r :: r2 :: rs2, h, hs, hb =>
        obtain rfl : ((a2 ++ [.tup a]) :: v2) = s' := Option.some.inj hs
        obtain ⟨t1, t2⟩ := h.top
        have hp := h.pop
        obtain ⟨t3, t4⟩ := hp.top
        obtain ⟨u1, u2⟩ := rev_last (r := r) (rs := r2 :: rs2)
        have nr : n ≠ r := (h.gt r List.mem_cons_self).1
        have t2' : (μ.set n (.lst ((r2 :: rs2).map D.ref).reverse))[r]? = some (.lst (dTL a)) := by rw [List.getElem?_set_ne nr]; exact t2
        have hit := hp.item (t := .tup a)
        have hb2 := hp.base
        have hq := q1 _ _ x5 (some (.tup (dTL a))) x7 hit fun μ0 ho hn => (ho.set (Nat.le_of_lt hn) _).set (by have := (hp.gt r2 List.mem_cons_self).2; omega) _
        have la : (dTL a2).length < sizeLine := by rw [dTL_len]; exact hA _ (List.mem_cons_of_mem _ List.mem_cons_self)
        clear hlen h hp hit q1 hs
        revert hb u1 u2 t1 t2' t3 t4 hb2 hq
        generalize ((r :: r2 :: rs2).map D.ref).reverse = X
        generalize ((r2 :: rs2).map D.ref).reverse = X2
        intro hb a1 a3 a4 a5 a6 a7 a8 hq
        simp only [Bool.false_eq_true, if_false, defW, sSeq, sIf, sSet, sRet, sRetN, sExpr, sPar, two, sFor, sRaise, dB, dOp, dUn, dV, dC, dIfE, dM1, dJoin.isS, dSl, dPart, dNoPart, dNot, dAnd, dOr, dNotV, dOrV, dAndV, dChain, dCall, dOwn, dTup, dLst, dLstM, dMet, isL, aCons, aNil, dTru, slot, startD, iOf, its, itsOf, itm, run_bnd, run_ret, run_fail, run_chk, run_rd, run_wr, run_any, run_nox, run_exn, run_tag, see, look, lookM, W.opt, s1, s2, c1, c2, asB, List.map, List.replicate, List.append_eq, List.cons_append, List.nil_append, List.set, andThen, endF, sNil, wipeD, dTrue, gE2, e7, e5, if_true, hb, gPop, atM, putM, gTuple, gNeg, gIx, a1, a3, a4, a5, a6, a7, a8, gAppend, la, true_and]
        assumption
    · have e5 : decide (w = (")" : Str)) = false := decide_eq_false hcl
      unfold stepP at hs
      rw [if_pos okT, if_neg hop, if_neg hcl] at hs
      match s, rs, h, hs, hb with
      | [], _, _, hs, _ => cases hs
      | a :: v, [], h, _, _ => exact absurd h.len (by simp)
      | a :: v, r :: rs2, h, hs, hb =>
        obtain ⟨t, hr, e⟩ := map_inv hs
        subst e
        obtain ⟨t1, t2⟩ := h.top
        have la : (dTL a).length < sizeLine := by rw [dTL_len]; exact hA _ List.mem_cons_self
        obtain ⟨d7, v1, v2⟩ := run_val (μ := μ) (E := E) hw hr
        have hq := q1 _ _ x5 x6 (some d7) (h.item (t := t)) fun μ0 ho hn => ho.set (by have := (h.gt r List.mem_cons_self).2; omega) _
        clear hlen h q1 hs
        revert hb t1
        generalize ((r :: rs2).map D.ref).reverse = X
        intro hb t1
        simp only [Bool.false_eq_true, if_false, defW, sSeq, sIf, sSet, sRet, sRetN, sExpr, sPar, two, sFor, sRaise, dB, dOp, dUn, dV, dC, dIfE, dM1, dJoin.isS, dSl, dPart, dNoPart, dNot, dAnd, dOr, dNotV, dOrV, dAndV, dChain, dCall, dOwn, dTup, dLst, dLstM, dMet, isL, aCons, aNil, dTru, slot, startD, iOf, its, itsOf, itm, run_bnd, run_ret, run_fail, run_chk, run_rd, run_wr, run_any, run_nox, run_exn, run_tag, see, look, lookM, W.opt, s1, s2, c1, c2, asB, List.map, List.replicate, List.append_eq, List.cons_append, List.nil_append, List.set, andThen, endF, sNil, wipeD, dTrue, gE2, e7, e5]
        rw [v1 _ _ rfl]
        simp only [defW, sSeq, sIf, sSet, sRet, sRetN, sExpr, sPar, two, sFor, sRaise, dB, dOp, dUn, dV, dC, dIfE, dM1, dJoin.isS, dSl, dPart, dNoPart, dNot, dAnd, dOr, dNotV, dOrV, dAndV, dChain, dCall, dOwn, dTup, dLst, dLstM, dMet, isL, aCons, aNil, dTru, slot, startD, iOf, its, itsOf, itm, run_bnd, run_ret, run_fail, run_chk, run_rd, run_wr, run_any, run_nox, run_exn, run_tag, see, look, lookM, W.opt, s1, s2, c1, c2, asB, List.map, List.replicate, List.append_eq, List.cons_append, List.nil_append, List.set, andThen, endF, sNil, wipeD, dTrue, hb, gNeg, gIx, t1, t2]
        rw [v2 _ _ rfl rfl]
        simp only [defW, sSeq, sIf, sSet, sRet, sRetN, sExpr, sPar, two, sFor, sRaise, dB, dOp, dUn, dV, dC, dIfE, dM1, dJoin.isS, dSl, dPart, dNoPart, dNot, dAnd, dOr, dNotV, dOrV, dAndV, dChain, dCall, dOwn, dTup, dLst, dLstM, dMet, isL, aCons, aNil, dTru, slot, startD, iOf, its, itsOf, itm, run_bnd, run_ret, run_fail, run_chk, run_rd, run_wr, run_any, run_nox, run_exn, run_tag, see, look, lookM, W.opt, s1, s2, c1, c2, asB, List.map, List.replicate, List.append_eq, List.cons_append, List.nil_append, List.set, andThen, endF, sNil, wipeD, dTrue, t2, gAppend, atM, la, true_and, putM]
        assumption
theorem run_lstep (h : Stk μ n rs s) (g : good s) (hw : w.length ≤ 1000000) (hs : ∀ c ∈ w.cps.toList, c = 10 ∨ (33 ≤ c ∧ c ≤ 126)) (hl : rs.length < sizeLine) (hA : ∀ a ∈ s, a.length < sizeLine)
    (q1 : ∀ s', stepP s w = some s' → ∀ μ' rs' y5 y6 y7, Stk μ' n rs' s' → (∀ μ0, Ov μ0 μ → μ0.length < n → Ov μ0 μ') → Q (.nx [x0, x1, some (.ref n), some (.int k), some (.str w), y5, y6, y7]) μ')
    (q2 : stepP s w = none → Q (.rt (.tup [.str "place", .int k])) μ) : (L_l_read_1 [x0, x1, some (.ref n), some (.int k), some (.str w), x5, x6, x7]).run Q E μ := by
  have ha := fun Q : D → Mu → Prop => run_alone (μ := μ) (w := w) (E := E) (Q := Q) (ε := [x0, x1, some (.ref n), some (.int k), some (.str w), x5, x6, x7]) rfl hw hs
  have hc := fun Q : Bool → Mu → Prop => run_lcond (μ := μ) (w := w) (E := E) (Q := Q) (x0 := x0) (x1 := x1) (x6 := x6) (x7 := x7) (k := k) h g
  simp only [L_l_read_1, sSeq, sSet, run_bnd, run_ret]
  rw [ha]
  simp only [List.set, andThen, sSeq, sIf, run_bnd]
  rw [hc]
  cases hp : stepP s w with
  | none =>
    simp only [Option.isNone, if_true, defW, sSeq, sIf, sSet, sRet, sRetN, sExpr, sPar, two, sFor, sRaise, dB, dOp, dUn, dV, dC, dIfE, dM1, dJoin.isS, dSl, dPart, dNoPart, dNot, dAnd, dOr, dNotV, dOrV, dAndV, dChain, dCall, dOwn, dTup, dLst, dLstM, dMet, isL, aCons, aNil, dTru, slot, startD, iOf, its, itsOf, itm, run_bnd, run_ret, run_fail, run_chk, run_rd, run_wr, run_any, run_nox, run_exn, run_tag, see, look, lookM, W.opt, s1, s2, c1, c2, asB, List.map, List.replicate, List.append_eq, List.cons_append, List.nil_append, List.set, andThen, endF, sNil, wipeD, dTrue, List.length_cons, List.length_nil, Nat.zero_add, Nat.reduceAdd, two_le, true_and]
    exact q2 hp
  | some s' => exact run_lact h g hw hl hA hp (q1 s' hp)
end
end K68

namespace K68
open PySem PySem.Spec PyProof.Rows L2 Kit DL
section
variable {n : Nat} {x0 x1 : Option D} {E : Exn → Mu → Prop}
theorem run_lloop : ∀ (ws : List Str) (i : Nat) {s : List (List Td)} {rs : List Nat} {μ : Mu} {a b x5 x6 x7 : Option D} {Q : Fl → Mu → Prop}, good s → Stk μ n rs s → s.length ≤ i + 1 → (∀ a ∈ s, a.length ≤ i) → i + ws.length ≤ 1000000 →
    (∀ w ∈ ws, w.length ≤ 1000000 ∧ ∀ c ∈ w.cps.toList, c = 10 ∨ (33 ≤ c ∧ c ≤ 126)) →
    (∀ s', goP ws s i = .inl s' → good s' → ∀ μ' rs' a' b' y5 y6 y7, Stk μ' n rs' s' → (∀ μ0, Ov μ0 μ → μ0.length < n → Ov μ0 μ') → Q (.nx [x0, x1, some (.ref n), a', b', y5, y6, y7]) μ') →
    (∀ k : Nat, goP ws s i = .inr k → ∀ μ', (∀ μ0, Ov μ0 μ → μ0.length < n → Ov μ0 μ') → Q (.rt (.tup [.str "place", .int k])) μ') →
    (forW (gTp 2 (gCn (gN 3) (gCn (gN 4) gNl))) L_l_read_1 (fun _ => True) (enumD i (ws.map D.str)) [x0, x1, some (.ref n), a, b, x5, x6, x7]).run Q E μ
  | [], i, s, rs, μ, a, b, x5, x6, x7, Q, g, h, _, _, _, _, q1, q2 => ⟨True.intro, q1 s rfl g μ rs a b x5 x6 x7 h fun _ z _ => z⟩
  | w :: ws, i, s, rs, μ, a, b, x5, x6, x7, Q, g, h, h1, h2, h3, h4, q1, q2 => by
    have h3' : i + (ws.length + 1) ≤ 1000000 := h3
    refine ⟨True.intro, ?_⟩
    show ((L_l_read_1 [x0, x1, some (.ref n), some (.int (i : Nat)), some (.str w), x5, x6, x7]).bnd _).run _ _ _
    refine run_lstep h g (h4 w List.mem_cons_self).1 (h4 w List.mem_cons_self).2 (szOk (by rw [h.len]; omega)) (fun a ha => szOk (by have := h2 a ha; omega)) (fun s' hs μ' rs' y5 y6 y7 hS ho => ?_) (fun hs => ?_)
    · obtain ⟨g', l1, l2⟩ := step_good g hs h1 h2
      have e : goP (w :: ws) s i = goP ws s' (i + 1) := by rw [goP, hs]
      exact run_lloop ws (i + 1) g' hS l1 l2 (by omega) (fun x hx => h4 x (List.mem_cons_of_mem _ hx))
        (fun s2 e2 g2 μ2 rs2 a' b' z5 z6 z7 hS2 ho2 => q1 s2 (e.trans e2) g2 μ2 rs2 a' b' z5 z6 z7 hS2 fun μ0 o l => ho2 μ0 (ho μ0 o l) l)
        (fun k e2 μ2 ho2 => q2 k (e.trans e2) μ2 fun μ0 o l => ho2 μ0 (ho μ0 o l) l)
    · exact q2 i (by rw [goP, hs]) μ fun _ z _ => z
end
section
variable {z : Str} {μ : Mu} {Q : D → Mu → Prop} {E : Exn → Mu → Prop}
theorem run_lread (hz : LineOk z) (wk : WordsOk (Txt.split z " ")) (q1 : ∀ t, rdLine z = .inl t → ∀ μ', Ov μ μ' → Q (.tup [.str "thing", dT t]) μ') (q2 : ∀ k : Nat, rdLine z = .inr k → ∀ μ', Ov μ μ' → Q (.tup [.str "place", .int k]) μ') :
    (F_l_read [.str z]).run Q E μ := by
  have hl := hz.len
  have hz2 : z.length + 2 ≤ sizeLine := Nat.le_of_lt (szOk (by omega))
  have m1 : "str" ∈ ["int", "str", "tuple", "list", "bool", "dict"] := by decide
  have o1 : oneI "str" "str" = true := by decide
  have bl : (((" " : Str).length == 0) = false) := by decide +kernel
  simp only [F_l_read, B_l_read, defW, sSeq, sIf, sSet, sRet, sRetN, sExpr, sPar, two, sFor, sRaise, dB, dOp, dUn, dV, dC, dIfE, dM1, dJoin.isS, dSl, dPart, dNoPart, dNot, dAnd, dOr, dNotV, dOrV, dAndV, dChain, dCall, dOwn, dTup, dLst, dLstM, dMet, isL, aCons, aNil, dTru, slot, startD, iOf, its, itsOf, itm, run_bnd, run_ret, run_fail, run_chk, run_rd, run_wr, run_any, run_nox, run_exn, run_tag, see, look, lookM, W.opt, s1, s2, c1, c2, asB, List.map, List.replicate, List.append_eq, List.cons_append, List.nil_append, List.set, andThen, endF, sNil, wipeD, dTrue, gIs1, m1, tyN, o1, true_and, gSplit, bl, hz2, Bool.not_true, Bool.false_eq_true, if_false, List.length_nil, Nat.zero_le, List.length_singleton, DL.alloc]
  refine ⟨by decide, ⟨rfl, ?_⟩⟩
  have ln : (μ ++ [MO.lst []]).length = μ.length + 1 := List.length_append
  have ww := wk.each
  have wl := wk.len
  have wn := wk.ne
  rw [ln]
  unfold rdLine at q1 q2
  revert q1 q2 ww wl wn
  generalize Txt.split z " " = ws
  intro q1 q2 ww wl wn
  have o0 : Ov μ (μ ++ [MO.lst []] ++ [MO.lst [D.ref μ.length]]) := ((Ov.refl μ).app _).app _
  have lw : (ws.map D.str).length = ws.length := List.length_map _
  refine run_lloop ws 0 good0 (stk0 μ) (by decide) (fun a ha => by rw [List.mem_singleton.mp ha]; exact Nat.le_refl _) (by omega) (fun w hw => ⟨Nat.le_trans (ww w hw).1 (by decide), (ww w hw).2⟩) (fun s' e g' μ' rs' a' b' y5 y6 y7 hS ho => ?_) (fun k e μ' ho => ?_)
  · rw [e] at q1 q2
    have ov := ho μ o0 (Nat.lt_succ_self _)
    have hb := hS.base
    have hlen : ((rs'.map D.ref).reverse).length = s'.length := by rw [List.length_reverse, List.length_map, hS.len]
    have hL : decide ((((rs'.map D.ref).reverse.length : Nat) : Int) = 1) = decide (s'.length = 1) := by
      rw [hlen]
      exact decide_eq_decide.mpr ⟨fun z => by omega, fun z => by omega⟩
    obtain ⟨r0, b, e1, e2, e3⟩ := hS.bot g'.1
    simp only [defW, sSeq, sIf, sSet, sRet, sRetN, sExpr, sPar, two, sFor, sRaise, dB, dOp, dUn, dV, dC, dIfE, dM1, dJoin.isS, dSl, dPart, dNoPart, dNot, dAnd, dOr, dNotV, dOrV, dAndV, dChain, dCall, dOwn, dTup, dLst, dLstM, dMet, isL, aCons, aNil, dTru, slot, startD, iOf, its, itsOf, itm, run_bnd, run_ret, run_fail, run_chk, run_rd, run_wr, run_any, run_nox, run_exn, run_tag, see, look, lookM, W.opt, s1, s2, c1, c2, asB, List.map, List.replicate, List.append_eq, List.cons_append, List.nil_append, List.set, andThen, endF, sNil, wipeD, dTrue, hb, gLen, gE2, Bool.false_eq_true, if_false, hL]
    by_cases h1 : s'.length = 1
    · have e6 : decide (s'.length = 1) = true := decide_eq_true h1
      obtain ⟨a, rfl⟩ := List.length_eq_one_iff.mp h1
      have na := goP_ne ws (i := 0) good0 (fun x hx => by rw [List.mem_singleton.mp hx]; exact Nat.le_refl _) (by decide) wn e
      obtain ⟨t, r, rfl⟩ : ∃ t r, a = t :: r := by
        cases a with
        | nil => exact absurd rfl na
        | cons t r => exact ⟨t, r, rfl⟩
      obtain rfl : t :: r = b := Option.some.inj e3
      have e4 : L2.atI (dTL (t :: r)) 0 = some (dT t) := atI_nat (j := 0) rfl
      simp only [decide_true, if_true, defW, sSeq, sIf, sSet, sRet, sRetN, sExpr, sPar, two, sFor, sRaise, dB, dOp, dUn, dV, dC, dIfE, dM1, dJoin.isS, dSl, dPart, dNoPart, dNot, dAnd, dOr, dNotV, dOrV, dAndV, dChain, dCall, dOwn, dTup, dLst, dLstM, dMet, isL, aCons, aNil, dTru, slot, startD, iOf, its, itsOf, itm, run_bnd, run_ret, run_fail, run_chk, run_rd, run_wr, run_any, run_nox, run_exn, run_tag, see, look, lookM, W.opt, s1, s2, c1, c2, asB, List.map, List.replicate, List.append_eq, List.cons_append, List.nil_append, List.set, andThen, endF, sNil, wipeD, dTrue, hb, gIx, e1, e2, e4, List.length_cons, List.length_nil, Nat.zero_add, Nat.reduceAdd, two_le, true_and]
      exact q1 t rfl μ' ov
    · have e6 : decide (s'.length = 1) = false := decide_eq_false h1
      have h2 : 1 < s'.length := by
        have := List.length_pos_iff.mpr g'.1
        omega
      simp only [e6, Bool.false_eq_true, if_false, defW, sSeq, sIf, sSet, sRet, sRetN, sExpr, sPar, two, sFor, sRaise, dB, dOp, dUn, dV, dC, dIfE, dM1, dJoin.isS, dSl, dPart, dNoPart, dNot, dAnd, dOr, dNotV, dOrV, dAndV, dChain, dCall, dOwn, dTup, dLst, dLstM, dMet, isL, aCons, aNil, dTru, slot, startD, iOf, its, itsOf, itm, run_bnd, run_ret, run_fail, run_chk, run_rd, run_wr, run_any, run_nox, run_exn, run_tag, see, look, lookM, W.opt, s1, s2, c1, c2, asB, List.map, List.replicate, List.append_eq, List.cons_append, List.nil_append, List.set, andThen, endF, sNil, wipeD, dTrue, gLen, lw, List.length_cons, List.length_nil, Nat.zero_add, Nat.reduceAdd, two_le, true_and]
      exact q2 ws.length (by show (if 1 < s'.length then (Sum.inr ws.length : Sum Td Nat) else _) = _; rw [if_pos h2]) μ' ov
  · rw [e] at q2
    exact q2 k rfl μ' (ho μ o0 (Nat.lt_succ_self _))
end
end K68

namespace K68
open PySem PySem.Spec PyProof.Rows L2 Kit DL
/-! ### shown -/
structure SR (t : Td) (n L : Nat) : Prop where
  sh : (pd t).showable = true
  hd : (pd t).hasDict = false
  dp : (pd t).depth ≤ n
  ln : (pd t).shown.length + 2 ≤ L
structure SRL (ts : List Td) (n L : Nat) : Prop where
  sh : PyData.showableAll (pdL ts) = true
  hd : PyData.hasDictAll (pdL ts) = false
  dp : PyData.depthAll (pdL ts) ≤ n
  ln : ((PyData.shownAll (pdL ts)).map (·.length)).sum + 2 * ts.length ≤ L
theorem shownAll_len : ∀ ts : List Td, (PyData.shownAll (pdL ts)).length = ts.length
  | [] => by simp [pdL, PyData.shownAll]
  | t :: ts => by
    rw [pdL, PyData.shownAll, List.length_cons, List.length_cons, shownAll_len ts]
theorem SRL.nil {n : Nat} : SRL [] n 0 := by
  constructor
  · simp [pdL, PyData.showableAll]
  · simp [pdL, PyData.hasDictAll]
  · simp [pdL, PyData.depthAll]
  · simp [pdL, PyData.shownAll]
theorem SRL.cons {t : Td} {ts : List Td} {n L M : Nat} (h : SR t n L) (hs : SRL ts n M) : SRL (t :: ts) n (L + M) := by
  obtain ⟨a1, a2, a3, a4⟩ := h
  obtain ⟨b1, b2, b3, b4⟩ := hs
  constructor
  · rw [pdL, PyData.showableAll, a1, b1]
    rfl
  · rw [pdL, PyData.hasDictAll, a2, b2]
    rfl
  · rw [pdL, PyData.depthAll]
    exact Nat.max_le.mpr ⟨a3, b3⟩
  · rw [pdL, PyData.shownAll, List.map_cons, List.sum_cons, List.length_cons]
    omega
theorem SRL.mono {ts : List Td} {n m L M : Nat} (h : SRL ts n L) (hn : n ≤ m) (hl : L ≤ M) : SRL ts m M := ⟨h.sh, h.hd, Nat.le_trans h.dp hn, Nat.le_trans h.ln hl⟩
theorem SR.mono {t : Td} {n m L M : Nat} (h : SR t n L) (hn : n ≤ m) (hl : L ≤ M) : SR t m M := ⟨h.sh, h.hd, Nat.le_trans h.dp hn, Nat.le_trans h.ln hl⟩
theorem SRL.tup {ts : List Td} {n L : Nat} (h : SRL ts n L) : SR (.tup ts) (n + 1) (L + 5) := by
  obtain ⟨b1, b2, b3, b4⟩ := h
  constructor
  · rw [pd, PyData.showable, b1]
  · rw [pd, PyData.hasDict, b2]
  · rw [pd, PyData.depth]
    omega
  · rw [pd, PyData.shown]
    have := tupleText_len_le (PyData.shownAll (pdL ts))
    rw [shownAll_len] at this
    omega
mutual
def lfT : Td → Prop
  | .non => True
  | .str z => z.length ≤ 500 ∧ ∀ c ∈ z.cps.toList, c < 200
  | .int i => i.natAbs < 10 ^ 500
  | .tup xs => lfL xs
def lfL : List Td → Prop
  | [] => True
  | x :: xs => lfT x ∧ lfL xs
end
theorem lfL_app : ∀ (a b : List Td), lfL (a ++ b) ↔ (lfL a ∧ lfL b)
  | [], b => by rw [List.nil_append, lfL, true_and]
  | x :: a, b => by rw [List.cons_append, lfL, lfL, lfL_app a b, and_assoc]
theorem wordsL_app : ∀ (a b : List Td), (wordsL (a ++ b)).length = (wordsL a).length + (wordsL b).length
  | [], b => by rw [List.nil_append, wordsL, List.length_nil, Nat.zero_add]
  | x :: a, b => by rw [List.cons_append, wordsL, wordsL, List.length_append, List.length_append, wordsL_app a b, Nat.add_assoc]
theorem big_log {i : Int} (h : i.natAbs < 10 ^ 500) : i.natAbs.log2 < 1920 := by
  have h2 : i.natAbs < 2 ^ 1700 := Nat.lt_trans h (by decide +kernel)
  rcases Nat.eq_zero_or_pos i.natAbs with e | e
  · rw [e]
    decide
  · exact Nat.lt_trans ((Nat.log2_lt (Nat.ne_of_gt e)).mpr h2) (by decide)
theorem istr_len {i : Int} (h : i.natAbs < 10 ^ 500) : (istr i).length ≤ 501 := by
  rcases istr_form i with ⟨n, rfl, e⟩ | ⟨n, rfl, e⟩
  · rw [Int.natAbs_natCast] at h
    have := digs_len 499 n h
    rw [← len_cps, e, List.length_map]
    omega
  · rw [Int.natAbs_neg, Int.natAbs_natCast] at h
    have := digs_len 499 (n + 1) h
    rw [← len_cps, e, List.length_cons, List.length_map]
    omega
mutual
theorem SRx_of : ∀ (t : Td), lfT t → SR t (depT t) (5100 * (wordsT t).length)
  | .non, _ => by
    rw [depT, wordsT]
    constructor
    · rw [pd, PyData.showable]
    · rw [pd, PyData.hasDict]
    · rw [pd, PyData.depth]
      exact Nat.le_refl _
    · rw [pd, PyData.shown]
      decide
    all_goals (intro _ z; cases z)
  | .str z, h => by
    rw [depT, wordsT]
    rw [lfT] at h
    constructor
    · rw [pd, PyData.showable]
    · rw [pd, PyData.hasDict]
    · rw [pd, PyData.depth]
      exact Nat.le_refl _
    · rw [pd, PyData.shown]
      have := StrLaws.reprText_len z fun c hc => Nat.lt_of_lt_of_le (h.2 c hc) (by decide)
      have := h.1
      show _ ≤ 5100 * 1
      omega
    all_goals (intro _ z; cases z)
  | .int i, h => by
    rw [depT, wordsT]
    rw [lfT] at h
    constructor
    · rw [pd, PyData.showable, decide_eq_true_eq]
      exact big_log h
    · rw [pd, PyData.hasDict]
    · rw [pd, PyData.depth]
      exact Nat.le_refl _
    · rw [pd, PyData.shown]
      have := istr_len h
      show (istr i).length + 2 ≤ 5100 * 1
      omega
    all_goals (intro _ z; cases z)
  | .tup xs, h => by
    rw [lfT] at h
    rw [depT, wordsT, List.length_cons, List.length_append]
    refine (SRL.tup (SRLx_of xs h)).mono (Nat.le_refl _) ?_
    show _ ≤ 5100 * ((wordsL xs).length + 1 + 1)
    omega
theorem SRLx_of : ∀ (ts : List Td), lfL ts → SRL ts (depL ts) (5100 * (wordsL ts).length)
  | [], _ => by
    rw [depL, wordsL]
    exact SRL.nil
  | x :: xs, h => by
    rw [lfL] at h
    rw [depL, wordsL, List.length_append, Nat.mul_add]
    exact SRL.cons ((SRx_of x h.1).mono (Nat.le_max_left _ _) (Nat.le_refl _)) ((SRLx_of xs h.2).mono (Nat.le_max_right _ _) (Nat.le_refl _))
end
mutual
theorem dep_words : ∀ t : Td, 2 * depT t ≤ (wordsT t).length
  | .non => by
    rw [depT]
    · exact Nat.zero_le _
    all_goals (intro _ z; cases z)
  | .str _ => by
    rw [depT]
    · exact Nat.zero_le _
    all_goals (intro _ z; cases z)
  | .int _ => by
    rw [depT]
    · exact Nat.zero_le _
    all_goals (intro _ z; cases z)
  | .tup xs => by
    rw [depT, wordsT, List.length_cons, List.length_append]
    have := dep_wordsL xs
    show 2 * (depL xs + 1) ≤ (wordsL xs).length + 1 + 1
    omega
theorem dep_wordsL : ∀ ts : List Td, 2 * depL ts ≤ (wordsL ts).length
  | [] => by rw [depL]; exact Nat.zero_le _
  | x :: xs => by
    rw [depL, wordsL, List.length_append]
    have h1 := dep_words x
    have h2 := dep_wordsL xs
    rcases Nat.le_total (depT x) (depL xs) with h | h
    · rw [Nat.max_eq_right h]; omega
    · rw [Nat.max_eq_left h]; omega
end
/-! what is read is small -/
structure SmW (w : Str) : Prop where
  len : w.length ≤ 500
  sg : ∀ c ∈ w.cps.toList, c < 200
theorem num_small {w : Str} {n : Int} (h : isNumW w = true) (hl : w.length ≤ 500) (e : PySem.intText? w = some n) : n.natAbs < 10 ^ 500 := by
  unfold isNumW at h
  rw [Bool.and_eq_true, Bool.and_eq_true, decide_eq_true_eq, List.all_eq_true] at h
  obtain ⟨⟨⟨h1, h2⟩, h3⟩, _⟩ := h
  have hd : NumText.AllDigits (figW w).cps.toList := fun c hc => (dig_iff c).mp (h3 c hc)
  have hn : (figW w).cps.toList ≠ [] := fun z => by
    rw [← len_cps, z] at h1
    exact absurd h1 (by decide)
  have hv := dval_lt _ hd
  rw [len_cps] at hv
  have hp : 10 ^ (figW w).length ≤ 10 ^ 500 := Nat.pow_le_pow_right (by decide) (Nat.le_trans (figW_len w) hl)
  have hv2 : NumText.digitsVal (figW w).cps.toList < 10 ^ 500 := Nat.lt_of_lt_of_le hv hp
  by_cases hh : w.cps.toList.head? = some 45
  · obtain ⟨r, er⟩ : ∃ r, w.cps.toList = 45 :: r := by
      cases e : w.cps.toList with
      | nil => rw [e] at hh; cases hh
      | cons c r => rw [e] at hh; cases hh; exact ⟨r, rfl⟩
    have ef : (figW w).cps.toList = r := by
      unfold figW
      rw [if_pos hh]
      exact cut1 er
    rw [ef] at hd hn hv2
    rw [PySem.intText_neg er hd hn (by omega)] at e
    cases e
    rw [Int.natAbs_neg, Int.natAbs_natCast]
    exact hv2
  · have ef : figW w = w := by
      unfold figW
      rw [if_neg hh]
    rw [ef] at hd hn hv2
    rw [PySem.intText_digits hd hn (by omega)] at e
    cases e
    rw [Int.natAbs_natCast]
    exact hv2
theorem rd_small {w : Str} {t : Td} (hw : SmW w) (h : rdW w = some t) : lfT t ∧ (wordsT t).length = 1 := by
  unfold rdW at h
  by_cases h1 : w = "none"
  · rw [if_pos h1] at h
    cases h
    exact ⟨True.intro, rfl⟩
  · rw [if_neg h1] at h
    cases h2 : isTxtW w with
    | true =>
      rw [h2, if_pos rfl] at h
      cases h
      refine ⟨⟨Nat.le_trans (cutS_length w _ _) hw.len, fun c hc => ?_⟩, rfl⟩
      rw [show (some (1 : Int)) = some ((1 : Nat) : Int) from rfl, cut_from] at hc
      exact hw.sg c (List.mem_of_mem_drop hc)
    | false =>
      rw [h2, if_neg (by decide)] at h
      cases h3 : isNumW w with
      | false => rw [h3, if_neg (by decide)] at h; cases h
      | true =>
        obtain ⟨m, e1, _⟩ := num_text h3
        rw [h3, if_pos rfl, e1] at h
        cases h
        exact ⟨num_small h3 hw.len e1, rfl⟩
def wS : List (List Td) → Nat
  | [] => 0
  | a :: s => (wordsL a).length + wS s
def lfS : List (List Td) → Prop
  | [] => True
  | a :: s => lfL a ∧ lfS s
theorem step_small {s s' : List (List Td)} {w : Str} (hw : SmW w) (h : stepP s w = some s') (hl : lfS s) : lfS s' ∧ wS s' ≤ wS s + 2 := by
  unfold stepP at h
  by_cases ok : okS s = true
  · rw [if_pos ok] at h
    by_cases ho : w = "("
    · rw [if_pos ho] at h
      cases h
      exact ⟨⟨True.intro, hl⟩, by rw [wS, wordsL, List.length_nil]; omega⟩
    · rw [if_neg ho] at h
      by_cases hc : w = ")"
      · rw [if_pos hc] at h
        match s, h, hl with
        | a :: b :: r, h, hl =>
          cases h
          obtain ⟨la, lb, lr⟩ := hl
          refine ⟨⟨(lfL_app _ _).mpr ⟨lb, la, True.intro⟩, lr⟩, ?_⟩
          have e : (wordsL [Td.tup a]).length = (wordsL a).length + 2 := by
            rw [wordsL, wordsL, List.append_nil, wordsT, List.length_cons, List.length_append]
            rfl
          rw [wS, wS, wS, wordsL_app, e]
          omega
        | [], h, _ => cases h
        | [_], h, _ => cases h
      · rw [if_neg hc] at h
        match s, h, hl with
        | [], h, _ => cases h
        | a :: r, h, hl =>
          obtain ⟨t, ht, e⟩ := map_inv h
          cases e
          obtain ⟨l1, l2⟩ := rd_small hw ht
          have e : (wordsL [t]).length = 1 := by
            rw [wordsL, wordsL, List.append_nil]
            exact l2
          refine ⟨⟨(lfL_app _ _).mpr ⟨hl.1, l1, True.intro⟩, hl.2⟩, ?_⟩
          rw [wS, wS, wordsL_app, e]
          omega
  · rw [if_neg ok] at h
    cases h
theorem goP_small : ∀ (ws : List Str) {s s' : List (List Td)} {i : Nat}, (∀ w ∈ ws, SmW w) → lfS s → goP ws s i = .inl s' → lfS s' ∧ wS s' ≤ wS s + 2 * ws.length
  | [], _, _, _, _, hl, h => by cases h; exact ⟨hl, Nat.le_refl _⟩
  | w :: ws, s, s', i, hw, hl, h => by
    rw [goP] at h
    cases hs : stepP s w with
    | none => rw [hs] at h; cases h
    | some s2 =>
      rw [hs] at h
      obtain ⟨a1, a2⟩ := step_small (hw w List.mem_cons_self) hs hl
      obtain ⟨b1, b2⟩ := goP_small ws (fun x hx => hw x (List.mem_cons_of_mem _ hx)) a1 h
      refine ⟨b1, ?_⟩
      rw [List.length_cons]
      omega
theorem line_small {z : Str} {t : Td} (hw : ∀ w ∈ Txt.split z " ", SmW w) (h : rdLine z = .inl t) : lfT t ∧ (wordsT t).length ≤ 2 * (Txt.split z " ").length := by
  unfold rdLine at h
  cases e : goP (Txt.split z " ") [[]] 0 with
  | inr k => rw [e] at h; cases h
  | inl s =>
    rw [e] at h
    dsimp only at h
    obtain ⟨a1, a2⟩ := goP_small _ (s := [[]]) hw ⟨True.intro, True.intro⟩ e
    by_cases h1 : 1 < s.length
    · rw [if_pos h1] at h; cases h
    · rw [if_neg h1] at h
      match s, h1, a1, a2, h with
      | [], _, _, _, h => cases h
      | [[]], _, _, _, h => cases h
      | _ :: _ :: _, h1, _, _, _ => exact absurd (by simp) h1
      | [t' :: r], _, a1, a2, h =>
        cases h
        obtain ⟨⟨b1, b2⟩, _⟩ := a1
        refine ⟨b1, ?_⟩
        rw [wS, wordsL, List.length_append] at a2
        have : wS [[]] = 0 := rfl
        omega
end K68

namespace K68
open PySem PySem.Spec PyProof.Rows L2 Kit DL
/-! ### what is heard, what is right -/
mutual
theorem py_dT : ∀ t : Td, py (dT t) = some (pd t)
  | .non => by rw [dT, py, pd]
  | .str z => by rw [dT, py, pd]
  | .int i => by rw [dT, py, pd]
  | .tup xs => by
    rw [dT, py, pyL_dT xs, pd]
    rfl
theorem pyL_dT : ∀ ts : List Td, pyL (dTL ts) = some (pdL ts)
  | [] => by rw [dTL, pyL, pdL]
  | x :: xs => by
    rw [dTL, pyL, py_dT x, pyL_dT xs, pdL]
    rfl
end
def Rok (d : D) : Prop := ∃ sh : Str, ∀ (Q : D → Mu → Prop) (E : Exn → Mu → Prop) (μ : Mu), (c1 X21.gReprL [d]).run Q E μ = Q (.str sh) μ
theorem rok_long {n : Int} {z : Str} (h1 : n.natAbs < 10 ^ 4300) (h2 : (PyData.tuple [.str z, .int n]).shown.length ≤ sizeLine) : Rok (.tup [.str z, .int n]) := by
  refine ⟨(PyData.tuple [.str z, .int n]).shown, fun Q E μ => ?_⟩
  simp only [defW, sSeq, sIf, sSet, sRet, sRetN, sExpr, sPar, two, sFor, sRaise, dB, dOp, dUn, dV, dC, dIfE, dM1, dJoin.isS, dSl, dPart, dNoPart, dNot, dAnd, dOr, dNotV, dOrV, dAndV, dChain, dCall, dOwn, dTup, dLst, dLstM, dMet, isL, aCons, aNil, dTru, slot, startD, iOf, its, itsOf, itm, run_bnd, run_ret, run_fail, run_chk, run_rd, run_wr, run_any, run_nox, run_exn, run_tag, see, look, lookM, W.opt, s1, s2, c1, c2, asB, List.map, List.replicate, List.append_eq, List.cons_append, List.nil_append, List.set, andThen, endF, sNil, wipeD, dTrue, X21.gReprL, X21.twoL, h1, h2, true_and, and_self]
theorem rok_tup {xs : List Td} {L : Nat} (h : SR (.tup xs) 150 L) (hl : L ≤ 16000000) (hi : ∀ z n, xs = [.str z, .int n] → n.natAbs < 10 ^ 4300) : Rok (dT (.tup xs)) := by
  have e1 := py_dT (.tup xs)
  have big : 16000000 ≤ sizeLine := by decide
  have hln : (pd (.tup xs)).shown.length ≤ sizeLine := by have := h.ln; omega
  refine ⟨(pd (.tup xs)).shown, fun Q E μ => ?_⟩
  have hd : dT (.tup xs) = .tup (dTL xs) := by rw [dT]
  rw [hd] at e1 ⊢
  simp only [defW, sSeq, sIf, sSet, sRet, sRetN, sExpr, sPar, two, sFor, sRaise, dB, dOp, dUn, dV, dC, dIfE, dM1, dJoin.isS, dSl, dPart, dNoPart, dNot, dAnd, dOr, dNotV, dOrV, dAndV, dChain, dCall, dOwn, dTup, dLst, dLstM, dMet, isL, aCons, aNil, dTru, slot, startD, iOf, its, itsOf, itm, run_bnd, run_ret, run_fail, run_chk, run_rd, run_wr, run_any, run_nox, run_exn, run_tag, see, look, lookM, W.opt, s1, s2, c1, c2, asB, List.map, List.replicate, List.append_eq, List.cons_append, List.nil_append, List.set, andThen, endF, sNil, wipeD, dTrue, X21.gReprL]
  cases ht : X21.twoL (.tup (dTL xs)) with
  | none =>
    simp only [gRepr, isSeq, pyW, e1, defW, sSeq, sIf, sSet, sRet, sRetN, sExpr, sPar, two, sFor, sRaise, dB, dOp, dUn, dV, dC, dIfE, dM1, dJoin.isS, dSl, dPart, dNoPart, dNot, dAnd, dOr, dNotV, dOrV, dAndV, dChain, dCall, dOwn, dTup, dLst, dLstM, dMet, isL, aCons, aNil, dTru, slot, startD, iOf, its, itsOf, itm, run_bnd, run_ret, run_fail, run_chk, run_rd, run_wr, run_any, run_nox, run_exn, run_tag, see, look, lookM, W.opt, s1, s2, c1, c2, asB, List.map, List.replicate, List.append_eq, List.cons_append, List.nil_append, List.set, andThen, endF, sNil, wipeD, dTrue, h.sh, h.dp, hln, true_and, and_self]
  | some p =>
    obtain ⟨z, n⟩ := p
    have e := X21.twoL_eq ht
    obtain rfl : xs = [.str z, .int n] := by
      have e := D.tup.inj e
      match xs, e with
      | [], e => cases e
      | [x], e => exact absurd (congrArg List.length e) (by simp [dTL_len])
      | x :: y :: v :: r, e => exact absurd (congrArg List.length e) (by simp [dTL_len])
      | [x, y], e =>
        rw [dTL, dTL, dTL] at e
        obtain ⟨a1, a2⟩ := List.cons.inj e
        obtain ⟨a2, _⟩ := List.cons.inj a2
        cases x <;> rw [dT] at a1 <;> first | (cases a1; done) | skip
        cases y <;> rw [dT] at a2 <;> first | (cases a2; done) | skip
        cases a1
        cases a2
        rfl
    have hn := hi z n rfl
    have ep : pd (.tup [.str z, .int n]) = PyData.tuple [.str z, .int n] := by rw [pd, pdL, pdL, pdL, pd, pd]
    rw [ep] at hln ⊢
    simp only [defW, sSeq, sIf, sSet, sRet, sRetN, sExpr, sPar, two, sFor, sRaise, dB, dOp, dUn, dV, dC, dIfE, dM1, dJoin.isS, dSl, dPart, dNoPart, dNot, dAnd, dOr, dNotV, dOrV, dAndV, dChain, dCall, dOwn, dTup, dLst, dLstM, dMet, isL, aCons, aNil, dTru, slot, startD, iOf, its, itsOf, itm, run_bnd, run_ret, run_fail, run_chk, run_rd, run_wr, run_any, run_nox, run_exn, run_tag, see, look, lookM, W.opt, s1, s2, c1, c2, asB, List.map, List.replicate, List.append_eq, List.cons_append, List.nil_append, List.set, andThen, endF, sNil, wipeD, dTrue, hn, hln, true_and, and_self]
theorem rok_small {t : Td} {n : Nat} (h : lfT t) (hn : (wordsT t).length ≤ n) (hl : n ≤ 280) : Rok (dT (.tup [.str "thing", t])) := by
  have h1 : lfT (.str "thing") := ⟨by decide +kernel, by decide +kernel⟩
  have S1 : SR (.str "thing") 149 5100 := (SRx_of _ h1).mono (by rw [depT]; exact Nat.zero_le _; intro _ z; cases z) (by rw [wordsT]; exact Nat.le_refl _)
  have S2 : SR t 149 (5100 * 280) := (SRx_of t h).mono (by have := dep_words t; omega) (Nat.mul_le_mul_left _ (by omega))
  refine rok_tup (L := 5100 + (5100 * 280 + 0) + 5) (SRL.tup (SRL.cons S1 (SRL.cons S2 SRL.nil))) (by decide) fun z n e => ?_
  obtain ⟨_, e⟩ := List.cons.inj e
  obtain ⟨e, _⟩ := List.cons.inj e
  subst e
  rw [lfT] at h
  exact Nat.lt_of_lt_of_le h (Nat.pow_le_pow_right (by decide) (by decide))
theorem rok_place {k : Nat} (hk : k ≤ 1000000) : Rok (.tup [.str "place", .tup [.int 0, .int k]]) := by
  have h1 : lfT (.str "place") := ⟨by decide +kernel, by decide +kernel⟩
  have h2 : lfT (.int 0) := by rw [lfT]; exact Nat.pow_pos (by decide)
  have h3 : lfT (.int k) := by
    rw [lfT, Int.natAbs_natCast]
    exact Nat.lt_of_le_of_lt hk (Nat.lt_of_lt_of_le (show 1000000 < 10 ^ 7 by decide) (Nat.pow_le_pow_right (by decide) (by decide)))
  have h4 : lfT (.tup [.str "place", .tup [.int 0, .int k]]) := by
    refine ⟨h1, ⟨h2, h3, True.intro⟩, True.intro⟩
  have S := SRx_of _ h4
  have hw : (wordsT (.tup [.str "place", .tup [.int 0, .int k]])).length = 7 := rfl
  have hd := dep_words (.tup [.str "place", .tup [.int 0, .int k]])
  rw [hw] at S hd
  have := rok_tup (S.mono (n := _) (m := 150) (by omega) (Nat.le_refl _)) (by decide) fun z n e => by
    obtain ⟨_, e⟩ := List.cons.inj e
    obtain ⟨e, _⟩ := List.cons.inj e
    cases e
  simpa only [dT, dTL] using this
section
variable {c cW cN cP : Addr} {z : Str} {μ : Mu} {Q : D → Mu → Prop} {E : Exn → Mu → Prop}
theorem is_ve : is68 cW cN cP (.ty "ValueError") = some true := rfl
theorem is_ot : is68 cW cN cP (.tup [.adr cW, .adr cN, .adr cP]) = some false := by
  show (if cW = cW ∧ cN = cN ∧ cP = cP then some false else none) = _
  rw [if_pos ⟨rfl, rfl, rfl⟩]
theorem cat_c : catN c c = some true := if_pos rfl
theorem three_le : 3 ≤ sizeLine := by decide
theorem run_sTry {i : Nat} {cat : Addr → Option Bool} {fb : DS → W Fl} {fu : Addr → Exn → DS → W Fl} {ε : DS} {Q : Fl → Mu → Prop} : (sTry i cat fb fu ε).run Q E μ = (fb ε).run Q (catchW i cat fu Q E) μ := rfl
theorem run_heard (hz : LineOk z) (wk : WordsOk (Txt.split z " ")) (q1 : ∀ t, rdLine z = .inl t → ∀ μ', Ov μ μ' → Q (.tup [.str "thing", dT t]) μ') (q2 : ∀ k : Nat, rdLine z = .inr k → ∀ μ', Ov μ μ' → Q (.tup [.str "place", .tup [.int 0, .int k]]) μ') :
    (F_l_heard c cW cN cP [.str z]).run Q E μ := by
  simp only [F_l_heard, B_l_heard, defW, sSeq, sIf, sSet, sRet, sRetN, sExpr, sPar, two, sFor, sRaise, dB, dOp, dUn, dV, dC, dIfE, dM1, dJoin.isS, dSl, dPart, dNoPart, dNot, dAnd, dOr, dNotV, dOrV, dAndV, dChain, dCall, dOwn, dTup, dLst, dLstM, dMet, isL, aCons, aNil, dTru, slot, startD, iOf, its, itsOf, itm, run_bnd, run_ret, run_fail, run_chk, run_rd, run_wr, run_any, run_nox, run_exn, run_tag, see, look, lookM, W.opt, s1, s2, c1, c2, asB, List.map, List.replicate, List.append_eq, List.cons_append, List.nil_append, List.set, andThen, endF, sNil, wipeD, dTrue, List.length_cons, List.length_nil, Nat.zero_add, Nat.reduceAdd, two_le, true_and, run_sTry]
  refine run_thing hz wk (fun t ht μ' ov => ?_) (fun k hk μ' sl ov => ?_)
  · exact q1 t ht μ' ov
  · refine .inl ⟨cat_c, fun a => ?_⟩
    simp only [exP, defW, sSeq, sIf, sSet, sRet, sRetN, sExpr, sPar, two, sFor, sRaise, dB, dOp, dUn, dV, dC, dIfE, dM1, dJoin.isS, dSl, dPart, dNoPart, dNot, dAnd, dOr, dNotV, dOrV, dAndV, dChain, dCall, dOwn, dTup, dLst, dLstM, dMet, isL, aCons, aNil, dTru, slot, startD, iOf, its, itsOf, itm, run_bnd, run_ret, run_fail, run_chk, run_rd, run_wr, run_any, run_nox, run_exn, run_tag, see, look, lookM, W.opt, s1, s2, c1, c2, asB, List.map, List.replicate, List.append_eq, List.cons_append, List.nil_append, List.set, andThen, endF, sNil, wipeD, dTrue, gIsE, is_ve, is_ot, true_and, if_true, Bool.not_false, List.length_cons, List.length_nil, Nat.zero_add, Nat.reduceAdd, three_le, two_le, dXf, List.lookup_cons_self, unset]
    exact q2 k hk μ' ov
theorem goP_le : ∀ (ws : List Str) {s : List (List Td)} {i k : Nat}, goP ws s i = .inr k → k ≤ i + ws.length
  | [], _, _, _, h => by cases h
  | w :: ws, s, i, k, h => by
    rw [goP] at h
    cases hs : stepP s w with
    | none => rw [hs] at h; cases h; omega
    | some s2 =>
      rw [hs] at h
      have := goP_le ws h
      rw [List.length_cons]
      omega
theorem rdLine_le {k : Nat} (h : rdLine z = .inr k) : k ≤ (Txt.split z " ").length := by
  unfold rdLine at h
  cases e : goP (Txt.split z " ") [[]] 0 with
  | inr j =>
    rw [e] at h
    cases h
    have := goP_le _ e
    omega
  | inl s =>
    rw [e] at h
    dsimp only at h
    by_cases h1 : 1 < s.length
    · rw [if_pos h1] at h
      cases h
      exact Nat.le_refl _
    · rw [if_neg h1] at h
      match s, h1, h with
      | [], _, h => cases h; exact Nat.zero_le _
      | [[]], _, h => cases h; exact Nat.zero_le _
      | _ :: _ :: _, h1, _ => exact absurd (by simp) h1
      | [_ :: _], _, h => cases h
theorem run_right (hz : LineOk z) (wk : WordsOk (Txt.split z " ")) (hr : ∀ t, rdLine z = .inl t → Rok (.tup [.str "thing", dT t])) (q : ∀ μ', Ov μ μ' → Q (.bl true) μ') :
    (F_l_right c cW cN cP [.str z]).run Q E μ := by
  have l1 : ([D.str z] : List D).length = 1 := rfl
  simp only [F_l_right, B_l_right, defW, sSeq, sIf, sSet, sRet, sRetN, sExpr, sPar, two, sFor, sRaise, dB, dOp, dUn, dV, dC, dIfE, dM1, dJoin.isS, dSl, dPart, dNoPart, dNot, dAnd, dOr, dNotV, dOrV, dAndV, dChain, dCall, dOwn, dTup, dLst, dLstM, dMet, isL, aCons, aNil, dTru, slot, startD, iOf, its, itsOf, itm, run_bnd, run_ret, run_fail, run_chk, run_rd, run_wr, run_any, run_nox, run_exn, run_tag, see, look, lookM, W.opt, s1, s2, c2, asB, List.map, List.replicate, List.append_eq, List.cons_append, List.nil_append, List.set, andThen, endF, sNil, wipeD, dTrue, l1, true_and]
  refine run_lread hz wk (fun t ht μ' ov => ?_) (fun k hk μ' ov => ?_)
  · obtain ⟨sh, hs⟩ := hr t ht
    have at0 : L2.atI [D.str "thing", dT t] 0 = some (.str "thing") := atI_nat (j := 0) rfl
    have ne : decide (("thing" : Str) = "place") = false := by decide +kernel
    simp only [defW, sSeq, sIf, sSet, sRet, sRetN, sExpr, sPar, two, sFor, sRaise, dB, dOp, dUn, dV, dC, dIfE, dM1, dJoin.isS, dSl, dPart, dNoPart, dNot, dAnd, dOr, dNotV, dOrV, dAndV, dChain, dCall, dOwn, dTup, dLst, dLstM, dMet, isL, aCons, aNil, dTru, slot, startD, iOf, its, itsOf, itm, run_bnd, run_ret, run_fail, run_chk, run_rd, run_wr, run_any, run_nox, run_exn, run_tag, see, look, lookM, W.opt, s1, s2, c2, asB, List.map, List.replicate, List.append_eq, List.cons_append, List.nil_append, List.set, andThen, endF, sNil, wipeD, dTrue, gIx, at0, gE2, ne, Bool.false_eq_true, if_false, l1, true_and]
    refine run_heard hz wk (fun t2 ht2 μ2 ov2 => ?_) (fun k hk => ?_)
    · obtain rfl : t = t2 := Sum.inl.inj (ht.symm.trans ht2)
      rw [hs]
      simp only [defW, sSeq, sIf, sSet, sRet, sRetN, sExpr, sPar, two, sFor, sRaise, dB, dOp, dUn, dV, dC, dIfE, dM1, dJoin.isS, dSl, dPart, dNoPart, dNot, dAnd, dOr, dNotV, dOrV, dAndV, dChain, dCall, dOwn, dTup, dLst, dLstM, dMet, isL, aCons, aNil, dTru, slot, startD, iOf, its, itsOf, itm, run_bnd, run_ret, run_fail, run_chk, run_rd, run_wr, run_any, run_nox, run_exn, run_tag, see, look, lookM, W.opt, s1, s2, c2, asB, List.map, List.replicate, List.append_eq, List.cons_append, List.nil_append, List.set, andThen, endF, sNil, wipeD, dTrue]
      rw [hs]
      simp only [defW, sSeq, sIf, sSet, sRet, sRetN, sExpr, sPar, two, sFor, sRaise, dB, dOp, dUn, dV, dC, dIfE, dM1, dJoin.isS, dSl, dPart, dNoPart, dNot, dAnd, dOr, dNotV, dOrV, dAndV, dChain, dCall, dOwn, dTup, dLst, dLstM, dMet, isL, aCons, aNil, dTru, slot, startD, iOf, its, itsOf, itm, run_bnd, run_ret, run_fail, run_chk, run_rd, run_wr, run_any, run_nox, run_exn, run_tag, see, look, lookM, W.opt, s1, s2, c2, asB, List.map, List.replicate, List.append_eq, List.cons_append, List.nil_append, List.set, andThen, endF, sNil, wipeD, dTrue, gE2, decide_true, Bool.false_eq_true, if_false]
      exact q _ (by obtain ⟨m, rfl⟩ := ov; obtain ⟨m2, rfl⟩ := ov2; exact ⟨m ++ m2, by rw [List.append_assoc]⟩)
    · rw [ht] at hk
      cases hk
  · have hk2 := rdLine_le hk
    have := wk.len
    obtain ⟨sh, hs⟩ := rok_place (k := k) (by omega)
    have at0 : L2.atI [D.str "place", D.int (k : Int)] 0 = some (.str "place") := atI_nat (j := 0) rfl
    have at1 : L2.atI [D.str "place", D.int (k : Int)] 1 = some (.int k) := atI_nat (j := 1) rfl
    simp only [defW, sSeq, sIf, sSet, sRet, sRetN, sExpr, sPar, two, sFor, sRaise, dB, dOp, dUn, dV, dC, dIfE, dM1, dJoin.isS, dSl, dPart, dNoPart, dNot, dAnd, dOr, dNotV, dOrV, dAndV, dChain, dCall, dOwn, dTup, dLst, dLstM, dMet, isL, aCons, aNil, dTru, slot, startD, iOf, its, itsOf, itm, run_bnd, run_ret, run_fail, run_chk, run_rd, run_wr, run_any, run_nox, run_exn, run_tag, see, look, lookM, W.opt, s1, s2, c2, asB, List.map, List.replicate, List.append_eq, List.cons_append, List.nil_append, List.set, andThen, endF, sNil, wipeD, dTrue, gIx, at0, at1, gE2, decide_true, Bool.false_eq_true, if_false, if_true, l1, true_and, List.length_cons, List.length_nil, Nat.zero_add, Nat.reduceAdd, two_le]
    refine run_heard hz wk (fun t2 ht2 => ?_) (fun k2 hk2 μ2 ov2 => ?_)
    · rw [hk] at ht2
      cases ht2
    · obtain rfl : k = k2 := Sum.inr.inj (hk.symm.trans hk2)
      rw [hs]
      simp only [defW, sSeq, sIf, sSet, sRet, sRetN, sExpr, sPar, two, sFor, sRaise, dB, dOp, dUn, dV, dC, dIfE, dM1, dJoin.isS, dSl, dPart, dNoPart, dNot, dAnd, dOr, dNotV, dOrV, dAndV, dChain, dCall, dOwn, dTup, dLst, dLstM, dMet, isL, aCons, aNil, dTru, slot, startD, iOf, its, itsOf, itm, run_bnd, run_ret, run_fail, run_chk, run_rd, run_wr, run_any, run_nox, run_exn, run_tag, see, look, lookM, W.opt, s1, s2, c2, asB, List.map, List.replicate, List.append_eq, List.cons_append, List.nil_append, List.set, andThen, endF, sNil, wipeD, dTrue]
      rw [hs]
      simp only [defW, sSeq, sIf, sSet, sRet, sRetN, sExpr, sPar, two, sFor, sRaise, dB, dOp, dUn, dV, dC, dIfE, dM1, dJoin.isS, dSl, dPart, dNoPart, dNot, dAnd, dOr, dNotV, dOrV, dAndV, dChain, dCall, dOwn, dTup, dLst, dLstM, dMet, isL, aCons, aNil, dTru, slot, startD, iOf, its, itsOf, itm, run_bnd, run_ret, run_fail, run_chk, run_rd, run_wr, run_any, run_nox, run_exn, run_tag, see, look, lookM, W.opt, s1, s2, c2, asB, List.map, List.replicate, List.append_eq, List.cons_append, List.nil_append, List.set, andThen, endF, sNil, wipeD, dTrue, gE2, decide_true, Bool.false_eq_true, if_false]
      exact q _ (by obtain ⟨m, rfl⟩ := ov; obtain ⟨m2, rfl⟩ := ov2; exact ⟨m ++ m2, by rw [List.append_assoc]⟩)
end
end K68

namespace K68
open PySem PySem.Spec PyProof.Rows L2 Kit DL
/-! ### lines as signs -/
def spW : List Nat → List (List Nat)
  | [] => [[]]
  | c :: l => if c = 32 then [] :: spW l else match spW l with
    | h :: t => (c :: h) :: t
    | [] => [[c]]
theorem spW_ne (l : List Nat) : spW l ≠ [] := by
  cases l with
  | nil => simp [spW]
  | cons c l =>
    rw [spW]
    split
    · simp
    · split <;> simp
theorem spW_all : ∀ l : List Nat, TL.joinL [32] (spW l) = l ∧ (∀ p ∈ spW l, 32 ∉ p) ∧ (spW l).length = l.count 32 + 1 ∧ ∀ p ∈ spW l, ∃ a b, l = a ++ p ++ b
  | [] => ⟨rfl, fun p hp => by rw [List.mem_singleton.mp hp]; simp, rfl, fun p hp => ⟨[], [], by rw [List.mem_singleton.mp hp]; rfl⟩⟩
  | c :: l => by
    obtain ⟨h1, h2, h3, h4⟩ := spW_all l
    by_cases hc : c = 32
    · subst hc
      have e : spW (32 :: l) = [] :: spW l := by rw [spW, if_pos rfl]
      rw [e]
      refine ⟨?_, fun p hp => ?_, ?_, fun p hp => ?_⟩
      · cases hs : spW l with
        | nil => exact absurd hs (spW_ne l)
        | cons h t =>
          rw [hs] at h1
          show [] ++ ([32] ++ TL.joinL [32] (h :: t)) = _
          rw [h1]
          rfl
      · rcases List.mem_cons.mp hp with e | e
        · rw [e]; simp
        · exact h2 p e
      · rw [List.length_cons, h3, List.count_cons_self]
      · rcases List.mem_cons.mp hp with e | e
        · exact ⟨[], 32 :: l, by rw [e]; rfl⟩
        · obtain ⟨a, b, e2⟩ := h4 p e
          exact ⟨32 :: a, b, by rw [List.cons_append, List.cons_append, ← e2]⟩
    · cases hs : spW l with
      | nil => exact absurd hs (spW_ne l)
      | cons h t =>
        have e : spW (c :: l) = (c :: h) :: t := by rw [spW, if_neg hc, hs]
        rw [hs] at h1 h2 h3 h4
        rw [e]
        refine ⟨?_, fun p hp => ?_, ?_, fun p hp => ?_⟩
        · cases t with
          | nil =>
            have h1 : h = l := h1
            show c :: h = c :: l
            rw [h1]
          | cons q r =>
            have h1 : h ++ ([32] ++ TL.joinL [32] (q :: r)) = l := h1
            show (c :: h) ++ ([32] ++ TL.joinL [32] (q :: r)) = c :: l
            rw [List.cons_append, h1]
        · rcases List.mem_cons.mp hp with e | e
          · rw [e]
            intro z
            rcases List.mem_cons.mp z with z | z
            · exact hc z.symm
            · exact h2 h List.mem_cons_self z
          · exact h2 p (List.mem_cons_of_mem _ e)
        · rw [List.length_cons] at h3 ⊢
          rw [h3, List.count_cons_of_ne hc]
        · rcases List.mem_cons.mp hp with ep | ep
          · -- the first
            cases t with
            | nil =>
              have h1 : h = l := h1
              exact ⟨[], [], by rw [ep, h1, List.append_nil]; rfl⟩
            | cons q r =>
              have h1 : h ++ ([32] ++ TL.joinL [32] (q :: r)) = l := h1
              exact ⟨[], [32] ++ TL.joinL [32] (q :: r), by rw [ep, List.nil_append, List.cons_append, h1]⟩
          · obtain ⟨a, b, e2⟩ := h4 p (List.mem_cons_of_mem _ ep)
            exact ⟨c :: a, b, by rw [List.cons_append, List.cons_append, ← e2]⟩
def mkS (p : List Nat) : Str := ⟨p.toArray⟩
theorem mkS_cps (p : List Nat) : (mkS p).cps.toList = p := rfl
theorem split_eq (z : Str) : Txt.split z " " = (spW z.cps.toList).map mkS := by
  obtain ⟨h1, h2, _, _⟩ := spW_all z.cps.toList
  have e : z = Txt.join " " ((spW z.cps.toList).map mkS) := by
    refine str_ext ?_
    rw [TL.join_eq]
    refine Eq.trans ?_ (TL.tl_join " " _).symm
    rw [List.map_map, show (TL.tl ∘ mkS) = id from rfl, List.map_id, show TL.tl (" " : Str) = [32] from by decide +kernel]
    exact h1.symm
  have k := TL.split_join (y := " ") (s := 32) (S := []) (by decide +kernel) (by decide +kernel) (parts := (spW z.cps.toList).map mkS) (by simpa using spW_ne _) fun p hp hc => by
    obtain ⟨q, hq, rfl⟩ := List.mem_map.mp hp
    exact h2 q hq hc
  rw [← e] at k
  exact k
/-- no longer piece without a blank than M -/
def RunLe (M : Nat) (l : List Nat) : Prop := ∀ a m b, l = a ++ m ++ b → 32 ∉ m → m.length ≤ M
theorem RunLe.sub {M : Nat} {l x y z : List Nat} (h : RunLe M l) (e : l = x ++ y ++ z) : RunLe M y := fun a m b e2 hm => h (x ++ a) m (b ++ z) (by rw [e, e2]; simp [List.append_assoc]) hm
theorem RunLe.mono {M N : Nat} {l : List Nat} (h : RunLe M l) (hn : M ≤ N) : RunLe N l := fun a m b e hm => Nat.le_trans (h a m b e hm) hn
theorem app_split {α : Type} {x y a m b : List α} (e : x ++ y = a ++ m ++ b) : ∃ m1 m2, m = m1 ++ m2 ∧ (∃ a1 b1, x = a1 ++ m1 ++ b1) ∧ ∃ a2 b2, y = a2 ++ m2 ++ b2 ∧ (m1 = [] ∨ m2 = [] ∨ a2 = []) := by
  rw [List.append_assoc] at e
  rcases List.append_eq_append_iff.mp e with ⟨u, h1, h2⟩ | ⟨u, h1, h2⟩
  · exact ⟨[], m, rfl, ⟨x, [], by simp⟩, u, b, by rw [h2, List.append_assoc], .inl rfl⟩
  · rcases List.append_eq_append_iff.mp h2 with ⟨v, k1, k2⟩ | ⟨v, k1, k2⟩
    · exact ⟨m, [], by simp, ⟨a, v, by rw [h1, k1, List.append_assoc]⟩, [], y, by simp, .inr (.inl rfl)⟩
    · exact ⟨u, v, k1, ⟨a, [], by rw [h1]; simp⟩, [], b, by rw [k2]; simp, .inr (.inr rfl)⟩
theorem RunLe.app {M N : Nat} {x y : List Nat} (h : RunLe M x) (g : RunLe N y) : RunLe (M + N) (x ++ y) := fun a m b e hm => by
  obtain ⟨m1, m2, rfl, ⟨a1, b1, e1⟩, a2, b2, e2, d⟩ := app_split e
  have l1 := h a1 m1 b1 e1 fun z => hm (List.mem_append_left _ z)
  have l2 := g a2 m2 b2 e2 fun z => hm (List.mem_append_right _ z)
  rw [List.length_append]
  omega
/-- beside a blank -/
theorem RunLe.blank {M : Nat} {x y : List Nat} (h : RunLe M x) (g : RunLe M y) : RunLe M (x ++ (32 :: y)) := fun a m b e hm => by
  obtain ⟨m1, m2, rfl, ⟨a1, b1, e1⟩, a2, b2, e2, d⟩ := app_split e
  have l1 := h a1 m1 b1 e1 fun z => hm (List.mem_append_left _ z)
  have n2 : 32 ∉ m2 := fun z => hm (List.mem_append_right _ z)
  have head : a2 = [] → m2 = [] := fun ea => by
    subst ea
    cases m2 with
    | nil => rfl
    | cons c r =>
      have := (List.cons.inj e2).1
      subst this
      exact absurd List.mem_cons_self n2
  rcases d with d | d | d
  · subst d
    cases a2 with
    | nil =>
      rw [head rfl]
      exact Nat.zero_le _
    | cons c r =>
      exact g r m2 b2 (List.cons.inj e2).2 n2
  · subst d
    rw [List.append_nil]
    exact l1
  · rw [head d, List.append_nil]
    exact l1
/-- a line's sizes -/
structure LP (l : List Nat) (L n M : Nat) : Prop where
  len : l.length ≤ L
  cnt : l.count 32 ≤ n
  run : RunLe M l
  sg : ∀ c ∈ l, c = 10 ∨ (32 ≤ c ∧ c ≤ 126)
theorem LP.mono {l : List Nat} {L n M L' n' M' : Nat} (h : LP l L n M) (h1 : L ≤ L') (h2 : n ≤ n') (h3 : M ≤ M') : LP l L' n' M' := ⟨Nat.le_trans h.len h1, Nat.le_trans h.cnt h2, h.run.mono h3, h.sg⟩
theorem LP.app {x y : List Nat} {L n M L' n' M' : Nat} (h : LP x L n M) (g : LP y L' n' M') : LP (x ++ y) (L + L') (n + n') (M + M') :=
  ⟨by rw [List.length_append]; have := h.len; have := g.len; omega, by rw [List.count_append]; have := h.cnt; have := g.cnt; omega, h.run.app g.run, fun c hc => (List.mem_append.mp hc).elim (h.sg c) (g.sg c)⟩
theorem LP.sub {l x y z : List Nat} {L n M : Nat} (h : LP l L n M) (e : l = x ++ y ++ z) : LP y L n M := by
  subst e
  refine ⟨?_, ?_, h.run.sub rfl, fun c hc => h.sg c (by simp [hc])⟩
  · have := h.len
    rw [List.length_append, List.length_append] at this
    omega
  · have := h.cnt
    rw [List.count_append, List.count_append] at this
    omega
theorem LP.split {z : Str} {L n M : Nat} (h : LP z.cps.toList L n M) : (Txt.split z " ").length ≤ n + 1 ∧ Txt.split z " " ≠ [] ∧ ∀ w ∈ Txt.split z " ", w.length ≤ M ∧ w.length ≤ L ∧ 32 ∉ w.cps.toList ∧ ∀ c ∈ w.cps.toList, c = 10 ∨ (33 ≤ c ∧ c ≤ 126) := by
  obtain ⟨h1, h2, h3, h4⟩ := spW_all z.cps.toList
  rw [split_eq]
  refine ⟨by rw [List.length_map, h3]; have := h.cnt; omega, by simpa using spW_ne _, fun w hw => ?_⟩
  obtain ⟨p, hp, rfl⟩ := List.mem_map.mp hw
  obtain ⟨a, b, e⟩ := h4 p hp
  have hf := h2 p hp
  have S := h.sub e
  refine ⟨by rw [← len_cps]; exact h.run a p b e hf, by rw [← len_cps]; exact S.len, hf, fun c hc => ?_⟩
  rcases S.sg c hc with k | k
  · exact .inl k
  · refine .inr ⟨?_, k.2⟩
    rcases Nat.lt_or_ge 32 c with j | j
    · exact j
    · have : c = 32 := Nat.le_antisymm j k.1
      subst this
      exact absurd hc hf
theorem LP.ok {z : Str} {L n M : Nat} (h : LP z.cps.toList L n M) (hL : L ≤ 100000) (hn : n ≤ 100000) : LineOk z ∧ WordsOk (Txt.split z " ") := by
  obtain ⟨s1, s2, s3⟩ := h.split
  exact ⟨⟨by rw [← len_cps]; exact Nat.le_trans h.len hL, h.sg⟩, ⟨s2, by omega, fun w hw => ⟨by have := (s3 w hw).2.1; omega, (s3 w hw).2.2.2⟩⟩⟩
section
variable {c cW cN cP : Addr} {z : Str} {μ : Mu} {Q : D → Mu → Prop} {E : Exn → Mu → Prop}
/-- of a line of few, short words -/
theorem right_small {L n M : Nat} (h : LP z.cps.toList L n M) (hL : L ≤ 100000) (hn : n ≤ 139) (hM : M ≤ 500) (q : ∀ μ', Ov μ μ' → Q (.bl true) μ') : (F_l_right c cW cN cP [.str z]).run Q E μ := by
  obtain ⟨s1, s2, s3⟩ := h.split
  obtain ⟨o1, o2⟩ := h.ok hL (by omega)
  refine run_right o1 o2 (fun t ht => ?_) q
  obtain ⟨k1, k2⟩ := line_small (fun w hw => ⟨Nat.le_trans (s3 w hw).1 hM, fun c hc => by rcases (s3 w hw).2.2.2 c hc with e | e <;> omega⟩) ht
  have r := rok_small k1 (Nat.le_trans k2 (Nat.mul_le_mul_left 2 s1)) (by omega)
  have e : dT (.tup [.str "thing", t]) = .tup [.str "thing", dT t] := by simp only [dT, dTL]
  rw [← e]
  exact r
end
end K68

namespace K68
open PySem PySem.Spec PyProof.Rows L2 Kit DL
/-! ### the lines that the law always asks -/
theorem run1 {M : Nat} {p : List Nat} (h : p.length ≤ M) : RunLe M p := fun a m b e _ => by
  rw [e, List.length_append, List.length_append] at h
  omega
theorem runJ {M : Nat} : ∀ parts : List (List Nat), (∀ p ∈ parts, p.length ≤ M) → RunLe M (TL.joinL [32] parts)
  | [], _ => fun a m b e _ => by
    have : (a ++ m ++ b).length = 0 := by rw [← e]; rfl
    rw [List.length_append, List.length_append] at this
    omega
  | [p], h => run1 (h p List.mem_cons_self)
  | p :: q :: r, h => by
    show RunLe M (p ++ ([32] ++ TL.joinL [32] (q :: r)))
    exact RunLe.blank (run1 (h p List.mem_cons_self)) (runJ (q :: r) fun x hx => h x (List.mem_cons_of_mem _ hx))
def lpB (l : List Nat) (L n M : Nat) : Bool := decide (l.length ≤ L) && (decide (l.count 32 ≤ n) && ((spW l).all (fun p => decide (p.length ≤ M)) && l.all fun c => decide (c = 10 ∨ (32 ≤ c ∧ c ≤ 126))))
theorem lpB_ok {l : List Nat} {L n M : Nat} (h : lpB l L n M = true) : LP l L n M := by
  unfold lpB at h
  rw [Bool.and_eq_true, Bool.and_eq_true, Bool.and_eq_true, decide_eq_true_eq, decide_eq_true_eq, List.all_eq_true, List.all_eq_true] at h
  obtain ⟨h1, h2, h3, h4⟩ := h
  refine ⟨h1, h2, ?_, fun c hc => of_decide_eq_true (h4 c hc)⟩
  have := runJ (spW l) fun p hp => of_decide_eq_true (h3 p hp)
  rw [(spW_all l).1] at this
  exact this
theorem fold_cat (a : Array Nat) : ∀ (n : Nat) (acc : Array Nat), (List.foldl (fun x1 x2 => x1 ++ x2) acc (List.replicate n a)).toList = acc.toList ++ (List.replicate n a.toList).flatten
  | 0, acc => by simp
  | n + 1, acc => by
    rw [List.replicate_succ, List.foldl_cons, fold_cat a n, Array.toList_append, List.append_assoc, List.replicate_succ, List.flatten_cons]
theorem mul_cps (z : Str) {k : Nat} (hk : 2 ≤ k) (hz : z.length ≠ 0) : (Txt.mul z (k : Int)).cps.toList = (List.replicate k z.cps.toList).flatten := by
  unfold Txt.mul
  rw [if_neg (by omega), if_neg]
  · show (List.foldl (fun x1 x2 => x1 ++ x2) #[] (List.replicate (k : Int).toNat z.cps)).toList = _
    rw [fold_cat, Int.toNat_natCast]
    rfl
  · intro e
    rw [Bool.or_eq_true, beq_iff_eq, beq_iff_eq] at e
    rcases e with e | e
    · omega
    · exact hz e
section
variable {c cW cN cP : Addr} {z : Str} {μ : Mu} {Q : D → Mu → Prop} {E : Exn → Mu → Prop}
def badL (l : List Nat) : Bool := match goP ((spW l).map mkS) [[]] 0 with
  | .inr _ => true
  | .inl s => decide (1 < s.length)
theorem right_bad {L n M : Nat} (h : LP z.cps.toList L n M) (hL : L ≤ 100000) (hn : n ≤ 100000) (hb : badL z.cps.toList = true) (q : ∀ μ', Ov μ μ' → Q (.bl true) μ') : (F_l_right c cW cN cP [.str z]).run Q E μ := by
  obtain ⟨o1, o2⟩ := h.ok hL hn
  refine run_right o1 o2 (fun t ht => ?_) q
  exfalso
  unfold rdLine at ht
  unfold badL at hb
  rw [split_eq] at ht
  cases e : goP ((spW z.cps.toList).map mkS) [[]] 0 with
  | inr k => rw [e] at ht; cases ht
  | inl s =>
    rw [e] at ht hb
    dsimp only at ht hb
    rw [if_pos (of_decide_eq_true hb)] at ht
    cases ht
theorem spW_free {l : List Nat} (h : 32 ∉ l) : spW l = [l] := by
  induction l with
  | nil => rfl
  | cons c l ih =>
    rw [spW, if_neg (fun e => h (by rw [e]; exact List.mem_cons_self)), ih (fun z => h (List.mem_cons_of_mem _ z))]
theorem istr_long {i : Int} (h : i.natAbs < 10 ^ 4000) : (istr i).length ≤ 4001 := by
  rcases istr_form i with ⟨n, rfl, e⟩ | ⟨n, rfl, e⟩
  · rw [Int.natAbs_natCast] at h
    have := digs_len 3999 n h
    rw [← len_cps, e, List.length_map]
    omega
  · rw [Int.natAbs_neg, Int.natAbs_natCast] at h
    have := digs_len 3999 (n + 1) h
    rw [← len_cps, e, List.length_cons, List.length_map]
    omega
theorem right_num {L n M : Nat} (h : LP z.cps.toList L n M) (hL : L ≤ 100000) (hn : n ≤ 100000) (hf : 32 ∉ z.cps.toList) (hN : isNumW z = true) (q : ∀ μ', Ov μ μ' → Q (.bl true) μ') : (F_l_right c cW cN cP [.str z]).run Q E μ := by
  obtain ⟨o1, o2⟩ := h.ok hL hn
  refine run_right o1 o2 (fun t ht => ?_) q
  obtain ⟨k, e1, e2, e3⟩ := num_text hN
  obtain ⟨c0, r0, e4, e5⟩ := num_head hN
  have n1 : z ≠ "none" := fun e => by
    rw [e] at hN
    exact absurd hN (by decide +kernel)
  have n2 : z ≠ "(" := fun e => by
    rw [e] at hN
    exact absurd hN (by decide +kernel)
  have n3 : z ≠ ")" := fun e => by
    rw [e] at hN
    exact absurd hN (by decide +kernel)
  have n4 : isTxtW z = false := by
    unfold isTxtW
    rw [e4, decide_eq_false (show ¬ (c0 :: r0).head? = some 39 from fun e => e5 (Option.some.inj e)), Bool.false_and]
  have hr : rdW z = some (.int k) := by
    unfold rdW
    rw [if_neg n1, n4, if_neg (by decide), hN, if_pos rfl, e1]
    rfl
  have hs : stepP [[]] z = some [[.int k]] := by
    unfold stepP
    rw [if_pos (show okS [[]] = true from rfl), if_neg n2, if_neg n3, hr]
    rfl
  have ez : mkS z.cps.toList = z := str_ext rfl
  have hg : rdLine z = .inl (.int k) := by
    unfold rdLine
    rw [split_eq, spW_free hf, List.map_cons, List.map_nil, ez, goP, hs]
    rfl
  obtain rfl : t = .int k := (Sum.inl.inj (hg.symm.trans ht)).symm
  have hl := istr_long e2
  have e : dT (.int k) = .int k := by rw [dT]
  rw [e]
  refine rok_long (Nat.lt_of_lt_of_le e2 (Nat.pow_le_pow_right (by decide) (by decide))) ?_
  have := tupleText_len_le [reprText "thing", Str.ofString (toString k)]
  have h5 : (reprText ("thing" : Str)).length = 7 := by decide +kernel
  have h6 : (Str.ofString (toString k)).length ≤ 4001 := hl
  rw [List.map_cons, List.map_cons, List.map_nil, List.sum_cons, List.sum_cons, List.sum_nil, h5] at this
  have e7 : (PyData.tuple [.str "thing", .int k]).shown = tupleText [reprText "thing", Str.ofString (toString k)] := by
    rw [PyData.shown, PyData.shownAll, PyData.shownAll, PyData.shownAll, PyData.shown, PyData.shown]
  rw [e7]
  refine Nat.le_trans this ?_
  simp only [List.length_cons, List.length_nil]
  exact Nat.le_trans (show 7 + ((Str.ofString (toString k)).length + 0) + 2 * (0 + 1 + 1) + _ ≤ 5000 by omega) (by decide)
/-- what is no text -/
theorem right_odd {d d' : D} {m : String} (h1 : look μ d = some d') (h2 : tyN d' = some m) (h3 : m ∈ ["NoneType", "bool", "int", "tuple", "list", "dict"]) (q : Q (.bl true) μ) : (F_l_right c cW cN cP [d]).run Q E μ := by
  have o1 : oneI m "str" = false := by
    revert h3
    revert m
    intro m _ h3
    simp only [List.mem_cons, List.not_mem_nil, or_false] at h3
    rcases h3 with rfl | rfl | rfl | rfl | rfl | rfl <;> decide
  have m1 : "str" ∈ ["int", "str", "tuple", "list", "bool", "dict"] := by decide
  have l1 : ([d] : List D).length = 1 := rfl
  obtain ⟨sh, hs⟩ := rok_place (k := 0) (by decide)
  have hs : ∀ (Q : D → Mu → Prop) (E : Exn → Mu → Prop) (μ : Mu), (c1 X21.gReprL [.tup [.str "place", .tup [.int 0, .int 0]]]).run Q E μ = Q (.str sh) μ := hs
  have at0 : L2.atI [D.str "place", D.int 0] 0 = some (.str "place") := atI_nat (j := 0) rfl
  have at1 : L2.atI [D.str "place", D.int 0] 1 = some (.int 0) := atI_nat (j := 1) rfl
  have hsee : ∀ (Q : D → Mu → Prop) (E : Exn → Mu → Prop), (see d).run Q E μ = Q d' μ := fun Q E => by
    show (W.opt (look μ d)).run Q E μ = _
    rw [h1]
    rfl
  have hread : ∀ (Q : D → Mu → Prop) (E : Exn → Mu → Prop), (F_l_read [d]).run Q E μ = Q (.tup [.str "place", .int 0]) μ := fun Q E => by
    simp only [F_l_read, B_l_read, defW, sSeq, sIf, dNot, dB, dCall, aCons, aNil, dV, slot, startD, List.map, List.replicate, List.append_eq, List.cons_append, List.nil_append, W.opt, run_bnd, run_ret, dC, c2]
    rw [hsee]
    simp only [defW, sSeq, sIf, sSet, sRet, sRetN, sExpr, sPar, two, sFor, sRaise, dB, dOp, dUn, dV, dC, dIfE, dM1, dJoin.isS, dSl, dPart, dNoPart, dNot, dAnd, dOr, dNotV, dOrV, dAndV, dChain, dCall, dOwn, dTup, dLst, dLstM, dMet, isL, aCons, aNil, dTru, slot, startD, iOf, its, itsOf, itm, run_bnd, run_ret, run_fail, run_chk, run_rd, run_wr, run_any, run_nox, run_exn, run_tag, see, look, lookM, W.opt, s1, s2, c1, c2, asB, List.map, List.replicate, List.append_eq, List.cons_append, List.nil_append, List.set, andThen, endF, sNil, wipeD, dTrue, gIs1, h2, o1, m1, true_and, Bool.not_false, if_true, List.length_cons, List.length_nil, Nat.zero_add, Nat.reduceAdd, two_le]
  have hthing : ∀ (Q : D → Mu → Prop) (E : Exn → Mu → Prop), (F_read_thing c [d]).run Q E μ = E (exP c 0 [some d, none, none, none, none, none]) μ := fun Q E => by
    simp only [F_read_thing, B_read_thing, defW, sSeq, sIf, dNot, dB, dCall, aCons, aNil, dV, slot, startD, List.map, List.replicate, List.append_eq, List.cons_append, List.nil_append, W.opt, run_bnd, run_ret, dC, c2]
    rw [hsee]
    simp only [defW, sSeq, sIf, sSet, sRet, sRetN, sExpr, sPar, two, sFor, sRaise, dB, dOp, dUn, dV, dC, dIfE, dM1, dJoin.isS, dSl, dPart, dNoPart, dNot, dAnd, dOr, dNotV, dOrV, dAndV, dChain, dCall, dOwn, dTup, dLst, dLstM, dMet, isL, aCons, aNil, dTru, slot, startD, iOf, its, itsOf, itm, run_bnd, run_ret, run_fail, run_chk, run_rd, run_wr, run_any, run_nox, run_exn, run_tag, see, look, lookM, W.opt, s1, s2, c1, c2, asB, List.map, List.replicate, List.append_eq, List.cons_append, List.nil_append, List.set, andThen, endF, sNil, wipeD, dTrue, gIs1, h2, o1, m1, true_and, Bool.not_false, if_true, List.length_cons, List.length_nil, Nat.zero_add, Nat.reduceAdd, two_le, List.zip_cons_cons, List.zip_nil_right, List.reverse_cons, List.reverse_nil, exP]
  have hheard : ∀ (Q : D → Mu → Prop) (E : Exn → Mu → Prop), Q (.tup [.str "place", .tup [.int 0, .int 0]]) μ → (F_l_heard c cW cN cP [d]).run Q E μ := fun Q E hq => by
    simp only [F_l_heard, B_l_heard, defW, sSeq, sIf, sSet, sRet, sRetN, sExpr, sPar, two, sFor, sRaise, dB, dOp, dUn, dV, dC, dIfE, dM1, dJoin.isS, dSl, dPart, dNoPart, dNot, dAnd, dOr, dNotV, dOrV, dAndV, dChain, dCall, dOwn, dTup, dLst, dLstM, dMet, isL, aCons, aNil, dTru, slot, startD, iOf, its, itsOf, itm, run_bnd, run_ret, run_fail, run_chk, run_rd, run_wr, run_any, run_nox, run_exn, run_tag, see, look, lookM, W.opt, s1, s2, c1, c2, asB, List.map, List.replicate, List.append_eq, List.cons_append, List.nil_append, List.set, andThen, endF, sNil, wipeD, dTrue, List.length_cons, List.length_nil, Nat.zero_add, Nat.reduceAdd, two_le, true_and, run_sTry]
    rw [hthing]
    refine .inl ⟨cat_c, fun a => ?_⟩
    simp only [exP, defW, sSeq, sIf, sSet, sRet, sRetN, sExpr, sPar, two, sFor, sRaise, dB, dOp, dUn, dV, dC, dIfE, dM1, dJoin.isS, dSl, dPart, dNoPart, dNot, dAnd, dOr, dNotV, dOrV, dAndV, dChain, dCall, dOwn, dTup, dLst, dLstM, dMet, isL, aCons, aNil, dTru, slot, startD, iOf, its, itsOf, itm, run_bnd, run_ret, run_fail, run_chk, run_rd, run_wr, run_any, run_nox, run_exn, run_tag, see, look, lookM, W.opt, s1, s2, c1, c2, asB, List.map, List.replicate, List.append_eq, List.cons_append, List.nil_append, List.set, andThen, endF, sNil, wipeD, dTrue, gIsE, is_ve, is_ot, true_and, if_true, Bool.not_false, List.length_cons, List.length_nil, Nat.zero_add, Nat.reduceAdd, three_le, two_le, dXf, List.lookup_cons_self, unset]
    exact hq
  simp only [F_l_right, B_l_right, defW, sSeq, sIf, sSet, sRet, sRetN, sExpr, sPar, two, sFor, sRaise, dB, dOp, dUn, dV, dC, dIfE, dM1, dJoin.isS, dSl, dPart, dNoPart, dNot, dAnd, dOr, dNotV, dOrV, dAndV, dChain, dCall, dOwn, dTup, dLst, dLstM, dMet, isL, aCons, aNil, dTru, slot, startD, iOf, its, itsOf, itm, run_bnd, run_ret, run_fail, run_chk, run_rd, run_wr, run_any, run_nox, run_exn, run_tag, see, look, lookM, W.opt, s1, s2, c2, asB, List.map, List.replicate, List.append_eq, List.cons_append, List.nil_append, List.set, andThen, endF, sNil, wipeD, dTrue, l1, true_and]
  rw [hread]
  simp only [defW, sSeq, sIf, sSet, sRet, sRetN, sExpr, sPar, two, sFor, sRaise, dB, dOp, dUn, dV, dC, dIfE, dM1, dJoin.isS, dSl, dPart, dNoPart, dNot, dAnd, dOr, dNotV, dOrV, dAndV, dChain, dCall, dOwn, dTup, dLst, dLstM, dMet, isL, aCons, aNil, dTru, slot, startD, iOf, its, itsOf, itm, run_bnd, run_ret, run_fail, run_chk, run_rd, run_wr, run_any, run_nox, run_exn, run_tag, see, look, lookM, W.opt, s1, s2, c2, asB, List.map, List.replicate, List.append_eq, List.cons_append, List.nil_append, List.set, andThen, endF, sNil, wipeD, dTrue, gIx, at0, at1, gE2, decide_true, Bool.false_eq_true, if_false, if_true, l1, true_and, List.length_cons, List.length_nil, Nat.zero_add, Nat.reduceAdd, two_le]
  refine hheard _ _ ?_
  rw [hs]
  simp only [defW, sSeq, sIf, sSet, sRet, sRetN, sExpr, sPar, two, sFor, sRaise, dB, dOp, dUn, dV, dC, dIfE, dM1, dJoin.isS, dSl, dPart, dNoPart, dNot, dAnd, dOr, dNotV, dOrV, dAndV, dChain, dCall, dOwn, dTup, dLst, dLstM, dMet, isL, aCons, aNil, dTru, slot, startD, iOf, its, itsOf, itm, run_bnd, run_ret, run_fail, run_chk, run_rd, run_wr, run_any, run_nox, run_exn, run_tag, see, look, lookM, W.opt, s1, s2, c2, asB, List.map, List.replicate, List.append_eq, List.cons_append, List.nil_append, List.set, andThen, endF, sNil, wipeD, dTrue]
  rw [hs]
  simp only [defW, sSeq, sIf, sSet, sRet, sRetN, sExpr, sPar, two, sFor, sRaise, dB, dOp, dUn, dV, dC, dIfE, dM1, dJoin.isS, dSl, dPart, dNoPart, dNot, dAnd, dOr, dNotV, dOrV, dAndV, dChain, dCall, dOwn, dTup, dLst, dLstM, dMet, isL, aCons, aNil, dTru, slot, startD, iOf, its, itsOf, itm, run_bnd, run_ret, run_fail, run_chk, run_rd, run_wr, run_any, run_nox, run_exn, run_tag, see, look, lookM, W.opt, s1, s2, c2, asB, List.map, List.replicate, List.append_eq, List.cons_append, List.nil_append, List.set, andThen, endF, sNil, wipeD, dTrue, gE2, decide_true, Bool.false_eq_true, if_false]
  exact q
end
end K68

namespace K68
open PySem PySem.Spec PyProof.Rows L2 Kit DL
section
variable {c cW cN cP : Addr}
def RightAt (c cW cN cP : Addr) (μ1 : Mu) (d : D) : Prop := ∀ (μ : Mu) (Q : D → Mu → Prop) (E : Exn → Mu → Prop), Ov μ1 μ → (∀ μ2, Ov μ μ2 → Q (.bl true) μ2) → (F_l_right c cW cN cP [d]).run Q E μ
theorem Ov.trans {a b d : Mu} (h : Ov a b) (g : Ov b d) : Ov a d := by
  obtain ⟨m, rfl⟩ := h
  obtain ⟨m2, rfl⟩ := g
  exact ⟨m ++ m2, by rw [List.append_assoc]⟩
theorem run_fix {μ1 : Mu} {e0 e1 e2 e4 e5 e6 e7 e8 e9 e10 : Option D} {E : Exn → Mu → Prop} {Q : Fl → Mu → Prop} : ∀ (xs : List D) {μ : Mu} {e3 : Option D}, Ov μ1 μ → (∀ d ∈ xs, RightAt c cW cN cP μ1 d) →
    (∀ v μ', Ov μ1 μ' → Q (.nx [e0, e1, e2, v, e4, e5, e6, e7, e8, e9, e10]) μ') →
    (forW (gN 3) (L_law_1 c cW cN cP) (fun _ => True) xs [e0, e1, e2, e3, e4, e5, e6, e7, e8, e9, e10]).run Q E μ
  | [], μ, e3, o, _, q => ⟨True.intro, q e3 μ o⟩
  | d :: xs, μ, e3, o, h, q => by
    refine ⟨True.intro, ?_⟩
    show ((L_law_1 c cW cN cP [e0, e1, e2, some d, e4, e5, e6, e7, e8, e9, e10]).bnd _).run _ _ _
    have l1 : ([d] : List D).length = 1 := rfl
    simp only [L_law_1, defW, sSeq, sIf, sSet, sRet, sRetN, sExpr, sPar, two, sFor, sRaise, dB, dOp, dUn, dV, dC, dIfE, dM1, dJoin.isS, dSl, dPart, dNoPart, dNot, dAnd, dOr, dNotV, dOrV, dAndV, dChain, dCall, dOwn, dTup, dLst, dLstM, dMet, isL, aCons, aNil, dTru, slot, startD, iOf, its, itsOf, itm, run_bnd, run_ret, run_fail, run_chk, run_rd, run_wr, run_any, run_nox, run_exn, run_tag, see, look, lookM, W.opt, s1, s2, c1, c2, asB, List.map, List.replicate, List.append_eq, List.cons_append, List.nil_append, List.set, andThen, endF, sNil, wipeD, dTrue, l1, true_and]
    refine h d List.mem_cons_self μ _ _ o fun μ2 o2 => ?_
    simp only [Bool.not_true, Bool.false_eq_true, if_false, defW, sSeq, sIf, sSet, sRet, sRetN, sExpr, sPar, two, sFor, sRaise, dB, dOp, dUn, dV, dC, dIfE, dM1, dJoin.isS, dSl, dPart, dNoPart, dNot, dAnd, dOr, dNotV, dOrV, dAndV, dChain, dCall, dOwn, dTup, dLst, dLstM, dMet, isL, aCons, aNil, dTru, slot, startD, iOf, its, itsOf, itm, run_bnd, run_ret, run_fail, run_chk, run_rd, run_wr, run_any, run_nox, run_exn, run_tag, see, look, lookM, W.opt, s1, s2, c1, c2, asB, List.map, List.replicate, List.append_eq, List.cons_append, List.nil_append, List.set, andThen, endF, sNil, wipeD, dTrue, forStep]
    exact run_fix xs (o.trans o2) (fun x hx => h x (List.mem_cons_of_mem _ hx)) q
theorem at_small {μ1 : Mu} {z : Str} {L n M : Nat} (h : LP z.cps.toList L n M) (hL : L ≤ 100000) (hn : n ≤ 139) (hM : M ≤ 500) : RightAt c cW cN cP μ1 (.str z) := fun μ Q E _ q => right_small h hL hn hM q
theorem at_bad {μ1 : Mu} {z : Str} {L n M : Nat} (h : LP z.cps.toList L n M) (hL : L ≤ 100000) (hn : n ≤ 100000) (hb : badL z.cps.toList = true) : RightAt c cW cN cP μ1 (.str z) := fun μ Q E _ q => right_bad h hL hn hb q
theorem at_odd {μ1 : Mu} {d d' : D} {m : String} (h1 : ∀ μ, Ov μ1 μ → look μ d = some d') (h2 : tyN d' = some m) (h3 : m ∈ ["NoneType", "bool", "int", "tuple", "list", "dict"]) : RightAt c cW cN cP μ1 d := fun μ Q E o q => right_odd (h1 μ o) h2 h3 (q μ (Ov.refl μ))
theorem mulC (z : Str) (k : Nat) (l : List Nat) (hk : 2 ≤ k) (hz : z.cps.toList = l) (hl : l ≠ []) : (Txt.mul z (k : Int)).cps.toList = (List.replicate k l).flatten := by
  rw [mul_cps z hk (fun e => hl (by rw [← len_cps, hz] at e; exact List.length_eq_zero_iff.mp e)), hz]
theorem g1 : ("( " : Str).cps.toList = [40, 32] := by decide +kernel
theorem g2 : (" )" : Str).cps.toList = [32, 41] := by decide +kernel
theorem g3 : ("1" : Str).cps.toList = [49] := by decide +kernel
theorem g4 : ("9" : Str).cps.toList = [57] := by decide +kernel
def deep (k : Nat) : List Nat := (List.replicate 60 [40, 32]).flatten ++ [48] ++ (List.replicate k [32, 41]).flatten
theorem deep_eq (k : Nat) (hk : 2 ≤ k) : (Txt.mul "( " 60 ++ "0" ++ Txt.mul " )" (k : Int)).cps.toList = deep k := by
  rw [cps_app, cps_app, show (60 : Int) = ((60 : Nat) : Int) from rfl, mulC _ 60 _ (by decide) g1 (by simp), mulC _ k _ hk g2 (by simp), zero_cps]
  rfl
theorem lp60 : LP (deep 60) 400 139 5 := lpB_ok (by decide +kernel)
theorem lp59 : LP (deep 59) 400 139 5 := lpB_ok (by decide +kernel)
theorem many_eq : (("( )" : Str) ++ Txt.mul " )" 300).cps.toList = [40, 32, 41] ++ (List.replicate 300 [32, 41]).flatten := by
  rw [cps_app, show (300 : Int) = ((300 : Nat) : Int) from rfl, mulC _ 300 _ (by decide) g2 (by simp), show ("( )" : Str).cps.toList = [40, 32, 41] from by decide +kernel]
theorem lp300 : LP ([40, 32, 41] ++ (List.replicate 300 [32, 41]).flatten) 1000 400 5 := lpB_ok (by decide +kernel)
theorem bad300 : badL ([40, 32, 41] ++ (List.replicate 300 [32, 41]).flatten) = true := by decide +kernel
theorem rep_one (k c : Nat) : (List.replicate k [c]).flatten = List.replicate k c := by
  induction k with
  | zero => rfl
  | succ k ih => rw [List.replicate_succ, List.flatten_cons, ih]; rfl
theorem lp_rep (k c : Nat) (h : 33 ≤ c ∧ c ≤ 126) : LP (List.replicate k c) k 0 k := by
  refine ⟨by rw [List.length_replicate]; exact Nat.le_refl _, ?_, run1 (by rw [List.length_replicate]; exact Nat.le_refl _), fun x hx => ?_⟩
  · rw [List.count_replicate, if_neg (by simp; omega)]
    exact Nat.le_refl _
  · have := List.eq_of_mem_replicate hx
    omega
theorem ones_num (k : Nat) (h1 : 1 ≤ k) (h2 : k ≤ 4000) {z : Str} (hz : z.cps.toList = List.replicate k 49) : isNumW z = true := by
  have ef : figW z = z := by
    unfold figW
    rw [if_neg]
    intro e
    cases k with
    | zero => omega
    | succ k => rw [hz, List.replicate_succ] at e; cases e
  unfold isNumW
  rw [ef, Bool.and_eq_true, Bool.and_eq_true, decide_eq_true_eq, List.all_eq_true, Bool.or_eq_true, decide_eq_true_eq]
  refine ⟨⟨by rw [← len_cps, hz, List.length_replicate]; exact ⟨h1, h2⟩, fun c hc => ?_⟩, .inl fun e => ?_⟩
  · rw [hz] at hc
    rw [List.eq_of_mem_replicate hc]
    decide +kernel
  · cases k with
    | zero => omega
    | succ k => rw [hz, List.replicate_succ] at e; cases e
theorem neg_num (k : Nat) (h1 : 1 ≤ k) (h2 : k ≤ 4000) {z : Str} (hz : z.cps.toList = 45 :: List.replicate k 49) : isNumW z = true := by
  have ef : (figW z).cps.toList = List.replicate k 49 := by
    unfold figW
    rw [if_pos (by rw [hz]; rfl)]
    exact cut1 hz
  unfold isNumW
  rw [ef, Bool.and_eq_true, Bool.and_eq_true, decide_eq_true_eq, List.all_eq_true, Bool.or_eq_true, decide_eq_true_eq]
  refine ⟨⟨by rw [← len_cps, ef, List.length_replicate]; exact ⟨h1, h2⟩, fun c hc => ?_⟩, .inl fun e => ?_⟩
  · rw [List.eq_of_mem_replicate hc]
    decide +kernel
  · cases k with
    | zero => omega
    | succ k => rw [List.replicate_succ] at e; cases e
end
end K68

namespace K68
open PySem PySem.Spec PyProof.Rows L2 Kit DL
section
variable {c cW cN cP : Addr}
theorem spW_blank {x : List Nat} (y : List Nat) (h : 32 ∉ x) : spW (x ++ 32 :: y) = x :: spW y := by
  induction x with
  | nil => rw [List.nil_append, spW, if_pos rfl]
  | cons a x ih => rw [List.cons_append, spW, if_neg (fun e => h (by rw [e]; exact List.mem_cons_self)), ih (fun z => h (List.mem_cons_of_mem _ z))]
theorem none_len : ("none" : Str).length = 4 := by decide +kernel
theorem long_none {z : Str} {k d : Nat} (hk : 4001 ≤ k) (hd : 49 ≤ d ∧ d ≤ 57) (hz : z.cps.toList = List.replicate k d) : rdW z = none ∧ z ≠ "(" ∧ z ≠ ")" := by
  have hl : z.length = k := by rw [← len_cps, hz, List.length_replicate]
  have hh : z.cps.toList.head? = some d := by
    cases k with
    | zero => omega
    | succ k => rw [hz, List.replicate_succ]; rfl
  have ef : figW z = z := by
    unfold figW
    rw [if_neg (fun e => by rw [hh] at e; have := Option.some.inj e; omega)]
  have n1 : z ≠ "none" := fun e => by rw [e, none_len] at hl; omega
  have n2 : isTxtW z = false := by
    unfold isTxtW
    rw [decide_eq_false (fun e => by rw [hh] at e; have := Option.some.inj e; omega), Bool.false_and]
  have n3 : isNumW z = false := by
    unfold isNumW
    rw [ef, decide_eq_false (fun e => by omega), Bool.false_and, Bool.false_and]
  refine ⟨?_, fun e => ?_, fun e => ?_⟩
  · unfold rdW
    rw [if_neg n1, n2, if_neg (by decide), n3, if_neg (by decide)]
  · have : ("(" : Str).length = 1 := by decide +kernel
    rw [e, this] at hl; omega
  · have : (")" : Str).length = 1 := by decide +kernel
    rw [e, this] at hl; omega
theorem bad_ones {k : Nat} (hk : 4001 ≤ k) : badL (List.replicate k 49) = true := by
  have hf : 32 ∉ List.replicate k 49 := fun z => by cases List.eq_of_mem_replicate z
  obtain ⟨e1, e2, e3⟩ := long_none (z := mkS (List.replicate k 49)) hk (by decide) rfl
  have hs : stepP [[]] (mkS (List.replicate k 49)) = none := by
    unfold stepP
    rw [if_pos (show okS [[]] = true from rfl), if_neg e2, if_neg e3, e1]
    rfl
  unfold badL
  rw [spW_free hf, List.map_cons, List.map_nil, goP, hs]
theorem bad_nines {k : Nat} (hk : 4001 ≤ k) : badL ([40, 32] ++ List.replicate k 57 ++ [32, 41]) = true := by
  have hf : 32 ∉ List.replicate k 57 := fun z => by cases List.eq_of_mem_replicate z
  obtain ⟨e1, e2, e3⟩ := long_none (z := mkS (List.replicate k 57)) hk (by decide) rfl
  have eo : mkS [40] = "(" := str_ext (by decide +kernel)
  have h1 : stepP [[]] (mkS [40]) = some [[], []] := by
    unfold stepP
    rw [if_pos (show okS [[]] = true from rfl), if_pos eo]
  have h2 : stepP [[], []] (mkS (List.replicate k 57)) = none := by
    unfold stepP
    rw [if_pos (show okS [[], []] = true from rfl), if_neg e2, if_neg e3, e1]
    rfl
  have es : spW ([40, 32] ++ List.replicate k 57 ++ [32, 41]) = [40] :: List.replicate k 57 :: spW [41] := by
    show spW ([40] ++ 32 :: (List.replicate k 57 ++ 32 :: [41])) = _
    rw [spW_blank _ (by decide), spW_blank _ hf]
  unfold badL
  rw [es, List.map_cons, List.map_cons, goP, h1]
  dsimp only
  rw [goP, h2]
theorem allC {P : D → Prop} {d : D} {xs : List D} (h : P d) (g : ∀ x ∈ xs, P x) : ∀ x ∈ d :: xs, P x := fun x hx => (List.mem_cons.mp hx).elim (fun e => e ▸ h) (g x)
theorem allN {P : D → Prop} : ∀ x ∈ ([] : List D), P x := fun _ h => absurd h (by simp)
theorem sm {μ1 : Mu} {z : Str} (h : lpB z.cps.toList 400 139 500 = true) : RightAt c cW cN cP μ1 (.str z) := at_small (lpB_ok h) (by decide) (by decide) (by decide)
theorem i4000 : (4000 : Int) = ((4000 : Nat) : Int) := rfl
theorem fixed_all {μ1 : Mu} (hd : ∀ μ, Ov μ1 μ → look μ (.ref 2) = some (.dct false [])) : ∀ d ∈ [D.str "", .str " ", .str "(", .str ")", .str "( )", .str "()", .str "( ) ", .str " ( )", .str "none none", .str "0 0", .str "( none", .str ") (", .str "'", .str "'a b", .str "-", .str "00",
    .str (Txt.mul "( " 60 ++ "0" ++ Txt.mul " )" 60), .str (Txt.mul "( " 60 ++ "0" ++ Txt.mul " )" 59), .str ("( )" ++ Txt.mul " )" 300), .str "' a", .str (Txt.mul "1" 900), .str (Txt.mul "1" 4000), .str (Txt.mul "1" 4001),
    .str ("( " ++ Txt.mul "9" 4400 ++ " )"), .str ("-" ++ Txt.mul "1" 4000), .non, .bl true, .int 0, .tup [], .tup [.str "none"], .lst [], .ref 2, .lst [.str "none"]], RightAt c cW cN cP μ1 d := by
  iterate 16 (refine allC (sm (by decide +kernel)) ?_)
  refine allC (at_small (by rw [show (60 : Int) = ((60 : Nat) : Int) from rfl, ← show (60 : Int) = ((60 : Nat) : Int) from rfl]; exact (deep_eq 60 (by decide)) ▸ lp60) (by decide) (by decide) (by decide)) ?_
  refine allC (at_small ((deep_eq 59 (by decide)) ▸ lp59) (by decide) (by decide) (by decide)) ?_
  refine allC (at_bad (many_eq ▸ lp300) (by decide) (by decide) (by rw [many_eq]; exact bad300)) ?_
  refine allC (sm (by decide +kernel)) ?_
  have e9 : (Txt.mul "1" 900).cps.toList = List.replicate 900 49 := by rw [show (900 : Int) = ((900 : Nat) : Int) from rfl, mulC _ 900 _ (by decide) g3 (by simp), rep_one]
  have e40 : (Txt.mul "1" 4000).cps.toList = List.replicate 4000 49 := by rw [i4000, mulC _ 4000 _ (by decide) g3 (by simp), rep_one]
  have e41 : (Txt.mul "1" 4001).cps.toList = List.replicate 4001 49 := by rw [show (4001 : Int) = ((4001 : Nat) : Int) from rfl, mulC _ 4001 _ (by decide) g3 (by simp), rep_one]
  have e44 : (("( " : Str) ++ Txt.mul "9" 4400 ++ " )").cps.toList = [40, 32] ++ List.replicate 4400 57 ++ [32, 41] := by
    rw [cps_app, cps_app, g1, g2, show (4400 : Int) = ((4400 : Nat) : Int) from rfl, mulC _ 4400 _ (by decide) g4 (by simp), rep_one]
  have e45 : (("-" : Str) ++ Txt.mul "1" 4000).cps.toList = 45 :: List.replicate 4000 49 := by rw [cps_app, minus_cps, e40]; rfl
  have nf : ∀ k, 32 ∉ List.replicate k 49 := fun k z => by cases List.eq_of_mem_replicate z
  have lp (k : Nat) := lp_rep k 49 (by decide)
  have lpm : LP [45] 1 0 1 := lpB_ok (by decide +kernel)
  refine allC (fun μ Q E _ q => right_num (L := 900) (n := 0) (M := 900) (by rw [e9]; exact lp 900) (by decide) (by decide) (by rw [e9]; exact nf _) (ones_num 900 (by decide) (by decide) e9) q) ?_
  refine allC (fun μ Q E _ q => right_num (L := 4000) (n := 0) (M := 4000) (by rw [e40]; exact lp 4000) (by decide) (by decide) (by rw [e40]; exact nf _) (ones_num 4000 (by decide) (by decide) e40) q) ?_
  refine allC (at_bad (L := 4001) (n := 0) (M := 4001) (by rw [e41]; exact lp 4001) (by decide) (by decide) (by rw [e41]; exact bad_ones (by decide))) ?_
  refine allC (at_bad (L := 5000) (n := 10) (M := 5000) (by
    rw [e44]
    exact ((LP.app (LP.app (lpB_ok (L := 2) (n := 1) (M := 1) (by decide +kernel)) (lp_rep 4400 57 (by decide))) (lpB_ok (L := 2) (n := 1) (M := 1) (by decide +kernel))).mono (by decide) (by decide) (by decide))) (by decide) (by decide) (by rw [e44]; exact bad_nines (by decide))) ?_
  refine allC (fun μ Q E _ q => right_num (L := 4001) (n := 0) (M := 4001) (by rw [e45]; exact (lpm.app (lp 4000)).mono (by decide) (by decide) (by decide)) (by decide) (by decide) (by rw [e45]; intro z; rcases List.mem_cons.mp z with z | z; exact absurd z (by decide); exact nf _ z) (neg_num 4000 (by decide) (by decide) e45) q) ?_
  refine allC (at_odd (d' := .non) (fun _ _ => rfl) rfl (by decide)) ?_
  refine allC (at_odd (d' := .bl true) (fun _ _ => rfl) rfl (by decide)) ?_
  refine allC (at_odd (d' := .int 0) (fun _ _ => rfl) rfl (by decide)) ?_
  refine allC (at_odd (d' := .tup []) (fun _ _ => rfl) rfl (by decide)) ?_
  refine allC (at_odd (d' := .tup [.str "none"]) (fun _ _ => rfl) rfl (by decide)) ?_
  refine allC (at_odd (d' := .lst []) (fun _ _ => rfl) rfl (by decide)) ?_
  refine allC (at_odd hd rfl (by decide)) ?_
  exact allC (at_odd (d' := .lst [.str "none"]) (fun _ _ => rfl) rfl (by decide)) allN
end
end K68

namespace K68
open PySem PySem.Spec PyProof.Rows L2 Kit DL
/-! ### a thing drawn -/
def Dk (μ : Mu) (t : Nat) : Prop := ∃ t', t' ≤ t ∧ μ[0]? = some (.deck t')
theorem Dk.mono {μ : Mu} {t u : Nat} (h : Dk μ t) (l : t ≤ u) : Dk μ u := let ⟨a, b, e⟩ := h; ⟨a, Nat.le_trans b l, e⟩
theorem Dk.ov {μ μ' : Mu} {t : Nat} (h : Dk μ t) (o : Ov μ μ') : Dk μ' t := by
  obtain ⟨a, b, e⟩ := h
  obtain ⟨m, rfl⟩ := o
  exact ⟨a, b, by rw [List.getElem?_append_left (List.getElem?_eq_some_iff.mp e).1]; exact e⟩
theorem run_draw {μ : Mu} {t : Nat} {k : Int} {Q : D → Mu → Prop} {E : Exn → Mu → Prop} (h : Dk μ t) (ht : t < 1000000) (h1 : 1 ≤ k) (h2 : k < 2000000000000) (q : ∀ r : Int, 0 ≤ r → r < k → ∀ μ', Dk μ' (t + 1) → Q (.int r) μ') : (F_l_draw [.ref 0, .int k]).run Q E μ := by
  obtain ⟨a, b, e⟩ := h
  show (match μ[0]? with
    | some (MO.deck t) => W.chk (1 ≤ k ∧ k < 2000000000000 ∧ t < 1000000000000) (W.any (fun r : Int => 0 ≤ r ∧ r < k) fun r => W.wr (fun μ : Mu => μ.set 0 (MO.deck (t + 1))) (W.ret (D.int r)))
    | _ => W.fail).run Q E μ
  rw [e]
  refine ⟨⟨h1, h2, by omega⟩, fun r hr => ?_⟩
  exact q r hr.1 hr.2 _ ⟨a + 1, by omega, by rw [List.getElem?_set_self (List.getElem?_eq_some_iff.mp e).1]⟩
/-- a comprehension over a range -/
theorem run_lcG {i N : Nat} {fe : DS → W D} {ε : DS} {E : Exn → Mu → Prop} (Inv : Mu → List D → Prop) : ∀ (xs : List D) (acc : List D) {μ : Mu} {Q : List D → Mu → Prop}, acc.length + xs.length ≤ N →
    (∀ (x : D) (μ : Mu) (acc : List D), acc.length < N → Inv μ acc → ∀ Q : D → Mu → Prop, (∀ y μ', Inv μ' (acc ++ [y]) → Q y μ') → (fe (ε.set i (some x))).run Q E μ) →
    Inv μ acc → (∀ ys μ', ys.length = xs.length → Inv μ' (acc ++ ys) → Q ys μ') → (lcW (gN i) dTrue fe ε (fun _ => True) xs).run Q E μ
  | [], acc, μ, Q, _, _, h, q => ⟨True.intro, q [] μ rfl (by rw [List.append_nil]; exact h)⟩
  | x :: xs, acc, μ, Q, hN, s, h, q => by
    refine ⟨True.intro, ?_⟩
    show ((fe (ε.set i (some x))).bnd _).run _ _ _
    rw [List.length_cons] at hN
    refine s x μ acc (by omega) h _ fun y μ' h' => ?_
    refine run_lcG Inv xs (acc ++ [y]) (by rw [List.length_append]; show acc.length + 1 + xs.length ≤ N; omega) s h' fun ys μ2 hl h2 => ?_
    exact q (y :: ys) μ2 (by rw [List.length_cons, List.length_cons, hl]) (by rw [List.append_assoc] at h2; exact h2)
theorem wfL_iff : ∀ xs : List Td, wfL xs ↔ ∀ x ∈ xs, wfT x
  | [] => ⟨fun _ x hx => absurd hx (by simp), fun _ => True.intro⟩
  | x :: xs => by
    rw [wfL, wfL_iff xs]
    exact ⟨fun h y hy => (List.mem_cons.mp hy).elim (fun e => e ▸ h.1) (h.2 y), fun h => ⟨h x List.mem_cons_self, fun y hy => h y (List.mem_cons_of_mem _ hy)⟩⟩
theorem wordsL_le {w : Nat} : ∀ xs : List Td, (∀ x ∈ xs, (wordsT x).length ≤ w) → (wordsL xs).length ≤ xs.length * w
  | [], _ => Nat.zero_le _
  | x :: xs, h => by
    rw [wordsL, List.length_append, List.length_cons, Nat.succ_mul]
    have h1 := h x List.mem_cons_self
    have h2 := wordsL_le xs fun y hy => h y (List.mem_cons_of_mem _ hy)
    omega
abbrev SIG : Str := "!\"#$&'()*+,-./0123456789:;<=>?@AZ[\\]^_`az{|}~"
theorem SIG_all : (SIG.cps.toList.all fun c => decide (33 ≤ c ∧ c ≤ 126)) = true := by decide +kernel
theorem SIG_len : SIG.length = 45 := by decide +kernel
theorem strsD_map : ∀ cs : List Nat, strsD (cs.map fun c => D.str ⟨#[c]⟩) = some (cs.map fun c => (⟨#[c]⟩ : Str))
  | [] => rfl
  | c :: cs => by
    rw [List.map_cons, strsD, strsD_map cs]
    rfl
theorem join_signs : ∀ cs : List Nat, (Txt.join "" (cs.map fun c => (⟨#[c]⟩ : Str))).cps.toList = cs := fun cs => by
  rw [TL.join_eq]
  refine (TL.tl_join "" _).trans ?_
  rw [show TL.tl ("" : Str) = [] from by decide +kernel, List.map_map]
  induction cs with
  | nil => rfl
  | cons c cs ih =>
    cases cs with
    | nil => rfl
    | cons d cs =>
      show [c] ++ ([] ++ TL.joinL [] ((d :: cs).map (TL.tl ∘ fun c => (⟨#[c]⟩ : Str)))) = _
      rw [ih]
      rfl
theorem allP {P : D → Prop} {xs : List D} {i : Nat} {y : D} (h : ∀ x ∈ xs, P x) (e : xs[i]? = some y) : P y := h y (List.mem_of_getElem? e)
def strG (x : D) : Prop := ∃ w : Str, x = .str w ∧ goodZ w
theorem strG_of {w : Str} (h : (decide (1 ≤ w.length ∧ w.length ≤ 20) && w.cps.toList.all fun c => decide (33 ≤ c ∧ c ≤ 126)) = true) : strG (.str w) := by
  rw [Bool.and_eq_true, decide_eq_true_eq, List.all_eq_true] at h
  exact ⟨w, rfl, h.1.1, h.1.2, fun c hc => of_decide_eq_true (h.2 c hc)⟩
theorem eight_good : ∀ x ∈ [D.str "none", .str "(", .str ")", .str "'", .str "-1", .str "0", .str "gate", .str "and"], strG x :=
  allC (strG_of (by decide +kernel)) (allC (strG_of (by decide +kernel)) (allC (strG_of (by decide +kernel)) (allC (strG_of (by decide +kernel)) (allC (strG_of (by decide +kernel)) (allC (strG_of (by decide +kernel)) (allC (strG_of (by decide +kernel)) (allC (strG_of (by decide +kernel)) allN)))))))
theorem intSm {m s : Int} (h : m.natAbs < 10 ^ 41) (hs : s = 1 ∨ s = -1) : IntMulOk m s ∧ (m * s).natAbs < 10 ^ 41 := by
  rcases hs with rfl | rfl
  · refine ⟨.of_right (by decide), ?_⟩
    rw [Int.mul_one]
    exact h
  · refine ⟨.of_right (by decide), ?_⟩
    rw [Int.mul_neg, Int.mul_one, Int.natAbs_neg]
    exact h
def cD : Nat → Nat
  | 0 => 30
  | d + 1 => 30 + 4 * cD d
def wD : Nat → Nat
  | 0 => 1
  | d + 1 => 2 + 4 * wD d
theorem wD_pos : ∀ d, 1 ≤ wD d
  | 0 => Nat.le_refl _
  | d + 1 => by rw [wD]; omega
theorem cD_ge : ∀ d, 30 ≤ cD d
  | 0 => Nat.le_refl _
  | d + 1 => by rw [cD]; omega
structure ThOk (d : Nat) (x : Td) : Prop where
  wf : wfT x
  ws : (wordsT x).length ≤ wD d
theorem rngD_len (i : Int) (n : Nat) : (rngD i n).length = n := by
  unfold rngD
  simp
theorem run_thg {E : Exn → Mu → Prop} : ∀ (n d : Nat) {μ : Mu} {t : Nat} {Q : D → Mu → Prop}, d < n → Dk μ t → t + cD d < 1000000 → (∀ x μ', ThOk d x → Dk μ' (t + cD d) → Q (dT x) μ') → (F_l_thing n [.ref 0, .int (d : Nat)]).run Q E μ
  | 0, d, _, _, _, h, _, _, _ => absurd h (Nat.not_lt_zero _)
  | n + 1, d, μ, t, Q, hd, hk, ht, q => by
    have cg := cD_ge d
    have l2 : ∀ k : Int, ([D.ref 0, D.int k] : List D).length = 2 := fun _ => rfl
    show (defW 4 (B_l_thing (F_l_thing n)) [.ref 0, .int (d : Nat)]).run Q E μ
    simp only [B_l_thing, defW, sSeq, sSet, dOwn, aCons, aNil, dV, dC, slot, W.opt, startD, List.map, List.replicate, List.append_eq, List.cons_append, List.nil_append, run_bnd, run_ret, run_chk, run_tag, l2, true_and]
    refine run_draw hk (by omega) (by decide) (by decide) fun r r0 r7 μ1 hk1 => ?_
    have gt0 : decide ((0 : Int) < (d : Nat)) = decide (0 < d) := decide_eq_decide.mpr ⟨fun z => by omega, fun z => by omega⟩
    by_cases hT : 0 < d ∧ r < 3
    · -- a tuple
      obtain ⟨d', rfl⟩ : ∃ d', d = d' + 1 := ⟨d - 1, by omega⟩
      have e1 : decide (0 < d' + 1) = true := decide_eq_true (by omega)
      have e2 : decide (r < 3) = true := decide_eq_true hT.2
      have c1' : cD (d' + 1) = 30 + 4 * cD d' := rfl
      simp only [List.set, andThen, sIf, dAnd, dB, dOp, dV, dC, slot, W.opt, run_bnd, run_ret, asB, gGt, gLt, gOrd, gt0, e1, e2, if_true, sSeq, sRet, dCall, aCons, aNil, dLc, iOf, dOwn, run_chk, run_tag, l2, true_and]
      refine run_draw hk1 (by omega) (by decide) (by decide) fun m m0 m5 μ2 hk2 => ?_
      obtain ⟨k, rfl⟩ : ∃ k : Nat, m = k := ⟨m.toNat, by omega⟩
      have hk4 : k ≤ 4 := by omega
      simp only [run_bnd, run_ret, rng1, run_chk, itm, run_nox, wipeD, List.set]
      refine ⟨⟨by omega, by omega⟩, by rw [rngD_len]; exact szOk (by omega), ?_⟩
      refine run_lcG (N := k) (fun μ acc => ∃ xs : List Td, acc = dTL xs ∧ (∀ x ∈ xs, ThOk d' x) ∧ Dk μ (t + 1 + 1 + acc.length * cD d')) _ [] (by rw [rngD_len]; simp) (fun x μ acc hl ⟨xs, ea, hx2, hkk⟩ Q' hq => ?_) ⟨[], rfl, fun x hx => absurd hx (by simp), by simpa using hk2⟩ (fun ys μ' hl ⟨xs, ea, hx2, hkk⟩ => ?_)
      · have e4 : ((d' + 1 : Nat) : Int) - 1 = (d' : Nat) := by omega
        have hm : acc.length * cD d' ≤ 3 * cD d' := Nat.mul_le_mul_right _ (by omega)
        simp only [dOwn, aCons, aNil, List.set, dV, slot, W.opt, run_bnd, run_ret, dC, dOp, DL.gSub, oI0, e4, run_chk, run_tag, l2, true_and]
        refine run_thg n d' (by omega) hkk (by omega) fun y μ3 hy hk3 => ?_
        refine hq _ _ ⟨xs ++ [y], by rw [dTL_app, ea], fun z hz => ?_, ?_⟩
        · rcases List.mem_append.mp hz with hz | hz
          · exact hx2 z hz
          · rw [List.mem_singleton.mp hz]; exact hy
        · rw [List.length_append, List.length_singleton, Nat.succ_mul]
          exact hk3.mono (by omega)
      · rw [List.nil_append] at ea hkk
        subst ea
        have hlen : xs.length = k := by rw [dTL_len, rngD_len] at hl; omega
        have ex : (D.tup (dTL xs)) = dT (.tup xs) := by rw [dT]
        simp only [run_bnd, run_ret, c1, see, look, W.opt, run_rd, gTuple, endF, ex]
        refine q (.tup xs) _ ⟨?_, ?_⟩ (hkk.mono ?_)
        · rw [wfT, wfL_iff]
          exact fun x hx => (hx2 x hx).wf
        · rw [wordsT, List.length_cons, List.length_append, wD]
          have h1 := wordsL_le xs fun x hx => (hx2 x hx).ws
          have h2 : xs.length * wD d' ≤ 4 * wD d' := Nat.mul_le_mul_right _ (by omega)
          show (wordsL xs).length + 1 + 1 ≤ _
          omega
        · have h2 : (dTL xs).length * cD d' ≤ 4 * cD d' := Nat.mul_le_mul_right _ (by rw [dTL_len]; omega)
          omega
    · have hF : (decide (0 < d) && decide (r < 3)) = false := by
        rw [Bool.and_eq_false_iff]
        by_cases h0 : 0 < d
        · exact .inr (decide_eq_false fun z => hT ⟨h0, z⟩)
        · exact .inl (decide_eq_false h0)
      have step : ∀ (R : DS → W Fl), ((sSeq (sIf (dAnd (dB (dOp gGt (dV 1) (dC (.int 0)))) (dB (dOp gLt (dV 2) (dC (.int 3))))) (sRet (dCall (c1 gTuple) (aCons (dLc [3] (iOf rng1 (aCons (dOwn 2 F_l_draw (aCons (dV 0) (aCons (dC (.int 5)) aNil))) aNil)) (gN 3) dTrue (dOwn 2 (F_l_thing n) (aCons (dV 0) (aCons (dOp DL.gSub (dV 1) (dC (.int 1))) aNil)))) aNil))) sNil) R) [some (D.ref 0), some (D.int d), some (D.int r), none, none, none]).run (fun a μ' => (endF a).run Q E μ') E μ1 = (R [some (D.ref 0), some (D.int d), some (D.int r), none, none, none]).run (fun a μ' => (endF a).run Q E μ') E μ1 := fun R => by
        simp only [sSeq, sIf, dAnd, dB, dOp, dV, dC, slot, W.opt, run_bnd, run_ret, asB, gGt, gLt, gOrd, gt0]
        by_cases h0 : 0 < d
        · have e2 : decide (r < 3) = false := decide_eq_false fun z => hT ⟨h0, z⟩
          simp only [decide_eq_true h0, if_true, run_bnd, run_ret, e2, Bool.false_eq_true, if_false, sNil, andThen, asB]
        · simp only [decide_eq_false h0, Bool.false_eq_true, if_false, run_ret, run_bnd, sNil, andThen]
      simp only [List.set, andThen]
      rw [step]
      by_cases h3 : r = 3
      · have e3 : decide (r = 3) = true := decide_eq_true h3
        simp only [defW, sSeq, sIf, sSet, sRet, sRetN, sExpr, sPar, two, sFor, sRaise, dB, dOp, dUn, dV, dC, dIfE, dM1, dJoin.isS, dSl, dPart, dNoPart, dNot, dAnd, dOr, dNotV, dOrV, dAndV, dChain, dCall, dOwn, dTup, dLst, dLstM, dMet, isL, aCons, aNil, dTru, slot, startD, iOf, its, itsOf, itm, run_bnd, run_ret, run_fail, run_chk, run_rd, run_wr, run_any, run_nox, run_exn, run_tag, see, look, lookM, W.opt, s1, s2, c1, c2, asB, List.map, List.replicate, List.append_eq, List.cons_append, List.nil_append, List.set, andThen, endF, sNil, wipeD, dTrue, gE2, e3, Bool.false_eq_true, if_false, if_true]
        exact q .non _ ⟨True.intro, wD_pos d⟩ (hk1.mono (by omega))
      · have e3 : decide (r = 3) = false := decide_eq_false h3
        by_cases h4 : r = 4
        · have e4 : decide (r = 4) = true := decide_eq_true h4
          simp only [defW, sSeq, sIf, sSet, sRet, sRetN, sExpr, sPar, two, sFor, sRaise, dB, dOp, dUn, dV, dC, dIfE, dM1, dJoin.isS, dSl, dPart, dNoPart, dNot, dAnd, dOr, dNotV, dOrV, dAndV, dChain, dCall, dOwn, dTup, dLst, dLstM, dMet, isL, aCons, aNil, dTru, slot, startD, iOf, its, itsOf, itm, run_bnd, run_ret, run_fail, run_chk, run_rd, run_wr, run_any, run_nox, run_exn, run_tag, see, look, lookM, W.opt, s1, s2, c1, c2, asB, List.map, List.replicate, List.append_eq, List.cons_append, List.nil_append, List.set, andThen, endF, sNil, wipeD, dTrue, gE2, e3, e4, Bool.false_eq_true, if_false, if_true, l2, true_and]
          show (dJoin (dC (D.str "")) (dLc [3] (iOf rng1 (aCons (dOp (s2 gAdd) (dC (D.int 1)) (dOwn 2 F_l_draw (aCons (dV 0) (aCons (dC (D.int 6)) aNil)))) aNil)) (gN 3) dTrue (dOp (s2 gIx) (dV 4) (dOwn 2 F_l_draw (aCons (dV 0) (aCons (dCall (c1 gLen) (aCons (dV 4) aNil)) aNil)))))
            [some (D.ref 0), some (D.int ↑d), some (D.int r), none, some (D.str SIG), none]).run _ _ _
          have sl : SIG.length ≤ sizeLine := Nat.le_of_lt (szOk (by rw [SIG_len]; decide))
          generalize hS : SIG = sig at sl
          have sl44 : sig.length = 45 := by rw [← hS]; exact SIG_len
          have sall : ∀ c ∈ sig.cps.toList, 33 ≤ c ∧ c ≤ 126 := by
            rw [← hS]
            exact fun c hc => of_decide_eq_true (List.all_eq_true.mp SIG_all c hc)
          simp only [dJoin, dJoin.isS, dLc, iOf, dOwn, aCons, aNil, dOp, dC, dV, slot, W.opt, run_bnd, run_ret, run_chk, run_tag, l2, true_and]
          refine run_draw hk1 (by omega) (by decide) (by decide) fun m m0 m6 μ2 hk2 => ?_
          obtain ⟨k, rfl⟩ : ∃ k : Nat, m = k := ⟨m.toNat, by omega⟩
          simp only [run_bnd, run_ret, s2, see, look, W.opt, run_rd, gAdd, rng1, run_chk, itm, run_nox, wipeD, List.set]
          have e1k : ((1 : Int) + (k : Nat)).toNat = k + 1 := by omega
          rw [e1k]
          refine ⟨⟨by omega, by omega⟩, by rw [rngD_len]; exact szOk (by omega), ?_⟩
          refine run_lcG (N := k + 1) (fun μ acc => ∃ cs : List Nat, acc = (cs.map fun c => D.str ⟨#[c]⟩) ∧ (∀ c ∈ cs, 33 ≤ c ∧ c ≤ 126) ∧ Dk μ (t + 1 + 1 + acc.length)) _ [] (by rw [rngD_len]; simp) (fun x μ acc hl ⟨cs, ea, hx2, hkk⟩ Q' hq => ?_) ⟨[], rfl, fun x hx => absurd hx (by simp), by simpa using hk2⟩ (fun ys μ' hl ⟨cs, ea, hx2, hkk⟩ => ?_)
          · simp only [dOp, dOwn, dCall, aCons, aNil, List.set, dV, slot, W.opt, run_bnd, run_ret, c1, see, look, run_rd, gLen, sl, run_chk, run_tag, l2, true_and, sl44]
            refine ⟨by decide, ?_⟩
            refine run_draw hkk (by omega) (by decide) (by decide) fun j j0 j44 μ3 hk3 => ?_
            obtain ⟨i, rfl⟩ : ∃ i : Nat, j = i := ⟨j.toNat, by omega⟩
            have hi : i < sig.cps.toList.length := by rw [len_cps]; omega
            have at0 : L2.atI sig.cps.toList (i : Int) = some sig.cps.toList[i] := atI_nat (List.getElem?_eq_getElem hi)
            simp only [s2, see, look, W.opt, run_bnd, run_ret, run_rd, gIx, sl, run_chk, true_and, at0, Option.map]
            refine hq _ _ ⟨cs ++ [sig.cps.toList[i]], by rw [List.map_append, ea]; rfl, fun c hc => ?_, ?_⟩
            · rcases List.mem_append.mp hc with hc | hc
              · exact hx2 c hc
              · rw [List.mem_singleton.mp hc]
                exact sall _ (List.getElem_mem hi)
            · rw [List.length_append, List.length_singleton]
              exact hk3.mono (by omega)
          · rw [List.nil_append] at ea hkk
            subst ea
            have hcl : cs.length = k + 1 := by rw [List.length_map, rngD_len] at hl; exact hl
            have hsum : ((cs.map fun c => (⟨#[c]⟩ : Str)).map (·.length)).sum = cs.length := by
              rw [List.map_map]
              show (cs.map fun _ => 1).sum = _
              rw [List.map_const', List.sum_replicate_nat, Nat.mul_one]
            have e0 : ("" : Str).length = 0 := by decide +kernel
            simp only [run_bnd, run_ret, gJoin, see, look, W.opt, run_rd, seqOf, strsD_map, run_chk, hsum, e0, Nat.mul_zero, endF]
            refine ⟨by omega, ?_⟩
            generalize hJ : Txt.join "" (cs.map fun c => (⟨#[c]⟩ : Str)) = J
            have hj : J.cps.toList = cs := by rw [← hJ]; exact join_signs cs
            have hjl : J.length = k + 1 := by rw [← len_cps, hj, hcl]
            have ex : D.str J = dT (.str J) := by rw [dT]
            rw [ex]
            refine q (.str J) _ ⟨⟨by omega, by omega, by rw [hj]; exact hx2⟩, wD_pos d⟩ (hkk.mono ?_)
            rw [List.length_map]
            omega
        · have e4 : decide (r = 4) = false := decide_eq_false h4
          by_cases h5 : r = 5
          · have e5 : decide (r = 5) = true := decide_eq_true h5
            have l8 : ([D.str "none", .str "(", .str ")", .str "'", .str "-1", .str "0", .str "gate", .str "and"] : List D).length ≤ sizeLine := Nat.le_of_lt (szOk (by decide))
            have G := eight_good
            have l88 : ([D.str "none", .str "(", .str ")", .str "'", .str "-1", .str "0", .str "gate", .str "and"] : List D).length = 8 := rfl
            simp only [defW, sSeq, sIf, sSet, sRet, sRetN, sExpr, sPar, two, sFor, sRaise, dB, dOp, dUn, dV, dC, dIfE, dM1, dJoin.isS, dSl, dPart, dNoPart, dNot, dAnd, dOr, dNotV, dOrV, dAndV, dChain, dCall, dOwn, dTup, dLst, dLstM, dMet, isL, aCons, aNil, dTru, slot, startD, iOf, its, itsOf, itm, run_bnd, run_ret, run_fail, run_chk, run_rd, run_wr, run_any, run_nox, run_exn, run_tag, see, look, lookM, W.opt, s1, s2, c1, c2, asB, List.map, List.replicate, List.append_eq, List.cons_append, List.nil_append, List.set, andThen, endF, sNil, wipeD, dTrue, gE2, e3, e4, e5, Bool.false_eq_true, if_false, if_true, l2, true_and]
            revert l8 G l88
            generalize [D.str "none", .str "(", .str ")", .str "'", .str "-1", .str "0", .str "gate", .str "and"] = xs
            intro l8 G l88
            refine ⟨l8, ?_⟩
            refine run_draw hk1 (by omega) (by decide) (by decide) fun j j0 j8 μ3 hk3 => ?_
            obtain ⟨i, rfl⟩ : ∃ i : Nat, j = i := ⟨j.toNat, by omega⟩
            have hi : i < xs.length := by omega
            obtain ⟨w, ew, gw⟩ := G xs[i] (List.getElem_mem hi)
            have at0 : L2.atI xs (i : Int) = some (.str w) := atI_nat (by rw [List.getElem?_eq_getElem hi, ew])
            simp only [defW, sSeq, sIf, sSet, sRet, sRetN, sExpr, sPar, two, sFor, sRaise, dB, dOp, dUn, dV, dC, dIfE, dM1, dJoin.isS, dSl, dPart, dNoPart, dNot, dAnd, dOr, dNotV, dOrV, dAndV, dChain, dCall, dOwn, dTup, dLst, dLstM, dMet, isL, aCons, aNil, dTru, slot, startD, iOf, its, itsOf, itm, run_bnd, run_ret, run_fail, run_chk, run_rd, run_wr, run_any, run_nox, run_exn, run_tag, see, look, lookM, W.opt, s1, s2, c1, c2, asB, List.map, List.replicate, List.append_eq, List.cons_append, List.nil_append, List.set, andThen, endF, sNil, wipeD, dTrue, gIx, at0]
            have ex : D.str w = dT (.str w) := by rw [dT]
            rw [ex]
            exact q (.str w) _ ⟨gw, wD_pos d⟩ (hk3.mono (by omega))
          · have e5 : decide (r = 5) = false := decide_eq_false h5
            have p1 : CPow 10 39 := ⟨by decide, by decide, by decide⟩
            have p2 : CPow 10 12 := ⟨by decide, by decide, by decide⟩
            have t39 : (39 : Int).toNat = 39 := rfl
            have t12 : (12 : Int).toNat = 12 := rfl
            simp only [defW, sSeq, sIf, sSet, sRet, sRetN, sExpr, sPar, two, sFor, sRaise, dB, dOp, dUn, dV, dC, dIfE, dM1, dJoin.isS, dSl, dPart, dNoPart, dNot, dAnd, dOr, dNotV, dOrV, dAndV, dChain, dCall, dOwn, dTup, dLst, dLstM, dMet, isL, aCons, aNil, dTru, slot, startD, iOf, its, itsOf, itm, run_bnd, run_ret, run_fail, run_chk, run_rd, run_wr, run_any, run_nox, run_exn, run_tag, see, look, lookM, W.opt, s1, s2, c1, c2, asB, List.map, List.replicate, List.append_eq, List.cons_append, List.nil_append, List.set, andThen, endF, sNil, wipeD, dTrue, gE2, e3, e4, e5, Bool.false_eq_true, if_false, l2, true_and]
            refine run_draw hk1 (by omega) (by decide) (by decide) fun b1 b10 b1k μ3 hk3 => ?_
            simp only [gPow, oI, p1, p2, run_chk, run_ret, true_and, t39, t12]
            refine run_draw hk3 (by omega) (by decide) (by decide) fun b2 b20 b2k μ4 hk4 => ?_
            simp only [DL.gSub, oI0, run_ret, gPow, oI, p1, p2, run_chk, true_and, t39, t12, run_bnd]
            refine ⟨rfl, ?_⟩
            refine run_draw hk4 (by omega) (by decide) (by decide) fun b3 b30 b3k μ5 hk5 => ?_
            have G : ∀ x ∈ [D.int 0, .int 9, .int 10, .int 99, .int 100, .int b1, .int (10 ^ 39 - b2), .int b3], ∃ m : Int, x = .int m ∧ m.natAbs < 10 ^ 41 :=
              allC ⟨_, rfl, by decide⟩ (allC ⟨_, rfl, by decide⟩ (allC ⟨_, rfl, by decide⟩ (allC ⟨_, rfl, by decide⟩ (allC ⟨_, rfl, by decide⟩ (allC ⟨_, rfl, by omega⟩ (allC ⟨_, rfl, by omega⟩ (allC ⟨_, rfl, by omega⟩ allN)))))))
            have l88 : ([D.int 0, .int 9, .int 10, .int 99, .int 100, .int b1, .int (10 ^ 39 - b2), .int b3] : List D).length = 8 := rfl
            have l8 : ([D.int 0, .int 9, .int 10, .int 99, .int 100, .int b1, .int (10 ^ 39 - b2), .int b3] : List D).length ≤ sizeLine := Nat.le_of_lt (szOk (by rw [l88]; decide))
            revert l8 G l88
            generalize [D.int 0, .int 9, .int 10, .int 99, .int 100, .int b1, .int (10 ^ 39 - b2), .int b3] = xs
            intro G l88 l8
            refine ⟨l8, ?_⟩
            refine run_draw hk5 (by omega) (by decide) (by decide) fun j j0 j8 μ6 hk6 => ?_
            obtain ⟨i, rfl⟩ : ∃ i : Nat, j = i := ⟨j.toNat, by omega⟩
            have hi : i < xs.length := by omega
            obtain ⟨m, em, gm⟩ := G xs[i] (List.getElem_mem hi)
            have at0 : L2.atI xs (i : Int) = some (.int m) := atI_nat (by rw [List.getElem?_eq_getElem hi, em])
            have z2 : ([D.int 1, D.int (-1)] : List D).length ≤ sizeLine := two_le
            simp only [defW, sSeq, sIf, sSet, sRet, sRetN, sExpr, sPar, two, sFor, sRaise, dB, dOp, dUn, dV, dC, dIfE, dM1, dJoin.isS, dSl, dPart, dNoPart, dNot, dAnd, dOr, dNotV, dOrV, dAndV, dChain, dCall, dOwn, dTup, dLst, dLstM, dMet, isL, aCons, aNil, dTru, slot, startD, iOf, its, itsOf, itm, run_bnd, run_ret, run_fail, run_chk, run_rd, run_wr, run_any, run_nox, run_exn, run_tag, see, look, lookM, W.opt, s1, s2, c1, c2, asB, List.map, List.replicate, List.append_eq, List.cons_append, List.nil_append, List.set, andThen, endF, sNil, wipeD, dTrue, gIx, at0, gNeg, z2, true_and, l2]
            refine run_draw hk6 (by omega) (by decide) (by decide) fun v v0 v2 μ7 hk7 => ?_
            obtain ⟨sg, hs, at1⟩ : ∃ s : Int, (s = 1 ∨ s = -1) ∧ L2.atI [D.int 1, D.int (-1)] v = some (.int s) := by
              rcases (show v = 0 ∨ v = 1 by omega) with rfl | rfl
              · exact ⟨1, .inl rfl, rfl⟩
              · exact ⟨-1, .inr rfl, rfl⟩
            obtain ⟨k1, k2⟩ := intSm gm hs
            simp only [defW, sSeq, sIf, sSet, sRet, sRetN, sExpr, sPar, two, sFor, sRaise, dB, dOp, dUn, dV, dC, dIfE, dM1, dJoin.isS, dSl, dPart, dNoPart, dNot, dAnd, dOr, dNotV, dOrV, dAndV, dChain, dCall, dOwn, dTup, dLst, dLstM, dMet, isL, aCons, aNil, dTru, slot, startD, iOf, its, itsOf, itm, run_bnd, run_ret, run_fail, run_chk, run_rd, run_wr, run_any, run_nox, run_exn, run_tag, see, look, lookM, W.opt, s1, s2, c1, c2, asB, List.map, List.replicate, List.append_eq, List.cons_append, List.nil_append, List.set, andThen, endF, sNil, wipeD, dTrue, gIx, at1, gMul, k1, true_and]
            have ex : D.int (m * sg) = dT (.int (m * sg)) := by rw [dT]
            rw [ex]
            exact q (.int (m * sg)) _ ⟨k2, wD_pos d⟩ (hk7.mono (by omega))
end K68

namespace K68
open PySem PySem.Spec PyProof.Rows L2 Kit DL
/-! ### its words, its line -/
def wsD (ws : List Str) : List D := ws.map D.str
theorem run_wloop {n : Nat} {E : Exn → Mu → Prop} {e0 : Option D} (ih : ∀ (x : Td) {μ : Mu} {Q : D → Mu → Prop} {E : Exn → Mu → Prop}, depT x < n → wfT x → (wordsT x).length ≤ 1000 → Q (.lst (wsD (wordsT x))) μ → (F_l_words_of n [dT x]).run Q E μ) :
    ∀ (xs : List Td) (acc : List Str) {μ : Mu} {e2 : Option D} {Q : Fl → Mu → Prop}, (∀ x ∈ xs, depT x < n ∧ wfT x) → acc.length + (wordsL xs).length ≤ 1000 → (∀ v, Q (.nx [e0, some (.lst (wsD (acc ++ wordsL xs))), v]) μ) →
      (forW (gN 2) (L_l_words_of_1 (F_l_words_of n)) (fun _ => True) (dTL xs) [e0, some (.lst (wsD acc)), e2]).run Q E μ
  | [], acc, μ, e2, Q, _, _, q => ⟨True.intro, by
      have := q e2
      rw [wordsL, List.append_nil] at this
      exact this⟩
  | x :: xs, acc, μ, e2, Q, h, hl, q => by
    rw [wordsL, List.length_append] at hl
    refine ⟨True.intro, ?_⟩
    show ((L_l_words_of_1 (F_l_words_of n) [e0, some (.lst (wsD acc)), some (dT x)]).bnd _).run _ _ _
    have l1 : ([dT x] : List D).length = 1 := rfl
    simp only [L_l_words_of_1, sSet, dOp, dOwn, dV, aCons, aNil, slot, W.opt, run_bnd, run_ret, run_chk, run_tag, l1, true_and]
    refine ih x (h x List.mem_cons_self).1 (h x List.mem_cons_self).2 (by omega) ?_
    have lw : ∀ ws : List Str, (wsD ws).length = ws.length := fun ws => List.length_map _
    have sz : (wsD acc).length + (wsD (wordsT x)).length ≤ sizeLine := Nat.le_of_lt (szOk (by rw [lw, lw]; omega))
    simp only [s2, see, look, W.opt, run_bnd, run_ret, run_rd, gAdd, run_chk, sz, true_and, List.set, forStep]
    have ea : wsD acc ++ wsD (wordsT x) = wsD (acc ++ wordsT x) := (List.map_append).symm
    rw [ea]
    refine run_wloop ih xs (acc ++ wordsT x) (fun y hy => h y (List.mem_cons_of_mem _ hy)) (by rw [List.length_append]; omega) fun v => ?_
    have := q v
    rw [wordsL, ← List.append_assoc] at this
    exact this
theorem dep_mem : ∀ (xs : List Td) (x : Td), x ∈ xs → depT x ≤ depL xs
  | [], _, h => absurd h (by simp)
  | y :: ys, x, h => by
    rw [depL]
    rcases List.mem_cons.mp h with e | e
    · rw [e]; exact Nat.le_max_left _ _
    · exact Nat.le_trans (dep_mem ys x e) (Nat.le_max_right _ _)
theorem run_words : ∀ (n : Nat) (x : Td) {μ : Mu} {Q : D → Mu → Prop} {E : Exn → Mu → Prop}, depT x < n → wfT x → (wordsT x).length ≤ 1000 → Q (.lst (wsD (wordsT x))) μ → (F_l_words_of n [dT x]).run Q E μ
  | 0, _, _, _, _, h, _, _, _ => absurd h (Nat.not_lt_zero _)
  | n + 1, x, μ, Q, E, hd, hw, hl, q => by
    have m1 : "tuple" ∈ ["int", "str", "tuple", "list", "bool", "dict"] := by decide
    have m2 : "int" ∈ ["int", "str", "tuple", "list", "bool", "dict"] := by decide
    have o1 : oneI "tuple" "tuple" = true := by decide
    have o2 : oneI "NoneType" "tuple" = false := by decide
    have o3 : oneI "str" "tuple" = false := by decide
    have o4 : oneI "int" "tuple" = false := by decide
    have o5 : oneI "NoneType" "int" = false := by decide
    have o6 : oneI "str" "int" = false := by decide
    have o7 : oneI "int" "int" = true := by decide
    have l1 : ∀ y : D, ([y] : List D).length ≤ sizeLine := fun _ => (show 1 ≤ sizeLine by decide)
    have l3 : ∀ a b c : D, ([a, b, c] : List D).length ≤ sizeLine := fun _ _ _ => three_le
    show (defW 2 (B_l_words_of (F_l_words_of n)) [dT x]).run Q E μ
    cases x with
    | tup xs =>
      have ex : dT (.tup xs) = .tup (dTL xs) := by rw [dT]
      rw [ex]
      rw [depT] at hd
      rw [wfT, wfL_iff] at hw
      rw [wordsT, List.length_cons, List.length_append] at hl
      have hl : (wordsL xs).length + 1 + 1 ≤ 1000 := hl
      simp only [B_l_words_of, defW, sSeq, sIf, sSet, sRet, sRetN, sExpr, sPar, two, sFor, sRaise, dB, dOp, dUn, dV, dC, dIfE, dM1, dJoin.isS, dSl, dPart, dNoPart, dNot, dAnd, dOr, dNotV, dOrV, dAndV, dChain, dCall, dOwn, dTup, dLst, dLstM, dMet, isL, aCons, aNil, dTru, slot, startD, iOf, its, itsOf, itm, run_bnd, run_ret, run_fail, run_chk, run_rd, run_wr, run_any, run_nox, run_exn, run_tag, see, look, lookM, W.opt, s1, s2, c1, c2, asB, List.map, List.replicate, List.append_eq, List.cons_append, List.nil_append, List.set, andThen, endF, sNil, wipeD, dTrue, gIs1, m1, tyN, o1, true_and, if_true, l1]
      refine run_wloop (run_words n) xs [("(" : Str)] (fun y hy => ⟨by have := dep_mem xs y hy; omega, hw y hy⟩) (by show 1 + _ ≤ _; omega) fun v => ?_
      have lw : ∀ ws : List Str, (wsD ws).length = ws.length := fun ws => List.length_map _
      have sz : (wsD ([("(" : Str)] ++ wordsL xs)).length + ([D.str ")"] : List D).length ≤ sizeLine := Nat.le_of_lt (szOk (by rw [lw, List.length_append]; show 1 + _ + 1 ≤ _; omega))
      simp only [defW, sSeq, sIf, sSet, sRet, sRetN, sExpr, sPar, two, sFor, sRaise, dB, dOp, dUn, dV, dC, dIfE, dM1, dJoin.isS, dSl, dPart, dNoPart, dNot, dAnd, dOr, dNotV, dOrV, dAndV, dChain, dCall, dOwn, dTup, dLst, dLstM, dMet, isL, aCons, aNil, dTru, slot, startD, iOf, its, itsOf, itm, run_bnd, run_ret, run_fail, run_chk, run_rd, run_wr, run_any, run_nox, run_exn, run_tag, see, look, lookM, W.opt, s1, s2, c1, c2, asB, List.map, List.replicate, List.append_eq, List.cons_append, List.nil_append, List.set, andThen, endF, sNil, wipeD, dTrue, gAdd, l1, sz, true_and]
      have ea : wsD ([("(" : Str)] ++ wordsL xs) ++ [D.str ")"] = wsD (wordsT (.tup xs)) := by
        rw [wordsT]
        unfold wsD
        simp
      refine ⟨sz, ?_⟩
      show Q (.lst (wsD ([("(" : Str)] ++ wordsL xs) ++ [D.str ")"])) μ
      rw [ea]
      exact q
    | non =>
      have ex : dT .non = .non := by rw [dT]
      have sz : ("'" : Str).length + ("None" : Str).length ≤ sizeLine := Nat.le_of_lt (szOk (by decide +kernel))
      have at0 : ∀ a b c : D, L2.atI [a, b, c] 0 = some a := fun a b c => atI_nat (j := 0) rfl
      rw [ex]
      simp only [B_l_words_of, defW, sSeq, sIf, sSet, sRet, sRetN, sExpr, sPar, two, sFor, sRaise, dB, dOp, dUn, dV, dC, dIfE, dM1, dJoin.isS, dSl, dPart, dNoPart, dNot, dAnd, dOr, dNotV, dOrV, dAndV, dChain, dCall, dOwn, dTup, dLst, dLstM, dMet, isL, aCons, aNil, dTru, slot, startD, iOf, its, itsOf, itm, run_bnd, run_ret, run_fail, run_chk, run_rd, run_wr, run_any, run_nox, run_exn, run_tag, see, look, lookM, W.opt, s1, s2, c1, c2, asB, List.map, List.replicate, List.append_eq, List.cons_append, List.nil_append, List.set, andThen, endF, sNil, wipeD, dTrue, gIs1, m1, m2, tyN, o2, o5, true_and, Bool.false_eq_true, if_false, l1, l3, gAdd, X21.gStrN, gStr, gIsN, Bool.not_true, X21.gIntL, gInt, sz, gIx, Int.add_zero, at0]
      exact q
    | str z =>
      have ex : dT (.str z) = .str z := by rw [dT]
      rw [wfT] at hw
      have h1 : ("'" : Str).length = 1 := by decide +kernel
      have hz := hw.2.1
      have sz : ("'" : Str).length + z.length ≤ sizeLine := Nat.le_of_lt (szOk (by omega))
      have at1 : ∀ a b c : D, L2.atI [a, b, c] (1 + 0) = some b := fun a b c => atI_nat (j := 1) rfl
      rw [ex]
      simp only [B_l_words_of, defW, sSeq, sIf, sSet, sRet, sRetN, sExpr, sPar, two, sFor, sRaise, dB, dOp, dUn, dV, dC, dIfE, dM1, dJoin.isS, dSl, dPart, dNoPart, dNot, dAnd, dOr, dNotV, dOrV, dAndV, dChain, dCall, dOwn, dTup, dLst, dLstM, dMet, isL, aCons, aNil, dTru, slot, startD, iOf, its, itsOf, itm, run_bnd, run_ret, run_fail, run_chk, run_rd, run_wr, run_any, run_nox, run_exn, run_tag, see, look, lookM, W.opt, s1, s2, c1, c2, asB, List.map, List.replicate, List.append_eq, List.cons_append, List.nil_append, List.set, andThen, endF, sNil, wipeD, dTrue, gIs1, m1, m2, tyN, o3, o6, true_and, Bool.false_eq_true, if_false, l1, l3, gAdd, X21.gStrN, gStr, gIsN, X21.gIntL, gInt, sz, gIx, if_true, at1]
      exact q
    | int i =>
      have ex : dT (.int i) = .int i := by rw [dT]
      rw [wfT] at hw
      have hg : i.natAbs < 10 ^ 500 := Nat.lt_trans hw (Nat.pow_lt_pow_right (by decide) (by decide))
      have lg := big_log hg
      have hil : (istr i).length ≤ 501 := istr_len hg
      have h1 : ("'" : Str).length = 1 := by decide +kernel
      have h2 : (Str.ofString (toString i)).length ≤ 501 := hil
      have sz : ("'" : Str).length + (Str.ofString (toString i)).length ≤ sizeLine := Nat.le_of_lt (szOk (by omega))
      have at2 : ∀ a b c : D, L2.atI [a, b, c] (1 + 1) = some c := fun a b c => atI_nat (j := 2) rfl
      rw [ex]
      simp only [B_l_words_of, defW, sSeq, sIf, sSet, sRet, sRetN, sExpr, sPar, two, sFor, sRaise, dB, dOp, dUn, dV, dC, dIfE, dM1, dJoin.isS, dSl, dPart, dNoPart, dNot, dAnd, dOr, dNotV, dOrV, dAndV, dChain, dCall, dOwn, dTup, dLst, dLstM, dMet, isL, aCons, aNil, dTru, slot, startD, iOf, its, itsOf, itm, run_bnd, run_ret, run_fail, run_chk, run_rd, run_wr, run_any, run_nox, run_exn, run_tag, see, look, lookM, W.opt, s1, s2, c1, c2, asB, List.map, List.replicate, List.append_eq, List.cons_append, List.nil_append, List.set, andThen, endF, sNil, wipeD, dTrue, gIs1, m1, m2, tyN, o4, o7, true_and, Bool.false_eq_true, if_false, l1, l3, gAdd, X21.gStrN, gStr, gIsN, X21.gIntL, gInt, sz, gIx, if_true, at2, lg]
      exact q
/-! the line -/
theorem gather_strs (ws : List Str) : strsD (wsD ws) = some ws := by
  induction ws with
  | nil => rfl
  | cons w ws ih =>
    show (strsD (wsD ws)).map (w :: ·) = _
    rw [ih]
    rfl
theorem join_cps (ws : List Str) : (Txt.join " " ws).cps.toList = TL.joinL [32] (ws.map fun w => w.cps.toList) := by
  rw [TL.join_eq]
  refine (TL.tl_join " " ws).trans ?_
  rw [show TL.tl (" " : Str) = [32] from by decide +kernel]
/-- of parts to a line: their signs, their blanks, their runs -/
theorem joinLP {M : Nat} : ∀ parts : List (List Nat), (∀ p ∈ parts, RunLe M p ∧ ∀ c ∈ p, c = 10 ∨ (32 ≤ c ∧ c ≤ 126)) →
    LP (TL.joinL [32] parts) ((parts.map (·.length)).sum + parts.length) ((parts.map (·.count 32)).sum + (parts.length - 1)) M
  | [], _ => ⟨Nat.zero_le _, Nat.zero_le _, run1 (Nat.zero_le _), fun c hc => absurd hc (by simp [TL.joinL])⟩
  | [p], h => by
    obtain ⟨h1, h2⟩ := h p List.mem_cons_self
    refine ⟨?_, ?_, h1, h2⟩
    · show p.length ≤ p.length + 0 + 1
      omega
    · show p.count 32 ≤ p.count 32 + 0 + 0
      omega
  | p :: q :: r, h => by
    obtain ⟨h1, h2⟩ := h p List.mem_cons_self
    have ih := joinLP (q :: r) fun x hx => h x (List.mem_cons_of_mem _ hx)
    show LP (p ++ ([32] ++ TL.joinL [32] (q :: r))) _ _ M
    refine ⟨?_, ?_, RunLe.blank h1 ih.run, fun c hc => ?_⟩
    · have i1 := ih.len
      have e : (p :: q :: r).length = (q :: r).length + 1 := rfl
      rw [List.length_append, List.length_append, List.map_cons, List.sum_cons]
      show p.length + (1 + _) ≤ _
      omega
    · have i1 := ih.cnt
      have e : (p :: q :: r).length = (q :: r).length + 1 := rfl
      have e2 : (q :: r).length = r.length + 1 := rfl
      rw [List.count_append, List.count_append, List.map_cons, List.sum_cons]
      show p.count 32 + (1 + _) ≤ _
      omega
    · rcases List.mem_append.mp hc with hc | hc
      · exact h2 c hc
      · rcases List.mem_append.mp hc with hc | hc
        · rw [List.mem_singleton.mp hc]
          exact .inr ⟨Nat.le_refl _, by decide⟩
        · exact ih.sg c hc
end K68

namespace K68
open PySem PySem.Spec PyProof.Rows L2 Kit DL
/-! ### a line bent -/
theorem cutD_to {α : Type} (xs : List α) (k : Nat) : DL.cutD xs none (some (k : Int)) = xs.take k := by
  unfold DL.cutD
  rw [HT.sIx_none, show HT.sIx xs.length xs.length (some (k : Int)) = min k xs.length from HT.sIx_nat _ _ k, List.drop_zero, Nat.sub_zero]
  exact (List.take_eq_take_min).symm
theorem cutD_from {α : Type} (xs : List α) (k : Nat) : DL.cutD xs (some (k : Int)) none = xs.drop k := by
  unfold DL.cutD
  rw [HT.sIx_none, show HT.sIx xs.length 0 (some (k : Int)) = min k xs.length from HT.sIx_nat _ _ k]
  by_cases h : k ≤ xs.length
  · rw [Nat.min_eq_left h]
    exact List.take_of_length_le (by rw [List.length_drop]; exact Nat.le_refl _)
  · rw [Nat.min_eq_right (by omega), List.drop_of_length_le (Nat.le_refl _), List.drop_of_length_le (by omega), List.take_nil]
theorem cutD_mid {α : Type} (xs : List α) (j k : Nat) (h : j ≤ k) : DL.cutD xs (some (j : Int)) (some (k : Int)) = (xs.drop j).take (k - j) := by
  unfold DL.cutD
  rw [show HT.sIx xs.length xs.length (some (k : Int)) = min k xs.length from HT.sIx_nat _ _ k, show HT.sIx xs.length 0 (some (j : Int)) = min j xs.length from HT.sIx_nat _ _ j]
  by_cases hj : j ≤ xs.length
  · rw [Nat.min_eq_left hj]
    by_cases hk : k ≤ xs.length
    · rw [Nat.min_eq_left hk]
    · rw [Nat.min_eq_right (by omega), List.take_of_length_le (by rw [List.length_drop]; exact Nat.le_refl _), List.take_of_length_le (by rw [List.length_drop]; omega)]
  · have a : min j xs.length = xs.length := Nat.min_eq_right (by omega)
    have b : min k xs.length = xs.length := Nat.min_eq_right (by omega)
    rw [a, b, List.drop_of_length_le (Nat.le_refl _), List.drop_of_length_le (by omega), List.take_nil, List.take_nil]
theorem wsD_take (ws : List Str) (k : Nat) : (wsD ws).take k = wsD (ws.take k) := (List.map_take).symm
theorem wsD_drop (ws : List Str) (k : Nat) : (wsD ws).drop k = wsD (ws.drop k) := (List.map_drop).symm
theorem wsD_app (a b : List Str) : wsD a ++ wsD b = wsD (a ++ b) := (List.map_append).symm
theorem wsD_rev (a : List Str) : (wsD a).reverse = wsD a.reverse := (List.map_reverse).symm
theorem wsD_len (a : List Str) : (wsD a).length = a.length := List.length_map _
/-- sizes of words -/
structure WP (ws : List Str) (S M : Nat) : Prop where
  len : (ws.map fun w => w.cps.toList.length).sum ≤ S
  each : ∀ w ∈ ws, RunLe M w.cps.toList ∧ ∀ c ∈ w.cps.toList, c = 10 ∨ (32 ≤ c ∧ c ≤ 126)
def cntW (ws : List Str) : Nat := (ws.map fun w => w.cps.toList.count 32).sum
theorem WP.app {a b : List Str} {S T M : Nat} (h : WP a S M) (g : WP b T M) : WP (a ++ b) (S + T) M :=
  ⟨by rw [List.map_append, List.sum_append]; have := h.len; have := g.len; omega, fun w hw => (List.mem_append.mp hw).elim (h.each w) (g.each w)⟩
theorem WP.mono {a : List Str} {S T M N : Nat} (h : WP a S M) (h1 : S ≤ T) (h2 : M ≤ N) : WP a T N := ⟨Nat.le_trans h.len h1, fun w hw => ⟨(h.each w hw).1.mono h2, (h.each w hw).2⟩⟩
theorem sum_take (l : List Nat) (k : Nat) : (l.take k).sum ≤ l.sum := by
  conv => rhs; rw [← List.take_append_drop k l, List.sum_append]
  omega
theorem sum_drop (l : List Nat) (k : Nat) : (l.drop k).sum ≤ l.sum := by
  conv => rhs; rw [← List.take_append_drop k l, List.sum_append]
  omega
theorem WP.take {a : List Str} {S M : Nat} (h : WP a S M) (k : Nat) : WP (a.take k) S M :=
  ⟨by rw [List.map_take]; exact Nat.le_trans (sum_take _ _) h.len, fun w hw => h.each w (List.mem_of_mem_take hw)⟩
theorem WP.drop {a : List Str} {S M : Nat} (h : WP a S M) (k : Nat) : WP (a.drop k) S M :=
  ⟨by rw [List.map_drop]; exact Nat.le_trans (sum_drop _ _) h.len, fun w hw => h.each w (List.mem_of_mem_drop hw)⟩
theorem WP.rev {a : List Str} {S M : Nat} (h : WP a S M) : WP a.reverse S M :=
  ⟨by rw [List.map_reverse, List.sum_reverse]; exact h.len, fun w hw => h.each w (List.mem_reverse.mp hw)⟩
theorem cntW_app (a b : List Str) : cntW (a ++ b) = cntW a + cntW b := by unfold cntW; rw [List.map_append, List.sum_append]
theorem cntW_zero {a : List Str} (h : ∀ w ∈ a, 32 ∉ w.cps.toList) : cntW a = 0 := by
  unfold cntW
  induction a with
  | nil => rfl
  | cons w a ih =>
    rw [List.map_cons, List.sum_cons, List.count_eq_zero.mpr (h w List.mem_cons_self), ih fun x hx => h x (List.mem_cons_of_mem _ hx)]
theorem WP.line {ws : List Str} {S M k n : Nat} (h : WP ws S M) (hk : ws.length ≤ k + 1) (hc : cntW ws ≤ n) : LP (Txt.join " " ws).cps.toList (S + k + 1) (n + k) M := by
  rw [join_cps]
  refine (joinLP (M := M) (ws.map fun w => w.cps.toList) fun p hp => ?_).mono ?_ ?_ (Nat.le_refl _)
  · obtain ⟨w, hw, rfl⟩ := List.mem_map.mp hp
    exact h.each w hw
  · have := h.len
    rw [List.map_map, List.length_map]
    show (ws.map fun w => w.cps.toList.length).sum + ws.length ≤ _
    omega
  · rw [List.map_map, List.length_map]
    show cntW ws + (ws.length - 1) ≤ _
    omega
theorem LP.words {z : Str} {L n M : Nat} (h : LP z.cps.toList L n M) : WP (Txt.split z " ") L M ∧ (Txt.split z " ").length ≤ n + 1 ∧ ∀ w ∈ Txt.split z " ", 32 ∉ w.cps.toList := by
  obtain ⟨h1, h2, h3, h4⟩ := spW_all z.cps.toList
  obtain ⟨s1, s2, s3⟩ := h.split
  refine ⟨⟨?_, fun w hw => ⟨run1 (by rw [len_cps]; exact (s3 w hw).1), fun c hc => ?_⟩⟩, s1, fun w hw => (s3 w hw).2.2.1⟩
  · rw [split_eq, List.map_map]
    show ((spW z.cps.toList).map fun p => p.length).sum ≤ L
    have key : ∀ parts : List (List Nat), (parts.map (·.length)).sum ≤ (TL.joinL [32] parts).length := by
      intro parts
      induction parts with
      | nil => exact Nat.le_refl _
      | cons p parts ih =>
        cases parts with
        | nil => exact Nat.le_refl _
        | cons q r =>
          show _ ≤ (p ++ ([32] ++ TL.joinL [32] (q :: r))).length
          rw [List.map_cons, List.sum_cons, List.length_append, List.length_append]
          omega
    have := key (spW z.cps.toList)
    rw [h1] at this
    exact Nat.le_trans this h.len
  · rcases (s3 w hw).2.2.2 c hc with e | e
    · exact .inl e
    · exact .inr ⟨by omega, e.2⟩
/-- put in, left out, put for -/
theorem LP.ins {l s : List Nat} {L n M : Nat} (h : LP l L n M) (hs : LP s 1 1 1) (a b : Nat) (hab : a ≤ b) : LP (l.take a ++ s ++ l.drop b) (2 * L + 1) (n + 1) (2 * M + 1) := by
  have t1 : LP (l.take a) L n M := h.sub (x := []) (z := l.drop a) (by rw [List.nil_append, List.take_append_drop])
  have t2 : LP (l.drop b) L n M := h.sub (x := l.take b) (z := []) (by rw [List.append_nil, List.take_append_drop])
  have A := (t1.app hs).app t2
  refine ⟨by have := A.len; omega, ?_, A.run.mono (by omega), A.sg⟩
  have c1 : (l.take a).count 32 + (l.drop a).count 32 = l.count 32 := by rw [← List.count_append, List.take_append_drop]
  have c2 : (l.drop b).count 32 ≤ (l.drop a).count 32 := by
    have e : l.drop b = (l.drop a).drop (b - a) := by rw [List.drop_drop]; congr 1; omega
    rw [e]
    exact (List.drop_sublist _ _).count_le 32
  have := h.cnt
  have := hs.cnt
  rw [List.count_append, List.count_append]
  omega
end K68

namespace K68
open PySem PySem.Spec PyProof.Rows L2 Kit DL
/-- a word that is put in -/
structure PutOk (w : Str) : Prop where
  len : w.length ≤ 60
  cnt : w.cps.toList.count 32 ≤ 1
  sg : ∀ c ∈ w.cps.toList, c = 10 ∨ (32 ≤ c ∧ c ≤ 126)
def putB (l : List Nat) : Bool := decide (l.length ≤ 60) && (decide (l.count 32 ≤ 1) && l.all fun c => decide (c = 10 ∨ (32 ≤ c ∧ c ≤ 126)))
theorem putB_ok {w : Str} (h : putB w.cps.toList = true) : PutOk w := by
  unfold putB at h
  rw [Bool.and_eq_true, Bool.and_eq_true, decide_eq_true_eq, decide_eq_true_eq, List.all_eq_true] at h
  exact ⟨by rw [← len_cps]; exact h.1, h.2.1, fun c hc => of_decide_eq_true (h.2.2 c hc)⟩
def putG (x : D) : Prop := ∃ w : Str, x = .str w ∧ PutOk w
theorem pg {w : Str} (h : putB w.cps.toList = true) : putG (.str w) := ⟨w, rfl, putB_ok h⟩
theorem put_all : ∀ x ∈ [D.str "(", .str ")", .str "none", .str "None", .str "'", .str "''", .str "'a", .str "a", .str "0", .str "00", .str "-0", .str "-", .str "-1", .str "+1", .str "1_0", .str "1.0", .str "", .str "'\n",
    .str "()", .str "( )", .str "12", .str "-12a", .str "'none", .str "nonet", .str (Txt.mul "1" 60), .str "((", .str "'(", .str "\n", .str "none)", .str "0x1", .str "7", .str "'b'"], putG x := by
  iterate 24 (refine allC (pg (by decide +kernel)) ?_)
  refine allC (pg ?_) ?_
  · rw [show (60 : Int) = ((60 : Nat) : Int) from rfl, mulC _ 60 _ (by decide) g3 (by simp)]
    decide +kernel
  iterate 6 (refine allC (pg (by decide +kernel)) ?_)
  exact allC (pg (by decide +kernel)) allN
abbrev SG8 : Str := "()'0-n \n"
theorem slen (x y : Str) : (x ++ y).length = x.length + y.length := by
  rw [← len_cps, cps_app, List.length_append, len_cps, len_cps]
theorem SG8_len : SG8.length = 8 := by decide +kernel
theorem SG8_all : (SG8.cps.toList.all fun c => decide (c = 10 ∨ (32 ≤ c ∧ c ≤ 126))) = true := by decide +kernel
theorem a60 : (Txt.mul "1" 60).length = 60 := by rw [← len_cps, show (60 : Int) = ((60 : Nat) : Int) from rfl, mulC _ 60 _ (by decide) g3 (by simp), rep_one, List.length_replicate]
/-- a statement that goes on -/
theorem step_nx {f g : DS → W Fl} {ε : DS} {Q : Fl → Mu → Prop} {E : Exn → Mu → Prop} {μ : Mu} (P : DS → Mu → Prop) (h : (f ε).run (fun fl μ' => ∃ ε', fl = .nx ε' ∧ P ε' μ') E μ) (k : ∀ ε' μ', P ε' μ' → (g ε').run Q E μ') :
    (sSeq f g ε).run Q E μ :=
  (f ε).mono (fun fl μ' ⟨ε', e, p⟩ => by subst e; exact k ε' μ' p) (fun _ _ z => z) h
theorem run_bent {z : Str} {L n M way t : Nat} {μ : Mu} {Q : D → Mu → Prop} {E : Exn → Mu → Prop} (h : LP z.cps.toList L n M) (hL : L ≤ 30000) (hn : n ≤ 139) (hM : M ≤ 500) (hw : way < 8) (hk : Dk μ t) (ht : t + 10 < 1000000)
    (q : ∀ z' μ', LP z'.cps.toList (3 * L + n + 200) (n + 2) (2 * M + 61) → Dk μ' (t + 4) → Q (.str z') μ') : (F_l_bent [.ref 0, .str z, .int (way : Nat)]).run Q E μ := by
  obtain ⟨wp, wlen, wfree⟩ := h.words
  have wne := h.split.2.1
  have bl : (((" " : Str).length == 0) = false) := by decide +kernel
  have zl : z.length ≤ L := by rw [← len_cps]; exact h.len
  have hz2 : z.length + 2 ≤ sizeLine := Nat.le_of_lt (szOk (by omega))
  have hz1 : z.length ≤ sizeLine := by omega
  have zi : (z.length : Int) ≤ 30000 := by omega
  have l2 : ∀ k : Int, ([D.ref 0, D.int k] : List D).length = 2 := fun _ => rfl
  show (B_l_bent [some (.ref 0), some (.str z), some (.int (way : Nat)), none, none, none, none, none, none, none, none, none]).run (fun a μ' => (endF a).run Q E μ') E μ
  unfold B_l_bent
  -- the words, the spot
  refine step_nx (fun ε μ' => ∃ sp : Nat, sp ≤ z.length ∧ Dk μ' (t + 1) ∧ ε = [some (.ref 0), some (.str z), some (.int (way : Nat)), some (.lst (wsD (Txt.split z " "))), some (.int (sp : Nat)), none, none, none, none, none, none, none]) ?_ ?_
  · simp only [defW, sSeq, sIf, sSet, sRet, sRetN, sExpr, sPar, two, sFor, sRaise, dB, dOp, dUn, dV, dC, dIfE, dM1, dJoin.isS, dSl, dPart, dNoPart, dNot, dAnd, dOr, dNotV, dOrV, dAndV, dChain, dCall, dOwn, dTup, dLst, dLstM, dMet, isL, aCons, aNil, dTru, slot, startD, iOf, its, itsOf, itm, run_bnd, run_ret, run_fail, run_chk, run_rd, run_wr, run_any, run_nox, run_exn, run_tag, see, look, lookM, W.opt, s1, s2, c1, c2, asB, List.map, List.replicate, List.append_eq, List.cons_append, List.nil_append, List.set, andThen, endF, sNil, wipeD, dTrue, gSplit, bl, hz2, hz1, true_and, gLen, gAdd, l2]
    refine run_draw hk (by omega) (by omega) (by omega) fun spot s0 s1 μ1 hk1 => ?_
    exact ⟨_, rfl, spot.toNat, by omega, hk1, by rw [Int.toNat_of_nonneg s0]; rfl⟩
  rintro ε μ1 ⟨sp, hsp, hk1, rfl⟩
  revert wp wlen wfree wne
  generalize Txt.split z " " = ws
  intro wp wlen wfree wne
  have wpos : 1 ≤ ws.length := List.length_pos_iff.mpr wne
  -- the place
  refine step_nx (fun ε μ' => ∃ at_ : Nat, at_ < ws.length ∧ Dk μ' (t + 2) ∧ ε = [some (.ref 0), some (.str z), some (.int (way : Nat)), some (.lst (wsD ws)), some (.int (sp : Nat)), some (.int (at_ : Nat)), none, none, none, none, none, none]) ?_ ?_
  · simp only [defW, sSeq, sIf, sSet, sRet, sRetN, sExpr, sPar, two, sFor, sRaise, dB, dOp, dUn, dV, dC, dIfE, dM1, dJoin.isS, dSl, dPart, dNoPart, dNot, dAnd, dOr, dNotV, dOrV, dAndV, dChain, dCall, dOwn, dTup, dLst, dLstM, dMet, isL, aCons, aNil, dTru, slot, startD, iOf, its, itsOf, itm, run_bnd, run_ret, run_fail, run_chk, run_rd, run_wr, run_any, run_nox, run_exn, run_tag, see, look, lookM, W.opt, s1, s2, c1, c2, asB, List.map, List.replicate, List.append_eq, List.cons_append, List.nil_append, List.set, andThen, endF, sNil, wipeD, dTrue, gLen, wsD_len, l2, true_and]
    refine run_draw hk1 (by omega) (by omega) (by omega) fun r r0 r1 μ2 hk2 => ?_
    exact ⟨_, rfl, r.toNat, by omega, hk2, by rw [Int.toNat_of_nonneg r0]⟩
  rintro ε μ2 ⟨at_, hat, hk2, rfl⟩
  -- the words to put in
  refine step_nx (fun ε μ' => Dk μ' (t + 2) ∧ ε = [some (.ref 0), some (.str z), some (.int (way : Nat)), some (.lst (wsD ws)), some (.int (sp : Nat)), some (.int (at_ : Nat)), some (.lst [D.str "(", .str ")", .str "none", .str "None", .str "'", .str "''", .str "'a", .str "a", .str "0", .str "00", .str "-0", .str "-", .str "-1", .str "+1", .str "1_0", .str "1.0", .str "", .str "'\n"]), none, none, none, none, none]) ?_ ?_
  · simp only [defW, sSeq, sIf, sSet, sRet, sRetN, sExpr, sPar, two, sFor, sRaise, dB, dOp, dUn, dV, dC, dIfE, dM1, dJoin.isS, dSl, dPart, dNoPart, dNot, dAnd, dOr, dNotV, dOrV, dAndV, dChain, dCall, dOwn, dTup, dLst, dLstM, dMet, isL, aCons, aNil, dTru, slot, startD, iOf, its, itsOf, itm, run_bnd, run_ret, run_fail, run_chk, run_rd, run_wr, run_any, run_nox, run_exn, run_tag, see, look, lookM, W.opt, s1, s2, c1, c2, asB, List.map, List.replicate, List.append_eq, List.cons_append, List.nil_append, List.set, andThen, endF, sNil, wipeD, dTrue]
    exact ⟨by decide, _, rfl, hk2, rfl⟩
  rintro ε μ3 ⟨hk2, rfl⟩
  refine step_nx (fun ε μ' => Dk μ' (t + 2) ∧ ∃ xs : List D, xs.length = 32 ∧ (∀ x ∈ xs, putG x) ∧ ε = [some (.ref 0), some (.str z), some (.int (way : Nat)), some (.lst (wsD ws)), some (.int (sp : Nat)), some (.int (at_ : Nat)), some (.lst xs), none, none, none, none, none]) ?_ ?_
  · have k41 : ("1" : Str).length ≤ 100 := by decide +kernel
    simp only [defW, sSeq, sIf, sSet, sRet, sRetN, sExpr, sPar, two, sFor, sRaise, dB, dOp, dUn, dV, dC, dIfE, dM1, dJoin.isS, dSl, dPart, dNoPart, dNot, dAnd, dOr, dNotV, dOrV, dAndV, dChain, dCall, dOwn, dTup, dLst, dLstM, dMet, isL, aCons, aNil, dTru, slot, startD, iOf, its, itsOf, itm, run_bnd, run_ret, run_fail, run_chk, run_rd, run_wr, run_any, run_nox, run_exn, run_tag, see, look, lookM, W.opt, s1, s2, c1, c2, asB, List.map, List.replicate, List.append_eq, List.cons_append, List.nil_append, List.set, andThen, endF, sNil, wipeD, dTrue, gMul, gAdd, k41, true_and]
    refine ⟨by decide, by decide, by decide, _, rfl, hk2, _, rfl, put_all, rfl⟩
  rintro ε μ4 ⟨hk2, xs, xl, xg, rfl⟩
  -- a word, a sign
  refine step_nx (fun ε μ' => Dk μ' (t + 4) ∧ ∃ (w : Str) (c : Nat), PutOk w ∧ (c = 10 ∨ (32 ≤ c ∧ c ≤ 126)) ∧ ε = [some (.ref 0), some (.str z), some (.int (way : Nat)), some (.lst (wsD ws)), some (.int (sp : Nat)), some (.int (at_ : Nat)), some (.lst xs), some (.str w), some (.str ⟨#[c]⟩), none, none, none]) ?_ ?_
  · have s8 : SG8.length ≤ sizeLine := Nat.le_of_lt (szOk (by rw [SG8_len]; decide))
    have sall := SG8_all
    have s88 := SG8_len
    revert s8 sall s88
    show SG8.length ≤ sizeLine → (SG8.cps.toList.all fun c => decide (c = 10 ∨ (32 ≤ c ∧ c ≤ 126))) = true → SG8.length = 8 → (sPar 7 8 (aCons (dOp (s2 gIx) (dV 6) (dOwn 2 F_l_draw (aCons (dV 0) (aCons (dC (D.int 32)) aNil)))) (aCons (dOp (s2 gIx) (dC (D.str SG8)) (dOwn 2 F_l_draw (aCons (dV 0) (aCons (dC (D.int 8)) aNil)))) aNil)) _).run _ _ _
    generalize SG8 = sg
    intro s8 sall s88
    simp only [sPar, dOp, dOwn, aCons, aNil, dV, dC, slot, W.opt, run_bnd, run_ret, run_chk, run_tag, l2, true_and]
    refine run_draw hk2 (by omega) (by decide) (by decide) fun r r0 r1 μ5 hk3 => ?_
    obtain ⟨i, rfl⟩ : ∃ i : Nat, r = i := ⟨r.toNat, by omega⟩
    have hi : i < xs.length := by omega
    obtain ⟨w, ew, pw⟩ := xg xs[i] (List.getElem_mem hi)
    have at0 : L2.atI xs (i : Int) = some (.str w) := atI_nat (by rw [List.getElem?_eq_getElem hi, ew])
    simp only [defW, sSeq, sIf, sSet, sRet, sRetN, sExpr, sPar, two, sFor, sRaise, dB, dOp, dUn, dV, dC, dIfE, dM1, dJoin.isS, dSl, dPart, dNoPart, dNot, dAnd, dOr, dNotV, dOrV, dAndV, dChain, dCall, dOwn, dTup, dLst, dLstM, dMet, isL, aCons, aNil, dTru, slot, startD, iOf, its, itsOf, itm, run_bnd, run_ret, run_fail, run_chk, run_rd, run_wr, run_any, run_nox, run_exn, run_tag, see, look, lookM, W.opt, s1, s2, c1, c2, asB, List.map, List.replicate, List.append_eq, List.cons_append, List.nil_append, List.set, andThen, endF, sNil, wipeD, dTrue, gIx, at0, l2, true_and]
    refine run_draw hk3 (by omega) (by decide) (by decide) fun r r0 r1 μ6 hk4 => ?_
    obtain ⟨j, rfl⟩ : ∃ i : Nat, r = i := ⟨r.toNat, by omega⟩
    have hj : j < sg.cps.toList.length := by rw [len_cps]; omega
    have at1 : L2.atI sg.cps.toList (j : Int) = some sg.cps.toList[j] := atI_nat (List.getElem?_eq_getElem hj)
    simp only [defW, sSeq, sIf, sSet, sRet, sRetN, sExpr, sPar, two, sFor, sRaise, dB, dOp, dUn, dV, dC, dIfE, dM1, dJoin.isS, dSl, dPart, dNoPart, dNot, dAnd, dOr, dNotV, dOrV, dAndV, dChain, dCall, dOwn, dTup, dLst, dLstM, dMet, isL, aCons, aNil, dTru, slot, startD, iOf, its, itsOf, itm, run_bnd, run_ret, run_fail, run_chk, run_rd, run_wr, run_any, run_nox, run_exn, run_tag, see, look, lookM, W.opt, s1, s2, c1, c2, asB, List.map, List.replicate, List.append_eq, List.cons_append, List.nil_append, List.set, andThen, endF, sNil, wipeD, dTrue, gIx, s8, at1, Option.map, true_and]
    exact ⟨_, rfl, hk4, w, _, pw, of_decide_eq_true (List.all_eq_true.mp sall _ (List.getElem_mem hj)), rfl⟩
  rintro ε μ7 ⟨hk4, w, c, pw, hc, rfl⟩
  have c1 : (at_ : Int) + 1 = ((at_ + 1 : Nat) : Int) := rfl
  have c2 : (at_ : Int) + 2 = ((at_ + 2 : Nat) : Int) := rfl
  have sz : ∀ a b : List Str, a.length ≤ 200 → b.length ≤ 200 → (wsD a).length + (wsD b).length ≤ sizeLine := fun a b ha hb => Nat.le_of_lt (szOk (by rw [wsD_len, wsD_len]; omega))
  have tk : ∀ k, (ws.take k).length ≤ 200 := fun k => by rw [List.length_take]; omega
  have dr : ∀ k, (ws.drop k).length ≤ 200 := fun k => by rw [List.length_drop]; omega
  -- the two, turned
  refine step_nx (fun ε μ' => Dk μ' (t + 4) ∧ ε = [some (.ref 0), some (.str z), some (.int (way : Nat)), some (.lst (wsD ws)), some (.int (sp : Nat)), some (.int (at_ : Nat)), some (.lst xs), some (.str w), some (.str ⟨#[c]⟩), some (.lst (wsD ((ws.drop at_).take 2).reverse)), none, none]) ?_ ?_
  · simp only [defW, sSeq, sIf, sSet, sRet, sRetN, sExpr, sPar, two, sFor, sRaise, dB, dOp, dUn, dV, dC, dIfE, dM1, dJoin.isS, dSl, dPart, dNoPart, dNot, dAnd, dOr, dNotV, dOrV, dAndV, dChain, dCall, dOwn, dTup, dLst, dLstM, dMet, isL, aCons, aNil, dTru, slot, startD, iOf, its, itsOf, itm, run_bnd, run_ret, run_fail, run_chk, run_rd, run_wr, run_any, run_nox, run_exn, run_tag, see, look, lookM, W.opt, s1, s2, c1, c2, asB, List.map, List.replicate, List.append_eq, List.cons_append, List.nil_append, List.set, andThen, endF, sNil, wipeD, dTrue, gAdd, c2, gSl, cutD_mid _ _ _ (Nat.le_add_right at_ 2), Nat.add_sub_cancel_left, wsD_drop, wsD_take, rvL, wsD_rev]
    exact ⟨_, rfl, hk4, rfl⟩
  rintro ε μ8 ⟨hk5, rfl⟩
  have zc : ∀ k, cntW (ws.take k) = 0 := fun k => cntW_zero fun x hx => wfree x (List.mem_of_mem_take hx)
  have zd : ∀ k, cntW (ws.drop k) = 0 := fun k => cntW_zero fun x hx => wfree x (List.mem_of_mem_drop hx)
  have z2 : cntW ((ws.drop at_).take 2).reverse = 0 := cntW_zero fun x hx => wfree x (List.mem_of_mem_drop (List.mem_of_mem_take (List.mem_reverse.mp hx)))
  have wpW : WP [w] 60 (M + 60) := ⟨by show w.cps.toList.length + 0 ≤ 60; rw [len_cps]; exact pw.len, fun x hx => by
    rw [List.mem_singleton.mp hx]
    exact ⟨run1 (by rw [len_cps]; have := pw.len; omega), pw.sg⟩⟩
  have cW : cntW [w] ≤ 1 := by
    show w.cps.toList.count 32 + 0 ≤ 1
    exact pw.cnt
  have wp' : WP ws L (M + 60) := wp.mono (Nat.le_refl _) (by omega)
  -- a row is a line
  have fin : ∀ R : List Str, WP R (3 * L + 60) (M + 60) → R.length ≤ n + 2 → cntW R ≤ 1 → ∀ (x : Nat → D), x way = .lst (wsD R) → LP (Txt.join " " R).cps.toList (3 * L + n + 200) (n + 2) (2 * M + 61) ∧ (R.map (·.length)).sum + R.length * (" " : Str).length ≤ 16777216 := fun R h1 h2 h3 x _ => by
    refine ⟨(h1.line (k := n + 1) h2 h3).mono (by omega) (by omega) (by omega), ?_⟩
    have h4 := h1.len
    have e1 : (" " : Str).length = 1 := by decide +kernel
    have e2 : (R.map (·.length)) = R.map fun w => w.cps.toList.length := List.map_congr_left fun w _ => (len_cps w).symm
    rw [e1, e2, Nat.mul_one]
    omega
  obtain ⟨R0, r0⟩ : ∃ R, R = ws.take at_ ++ ws.drop (at_ + 1) := ⟨_, rfl⟩
  obtain ⟨R1, r1⟩ : ∃ R, R = ws.take (at_ + 1) ++ ws.drop at_ := ⟨_, rfl⟩
  obtain ⟨R2, r2⟩ : ∃ R, R = ws.take at_ ++ ((ws.drop at_).take 2).reverse ++ ws.drop (at_ + 2) := ⟨_, rfl⟩
  obtain ⟨R3, r3⟩ : ∃ R, R = ws.take at_ ++ [w] ++ ws.drop at_ := ⟨_, rfl⟩
  obtain ⟨R4, r4⟩ : ∃ R, R = ws.take at_ ++ [w] ++ ws.drop (at_ + 1) := ⟨_, rfl⟩
  have ok : ∀ R ∈ [R0, R1, R2, R3, R4], WP R (3 * L + 60) (M + 60) ∧ R.length ≤ n + 2 ∧ cntW R ≤ 1 := by
    intro R hR
    simp only [List.mem_cons, List.not_mem_nil, or_false] at hR
    rcases hR with rfl | rfl | rfl | rfl | rfl
    · subst r0
      exact ⟨((wp'.take _).app (wp'.drop _)).mono (by omega) (Nat.le_refl _), by rw [List.length_append, List.length_take, List.length_drop]; omega, by rw [cntW_app, zc, zd]; omega⟩
    · subst r1
      exact ⟨((wp'.take _).app (wp'.drop _)).mono (by omega) (Nat.le_refl _), by rw [List.length_append, List.length_take, List.length_drop]; omega, by rw [cntW_app, zc, zd]; omega⟩
    · subst r2
      exact ⟨(((wp'.take _).app ((wp'.drop _).take _).rev).app (wp'.drop _)).mono (by omega) (Nat.le_refl _), by rw [List.length_append, List.length_append, List.length_reverse, List.length_take, List.length_take, List.length_drop, List.length_drop]; omega, by rw [cntW_app, cntW_app, zc, zd, z2]; omega⟩
    · subst r3
      exact ⟨(((wp'.take _).app wpW).app (wp'.drop _)).mono (by omega) (Nat.le_refl _), by rw [List.length_append, List.length_append, List.length_take, List.length_drop, List.length_singleton]; omega, by rw [cntW_app, cntW_app, zc, zd]; omega⟩
    · subst r4
      exact ⟨(((wp'.take _).app wpW).app (wp'.drop _)).mono (by omega) (Nat.le_refl _), by rw [List.length_append, List.length_append, List.length_take, List.length_drop, List.length_singleton]; omega, by rw [cntW_app, cntW_app, zc, zd]; omega⟩
  have d1 : ([D.str w] : List D) = wsD [w] := rfl
  have tw : ((ws.drop at_).take 2).reverse.length ≤ 2 := by rw [List.length_reverse, List.length_take]; omega
  have tk1 : ∀ k, (ws.take k).length ≤ 150 := fun k => by rw [List.length_take]; omega
  refine step_nx (fun ε μ' => Dk μ' (t + 4) ∧ ε = [some (.ref 0), some (.str z), some (.int (way : Nat)), some (.lst (wsD ws)), some (.int (sp : Nat)), some (.int (at_ : Nat)), some (.lst xs), some (.str w), some (.str ⟨#[c]⟩), some (.lst (wsD ((ws.drop at_).take 2).reverse)), some (.lst [.lst (wsD R0), .lst (wsD R1), .lst (wsD R2)]), none]) ?_ ?_
  · have s1 := sz (ws.take at_) (ws.drop (at_ + 1)) (tk _) (dr _)
    have s2' := sz (ws.take (at_ + 1)) (ws.drop at_) (tk _) (dr _)
    have s3 := sz (ws.take at_) ((ws.drop at_).take 2).reverse (tk _) (by omega)
    have s4 := sz (ws.take at_ ++ ((ws.drop at_).take 2).reverse) (ws.drop (at_ + 2)) (by rw [List.length_append]; have := tk1 at_; omega) (dr _)
    have l3 : ∀ a b c : D, ([a, b, c] : List D).length ≤ sizeLine := fun _ _ _ => three_le
    simp only [defW, sSeq, sIf, sSet, sRet, sRetN, sExpr, sPar, two, sFor, sRaise, dB, dOp, dUn, dV, dC, dIfE, dM1, dJoin.isS, dSl, dPart, dNoPart, dNot, dAnd, dOr, dNotV, dOrV, dAndV, dChain, dCall, dOwn, dTup, dLst, dLstM, dMet, isL, aCons, aNil, dTru, slot, startD, iOf, its, itsOf, itm, run_bnd, run_ret, run_fail, run_chk, run_rd, run_wr, run_any, run_nox, run_exn, run_tag, see, look, lookM, W.opt, s1, s2, c1, c2, asB, List.map, List.replicate, List.append_eq, List.cons_append, List.nil_append, List.set, andThen, endF, sNil, wipeD, dTrue, gAdd, c1, c2, gSl, cutD_to, cutD_from, wsD_drop, wsD_take, wsD_app, s1, s2', s3, s4, true_and, l3]
    exact ⟨_, rfl, hk5, by rw [r0, r1, r2]⟩
  rintro ε μ9 ⟨hk6, rfl⟩
  refine step_nx (fun ε μ' => Dk μ' (t + 4) ∧ ε = [some (.ref 0), some (.str z), some (.int (way : Nat)), some (.lst (wsD ws)), some (.int (sp : Nat)), some (.int (at_ : Nat)), some (.lst xs), some (.str w), some (.str ⟨#[c]⟩), some (.lst (wsD ((ws.drop at_).take 2).reverse)), some (.lst [.lst (wsD R0), .lst (wsD R1), .lst (wsD R2), .lst (wsD R3), .lst (wsD R4)]), none]) ?_ ?_
  · have s1 := sz (ws.take at_) [w] (tk _) (by show 1 ≤ 200; decide)
    have s2' := sz (ws.take at_ ++ [w]) (ws.drop at_) (by rw [List.length_append]; have := tk1 at_; show _ + 1 ≤ 200; omega) (dr _)
    have s3 := sz (ws.take at_ ++ [w]) (ws.drop (at_ + 1)) (by rw [List.length_append]; have := tk1 at_; show _ + 1 ≤ 200; omega) (dr _)
    have l1 : ∀ a : D, ([a] : List D).length ≤ sizeLine := fun _ => (show 1 ≤ sizeLine by decide)
    have l2' : ∀ a b : D, ([a, b] : List D).length ≤ sizeLine := fun _ _ => two_le
    have l32 : ∀ a b c d e : D, ([a, b, c] : List D).length + ([d, e] : List D).length ≤ sizeLine := fun _ _ _ _ _ => (show 5 ≤ sizeLine by decide)
    simp only [defW, sSeq, sIf, sSet, sRet, sRetN, sExpr, sPar, two, sFor, sRaise, dB, dOp, dUn, dV, dC, dIfE, dM1, dJoin.isS, dSl, dPart, dNoPart, dNot, dAnd, dOr, dNotV, dOrV, dAndV, dChain, dCall, dOwn, dTup, dLst, dLstM, dMet, isL, aCons, aNil, dTru, slot, startD, iOf, its, itsOf, itm, run_bnd, run_ret, run_fail, run_chk, run_rd, run_wr, run_any, run_nox, run_exn, run_tag, see, look, lookM, W.opt, s1, s2, c1, c2, asB, List.map, List.replicate, List.append_eq, List.cons_append, List.nil_append, List.set, andThen, endF, sNil, wipeD, dTrue, gAdd, c1, gSl, cutD_to, cutD_from, wsD_drop, wsD_take, d1, wsD_app, s1, s2', s3, true_and, l1, l2', l32]
    exact ⟨_, rfl, hk6, by rw [r3, r4]⟩
  rintro ε μ10 ⟨hk7, rfl⟩
  -- a row, joined
  have lt5 : decide ((way : Int) < 5) = decide (way < 5) := decide_eq_decide.mpr ⟨fun z => by omega, fun z => by omega⟩
  by_cases h5 : way < 5
  · obtain ⟨R, at0, hR⟩ : ∃ R, L2.atI [D.lst (wsD R0), .lst (wsD R1), .lst (wsD R2), .lst (wsD R3), .lst (wsD R4)] (way : Int) = some (.lst (wsD R)) ∧ R ∈ [R0, R1, R2, R3, R4] := by
      rcases (show way = 0 ∨ way = 1 ∨ way = 2 ∨ way = 3 ∨ way = 4 by omega) with rfl | rfl | rfl | rfl | rfl
      · exact ⟨R0, rfl, by simp⟩
      · exact ⟨R1, rfl, by simp⟩
      · exact ⟨R2, rfl, by simp⟩
      · exact ⟨R3, rfl, by simp⟩
      · exact ⟨R4, rfl, by simp⟩
    obtain ⟨o1, o2, o3⟩ := ok R hR
    obtain ⟨f1, f2⟩ := fin R o1 o2 o3 (fun _ => .lst (wsD R)) rfl
    have e5 : decide (way < 5) = true := decide_eq_true h5
    rw [sSeq, run_bnd]
    simp only [sIf, dB, dOp, dV, dC, slot, W.opt, run_bnd, run_ret, gLt, gOrd, lt5, e5, asB, if_true, sRet, dJoin, dJoin.isS, s2, see, look, run_rd, gIx, at0, gJoin, seqOf, gather_strs, run_chk, f2, true_and, andThen, endF]
    exact q _ _ f1 hk7
  · have e5 : decide (way < 5) = false := decide_eq_false h5
    rw [sSeq, run_bnd]
    simp only [sIf, dB, dOp, dV, dC, slot, W.opt, run_bnd, run_ret, gLt, gOrd, lt5, e5, asB, Bool.false_eq_true, if_false, sNil, andThen]
    have b1 : (sp : Int) + 1 = ((sp + 1 : Nat) : Int) := rfl
    have hs : LP [c] 1 1 1 := ⟨Nat.le_refl _, by rw [List.count_singleton]; split <;> omega, run1 (Nat.le_refl _), fun x hx => by rw [List.mem_singleton.mp hx]; exact hc⟩
    have lA := h.ins hs sp sp (Nat.le_refl _)
    have lC := h.ins hs sp (sp + 1) (Nat.le_succ _)
    have lB : LP (z.cps.toList.take sp ++ z.cps.toList.drop (sp + 1)) (2 * L) n (2 * M) := by
      have t1 : LP (z.cps.toList.take sp) L n M := h.sub (x := []) (z := z.cps.toList.drop sp) (by rw [List.nil_append, List.take_append_drop])
      have t2 : LP (z.cps.toList.drop (sp + 1)) L n M := h.sub (x := z.cps.toList.take (sp + 1)) (z := []) (by rw [List.append_nil, List.take_append_drop])
      have A := t1.app t2
      refine ⟨by have := A.len; omega, ?_, A.run.mono (by omega), A.sg⟩
      have k1 : (z.cps.toList.take sp).count 32 + (z.cps.toList.drop sp).count 32 = z.cps.toList.count 32 := by rw [← List.count_append, List.take_append_drop]
      have k2 : (z.cps.toList.drop (sp + 1)).count 32 ≤ (z.cps.toList.drop sp).count 32 := by
        have e : z.cps.toList.drop (sp + 1) = (z.cps.toList.drop sp).drop 1 := by rw [List.drop_drop]
        rw [e]
        exact (List.drop_sublist _ _).count_le 32
      have := h.cnt
      rw [List.count_append]
      omega
    have cT := cut_to z sp
    have cU := cut_from z sp
    have cV := cut_from z (sp + 1)
    have nT := cutS_length z none (some (sp : Int))
    have nU := cutS_length z (some (sp : Int)) none
    have nV := cutS_length z (some ((sp + 1 : Nat) : Int)) none
    rw [← cT, ← cU] at lA
    rw [← cT, ← cV] at lB lC
    simp only [sSeq, sSet, sRet, dLst, aCons, aNil, dOp, dSl, dPart, dNoPart, dV, dC, slot, W.opt, run_bnd, run_ret, see, look, run_rd, gSl, run_chk, hz1, true_and, s2, gAdd, b1, andThen, endF, List.set, DL.gSub, oI0, List.cons_append, List.nil_append, gIx]
    revert lA lB lC nT nU nV
    generalize cutS z none (some (sp : Int)) = T
    generalize cutS z (some (sp : Int)) none = U
    generalize cutS z (some ((sp + 1 : Nat) : Int)) none = V
    intro lA lC lB nT nU nV
    have k1 : (⟨#[c]⟩ : Str).length = 1 := rfl
    have m1 : T.length + (⟨#[c]⟩ : Str).length ≤ sizeLine := Nat.le_of_lt (szOk (by omega))
    have m2 : (T ++ (⟨#[c]⟩ : Str)).length + U.length ≤ sizeLine := Nat.le_of_lt (szOk (by rw [slen]; omega))
    have m3 : T.length + V.length ≤ sizeLine := Nat.le_of_lt (szOk (by omega))
    have m4 : (T ++ (⟨#[c]⟩ : Str)).length + V.length ≤ sizeLine := Nat.le_of_lt (szOk (by rw [slen]; omega))
    have l1 : ∀ a : D, ([a] : List D).length ≤ sizeLine := fun _ => (show 1 ≤ sizeLine by decide)
    have l2' : ∀ a b : D, ([a, b] : List D).length ≤ sizeLine := fun _ _ => two_le
    have l21 : ∀ a b d : D, ([a, b] : List D).length + ([d] : List D).length ≤ sizeLine := fun _ _ _ => three_le
    have e1 : (T ++ (⟨#[c]⟩ : Str) ++ U).cps.toList = T.cps.toList ++ [c] ++ U.cps.toList := by rw [cps_app, cps_app]
    have e2 : (T ++ V).cps.toList = T.cps.toList ++ V.cps.toList := cps_app _ _
    have e3 : (T ++ (⟨#[c]⟩ : Str) ++ V).cps.toList = T.cps.toList ++ [c] ++ V.cps.toList := by rw [cps_app, cps_app]
    rw [← e1] at lA
    rw [← e2] at lB
    rw [← e3] at lC
    obtain ⟨Z, at0, hZ⟩ : ∃ Z, L2.atI [D.str (T ++ (⟨#[c]⟩ : Str) ++ U), .str (T ++ V), .str (T ++ (⟨#[c]⟩ : Str) ++ V)] ((way : Int) - 5) = some (.str Z) ∧ LP Z.cps.toList (3 * L + n + 200) (n + 2) (2 * M + 61) := by
      rcases (show way = 5 ∨ way = 6 ∨ way = 7 by omega) with rfl | rfl | rfl
      · exact ⟨_, rfl, lA.mono (by omega) (by omega) (by omega)⟩
      · exact ⟨_, rfl, lB.mono (by omega) (by omega) (by omega)⟩
      · exact ⟨_, rfl, lC.mono (by omega) (by omega) (by omega)⟩
    simp only [m1, m2, m3, m4, true_and, l1, l2', l21, at0, run_ret]
    exact q _ _ hZ hk7
end K68

namespace K68
open PySem PySem.Spec PyProof.Rows L2 Kit DL
/-! ### the law -/
theorem line_lp {x : Td} (h : ThOk 3 x) : LP (Txt.join " " (wordsT x)).cps.toList 6000 105 50 ∧ ((wordsT x).map (·.length)).sum + (wordsT x).length * (" " : Str).length ≤ 16777216 := by
  have hw : (wordsT x).length ≤ 106 := h.ws
  have ok := words_ok x h.wf
  have e2 : ((wordsT x).map (·.length)) = (wordsT x).map fun w => w.cps.toList.length := List.map_congr_left fun w _ => (len_cps w).symm
  have key : ∀ ws : List Str, (∀ w ∈ ws, okW w) → (ws.map fun w => w.cps.toList.length).sum ≤ 50 * ws.length := by
    intro ws
    induction ws with
    | nil => intro _; exact Nat.le_refl _
    | cons w ws ih =>
      intro h
      have h1 := (h w List.mem_cons_self).2.1
      have h2 := ih fun y hy => h y (List.mem_cons_of_mem _ hy)
      rw [List.map_cons, List.sum_cons, List.length_cons, len_cps]
      omega
  have k := key _ ok
  have wp : WP (wordsT x) 5300 50 := ⟨by omega, fun w hw => ⟨run1 (by rw [len_cps]; exact (ok w hw).2.1), fun c hc => .inr ⟨by have := ((ok w hw).2.2 c hc).1; omega, ((ok w hw).2.2 c hc).2⟩⟩⟩
  have c0 : cntW (wordsT x) = 0 := cntW_zero fun w hw z => by have := ((ok w hw).2.2 32 z).1; omega
  refine ⟨(wp.line (k := 105) (n := 0) (by omega) (by omega)).mono (by omega) (by omega) (Nat.le_refl _), ?_⟩
  have e1 : (" " : Str).length = 1 := by decide +kernel
  rw [e1, e2]
  omega
section
variable {c cW cN cP : Addr} {E : Exn → Mu → Prop}
def Tri (y : D) : Prop := ∃ a b k : Nat, y = .tup [.int (a : Nat), .int (b : Nat), .int (k : Nat)] ∧ a < 8 ∧ b < 8
theorem run_l2 {z : Str} (hz : LP z.cps.toList 6000 105 50) {e0 e2 e4 e5 e6 : Option D} : ∀ (xs : List D) {μ : Mu} {t : Nat} {e7 e8 e9 e10 : Option D} {Q : Fl → Mu → Prop}, (∀ x ∈ xs, Tri x) → Dk μ t → t + 8 * xs.length + 20 < 1000000 →
    (∀ f7 f8 f9 f10 μ', Dk μ' (t + 8 * xs.length) → Q (.nx [e0, some (.ref 0), e2, some (.str z), e4, e5, e6, f7, f8, f9, f10]) μ') →
    (forW (gTp 3 (gCn (gN 7) (gCn (gN 8) (gCn (gN 9) gNl)))) (L_law_2 c cW cN cP) (fun _ => True) xs [e0, some (.ref 0), e2, some (.str z), e4, e5, e6, e7, e8, e9, e10]).run Q E μ
  | [], μ, t, e7, e8, e9, e10, Q, _, hk, _, q => ⟨True.intro, q _ _ _ _ _ hk⟩
  | x :: xs, μ, t, e7, e8, e9, e10, Q, h, hk, ht, q => by
    obtain ⟨a, b, k, ex, ha, hb⟩ := h x List.mem_cons_self
    subst ex
    rw [List.length_cons] at ht
    refine ⟨True.intro, ?_⟩
    show ((L_law_2 c cW cN cP [e0, some (.ref 0), e2, some (.str z), e4, e5, e6, some (.int (a : Nat)), some (.int (b : Nat)), some (.int (k : Nat)), e10]).bnd _).run _ _ _
    have fin : ∀ (z' : Str) (L' n' M' : Nat), LP z'.cps.toList L' n' M' → L' ≤ 100000 → n' ≤ 139 → M' ≤ 500 → ∀ μ2, Dk μ2 (t + 8) →
        ((sIf (dOr (dNot (dB (dOwn 1 (F_l_right c cW cN cP) (aCons (dV 10) aNil)))) (dNot (dB (dOwn 1 (F_l_right c cW cN cP) (aCons (dV 3) aNil))))) (sRet (dC (.bl false))) sNil)
          [e0, some (.ref 0), e2, some (.str z), e4, e5, e6, some (.int (a : Nat)), some (.int (b : Nat)), some (.int (k : Nat)), some (.str z')]).run (fun fl μ' => (forStep (forW (gTp 3 (gCn (gN 7) (gCn (gN 8) (gCn (gN 9) gNl)))) (L_law_2 c cW cN cP) (fun _ => True) xs) fl).run Q E μ') E μ2 := by
      intro z' L' n' M' hz' hL hn hM μ2 hk2
      have l1 : ∀ y : Str, ([D.str y] : List D).length = 1 := fun _ => rfl
      simp only [defW, sSeq, sIf, sSet, sRet, sRetN, sExpr, sPar, two, sFor, sRaise, dB, dOp, dUn, dV, dC, dIfE, dM1, dJoin.isS, dSl, dPart, dNoPart, dNot, dAnd, dOr, dNotV, dOrV, dAndV, dChain, dCall, dOwn, dTup, dLst, dLstM, dMet, isL, aCons, aNil, dTru, slot, startD, iOf, its, itsOf, itm, run_bnd, run_ret, run_fail, run_chk, run_rd, run_wr, run_any, run_nox, run_exn, run_tag, see, look, lookM, W.opt, s1, s2, c1, c2, asB, List.map, List.replicate, List.append_eq, List.cons_append, List.nil_append, List.set, andThen, endF, sNil, wipeD, dTrue, l1, true_and]
      refine right_small hz' hL hn hM fun μ3 o3 => ?_
      simp only [Bool.not_true, Bool.false_eq_true, if_false, defW, sSeq, sIf, sSet, sRet, sRetN, sExpr, sPar, two, sFor, sRaise, dB, dOp, dUn, dV, dC, dIfE, dM1, dJoin.isS, dSl, dPart, dNoPart, dNot, dAnd, dOr, dNotV, dOrV, dAndV, dChain, dCall, dOwn, dTup, dLst, dLstM, dMet, isL, aCons, aNil, dTru, slot, startD, iOf, its, itsOf, itm, run_bnd, run_ret, run_fail, run_chk, run_rd, run_wr, run_any, run_nox, run_exn, run_tag, see, look, lookM, W.opt, s1, s2, c1, c2, asB, List.map, List.replicate, List.append_eq, List.cons_append, List.nil_append, List.set, andThen, endF, sNil, wipeD, dTrue, l1, true_and]
      refine right_small hz (by decide) (by decide) (by decide) fun μ4 o4 => ?_
      simp only [Bool.not_true, Bool.false_eq_true, if_false, defW, sSeq, sIf, sSet, sRet, sRetN, sExpr, sPar, two, sFor, sRaise, dB, dOp, dUn, dV, dC, dIfE, dM1, dJoin.isS, dSl, dPart, dNoPart, dNot, dAnd, dOr, dNotV, dOrV, dAndV, dChain, dCall, dOwn, dTup, dLst, dLstM, dMet, isL, aCons, aNil, dTru, slot, startD, iOf, its, itsOf, itm, run_bnd, run_ret, run_fail, run_chk, run_rd, run_wr, run_any, run_nox, run_exn, run_tag, see, look, lookM, W.opt, s1, s2, c1, c2, asB, List.map, List.replicate, List.append_eq, List.cons_append, List.nil_append, List.set, andThen, endF, sNil, wipeD, dTrue, forStep]
      refine run_l2 hz xs (fun y hy => h y (List.mem_cons_of_mem _ hy)) ((hk2.ov o3).ov o4) (by omega) fun f7 f8 f9 f10 μ' hk' => ?_
      exact q _ _ _ _ _ (by rw [List.length_cons]; exact hk'.mono (by omega))
    have l3 : ∀ (y : Str) (i : Int), ([D.ref 0, D.str y, D.int i] : List D).length = 3 := fun _ _ => rfl
    rw [run_bnd]
    unfold L_law_2
    rw [sSeq, run_bnd]
    simp only [sSet, dOwn, aCons, aNil, dV, slot, W.opt, run_bnd, run_ret, run_chk, run_tag, l3, true_and]
    refine run_bent hz (by decide) (by decide) (by decide) ha hk (by omega) fun z1 μ1 hz1 hk1 => ?_
    simp only [List.set, andThen]
    rw [sSeq, run_bnd]
    simp only [sIf, dB, dOp, dV, dC, slot, W.opt, s2, see, look, run_bnd, run_ret, run_rd, gE2, Bool.false_eq_true, if_false, asB]
    by_cases hk0 : ((k : Nat) : Int) = 0
    · have e0' : decide (((k : Nat) : Int) = 0) = true := decide_eq_true hk0
      simp only [e0', if_true, sSet, dOwn, aCons, aNil, dV, slot, W.opt, run_bnd, run_ret, run_chk, run_tag, l3, true_and]
      refine run_bent hz1 (by decide) (by decide) (by decide) hb hk1 (by omega) fun z2 μ2 hz2 hk2 => ?_
      exact fin z2 _ _ _ hz2 (by decide) (by decide) (by decide) μ2 hk2
    · have e0' : decide (((k : Nat) : Int) = 0) = false := decide_eq_false hk0
      simp only [e0', Bool.false_eq_true, if_false, sNil, run_ret]
      exact fin z1 _ _ _ hz1 (by decide) (by decide) (by decide) μ1 (hk1.mono (by omega))
end
end K68

namespace K68
open PySem PySem.Spec PyProof.Rows L2 Kit DL
theorem mul_len (z : Str) {k : Nat} (hk : 2 ≤ k) (hz : z.length ≠ 0) : (Txt.mul z (k : Int)).length = k * z.length := by
  rw [← len_cps, mul_cps z hk hz, List.length_flatten, List.map_replicate, List.sum_replicate_nat, len_cps]
theorem k1 : ("( " : Str).length = 2 := by decide +kernel
theorem k2 : (" )" : Str).length = 2 := by decide +kernel
theorem k3 : ("0" : Str).length = 1 := by decide +kernel
theorem k4 : ("1" : Str).length = 1 := by decide +kernel
theorem k5 : ("9" : Str).length = 1 := by decide +kernel
theorem k6 : ("-" : Str).length = 1 := by decide +kernel
theorem k7 : ("( )" : Str).length = 3 := by decide +kernel
theorem a1 : (Txt.mul "( " 60).length = 120 := by rw [show (60 : Int) = ((60 : Nat) : Int) from rfl, mul_len _ (by decide) (by rw [k1]; decide), k1]
theorem a2 : (Txt.mul " )" 60).length = 120 := by rw [show (60 : Int) = ((60 : Nat) : Int) from rfl, mul_len _ (by decide) (by rw [k2]; decide), k2]
theorem a3 : (Txt.mul " )" 59).length = 118 := by rw [show (59 : Int) = ((59 : Nat) : Int) from rfl, mul_len _ (by decide) (by rw [k2]; decide), k2]
theorem a4 : (Txt.mul " )" 300).length = 600 := by rw [show (300 : Int) = ((300 : Nat) : Int) from rfl, mul_len _ (by decide) (by rw [k2]; decide), k2]
theorem a5 : (Txt.mul "1" 900).length = 900 := by rw [show (900 : Int) = ((900 : Nat) : Int) from rfl, mul_len _ (by decide) (by rw [k4]; decide), k4]
theorem a6 : (Txt.mul "1" 4000).length = 4000 := by rw [show (4000 : Int) = ((4000 : Nat) : Int) from rfl, mul_len _ (by decide) (by rw [k4]; decide), k4]
theorem a7 : (Txt.mul "1" 4001).length = 4001 := by rw [show (4001 : Int) = ((4001 : Nat) : Int) from rfl, mul_len _ (by decide) (by rw [k4]; decide), k4]
theorem a8 : (Txt.mul "9" 4400).length = 4400 := by rw [show (4400 : Int) = ((4400 : Nat) : Int) from rfl, mul_len _ (by decide) (by rw [k5]; decide), k5]
section
variable {c cW cN cP : Addr}
theorem run_l3 {E : Exn → Mu → Prop} {e0 e2 : Option D} : ∀ (xs : List D) {μ : Mu} {t : Nat} {e3 e4 e5 e6 e7 e8 e9 e10 : Option D} {Q : Fl → Mu → Prop}, Dk μ t → t + 3000 * xs.length + 4000 < 1000000 →
    (∀ f3 f4 f5 f6 f7 f8 f9 f10 μ', Q (.nx [e0, some (.ref 0), e2, f3, f4, f5, f6, f7, f8, f9, f10]) μ') →
    (forW (gN 4) (L_law_3 c cW cN cP) (fun _ => True) xs [e0, some (.ref 0), e2, e3, e4, e5, e6, e7, e8, e9, e10]).run Q E μ
  | [], μ, t, e3, e4, e5, e6, e7, e8, e9, e10, Q, _, _, q => ⟨True.intro, q _ _ _ _ _ _ _ _ _⟩
  | x :: xs, μ, t, e3, e4, e5, e6, e7, e8, e9, e10, Q, hk, ht, q => by
    rw [List.length_cons] at ht
    have l2 : ∀ k : Int, ([D.ref 0, D.int k] : List D).length = 2 := fun _ => rfl
    refine ⟨True.intro, ?_⟩
    show ((L_law_3 c cW cN cP [e0, some (.ref 0), e2, e3, some x, e5, e6, e7, e8, e9, e10]).bnd _).run _ _ _
    rw [run_bnd]
    unfold L_law_3
    rw [sSeq, run_bnd]
    simp only [sSet, dLc, iOf, aCons, aNil, dC, run_bnd, run_ret, rng1, run_chk, itm, run_nox, wipeD, List.set]
    refine ⟨⟨by decide, by decide⟩, by rw [rngD_len]; decide, ?_⟩
    refine run_lcG (N := 16) (fun μ acc => (∀ y ∈ acc, Tri y) ∧ Dk μ (t + 3 * acc.length)) _ [] (by rw [rngD_len]; decide) (fun y μ acc hl ⟨hx, hkk⟩ Q' hq => ?_) ⟨fun y hy => absurd hy (by simp), by simpa using hk⟩ (fun ys μ' hl ⟨hx, hkk⟩ => ?_)
    · simp only [dTup, dOwn, aCons, aNil, dV, dC, slot, W.opt, List.set, run_bnd, run_ret, run_chk, run_tag, l2, true_and]
      refine run_draw hkk (by omega) (by decide) (by decide) fun a a0 a8 μ1 h1 => ?_
      try simp only [run_bnd, run_ret, run_chk, run_tag, l2, true_and]
      refine run_draw h1 (by omega) (by decide) (by decide) fun b b0 b8 μ2 h2 => ?_
      try simp only [run_bnd, run_ret, run_chk, run_tag, l2, true_and]
      refine run_draw h2 (by omega) (by decide) (by decide) fun k k0 k3 μ3 h3 => ?_
      try simp only [run_bnd, run_ret, run_chk]
      refine ⟨three_le, hq _ _ ⟨fun y hy => ?_, ?_⟩⟩
      · rcases List.mem_append.mp hy with hy | hy
        · exact hx y hy
        · rw [List.mem_singleton.mp hy]
          exact ⟨a.toNat, b.toNat, k.toNat, by rw [Int.toNat_of_nonneg a0, Int.toNat_of_nonneg b0, Int.toNat_of_nonneg k0], by omega, by omega⟩
      · rw [List.length_append, List.length_singleton]
        exact h3.mono (by omega)
    rw [List.nil_append] at hx hkk
    have yl : ys.length = 16 := by rw [hl, rngD_len]; rfl
    rw [yl] at hkk
    simp only [run_bnd, run_ret, andThen]
    rw [sSeq, run_bnd]
    have c3 : cD 3 = 2550 := rfl
    have l1 : ∀ y : D, ([y] : List D).length = 1 := fun _ => rfl
    simp only [sSet, dJoin, dJoin.isS, dOwn, aCons, aNil, dV, dC, slot, W.opt, run_bnd, run_ret, run_chk, run_tag, l2, true_and]
    refine run_thg 4 3 (by decide) hkk (by omega) fun th μ1 hth h1 => ?_
    obtain ⟨lp, sum⟩ := line_lp hth
    have wl : (wordsT th).length ≤ 106 := hth.ws
    simp only [run_bnd, run_ret, run_chk, run_tag, l1, true_and]
    refine run_words 60 th (by have := dep_words th; omega) hth.wf (by omega) ?_
    simp only [gJoin, see, look, W.opt, run_bnd, run_ret, run_rd, seqOf, gather_strs, run_chk, sum, true_and, List.set, andThen, sFor, iOf, its, itsOf, itm, dV, slot]
    refine run_l2 lp ys hx h1 (by omega) fun f7 f8 f9 f10 μ2 h2 => ?_
    simp only [forStep]
    exact run_l3 xs h2 (by omega) q
theorem run_law {ns : List Int} (h1 : ns.length ≤ 63) (h2 : ∀ z ∈ ns, Builtin.Int.intBits z ≤ 1048576) : (F_law c cW cN cP [.scr ns]).run (fun d _ => d = .bl true) (fun _ _ => False) [] := by
  have l1 : ([D.scr ns] : List D).length = 1 := rfl
  simp only [F_law, B_law, defW, sSeq, sIf, sSet, sRet, sRetN, sExpr, sPar, two, sFor, sRaise, dB, dOp, dUn, dV, dC, dIfE, dM1, dJoin.isS, dSl, dPart, dNoPart, dNot, dAnd, dOr, dNotV, dOrV, dAndV, dChain, dCall, dOwn, dTup, dLst, dLstM, dMet, isL, aCons, aNil, dTru, slot, startD, iOf, its, itsOf, itm, run_bnd, run_ret, run_fail, run_chk, run_rd, run_wr, run_any, run_nox, run_exn, run_tag, see, look, lookM, W.opt, s1, s2, c1, c2, asB, List.map, List.replicate, List.append_eq, List.cons_append, List.nil_append, List.set, andThen, endF, sNil, wipeD, dTrue, l1, true_and, F_l_deck, F_draw, F_deck, gMul, gAdd, dNew, DL.alloc, List.length_nil]
  refine ⟨⟨h1, h2⟩, ?_⟩
  have A1 := a1
  have A2 := a2
  have A3 := a3
  have A4 := a4
  have A5 := a5
  have A6 := a6
  have A7 := a7
  have A8 := a8
  have K1 := k1
  have K2 := k2
  have K3 := k3
  have K4 := k4
  have K5 := k5
  have K6 := k6
  have K7 := k7
  repeat (refine ⟨by first | (exact ⟨by omega, by decide, by decide⟩) | (simp only [List.length_cons, List.length_nil]; exact Nat.le_of_lt (szOk (by omega))) | ((try simp only [slen]); exact Nat.le_of_lt (szOk (by omega))), ?_⟩)
  refine run_fix _ (Ov.refl _) (fixed_all fun μ o => ?_) fun v μ' o => ?_
  · obtain ⟨m, rfl⟩ := o
    rfl
  have hk : Dk μ' 0 := by
    obtain ⟨m, rfl⟩ := o
    exact ⟨0, Nat.le_refl _, rfl⟩
  simp only [run_bnd, run_ret, rng1, run_chk, itm]
  refine ⟨⟨by decide, by decide⟩, ?_⟩
  refine run_l3 _ hk (by rw [rngD_len]; decide) fun f3 f4 f5 f6 f7 f8 f9 f10 μ2 => ?_
  simp only [andThen, sRet, dC, run_bnd, run_ret, endF]
end
end K68

/-! promises of defs that may show things: what runs around holds nothing that is being shown -/
namespace Kit
open PySem PySem.Spec PyProof.Rows L2
section
variable {P : Program} {w : World} {K : PySem.W.Frag} {mg : Str → Option Value} {base : Heap}
/-- the law's call, from the world outside -/
theorem law_callN {mb : Str → Option Value} {CX : CXT} {k : Nat} {fa a : Addr} {fd : FuncData} {x : Str} {sp : Sp}
    {s₁ : Shared} {vs : List Value} {ns : List Int}
    (KX : K.In s₁.heap) (hns : s₁.heap.Ns mainGlobals mg) (hb : s₁.heap.Ns builtinsNs mb)
    (hbb : ∀ x : Str, x ≠ "__name__" → mb x = bootBuiltins x) (hlim : s₁.heap.NoLimit) (hnd : s₁.heap.NoDigits) (hg : s₁.gens = #[])
    (ha : s₁.heap.get? a = some { cls := .type "list", data := .seq vs.toArray }) (hi : IntsAre vs ns)
    (hl : ns.length ≤ sizeLine) (hr : Room k callerA)
    (F : ∀ base : Heap, K.In base → base.Ns mainGlobals mg → base.NoDigits → FnG P w K mg base CX k fa fd [x] sp)
    (hbind : ∀ (s : Shared) (u : Value), BindsTo s fd ⟨[u], []⟩ [(x, u)])
    (hsp : ∀ H : Hp, Only H → SqL K H a (ns.map V.int) → sp [.ref a] H (fun v _ => v = .bl true) fun _ _ _ => False)
    (hCX : ∀ H e s', CX [] H s₁ (fun _ _ _ => False) e s' → False) :
    codeAny (model P w) callerA (.call (.ref fa) ⟨[.ref a], []⟩)
      (fun r s' => r = .ok (.ret (.bool true)) ∧ OldK s₁.heap s'.heap ∧ s'.os = s₁.os ∧ AllBare s'.gens) s₁ := by
  have rv := vals_ints hi
  have lenV := hi.length
  -- over any abstract heap that tracks the script at most
  have inner : ∀ H : Hp, Only H → SqL K H a (ns.map V.int) → HOk P w H s₁.heap → (∀ b, H b ≠ none → b = a) →
      (H a ≠ none → K.lookup a = none) →
      codeAny (model P w) callerA (.call (.ref fa) ⟨[.ref a], []⟩)
        (fun r s' => r = .ok (.ret (.bool true)) ∧ OldK s₁.heap s'.heap ∧ s'.os = s₁.os ∧ AllBare s'.gens) s₁ := by
    intro H hO hS hok hA hK
    have one : ∀ {b : Addr} {u : HO}, H b = some u → b = a := fun {b u} z => hA b (by rw [z]; simp)
    have noD : ∀ {b : Addr} {o : Obj} {es : Array DictEntry} {ep : Nat},
        s₁.heap.get? b = some o → o.data = .dict es ep → H b = none := by
      intro b o es ep e d
      cases q : H b with
      | none => rfl
      | some u =>
        obtain rfl := one q
        rw [ha] at e
        cases e
        have d' : Data.seq vs.toArray _ = Data.dict es ep := d
        cases d'
    have nsK : ∀ {b : Addr} {m : Str → Option Value}, s₁.heap.Ns b m → (hidT s₁.heap H).Ns b m := by
      rintro b m ⟨o, es, ep, e, d, r⟩
      exact ⟨o, es, ep, hidT_get e (noD e d), d, r⟩
    have hKb : K.In (hidT s₁.heap H) := by
      intro b o e
      refine hidT_get (KX b o e) ?_
      cases q : H b with
      | none => rfl
      | some u =>
        obtain rfl := one q
        rw [hK (by rw [q]; simp)] at e
        cases e
    obtain ⟨mc, l1, l2⟩ := hlim
    obtain ⟨md, d1, d2⟩ := hnd
    have hM : Mod K mg (hidT s₁.heap H) := ⟨hKb, nsK hns, ⟨mb, nsK hb, hbb⟩, mc, nsK l1, l2⟩
    have no0 : ∀ b : Addr, b ∈ ([] : List Addr) → False := fun b z => by simp at z
    have e0 : Env0 P w K mg (hidT s₁.heap H) callerA [] s₁ H :=
      ⟨rfl, hM, fun b o e => of_hidT e, Nat.le_of_eq (hidT_size _ _), trivial, fun b z => (no0 b z).elim, hok, .of_eq hg⟩
    have hN : (hidT s₁.heap H).NoDigits := ⟨md, nsK d1, d2⟩
    have go := (F _ hKb (nsK hns) hN).run callerA [] s₁ H ⟨[.ref a], []⟩ [.ref a] [.ref a] _ _ rfl hr e0
      (hbind s₁ (.ref a)) (.cons rfl .nil) (hsp H hO hS)
    refine codeAny_mono go ?_
    intro r s' h
    match r, h with
    | .error e, h => exact (hCX H e s' h).elim
    | .ok .next, h => exact False.elim h
    | .ok .brk, h => exact False.elim h
    | .ok .cont, h => exact False.elim h
    | .ok (.ret u), h =>
      obtain ⟨v, H', os, bare, un, hok', r', q⟩ := h
      have q' : v = .bl true := q
      subst q'
      obtain rfl : u = Value.bool true := r'
      refine ⟨rfl, OldK.of_keep ?_, os, bare⟩
      intro b o e
      cases q : H b with
      | none => exact un.keep b o e q (no0 b) (by simp)
      | some u =>
        rcases hO b with z | ⟨ob, xs, z⟩
        · rw [q] at z
          cases z
        · obtain ⟨e1, _⟩ := hok b _ z
          obtain ⟨e2, _⟩ := hok' b _ (un.frzs b ob _ z)
          rw [e] at e1
          cases e1
          exact e2
  cases hk : K.lookup a with
  | some o =>
    have e := KX a o hk
    rw [ha] at e
    cases e
    have sz : vs.toArray.size ≤ sizeLine := by
      rw [List.size_toArray, lenV]
      exact hl
    refine inner (fun _ => none) (fun _ => .inl rfl) (.inr ⟨_, vs.toArray, _, hk, rfl, rfl, rfl, sz, by simpa using rv⟩) ?_ ?_ ?_
    · intro b u z
      have z' : (none : Option HO) = some u := z
      cases z'
    · exact fun b z => absurd rfl z
    · exact fun z => absurd rfl z
  | none =>
    let u : HO := .frz { cls := .type "list", data := .seq vs.toArray } (.lst (ns.map V.int))
    have yes : ∀ {b : Addr}, b = a → (if b = a then some u else none) = some u := fun h => if_pos h
    have no : ∀ {b : Addr}, ¬ b = a → (if b = a then some u else none) = none := fun h => if_neg h
    refine inner (fun b => if b = a then some u else none) ?_ (.inl (.inr ⟨_, yes rfl⟩)) ?_ ?_ fun _ => hk
    · intro b
      by_cases hb : b = a
      · exact .inr ⟨_, _, yes hb⟩
      · exact .inl (no hb)
    · intro b v z
      by_cases hb : b = a
      · have z' := (yes hb).symm.trans z
        cases z'
        subst hb
        refine ⟨ha, ?_, vs, _, rv, ha⟩
        rw [List.length_map]
        exact hl
      · have z' := (no hb).symm.trans z
        cases z'
    · intro b z
      by_cases hb : b = a
      · exact hb
      · exact absurd (no hb) z
end

/-- the goal of the head, from the law's promise -/
theorem walk_ofN {l : PySem.W.OpenLaw} {n k : Nat} {q : Program} {loose : List Str} {XP : (Str → Option Value) → Heap → Prop}
    {YP : World → Heap → Prop} {d : DefRec} {K : Params → PySem.W.Frag} {CX : World → CXT} {sp : World → Sp} {x : Str}
    (hn : l.most = some n) (hn2 : n ≤ sizeLine) (hdf : d.params.defaults = []) (hr : Room k callerA)
    (hY : ∀ (w : World) (h : Heap), YP w h → (K w.params).In h)
    (F : ∀ (w : World) (mg : Str → Option Value) (fa : Addr) (h : Heap), (K w.params).In h → h.Ns mainGlobals mg →
      mg d.name = some (.ref fa) →
      ∃ fd : FuncData, (∀ (s : Shared) (u : Value), BindsTo s fd ⟨[u], []⟩ [(x, u)]) ∧
        ∀ base : Heap, (K w.params).In base → base.Ns mainGlobals mg → base.NoDigits → FnG l.prog w (K w.params) mg base (CX w) k fa fd [x] (sp w))
    (hsp : ∀ (w : World) (H : Hp) (a : Addr) (ns : List Int), ns.length ≤ n →
      (∀ z ∈ ns, Builtin.Int.intBits z ≤ 1048576) → Only H → SqL (K w.params) H a (ns.map V.int) →
      sp w [.ref a] H (fun v _ => v = .bl true) fun _ _ _ => False)
    (hCX : ∀ (w : World) (H : Hp) (s : Shared) (e : Value) (s' : Shared), CX w [] H s (fun _ _ _ => False) e s' → False) :
    PySem.W.WalkO q loose XP YP l.row.toRowW d [] (fun f vs => PySem.call f vs) := by
  refine Att.attach_callB hn hdf ?_
  intro w s₀ s₁ mg mb fa o pm cd doc a vs ns G Y ho hd hcd hmg hobj hints hlen hbits hg
  have KX := hY w _ Y
  obtain ⟨fd, hb, hF⟩ := F w mg fa _ KX G.T.g hmg
  exact law_callN KX G.T.g G.T.b G.T.builtins G.T.nolimit ⟨_, G.T.nodigits.choose_spec.1, G.T.nodigits.choose_spec.2⟩ hg hobj hints (Nat.le_trans hlen hn2) hr hF hb
    (fun H hO hS => hsp w H a ns hlen hbits hO hS) fun H e s' => hCX w H s₁ e s'
end Kit

namespace K68
open PySem PySem.Spec PyProof.Rows L2 Kit DL
theorem is_ok68 {K : PySem.W.Frag} {c cW cN cP : Addr} (h1 : PySem.W.kitOne K (.ref c) (.type "ValueError") = some true) (h2 : PySem.W.kitAny K (.ref c) [.ref cW, .ref cN, .ref cP] = some false) : IsOk K c (is68 cW cN cP) := fun z t e => by
  unfold is68 at e
  split at e
  · cases e
    exact .inl ⟨_, rfl, h1⟩
  · next a b d =>
    split at e
    · next hh =>
      obtain ⟨rfl, rfl, rfl⟩ := hh
      cases e
      exact .inr ⟨_, _, rfl, rfl, h2⟩
    · cases e
  · cases e
section
variable {P : Program} {w : World} {K : PySem.W.Frag} {mg : Str → Option Value} {base : Heap}
theorem ok_i_NoText {C fI : Addr} {fd : FuncData} (F : L2.Fun K "__init__" "NoText.__init__" s_NoText_init fI fd) (T : ExK K C) (h1 : PySem.W.takerIn K C "place" = some none) :
    FnOk P w K mg base L2.CX0 1 fI fd [("self" : Str), "place"] (spEx C ["place"]) := by
  have S := S_NoText_init
  refine F.ok S (fun vs H Q E h => ?_) (fun cdv A outer s H vs Q E hr h => ?_)
  · obtain ⟨a, ys, rfl, h, _⟩ := h
    rw [List.length_cons, h]
    rfl
  · obtain ⟨a, ys, rfl, hl, ea, q⟩ := h
    match ys, hl, q with
    | [y], _, q =>
    refine ⟨_, (pss_one (ps_exs (pv 0) (pv 1))), ?_⟩
    refine ⟨y, rfl, .ref a, rfl, a, C, rfl, T, h1, .inl ⟨ea, fun d hd hne => ?_⟩⟩
    exact q d _ hd hne upd_same (by rw [upd_ne hne, upd_same]; rfl) fun b h1 h2 => by rw [upd_ne h1, upd_ne h2]

theorem ok_draw {f : Addr} {fd : FuncData} (D : DefAt K mg "_law_draw" ["_law_deck_here", "_law_sides"] s_l_draw f fd) :
    Cal P w K mg base L2.CX0 1 "_law_draw" ["_law_deck_here", "_law_sides"] spDraw := by
  have S := S_l_draw
  refine cal_of D.fn D.mgf D.bs D.kbs S (fun vs H Q E h => ?_) (fun cdv A outer s H vs Q E hq hr h => ?_)
  · obtain ⟨d, c, n, t, rfl, _⟩ := h
    rfl
  · obtain ⟨d, c, n, t, rfl, hn1, hn2, ⟨cs, sd, hd, hc, hs0, hs1, hl, hz⟩, ht, q⟩ := h
    refine ⟨_, (pss_cons (ps_dput (hu_of hr) (pv 0) pe_str (pe_op op_add (pe_dget (hu_of hr) (pv 0) pe_str (fun _ _ => rfl)) pe_int) rfl)
 (pss_cons (ps_set (i := 2) S.nd rfl (.inl rfl) (pe_dget (hu_of hr) (pv 0) pe_str (fun _ _ => rfl)))
 (pss_cons (ps_set (i := 3) S.nd rfl (.inl rfl) (pe_op op_add (pe_dget (hu_of hr) (pv 0) pe_str (fun _ _ => rfl)) (pe_op op_mulB (pe_op op_mulB pe_int (pv 2)) (pv 2))))
 (C8.pss_cut (ps_if (pt_cmpR (op_neNil (room200 hr)) (pe_dget (hu_of hr) (pv 0) pe_str (fun _ _ => rfl)) (pe_lst pa_nil) (nomark _))
  (pss_cons (ps_set (i := 4) S.nd rfl (.inl rfl) (pe_bm0 PySem.F.plainAttrs_list PySem.F.slot_list_pop PySem.F.type_list_pop (mt_pop) (pe_dget (hu_of hr) (pv 0) pe_str (fun _ _ => rfl))))
 (pss_cons (ps_if (pt_cmpR op_ge (pv 4) (pe_op op_pow pe_int pe_int) (nomark _))
  (pss_cons (ps_expr (pe_bm PySem.F.plainAttrs_list PySem.F.slot_list_append PySem.F.type_list_append mt_append (pe_dget (hu_of hr) (pv 0) pe_str (fun _ _ => rfl)) (pa_cons (pe_op op_fdivW (pv 4) (pv 1)) pa_nil)))
 (pss_one (ps_ret (pe_op op_mod (pv 4) (pv 1)))))
  pss_nil)
 (pss_one (ps_set (i := 3) S.nd rfl (.inl rfl) (pe_op op_add (pv 3) (pe_op op_mulB pe_int (pv 4)))))))
  pss_nil)
 (pss_cons (ps_set (i := 3) S.nd rfl (.inl rfl) (pe_op op_mod (pe_op op_mulB (pv 3) (pe_op op_add (pv 3) (pe_op op_mulB pe_int (pv 2)))) pe_int))
 (pss_cons (ps_set (i := 3) S.nd rfl (.inl rfl) (pe_op op_mod (pe_op op_add (pe_op op_mulB (pv 3) (pv 3)) (pe_op op_mulB pe_int (pv 2))) pe_int))
 (pss_one (ps_ret (pe_op op_mod (pe_op op_fdivN (pv 3) pe_int) (pv 1)))))))))), ?_⟩
    have ndc : c ≠ d := ne_of hc hd (by intro z; cases z)
    have g1 : DGet H d (.str "at") (some (.int (t : Int))) := DGet.k (k := Sum.inr "at") hd
    refine ⟨.ref d, rfl, d, _, rfl, g1, t, 1, rfl, rfl, .ref d, rfl, d, _, rfl, DPut.k (k := Sum.inr "at") hd (sl3 c sd t), ?_⟩
    rw [put_at]
    have hd1 : (upd H d (.dK (deckKv c sd (t + 1)))) d = some (.dK (deckKv c sd (t + 1))) := upd_same
    have hc1 : (upd H d (.dK (deckKv c sd (t + 1)))) c = some (.lst (cs.map V.int)) := by
      rw [upd_ne ndc]
      exact hc
    have bt1 : But d c H (upd H d (.dK (deckKv c sd (t + 1)))) := fun b o h1 h2 e => by
      rw [upd_ne h1]
      exact e
    revert hd1 hc1 bt1
    show _ → _ → _ → tSeq _ _ _ _ (upd H d (.dK (deckKv c sd (t + 1))))
    generalize upd H d (.dK (deckKv c sd (t + 1))) = H1
    intro hd1 hc1 bt1
    have g2 : DGet H1 d (.str "at") (some (.int ((t + 1 : Nat) : Int))) := DGet.k (k := Sum.inr "at") hd1
    have g3 : DGet H1 d (.str "seed") (some (.int sd)) := DGet.k (k := Sum.inr "seed") hd1
    have g4 : DGet H1 d (.str "cells") (some (.ref c)) := DGet.k (k := Sum.inr "cells") hd1
    refine ⟨.ref d, rfl, d, _, rfl, g2, ?_⟩
    refine ⟨.ref d, rfl, d, _, rfl, g3, ?_⟩
    refine ⟨.int ((t + 1 : Nat) : Int), rfl, 7919, ((t + 1 : Nat) : Int), rfl, rfl, ?_, .int ((t + 1 : Nat) : Int), rfl, 7919 * ((t + 1 : Nat) : Int), ((t + 1 : Nat) : Int), rfl, rfl, ?_, sd, _, rfl, rfl, ?_⟩
    · exact IntMulOk.of_left (by decide)
    · exact IntMulOk.of_right (intBits_le_64 (by omega) (by omega))
    have T1 : (0 : Int) ≤ ((t + 1 : Nat) : Int) ∧ ((t + 1 : Nat) : Int) < 2 ^ 41 := by omega
    have T2 : (0 : Int) ≤ 7919 * ((t + 1 : Nat) : Int) * ((t + 1 : Nat) : Int) ∧ 7919 * ((t + 1 : Nat) : Int) * ((t + 1 : Nat) : Int) < 2 ^ 100 := by
      generalize ((t + 1 : Nat) : Int) = k at T1
      have h1 : (0 : Int) ≤ 7919 * k := by omega
      refine ⟨Int.mul_nonneg h1 T1.1, ?_⟩
      have h3 : 7919 * k * k ≤ 7919 * k * 2 ^ 41 := Int.mul_le_mul_of_nonneg_left (by omega) h1
      omega
    refine ⟨fun σ' H3 => ∃ (m : Int) (x4 : Option V), σ' = [some (.ref d), some (.int n), some (.int ((t + 1 : Nat) : Int)), some (.int m), x4] ∧ Builtin.Int.intBits m ≤ 1048700 ∧
      But d c H H3 ∧ Deck H3 d c (t + 1), ?_, ?_⟩
    · refine ⟨.ref d, rfl, d, _, rfl, g4, ?_⟩
      refine ⟨Nat.zero_le _, fun p np => ?_⟩
      have npc : c ≠ p := ne_of_none hc1 np
      have hcp : (upd H1 p (.lst [])) c = some (.lst (cs.map V.int)) := by
        rw [upd_ne npc]
        exact hc1
      have npd : d ≠ p := ne_of_none hd1 np
      have hdp : (upd H1 p (.lst [])) d = some (.dK (deckKv c sd (t + 1))) := by
        rw [upd_ne npd]
        exact hd1
      have btp : But d c H (upd H1 p (.lst [])) := fun b o h1 h2 e => by
        have e1 := bt1 b o h1 h2 e
        rw [upd_ne (ne_of_none e1 np)]
        exact e1
      refine ⟨c, p, _, rfl, rfl, .inl (.inl hcp), .inl (.inl upd_same), _, rfl, ?_⟩
      revert hcp hdp btp
      generalize upd H1 p (.lst []) = H2
      intro hc2 hd2 bt2
      have bm : Builtin.Int.intBits (sd + 7919 * ((t + 1 : Nat) : Int) * ((t + 1 : Nat) : Int)) ≤ 200 := by
        have hb : big < 2 ^ 127 := by decide
        exact bits_lt (by omega) (by omega)
      rcases snoc cs with rfl | ⟨l, x, rfl⟩
      · exact iteF ⟨_, _, rfl, Nat.le_trans bm (by decide), bt2, ⟨[], sd, hd2, hc2, hs0, hs1, hl, hz⟩⟩
      · have ne0 : ((l ++ [x]).map V.int).isEmpty = false := by
          cases l <;> rfl
        rw [ne0]
        refine iteT ?_
        have g5 : DGet H2 d (.str "cells") (some (.ref c)) := DGet.k (k := Sum.inr "cells") hd2
        have hx : Builtin.Int.intBits x ≤ 1048576 := hz x (List.mem_append_right _ (List.mem_singleton.mpr rfl))
        have hl' : l.length < 63 := by
          have e := hl
          rw [List.length_append, List.length_singleton] at e
          omega
        have hz' : ∀ z ∈ l, Builtin.Int.intBits z ≤ 1048576 := fun z hm => hz z (List.mem_append_left _ hm)
        have lst1 : ((l ++ [x]).map V.int)[((l ++ [x]).map V.int).length - 1]? = some (.int x) := by
          rw [List.map_append, List.length_append, List.length_map]
          show (l.map V.int ++ [V.int x])[l.length + 1 - 1]? = _
          rw [Nat.add_sub_cancel, List.getElem?_append_right (by rw [List.length_map]; exact Nat.le_refl _), List.length_map, Nat.sub_self]
          rfl
        have drop1 : ((l ++ [x]).map V.int).dropLast = l.map V.int := by
          rw [List.map_append]
          exact List.dropLast_concat
        -- the last cell is taken
        refine ⟨.ref d, rfl, d, _, rfl, g5, .inl ⟨rfl, _, .inl (.inl hc2)⟩, c, _, _, rfl, rfl, hc2, lst1, ?_⟩
        rw [drop1]
        have hd3 : (upd H2 c (.lst (l.map V.int))) d = some (.dK (deckKv c sd (t + 1))) := by
          rw [upd_ne ndc.symm]
          exact hd2
        have hc3 : (upd H2 c (.lst (l.map V.int))) c = some (.lst (l.map V.int)) := upd_same
        have bt3 : But d c H (upd H2 c (.lst (l.map V.int))) := fun b o h1 h2 e => by
          rw [upd_ne h2]
          exact bt2 b o h1 h2 e
        revert hd3 hc3 bt3
        show _ → _ → _ → tSeq _ _ _ _ (upd H2 c (.lst (l.map V.int)))
        generalize upd H2 c (.lst (l.map V.int)) = H3
        intro hd3 hc3 bt3
        refine ⟨.int x, rfl, 10, 18, rfl, rfl, ⟨by decide, by decide, by decide⟩, x, _, rfl, rfl, _, rfl, ite2 (fun _ => ?_) (fun _ => ?_)⟩
        · -- a digit of it
          have g6 : DGet H3 d (.str "cells") (some (.ref c)) := DGet.k (k := Sum.inr "cells") hd3
          refine ⟨.ref d, rfl, d, _, rfl, g6, .inl ⟨rfl, _, .inl (.inl hc3)⟩, .int x, rfl, .int n, rfl, x, n, rfl, rfl, wide_div (b := 41) (by omega) (by omega) (by decide) (by decide), c, _, _, rfl, rfl, hc3, ?_, ?_⟩
          · rw [List.length_map]
            exact Nat.lt_of_lt_of_le hl' (by decide)
          refine ⟨.int x, rfl, .int n, rfl, x, n, rfl, rfl, by omega, ?_⟩
          refine q _ _ (Int.emod_nonneg _ (by omega)) (Int.emod_lt_of_pos _ (by omega)) (fun b o h1 h2 e => ?_) ⟨l ++ [x / n], sd, ?_, ?_, hs0, hs1, ?_, ?_⟩
          · rw [upd_ne h2]
            exact bt3 b o h1 h2 e
          · rw [upd_ne ndc.symm]
            exact hd3
          · rw [upd_same, List.map_append]
            rfl
          · rw [List.length_append]
            exact hl'
          · intro z hm
            rcases List.mem_append.mp hm with h1 | h1
            · exact hz' z h1
            · rw [List.mem_singleton.mp h1]
              rw [← Int.fdiv_eq_ediv_of_nonneg _ (by omega : (0 : Int) ≤ n)]
              exact PySem.intBits_fdiv_le hx
        · refine ⟨_, rfl, .int x, rfl, 69621, x, rfl, rfl, .of_left (by decide), _, _, rfl, rfl, ?_⟩
          refine ⟨_, _, rfl, ?_, bt3, ⟨l, sd, hd3, hc3, hs0, hs1, by omega, hz'⟩⟩
          have b1 : Builtin.Int.intBits (69621 * x) ≤ 1048650 := Nat.le_trans (PySem.intBits_mul_le (bits_lt (n := 20) (by decide) (by decide)) hx) (by decide)
          exact Nat.le_trans (bits_add (Nat.le_trans bm (by decide)) b1) (by decide)
    · rintro σ' H3 ⟨m, x4, rfl, hm, bt, dk⟩
      have T3 : Builtin.Int.intBits (48271 * ((t + 1 : Nat) : Int)) ≤ 100 := bits_lt (by omega) (by omega)
      have T4 : Builtin.Int.intBits (m + 48271 * ((t + 1 : Nat) : Int)) ≤ 1048701 := bits_add hm (Nat.le_trans T3 (by decide))
      refine ⟨.int m, rfl, .int m, rfl, .int ((t + 1 : Nat) : Int), rfl, 48271, ((t + 1 : Nat) : Int), rfl, rfl, .of_left (by decide), ?_⟩
      refine ⟨m, _, rfl, rfl, m, m + 48271 * ((t + 1 : Nat) : Int), rfl, rfl, .of_le hm T4 (by decide), _, _, rfl, rfl, pos_big, ?_⟩
      have b1 : (0 : Int) ≤ m * (m + 48271 * ((t + 1 : Nat) : Int)) % big := Int.emod_nonneg _ (by decide)
      have b2 : m * (m + 48271 * ((t + 1 : Nat) : Int)) % big < big := Int.emod_lt_of_pos _ (by decide)
      show tSeq _ _ _ [some (.ref d), some (.int n), some (.int ((t + 1 : Nat) : Int)), some (.int (m * (m + 48271 * ((t + 1 : Nat) : Int)) % big)), x4] _
      generalize m * (m + 48271 * ((t + 1 : Nat) : Int)) % big = r at b1 b2
      have b3 : Builtin.Int.intBits r ≤ 127 := bits_lt b1 (Int.lt_of_lt_of_le b2 (by decide))
      refine ⟨.int r, rfl, .int r, rfl, r, r, rfl, rfl, .of_le b3 b3 (by decide), .int ((t + 1 : Nat) : Int), rfl, 104729, ((t + 1 : Nat) : Int), rfl, rfl, .of_left (by decide), _, _, rfl, rfl, _, _, rfl, rfl, pos_big, ?_⟩
      refine ⟨_, rfl, _, 1048576, rfl, rfl, ⟨by decide, by decide⟩, .int n, rfl, _, n, rfl, rfl, by omega, ?_⟩
      exact q _ _ (Int.emod_nonneg _ (by omega)) (Int.emod_lt_of_pos _ (by omega)) bt dk

theorem ok_deck {f : Addr} {fd : FuncData} (D : DefAt K mg "_law_deck" ["_law_script"] s_l_deck f fd) (M : Bi mg) :
    Cal P w K mg base L2.CX0 1 "_law_deck" ["_law_script"] (spDeck K) := by
  have S := S_l_deck
  refine cal_of D.fn D.mgf D.bs D.kbs S (fun vs H Q E h => ?_) (fun cdv A outer s H vs Q E hq hr h => ?_)
  · obtain ⟨a, ns, rfl, _⟩ := h
    rfl
  · obtain ⟨a, ns, rfl, hs, hl, hb, q⟩ := h
    refine ⟨_, (pss_cons (ps_set (i := 1) S.nd rfl (.inl rfl) (pe_callTy call_list_of (by rfl) M.list_ (by decide +kernel) (pa_cons (pe_slice sl_list (pv 0) po_none (po_some pe_int)) pa_nil)))
 (pss_cons (ps_set (i := 2) S.nd rfl (.inl rfl) (pe_op op_add pe_int (pe_callB call_len_seq (by rfl) M.len_ (by decide +kernel) (pa_cons (pv 1) pa_nil))))
 (pss_cons (ps_for PassesOwn.never rfl (pi_list (pv 1)) (pg_name (i := 3) S.nd rfl (.inl rfl))
  (pss_one (ps_set (i := 2) S.nd rfl (.inl rfl) (pe_op op_mod (pe_op op_add (pe_op op_mulB (pv 2) pe_int) (pv 3)) pe_int))))
 (pss_one (ps_ret (pe_disp (pps_cons pe_str (pe_revL (pv 1)) (pps_cons pe_str (pv 2) (pps_cons pe_str pe_int pps_nil))) (by rfl) (by rfl) (fun z => by cases z) (by decide))))))), ?_⟩
    -- list(script[:63])
    refine ⟨.ref a, rfl, 63, rfl, a, _, rfl, hs, fun p np => ?_⟩
    have e63 : cutV (ns.map V.int) none (some 63) = ns.map V.int := by
      unfold cutV
      rw [HT.sIx_none, show HT.sIx (ns.map V.int).length (ns.map V.int).length (some 63) = min 63 (ns.map V.int).length from HT.sIx_nat _ _ 63]
      rw [List.length_map, Nat.min_eq_right hl]
      exact List.take_of_length_le (by rw [List.drop_zero, List.length_map]; exact Nat.le_refl _)
    rw [e63]
    refine ⟨p, _, rfl, .inl (.inl (.inl upd_same)), fun l nl => ?_⟩
    have s1 := same_new (o := .lst (ns.map V.int)) np
    have s2 := s1.trans (same_new (o := .lst (ns.map V.int)) nl)
    have el : (upd (upd H p (.lst (ns.map V.int))) l (.lst (ns.map V.int))) l = some (.lst (ns.map V.int)) := upd_same
    have fl : H l = none := s1.free nl
    revert s2 el
    show _ → _ → tSeq _ _ _ _ (upd (upd H p (.lst (ns.map V.int))) l (.lst (ns.map V.int)))
    generalize upd (upd H p (.lst (ns.map V.int))) l (.lst (ns.map V.int)) = H1
    intro s2 el
    -- the seed
    refine ⟨.ref l, rfl, l, _, rfl, .inl (.inl (.inl el)), 104729, _, rfl, rfl, ?_⟩
    have hlen : (ns.map V.int).length = ns.length := List.length_map _
    rw [hlen]
    refine ⟨.ref l, rfl, l, rfl, ⟨_, .inl (.inl el)⟩, for_list (xs := ns.map V.int)
      (fun i σ H' => H' = H1 ∧ ∃ (sd : Int) (x : Option V), σ = [some (.ref a), some (.ref l), some (.int sd), x] ∧ 0 ≤ sd ∧ sd < big) ?_ ?_ ?_ ?_⟩
    · exact ⟨rfl, 104729 + (ns.length : Int), none, rfl, by omega, by
        show (104729 : Int) + _ < 170141183460469231731687303715884105727
        omega⟩
    · rintro i σ H' _ ⟨rfl, _⟩
      exact .inl (.inl el)
    · rintro i x σ H' hx ⟨rfl, sd, y, rfl, h0, h1⟩
      rw [List.getElem?_map] at hx
      cases hz : ns[i]? with
      | none =>
        rw [hz] at hx
        cases hx
      | some z =>
        rw [hz] at hx
        obtain rfl : V.int z = x := Option.some.inj hx
        have bz := hb z (List.mem_of_getElem? hz)
        refine ⟨_, rfl, sd, 1000003, rfl, rfl, .of_right (by decide), _, rfl, _, _, rfl, rfl, _, _, rfl, rfl, pos_big, rfl, _, _, rfl, ?_, ?_⟩
        · exact Int.emod_nonneg _ (by decide)
        · exact Int.emod_lt_of_pos _ (by decide)
    · rintro σ H' ⟨rfl, sd, y, rfl, h0, h1⟩
      -- the dict
      intro r nr
      have npr : l ≠ r := ne_of_none el nr
      have el2 : (upd H' r (.dK [])) l = some (.lst (ns.map V.int)) := by
        rw [upd_ne npr]
        exact el
      refine ⟨.ref l, rfl, l, _, rfl, .inl (.inl el2), fun c nc => ?_⟩
      have ncr : r ≠ c := fun z => by
        rw [← z, upd_same] at nc
        cases nc
      refine ⟨_, rfl, ?_⟩
      refine ⟨by rw [upd_ne ncr, upd_same], deckKv c sd 0, rfl, by show 3 ≤ 15; decide, ?_⟩
      have fc : H' c = none := by
        rw [upd_ne (fun z => ncr z.symm)] at nc
        exact nc
      have fr : H r = none := s2.free nr
      have fc2 : H c = none := s2.free fc
      refine q r c _ ?_ fr fc2 ⟨ns.reverse, sd, ?_, ?_, h0, h1, ?_, ?_⟩
      · exact same_mut (same_mut (same_mut s2 fr) fc2) fr
      · exact upd_same
      · rw [upd_ne ncr.symm, upd_same, List.map_reverse]
      · rw [List.length_reverse]
        exact hl
      · intro z hz
        exact hb z (List.mem_reverse.mp hz)

theorem fng_D {dk : DK} {x : Str} {st : Stmt} {f : Addr} {fd : FuncData} {N ps : List Str} {k m : Nat} {b : DS → W Fl} (D : DefAt K mg x ps st f fd)
    (S : FnScope N ps (defScope st)) (hm : N.length = ps.length + m)
    (hbody : ∀ (cdv : Value) (A : Around) (outer : List Env) (s : Shared) (H0 : Hp) (E : XK),
      Qt (A.deeper (envOfC x (defScope st) s.heap.objs.size f cdv)) →
      Room k (A.deeper (envOfC x (defScope st) s.heap.objs.size f cdv)) → ∀ (S0 : Pl) (μ0 : Mu) (H : Hp),
      PSs (cxOf (L2.CX P w) P w K mg base N x (defScope st) f cdv A outer s H0 E) (defBody st) (lowS K dk (cDef K dk S0 μ0 H E) b)) :
    FnG P w K mg base (L2.CX P w) (k + 1) f fd ps (spX K dk ps.length (defW m b)) := by
  obtain ⟨oc, od, kV, doc, pm, an, cdv, ct, osl, rfl, lk, hcd⟩ := D.fn.ex
  refine fn_ofG lk hcd S (fun vs H Q E h => h.1) fun A outer s H vs Q E hq hr hsp => ?_
  obtain ⟨hl, ds, S0, μ0, ok, rep, run⟩ := hsp
  refine ⟨_, hbody cdv A outer s H E hq hr S0 μ0 H, startD m ds, S0, μ0, Ex.refl, ok, rs_start rep (by omega), ?_⟩
  have run : (b (startD m ds)).run (fun fl μ' => (endF fl).run (Post K dk S0 μ0 H Q) (PostX K dk S0 μ0 H E) μ') (PostX K dk S0 μ0 H E) μ0 := run
  refine W.up run fun fl μ1 q => ?_
  cases fl with
  | nx ε => exact fun σ S' H' ex ok' rs' => q .non S' H' ex ok' .non
  | rt d => exact fun v S' H' ex ok' r' => q v S' H' ex ok' r'
  | bk ε => exact q.elim
  | ct ε => exact q.elim

theorem cal_none {dk : DK} {x : Str} {st : Stmt} {f : Addr} {fd : FuncData} {ps : List Str} {k n : Nat} (D : DefAt K mg x ps st f fd) : Cal P w K mg base (L2.CX P w) k x ps (spX K dk n fun _ => W.fail) :=
  ⟨f, fd, ⟨fun _ _ _ _ ⟨_, _, _, _, _, _, z⟩ => z.elim, fun _ _ _ _ _ _ _ _ _ _ _ _ _ _ ⟨_, _, _, _, _, _, z⟩ => z.elim⟩, D.mgf, D.fn.kp, D.bs, D.kbs⟩
theorem thing_all {f : Addr} {fd : FuncData} (D : DefAt K mg "_law_thing" ["_law_deck_here", "_law_deep"] s_l_thing f fd) (M : Bi mg) (C : Cal P w K mg base (L2.CX P w) 1 "_law_draw" ["_law_deck_here", "_law_sides"] (spX K dkD 2 F_l_draw)) :
    ∀ n : Nat, Cal P w K mg base (L2.CX P w) (2 + n) "_law_thing" ["_law_deck_here", "_law_deep"] (spX K dkD 2 (F_l_thing n))
  | 0 => cal_none D
  | n + 1 => ok_l_thing D M C (thing_all D M C n)
theorem words_all {f : Addr} {fd : FuncData} (nd : base.NoDigits) (D : DefAt K mg "_law_words_of" ["_law_thing_here"] s_l_words_of f fd) (M : Bi mg) :
    ∀ n : Nat, Cal P w K mg base (L2.CX P w) (1 + n) "_law_words_of" ["_law_thing_here"] (spX K dkD 1 (F_l_words_of n))
  | 0 => cal_none D
  | n + 1 => ok_l_words_of nd D M (words_all nd D M n)
def spLaw (K : PySem.W.Frag) : Sp := fun vs H Q E => ∀ c1 c2 c3 c4 : Addr, spX K dkD 1 (F_law c1 c2 c3 c4) vs H Q E
variable {cNoText cWireError cNoName cNoPath : Addr}
theorem okF_law {f : Addr} {fd : FuncData} (D : DefAt K mg "law" ["_law_script"] s_law f fd) (M : Bi mg)
    (C_l_deck : Cal P w K mg base (L2.CX P w) 1 "_law_deck" ["_law_script"] (spX K dkD 1 F_l_deck))
    (C_l_right : Cal P w K mg base (L2.CX P w) 8 "_law_right" ["_law_line"] (spX K dkD 1 (F_l_right cNoText cWireError cNoName cNoPath)))
    (C_l_words_of : Cal P w K mg base (L2.CX P w) 61 "_law_words_of" ["_law_thing_here"] (spX K dkD 1 (F_l_words_of 60)))
    (C_l_bent : Cal P w K mg base (L2.CX P w) 2 "_law_bent" ["_law_deck_here", "_law_line", "_law_way"] (spX K dkD 3 F_l_bent))
    (C_l_draw : Cal P w K mg base (L2.CX P w) 1 "_law_draw" ["_law_deck_here", "_law_sides"] (spX K dkD 2 F_l_draw))
    (C_l_thing : Cal P w K mg base (L2.CX P w) 6 "_law_thing" ["_law_deck_here", "_law_deep"] (spX K dkD 2 (F_l_thing 4))) : FnG P w K mg base (L2.CX P w) 66 f fd ["_law_script"] (spX K dkD 1 (F_law cNoText cWireError cNoName cNoPath)) := by
  have S := S_law
  exact fng_D (m := 10) D S rfl fun cdv A outer s H0 E hq hr S0 μ0 H => (dss_cons (ds_set (i := 1) S.nd rfl (.inr rfl) (de_own C_l_deck (takes_of rfl rfl rfl rfl) hq hr (by omega) (by rfl) (da_cons (dv 0) da_nil)))
  (dss_cons (ds_set (i := 2) S.nd rfl (.inl rfl) (de_lst (da_cons de_str (da_cons de_str (da_cons de_str (da_cons de_str (da_cons de_str (da_cons de_str (da_cons de_str (da_cons de_str (da_cons de_str (da_cons de_str (da_cons de_str (da_cons de_str (da_cons de_str (da_cons de_str (da_cons de_str da_nil)))))))))))))))))
  (dss_cons (ds_set (i := 2) S.nd rfl (.inl rfl) (de_op o_add l_add (dv 2) (de_lst (da_cons de_str (da_cons (de_op o_add l_add (de_op o_add l_add (de_op o_mul l_mul de_str de_int) de_str) (de_op o_mul l_mul de_str de_int)) (da_cons (de_op o_add l_add (de_op o_add l_add (de_op o_mul l_mul de_str de_int) de_str) (de_op o_mul l_mul de_str de_int)) (da_cons (de_op o_add l_add de_str (de_op o_mul l_mul de_str de_int)) da_nil)))))))
  (dss_cons (ds_set (i := 2) S.nd rfl (.inl rfl) (de_op o_add l_add (dv 2) (de_lst (da_cons de_str (da_cons (de_op o_mul l_mul de_str de_int) (da_cons (de_op o_mul l_mul de_str de_int) (da_cons (de_op o_mul l_mul de_str de_int) (da_cons (de_op o_add l_add (de_op o_add l_add de_str (de_op o_mul l_mul de_str de_int)) de_str) (da_cons (de_op o_add l_add de_str (de_op o_mul l_mul de_str de_int)) da_nil)))))))))
  (dss_cons (ds_for (vs := [3]) (passes_of rfl) rfl (di_seq (de_op o_add l_add (dv 2) (de_lst (da_cons de_non (da_cons de_bl (da_cons de_int (da_cons (de_tup da_nil) (da_cons (de_tup (da_cons de_str da_nil)) (da_cons (de_lst da_nil) (da_cons (de_dnew false) (da_cons (de_lst (da_cons de_str da_nil)) da_nil))))))))))) (pg_name (i := 3) S.nd rfl (.inl rfl)) (lg_name (by decide))
  (dss_one (ds_if (dt_not (dt_val (de_own C_l_right (takes_of rfl rfl rfl rfl) hq hr (by omega) (by rfl) (da_cons (dv 3) da_nil))))
  (dss_one (ds_ret de_bl))
  dss_nil)))
  (dss_cons (ds_for (vs := [4]) (passes_of rfl) rfl (di_range1 (by rfl) M.range_ (da_cons de_int da_nil)) (pg_name (i := 4) S.nd rfl (.inl rfl)) (lg_name (by decide))
  (dss_cons (ds_setLc (i := 5) (own := [("_law_k", 6)]) (gg := (gName 6)) (dg := (gN 6)) (ft := dTrue) (fe := (dTup (aCons (dOwn 2 F_l_draw (aCons (dV 1) (aCons (dC (.int 8)) aNil))) (aCons (dOwn 2 F_l_draw (aCons (dV 1) (aCons (dC (.int 8)) aNil))) (aCons (dOwn 2 F_l_draw (aCons (dV 1) (aCons (dC (.int 3)) aNil))) aNil))))) rfl S.nd rfl rfl (sw_true rfl rfl rfl (by decide +kernel)) (di_range1 (by rfl) M.range_ (da_cons de_int da_nil)) (blkOk_by (own := [("_law_k", 6)]) (N := N_law) (sc := defScope s_law) (by decide +kernel)) (fun _ _ _ _ _ => (pg_name (i := 6) S.nd rfl (.inl rfl))) (lg_name (by decide)) (fun _ _ _ _ _ => dts_nil) (fun _ _ _ _ _ => (de_tup (da_cons (de_own C_l_draw takes_none5 hq hr (by omega) (by rfl) (da_cons (dv 1) (da_cons de_int da_nil))) (da_cons (de_own C_l_draw takes_none5 hq hr (by omega) (by rfl) (da_cons (dv 1) (da_cons de_int da_nil))) (da_cons (de_own C_l_draw takes_none5 hq hr (by omega) (by rfl) (da_cons (dv 1) (da_cons de_int da_nil))) da_nil))))))
  (dss_cons (ds_set (i := 3) S.nd rfl (.inl rfl) (de_join de_str (de_own C_l_words_of (takes_of rfl rfl rfl rfl) hq hr (by omega) (by rfl) (da_cons (de_own C_l_thing (takes_of rfl rfl rfl rfl) hq hr (by omega) (by rfl) (da_cons (dv 1) (da_cons de_int da_nil))) da_nil))))
  (dss_one (ds_for (vs := [7, 8, 9]) (passes_of rfl) rfl (di_seq (dv 5)) (pg_tup (by rfl) (pgs_cons (pg_name (i := 7) S.nd rfl (.inl rfl)) (pgs_cons (pg_name (i := 8) S.nd rfl (.inl rfl)) (pgs_cons (pg_name (i := 9) S.nd rfl (.inl rfl)) pgs_nil)))) (lg_tup (n := 3) (lg_cons (lg_name (by decide)) (lg_cons (lg_name (by decide)) (lg_cons (lg_name (by decide)) lg_nil))))
  (dss_cons (ds_set (i := 10) S.nd rfl (.inl rfl) (de_own C_l_bent (takes_of rfl rfl rfl rfl) hq hr (by omega) (by rfl) (da_cons (dv 1) (da_cons (dv 3) (da_cons (dv 7) da_nil)))))
  (dss_cons (ds_if (dt_cmp (o_eq2 (room200 hr)) l_eq2 (dv 9) de_int (nomark _))
  (dss_one (ds_set (i := 10) S.nd rfl (.inl rfl) (de_own C_l_bent (takes_of rfl rfl rfl rfl) hq hr (by omega) (by rfl) (da_cons (dv 1) (da_cons (dv 10) (da_cons (dv 8) da_nil))))))
  dss_nil)
  (dss_one (ds_if (PW.pt (dw_or (dt_not (dt_val (de_own C_l_right (takes_of rfl rfl rfl rfl) hq hr (by omega) (by rfl) (da_cons (dv 10) da_nil)))) (dw_or1 (dt_not (dt_val (de_own C_l_right (takes_of rfl rfl rfl rfl) hq hr (by omega) (by rfl) (da_cons (dv 3) da_nil)))))))
  (dss_one (ds_ret de_bl))
  dss_nil)))))))))
  (dss_one (ds_ret de_bl))))))))
end
end K68

namespace K68
open PySem PySem.Spec PyProof.Rows L2 Kit DL
theorem all_mk {l : PySem.W.OpenLaw} {w : World} {K : PySem.W.Frag} {h : Heap} {mg : Str → Option Value} {fa : Addr} (X : K.In h) (G : h.Ns mainGlobals mg) (hfa : mg "law" = some (.ref fa))
    {K_NoText K_WireError K_NoName K_NoPath : Addr}
    (x_cn : PySem.W.specialIn K (.builtin "object.__class__") "__get__" = some (some (.builtin "getset_descriptor.__get__")))
    (x_ct : PySem.W.takesIn K (.builtin "object.__class__") = some true)
    (a_NoText : PySem.W.nsIn K mainGlobals "NoText" = some (some (.ref K_NoText)))
    (a_WireError : PySem.W.nsIn K mainGlobals "WireError" = some (some (.ref K_WireError)))
    (a_NoName : PySem.W.nsIn K mainGlobals "NoName" = some (some (.ref K_NoName)))
    (a_NoPath : PySem.W.nsIn K mainGlobals "NoPath" = some (some (.ref K_NoPath)))
    (kc_NoText : PySem.W.keepIn K (.ref K_NoText) = true)
    (ga_NoText : PySem.W.findIn K (.ref K_NoText) "__getattribute__" = some (some (.builtin "BaseException.__getattribute__")))
    (gg_NoText : PySem.W.findIn K (.ref K_NoText) "__getattr__" = some none)
    (ex_NoText : PySem.W.subIn K (.ref K_NoText) (.type "BaseException") = some true)
    (hd_NoText : PySem.W.hasDictIn K K_NoText = true)
    (ca_NoText : PySem.W.findIn K (.ref K_NoText) "__class__" = some (some (.builtin "object.__class__")))
    (cm_NoText : PySem.W.mroIn K K_NoText (.type "object") = some true)
    (ty_NoText : PySem.W.typeIn K (.ref K_NoText) = some (.type "type"))
    (sc_NoText : PySem.W.subIn K (.ref K_NoText) (.ref K_NoText) = some true)
    (va_NoText : PySem.W.kitOne K (.ref K_NoText) (.type "ValueError") = some true)
    (ot_NoText : PySem.W.kitAny K (.ref K_NoText) [.ref K_WireError, .ref K_NoName, .ref K_NoPath] = some false)
    (sa_NoText : PySem.W.findIn K (.ref K_NoText) "__setattr__" = some (some (.builtin "object.__setattr__")))
    (in_NoText : PySem.W.excInitIn K K_NoText [.type "ValueError", .type "Exception", .type "BaseException", .type "object"] "ValueError.__new__" = true)
    (ov_NoText : PySem.W.excOver K K_NoText [.type "ValueError", .type "Exception", .type "BaseException", .type "object"] = true)
    (ta_NoText_place : PySem.W.takerIn K K_NoText "place" = some none)
    (fi_NoText_place : PySem.W.findIn K (.ref K_NoText) "place" = some none)
    {f_NoText_init : Addr} {oc_NoText_init kV_NoText_init dc_NoText_init pm_NoText_init cd_NoText_init ct_NoText_init : Value} {od_NoText_init an_NoText_init : Option Addr} {sl_NoText_init : Array (Option Value)}
    (a_NoText_init : PySem.W.findIn K (.ref K_NoText) "__init__" = some (some (.ref f_NoText_init)))
    (i_NoText_init : PySem.W.isFn K (.ref f_NoText_init) = true)
    (l_NoText_init : K.lookup f_NoText_init = some ⟨oc_NoText_init, od_NoText_init, .func (PySem.W.fnOf "__init__" "NoText.__init__" (defArgs s_NoText_init) (defBody s_NoText_init) (defScope s_NoText_init) .none kV_NoText_init dc_NoText_init pm_NoText_init an_NoText_init cd_NoText_init ct_NoText_init), sl_NoText_init⟩)
    (c_NoText_init : PySem.W.codeIn K cd_NoText_init "NoText.__init__" = true)
    (k_NoText_init : PySem.W.keepIn K (.ref f_NoText_init) = true)
    {f_is_shown_number : Addr} {oc_is_shown_number kV_is_shown_number dc_is_shown_number pm_is_shown_number cd_is_shown_number ct_is_shown_number : Value} {od_is_shown_number an_is_shown_number : Option Addr} {sl_is_shown_number : Array (Option Value)}
    (a_is_shown_number : PySem.W.nsIn K mainGlobals "is_shown_number" = some (some (.ref f_is_shown_number)))
    (l_is_shown_number : K.lookup f_is_shown_number = some ⟨oc_is_shown_number, od_is_shown_number, .func (PySem.W.fnOf "is_shown_number" "is_shown_number" (defArgs s_is_shown_number) (defBody s_is_shown_number) (defScope s_is_shown_number) .none kV_is_shown_number dc_is_shown_number pm_is_shown_number an_is_shown_number cd_is_shown_number ct_is_shown_number), sl_is_shown_number⟩)
    (c_is_shown_number : PySem.W.codeIn K cd_is_shown_number "is_shown_number" = true)
    (k_is_shown_number : PySem.W.keepIn K (.ref f_is_shown_number) = true)
    {f_is_shown_text : Addr} {oc_is_shown_text kV_is_shown_text dc_is_shown_text pm_is_shown_text cd_is_shown_text ct_is_shown_text : Value} {od_is_shown_text an_is_shown_text : Option Addr} {sl_is_shown_text : Array (Option Value)}
    (a_is_shown_text : PySem.W.nsIn K mainGlobals "is_shown_text" = some (some (.ref f_is_shown_text)))
    (l_is_shown_text : K.lookup f_is_shown_text = some ⟨oc_is_shown_text, od_is_shown_text, .func (PySem.W.fnOf "is_shown_text" "is_shown_text" (defArgs s_is_shown_text) (defBody s_is_shown_text) (defScope s_is_shown_text) .none kV_is_shown_text dc_is_shown_text pm_is_shown_text an_is_shown_text cd_is_shown_text ct_is_shown_text), sl_is_shown_text⟩)
    (c_is_shown_text : PySem.W.codeIn K cd_is_shown_text "is_shown_text" = true)
    (k_is_shown_text : PySem.W.keepIn K (.ref f_is_shown_text) = true)
    {f_read_word : Addr} {oc_read_word kV_read_word dc_read_word pm_read_word cd_read_word ct_read_word : Value} {od_read_word an_read_word : Option Addr} {sl_read_word : Array (Option Value)}
    (a_read_word : PySem.W.nsIn K mainGlobals "read_word" = some (some (.ref f_read_word)))
    (l_read_word : K.lookup f_read_word = some ⟨oc_read_word, od_read_word, .func (PySem.W.fnOf "read_word" "read_word" (defArgs s_read_word) (defBody s_read_word) (defScope s_read_word) .none kV_read_word dc_read_word pm_read_word an_read_word cd_read_word ct_read_word), sl_read_word⟩)
    (c_read_word : PySem.W.codeIn K cd_read_word "read_word" = true)
    (k_read_word : PySem.W.keepIn K (.ref f_read_word) = true)
    {f_read_thing : Addr} {oc_read_thing kV_read_thing dc_read_thing pm_read_thing cd_read_thing ct_read_thing : Value} {od_read_thing an_read_thing : Option Addr} {sl_read_thing : Array (Option Value)}
    (a_read_thing : PySem.W.nsIn K mainGlobals "read_thing" = some (some (.ref f_read_thing)))
    (l_read_thing : K.lookup f_read_thing = some ⟨oc_read_thing, od_read_thing, .func (PySem.W.fnOf "read_thing" "read_thing" (defArgs s_read_thing) (defBody s_read_thing) (defScope s_read_thing) .none kV_read_thing dc_read_thing pm_read_thing an_read_thing cd_read_thing ct_read_thing), sl_read_thing⟩)
    (c_read_thing : PySem.W.codeIn K cd_read_thing "read_thing" = true)
    (k_read_thing : PySem.W.keepIn K (.ref f_read_thing) = true)
    {f_l_deck : Addr} {oc_l_deck kV_l_deck dc_l_deck pm_l_deck cd_l_deck ct_l_deck : Value} {od_l_deck an_l_deck : Option Addr} {sl_l_deck : Array (Option Value)}
    (a_l_deck : PySem.W.nsIn K mainGlobals "_law_deck" = some (some (.ref f_l_deck)))
    (l_l_deck : K.lookup f_l_deck = some ⟨oc_l_deck, od_l_deck, .func (PySem.W.fnOf "_law_deck" "_law_deck" (defArgs s_l_deck) (defBody s_l_deck) (defScope s_l_deck) .none kV_l_deck dc_l_deck pm_l_deck an_l_deck cd_l_deck ct_l_deck), sl_l_deck⟩)
    (c_l_deck : PySem.W.codeIn K cd_l_deck "_law_deck" = true)
    (k_l_deck : PySem.W.keepIn K (.ref f_l_deck) = true)
    {f_l_draw : Addr} {oc_l_draw kV_l_draw dc_l_draw pm_l_draw cd_l_draw ct_l_draw : Value} {od_l_draw an_l_draw : Option Addr} {sl_l_draw : Array (Option Value)}
    (a_l_draw : PySem.W.nsIn K mainGlobals "_law_draw" = some (some (.ref f_l_draw)))
    (l_l_draw : K.lookup f_l_draw = some ⟨oc_l_draw, od_l_draw, .func (PySem.W.fnOf "_law_draw" "_law_draw" (defArgs s_l_draw) (defBody s_l_draw) (defScope s_l_draw) .none kV_l_draw dc_l_draw pm_l_draw an_l_draw cd_l_draw ct_l_draw), sl_l_draw⟩)
    (c_l_draw : PySem.W.codeIn K cd_l_draw "_law_draw" = true)
    (k_l_draw : PySem.W.keepIn K (.ref f_l_draw) = true)
    {f_l_thing : Addr} {oc_l_thing kV_l_thing dc_l_thing pm_l_thing cd_l_thing ct_l_thing : Value} {od_l_thing an_l_thing : Option Addr} {sl_l_thing : Array (Option Value)}
    (a_l_thing : PySem.W.nsIn K mainGlobals "_law_thing" = some (some (.ref f_l_thing)))
    (l_l_thing : K.lookup f_l_thing = some ⟨oc_l_thing, od_l_thing, .func (PySem.W.fnOf "_law_thing" "_law_thing" (defArgs s_l_thing) (defBody s_l_thing) (defScope s_l_thing) .none kV_l_thing dc_l_thing pm_l_thing an_l_thing cd_l_thing ct_l_thing), sl_l_thing⟩)
    (c_l_thing : PySem.W.codeIn K cd_l_thing "_law_thing" = true)
    (k_l_thing : PySem.W.keepIn K (.ref f_l_thing) = true)
    {f_l_words_of : Addr} {oc_l_words_of kV_l_words_of dc_l_words_of pm_l_words_of cd_l_words_of ct_l_words_of : Value} {od_l_words_of an_l_words_of : Option Addr} {sl_l_words_of : Array (Option Value)}
    (a_l_words_of : PySem.W.nsIn K mainGlobals "_law_words_of" = some (some (.ref f_l_words_of)))
    (l_l_words_of : K.lookup f_l_words_of = some ⟨oc_l_words_of, od_l_words_of, .func (PySem.W.fnOf "_law_words_of" "_law_words_of" (defArgs s_l_words_of) (defBody s_l_words_of) (defScope s_l_words_of) .none kV_l_words_of dc_l_words_of pm_l_words_of an_l_words_of cd_l_words_of ct_l_words_of), sl_l_words_of⟩)
    (c_l_words_of : PySem.W.codeIn K cd_l_words_of "_law_words_of" = true)
    (k_l_words_of : PySem.W.keepIn K (.ref f_l_words_of) = true)
    {f_l_is_number : Addr} {oc_l_is_number kV_l_is_number dc_l_is_number pm_l_is_number cd_l_is_number ct_l_is_number : Value} {od_l_is_number an_l_is_number : Option Addr} {sl_l_is_number : Array (Option Value)}
    (a_l_is_number : PySem.W.nsIn K mainGlobals "_law_is_number" = some (some (.ref f_l_is_number)))
    (l_l_is_number : K.lookup f_l_is_number = some ⟨oc_l_is_number, od_l_is_number, .func (PySem.W.fnOf "_law_is_number" "_law_is_number" (defArgs s_l_is_number) (defBody s_l_is_number) (defScope s_l_is_number) .none kV_l_is_number dc_l_is_number pm_l_is_number an_l_is_number cd_l_is_number ct_l_is_number), sl_l_is_number⟩)
    (c_l_is_number : PySem.W.codeIn K cd_l_is_number "_law_is_number" = true)
    (k_l_is_number : PySem.W.keepIn K (.ref f_l_is_number) = true)
    {f_l_read : Addr} {oc_l_read kV_l_read dc_l_read pm_l_read cd_l_read ct_l_read : Value} {od_l_read an_l_read : Option Addr} {sl_l_read : Array (Option Value)}
    (a_l_read : PySem.W.nsIn K mainGlobals "_law_read" = some (some (.ref f_l_read)))
    (l_l_read : K.lookup f_l_read = some ⟨oc_l_read, od_l_read, .func (PySem.W.fnOf "_law_read" "_law_read" (defArgs s_l_read) (defBody s_l_read) (defScope s_l_read) .none kV_l_read dc_l_read pm_l_read an_l_read cd_l_read ct_l_read), sl_l_read⟩)
    (c_l_read : PySem.W.codeIn K cd_l_read "_law_read" = true)
    (k_l_read : PySem.W.keepIn K (.ref f_l_read) = true)
    {f_l_heard : Addr} {oc_l_heard kV_l_heard dc_l_heard pm_l_heard cd_l_heard ct_l_heard : Value} {od_l_heard an_l_heard : Option Addr} {sl_l_heard : Array (Option Value)}
    (a_l_heard : PySem.W.nsIn K mainGlobals "_law_heard" = some (some (.ref f_l_heard)))
    (l_l_heard : K.lookup f_l_heard = some ⟨oc_l_heard, od_l_heard, .func (PySem.W.fnOf "_law_heard" "_law_heard" (defArgs s_l_heard) (defBody s_l_heard) (defScope s_l_heard) .none kV_l_heard dc_l_heard pm_l_heard an_l_heard cd_l_heard ct_l_heard), sl_l_heard⟩)
    (c_l_heard : PySem.W.codeIn K cd_l_heard "_law_heard" = true)
    (k_l_heard : PySem.W.keepIn K (.ref f_l_heard) = true)
    {f_l_right : Addr} {oc_l_right kV_l_right dc_l_right pm_l_right cd_l_right ct_l_right : Value} {od_l_right an_l_right : Option Addr} {sl_l_right : Array (Option Value)}
    (a_l_right : PySem.W.nsIn K mainGlobals "_law_right" = some (some (.ref f_l_right)))
    (l_l_right : K.lookup f_l_right = some ⟨oc_l_right, od_l_right, .func (PySem.W.fnOf "_law_right" "_law_right" (defArgs s_l_right) (defBody s_l_right) (defScope s_l_right) .none kV_l_right dc_l_right pm_l_right an_l_right cd_l_right ct_l_right), sl_l_right⟩)
    (c_l_right : PySem.W.codeIn K cd_l_right "_law_right" = true)
    (k_l_right : PySem.W.keepIn K (.ref f_l_right) = true)
    {f_l_bent : Addr} {oc_l_bent kV_l_bent dc_l_bent pm_l_bent cd_l_bent ct_l_bent : Value} {od_l_bent an_l_bent : Option Addr} {sl_l_bent : Array (Option Value)}
    (a_l_bent : PySem.W.nsIn K mainGlobals "_law_bent" = some (some (.ref f_l_bent)))
    (l_l_bent : K.lookup f_l_bent = some ⟨oc_l_bent, od_l_bent, .func (PySem.W.fnOf "_law_bent" "_law_bent" (defArgs s_l_bent) (defBody s_l_bent) (defScope s_l_bent) .none kV_l_bent dc_l_bent pm_l_bent an_l_bent cd_l_bent ct_l_bent), sl_l_bent⟩)
    (c_l_bent : PySem.W.codeIn K cd_l_bent "_law_bent" = true)
    (k_l_bent : PySem.W.keepIn K (.ref f_l_bent) = true)
    {f_law : Addr} {oc_law kV_law dc_law pm_law cd_law ct_law : Value} {od_law an_law : Option Addr} {sl_law : Array (Option Value)}
    (a_law : PySem.W.nsIn K mainGlobals "law" = some (some (.ref f_law)))
    (l_law : K.lookup f_law = some ⟨oc_law, od_law, .func (PySem.W.fnOf "law" "law" (defArgs s_law) (defBody s_law) (defScope s_law) .none kV_law dc_law pm_law an_law cd_law ct_law), sl_law⟩)
    (c_law : PySem.W.codeIn K cd_law "law" = true)
    (k_law : PySem.W.keepIn K (.ref f_law) = true)
    (z_isinstance : PySem.W.nsIn K mainGlobals "isinstance" = some none)
    (z_len : PySem.W.nsIn K mainGlobals "len" = some none)
    (z_list : PySem.W.nsIn K mainGlobals "list" = some none)
    (z_range : PySem.W.nsIn K mainGlobals "range" = some none)
    (z_repr : PySem.W.nsIn K mainGlobals "repr" = some none)
    (z_enumerate : PySem.W.nsIn K mainGlobals "enumerate" = some none)
    (z_tuple : PySem.W.nsIn K mainGlobals "tuple" = some none)
    (z_int : PySem.W.nsIn K mainGlobals "int" = some none)
    (z_str : PySem.W.nsIn K mainGlobals "str" = some none)
    (z_all : PySem.W.nsIn K mainGlobals "all" = some none)
    (z_ValueError : PySem.W.nsIn K mainGlobals "ValueError" = some none)
    {tF tM : Tok}
    (t_F : PySem.W.nsIn K mainGlobals "FIGURES" = some (some (.str "0123456789" tF)))
    (t_M : PySem.W.nsIn K mainGlobals "MOST_FIGURES" = some (some (.int 4000 tM)))
    : ∃ fd : FuncData, (∀ (s : Shared) (v : Value), BindsTo s fd ⟨[v], []⟩ [("_law_script", v)]) ∧ ∀ base : Heap, K.In base → base.Ns mainGlobals mg → base.NoDigits → FnG l.prog w K mg base (L2.CX l.prog w) 66 fa fd ["_law_script"] (spLaw K) := by
  have e := hfa.symm.trans (PySem.W.mg_of X G a_law)
  cases e
  have F_NoText_init := fun_mk (st := s_NoText_init) l_NoText_init c_NoText_init k_NoText_init
  have b_NoText_init := F_NoText_init.binds (ps := ["self", "place"]) (fun _ _ _ _ _ _ us hl => match us, hl with | [_, _], _ => rfl)
  have D_is_shown_number := def_mk (ps := ["word"]) (st := s_is_shown_number) X G a_is_shown_number l_is_shown_number c_is_shown_number k_is_shown_number (fun _ _ _ _ _ _ us hl => match us, hl with | [_], _ => rfl) (fun _ _ _ _ _ _ _ ws hl => match ws, hl with | [_], _ => rfl)
  have D_is_shown_text := def_mk (ps := ["word"]) (st := s_is_shown_text) X G a_is_shown_text l_is_shown_text c_is_shown_text k_is_shown_text (fun _ _ _ _ _ _ us hl => match us, hl with | [_], _ => rfl) (fun _ _ _ _ _ _ _ ws hl => match ws, hl with | [_], _ => rfl)
  have D_read_word := def_mk (ps := ["word", "k"]) (st := s_read_word) X G a_read_word l_read_word c_read_word k_read_word (fun _ _ _ _ _ _ us hl => match us, hl with | [_, _], _ => rfl) (fun _ _ _ _ _ _ _ ws hl => match ws, hl with | [_, _], _ => rfl)
  have D_read_thing := def_mk (ps := ["text"]) (st := s_read_thing) X G a_read_thing l_read_thing c_read_thing k_read_thing (fun _ _ _ _ _ _ us hl => match us, hl with | [_], _ => rfl) (fun _ _ _ _ _ _ _ ws hl => match ws, hl with | [_], _ => rfl)
  have D_l_deck := def_mk (ps := ["_law_script"]) (st := s_l_deck) X G a_l_deck l_l_deck c_l_deck k_l_deck (fun _ _ _ _ _ _ us hl => match us, hl with | [_], _ => rfl) (fun _ _ _ _ _ _ _ ws hl => match ws, hl with | [_], _ => rfl)
  have D_l_draw := def_mk (ps := ["_law_deck_here", "_law_sides"]) (st := s_l_draw) X G a_l_draw l_l_draw c_l_draw k_l_draw (fun _ _ _ _ _ _ us hl => match us, hl with | [_, _], _ => rfl) (fun _ _ _ _ _ _ _ ws hl => match ws, hl with | [_, _], _ => rfl)
  have D_l_thing := def_mk (ps := ["_law_deck_here", "_law_deep"]) (st := s_l_thing) X G a_l_thing l_l_thing c_l_thing k_l_thing (fun _ _ _ _ _ _ us hl => match us, hl with | [_, _], _ => rfl) (fun _ _ _ _ _ _ _ ws hl => match ws, hl with | [_, _], _ => rfl)
  have D_l_words_of := def_mk (ps := ["_law_thing_here"]) (st := s_l_words_of) X G a_l_words_of l_l_words_of c_l_words_of k_l_words_of (fun _ _ _ _ _ _ us hl => match us, hl with | [_], _ => rfl) (fun _ _ _ _ _ _ _ ws hl => match ws, hl with | [_], _ => rfl)
  have D_l_is_number := def_mk (ps := ["_law_word"]) (st := s_l_is_number) X G a_l_is_number l_l_is_number c_l_is_number k_l_is_number (fun _ _ _ _ _ _ us hl => match us, hl with | [_], _ => rfl) (fun _ _ _ _ _ _ _ ws hl => match ws, hl with | [_], _ => rfl)
  have D_l_read := def_mk (ps := ["_law_line"]) (st := s_l_read) X G a_l_read l_l_read c_l_read k_l_read (fun _ _ _ _ _ _ us hl => match us, hl with | [_], _ => rfl) (fun _ _ _ _ _ _ _ ws hl => match ws, hl with | [_], _ => rfl)
  have D_l_heard := def_mk (ps := ["_law_line"]) (st := s_l_heard) X G a_l_heard l_l_heard c_l_heard k_l_heard (fun _ _ _ _ _ _ us hl => match us, hl with | [_], _ => rfl) (fun _ _ _ _ _ _ _ ws hl => match ws, hl with | [_], _ => rfl)
  have D_l_right := def_mk (ps := ["_law_line"]) (st := s_l_right) X G a_l_right l_l_right c_l_right k_l_right (fun _ _ _ _ _ _ us hl => match us, hl with | [_], _ => rfl) (fun _ _ _ _ _ _ _ ws hl => match ws, hl with | [_], _ => rfl)
  have D_l_bent := def_mk (ps := ["_law_deck_here", "_law_line", "_law_way"]) (st := s_l_bent) X G a_l_bent l_l_bent c_l_bent k_l_bent (fun _ _ _ _ _ _ us hl => match us, hl with | [_, _, _], _ => rfl) (fun _ _ _ _ _ _ _ ws hl => match ws, hl with | [_, _, _], _ => rfl)
  have D_law := def_mk (ps := ["_law_script"]) (st := s_law) X G a_law l_law c_law k_law (fun _ _ _ _ _ _ us hl => match us, hl with | [_], _ => rfl) (fun _ _ _ _ _ _ _ ws hl => match ws, hl with | [_], _ => rfl)
  have M : Bi mg := ⟨PySem.W.mg_none_of X G z_isinstance, PySem.W.mg_none_of X G z_len, PySem.W.mg_none_of X G z_list, PySem.W.mg_none_of X G z_range, PySem.W.mg_none_of X G z_repr, PySem.W.mg_none_of X G z_enumerate, PySem.W.mg_none_of X G z_tuple, PySem.W.mg_none_of X G z_int, PySem.W.mg_none_of X G z_str, PySem.W.mg_none_of X G z_all, PySem.W.mg_none_of X G z_ValueError⟩
  have T : Tp mg := ⟨⟨_, PySem.W.mg_of X G t_F, _, rfl⟩, ⟨_, PySem.W.mg_of X G t_M, _, rfl⟩⟩
  have x_NoText : ExK K K_NoText := ⟨⟨_, _, _, _, _, _, PySem.F.excBase_ValueError, PySem.F.store_ValueError, ⟨by decide +kernel, by decide +kernel, by decide +kernel⟩, in_NoText, ov_NoText⟩, sa_NoText, kc_NoText, ⟨ga_NoText, gg_NoText, ex_NoText, hd_NoText⟩⟩
  have y_NoText : ∀ base, ExMk l.prog w K mg base 1 "NoText" K_NoText ["place"] ["place"] (fun l => l) := fun base => ⟨x_NoText, PySem.W.mg_of X G a_NoText, ⟨f_NoText_init, _, a_NoText_init, beq_iff_eq.mp i_NoText_init, ok_i_NoText F_NoText_init x_NoText ta_NoText_place,
      ⟨fun s us ws _ h1 h2 => match us, ws, h1, h2 with | [_, _], [], _, _ => .of_eq rfl, fun r _ => r⟩,
      ⟨fun s us ws _ h1 h2 => match us, ws, h1, h2 with | [_], [_], _, _ => .of_eq rfl, fun r rz => r.append rz⟩⟩,
    fun zs hz => match zs, hz with | [_], _ => rfl, by decide⟩
  refine ⟨PySem.W.fnOf "law" "law" (defArgs s_law) (defBody s_law) (defScope s_law) .none kV_law dc_law pm_law an_law cd_law ct_law, fun s v => .of_eq rfl, fun base _ _ nd => ?_⟩
  · have XC : Xc l.prog w K mg base K_NoText K_WireError K_NoName K_NoPath := ⟨⟨⟨_, _, y_NoText base⟩, ty_NoText⟩, ⟨ga_NoText, gg_NoText, ex_NoText, hd_NoText⟩, fi_NoText_place, PySem.W.exm_ref ex_NoText hd_NoText ty_NoText sc_NoText, ⟨⟨ga_NoText, gg_NoText, ex_NoText, hd_NoText⟩, ca_NoText, x_cn, x_ct, cm_NoText⟩,
      PySem.W.mg_of X G a_NoText, PySem.W.mg_of X G a_WireError, PySem.W.mg_of X G a_NoName, PySem.W.mg_of X G a_NoPath, is_ok68 va_NoText ot_NoText⟩
    have C_l_draw : Cal l.prog w K mg base (L2.CX l.prog w) 1 "_law_draw" ["_law_deck_here", "_law_sides"] (spX K dkD 2 F_l_draw) := Cal.cxD (sp' := spX K dkD 2 F_draw) (ok_draw (P := l.prog) (w := w) (base := base) D_l_draw) draw_sp
    have C_l_deck : Cal l.prog w K mg base (L2.CX l.prog w) 1 "_law_deck" ["_law_script"] (spX K dkD 1 F_l_deck) := Cal.cxD (sp' := spX K dkD 1 F_deck) (ok_deck (P := l.prog) (w := w) (base := base) D_l_deck M) deck_sp
    have C_num := ok_is_shown_number (P := l.prog) (w := w) (base := base) D_is_shown_number M T
    have C_txt := ok_is_shown_text (P := l.prog) (w := w) (base := base) D_is_shown_text M
    have C_word := ok_read_word nd D_read_word M XC C_txt C_num
    have C_thing := ok_read_thing D_read_thing M XC C_word
    have C_lnum := ok_l_is_number (P := l.prog) (w := w) (base := base) nd D_l_is_number M
    have C_lread := ok_l_read nd D_l_read M C_lnum
    have C_heard := ok_l_heard D_l_heard M XC C_thing
    have C_right := ok_l_right nd D_l_right M C_lread C_heard
    have C_bent := ok_l_bent D_l_bent M C_l_draw
    have C_lthing := thing_all D_l_thing M C_l_draw 4
    have C_words := words_all (P := l.prog) (w := w) (base := base) nd D_l_words_of M 60
    exact FnG.imp (okF_law D_law M C_l_deck C_right C_words C_bent C_l_draw C_lthing) fun vs H Q E h => h K_NoText K_WireError K_NoName K_NoPath
end K68
open PySem PySem.W PyProof.Rows
set_option maxRecDepth 100000 in
set_option maxHeartbeats 0 in
theorem PySem.Challenge.cw_wiretongue_k68_texts_of_no_thing_holds : PySem.Challenge.rw_wiretongue_k68_texts_of_no_thing.Holds := by
  w_on; o_law; k_head; (case hw => w_witness2)
  k_fill
  refine Kit.walk_ofN (l := PySem.Challenge.rw_wiretongue_k68_texts_of_no_thing) (n := 63) (k := 66) (x := "_law_script") (CX := fun w => L2.CX PySem.Challenge.rw_wiretongue_k68_texts_of_no_thing.prog w) (sp := fun w => K68.spLaw _) rfl (by decide) rfl ⟨rfl, by decide, by decide⟩ (fun w h Y => PySem.W.kIn_of Y) ?F (fun w H a ns hl hb hO hS c1 c2 c3 c4 => DL.law_sp hO hS (K68.run_law hl hb)) (fun _ _ _ _ _ h => h.elim fun _ h => h.elim fun _ h => h.elim fun _ h => h.elim fun _ h => h.elim fun _ h => h.2.2.2.2.2.2.2)
  case F =>
    intro w mg fa h KX G hmg
    refine' K68.all_mk KX G hmg ?x_cn ?x_ct ?a_NoText ?a_WireError ?a_NoName ?a_NoPath ?kc_NoText ?ga_NoText ?gg_NoText ?ex_NoText ?hd_NoText ?ca_NoText ?cm_NoText ?ty_NoText ?sc_NoText ?va_NoText ?ot_NoText ?sa_NoText ?in_NoText ?ov_NoText ?ta_NoText_place ?fi_NoText_place ?a_NoText_init ?i_NoText_init ?l_NoText_init ?c_NoText_init ?k_NoText_init ?a_is_shown_number ?l_is_shown_number ?c_is_shown_number ?k_is_shown_number ?a_is_shown_text ?l_is_shown_text ?c_is_shown_text ?k_is_shown_text ?a_read_word ?l_read_word ?c_read_word ?k_read_word ?a_read_thing ?l_read_thing ?c_read_thing ?k_read_thing ?a_l_deck ?l_l_deck ?c_l_deck ?k_l_deck ?a_l_draw ?l_l_draw ?c_l_draw ?k_l_draw ?a_l_thing ?l_l_thing ?c_l_thing ?k_l_thing ?a_l_words_of ?l_l_words_of ?c_l_words_of ?k_l_words_of ?a_l_is_number ?l_l_is_number ?c_l_is_number ?k_l_is_number ?a_l_read ?l_l_read ?c_l_read ?k_l_read ?a_l_heard ?l_l_heard ?c_l_heard ?k_l_heard ?a_l_right ?l_l_right ?c_l_right ?k_l_right ?a_l_bent ?l_l_bent ?c_l_bent ?k_l_bent ?a_law ?l_law ?c_law ?k_law ?z_isinstance ?z_len ?z_list ?z_range ?z_repr ?z_enumerate ?z_tuple ?z_int ?z_str ?z_all ?z_ValueError ?t_F ?t_M
    (case x_cn => k_is)
    (case x_ct => k_is)
    (case a_NoText => k_is)
    (case a_WireError => k_is)
    (case a_NoName => k_is)
    (case a_NoPath => k_is)
    (case kc_NoText => k_is)
    (case ga_NoText => k_is)
    (case gg_NoText => k_is)
    (case ex_NoText => k_is)
    (case hd_NoText => k_is)
    (case ca_NoText => k_is)
    (case cm_NoText => k_is)
    (case ty_NoText => k_is)
    (case sc_NoText => first | rfl | k_is)
    (case va_NoText => kit_is)
    (case ot_NoText => kit_is)
    (case sa_NoText => k_is)
    (case in_NoText => kx_is)
    (case ov_NoText => kx_is)
    (case ta_NoText_place => k_is)
    (case fi_NoText_place => k_is)
    (case a_NoText_init => k_is)
    (case i_NoText_init => k_is)
    (case l_NoText_init => k_is)
    (case c_NoText_init => k_is)
    (case k_NoText_init => k_is)
    (case a_is_shown_number => k_is)
    (case l_is_shown_number => k_is)
    (case c_is_shown_number => k_is)
    (case k_is_shown_number => k_is)
    (case a_is_shown_text => k_is)
    (case l_is_shown_text => k_is)
    (case c_is_shown_text => k_is)
    (case k_is_shown_text => k_is)
    (case a_read_word => k_is)
    (case l_read_word => k_is)
    (case c_read_word => k_is)
    (case k_read_word => k_is)
    (case a_read_thing => k_is)
    (case l_read_thing => k_is)
    (case c_read_thing => k_is)
    (case k_read_thing => k_is)
    (case a_l_deck => k_is)
    (case l_l_deck => k_is)
    (case c_l_deck => k_is)
    (case k_l_deck => k_is)
    (case a_l_draw => k_is)
    (case l_l_draw => k_is)
    (case c_l_draw => k_is)
    (case k_l_draw => k_is)
    (case a_l_thing => k_is)
    (case l_l_thing => k_is)
    (case c_l_thing => k_is)
    (case k_l_thing => k_is)
    (case a_l_words_of => k_is)
    (case l_l_words_of => k_is)
    (case c_l_words_of => k_is)
    (case k_l_words_of => k_is)
    (case a_l_is_number => k_is)
    (case l_l_is_number => k_is)
    (case c_l_is_number => k_is)
    (case k_l_is_number => k_is)
    (case a_l_read => k_is)
    (case l_l_read => k_is)
    (case c_l_read => k_is)
    (case k_l_read => k_is)
    (case a_l_heard => k_is)
    (case l_l_heard => k_is)
    (case c_l_heard => k_is)
    (case k_l_heard => k_is)
    (case a_l_right => k_is)
    (case l_l_right => k_is)
    (case c_l_right => k_is)
    (case k_l_right => k_is)
    (case a_l_bent => k_is)
    (case l_l_bent => k_is)
    (case c_l_bent => k_is)
    (case k_l_bent => k_is)
    (case a_law => k_is)
    (case l_law => k_is)
    (case c_law => k_is)
    (case k_law => k_is)
    (case z_isinstance => k_is)
    (case z_len => k_is)
    (case z_list => k_is)
    (case z_range => k_is)
    (case z_repr => k_is)
    (case z_enumerate => k_is)
    (case z_tuple => k_is)
    (case z_int => k_is)
    (case z_str => k_is)
    (case z_all => k_is)
    (case z_ValueError => k_is)
    (case t_F => k_is)
    (case t_M => k_is)

