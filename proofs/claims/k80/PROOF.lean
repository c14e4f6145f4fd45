import PyProof.Rows.All
import Wide.All
import OpenK.AllK
import Wide.FinOn
import HandS.ForMost
import HandS.Style
import HandS.IsInst
import HandS.EndBits
import HandS.MakeKwOnly
import KE.IntBitsLaws
import HandS.SortKw
import HandS.TupLe
import HandS.Walk
import HandS.Zip
import KE.GoesEnum
import HandS.List
import HandS.Text
import HandS.TupMul
import KE.KRevSl
import HandS.Lambda
import HandS.Nested
import HandS.EndTab
import HandS.Deep
import HandS.NoneIn
import PyProof.P3In
import HandS.Codes
import HandS.HeadNt
import PyProof.ReprLen
import HandS.Dict
import PyProof.ReprRoads
import HandS.Flow
import KE.GoesMore
import KE.GoesZip
import PySem.Challenge.RW_wiretongue_k80_whole_papers_of_slowest_w
set_option Elab.async false
set_option linter.all false
set_option maxRecDepth 100000
set_option maxHeartbeats 4000000
/-! promises of defs that may show things: what runs around holds nothing that is being shown -/
namespace Kit
open PySem PySem.Spec PyProof.Rows L2

/-- nothing is being shown -/
abbrev Qt (A : Around) : Prop := A.guards = some []
theorem Qt.deeper {A : Around} (h : Qt A) (env : Env) : Qt (A.deeper env) := h

structure FnG (P : Program) (w : World) (K : PySem.W.Frag) (mg : Str → Option Value)
    (base : Heap) (CX : CXT) (k : Nat) (f : Addr) (fd : FuncData) (ps : List Str) (sp : Sp) : Prop where
  len : ∀ vs H Q E, sp vs H Q E → vs.length = ps.length
  run : ∀ (A : Around) (outer : List Env) (s : Shared) (H : Hp) (args : Args) (us : List Value)
    (vs : List V) (Q : VK) (E : XK), Qt A → Room k A → Env0 P w K mg base A outer s H →
    BindsTo s fd args (ps.zip us) → Vals vs us → sp vs H Q E →
    codeAny (model P w) A (.call (.ref f) args) (CR CX outer P w H s Q E) s

section
variable {P : Program} {w : World} {K : PySem.W.Frag} {mg : Str → Option Value} {base : Heap} {CX : CXT}

theorem FnG.of {k : Nat} {f : Addr} {fd : FuncData} {ps : List Str} {sp : Sp}
    (F : FnOk P w K mg base CX k f fd ps sp) : FnG P w K mg base CX k f fd ps sp :=
  ⟨F.len, fun A outer s H args us vs Q E _ => F.run A outer s H args us vs Q E⟩

/-- by its body -/
theorem fn_ofG {k : Nat} {f : Addr} {name qual : Str} {params : Arguments} {body : List Stmt} {scope : Scope}
    {dV kV doc pm cdv ct oc : Value} {an od : Option Addr} {osl : Array (Option Value)} {N ps : List Str} {sp : Sp}
    (lk : K.lookup f = some ⟨oc, od, .func (PySem.W.fnOf name qual params body scope dV kV doc pm an cdv ct), osl⟩)
    (hcd : PySem.W.codeIn K cdv qual = true) (S : FnScope N ps scope)
    (len : ∀ vs H Q E, sp vs H Q E → vs.length = ps.length)
    (hbody : ∀ (A : Around) (outer : List Env) (s : Shared) (H : Hp) (vs : List V) (Q : VK) (E : XK),
      Qt (A.deeper (envOfC qual scope s.heap.objs.size f cdv)) →
      Room k (A.deeper (envOfC qual scope s.heap.objs.size f cdv)) → sp vs H Q E →
      ∃ t, PSs (cxOf CX P w K mg base N qual scope f cdv A outer s H E) body t ∧
        t { nx := fun _ H' => Q .non H', rt := Q } (start N vs) H) :
    FnG P w K mg base CX (k + 1) f (PySem.W.fnOf name qual params body scope dV kV doc pm an cdv ct) ps sp := by
  refine ⟨len, ?_⟩
  intro A outer s H args us vs Q E hq hr e0 hb r hsp
  have hl := len _ _ _ _ hsp
  have kept : ∀ b o, base.get? b = some o → s.heap.get? b = some o := fun b o e => (e0.bs b o e).1
  have KX : K.In s.heap := e0.mod.kin.keeps kept
  have lim : s.heap.NoLimit := e0.mod.nolimit.keeps kept
  have hkind : ∀ y ∈ ps.zip us, scope.names.lookup y.1 = some .local ∨
      (scope.names.lookup y.1 = some .cell ∧
        ((cellsFrom (s.heap.objs.size + 1) scope.names []).lookup y.1).isSome = true) := by
    intro y hy
    rcases S.par y.1 (List.of_mem_zip (a := y.1) (b := y.2) hy).1 with q | q
    · exact .inl q
    · exact .inr ⟨q, PySem.W.cellsFrom_some _ _ _ (.inl q)⟩
  refine codeAny_call_function hr.depth (KX _ _ lk) rfl S.co S.gen rfl
    (PySem.W.codeRec_of KX hcd) (hb _ _ _ _ ?_)
  refine wpAny_newFunctionEnv_cells S.kind hkind fun env he s1 x => ?_
  subst he
  refine ⟨lim.keeps x.toInCall.keep, codeAny_func ?_⟩
  obtain ⟨t, ht, go⟩ := hbody A outer s H vs Q E (hq.deeper _) (hr.deeper _) hsp
  have I : Inv (cxOf CX P w K mg base N qual scope f cdv A outer s H E) [] (start N vs) H s1 :=
    inv_start S hr.hd e0 hl r x
  refine wpAny_mono (ht.run [] s1 (start N vs) H _ I go) (fun fl s' hs => ?_) fun e s' hs => hs
  cases fl with
  | ret u =>
    obtain ⟨v, σ', H', J, rv, q⟩ := hs
    exact ⟨v, H', J.os, J.bare, J.base, J.hok, rv, q⟩
  | next =>
    obtain ⟨σ', H', J, q⟩ := hs
    exact ⟨V.non, H', J.os, J.bare, J.base, J.hok, rfl, q⟩
  | brk => obtain ⟨_, _, _, q⟩ := hs; exact False.elim q
  | cont => obtain ⟨_, _, _, q⟩ := hs; exact False.elim q
end

section
variable {X : Cx} {CX : CXT} {k : Nat} {f : Addr} {fd : FuncData} {ps : List Str} {sp : Sp} {ds : List Value} {dvs : List V} {E : XK}

theorem run_fnG {pins : List (Addr × Obj)} {σ : L2.St} {H : Hp} {s : Shared} {Q : VK} {us ws : List Value} {vs zs : List V} {ks : List Str}
    {g : List Value → List Value → List Value} {gV : List V → List V → List V}
    (F : FnG X.prog X.w X.K X.mg X.base CX k f fd ps sp) (hq : Qt X.A) (hr : Room k X.A)
    (hb : KBinds X.K fd ps ks g gV) (hx : Passes CX X E) (I : Inv X pins σ H s) (r : Vals vs us) (rz : Vals zs ws)
    (h : sp (gV vs zs) H Q E) :
    wpAny (model X.prog X.w) X.A (call (.ref f) us (ks.zip ws)) (EP X pins σ Q) X.xe s := by
  have r2 := hb.rel r rz
  have hl : (g us ws).length = ps.length := by
    rw [← r2.length]
    exact F.len _ _ _ _ h
  have z := F.run X.A X.stack s H ⟨us, ks.zip ws⟩ (g us ws) (gV vs zs) Q E hq hr I.env0 (hb.to s us ws I.kIn hl) r2 h
  refine wpAny_call (codeAny_mono z ?_)
  intro o s' ho
  match o, ho with
  | .error e, ho => exact hx pins σ H s e s' I ho
  | .ok (.ret u), ho => exact I.after ho
  | .ok .next, ho => exact False.elim ho
  | .ok .brk, ho => exact False.elim ho
  | .ok .cont, ho => exact False.elim ho

/-- all by their names, or nothing -/
def gK {α : Type} : List α → List α → List α
  | [], ws => ws
  | _ :: _, _ => []

/-- a def of the module that may be called by its name, all parameters given -/
structure Cal (P : Program) (w : World) (K : PySem.W.Frag) (mg : Str → Option Value)
    (base : Heap) (CX : CXT) (k : Nat) (x : Str) (ps : List Str) (sp : Sp) : Prop where
  ex : ∃ (f : Addr) (fd : FuncData), FnG P w K mg base CX k f fd ps sp ∧ mg x = some (.ref f) ∧
    PySem.W.keepIn K (.ref f) = true ∧ Binds K fd ps [] ∧
    (ps ≠ [] → KBinds K fd ps ps gK gK)

variable {x : Str} {p pos : Pos} {e : Expr} {es : List Expr} {kws : List Keyword} {t tk : TA} {j : Nat}

theorem kb_of {fd : FuncData} (hb : Binds X.K fd ps []) : KBinds X.K fd ps [] (fun us _ => us) (fun vs _ => vs) :=
  ⟨fun s us ws hK hl => by
    have z := hb s us hK (by rw [List.append_nil]; exact hl)
    rw [List.append_nil] at z
    exact z, fun r _ => r⟩

theorem pe_c (c : Cal X.prog X.w X.K X.mg X.base CX k x ps sp) (hx : Passes CX X E) (hq : Qt X.A) (hr : Room j X.A) (hk : k ≤ j)
    (hg : Gl X x) (ha : PA X (e :: es) t) (hdb : (x == ("__debug__" : Str)) = false := by decide)
    (he : starEach (e :: es) X.env = (false, eval e X.env) :: starEach es X.env := by rfl)
    (hpl : (backTo pos (starEach es X.env)).any (·.1) = false := by rfl) :
    PE X (.Call (.Name x p) (e :: es) [] pos) (tCall sp [] E t) := by
  obtain ⟨f, fd, F, hm, hkp, hb, _⟩ := c.ex
  constructor
  intro pins s σ H Q I h
  refine wpAny_Call_Name_kw (ld_glob I hg hm ?_ hdb)
  refine PySem.W.callWith_K (h₀ := X.base) I.ok.mod.kin hkp ?_ he hpl
  refine thn (ha.run pos pins s σ H _ I h) ?_
  rintro us s1 ⟨vs, H1, I1, r, q⟩
  rw [List.append_nil] at q
  exact ⟨I1.kIn, run_fnG (ks := []) (ws := []) F hq (hr.mono hk) (kb_of hb) hx I1 r .nil q⟩

theorem pe_c0 (c : Cal X.prog X.w X.K X.mg X.base CX k x ps sp) (hx : Passes CX X E) (hq : Qt X.A) (hr : Room j X.A) (hk : k ≤ j)
    (hg : Gl X x) (hdb : (x == ("__debug__" : Str)) = false := by decide) :
    PE X (.Call (.Name x p) [] [] pos) (tCall sp [] E tNil) := by
  obtain ⟨f, fd, F, hm, hkp, hb, _⟩ := c.ex
  constructor
  intro pins s σ H Q I h
  refine wpAny_Call_Name_kw (ld_glob I hg hm ?_ hdb)
  exact PySem.W.callWith_K0 I.kIn hkp (run_fnG (ks := []) (us := []) (ws := []) F hq (hr.mono hk) (kb_of hb) hx I .nil .nil h)

/-- all by their names, in the parameters' order -/
theorem pe_cK (c : Cal X.prog X.w X.K X.mg X.base CX k x ps sp) (hx : Passes CX X E) (hq : Qt X.A) (hr : Room j X.A) (hk : k ≤ j)
    (hg : Gl X x) (h0 : ps ≠ []) (hkw : PK X kws tk)
    (hall : (backToKw pos (keywordEach kws X.env)).all (·.1.isSome) = true := by rfl)
    (hks : (backToKw pos (keywordEach kws X.env)).filterMap (·.1) = ps := by rfl)
    (hdb : (x == ("__debug__" : Str)) = false := by decide)
    (hpl : ((backTo pos (starEach [] X.env)).any (·.1) || (backToKw pos (keywordEach kws X.env)).any (·.1.isNone)) = false := by rfl) :
    PE X (.Call (.Name x p) [] kws pos) (tCall sp [] E tk) := by
  obtain ⟨f, fd, F, hm, hkp, _, hb⟩ := c.ex
  constructor
  intro pins s σ H Q I h
  refine wpAny_Call_Name_kw (ld_glob I hg hm ?_ hdb)
  refine PySem.W.callWith_KW0 (h₀ := X.base) I.ok.mod.kin hkp hall ?_ hpl
  refine thn (hkw.run pos pins s σ H _ I h) ?_
  rintro ws s1 ⟨zs, H1, I1, r, q⟩
  rw [List.append_nil] at q
  refine ⟨I1.kIn, ?_⟩
  rw [hks]
  exact run_fnG (us := []) (vs := []) F hq (hr.mono hk) (hb h0) hx I1 .nil r q
end

section
variable {P : Program} {w : World} {K : PySem.W.Frag} {mg : Str → Option Value} {base : Heap}
theorem kb_all {fd : FuncData} {ps : List Str} (h0 : ps ≠ [])
    (h : ∀ ws : List Value, ws.length = ps.length → bindArgs fd ⟨[], ps.zip ws⟩ = pure (ps.zip ws)) : KBinds K fd ps ps gK gK where
  to := fun s us ws _ hl => by
    cases us with
    | nil => exact .of_eq (h ws hl)
    | cons u us =>
      exfalso
      cases ps with
      | nil => exact h0 rfl
      | cons y ps => cases hl
  rel := fun {vs us zs ws} r rz => by
    cases r with
    | nil => exact rz
    | cons _ _ => exact .nil
/-- a def by its body; nothing leaves it by a raise -/
theorem fng_of {x0 x : Str} {st : Stmt} {f : Addr} {fd : FuncData} {N ps : List Str} {k : Nat} {sp : Sp}
    (F : L2.Fun K x0 x st f fd)
    (S : FnScope N ps (defScope st)) (len : ∀ vs H Q E, sp vs H Q E → vs.length = ps.length)
    (hbody : ∀ (cdv : Value) (A : Around) (outer : List Env) (s : Shared) (H : Hp) (vs : List V) (Q : VK) (E : XK),
      Qt (A.deeper (envOfC x (defScope st) s.heap.objs.size f cdv)) →
      Room k (A.deeper (envOfC x (defScope st) s.heap.objs.size f cdv)) → sp vs H Q E →
      ∃ t, PSs (cxOf L2.CX0 P w K mg base N x (defScope st) f cdv A outer s H E).nox (defBody st) t ∧
        t { nx := fun _ H' => Q .non H', rt := Q } (start N vs) H) :
    FnG P w K mg base L2.CX0 (k + 1) f fd ps sp := by
  obtain ⟨oc, od, kV, doc, pm, an, cdv, ct, osl, rfl, lk, hcd⟩ := F.ex
  refine fn_ofG lk hcd S len ?_
  intro A outer s H vs Q E hq hr hsp
  obtain ⟨t, h, q⟩ := hbody cdv A outer s H vs Q E hq hr hsp
  exact ⟨t, h.nox, q⟩
theorem cal_of {x : Str} {st : Stmt} {f : Addr} {fd : FuncData} {N ps : List Str} {k : Nat} {sp : Sp}
    (F : L2.Fun K x x st f fd) (hm : mg x = some (.ref f)) (hb : Binds K fd ps []) (hkb : ps ≠ [] → KBinds K fd ps ps gK gK)
    (S : FnScope N ps (defScope st)) (len : ∀ vs H Q E, sp vs H Q E → vs.length = ps.length)
    (hbody : ∀ (cdv : Value) (A : Around) (outer : List Env) (s : Shared) (H : Hp) (vs : List V) (Q : VK) (E : XK),
      Qt (A.deeper (envOfC x (defScope st) s.heap.objs.size f cdv)) →
      Room k (A.deeper (envOfC x (defScope st) s.heap.objs.size f cdv)) → sp vs H Q E →
      ∃ t, PSs (cxOf L2.CX0 P w K mg base N x (defScope st) f cdv A outer s H E).nox (defBody st) t ∧
        t { nx := fun _ H' => Q .non H', rt := Q } (start N vs) H) :
    Cal P w K mg base L2.CX0 (k + 1) x ps sp :=
  ⟨f, fd, fng_of F S len hbody, hm, F.kp, hb, hkb⟩

/-- the law's call, from the world outside -/
theorem law_callG {mb : Str → Option Value} {CX : CXT} {k : Nat} {fa a : Addr} {fd : FuncData} {x : Str} {sp : Sp}
    {s₁ : Shared} {vs : List Value} {ns : List Int}
    (KX : K.In s₁.heap) (hns : s₁.heap.Ns mainGlobals mg) (hb : s₁.heap.Ns builtinsNs mb)
    (hbb : ∀ x : Str, x ≠ "__name__" → mb x = bootBuiltins x) (hlim : s₁.heap.NoLimit) (hg : s₁.gens = #[])
    (ha : s₁.heap.get? a = some { cls := .type "list", data := .seq vs.toArray }) (hi : IntsAre vs ns)
    (hl : ns.length ≤ sizeLine) (hr : Room k callerA)
    (F : ∀ base : Heap, K.In base → base.Ns mainGlobals mg → FnG P w K mg base CX k fa fd [x] sp)
    (hbind : ∀ (s : Shared) (u : Value), BindsTo s fd ⟨[u], []⟩ [(x, u)])
    (hsp : ∀ H : Hp, Only H → SqL K H a (ns.map V.int) → sp [.ref a] H (fun v _ => v = .bl true) fun _ _ _ => False)
    (hCX : ∀ H e s', CX [] H s₁ (fun _ _ _ => False) e s' → False) :
    codeAny (model P w) callerA (.call (.ref fa) ⟨[.ref a], []⟩)
      (fun r s' => r = .ok (.ret (.bool true)) ∧ OldK s₁.heap s'.heap ∧ s'.os = s₁.os ∧ AllBare s'.gens) s₁ := by
  have rv := vals_ints hi
  have lenV := hi.length
  -- over any abstract heap that tracks the script at most
  have inner : ∀ H : Hp, Only H → SqL K H a (ns.map V.int) → HOk P w H s₁.heap → (∀ b, H b ≠ none → b = a) →
      (H a ≠ none → K.lookup a = none) →
      codeAny (model P w) callerA (.call (.ref fa) ⟨[.ref a], []⟩)
        (fun r s' => r = .ok (.ret (.bool true)) ∧ OldK s₁.heap s'.heap ∧ s'.os = s₁.os ∧ AllBare s'.gens) s₁ := by
    intro H hO hS hok hA hK
    have one : ∀ {b : Addr} {u : HO}, H b = some u → b = a := fun {b u} z => hA b (by rw [z]; simp)
    have noD : ∀ {b : Addr} {o : Obj} {es : Array DictEntry} {ep : Nat},
        s₁.heap.get? b = some o → o.data = .dict es ep → H b = none := by
      intro b o es ep e d
      cases q : H b with
      | none => rfl
      | some u =>
        obtain rfl := one q
        rw [ha] at e
        cases e
        have d' : Data.seq vs.toArray _ = Data.dict es ep := d
        cases d'
    have nsK : ∀ {b : Addr} {m : Str → Option Value}, s₁.heap.Ns b m → (hidT s₁.heap H).Ns b m := by
      rintro b m ⟨o, es, ep, e, d, r⟩
      exact ⟨o, es, ep, hidT_get e (noD e d), d, r⟩
    have hKb : K.In (hidT s₁.heap H) := by
      intro b o e
      refine hidT_get (KX b o e) ?_
      cases q : H b with
      | none => rfl
      | some u =>
        obtain rfl := one q
        rw [hK (by rw [q]; simp)] at e
        cases e
    obtain ⟨mc, l1, l2⟩ := hlim
    have hM : Mod K mg (hidT s₁.heap H) := ⟨hKb, nsK hns, ⟨mb, nsK hb, hbb⟩, mc, nsK l1, l2⟩
    have no0 : ∀ b : Addr, b ∈ ([] : List Addr) → False := fun b z => by simp at z
    have e0 : Env0 P w K mg (hidT s₁.heap H) callerA [] s₁ H :=
      ⟨rfl, hM, fun b o e => of_hidT e, Nat.le_of_eq (hidT_size _ _), trivial, fun b z => (no0 b z).elim, hok, .of_eq hg⟩
    have go := (F _ hKb (nsK hns)).run callerA [] s₁ H ⟨[.ref a], []⟩ [.ref a] [.ref a] _ _ rfl hr e0
      (hbind s₁ (.ref a)) (.cons rfl .nil) (hsp H hO hS)
    refine codeAny_mono go ?_
    intro r s' h
    match r, h with
    | .error e, h => exact (hCX H e s' h).elim
    | .ok .next, h => exact False.elim h
    | .ok .brk, h => exact False.elim h
    | .ok .cont, h => exact False.elim h
    | .ok (.ret u), h =>
      obtain ⟨v, H', os, bare, un, hok', r', q⟩ := h
      have q' : v = .bl true := q
      subst q'
      obtain rfl : u = Value.bool true := r'
      refine ⟨rfl, OldK.of_keep ?_, os, bare⟩
      intro b o e
      cases q : H b with
      | none => exact un.keep b o e q (no0 b) (by simp)
      | some u =>
        rcases hO b with z | ⟨ob, xs, z⟩
        · rw [q] at z
          cases z
        · obtain ⟨e1, _⟩ := hok b _ z
          obtain ⟨e2, _⟩ := hok' b _ (un.frzs b ob _ z)
          rw [e] at e1
          cases e1
          exact e2
  cases hk : K.lookup a with
  | some o =>
    have e := KX a o hk
    rw [ha] at e
    cases e
    have sz : vs.toArray.size ≤ sizeLine := by
      rw [List.size_toArray, lenV]
      exact hl
    refine inner (fun _ => none) (fun _ => .inl rfl) (.inr ⟨_, vs.toArray, _, hk, rfl, rfl, rfl, sz, by simpa using rv⟩) ?_ ?_ ?_
    · intro b u z
      have z' : (none : Option HO) = some u := z
      cases z'
    · exact fun b z => absurd rfl z
    · exact fun z => absurd rfl z
  | none =>
    let u : HO := .frz { cls := .type "list", data := .seq vs.toArray } (.lst (ns.map V.int))
    have yes : ∀ {b : Addr}, b = a → (if b = a then some u else none) = some u := fun h => if_pos h
    have no : ∀ {b : Addr}, ¬ b = a → (if b = a then some u else none) = none := fun h => if_neg h
    refine inner (fun b => if b = a then some u else none) ?_ (.inl (.inr ⟨_, yes rfl⟩)) ?_ ?_ fun _ => hk
    · intro b
      by_cases hb : b = a
      · exact .inr ⟨_, _, yes hb⟩
      · exact .inl (no hb)
    · intro b v z
      by_cases hb : b = a
      · have z' := (yes hb).symm.trans z
        cases z'
        subst hb
        refine ⟨ha, ?_, vs, _, rv, ha⟩
        rw [List.length_map]
        exact hl
      · have z' := (no hb).symm.trans z
        cases z'
    · intro b z
      by_cases hb : b = a
      · exact hb
      · exact absurd (no hb) z
end

/-- the goal of the head, from the law's promise -/
theorem walk_ofG {l : PySem.W.OpenLaw} {n k : Nat} {q : Program} {loose : List Str} {XP : (Str → Option Value) → Heap → Prop}
    {YP : World → Heap → Prop} {d : DefRec} {K : Params → PySem.W.Frag} {CX : World → CXT} {sp : World → Sp} {x : Str}
    (hn : l.most = some n) (hn2 : n ≤ sizeLine) (hdf : d.params.defaults = []) (hr : Room k callerA)
    (hY : ∀ (w : World) (h : Heap), YP w h → (K w.params).In h)
    (F : ∀ (w : World) (mg : Str → Option Value) (fa : Addr) (h : Heap), (K w.params).In h → h.Ns mainGlobals mg →
      mg d.name = some (.ref fa) →
      ∃ fd : FuncData, (∀ (s : Shared) (u : Value), BindsTo s fd ⟨[u], []⟩ [(x, u)]) ∧
        ∀ base : Heap, (K w.params).In base → base.Ns mainGlobals mg → FnG l.prog w (K w.params) mg base (CX w) k fa fd [x] (sp w))
    (hsp : ∀ (w : World) (H : Hp) (a : Addr) (ns : List Int), ns.length ≤ n →
      (∀ z ∈ ns, Builtin.Int.intBits z ≤ 1048576) → Only H → SqL (K w.params) H a (ns.map V.int) →
      sp w [.ref a] H (fun v _ => v = .bl true) fun _ _ _ => False)
    (hCX : ∀ (w : World) (H : Hp) (s : Shared) (e : Value) (s' : Shared), CX w [] H s (fun _ _ _ => False) e s' → False) :
    PySem.W.WalkO q loose XP YP l.row.toRowW d [] (fun f vs => PySem.call f vs) := by
  refine Att.attach_callB hn hdf ?_
  intro w s₀ s₁ mg mb fa o pm cd doc a vs ns G Y ho hd hcd hmg hobj hints hlen hbits hg
  have KX := hY w _ Y
  obtain ⟨fd, hb, hF⟩ := F w mg fa _ KX G.T.g hmg
  exact law_callG KX G.T.g G.T.b G.T.builtins G.T.nolimit hg hobj hints (Nat.le_trans hlen hn2) hr hF hb
    (fun H hO hS => hsp w H a ns hlen hbits hO hS) fun H e s' => hCX w H s₁ e s'
end Kit

namespace Kit
open PySem PySem.Spec PyProof.Rows L2
section
variable {X : Cx}
/-- * of whole numbers, as great as the machine lets -/
theorem op_mulB : OpR X (binaryOp .Mult) (rI IntMulOk fun i j => .int (i * j)) :=
  opI fun i j t u s Q E hc q => mul_int q hc

/-- a text times a number -/
def rRepS : R2 := fun x y H Q => ∃ (z : Str) (k : Int), x = .str z ∧ y = .int k ∧ z.length ≤ 1000 ∧ 0 ≤ k ∧ k ≤ 1000 ∧ Q (.str (Txt.mul z k)) H
theorem op_repS : OpR X (binaryOp .Mult) rRepS := by
  intro pins s σ H x y v u Q I rx ry h
  obtain ⟨z, k, rfl, rfl, hz, h0, hk, q⟩ := h
  obtain ⟨t, rfl⟩ := rx
  obtain ⟨t', rfl⟩ := ry
  exact SB.mul (mulOk_of 1000 1000 hz hk (by omega) (by decide) (by decide)) fun t' k => ⟨.str _, H, I.tok _, ⟨_, rfl⟩, q⟩

/-- repr of lists and tuples of data -/
def rReprD (K : PySem.W.Frag) : List V → Hp → VK → Prop := fun xs H Q => ∃ (a : Addr) (d : PyData), xs = [.ref a] ∧ Dp K H (.ref a) d ∧
  d.showable = true ∧ d.hasDict = false ∧ d.depth ≤ 150 ∧ d.shown.length ≤ sizeLine ∧ Q (.str d.shown) H
theorem call_reprD (hq : Qt X.A) (hu : X.A.units + 200 < cLine) : CallR X (.builtin "repr") (rReprD X.K) := by
  intro pins s σ H xs us Q I r h
  obtain ⟨a, d, rfl, hd, hs, hn, hp, hz, q⟩ := h
  obtain ⟨u, rfl, ru⟩ := vals1 r
  obtain ⟨as, rd⟩ := Dp.reads I d _ _ hd ru
  obtain rfl : u = Value.ref a := ru
  refine repr_of_reads' rd hs (PyData.noDict_hsm hn) hq (by omega) (fun _ _ e => e) (fun h' u tk hk => ?_) hz
  exact ⟨.str _, H, I.kept hk, ⟨_, rfl⟩, q⟩

/-- a list of anything beside one without items -/
def rEqNil (K : PySem.W.Frag) : R2 := fun x y H Q => ∃ (a b : Addr) (xs : List V), x = .ref a ∧ y = .ref b ∧ SqL K H a xs ∧ SqL K H b [] ∧ Q (.bl xs.isEmpty) H
def rNeNil (K : PySem.W.Frag) : R2 := fun x y H Q => ∃ (a b : Addr) (xs : List V), x = .ref a ∧ y = .ref b ∧ SqL K H a xs ∧ SqL K H b [] ∧ Q (.bl (!xs.isEmpty)) H
theorem op_eqNil (hu : X.A.units + 200 < cLine) : OpR X (compareOp .Eq) (rEqNil X.K) := by
  intro pins s σ H x y v u Q I rx ry h
  obtain ⟨a, b, xs, rfl, rfl, ha, hb, q⟩ := h
  cases rx
  cases ry
  obtain ⟨its, r1, p1, _⟩ := I.list ha
  obtain ⟨its2, r2, p2, _⟩ := I.list hb
  cases r2
  cases xs with
  | nil =>
    cases r1
    exact SeqAt.eq_listAt (e := fun _ => true) p1.isList p2.isList rfl (by omega) (fun j h1 _ => absurd h1 (Nat.not_lt_zero j)) ⟨.bl true, H, I, rfl, q⟩
  | cons z zs =>
    cases r1
    exact SeqAt.eq_list_lengthsAt p1.isList p2.isList (by simp) (by omega) ⟨.bl false, H, I, rfl, q⟩
theorem op_neNil (hu : X.A.units + 200 < cLine) : OpR X (compareOp .NotEq) (rNeNil X.K) := by
  intro pins s σ H x y v u Q I rx ry h
  obtain ⟨a, b, xs, rfl, rfl, ha, hb, q⟩ := h
  cases rx
  cases ry
  obtain ⟨its, r1, p1, _⟩ := I.list ha
  obtain ⟨its2, r2, p2, _⟩ := I.list hb
  cases r2
  cases xs with
  | nil =>
    cases r1
    exact SeqAt.RcNeAt.lists (e := fun _ => true) p1.isList p2.isList rfl (by omega) (fun j h1 _ => absurd h1 (Nat.not_lt_zero j)) _ _ _ _ ⟨.bl false, H, I, rfl, q⟩
  | cons z zs =>
    cases r1
    exact SeqAt.RcNeAt.lists_lengths p1.isList p2.isList (by simp) (by omega) _ _ _ _ ⟨.bl true, H, I, rfl, q⟩

/-- a text from behind: what of it is told is its length -/
def tRevS (te : TE) : TE := fun σ H Q => te σ H fun x H1 => ∃ z : Str, x = .str z ∧ z.length ≤ sizeLine ∧ ∀ y : Str, y.length ≤ z.length → Q (.str y) H1
theorem pe_revS {e : Expr} {te : TE} {k : Nat} {p1 p2 p3 pos : Pos} (he : PE X e te)
    (hlt : ∀ (z : Str) (t : Tok) r, letTemporaryGo e (.str z t) r = pure () := by intro _ _ _; with_unfolding_all rfl) :
    PE X (.Subscript e (.Slice none none (some (.UnaryOp .USub (.Constant (.int 1) k p1) p2)) p3) pos) (tRevS te) := by
  constructor
  intro pins s σ H Q I h
  refine Subscript_ (thn (he.run pins s σ H _ I h) ?_)
  rintro v s1 ⟨x, H1, I1, r1, z, rfl, hz, q⟩
  obtain ⟨t, rfl⟩ := r1
  have hst : PO X (some (.UnaryOp .USub (.Constant (.int 1) k p1) p2)) (tPart (tUn (rU fun i => .int (-i)) (tC (.int 1)))) :=
    po_some (pe_un un_neg pe_int)
  refine wpAny_Slice (thn (po_none.run pins s1 σ H1 (fun o H2 => o = none ∧ H2 = H1) I1 ⟨rfl, rfl⟩) ?_)
  rintro vl s2 ⟨l, H2, I2, pl, rfl, rfl⟩
  refine thn (po_none.run pins s2 σ H2 (fun o H3 => o = none ∧ H3 = H2) I2 ⟨rfl, rfl⟩) ?_
  rintro vu s3 ⟨u, H3, I3, pu, rfl, rfl⟩
  refine thn (hst.run pins s3 σ H3 (fun o H4 => o = some (-1) ∧ H4 = H3) I3 ⟨1, rfl, -1, rfl, rfl, rfl⟩) ?_
  rintro vs s4 ⟨o, H4, I4, ps, rfl, rfl⟩
  cases pl
  cases pu
  cases ps with
  | int _ uk =>
    refine tail_of_ItemOn (ops := [.ref s4.heap.objs.size, .str z t]) ⟨"str", _, F.slot_str_getitem.lookup, typeIs_str _ _ _,
      wpAny_getItem_str_slice (l := none) (u := none) (st := some (-1, uk)) ⟨_, Heap.get?_push_size _ rfl, rfl, rfl⟩ rfl
        (post_val_or_str ⟨?_, ?_⟩)⟩ (by with_unfolding_all rfl) (hlt z t)
    · exact Nat.le_trans (Txt.sliceBy_le z none none (-1, uk) (by show (-1 : Int) ≠ 0; decide)) hz
    · intro t' c
      exact ⟨.str _, H4, I4.kept (fun b u e => Heap.get?_push_of_some _ e), ⟨_, rfl⟩, q _ (Txt.sliceBy_le z none none (-1, uk) (by show (-1 : Int) ≠ 0; decide))⟩

/-- the signs of a text, a text each -/
def sgV (z : Str) : List V := z.cps.toList.map fun c => .str ⟨#[c]⟩
theorem sgV_len (z : Str) : (sgV z).length = z.length := by
  unfold sgV
  rw [List.length_map, Array.length_toList]
  rfl
theorem vals_signs : ∀ (cs : List Nat) (us : List Value), us.length = cs.length → (∀ (j : Nat) (v : Value), us[j]? = some v → ∃ c t, cs[j]? = some c ∧ v = Value.str ⟨#[c]⟩ t) →
    Vals (cs.map fun c => V.str ⟨#[c]⟩) us
  | [], [], _, _ => .nil
  | [], _ :: _, h, _ => by cases h
  | _ :: _, [], h, _ => by cases h
  | c :: cs, u :: us, hl, h => by
    obtain ⟨c', t, e1, e2⟩ := h 0 u rfl
    have e1' : c = c' := Option.some.inj e1
    subst e1'
    exact .cons ⟨t, e2⟩ (vals_signs cs us (by simpa using hl) fun j v e => h (j + 1) v (by simpa using e))
/-- list(a text) -/
theorem call_listS (hc : X.calm = true) : CallR X (.type "list") (fun xs H Q => ∃ z : Str, xs = [.str z] ∧ z.length ≤ sizeLine ∧ ∀ l, H l = none → Q (.ref l) (upd H l (.lst (sgV z)))) := by
  intro pins s σ H xs us Q I r h
  obtain ⟨z, rfl, hz, q⟩ := h
  obtain ⟨u, rfl, t, rfl⟩ := vals1 r
  refine PySem.call_list_str (I.ok.hd hc) z t (fun h' tk acc c' kp e ia => ?_) hz
  have hv : Vals (sgV z) acc.toList := vals_signs _ _ (by rw [Array.length_toList, Array.length_toList]; exact ia.1) fun j v e => by
    obtain ⟨c, u, h1, h2⟩ := ia.2 j v (by rw [← Array.getElem?_toList]; exact e)
    exact ⟨c, u, by rw [Array.getElem?_toList]; exact h1, h2⟩
  exact ⟨.ref s.heap.objs.size, _, I.laid (t' := tk) kp (Nat.le_refl _)
    (show ObjOk X.prog X.w _ h' _ (.lst (sgV z)) from ⟨by rw [sgV_len]; exact hz, acc.toList, c', hv, by rw [Array.toArray_toList]; exact e⟩), rfl, q _ (I.hok.fresh (Nat.le_refl _))⟩
end

/-! ### a comprehension over the signs of a text -/
theorem lc_str {x : Str} {g : TG} {tt : TT} {te : TE} {vs : List Nat} {σ : L2.St} {H1 : Hp} {D : Addr} {Qd : Hp → Prop} (Pv : Nat → Hp → Prop)
    (h0 : Pv 0 (upd H1 D (.lst [])))
    (hs : ∀ i c H, x.cps.toList[i]? = some c → Pv i H → g (.str ⟨#[c]⟩) (wipe σ vs) H fun σ2 H2 => wipe σ2 vs = wipe σ vs ∧ tt σ2 H2 fun b H3 =>
      if b = true then te σ2 H3 fun y H4 => ∃ acc, H4 D = some (.lst acc) ∧ acc.length < sizeLine ∧ Pv (i + 1) (upd H4 D (.lst (acc ++ [y])))
      else Pv (i + 1) H3)
    (hd : ∀ H, Pv x.cps.size H → Qd H) :
    ∃ W : Nat → Nat → Hp → Prop, (∃ m, W 0 m (upd H1 D (.lst []))) ∧ ∀ i m H, W i m H →
      ((Its x).stop i H ∧ Qd H) ∨ ((Its x).go i H ∧ ∃ Nx : Hp → Prop, (∀ H', Nx H' → ∃ m', m' < m ∧ W (i + 1) m' H') ∧
        ∀ v H', (Its x).yld i H v H' → g v (wipe σ vs) H' fun σ2 H2 => wipe σ2 vs = wipe σ vs ∧ tt σ2 H2 fun b H3 =>
          if b = true then te σ2 H3 fun y H4 => ∃ acc, H4 D = some (.lst acc) ∧ acc.length < sizeLine ∧ Nx (upd H4 D (.lst (acc ++ [y]))) else Nx H3) := by
  refine ⟨fun i m H => m = x.cps.size - i ∧ i ≤ x.cps.size ∧ Pv i H, ⟨x.cps.size, rfl, Nat.zero_le _, h0⟩, ?_⟩
  rintro i m H ⟨rfl, hi, p⟩
  by_cases hlt : i < x.cps.size
  · refine .inr ⟨hlt, Pv (i + 1), fun H' q => ⟨x.cps.size - (i + 1), by omega, rfl, by omega, q⟩, ?_⟩
    rintro v H' ⟨rfl, c, e, rfl⟩
    exact hs i c H' (by rw [Array.getElem?_toList]; exact e) p
  · have e : i = x.cps.size := by omega
    subst e
    exact .inl ⟨Nat.le_refl _, hd H p⟩

theorem sgV_get {z : Str} {j : Nat} {x : V} (h : (sgV z)[j]? = some x) : ∃ k, x = .str ⟨#[k]⟩ ∧ z.cps.toList[j]? = some k := by
  unfold sgV at h
  rw [List.getElem?_map] at h
  cases q : z.cps.toList[j]? with
  | none =>
    rw [q] at h
    cases h
  | some k =>
    rw [q] at h
    exact ⟨k, (Option.some.inj h).symm, rfl⟩
/-! ### what may be drawn from: a list, a tuple, a text -/
inductive Sq (K : PySem.W.Frag) (H : Hp) : V → List V → Prop
  | lst {a : Addr} {xs : List V} (h : SqL K H a xs) : Sq K H (.ref a) xs
  | tup {a : Addr} {xs : List V} (h : SqT K H a xs) : Sq K H (.ref a) xs
  | str {z : Str} (h : z.length ≤ sizeLine) : Sq K H (.str z) (sgV z)
theorem atI_lt {α : Type} {xs : List α} {i : Int} {n : Nat} (h0 : 0 ≤ i) (h1 : i < (n : Int)) (hn : n = xs.length) : ∃ v, atI xs i = some v ∧ xs[i.toNat]? = some v := by
  subst hn
  obtain ⟨k, rfl⟩ := Int.eq_ofNat_of_zero_le h0
  have h2 : k < xs.length := by omega
  exact ⟨xs[k], atI_nat (List.getElem?_eq_getElem h2), List.getElem?_eq_getElem h2⟩

/-- a def of the module, as it stands behind the top -/
structure DefAt (K : PySem.W.Frag) (mg : Str → Option Value) (x : Str) (ps : List Str) (st : Stmt) (f : Addr) (fd : FuncData) : Prop where
  fn : L2.Fun K x x st f fd
  mgf : mg x = some (.ref f)
  bs : L2.Binds K fd ps []
  kbs : ps ≠ [] → KBinds K fd ps ps gK gK


theorem def_mk {K : PySem.W.Frag} {mg : Str → Option Value} {h : Heap} {x : Str} {ps : List Str} {st : Stmt} {f : Addr} {oc : Value} {od an : Option Addr} {osl : Array (Option Value)}
    {kV doc pm cdv ct : Value} (X : K.In h) (G : h.Ns mainGlobals mg) (a : PySem.W.nsIn K mainGlobals x = some (some (.ref f)))
    (l : K.lookup f = some ⟨oc, od, .func (PySem.W.fnOf x x (defArgs st) (defBody st) (defScope st) .none kV doc pm an cdv ct), osl⟩)
    (c : PySem.W.codeIn K cdv x = true) (k : PySem.W.keepIn K (.ref f) = true)
    (hb : ∀ (kV doc pm : Value) (an : Option Addr) (cdv ct : Value) (us : List Value), us.length = ps.length →
      bindArgs (PySem.W.fnOf x x (defArgs st) (defBody st) (defScope st) .none kV doc pm an cdv ct) ⟨us, []⟩ = pure (ps.zip us))
    (hk : ps ≠ [] → ∀ (kV doc pm : Value) (an : Option Addr) (cdv ct : Value) (ws : List Value), ws.length = ps.length →
      bindArgs (PySem.W.fnOf x x (defArgs st) (defBody st) (defScope st) .none kV doc pm an cdv ct) ⟨[], ps.zip ws⟩ = pure (ps.zip ws)) :
    DefAt K mg x ps st f (PySem.W.fnOf x x (defArgs st) (defBody st) (defScope st) .none kV doc pm an cdv ct) := by
  have F := fun_mk (st := st) l c k
  exact ⟨F, PySem.W.mg_of X G a, F.binds hb, fun h0 => kb_all h0 fun ws hl => hk h0 kV doc pm an cdv ct ws hl⟩

theorem room200 {A : Around} {k : Nat} (hr : Room k A) : A.units + 200 < cLine := by
  have h := hr.un
  omega

/-! ### heaps -/
theorem same_new {H : Hp} {p : Addr} {o : HO} (h : H p = none) : Same H (upd H p o) := fun b x e => by
  rw [upd_ne (ne_of_none e h)]
  exact e
theorem same_mut {H H' : Hp} {p : Addr} {o : HO} (s : Same H H') (h : H p = none) : Same H (upd H' p o) := fun b x e => by
  rw [upd_ne (ne_of_none e h)]
  exact s b x e
/-- all but two is as it was -/
def But (d c : Addr) (H H' : Hp) : Prop := ∀ b o, b ≠ d → b ≠ c → H b = some o → H' b = some o
theorem But.refl (d c : Addr) (H : Hp) : But d c H H := fun _ _ _ _ e => e
theorem But.trans {d c : Addr} {H H1 H2 : Hp} (a : But d c H H1) (b : But d c H1 H2) : But d c H H2 := fun x o h1 h2 e => b x o h1 h2 (a x o h1 h2 e)
theorem But.same {d c : Addr} {H H1 H2 : Hp} (a : But d c H H1) (b : Same H1 H2) : But d c H H2 := fun x o h1 h2 e => b x o (a x o h1 h2 e)
theorem But.of {d c : Addr} {H H1 : Hp} (b : Same H H1) : But d c H H1 := fun x o _ _ e => b x o e
theorem But.mut {d c p : Addr} {o : HO} {H H1 : Hp} (a : But d c H H1) (h : H p = none) : But d c H (upd H1 p o) := fun x u h1 h2 e => by
  rw [upd_ne (ne_of_none e h)]
  exact a x u h1 h2 e
theorem But.sql {K : PySem.W.Frag} {d c a : Addr} {H H1 : Hp} {xs : List V} (h : But d c H H1) (h1 : a ≠ d) (h2 : a ≠ c) (e : SqL K H a xs) : SqL K H1 a xs := by
  rcases e with (e | ⟨o, e⟩) | e
  · exact .inl (.inl (h _ _ h1 h2 e))
  · exact .inl (.inr ⟨o, h _ _ h1 h2 e⟩)
  · exact .inr e
theorem But.sqt {K : PySem.W.Frag} {d c a : Addr} {H H1 : Hp} {xs : List V} (h : But d c H H1) (h1 : a ≠ d) (h2 : a ≠ c) (e : SqT K H a xs) : SqT K H1 a xs := by
  rcases e with (e | ⟨o, e⟩) | e
  · exact .inl (.inl (h _ _ h1 h2 e))
  · exact .inl (.inr ⟨o, h _ _ h1 h2 e⟩)
  · exact .inr e
theorem But.sq {K : PySem.W.Frag} {d c : Addr} {H H1 : Hp} {v : V} {xs : List V} (h : But d c H H1) (h1 : v ≠ .ref d) (h2 : v ≠ .ref c) (e : Sq K H v xs) : Sq K H1 v xs := by
  cases e with
  | lst e => exact .lst (h.sql (fun z => h1 (by rw [z])) (fun z => h2 (by rw [z])) e)
  | tup e => exact .tup (h.sqt (fun z => h1 (by rw [z])) (fun z => h2 (by rw [z])) e)
  | str e => exact .str e
theorem Sq.lenV {K : PySem.W.Frag} {H : Hp} {v : V} {xs : List V} (h : Sq K H v xs) : LenV K v H xs.length := by
  cases h with
  | lst e => exact .inl ⟨_, e, rfl⟩
  | tup e => exact .inr ⟨_, e, rfl⟩
  | str e => exact ⟨e, sgV_len _⟩
/-- an item of it -/
theorem Sq.item {K : PySem.W.Frag} {H : Hp} {v y : V} {xs : List V} {i : Int} {Q : VK} (h : Sq K H v xs) (e : atI xs i = some y) (q : Q y H) : rIx K v (.int i) H Q := by
  cases h with
  | lst h => exact .inl ⟨_, _, _, _, rfl, rfl, h, e, q⟩
  | tup h => exact .inr (.inl ⟨_, _, _, _, rfl, rfl, h, e, q⟩)
  | @str z hz =>
    have e2 : (ixN (sgV z).length i).bind (fun j => (sgV z)[j]?) = some y := e
    have e3 : ∃ c, atI z.cps.toList i = some c ∧ y = .str ⟨#[c]⟩ := by
      unfold sgV at e2
      rw [List.length_map] at e2
      show ∃ c, (ixN z.cps.toList.length i).bind (fun j => z.cps.toList[j]?) = some c ∧ _
      cases q : ixN z.cps.toList.length i with
      | none =>
        rw [q] at e2
        cases e2
      | some j =>
        rw [q] at e2
        have e4 : (z.cps.toList.map fun c => V.str ⟨#[c]⟩)[j]? = some y := e2
        rw [List.getElem?_map] at e4
        show ∃ c, z.cps.toList[j]? = some c ∧ _
        cases q2 : z.cps.toList[j]? with
        | none =>
          rw [q2] at e4
          cases e4
        | some c =>
          rw [q2] at e4
          exact ⟨c, rfl, (Option.some.inj e4).symm⟩
    obtain ⟨c, h1, rfl⟩ := e3
    exact .inr (.inr ⟨z, i, c, rfl, rfl, hz, h1, q⟩)
end Kit

/-! methods over promises of the quiet kind; data made of tuples -/
namespace Kit
open PySem PySem.Spec PyProof.Rows L2
section
variable {X : Cx} {CX : CXT} {k j : Nat} {C : Addr} {m : Str} {ps : List Str} {sp : Sp} {E : XK} {o e : Expr} {es : List Expr} {ta : TE} {t : TA} {pos apos : Pos}
/-- a method of the class at C -/
structure Met (P : Program) (w : World) (K : PySem.W.Frag) (mg : Str → Option Value) (base : Heap) (CX : CXT) (k : Nat) (C : Addr) (m : Str) (ps : List Str) (sp : Sp) : Prop where
  cl : Cls K C
  ex : ∃ (f : Addr) (fd : FuncData), Meth K C m f ∧ FnG P w K mg base CX k f fd ps sp ∧ Binds K fd ps []
theorem pe_m {pl : Sem Bool} (c : Met X.prog X.w X.K X.mg X.base CX k C m ps sp) (hx : Passes CX X E) (hq : Qt X.A) (hr : Room j X.A) (hk : k ≤ j)
    (he : PE X o ta) (ha : PA X (e :: es) t)
    (hst : starEach (e :: es) X.env = (false, eval e X.env) :: starEach es X.env := by rfl)
    (hpl : (backTo pos (starEach es X.env)).any (·.1) = false := by rfl)
    (ht : eval (.Call (.Attribute o m apos) (e :: es) [] pos) X.env = (eval o X.env >>= fun ov => standAt apos.atName >>= fun _ =>
      holding [ov] (getMethod ov m pl) >>= fun q =>
        callWith pos q.1 q.2 (backTo pos (starEach (e :: es) X.env)) (backToKw pos (keywordEach [] X.env))) := by rfl) :
    PE X (.Call (.Attribute o m apos) (e :: es) [] pos) (tMeth C m sp [] E ta t) := by
  obtain ⟨f, fd, hm, F, hb⟩ := c.ex
  constructor
  intro pins s σ H Q I h
  refine PySem.W.methodCall_KW (pl := pl) (thn (he.run pins s σ H _ I h) ?_) ht
  rintro u s1 ⟨x, H1, I1, rx, a, dx, fs, rfl, ea, l, q⟩
  obtain rfl : u = Value.ref a := rx
  refine getmeth_ok I1 ea c.cl hm l ?_
  refine PySem.W.callWith_K (first := [.ref a]) (h₀ := X.base) I.ok.mod.kin hm.kp (thn (ha.run pos pins s1 σ H1 _ I1 q) ?_) hst hpl
  rintro us s2 ⟨vs, H2, I2, r, q2⟩
  rw [List.append_nil] at q2
  exact ⟨I2.kIn, run_fnG (ks := []) (ws := []) (us := .ref a :: us) (vs := .ref a :: vs) F hq (hr.mono hk) (kb_of hb) hx I2 (.cons rfl r) .nil q2⟩
theorem pe_m0 {pl : Sem Bool} (c : Met X.prog X.w X.K X.mg X.base CX k C m ps sp) (hx : Passes CX X E) (hq : Qt X.A) (hr : Room j X.A) (hk : k ≤ j)
    (he : PE X o ta)
    (ht : eval (.Call (.Attribute o m apos) [] [] pos) X.env = (eval o X.env >>= fun ov => standAt apos.atName >>= fun _ =>
      holding [ov] (getMethod ov m pl) >>= fun q =>
        callWith pos q.1 q.2 (backTo pos (starEach [] X.env)) (backToKw pos (keywordEach [] X.env))) := by rfl) :
    PE X (.Call (.Attribute o m apos) [] [] pos) (tMeth C m sp [] E ta tNil) := by
  obtain ⟨f, fd, hm, F, hb⟩ := c.ex
  constructor
  intro pins s σ H Q I h
  refine PySem.W.methodCall_KW (pl := pl) (thn (he.run pins s σ H _ I h) ?_) ht
  rintro u s1 ⟨x, H1, I1, rx, a, dx, fs, rfl, ea, l, q⟩
  obtain rfl : u = Value.ref a := rx
  refine getmeth_ok I1 ea c.cl hm l ?_
  exact PySem.W.callWith_K0 (first := [.ref a]) I1.kIn hm.kp (run_fnG (ks := []) (ws := []) (us := [.ref a]) (vs := [.ref a]) F hq (hr.mono hk) (kb_of hb) hx I1 (.cons rfl .nil) .nil q)
end
end Kit

/-! max of a list whose items lie in the heap (pairs of whole numbers), and max with a default -/
namespace PySem
namespace Mx
open PySem.W PyProof.Rows
/-- all but the iterator and the list of the best stands as it stood -/
def Kp (I S : Addr) (h0 h : Heap) : Prop := ∀ b o, b ≠ I → b ≠ S → h0.get? b = some o → h.get? b = some o
theorem Kp.refl (I S : Addr) (h : Heap) : Kp I S h h := fun _ _ _ _ e => e
theorem Kp.list {I S l : Addr} {h0 h : Heap} {its : Array Value} (k : Kp I S h0 h) (n1 : l ≠ I) (n2 : l ≠ S) (e : h0.IsList l its) : h.IsList l its := e.at fun o q => k l o n1 n2 q
section
variable {prog : Program} {w : World} {A : Around} {R : Result → Shared → Prop} {I S l : Addr} {its : Array Value} {bt : Nat → Nat → Bool} {kws : List (Str × Value)} {h0 : Heap}
def CmpIn (prog : Program) (w : World) (A : Around) (I S : Addr) (h0 : Heap) (its : Array Value) (bt : Nat → Nat → Bool) : Prop :=
  ∀ (i j : Nat) (u v : Value) (s : Shared) (Q : Value → Shared → Prop) (E : Value → Shared → Prop), Kp I S h0 s.heap → its[i]? = some u → its[j]? = some v → Q (.bool (bt i j)) s → wpAny (model prog w) A (richCompare .Gt u v) Q E s
theorem loop (hh : A.in1.handled = none) (n1 : l ≠ I) (n2 : l ≠ S) (n3 : S ≠ I) (hl : h0.IsList l its) (hc : CmpIn prog w A.in1 I S h0 its bt) :
    ∀ (k j : Nat) (s : Shared) (vb : Value) (c : Nat), its.size - (j + 1) = k → j + 1 ≤ its.size → s.heap.IsListIter I l (j + 1) → Kp I S h0 s.heap → its[argBest bt j]? = some vb →
      s.heap.get? S = some { cls := .type "list", dict := none, data := .seq #[vb, vb] c, slots := #[] } →
      (∀ v h' tk, its[argBest bt (its.size - 1)]? = some v → Kp I S h0 h' → R (.ok (.ret v)) { s with heap := h', toks := tk }) →
      codeAny (model prog w) A (.builtin "max.loop" ⟨[.ref I, .none, .ref S], kws⟩) R s := by
  have W := Walks.list (prog := prog) (w := w) (A := A.in1) hh I l n1 its
  have nm : (toString "max" ++ toString ".loop" : String) = "max.loop" := by decide
  have SnI : S ∉ [I] := by simp [n3]
  intro k
  induction k with
  | zero =>
    intro j s vb c hk hj it kp pb hS hR
    have e : j + 1 = its.size := by omega
    apply codeAny_builtin F.entry_max_loop
    rw [Around.under_plainId F.plain_max_loop _]
    change wpAny _ A.in1 (seqItems? (.ref S) >>= _) _ _ s
    refine wpAny_bind (wpAny_seqItems hS rfl ?_)
    change wpAny _ A.in1 (tryCatch (pyNext (.ref I)) _ >>= _) _ _ s
    refine wpAny_bind (wpAny_tryCatch (W.done s _ _ (e ▸ ⟨it, kp.list n1 n2 hl⟩) fun h' tk kk => ?_))
    change wpAny _ A.in1 (updateSeq S (fun _ => #[]) >>= _) _ _ _
    refine wpAny_bind (wpAny_updateSeq (kk S _ SnI hS) rfl (wpAny_bind (wpAny_letGo (wpAny_pure (hR vb _ tk (by rw [← e]; exact pb) ?_)))))
    intro b o h1 h2 q
    exact (Heap.get?_update_other _ _ (Ne.symm h2)).trans (kk b o (by simp [h1]) (kp b o h1 h2 q))
  | succ k ih =>
    intro j s vb c hk hj it kp pb hS hR
    have lt : j + 1 < its.size := by omega
    apply codeAny_builtin F.entry_max_loop
    rw [Around.under_plainId F.plain_max_loop _]
    change wpAny _ A.in1 (seqItems? (.ref S) >>= _) _ _ s
    refine wpAny_bind (wpAny_seqItems hS rfl ?_)
    change wpAny _ A.in1 (tryCatch (pyNext (.ref I)) _ >>= _) _ _ s
    refine wpAny_bind (wpAny_tryCatch (W.item (j + 1) s _ _ lt ⟨it, kp.list n1 n2 hl⟩ fun v h' tk pv st kk => ?_))
    have hS' := kk S _ SnI hS
    have kp' : Kp I S h0 h' := fun b o h1 h2 q => kk b o (by simp [h1]) (kp b o h1 h2 q)
    change wpAny _ A.in1 (tryCatch (holding [v, v] (richCompare .Gt v vb >>= _)) _ >>= _) _ _ _
    refine wpAny_bind (wpAny_tryCatch (wpAny_holding (wpAny_bind (hc (j + 1) (argBest bt j) v vb _ _ _ kp' pv pb ?_))))
    refine wpAny_bind (wpAny_holding (wpAny_truthy_bool (wpAny_bind (wpAny_letGo (wpAny_pure ?_)))))
    cases hb : bt (j + 1) (argBest bt j) with
    | true =>
      simp only [if_true]
      refine wpAny_bind (wpAny_updateSeq hS' rfl (wpAny_bind (wpAny_letGo ?_)))
      rw [nm]
      refine wpAny_pure ⟨plainId_quiet F.plain_max_loop _, ih (j + 1) _ v _ (by omega) lt ?_ ?_ ?_ (Heap.get?_update_self _ hS' rfl) fun v' h2 tk2 p2 k2 => hR v' h2 tk2 p2 k2⟩
      · exact st.1.at fun o q => (Heap.get?_update_other _ _ n3).trans q
      · exact fun b o h1 h2 q => (Heap.get?_update_other _ _ (Ne.symm h2)).trans (kp' b o h1 h2 q)
      · simp only [argBest, hb, if_true]
        exact pv
    | false =>
      simp only [Bool.false_eq_true, if_false]
      refine wpAny_bind (wpAny_letGo ?_)
      rw [nm]
      refine wpAny_pure ⟨plainId_quiet F.plain_max_loop _, ih (j + 1) _ vb c (by omega) lt st.1 kp' ?_ hS' fun v' h2 tk2 p2 k2 => hR v' h2 tk2 p2 k2⟩
      simp only [argBest, hb, Bool.false_eq_true, if_false]
      exact pb
theorem first (hh : A.in1.handled = none) (n1 : l ≠ I) (n2 : l ≠ S) (n3 : S ≠ I) (hl : h0.IsList l its) (hc : CmpIn prog w A.in1 I S h0 its bt) {s : Shared} {c : Nat} (h1 : 0 < its.size)
    (it : s.heap.IsListIter I l 0) (kp : Kp I S h0 s.heap) (hS : s.heap.get? S = some { cls := .type "list", dict := none, data := .seq #[] c, slots := #[] })
    (hR : ∀ v h' tk, its[argBest bt (its.size - 1)]? = some v → Kp I S h0 h' → R (.ok (.ret v)) { s with heap := h', toks := tk }) :
    codeAny (model prog w) A (.builtin "max.loop" ⟨[.ref I, .none, .ref S], kws⟩) R s := by
  have W := Walks.list (prog := prog) (w := w) (A := A.in1) hh I l n1 its
  have nm : (toString "max" ++ toString ".loop" : String) = "max.loop" := by decide
  have SnI : S ∉ [I] := by simp [n3]
  apply codeAny_builtin F.entry_max_loop
  rw [Around.under_plainId F.plain_max_loop _]
  change wpAny _ A.in1 (seqItems? (.ref S) >>= _) _ _ s
  refine wpAny_bind (wpAny_seqItems hS rfl ?_)
  change wpAny _ A.in1 (tryCatch (pyNext (.ref I)) _ >>= _) _ _ s
  refine wpAny_bind (wpAny_tryCatch (W.item 0 s _ _ h1 ⟨it, kp.list n1 n2 hl⟩ fun v h' tk pv st kk => ?_))
  have hS' := kk S _ SnI hS
  have kp' : Kp I S h0 h' := fun b o h1 h2 q => kk b o (by simp [h1]) (kp b o h1 h2 q)
  change wpAny _ A.in1 (updateSeq S (fun _ => #[v, v]) >>= _) _ _ _
  refine wpAny_bind (wpAny_updateSeq hS' rfl ?_)
  rw [nm]
  refine wpAny_pure ⟨plainId_quiet F.plain_max_loop _, loop hh n1 n2 n3 hl hc _ 0 _ v _ rfl h1 ?_ ?_ pv (Heap.get?_update_self _ hS' rfl) fun v' h2 tk2 p2 k2 => hR v' h2 tk2 p2 k2⟩
  · exact st.1.at fun o q => (Heap.get?_update_other _ _ n3).trans q
  · exact fun b o h1 h2 q => (Heap.get?_update_other _ _ (Ne.symm h2)).trans (kp' b o h1 h2 q)
/-- of nothing: the default -/
theorem none_at (hh : A.in1.handled = none) (n1 : l ≠ I) (hl : h0.IsList l #[]) {s : Shared} {c : Nat} {d : Value} (n2 : l ≠ S) (n3 : S ≠ I)
    (it : s.heap.IsListIter I l 0) (kp : Kp I S h0 s.heap) (hS : s.heap.get? S = some { cls := .type "list", dict := none, data := .seq #[] c, slots := #[] })
    (hR : ∀ h' tk, Kp I S h0 h' → R (.ok (.ret d)) { s with heap := h', toks := tk }) :
    codeAny (model prog w) A (.builtin "max.loop" ⟨[.ref I, .none, .ref S], [("default", d)]⟩) R s := by
  have W := Walks.list (prog := prog) (w := w) (A := A.in1) hh I l n1 #[]
  apply codeAny_builtin F.entry_max_loop
  rw [Around.under_plainId F.plain_max_loop _]
  change wpAny _ A.in1 (seqItems? (.ref S) >>= _) _ _ s
  refine wpAny_bind (wpAny_seqItems hS rfl ?_)
  change wpAny _ A.in1 (tryCatch (pyNext (.ref I)) _ >>= _) _ _ s
  refine wpAny_bind (wpAny_tryCatch (W.done s _ _ ⟨it, kp.list n1 n2 hl⟩ fun h' tk kk => ?_))
  have kp' : Kp I S h0 h' := fun b o h1 h2 q => kk b o (by simp [h1]) (kp b o h1 h2 q)
  wp_walk
  exact hR h' tk kp'
end
section
variable {prog : Program} {w : World} {A : Around} {E : Value → Shared → Prop} {s : Shared} {l : Addr} {its : Array Value} {bt : Nat → Nat → Bool} {kws : List (Str × Value)} {df : Option Value} {Q : Value → Shared → Prop}
theorem to_loop (ha : argsOk "max" ⟨[.ref l], kws⟩) (hb : Builtin.Builtins.bindParams "max" ["key", "default"] 0 ⟨[], kws⟩ = pure [none, df]) (hk : df.toList.map (fun d => (("default" : Str), d)) = kws) (hl : s.heap.IsList l its)
    (h : ∀ (s2 : Shared) (I S : Addr), s2.gens = s.gens → s2.drawn = s.drawn → s2.os = s.os → l ≠ I → l ≠ S → S ≠ I → (∀ b o, s.heap.get? b = some o → b ≠ I ∧ b ≠ S) → s2.heap.IsListIter I l 0 → Kp I S s.heap s2.heap →
      s2.heap.get? S = some { cls := .type "list", dict := none, data := .seq #[] 0, slots := #[] } →
      codeAny (model prog w) A (.builtin "max.loop" ⟨[.ref I, .none, .ref S], kws⟩) (fun r s' => match r with | .ok (.ret v) => Q v s' | .ok _ => False | .error e => E e s') s2) :
    wpAny (model prog w) A (call (.builtin "max") [.ref l] kws) Q E s := by
  have nm : (toString "max" ++ toString ".loop" : String) = "max.loop" := by decide
  have ll : l < s.heap.objs.size := by
    obtain ⟨_, e, _⟩ := hl
    exact Heap.lt_size e
  refine wpAny_call (codeAny_call_builtin F.plain_max F.entry_max ?_)
  simp only [checkBuiltinCall, F.kind_max]
  have fin : wpAny (model prog w) A.in1 (Builtin.«max» ⟨[.ref l], kws⟩) (fun fin s' => match fin with
      | .done f => (match (Except.ok f : Result) with | .ok (.ret v) => Q v s' | .ok _ => False | .error e => E e s')
      | .again c' => c'.quiet = true ∧ codeAny (model prog w) A c' (fun r s' => match r with | .ok (.ret v) => Q v s' | .ok _ => False | .error e => E e s') s') E s := by
    change wpAny _ A.in1 (Builtin.Builtins.bindParams "max" ["key", "default"] 0 ⟨[], kws⟩ >>= _) _ _ s
    refine wpAny_bind (wpAny_of_eq hb ?_)
    refine wpAny_bind (wpAny_pure ?_)
    refine wpAny_bind (wpAny_pyIter_list hl ?_)
    refine wpAny_bind (wpAny_newObj_type ?_)
    rw [nm, hk]
    refine wpAny_pure ⟨plainId_quiet F.plain_max_loop _, h _ s.heap.objs.size _ rfl rfl rfl (Nat.ne_of_lt ll) ?_ ?_ ?_ ?_ ?_ (Heap.get?_push_size _ rfl)⟩
    · rw [Heap.size_push]
      exact Nat.ne_of_lt (Nat.lt_succ_of_lt ll)
    · rw [Heap.size_push]
      exact Nat.succ_ne_self _
    · intro b o e
      rw [Heap.size_push]
      exact ⟨Nat.ne_of_lt (Heap.lt_size e), Nat.ne_of_lt (Nat.lt_succ_of_lt (Heap.lt_size e))⟩
    · exact ⟨_, Heap.get?_push_of_some _ (Heap.get?_push_size _ rfl), rfl, rfl⟩
    · exact fun b o _ _ e => Heap.get?_push_of_some _ (Heap.get?_push_of_some _ e)
  cases hsig : Manifest.signature? "max" with
  | none => exact wpAny_pure fin
  | some sig =>
    simp only [argsOk, hsig] at ha
    have h2 : Bind.checkArgs "max" sig ⟨[.ref l], kws⟩ = pure () := ha
    change wpAny _ A.in1 (Bind.checkArgs "max" sig ⟨[.ref l], kws⟩) _ _ s
    rw [h2]
    exact wpAny_pure fin
theorem kept_all {I S : Addr} {h h' : Heap} (f : ∀ b o, h.get? b = some o → b ≠ I ∧ b ≠ S) (k : Kp I S h h') : ∀ b o, h.get? b = some o → h'.get? b = some o := fun b o e => k b o (f b o e).1 (f b o e).2 e
theorem args_def (a d : Value) : argsOk "max" ⟨[a], [("default", d)]⟩ := by
  unfold argsOk
  kernel_rfl
theorem bind_def (d : Value) : Builtin.Builtins.bindParams "max" ["key", "default"] 0 ⟨[], [("default", d)]⟩ = pure [none, some d] := by kernel_rfl
theorem bind_0 : Builtin.Builtins.bindParams "max" ["key", "default"] 0 ⟨[], []⟩ = pure [none, none] := by kernel_rfl
end
end Mx
end PySem
namespace L2
open PySem PySem.Spec PyProof.Rows Kit
/-- pairs of whole numbers, one above the other -/
def pgt (p q : Int × Int) : Bool := decide (q.1 < p.1) || (decide (p.1 = q.1) && decide (q.2 < p.2))
theorem pgt_tr {p q r : Int × Int} (h1 : pgt p q = false) (h2 : pgt q r = false) : pgt p r = false := by
  obtain ⟨a, b⟩ := p
  obtain ⟨c, d⟩ := q
  obtain ⟨e, f⟩ := r
  simp only [pgt, Bool.or_eq_false_iff, Bool.and_eq_false_iff, decide_eq_false_iff_not] at *
  omega
theorem pgt_as {p q : Int × Int} (h : pgt p q = true) : pgt q p = false := by
  obtain ⟨a, b⟩ := p
  obtain ⟨c, d⟩ := q
  simp only [pgt, Bool.or_eq_false_iff, Bool.and_eq_false_iff, decide_eq_false_iff_not, Bool.or_eq_true, Bool.and_eq_true, decide_eq_true_eq] at *
  omega
theorem pgt_ir (p : Int × Int) : pgt p p = false := by
  obtain ⟨a, b⟩ := p
  simp [pgt]
theorem best_of (f : Nat → Int × Int) : ∀ k, argBest (fun i j => pgt (f i) (f j)) k ≤ k ∧ ∀ i, i ≤ k → pgt (f i) (f (argBest (fun i j => pgt (f i) (f j)) k)) = false
  | 0 => ⟨Nat.le_refl _, fun i hi => by
    have e : i = 0 := by omega
    subst e
    exact pgt_ir _⟩
  | k + 1 => by
    obtain ⟨h1, h2⟩ := best_of f k
    rw [show argBest (fun i j => pgt (f i) (f j)) (k + 1) = if pgt (f (k + 1)) (f (argBest (fun i j => pgt (f i) (f j)) k)) = true then k + 1 else argBest (fun i j => pgt (f i) (f j)) k from rfl]
    cases hb : pgt (f (k + 1)) (f (argBest (fun i j => pgt (f i) (f j)) k)) with
    | true =>
      rw [if_pos rfl]
      refine ⟨Nat.le_refl _, fun i hi => ?_⟩
      rcases Nat.lt_or_ge k i with h | h
      · have e : i = k + 1 := by omega
        subst e
        exact pgt_ir _
      · exact pgt_tr (h2 i h) (pgt_as hb)
    | false =>
      rw [if_neg Bool.false_ne_true]
      refine ⟨Nat.le_succ_of_le h1, fun i hi => ?_⟩
      rcases Nat.lt_or_ge k i with h | h
      · have e : i = k + 1 := by omega
        subst e
        exact hb
      · exact h2 i h
theorem best_int (f : Nat → Int) : ∀ k, argBest (fun i j => decide (f i > f j)) k ≤ k ∧ ∀ i, i ≤ k → f i ≤ f (argBest (fun i j => decide (f i > f j)) k)
  | 0 => ⟨Nat.le_refl _, fun i hi => by
    have e : i = 0 := by omega
    subst e
    exact Int.le_refl _⟩
  | k + 1 => by
    obtain ⟨h1, h2⟩ := best_int f k
    rw [show argBest (fun i j => decide (f i > f j)) (k + 1) = if decide (f (k + 1) > f (argBest (fun i j => decide (f i > f j)) k)) = true then k + 1 else argBest (fun i j => decide (f i > f j)) k from rfl]
    by_cases hb : f (k + 1) > f (argBest (fun i j => decide (f i > f j)) k)
    · rw [if_pos (decide_eq_true hb)]
      refine ⟨Nat.le_refl _, fun i hi => ?_⟩
      rcases Nat.lt_or_ge k i with h | h
      · have e : i = k + 1 := by omega
        subst e
        exact Int.le_refl _
      · have := h2 i h
        omega
    · rw [if_neg (by rw [decide_eq_false hb]; exact Bool.false_ne_true)]
      refine ⟨Nat.le_succ_of_le h1, fun i hi => ?_⟩
      rcases Nat.lt_or_ge k i with h | h
      · have e : i = k + 1 := by omega
        subst e
        omega
      · exact h2 i h
section
variable {X : Cx}
theorem cmp_pair {A : Around} {s : Shared} {a b : Addr} {p q : Int × Int} {t1 t2 t3 t4 : Tok} (ha : s.heap.IsTuple a #[.int p.1 t1, .int p.2 t2]) (hb : s.heap.IsTuple b #[.int q.1 t3, .int q.2 t4]) (hu : A.units < cLine) :
    Ob.RcOp .Gt A s (.ref a) (.ref b) (pgt p q) := by
  have h := Ob.RcOp.tuples_gt (A := A) (e := fun j => if j = 0 then p.1 == q.1 else p.2 == q.2) (r := fun j => if j = 0 then decide (q.1 < p.1) else decide (q.2 < p.2)) ha hb hu ?_ ?_
  · have e : Ob.lexAt (fun j => if j = 0 then p.1 == q.1 else p.2 == q.2) (fun j => if j = 0 then decide (q.1 < p.1) else decide (q.2 < p.2)) (decide ((#[Value.int p.1 t1, .int p.2 t2] : Array Value).size > (#[Value.int q.1 t3, .int q.2 t4] : Array Value).size)) 0
        (min (#[Value.int p.1 t1, .int p.2 t2] : Array Value).size (#[Value.int q.1 t3, .int q.2 t4] : Array Value).size) = pgt p q := by
      change (if (p.1 == q.1) = true then (if (p.2 == q.2) = true then decide (2 > 2) else decide (q.2 < p.2)) else decide (q.1 < p.1)) = pgt p q
      unfold pgt
      by_cases h1 : p.1 = q.1
      · by_cases h2 : p.2 = q.2
        · simp [h1, h2]
        · simp [h1, h2]
      · simp [h1]
    rw [e] at h
    exact h
  · intro j h1 h2
    match j, h1, h2 with
    | 0, _, _ => exact SeqAt.EqAt.int_int _ _ _ _
    | 1, _, _ => exact SeqAt.EqAt.int_int _ _ _ _
  · intro j h1 h2 _
    match j, h1, h2 with
    | 0, _, _ => exact Ob.RcOp.gt_int _ _ _ _
    | 1, _, _ => exact Ob.RcOp.gt_int _ _ _ _
/-- max of a list of pairs -/
def rMaxP (K : PySem.W.Frag) : List V → Hp → VK → Prop := fun vs H Q => ∃ (a : Addr) (rs : List Addr) (ps : List (Int × Int)), vs = [.ref a] ∧ SqL K H a (rs.map V.ref) ∧ rs.length = ps.length ∧ 0 < ps.length ∧
  (∀ (i : Nat) (r : Addr) (p : Int × Int), rs[i]? = some r → ps[i]? = some p → SqT K H r [.int p.1, .int p.2]) ∧
  ∀ (i : Nat) (r : Addr) (p : Int × Int), rs[i]? = some r → ps[i]? = some p → (∀ q ∈ ps, pgt q p = false) → Q (.ref r) H
theorem call_maxP (hc : X.calm = true) (hu : X.A.units + 64 < cLine) : CallR X (.builtin "max") (rMaxP X.K) := by
  intro pins s σ H vs us Q I r h
  obtain ⟨a, rs, ps, rfl, hs, hl, h0, ht, q⟩ := h
  obtain ⟨its, rv, pl, _⟩ := I.list hs
  rw [Vals.ref1 r]
  have li := pl.isList
  have hn : its.toArray.size = ps.length := by
    have e1 := Paired.length rv
    rw [List.length_map, hl] at e1
    have e2 : its.toArray.size = its.length := List.size_toArray
    omega
  have at_ : ∀ (i : Nat) (v : Value), its.toArray[i]? = some v → ∃ (r : Addr) (p : Int × Int) (t1 t2 : Tok), rs[i]? = some r ∧ ps[i]? = some p ∧ v = .ref r ∧ s.heap.IsTuple r #[.int p.1 t1, .int p.2 t2] := by
    intro i v hv
    have hi : i < ps.length := by
      rw [← hn]
      exact (Array.getElem?_eq_some_iff.mp hv).1
    obtain ⟨r, e1⟩ : ∃ r, rs[i]? = some r := ⟨rs[i]'(by omega), List.getElem?_eq_getElem _⟩
    obtain ⟨p, e2⟩ : ∃ p, ps[i]? = some p := ⟨ps[i]'hi, List.getElem?_eq_getElem _⟩
    have e0 : (rs.map V.ref)[i]? = some (.ref r) := by
      rw [List.getElem?_map, e1]
      rfl
    obtain ⟨u, hu', ru⟩ := rv.get e0
    have hv' : its[i]? = some v := by
      rw [← hv]
      simp
    rw [hv'] at hu'
    have e4 : v = u := Option.some.inj hu'
    have e3 : u = .ref r := ru
    obtain ⟨ts, rt, tt, _⟩ := I.tuple (ht i r p e1 e2)
    cases rt with
    | cons r1 rt =>
      cases rt with
      | cons r2 rt =>
        cases rt
        obtain ⟨t1, rfl⟩ := r1
        obtain ⟨t2, rfl⟩ := r2
        exact ⟨r, p, t1, t2, e1, e2, e4.trans e3, tt⟩
  refine PySem.Mx.to_loop (kws := []) (df := none) (F.args_max1 _) PySem.Mx.bind_0 rfl li fun s2 Ia Sa g1 g2 g3 n1 n2 n3 fr it kp hS => ?_
  have hh : X.A.in1.handled = none := I.ok.hd hc
  refine PySem.Mx.first (bt := fun i j => pgt (ps.getD i (0, 0)) (ps.getD j (0, 0))) hh n1 n2 n3 li ?_ (by omega) it kp hS ?_
  · intro i j u v s' Q' E' k' hi hj hq
    obtain ⟨r1, p1, t1, t2, _, e2, rfl, tu⟩ := at_ i u hi
    obtain ⟨r2, p2, t3, t4, _, f2, rfl, tv⟩ := at_ j v hj
    have x1 : ps.getD i (0, 0) = p1 := by rw [List.getD_eq_getElem?_getD, e2]; rfl
    have x2 : ps.getD j (0, 0) = p2 := by rw [List.getD_eq_getElem?_getD, f2]; rfl
    have kk := PySem.Mx.kept_all fr k'
    dsimp only at hq
    rw [x1, x2] at hq
    exact cmp_pair (tu.at fun o q => kk _ o q) (tv.at fun o q => kk _ o q) (by show X.A.units + 1 < cLine; omega) _ _ _ _ hq
  · intro v h' tk pv kp'
    obtain ⟨r1, p1, t1, t2, e1, e2, rfl, _⟩ := at_ _ v pv
    have kk := PySem.Mx.kept_all fr kp'
    have bst := best_of (fun i => ps.getD i (0, 0)) (its.toArray.size - 1)
    have eq2 : s2 = { s with heap := s2.heap, toks := s2.toks } := by
      cases s2
      cases s
      simp only at g1 g2 g3
      subst g1 g2 g3
      rfl
    refine ⟨.ref r1, H, ?_, rfl, q _ r1 p1 e1 e2 fun p hp => ?_⟩
    · rw [eq2]
      exact I.kept (t' := tk) kk
    · obtain ⟨j, hj⟩ := List.mem_iff_getElem?.mp hp
      have hj' : j < ps.length := (List.getElem?_eq_some_iff.mp hj).1
      have z := bst.2 j (by omega)
      have x1 : ps.getD j (0, 0) = p := by rw [List.getD_eq_getElem?_getD, hj]; rfl
      have x2 : ps.getD (argBest (fun i j => pgt (ps.getD i (0, 0)) (ps.getD j (0, 0))) (its.toArray.size - 1)) (0, 0) = p1 := by rw [List.getD_eq_getElem?_getD, e2]; rfl
      rw [x1, x2] at z
      exact z
/-- max of a list of whole numbers, or what is told where there is none -/
def rMaxDf (K : PySem.W.Frag) : List V → List V → Hp → VK → Prop := fun vs zs H Q => ∃ (a : Addr) (ns : List Int) (d : V), vs = [.ref a] ∧ zs = [d] ∧ SqL K H a (ns.map V.int) ∧
  (ns = [] → Q d H) ∧ ∀ m, m ∈ ns → (∀ y, y ∈ ns → y ≤ m) → Q (.int m) H
theorem call_maxDf (hc : X.calm = true) : CallRK X (.builtin "max") [("default" : Str)] (rMaxDf X.K) := by
  intro pins s σ H vs zs us ws Q I r rz h
  obtain ⟨a, ns, d, rfl, rfl, hs, qn, q⟩ := h
  obtain ⟨its, rv, pl, _⟩ := I.list hs
  rw [Vals.ref1 r]
  obtain ⟨dv, rfl, rd⟩ := rz.one
  have li := pl.isList
  refine PySem.Mx.to_loop (kws := [("default", dv)]) (df := some dv) (PySem.Mx.args_def _ _) (PySem.Mx.bind_def _) rfl li fun s2 Ia Sa g1 g2 g3 n1 n2 n3 fr it kp hS => ?_
  have hh : X.A.in1.handled = none := I.ok.hd hc
  have eq2 : s2 = { s with heap := s2.heap, toks := s2.toks } := by
    cases s2
    cases s
    simp only at g1 g2 g3
    subst g1 g2 g3
    rfl
  have at_ : ∀ (i : Nat) (v : Value), its.toArray[i]? = some v → ∃ (k : Int) (t : Tok), ns[i]? = some k ∧ v = .int k t := by
    intro i v hv
    have hv' : its[i]? = some v := by
      rw [← hv]
      simp
    have hi : i < its.length := (List.getElem?_eq_some_iff.mp hv').1
    have e1 := Paired.length rv
    rw [List.length_map] at e1
    obtain ⟨k, ek⟩ : ∃ k, ns[i]? = some k := ⟨ns[i]'(by omega), List.getElem?_eq_getElem _⟩
    have e0 : (ns.map V.int)[i]? = some (.int k) := by
      rw [List.getElem?_map, ek]
      rfl
    obtain ⟨u, hu', t, ru⟩ := rv.get e0
    rw [hv'] at hu'
    exact ⟨k, t, ek, (Option.some.inj hu').trans ru⟩
  cases ns with
  | nil =>
    cases rv
    refine PySem.Mx.none_at hh n1 li n2 n3 it kp hS fun h' tk kp' => ?_
    rw [eq2]
    exact ⟨d, H, I.kept (t' := tk) (PySem.Mx.kept_all fr kp'), rd, qn rfl⟩
  | cons k0 ns =>
    have e1 := Paired.length rv
    rw [List.length_map] at e1
    have e2 : its.toArray.size = its.length := List.size_toArray
    have h1 : 0 < its.toArray.size := by
      rw [e2, ← e1]
      exact Nat.succ_pos _
    refine PySem.Mx.first (bt := fun i j => decide ((k0 :: ns).getD i 0 > (k0 :: ns).getD j 0)) hh n1 n2 n3 li ?_ h1 it kp hS ?_
    · intro i j u v s' Q' E' k' hi hj hq
      obtain ⟨a1, t1, x1, rfl⟩ := at_ i u hi
      obtain ⟨a2, t2, x2, rfl⟩ := at_ j v hj
      have y1 : (k0 :: ns).getD i 0 = a1 := by rw [List.getD_eq_getElem?_getD, x1]; rfl
      have y2 : (k0 :: ns).getD j 0 = a2 := by rw [List.getD_eq_getElem?_getD, x2]; rfl
      dsimp only at hq
      rw [y1, y2] at hq
      exact PyProof.Rows.gt_int hq
    · intro v h' tk pv kp'
      obtain ⟨a1, t1, x1, rfl⟩ := at_ _ v pv
      obtain ⟨b1, b2⟩ := best_int (fun i => (k0 :: ns).getD i 0) (its.toArray.size - 1)
      rw [eq2]
      refine ⟨.int a1, H, I.kept (t' := tk) (PySem.Mx.kept_all fr kp'), ⟨t1, rfl⟩, q a1 (List.mem_of_getElem? x1) fun y hy => ?_⟩
      obtain ⟨j, hj⟩ := List.mem_iff_getElem?.mp hy
      have hj' : j < (k0 :: ns).length := (List.getElem?_eq_some_iff.mp hj).1
      have z := b2 j (by omega)
      have y1 : (k0 :: ns).getD j 0 = y := by rw [List.getD_eq_getElem?_getD, hj]; rfl
      have y2 : (k0 :: ns).getD (argBest (fun i j => decide ((k0 :: ns).getD i 0 > (k0 :: ns).getD j 0)) (its.toArray.size - 1)) 0 = a1 := by rw [List.getD_eq_getElem?_getD, x1]; rfl
      rw [y1, y2] at z
      exact z
end
end L2

/-! enumerate over a tuple; walks over zips of tuples -/
namespace PySem
namespace En
open Sem (wp)
set_option maxHeartbeats 1000000 in
theorem new1 {v : Value} {o : Obj} {G : Heap → Prop} (B : Begins v o G) :
    Meets (Builtin.«enumerate.__new__» ⟨[.type "enumerate", v], []⟩) (fun _ R s => G s.heap ∧
      R (.ok (.ret (.ref (s.heap.push o).objs.size))) { s with heap := (s.heap.push o).push { cls := .type "enumerate", data := .fields #[.none, .bool false, .ref s.heap.objs.size, rawInt 0, .none, .none] } }) :=
  .of_wp fun prog w A R s hh => by
    obtain ⟨hp, g, d, tk, os⟩ := s
    obtain ⟨h1, hr⟩ := hh
    have c0 := sub_enumerate
    have c1 : ∀ {A' : Around} {E : Value → Shared → Prop} {Q : Value → Shared → Prop}, Q (.ref hp.objs.size) ⟨hp.push o, g, d, tk, os⟩ → wpAny (model prog w) A' (pyIter v) Q E ⟨hp, g, d, tk, os⟩ :=
      fun z => B.iter prog w _ _ ⟨hp, g, d, tk, os⟩ _ h1 z
    wp_walk using c1
    refine wpAny_stack_any fun _ => wpAny_pure ?_
    split
    · rename_i c _ _ _ _ _
      cases (c == Value.type "enumerate") <;>
      · wp_walk using c1
        exact ⟨_, rfl, hr⟩
    · wp_walk using c1
      exact ⟨_, rfl, hr⟩
section
variable {prog : Program} {w : World} {A : Around} {E : Value → Shared → Prop} {s : Shared}
theorem call1 {v : Value} {o : Obj} {G : Heap → Prop} {Q : Value → Shared → Prop} (B : Begins v o G) (h1 : G s.heap)
    (h : ∀ h', IsEnum h' (s.heap.objs.size + 1) s.heap.objs.size 0 .none → h'.get? s.heap.objs.size = some o →
      (∀ b u, s.heap.get? b = some u → h'.get? b = some u) → Q (.ref (s.heap.objs.size + 1)) { s with heap := h' }) :
    wpAny (model prog w) A (call (.type "enumerate") [v]) Q E s := by
  refine callType_new F.called_enumerate (by decide) (F.typeCall_enumerate_1 _) (F.newCall_enumerate_1 _) (fun obj => F.args_object_init_2 obj _) F.entry_enumerate_new (new1 B) ⟨h1, ?_⟩
  have sz : (s.heap.push o).objs.size = s.heap.objs.size + 1 := Heap.size_push ..
  change _ ∧ _
  rw [sz]
  have at1 : IsEnum ((s.heap.push o).push { cls := .type "enumerate", data := .fields #[.none, .bool false, .ref s.heap.objs.size, rawInt 0, .none, .none] }) (s.heap.objs.size + 1) s.heap.objs.size 0 .none := by
    have z := Heap.get?_push_size (s.heap.push o) (o := { cls := .type "enumerate", data := .fields #[.none, .bool false, .ref s.heap.objs.size, rawInt 0, .none, .none] }) rfl
    rw [sz] at z
    exact z
  exact ⟨⟨_, at1, rfl⟩, h _ at1 (Heap.get?_push_of_some _ (Heap.get?_push_size _ B.free)) fun b u e => Heap.get?_push_of_some _ (Heap.get?_push_of_some _ e)⟩
end
theorem endDraws {prog : Program} {w : World} {A : Around} (hh : A.in1.handled = none) (it t : Addr) (hne : t ≠ it) {items : Array Value} {n : Nat} (hn : items[n]? = none) :
    Draws prog w A.in1 it [it, t] n (fun _ _ => True) (fun j h => j = n ∧ h.IsTupleIter it t n ∧ h.IsTuple t items) where
  live := fun _ _ st => by
    obtain ⟨_, ⟨o, ho, _⟩, _⟩ := st
    exact ⟨o, ho⟩
  frame := fun _ _ _ st hk => ⟨st.1, st.2.1.at fun o e => hk it (by simp) o e, st.2.2.at fun o e => hk t (by simp) o e⟩
  item := fun i s Q E hi st _ => absurd st.1 (Nat.ne_of_lt hi)
  done := fun s Q E st hE => wpAny_nextOf_tuple_end hh st.2.1 st.2.2 hn hE
end En
end PySem
namespace L2
open PySem PySem.Spec PyProof.Rows Kit
/-- the tuple at a as it stands at each turn, each item in a new pair -/
def IteT (K : PySem.W.Frag) (a : Addr) : It :=
  ⟨fun i H => ∃ (xs : List V) (x : V), SqT K H a xs ∧ xs[i]? = some x, fun i H v H' => ∃ T x, v = .ref T ∧ H T = none ∧ H' = upd H T (.tup [.int (i : Nat), x]) ∧ ∀ xs, SqT K H a xs → xs[i]? = some x,
    fun i H => ∃ xs : List V, SqT K H a xs ∧ xs.length ≤ i⟩
theorem turn_enumT {P : Program} {w : World} {K : PySem.W.Frag} {elts : List Expr} {kk : Nat} {tpos : Pos} (a e it : Addr) (n1 : e ≠ it) (n2 : a ≠ it) (n3 : a ≠ e) :
    Turn P w K (.Tuple elts kk tpos) (IteT K a) [e, it] e (fun i h => (∃ old, IsEnum h e it ((i : Nat) : Int) old) ∧ h.IsTupleIter it a i) where
  mem := by simp
  obj := fun i h st b hb => by
    obtain ⟨⟨old, he⟩, ⟨o, ho, hc, hd⟩⟩ := st
    have e' : b = e ∨ b = it := by simpa using hb
    rcases e' with rfl | rfl
    · exact ⟨_, he, fun v q => nomatch q⟩
    · exact ⟨o, ho, fun v q => by
        rw [hd] at q
        cases q⟩
  keep := fun i h h' st k => by
    obtain ⟨⟨old, he⟩, hi⟩ := st
    exact ⟨⟨old, k e (by simp) _ he⟩, hi.at fun o q => k it (by simp) o q⟩
  item := by
    intro X hP hw hK hc i pins s σ H E I hf st hg
    subst hP hw hK
    obtain ⟨⟨old, he⟩, hit⟩ := st
    obtain ⟨xs, x, hq, hx⟩ := hg
    obtain ⟨its, rv, p, hz⟩ := I.tuple hq
    obtain ⟨u, hu, ru⟩ := rv.get hx
    have hel : e < s.heap.objs.size := Heap.lt_size he
    have hil : it < s.heap.objs.size := by
      obtain ⟨_, q, _⟩ := hit
      exact Heap.lt_size q
    have hlen : i < its.toArray.size := by
      have := (List.getElem?_eq_some_iff.mp hu).1
      simpa using this
    have D := Draws.tuple (prog := X.prog) (w := X.w) (A := X.A.in1) (I.ok.hd hc) it a n2 its.toArray
    refine wpAny_pyNext_enum_itemD D he ⟨hit, p⟩ hlen n1 (by simp [n1, Ne.symm n3]) fun y h' tk hy ho st' hT hsz hk => ?_
    have ey : y = u := by
      have z : its[i]? = some y := by simpa using hy
      rw [hu] at z
      exact (Option.some.inj z).symm
    subst ey
    refine ⟨_, rfl, wpAny_letOwnedTupleGo_enum (s := { s with heap := h', toks := tk + 1 }) ho fun h'' he' sb => ?_⟩
    have hT2 : h''.get? s.heap.objs.size = some { cls := .type "tuple", data := .seq #[.int i tk, y] } := (sb.2 _ (Nat.ne_of_gt hel)).trans hT
    have new : ObjOk X.prog X.w (upd H s.heap.objs.size (.tup [.int (i : Nat), x])) h'' s.heap.objs.size (.tup [.int (i : Nat), x]) :=
      ⟨by show 2 ≤ sizeLine; decide, [.int i tk, y], .cons ⟨_, rfl⟩ (.cons ru .nil), ⟨_, hT2, rfl, _, rfl⟩⟩
    have I1 : Inv X pins σ (upd H s.heap.objs.size (.tup [.int (i : Nat), x])) { s with heap := h'', toks := tk + 1 } :=
      I.turnedNew (ch := [e, it]) (fun b ob hb q => (sb.2 b (fun z => hb (by simp [z]))).trans (hk b ob (fun z => hb (by simp [z])) (fun z => hb (by simp [z])) q)) hf (Nat.le_refl _) new
    refine ⟨.ref s.heap.objs.size, _, I1, rfl, ⟨_, x, rfl, I.hok.fresh (Nat.le_refl _), rfl, fun ys hy => by rw [I.tuple_inj hy hq]; exact hx⟩, ⟨⟨y, ?_⟩, st'.1.at fun o q => (sb.2 it (Ne.symm n1)).trans q⟩, fun b hb => ?_⟩
    · have e1 : ((i + 1 : Nat) : Int) = (i : Int) + 1 := by omega
      rw [e1]
      exact he'
    · have hb' : b < s.heap.objs.size := by
        have e' : b = e ∨ b = it := by simpa using hb
        rcases e' with rfl | rfl
        · exact hel
        · exact hil
      rw [upd_ne (Nat.ne_of_lt hb')]
      exact (hf b hb).1
  done := by
    intro X hP hw hK hc i pins s σ H E I hf st hg
    subst hP hw hK
    obtain ⟨⟨old, he⟩, hit⟩ := st
    obtain ⟨xs, hq, hx⟩ := hg
    obtain ⟨its, rv, p, hz⟩ := I.tuple hq
    obtain ⟨f0, f1, f2, f3, f4, f5⟩ := hf it (by simp)
    have hl : xs.length = its.length := Paired.length rv
    have hn : its.toArray[i]? = none := by
      have z : its[i]? = none := List.getElem?_eq_none (by omega)
      simpa using z
    exact wpAny_pyNext_enum_endD (En.endDraws (I.ok.hd hc) it a n2 hn) he ⟨rfl, hit, p⟩ fun h' eb => ⟨rfl, I.turned (t' := s.toks) (fun b o hb q => eb b o hb q) f0 f1 f3 f4 f5⟩
  self := fun A i s Q E st h => by
    obtain ⟨⟨_, he⟩, _⟩ := st
    exact wpAny_pyIter_enum he h
def iEnumT (K : PySem.W.Frag) (ta : TA) : TI := fun σ H R => ta σ H fun vs H1 => ∃ a xs, vs = [.ref a] ∧ SqT K H1 a xs ∧ R (IteT K a) H1
theorem pi_enumT {X : Cx} {e : Expr} {ta : TA} {p pos tpos : Pos} {elts : List Expr} {kk : Nat} (hg : Gl X "enumerate") (hm : X.mg "enumerate" = none) (ha : PA X [e] ta) (hs : starEach [e] X.env = [(false, eval e X.env)] := by rfl) :
    PI X (.Tuple elts kk tpos) (.Call (.Name "enumerate" p) [e] [] pos) (iEnumT X.K ta) := by
  constructor
  intro pins s σ H R I h
  refine Call_ (ld_blt I hg hm boot_enumerate (PyProof.Rows.callWith_type1 (thn (ha.run pos pins s σ H _ I h) ?_) hs rfl))
  rintro us s1 ⟨vs, H1, I1, r1, a, xs, rfl, hq, q⟩
  cases r1 with
  | cons r rr =>
    cases rr
    cases r
    obtain ⟨its, rv, tt, hz⟩ := I1.tuple hq
    have al : a < s1.heap.objs.size := by
      obtain ⟨o, e, _⟩ := tt
      exact Heap.lt_size e
    refine PySem.En.call1 (begins_tuple a its.toArray) tt fun h' he hit hk => wpAny_pyIter_enum he ?_
    have I2 : Inv X pins σ H1 { s1 with heap := h' } := I1.kept (t' := s1.toks) hk
    refine ⟨s1.heap.objs.size + 1, [s1.heap.objs.size + 1, s1.heap.objs.size], _, _, H1, rfl, I2, turn_enumT a (s1.heap.objs.size + 1) s1.heap.objs.size (Nat.succ_ne_self _) (Nat.ne_of_lt al) (Nat.ne_of_lt (Nat.lt_succ_of_lt al)), ⟨⟨.none, he⟩, ⟨_, hit, rfl, rfl⟩⟩, fun b hb => ?_, q⟩
    have e' : b = s1.heap.objs.size + 1 ∨ b = s1.heap.objs.size := by simpa using hb
    have hle : s1.heap.objs.size ≤ b := by
      rcases e' with rfl | rfl
      · exact Nat.le_add_right _ _
      · exact Nat.le_refl _
    exact I1.fpOk hle (I1.hok.fresh hle)
section
variable {K : PySem.W.Frag} {a b : Addr} {xs ys : List V}
theorem walk_enumT : Walk (IteT K a) xs.length (fun H => SqT K H a xs) (YPair (fun i => some (.int (i : Nat))) (fun i => xs[i]?)) where
  goes := fun i H hi h => ⟨xs, xs[i], h, by simp [hi]⟩
  stops := fun H h => ⟨xs, h, Nat.le_refl _⟩
  yields := fun i H x H' hi h y => by
    obtain ⟨T, u, rfl, nT, e, hu⟩ := y
    exact ⟨T, _, u, rfl, nT, e, rfl, hu xs h⟩
theorem walk_zipT {n : Nat} (h1 : n = xs.length) (h2 : n = ys.length) : Walk (RZ.ItzT K a b) n (fun H => SqT K H a xs ∧ SqT K H b ys) (YPair (fun i => xs[i]?) (fun i => ys[i]?)) where
  goes := fun i H hi h => ⟨xs, ys, xs[i]'(by omega), ys[i]'(by omega), h.1, h.2, List.getElem?_eq_getElem _, List.getElem?_eq_getElem _⟩
  stops := fun H h => ⟨xs, ys, h.1, h.2, .inl (by omega)⟩
  yields := fun i H x H' hi h y => by
    obtain ⟨T, u, v, rfl, nT, e, hu, hv⟩ := y
    exact ⟨T, u, v, rfl, nT, e, hu xs h.1, hv ys h.2⟩
end
end L2

/-! a tuple from behind; a tuple times nought or one -/
namespace X7
open PySem PySem.Spec PyProof.Rows L2 Kit HT
section
variable {prog : Program} {w : World} {A : Around} {E : Value → Shared → Prop} {s : Shared}
theorem adjust_rev (n : Nat) : Builtin.Slice.sliceAdjust none none (-1) (n : Int) = ((n : Int) - 1, -1) := by
  unfold Builtin.Slice.sliceAdjust
  rfl
theorem places_rev (n : Nat) : Builtin.Slice.slicePlaces ((n : Int) - 1) (-1) (-1) = n := by
  unfold Builtin.Slice.slicePlaces
  have h1 : ¬ ((-1 : Int) > 0) := by omega
  have e1 : (- -1 : Int) = 1 := by decide
  simp only [h1, if_false, e1, Int.ediv_one]
  split <;> omega
theorem pick_rev (xs : Array Value) : ((List.range xs.size).filterMap fun (m : Nat) => xs[(((xs.size : Int) - 1) + (m : Int) * -1).toNat]?).toArray = xs.toList.reverse.toArray := by
  have e : (fun (m : Nat) => xs[(((xs.size : Int) - 1) + (m : Int) * -1).toNat]?) = (fun i => xs[i]?) ∘ fun m => xs.size - 1 - m := by
    funext m
    show xs[(((xs.size : Int) - 1) + (m : Int) * -1).toNat]? = xs[xs.size - 1 - m]?
    congr 1
    omega
  rw [e, ← List.filterMap_map, PySem.W.krv_range, List.filterMap_reverse, PySem.W.krv_all]
theorem sliceApplied_rev {sl : Addr} {vs : Value} {n : Nat} {Q : Int × Int × Nat → Shared → Prop} (hs : s.heap.IsSliceOf sl .none .none vs) (ps : IsPart vs (some (-1)))
    (h : Q ((n : Int) - 1, -1, n) s) : wpAny (model prog w) A (Builtin.Slice.sliceApplied (.ref sl) (pure (n : Int))) Q E s := by
  obtain ⟨os, hos, hcs, hds⟩ := id hs
  unfold Builtin.Slice.sliceApplied Builtin.Slice.sliceFields
  refine wpAny_bind (wpAny_bind (wpAny_field hos hds (x := .none) rfl (wpAny_bind (wpAny_field hos hds (x := .none) rfl (wpAny_bind (wpAny_field hos hds (x := vs) rfl (wpAny_pure ?_)))))))
  refine wpAny_bind (slicePart_ ps ?_)
  show wpAny _ _ (if ((-1 : Int) == 0) = true then _ else _) _ _ s
  rw [if_neg (by decide)]
  refine wpAny_bind (slicePart_none (wpAny_bind (slicePart_none (wpAny_bind (wpAny_pure ?_)))))
  show wpAny _ _ (match Builtin.Slice.sliceAdjust none none (-1) (n : Int) with | (lo, hi) => pure (lo, (-1 : Int), Builtin.Slice.slicePlaces lo hi (-1))) _ _ s
  rw [adjust_rev n]
  show wpAny _ _ (pure ((n : Int) - 1, (-1 : Int), Builtin.Slice.slicePlaces ((n : Int) - 1) (-1) (-1))) _ _ s
  rw [places_rev]
  exact wpAny_pure h
theorem getItem_tuple_rev {t sl : Addr} {items : Array Value} {vs : Value} {Q : Value → Shared → Prop} (ht : IsTup s.heap t items) (hs : s.heap.IsSliceOf sl .none .none vs) (ps : IsPart vs (some (-1)))
    (h : Q (.ref s.heap.objs.size) { s with heap := s.heap.push { cls := .type "tuple", data := .seq items.toList.reverse.toArray } })
    (hsz : items.size ≤ sizeLine) : wpAny (model prog w) A (getItem (.ref t) (.ref sl)) Q E s := by
  have htake : sizeOk (.seq items.toList.reverse.toArray) := by
    show items.toList.reverse.toArray.size ≤ sizeLine
    rw [List.size_toArray, List.length_reverse, Array.length_toList]
    exact hsz
  obtain ⟨os, hos, hcs, hds⟩ := id hs
  have hTs : s.TypeIs (.ref sl) "slice" := ⟨os, hos, hcs⟩
  unfold getItem
  try with_reducible refine wpAny_holding ?_
  first | refine wpAny_bind (wpAny_pure ?_) | skip
  refine wpAny_bind (wpAny_sequenceKey ht.typeIs (by decide) ?_)
  refine wpAny_bind (wpAny_callSpecial?_slot (name := Str.ofString "__getitem__") ht.typeIs PyProof.Rows.slot_tuple_getitem
    (wpAny_call_entry PyProof.Rows.slot_tuple_getitem ht.typeIs entry_tuple_getitem ?_ (args_tuple_getitem _ _)))
  show wpAny _ _ (Builtin.Tuple.tupleItemsOf (.ref t) >>= _) _ _ s
  refine wpAny_bind (tupleItemsOf_ ht ?_)
  refine wpAny_bind (wpAny_typeOf hTs ?_)
  rw [if_pos (by decide)]
  refine wpAny_bind (sliceApplied_rev hs ps ?_)
  have hno : ¬ ((((items.size : Int) - 1) == 0 && (-1 : Int) == 1 && items.size == items.size) = true) := by
    intro q
    rw [Bool.and_eq_true, Bool.and_eq_true] at q
    exact absurd (eq_of_beq q.1.2) (by decide)
  show wpAny _ _ (if (((items.size : Int) - 1) == 0 && (-1 : Int) == 1 && items.size == items.size) = true then _ else _) _ _ s
  rw [if_neg hno, pick_rev]
  first
    | exact wpAny_bind (m := Builtin.Tuple.tupleExact _) (wpAny_newObj_type (wpAny_pure ⟨_, rfl, wpAny_pure h⟩) htake)
    | exact wpAny_bind (m := Builtin.Tuple.tupleExact _) (wpAny_newObj_type (wpAny_bind (wpAny_pure (wpAny_pure ⟨_, rfl, wpAny_pure h⟩))) htake)
    | exact wpAny_bind (wpAny_bind (m := Builtin.Tuple.tupleExact _) (wpAny_newObj_type (wpAny_pure (wpAny_pure ⟨_, rfl, wpAny_pure h⟩)) htake))
    | exact wpAny_bind (wpAny_bind (m := Builtin.Tuple.tupleExact _) (wpAny_newObj_type (wpAny_pure ⟨_, rfl, wpAny_pure h⟩) htake))
end
section
variable {X : Cx}
def tRevT (K : PySem.W.Frag) (te : TE) : TE := fun σ H Q => te σ H fun x H1 => ∃ a xs, x = .ref a ∧ SqT K H1 a xs ∧ ∀ p, H1 p = none → Q (.ref p) (upd H1 p (.tup xs.reverse))
theorem pe_revT {e : Expr} {te : TE} {k : Nat} {p1 p2 p3 pos : Pos} (he : PE X e te) : PE X (.Subscript e (.Slice none none (some (.UnaryOp .USub (.Constant (.int 1) k p1) p2)) p3) pos) (tRevT X.K te) := by
  refine ⟨fun pins s σ H Q I h => ?_⟩
  refine Subscript_ (thn (he.run pins s σ H _ I h) fun v s1 ⟨x, H1, I1, r1, q1⟩ => ?_)
  obtain ⟨a, xs, ex, hx, q⟩ := q1
  subst ex
  cases r1
  have hst : PO X (some (.UnaryOp .USub (.Constant (.int 1) k p1) p2)) (tPart (tUn (rU fun i => .int (-i)) (tC (.int 1)))) := po_some (pe_un un_neg pe_int)
  refine wpAny_Slice (thn (po_none.run pins s1 σ H1 (fun o H2 => o = none ∧ H2 = H1) I1 ⟨rfl, rfl⟩) fun vl s2 ⟨l, H2, I2, pl, el, e2⟩ => ?_)
  subst el e2
  refine thn (po_none.run pins s2 σ H2 (fun o H3 => o = none ∧ H3 = H2) I2 ⟨rfl, rfl⟩) fun vu s3 ⟨u, H3, I3, pu, eu, e3⟩ => ?_
  subst eu e3
  refine thn (hst.run pins s3 σ H3 (fun o H4 => o = some (-1) ∧ H4 = H3) I3 ⟨1, rfl, -1, rfl, rfl, rfl⟩) fun vs s4 ⟨o, H4, I4, ps, eo, e4⟩ => ?_
  subst eo e4
  have I5 : Inv X pins σ H4 { s4 with heap := s4.heap.push { cls := .type "slice", data := .fields #[vl, vu, vs] } } := I4.kept (t' := s4.toks) fun b ob q => Heap.get?_push_of_some _ q
  obtain ⟨its, r, ht, hz⟩ := I5.tuple hx
  have hlen : its.toArray.size = xs.length := by rw [List.size_toArray]; exact r.length.symm
  cases pl
  cases pu
  show wpAny (model X.prog X.w) X.A (subscriptTail e (.Slice none none (some (.UnaryOp .USub (.Constant (.int 1) k p1) p2)) p3) (.ref a) (.ref s4.heap.objs.size)) (EP X pins σ Q) X.xe { s4 with heap := s4.heap.push { cls := .type "slice", data := .fields #[.none, .none, vs] } }
  refine tail_any (ops := [.ref a, .ref s4.heap.objs.size]) ht.typeIs (PyProof.Rows.slot_tuple_getitem.lookup) ?_ (by with_unfolding_all rfl)
  refine getItem_tuple_rev ht (Heap.IsSliceOf.new _ .none .none vs) ps ?_ (by rw [hlen]; exact hz)
  refine ⟨.ref _, _, I5.laid (t' := s4.toks) (o := .tup xs.reverse) (fun b ob q => Heap.get?_push_of_some _ q) (Nat.le_refl _) ?_, rfl, q _ (I5.hok.fresh (Nat.le_refl _))⟩
  exact ⟨by rw [List.length_reverse]; exact hz, _, r.reverse, IsTup.new _ _⟩
end
end X7

namespace X7
open PySem PySem.Spec PyProof.Rows L2 Kit HT
theorem tuple_mul1 (l : Addr) (items : Array Value) (n : Nat) (dd : Option Addr) (sl : Array (Option Value)) (u : Tok) :
    Meets (Builtin.«tuple.__mul__» ⟨[.ref l, .int 1 u], []⟩) (fun _ R s => s.heap.get? l = some { cls := .type "tuple", dict := dd, data := .seq items n, slots := sl } ∧
      R (.ok (.ret (Value.ref l))) s) :=
  .of_wp fun prog w A R s h => by
    obtain ⟨hp, g, d, tk, os⟩ := s
    obtain ⟨hl, h⟩ := h
    have f1 := AutoSeq1.idx_int
    have c1 : (items.isEmpty || (1 : Int) == 1) = true := by simp
    wp_walk using wpAny_loadPart' hl
    repeat (first
      | (refine wpAny_ite_false (decide_eq_false (by decide)) ?_; wp_walk using wpAny_loadPart' hl)
      | (refine wpAny_ite_true (decide_eq_true (by rw [c1])) ?_; wp_walk using wpAny_loadPart' hl))
    exact ⟨_, rfl, h⟩
theorem tuple_mul0 (l : Addr) (items : Array Value) (n : Nat) (dd : Option Addr) (sl : Array (Option Value)) (u : Tok) (hi : items.isEmpty = false) :
    Meets (Builtin.«tuple.__mul__» ⟨[.ref l, .int 0 u], []⟩) (fun _ R s => s.heap.get? l = some { cls := .type "tuple", dict := dd, data := .seq items n, slots := sl } ∧
      R (.ok (.ret (Value.ref s.heap.objs.size))) { s with heap := s.heap.push { cls := Value.type "tuple", data := Data.seq #[] }, toks := s.toks }) :=
  .of_wp fun prog w A R s h => by
    obtain ⟨hp, g, d, tk, os⟩ := s
    obtain ⟨hl, h⟩ := h
    have f1 := AutoSeq1.idx_int
    have c1 : ¬ ((items.isEmpty || (0 : Int) == 1) = true) := by rw [hi]; decide
    have c2 : (decide ((0 : Int) ≤ 0) || items.isEmpty) = true := by simp
    wp_walk using wpAny_loadPart' hl
    repeat (first
      | (refine wpAny_ite_false (decide_eq_false c1) ?_; wp_walk using wpAny_loadPart' hl)
      | (refine wpAny_ite_false (decide_eq_false (by decide)) ?_; wp_walk using wpAny_loadPart' hl)
      | (refine wpAny_ite_true (decide_eq_true c2) ?_; wp_walk using wpAny_loadPart' hl))
    exact ⟨_, rfl, h⟩
def rRepT01 (K : PySem.W.Frag) : R2 := fun x y H Q => ∃ l k xs, x = .ref l ∧ y = .int k ∧ SqT K H l xs ∧ xs ≠ [] ∧ (k = 1 ∨ k = 0) ∧ (k = 1 → Q (.ref l) H) ∧ (k = 0 → ∀ p, H p = none → Q (.ref p) (upd H p (.tup [])))
theorem op_repT01 {X : Cx} : OpR X (binaryOp .Mult) (rRepT01 X.K) := by
  intro pins s σ H x y v u Q I rx ry h
  obtain ⟨l, k, xs, rfl, rfl, hT, hne, hk, q1, q0⟩ := h
  cases rx
  obtain ⟨t, rfl⟩ := ry
  obtain ⟨its, r, ⟨⟨cls, dd, data, sl⟩, ho, hc, n, hd⟩, hs⟩ := I.tuple hT
  simp only at hc hd
  subst hc hd
  have hle : its.length = xs.length := r.length.symm
  have hn : its ≠ [] := fun e => hne (by
    rw [e] at hle
    exact List.eq_nil_of_length_eq_zero hle.symm)
  have hi : its.toArray.isEmpty = false := by
    cases its with
    | nil => exact absurd rfl hn
    | cons a b => rfl
  rcases hk with rfl | rfl
  · exact wpAny_binaryOp_repeat_ref (T := "tuple") (U := "int") (by decide) ⟨_, ho, rfl⟩ (fun s' => typeIs_int s' 1 t) noFill_tuple_mul F.fills_int_mul F.slot_int_rmul repeat_tuple F.slot_int_index.lookup
      (call_meets F.slot_int_rmul (typeIs_int s 1 t) F.entry_int_rmul (F.args_int_rmul_2 _ _) (int_rmul_tuple 1 t l its.toArray n dd sl)
        ⟨ho, rfl, ⟨_, ho, rfl⟩, call_meets F.slot_tuple_mul ⟨_, ho, rfl⟩ F.entry_tuple_mul (F.args_tuple_mul_2 _ _) (tuple_mul1 l its.toArray n dd sl t) ⟨ho, ⟨.ref l, H, I, rfl, q1 rfl⟩⟩⟩)
  · refine wpAny_binaryOp_repeat_ref (T := "tuple") (U := "int") (by decide) ⟨_, ho, rfl⟩ (fun s' => typeIs_int s' 0 t) noFill_tuple_mul F.fills_int_mul F.slot_int_rmul repeat_tuple F.slot_int_index.lookup
      (call_meets F.slot_int_rmul (typeIs_int s 0 t) F.entry_int_rmul (F.args_int_rmul_2 _ _) (int_rmul_tuple 0 t l its.toArray n dd sl)
        ⟨ho, rfl, ⟨_, ho, rfl⟩, call_meets F.slot_tuple_mul ⟨_, ho, rfl⟩ F.entry_tuple_mul (F.args_tuple_mul_2 _ _) (tuple_mul0 l its.toArray n dd sl t hi) ⟨ho, ?_⟩⟩)
    refine ⟨.ref s.heap.objs.size, _, I.laid (t' := s.toks) (o := .tup []) (fun b ob q => Heap.get?_push_of_some _ q) (Nat.le_refl _) ?_, rfl, q0 rfl _ (I.hok.fresh (Nat.le_refl _))⟩
    exact ⟨by decide, _, .nil, IsTup.new _ _⟩
end X7

/-! () + t: t itself -/
namespace X10
open PySem PySem.Spec PyProof.Rows L2 Kit HT
theorem tuple_addW0 (t b : Addr) (vs ws : Array Value) (n n2 : Nat) (dd dd2 : Option Addr) (sl sl2 : Array (Option Value)) (hc0 : vs.isEmpty = true) :
    Meets (Builtin.«tuple.__add__» ⟨[.ref t, .ref b], []⟩) (fun _ R s => s.heap.get? t = some { cls := .type "tuple", dict := dd, data := .seq vs n, slots := sl } ∧
      s.heap.get? b = some { cls := .type "tuple", dict := dd2, data := .seq ws n2, slots := sl2 } ∧ R (.ok (.ret (Value.ref b))) s) :=
  .of_wp fun prog w A R s h => by
    obtain ⟨hp, g, d, tk, os⟩ := s
    obtain ⟨hl, hb, h⟩ := h
    have f1 := AutoSeq1.idx_int
    have f2 := AutoSeq1.sub_tuple_tuple
    wp_walk using wpAny_loadPart' hl, wpAny_loadPart' hb
    exact ⟨_, rfl, h⟩
def rCatT0 (K : PySem.W.Frag) : R2 := fun x y H Q => ∃ a b ys, x = .ref a ∧ y = .ref b ∧ SqT K H a [] ∧ SqT K H b ys ∧ Q (.ref b) H
theorem op_catT0 {X : Cx} : OpR X (binaryOp .Add) (rCatT0 X.K) := by
  intro pins s σ H x y v u Q I rx ry h
  obtain ⟨a, b, ys, rfl, rfl, ha, hb, q⟩ := h
  cases rx
  cases ry
  obtain ⟨its, r1, ⟨⟨cls, dd, data, sl⟩, ho, hc, n, hd⟩, _⟩ := I.tuple ha
  obtain ⟨its2, r2, ⟨⟨cls2, dd2, data2, sl2⟩, ho2, hc2, n2, hd2⟩, _⟩ := I.tuple hb
  simp only at hc hd hc2 hd2
  subst hc hd hc2 hd2
  cases r1
  exact concat_meets ⟨_, ho, rfl⟩ ⟨_, ho2, rfl⟩ noFill_tuple_add seq_tuple_add PySem.F.slot_tuple_add PySem.F.entry_tuple_add (PySem.F.args_tuple_add_2 _ _)
    (tuple_addW0 a b _ its2.toArray n n2 dd dd2 sl sl2 rfl) ⟨ho, ho2, ⟨.ref b, H, I, rfl, q⟩⟩
/-- t + u of any two -/
def rCatTA (K : PySem.W.Frag) : R2 := fun x y H Q => rCatT0 K x y H Q ∨ rCatT K x y H Q
theorem op_catTA {X : Cx} : OpR X (binaryOp .Add) (rCatTA X.K) := by
  intro pins s σ H x y v u Q I rx ry h
  rcases h with h | h
  · exact op_catT0 pins s σ H x y v u Q I rx ry h
  · exact op_catT pins s σ H x y v u Q I rx ry h
end X10

/-! lambdas as values: made in a list, handed to a def, called there; a captured cell is known there -/
namespace X11
open PySem PySem.Spec PyProof.Rows L2 LamX NdefX Kit
/-! ### a known object let go, and known -/
def ex (c : Addr) (o : Obj) : HO := .frz o (.ext fun h => h.get? c = some o)
def unc (H : Hp) (c : Addr) : Hp := fun b => if b = c then none else H b
theorem unc_same {H : Hp} {c : Addr} : unc H c c = none := if_pos rfl
theorem unc_ne {H : Hp} {b c : Addr} (h : b ≠ c) : unc H c b = H b := if_neg h
theorem ex_ok {P : Program} {w : World} {H : Hp} {h : Heap} {c : Addr} {o : Obj} (e : h.get? c = some o) : ObjOk P w H h c (ex c o) :=
  ⟨e, e, ⟨o, e⟩, fun h1 h2 q st => st _ q⟩
theorem ne_ex {H : Hp} {b c : Addr} {o : Obj} {u : HO} (e : H c = some (ex c o)) (e2 : H b = some u) (n : ∀ o v, u ≠ .frz o v) : b ≠ c := fun z => by
  rw [z, e] at e2
  cases e2
  exact n _ _ rfl
section
variable {P : Program} {w : World} {H H' : Hp} {h h' : Heap} {c : Addr} {o : Obj} {fs : List Addr}
theorem hok_unc (x : HOk P w H h) (e : H c = some (ex c o)) : HOk P w (unc H c) h := fun b v q => by
  by_cases hb : b = c
  · subst hb
    rw [unc_same] at q
    cases q
  · rw [unc_ne hb] at q
    refine (x b v q).stay (fun _ _ _ z => z) (fun d z => ?_) fun d xs z => ?_
    · rw [unc_ne (ne_ex e z fun _ _ t => by cases t)]
      exact z
    · rw [unc_ne (ne_ex e z fun _ _ t => by cases t)]
      exact z
theorem hok_cov (x : HOk P w H h) (e : H c = none) (ho : h.get? c = some o) : HOk P w (upd H c (ex c o)) h := fun b v q => by
  by_cases hb : b = c
  · subst hb
    rw [upd_same] at q
    cases q
    exact ex_ok ho
  · rw [upd_ne hb] at q
    refine (x b v q).stay (fun _ _ _ z => z) (fun d z => ?_) fun d xs z => ?_
    · rw [upd_ne (ne_of_none z e)]
      exact z
    · rw [upd_ne (ne_of_none z e)]
      exact z
theorem cov_at (x : HOk P w H h) (e : H c = some (ex c o)) : h.get? c = some o := (x c _ e).1
theorem un_cov (u : Un fs [] (upd H c (ex c o)) H' h h') (x : HOk P w H' h') (e : H c = none) (ho : h.get? c = some o) : Un fs [] H (unc H' c) h h' := by
  have ec : H' c = some (ex c o) := u.frzs c o _ upd_same
  have ne : ∀ {b : Addr} {v : HO}, H b = some v → b ≠ c := fun q => ne_of_none q e
  refine ⟨fun b ob q n h1 h2 => ?_, fun b ob q n h1 h2 => ?_, fun b ob q n h2 => ?_, u.there, fun b xs q => ?_, fun b ob v q => ?_, fun b ps q => ?_⟩
  · by_cases hb : b = c
    · subst hb
      rw [ho] at q
      cases q
      exact cov_at x ec
    · exact u.keep b ob q (by rw [upd_ne hb]; exact n) h1 h2
  · by_cases hb : b = c
    · subst hb
      rw [ho] at q
      cases q
      exact ⟨_, cov_at x ec⟩
    · exact u.slot b ob q (by rw [upd_ne hb]; exact n) h1 h2
  · by_cases hb : b = c
    · subst hb
      exact unc_same
    · rw [unc_ne hb]
      exact u.free b ob q (by rw [upd_ne hb]; exact n) h2
  · rw [unc_ne (ne q)]
    exact u.tups b xs (by rw [upd_ne (ne q)]; exact q)
  · rw [unc_ne (ne q)]
    exact u.frzs b ob v (by rw [upd_ne (ne q)]; exact q)
  · rw [unc_ne (ne q)]
    exact u.tbls b ps (by rw [upd_ne (ne q)]; exact q)
theorem un_unc (u : Un fs [] (unc H c) H' h h') (e : H c = some (ex c o)) (ho : h.get? c = some o) : Un fs [] H (upd H' c (ex c o)) h h' := by
  have nn : ∀ {b : Addr}, H b = none → b ≠ c := fun {b} q z => by
    rw [z, e] at q
    cases q
  refine ⟨fun b ob q n h1 h2 => ?_, fun b ob q n h1 h2 => ?_, fun b ob q n h2 => ?_, u.there, fun b xs q => ?_, fun b ob v q => ?_, fun b ps q => ?_⟩
  · exact u.keep b ob q (by rw [unc_ne (nn n)]; exact n) h1 h2
  · exact u.slot b ob q (by rw [unc_ne (nn n)]; exact n) h1 h2
  · rw [upd_ne (nn n)]
    exact u.free b ob q (by rw [unc_ne (nn n)]; exact n) h2
  · have hb := ne_ex e q fun _ _ t => by cases t
    rw [upd_ne hb]
    exact u.tups b xs (by rw [unc_ne hb]; exact q)
  · by_cases hb : b = c
    · subst hb
      rw [e] at q
      cases q
      exact upd_same
    · rw [upd_ne hb]
      exact u.frzs b ob v (by rw [unc_ne hb]; exact q)
  · have hb := ne_ex e q fun _ _ t => by cases t
    rw [upd_ne hb]
    exact u.tbls b ps (by rw [unc_ne hb]; exact q)
end
section
variable {P : Program} {w : World} {K : PySem.W.Frag} {mg : Str → Option Value} {base : Heap} {A : Around} {outer : List Env} {s s' : Shared} {H : Hp} {c : Addr} {o : Obj} {Q : VK} {E : XK} {r : Result}
theorem env0_unc (e0 : Env0 P w K mg base A outer s H) (e : H c = some (ex c o)) : Env0 P w K mg base A outer s (unc H c) := by
  refine ⟨e0.frames, e0.mod, fun b ob q => ⟨(e0.bs b ob q).1, ?_⟩, e0.bsz, e0.funs, fun b q => ?_, hok_unc e0.hok e, e0.bare⟩
  · by_cases hb : b = c
    · rw [hb]; exact unc_same
    · rw [unc_ne hb]; exact (e0.bs b ob q).2
  · by_cases hb : b = c
    · rw [hb]; exact unc_same
    · rw [unc_ne hb]; exact e0.frf b q
theorem env0_cov (e0 : Env0 P w K mg base A outer s H) (e : H c = none) (ho : s.heap.get? c = some o) (nb : base.get? c = none) (nf : c ∉ frs outer) : Env0 P w K mg base A outer s (upd H c (ex c o)) := by
  refine ⟨e0.frames, e0.mod, fun b ob q => ⟨(e0.bs b ob q).1, ?_⟩, e0.bsz, e0.funs, fun b q => ?_, hok_cov e0.hok e ho, e0.bare⟩
  · rw [upd_ne (fun z => by rw [z, nb] at q; cases q)]
    exact (e0.bs b ob q).2
  · rw [upd_ne (fun z => nf (by rw [← z]; exact q))]
    exact e0.frf b q
theorem cr_cov (x : CR L2.CX0 outer P w (upd H c (ex c o)) s (fun v H' => Q v (unc H' c)) E r s') (e : H c = none) (ho : s.heap.get? c = some o) : CR L2.CX0 outer P w H s Q E r s' := by
  match r, x with
  | .error e, x => exact False.elim x
  | .ok (.ret u), x =>
    obtain ⟨v, H', os, bare, un, hok, rv, q⟩ := x
    exact ⟨v, unc H' c, os, bare, un_cov un hok e ho, hok_unc hok (un.frzs c o _ upd_same), rv, q⟩
  | .ok .next, x => exact x
  | .ok .brk, x => exact x
  | .ok .cont, x => exact x
theorem cr_unc (x : CR L2.CX0 outer P w (unc H c) s (fun v H' => H' c = none → Q v (upd H' c (ex c o))) E r s') (e : H c = some (ex c o)) (ho : s.heap.get? c = some o) (nf : c ∉ frs outer) : CR L2.CX0 outer P w H s Q E r s' := by
  match r, x with
  | .error e, x => exact False.elim x
  | .ok (.ret u), x =>
    obtain ⟨v, H', os, bare, un, hok, rv, q⟩ := x
    refine ⟨v, upd H' c (ex c o), os, bare, un_unc un e ho, hok_cov hok (un.free c o ho unc_same (fun z => nomatch z)) (un.keep c o ho unc_same nf (fun z => nomatch z)), rv, q (un.free c o ho unc_same (fun z => nomatch z))⟩
  | .ok .next, x => exact x
  | .ok .brk, x => exact x
  | .ok .cont, x => exact x
end
/-! ### lambdas -/
/-- its words, what it captured, its code object -/
structure LF where
  qual : Str
  params : Arguments
  body : Expr
  scope : Scope
  cl : List (Str × Addr)
  c : Addr
abbrev LF.fd (F : LF) (pm ctv : Value) : FuncData := PySem.W.kla_fn "<lambda>" F.qual F.params F.body F.scope F.cl pm (.ref F.c) ctv
def LmO (f : Addr) (F : LF) : HO := .ext fun h => ∃ (od : Option Addr) (sl : Array (Option Value)) (pm ctv : Value), h.get? f = some (⟨.type "function", od, .func (F.fd pm ctv), sl⟩ : Obj)
theorem lmO_ne {f : Addr} {F : LF} (ps : Array Value) : LmO f F ≠ .tbl ps := fun z => by
  unfold LmO at z
  cases z
theorem lmO_at {P : Program} {w : World} {H : Hp} {h : Heap} {f : Addr} {F : LF} (hok : HOk P w H h) (e : H f = some (LmO f F)) : ∃ (od : Option Addr) (sl : Array (Option Value)) (pm ctv : Value), h.get? f = some (⟨.type "function", od, .func (F.fd pm ctv), sl⟩ : Obj) := by
  obtain ⟨z, _, _⟩ := hok f _ e
  exact z
section
variable {X : Cx} {pins : List (Addr × Obj)} {σ : L2.St} {H : Hp} {s : Shared}
theorem inv_lam {F : LF} {o : Obj} {t' : Nat} {h' : Heap} {pm ctv : Value} (I : Inv X pins σ H { s with heap := h', toks := t' }) (ho : o = { cls := .type "function", data := .func (F.fd pm ctv) }) :
    Inv X pins σ (upd H h'.objs.size (LmO h'.objs.size F)) { s with heap := h'.push o, toks := t' } := by
  subst ho
  refine I.laid (a := h'.objs.size) (fun b u e => Heap.get?_push_of_some _ e) (Nat.le_refl _) ?_
  have e : (h'.push ({ cls := .type "function", data := .func (F.fd pm ctv) } : Obj)).get? h'.objs.size = some ({ cls := .type "function", data := .func (F.fd pm ctv) } : Obj) := Heap.get?_push_size _ rfl
  exact ⟨⟨_, _, pm, ctv, e⟩, ⟨_, e⟩, fun h1 h2 ⟨od, sl, p, t, z⟩ st => ⟨od, sl, p, t, st _ z⟩⟩
/-- it is made: its code object is new, or found in the table -/
theorem lam_mk {T : List (Addr × Str)} {c P : Addr} {params : Arguments} {body : Expr} {scope : Scope} {pos : Pos} {E : Value → Shared → Prop} {Q : Value → Shared → Prop} (I : Inv X pins σ H s) (TB : TabB X.base X.mg c P) (hcode : X.env.code = .ref c)
    (hm : (P, X.env.qual ++ "<lambda>") ∈ T) (hu : ∀ p ∈ T, p.1 = P → p.2 = X.env.qual ++ "<lambda>") (hT : Tabs T H) (hdef : defaultsOf params X.env = ([], [])) (hfree : ∀ y ∈ scope.names, y.2 = .free → ∃ c, X.env.cells.lookup y.1 = some c)
    (h : ∀ (f c' : Addr) (H1 : Hp) (s' : Shared), Inv X pins σ H1 s' → ExtN H H1 → (∀ b, H1 b = none → H b = none) → Tabs T H1 → H f = none → H1 f = some (LmO f ⟨X.env.qual ++ "<lambda>", params, body, scope, cloFrom X.env.cells scope.names [], c'⟩) → H1 c' = some (CodeO c' (X.env.qual ++ "<lambda>")) → Q (.ref f) s') :
    wpAny (model X.prog X.w) X.A (eval (.Lambda params body scope pos) X.env) Q E s := by
  obtain ⟨ps, hP, ht, ha⟩ := hT _ hm
  refine PySem.W.kla_eval hdef ?_
  have bP : s.heap.BuiltinsAt X.mg P := TB.bm.keeps I.bk
  have hP' : s.heap.get? P = some { cls := .none, data := .fields ps } := I.hok P _ hP
  cases hc : codeAmong pos ps.toList with
  | none =>
    refine PySem.W.kla_makeFunction (mg := X.mg) (c := c) (P := P) (ps := ps) (closure_ok hfree) I.ok.glob (I.mod.glob.keeps I.bk) hcode (TB.code.keeps I.bk) hP' ht hc TB.gP bP fun c' ctv h' tk hx hge hlt hrec htb => ?_
    obtain ⟨c2, oc, vs, t, e2, hoc, hd, hv⟩ := hrec
    cases e2
    have nC : H c' = none := I.hok.fresh hge
    have I1 := inv_table (t' := tk) (more := #[rawInt pos.line, rawInt pos.col, .ref c']) (h' := h') I hP (fun b o hb e => hx b o hb e) htb hge ⟨oc, vs, t, hoc, hd, hv⟩
    have hE : ExtN H (upd (upd H P (.tbl (ps ++ #[rawInt pos.line, rawInt pos.col, .ref c']))) c' (CodeO c' (X.env.qual ++ "<lambda>"))) := fun b o e n => by
      rw [upd_ne (ne_of_none e nC), upd_ne (fun z => n ps (Option.some.inj (e.symm.trans (by rw [z]; exact hP))))]
      exact e
    have eL : (ps ++ #[rawInt pos.line, rawInt pos.col, .ref c']).toList = ps.toList ++ [rawInt pos.line, rawInt pos.col, .ref c'] := by simp
    have T1 : Tabs T (upd (upd H P (.tbl (ps ++ #[rawInt pos.line, rawInt pos.col, .ref c']))) c' (CodeO c' (X.env.qual ++ "<lambda>"))) := fun p hp => by
      by_cases hb : p.1 = P
      · rw [hu p hp hb, hb]
        refine ⟨_, by rw [upd_ne (ne_of_none hP nC), upd_same], by rw [eL]; exact PySem.TriplesOk_snoc _ _ _ _ ht, fun p' cv hcv => ?_⟩
        rw [eL] at hcv
        rcases among_app _ ht hcv with z | z
        · obtain ⟨c0, e1, e2⟩ := ha p' cv z
          exact ⟨c0, e1, hE _ _ e2 codeO_ne⟩
        · exact ⟨c', z, upd_same⟩
      · obtain ⟨ps', a1, a2, a3⟩ := hT p hp
        refine ⟨ps', by rw [upd_ne (ne_of_none a1 nC), upd_ne hb]; exact a1, a2, fun p' cv hcv => ?_⟩
        obtain ⟨c0, e1, e2⟩ := a3 p' cv hcv
        exact ⟨c0, e1, hE _ _ e2 codeO_ne⟩
    have nF := I1.hok.fresh (Nat.le_refl _)
    have I2 := inv_lam (F := ⟨X.env.qual ++ "<lambda>", params, body, scope, cloFrom X.env.cells scope.names [], c'⟩) (pm := (X.mg "__name__").getD .none) (ctv := ctv) I1 rfl
    refine h h'.objs.size c' _ _ I2 (fun b o e n => ?_) (fun b e => upd_none (upd_none (upd_none e))) (T1.ext fun b o e => ?_) (I.hok.fresh (Nat.le_trans hge (Nat.le_of_lt hlt))) upd_same ?_
    · have e1 := hE b o e n
      exact (upd_ne (ne_of_none e1 nF)).trans e1
    · exact (upd_ne (ne_of_none e nF)).trans e
    · exact (upd_ne (Nat.ne_of_lt hlt)).trans upd_same
  | some cv =>
    obtain ⟨c', e, hco⟩ := ha pos cv hc
    subst e
    refine PySem.W.kla_makeFunctionHit (mg := X.mg) (c := c) (P := P) (ps := ps) (closure_ok hfree) I.ok.glob (I.mod.glob.keeps I.bk) hcode (TB.code.keeps I.bk) hP' ht hc bP fun ctv h' tk hx hsz => ?_
    have I1 : Inv X pins σ H { s with heap := h', toks := tk } := I.kept hx
    have nF : H h'.objs.size = none := I1.hok.fresh (Nat.le_refl _)
    have I2 := inv_lam (F := ⟨X.env.qual ++ "<lambda>", params, body, scope, cloFrom X.env.cells scope.names [], c'⟩) (pm := (X.mg "__name__").getD .none) (ctv := ctv) I1 rfl
    refine h h'.objs.size c' _ _ I2 (fun b o e n => ?_) (fun b e => upd_none e) (hT.ext fun b o e => ?_) nF upd_same ?_
    · exact (upd_ne (ne_of_none e nF)).trans e
    · exact (upd_ne (ne_of_none e nF)).trans e
    · exact (upd_ne (ne_of_none hco nF)).trans hco
def tLamV (T : List (Addr × Str)) (mk : Addr → LF) : TE := fun σ H Q => Tabs T H ∧ ∀ (f c' : Addr) (H1 : Hp), ExtN H H1 → (∀ b, H1 b = none → H b = none) → Tabs T H1 → H f = none → H1 f = some (LmO f (mk c')) → H1 c' = some (CodeO c' (mk c').qual) → Q (.ref f) H1
theorem pe_lam {T : List (Addr × Str)} {c P : Addr} {params : Arguments} {body : Expr} {scope : Scope} {pos : Pos} (TB : TabB X.base X.mg c P) (hcode : X.env.code = .ref c) (hm : (P, X.env.qual ++ "<lambda>") ∈ T) (hu : ∀ p ∈ T, p.1 = P → p.2 = X.env.qual ++ "<lambda>")
    (hdef : defaultsOf params X.env = ([], [])) (hfree : ∀ y ∈ scope.names, y.2 = .free → X.env.scope.names.lookup y.1 = some .cell ∨ X.env.scope.names.lookup y.1 = some .free) :
    PE X (.Lambda params body scope pos) (tLamV T fun c' => ⟨X.env.qual ++ "<lambda>", params, body, scope, cloFrom X.env.cells scope.names [], c'⟩) := by
  refine ⟨fun pins s σ H Q I h => ?_⟩
  obtain ⟨hT, h⟩ := h
  have hfr : ∀ y ∈ scope.names, y.2 = .free → ∃ c, X.env.cells.lookup y.1 = some c := fun y hy e => (hfree y hy e).elim (fun z => I.ok.has _ (.inl z)) fun z => I.ok.has _ (.inr z)
  exact lam_mk I TB hcode hm hu hT hdef hfr fun f c' H1 s' I1 eN nn T1 f0 f1 c1 => ⟨.ref f, H1, I1, rfl, h f c' H1 eN nn T1 f0 f1 c1⟩
end
/-! ### what it promises -/
structure LOk (P : Program) (w : World) (K : PySem.W.Frag) (mg : Str → Option Value) (base : Heap) (k : Nat) (f : Addr) (F : LF) (pre : Hp → Prop) (sp : Sp) : Prop where
  at_ : ∀ H, pre H → H f = some (LmO f F)
  len : ∀ vs H Q E, sp vs H Q E → vs.length = 1
  run : ∀ (A : Around) (outer : List Env) (s : Shared) (H : Hp) (us : List Value) (vs : List V) (Q : VK) (E : XK), Qt A → Room k A → Env0 P w K mg base A outer s H → pre H → Vals vs us → sp vs H Q E →
    codeAny (model P w) A (.call (.ref f) ⟨us, []⟩) (CR L2.CX0 outer P w H s Q E) s
/-- as a nested def, for its context -/
abbrev LF.nf (F : LF) : NF := ⟨"<lambda>", F.qual, F.params, [], F.scope, F.cl, F.c⟩
/-- what is known when it is called: itself, its code object, the cell c -/
def Lpre (f : Addr) (F : LF) (c : Addr) (o : Obj) (H : Hp) : Prop := H f = some (LmO f F) ∧ H F.c = some (CodeO F.c F.qual) ∧ H c = some (ex c o)
section
variable {P : Program} {w : World} {K : PySem.W.Frag} {mg : Str → Option Value} {base : Heap} {N fr : List Str} {F : LF} {f c : Addr} {o : Obj} {k : Nat} {sp : Sp} {y : Str}
theorem codeO_frz {c : Addr} {q : Str} : ∀ (o : Obj) (v : HO), CodeO c q ≠ .frz o v := fun o v z => by
  unfold CodeO at z
  cases z
theorem lmO_frz {f : Addr} {F : LF} : ∀ (o : Obj) (v : HO), LmO f F ≠ .frz o v := fun o v z => by
  unfold LmO at z
  cases z
/-- THE RULE: a lambda of one parameter by its body; the cell that it may have captured is let go while it runs -/
theorem lok_of (S : NScope N [y] fr F.scope) (hb : ∀ (pm ctv : Value) (u : Value), bindArgs (F.fd pm ctv) ⟨[u], []⟩ = pure [(y, u)]) (len : ∀ vs H Q E, sp vs H Q E → vs.length = 1) (ws : List (Option V))
    (hc : ∀ h : Heap, h.get? c = some o → ∀ H : Hp, H c = none → CellsAt F.cl fr ws h H)
    (hbody : ∀ (A : Around) (outer : List Env) (s : Shared) (H : Hp) (vs : List V) (Q : VK) (E : XK), Qt (A.deeper (envF F.nf f s.heap.objs.size)) → Room k (A.deeper (envF F.nf f s.heap.objs.size)) → sp vs (upd H c (ex c o)) Q E → H c = none →
      ∃ t, PE (ncx L2.CX0 P w K mg base N F.nf f A outer s H E) F.body t ∧ t (startF N vs ws) H (fun v H' => H' c = none → Q v (upd H' c (ex c o)))) :
    LOk P w K mg base (k + 1) f F (Lpre f F c o) sp := by
  refine ⟨fun H h => h.1, len, fun A outer s H us vs Q E hq hr e0 hp r hsp => ?_⟩
  obtain ⟨hf, hcd, hce⟩ := hp
  have hl := len _ _ _ _ hsp
  obtain ⟨v, rfl⟩ : ∃ v, vs = [v] := by
    match vs, hl with
    | [v], _ => exact ⟨v, rfl⟩
  obtain ⟨u, rfl⟩ : ∃ u, us = [u] := by
    match us, r with
    | [u], _ => exact ⟨u, rfl⟩
  have ho : s.heap.get? c = some o := cov_at e0.hok hce
  have nf : c ∉ frs outer := fun z => by
    have q := e0.frf c z
    rw [hce] at q
    cases q
  have e1 := env0_unc e0 hce
  have eH : upd (unc H c) c (ex c o) = H := by
    funext b
    by_cases hb : b = c
    · rw [hb, upd_same, hce]
    · rw [upd_ne hb, unc_ne hb]
  have lim : s.heap.NoLimit := e0.mod.nolimit.keeps fun b o e => (e0.bs b o e).1
  obtain ⟨od, sl, pm, ctv, hof⟩ := lmO_at e0.hok hf
  refine codeAny_mono (R := CR L2.CX0 outer P w (unc H c) s (fun v H' => H' c = none → Q v (upd H' c (ex c o))) E) ?_ fun r s' x => cr_unc x hce ho nf
  refine PySem.W.kla_callFunE hr.depth hof rfl S.co S.gen rfl (codeO_at e0.hok hcd) ?_
  rw [hb pm ctv u]
  refine wpAny_pure (wpAny_newFunctionEnv S.nocell (fun ⟨n, _⟩ hy => S.par n (by cases List.mem_singleton.mp hy; exact List.mem_singleton.mpr rfl)) (fun h₁ hns hsb => ⟨lim.fresh _ hsb, ?_⟩) S.kind)
  show codeAny _ _ (.expr F.body (envF F.nf f s.heap.objs.size)) _ _
  have kp : ∀ b o, s.heap.get? b = some o → h₁.get? b = some o := fun b o e => hsb.extBut b o (Nat.ne_of_lt (Heap.lt_size e)) (Heap.get?_push_of_some _ e)
  have C := hc s.heap ho (unc H c) unc_same
  obtain ⟨t, ht, hq2⟩ := hbody A outer s (unc H c) [v] Q E hq (hr.deeper _) (by rw [eH]; exact hsp) unc_same
  have I : Inv (ncx L2.CX0 P w K mg base N F.nf f A outer s (unc H c) E) [] (startF N [v] ws) (unc H c) { s with heap := h₁, toks := s.toks + ([y].zip [u]).length } := inv_startN (ps := [y]) (us := [u]) S hr.hd e1 rfl r C hns kp
  refine PySem.W.kla_codeExpr (wpAny_mono (ht.run [] _ _ (unc H c) _ I hq2) (fun v s' hq => ?_) fun e s' hq => hq)
  obtain ⟨w', H', J', rv, q⟩ := hq
  exact ⟨w', H', J'.os, J'.bare, J'.base, J'.hok, rv, q⟩
end
/-! ### calls of a name that holds one -/
def tLC (i : Nat) (f : Addr) (pre : Hp → Prop) (sp : Sp) (t : TA) : TE := fun σ H Q => σ[i]? = some (some (.ref f)) ∧ pre H ∧ t σ H fun vs H1 => pre H1 ∧ sp vs H1 Q fun _ _ _ => False
section
variable {X : Cx} {F : LF} {f : Addr} {pre : Hp → Prop} {sp : Sp} {i j k : Nat} {x : Str} {t : TA} {e : Expr} {es : List Expr} {p pos : Pos}
theorem lam_fn {pins : List (Addr × Obj)} {σ : L2.St} {H : Hp} {s : Shared} (I : Inv X pins σ H s) (e : H f = some (LmO f F)) : PySem.W.FnAt f s.heap := by
  obtain ⟨od, sl, pm, ctv, ho⟩ := lmO_at I.hok e
  exact ⟨_, od, _, sl, ho⟩
theorem pe_lcall (L : LOk X.prog X.w X.K X.mg X.base k f F pre sp) (hq : Qt X.A) (hr : Room j X.A) (hk : k ≤ j) (hN : X.N[i]? = some x) (hv : Vis X.env.scope x) (ha : PA X (e :: es) t)
    (hd : (x == ("__debug__" : Str)) = false := by decide) (hcd : (x == ("__classdict__" : Str)) = false := by decide)
    (he : starEach (e :: es) X.env = (false, eval e X.env) :: starEach es X.env := by rfl) (hpl : (backTo pos (starEach es X.env)).any (·.1) = false := by rfl) :
    PE X (.Call (.Name x p) (e :: es) [] pos) (tLC i f pre sp t) := by
  refine ⟨fun pins s σ H Q I h => ?_⟩
  obtain ⟨hs, hf, ht⟩ := h
  refine wpAny_Call_Name_kw (thn ((pe_var (pos := p) hN hv hd hcd).run pins s σ H (fun v H1 => v = .ref f ∧ H1 = H) I ⟨.ref f, hs, rfl, rfl⟩) fun u s1 ⟨v, H1, I1, r1, q1⟩ => ?_)
  obtain ⟨ev, eH⟩ := q1
  subst ev
  rw [eH] at I1
  obtain rfl : u = Value.ref f := r1
  refine PySem.W.callWith_F (first := []) (lam_fn I1 (L.at_ _ hf)) (thn (ha.run pos pins s1 σ H _ I1 ht) fun us s2 ⟨vs, H2, I2, r, h1, q⟩ => ⟨lam_fn I2 (L.at_ _ h1), ?_⟩) he hpl
  show wpAny _ _ (call (.ref f) us) _ _ _
  refine wpAny_call (codeAny_mono (L.run X.A X.stack s2 H2 us vs Q (fun _ _ _ => False) hq (hr.mono hk) I2.env0 h1 r q) fun r s' hq => ?_)
  cases r with
  | error e => exact hq.elim
  | ok fl =>
    cases fl with
    | ret u => exact I2.after hq
    | next => exact False.elim hq
    | brk => exact False.elim hq
    | cont => exact False.elim hq
end
/-! ### a def called while a captured name of the running frame is known -/
def tCT (cells : List (Str × Addr)) (y : Str) (jf : Nat) (sp : Sp) (t : TA) : TE := fun σ H Q => ∃ far : Int, σ[jf]? = some (some (.int far)) ∧
  t σ H fun vs H1 => ∀ (c : Addr) (o : Obj) (tk : Tok), cells.lookup y = some c → o.data = .cell (some (.int far tk)) → H1 c = none → sp vs (upd H1 c (ex c o)) (fun v H' => Q v (unc H' c)) fun _ _ _ => False
section
variable {X : Cx} {sp : Sp} {jf j k : Nat} {x y : Str} {ps : List Str} {t : TA} {e : Expr} {es : List Expr} {p pos : Pos}
theorem pe_cT (c : Cal X.prog X.w X.K X.mg X.base L2.CX0 k x ps sp) (hfn : X.fn y = true) (hyN : X.N[jf]? = some y) (hyc : X.env.scope.names.lookup y = some .cell) (hq : Qt X.A) (hr : Room j X.A) (hk : k ≤ j)
    (hg : Gl X x) (ha : PA X (e :: es) t) (hdb : (x == ("__debug__" : Str)) = false := by decide)
    (he : starEach (e :: es) X.env = (false, eval e X.env) :: starEach es X.env := by rfl)
    (hpl : (backTo pos (starEach es X.env)).any (·.1) = false := by rfl) :
    PE X (.Call (.Name x p) (e :: es) [] pos) (tCT X.env.cells y jf sp t) := by
  obtain ⟨f, fd, F, hm, hkp, hb, _⟩ := c.ex
  constructor
  intro pins s σ H Q I h
  obtain ⟨far, hfar, h⟩ := h
  refine wpAny_Call_Name_kw (ld_glob I hg hm ?_ hdb)
  refine PySem.W.callWith_K (h₀ := X.base) I.ok.mod.kin hkp ?_ he hpl
  refine thn (ha.run pos pins s σ H _ I h) ?_
  rintro us s1 ⟨vs, H1, I1, r, q⟩
  refine ⟨I1.kIn, ?_⟩
  rw [List.nil_append]
  obtain ⟨cc, hcc⟩ : ∃ cc, X.env.cells.lookup y = some cc := I1.ok.has y (.inl hyc)
  obtain ⟨m, hn, hl⟩ := I1.loc
  obtain ⟨u, ru, lk⟩ := hl jf y _ hyN hfar (.inr (.inl hyc))
  obtain ⟨o, ho, hd⟩ : s1.heap.IsCell cc (some u) := by
    rcases lk with ⟨z, _⟩ | ⟨_, c', hc', hcell⟩
    · have z' : X.env.scope.names.lookup y = some .local := z
      rw [hyc] at z'
      cases z'
    · rw [hcc] at hc'
      cases hc'
      exact hcell
  have hcn : H1 cc = none := I1.freeC y cc hcc
  obtain ⟨tk, rfl⟩ : ∃ tk, u = .int far tk := ru
  have hge := I1.ok.cab y cc hfn hcc
  have nb : X.base.get? cc = none := by
    cases e : X.base.get? cc with
    | none => rfl
    | some ob => exact absurd (Heap.lt_size e) (Nat.not_lt.mpr (Nat.le_trans I1.ok.bsz hge))
  have nf : cc ∉ frs X.stack := fun z => by
    rcases List.mem_cons.mp (I1.stkSub _ z) with e | e
    · obtain ⟨ob, es, ep, e1, e2, _⟩ := hn
      rw [← e, ho] at e1
      cases e1
      rw [hd] at e2
      cases e2
    · obtain ⟨_, ob, e1, _⟩ := I1.ok.funs.mem e
      exact absurd (Heap.lt_size e1) (Nat.not_lt.mpr hge)
  have hsp := q cc o tk hcc hd hcn
  have hl2 : us.length = ps.length := by
    rw [← r.length]
    exact F.len _ _ _ _ hsp
  have z := F.run X.A X.stack s1 (upd H1 cc (ex cc o)) ⟨us, []⟩ us vs _ _ hq (hr.mono hk) (env0_cov I1.env0 hcn ho nb nf) (by
    have z := hb s1 us I1.kIn (by rw [List.append_nil]; exact hl2)
    rw [List.append_nil] at z
    exact z) r hsp
  refine wpAny_call (codeAny_mono z ?_)
  intro r' s' ho'
  have ho2 := cr_cov (Q := Q) ho' hcn ho
  match r', ho2 with
  | .error e, ho2 => exact ho2.elim
  | .ok (.ret u), ho2 => exact I1.after ho2
  | .ok .next, ho2 => exact False.elim ho2
  | .ok .brk, ho2 => exact False.elim ho2
  | .ok .cont, ho2 => exact False.elim ho2
end
end X11

/-! the end of a law that itself makes lambdas: its own code object's table is tracked -/
namespace X12
open PySem PySem.Spec PyProof.Rows L2 LamX Kit
/-- the code object of a def, read off the frozen part: its table is at P -/
def codeB (K : PySem.W.Frag) (cd : Value) : Option (Addr × Addr) := match cd with
  | .ref c => match K.lookup c with
    | some ⟨.type n, _, .fields vs, _⟩ => match (vs[11]? : Option Value), vs.getD 7 Value.none, vs.getD 9 Value.none, vs.getD 10 Value.none, vs.getD 18 Value.none with
      | some (Value.ref P), .int _ _, .bool _, .int _ _, .str _ _ => if n = "code" ∧ c ≠ P ∧ (K.lookup P).isNone = true then some (c, P) else none
      | _, _, _, _, _ => none
    | _ => none
  | _ => none
structure CodeK (K : PySem.W.Frag) (c P : Addr) : Prop where
  ex : ∃ (dd : Option Addr) (vs : Array Value) (sl : Array (Option Value)) (file : Str) (tf : Tok) (flags : Int) (tg : Tok) (inF : Bool) (text : Int) (tt : Tok),
    K.lookup c = some ⟨.type "code", dd, .fields vs, sl⟩ ∧ vs[11]? = some (.ref P) ∧ vs.getD 18 .none = .str file tf ∧ vs.getD 7 .none = .int flags tg ∧ vs.getD 9 .none = .bool inF ∧ vs.getD 10 .none = .int text tt
  ne : c ≠ P
  no : K.lookup P = none
theorem codeB_ok {K : PySem.W.Frag} {cd : Value} {c P : Addr} (h : codeB K cd = some (c, P)) : cd = .ref c ∧ CodeK K c P := by
  unfold codeB at h
  split at h
  · rename_i c1
    split at h
    · rename_i n dd vs sl hk
      split at h
      · rename_i P1 flags tg inF text tt file tf h11 h7 h9 h10 h18
        split at h
        · rename_i hc
          obtain ⟨rfl, h2, h3⟩ := hc
          cases h
          exact ⟨rfl, ⟨_, _, _, _, _, _, _, _, _, _, hk, h11, h18, h7, h9, h10⟩, h2, Option.isNone_iff_eq_none.mp h3⟩
        · cases h
      · cases h
    · cases h
  · cases h
theorem CodeK.hd {K : PySem.W.Frag} {c P : Addr} (h : CodeK K c P) {hp : Heap} (X : K.In hp) : PySem.W.CodeHd hp c P := by
  obtain ⟨dd, vs, sl, file, tf, flags, tg, inF, text, tt, e, e11, e18, e7, e9, e10⟩ := h.ex
  refine ⟨_, vs, file, tf, flags, tg, inF, text, tt, X _ _ e, rfl, rfl, e11, ?_, e18, e7, e9, e10, h.ne⟩
  rw [Array.getD_eq_getD_getElem?, e11]
  rfl
section
variable {P : Program} {w : World} {K : PySem.W.Frag} {mg : Str → Option Value}
/-- tracked at most: the script, the table -/
def Two (T : Addr) (H : Hp) : Prop := ∀ b, H b = none ∨ b = T ∨ ∃ o xs, H b = some (.frz o (.lst xs))
theorem law_callT {mb : Str → Option Value} {CX : CXT} {k : Nat} {fa a c T : Addr} {fd : FuncData} {x : Str} {sp : Sp} {s₁ : Shared} {vs : List Value} {ns : List Int}
    (KX : K.In s₁.heap) (hns : s₁.heap.Ns mainGlobals mg) (hb : s₁.heap.Ns builtinsNs mb)
    (hbb : ∀ x : Str, x ≠ "__name__" → mb x = bootBuiltins x) (hlim : s₁.heap.NoLimit) (hg : s₁.gens = #[])
    (ck : CodeK K c T) (eT : s₁.heap.get? T = some { cls := .none, data := .fields #[] })
    (hbm : ∃ (bm : Addr) (ob : Obj), mg "__builtins__" = some (.ref bm) ∧ bm ≠ builtinsNs ∧ s₁.heap.get? bm = some ob ∧
      ob.cls = .type "module" ∧ ob.dict = some builtinsNs ∧ ob.data = .plain)
    (ha : s₁.heap.get? a = some { cls := .type "list", data := .seq vs.toArray }) (hi : IntsAre vs ns)
    (hl : ns.length ≤ sizeLine) (hr : Room k callerA)
    (F : ∀ base : Heap, K.In base → base.Ns mainGlobals mg → TabB base mg c T → FnG P w K mg base CX k fa fd [x] sp)
    (hbind : ∀ (s : Shared) (u : Value), BindsTo s fd ⟨[u], []⟩ [(x, u)])
    (hsp : ∀ H : Hp, H T = some (.tbl #[]) → SqL K H a (ns.map V.int) → sp [.ref a] H (fun v _ => v = .bl true) fun _ _ _ => False)
    (hCX : ∀ H e s', CX [] H s₁ (fun _ _ _ => False) e s' → False) :
    codeAny (model P w) callerA (.call (.ref fa) ⟨[.ref a], []⟩)
      (fun r s' => r = .ok (.ret (.bool true)) ∧ OldK s₁.heap s'.heap ∧ s'.os = s₁.os ∧ AllBare s'.gens) s₁ := by
  have rv := vals_ints hi
  have lenV := hi.length
  have neq : a ≠ T := by
    rintro rfl
    rw [ha] at eT
    cases eT
  have hC := ck.hd KX
  -- over any abstract heap that tracks the table, and the script at most
  have inner : ∀ H : Hp, H T = some (.tbl #[]) → Two T H → SqL K H a (ns.map V.int) → HOk P w H s₁.heap → (∀ b, H b ≠ none → b = a ∨ b = T) → (H a ≠ none → K.lookup a = none) →
      codeAny (model P w) callerA (.call (.ref fa) ⟨[.ref a], []⟩)
        (fun r s' => r = .ok (.ret (.bool true)) ∧ OldK s₁.heap s'.heap ∧ s'.os = s₁.os ∧ AllBare s'.gens) s₁ := by
    intro H hH hO hS hok hA hK
    -- what is neither list nor table is not tracked
    have free : ∀ {b : Addr} {o : Obj}, s₁.heap.get? b = some o → (∀ vs n, o.data ≠ .seq vs n) → o.data ≠ .fields #[] → H b = none := by
      intro b o e n1 n2
      cases q : H b with
      | none => rfl
      | some u =>
        rcases hA b (by rw [q]; simp) with rfl | rfl
        · rw [ha] at e
          cases e
          exact absurd rfl (n1 _ _)
        · rw [eT] at e
          cases e
          exact absurd rfl n2
    have freeD : ∀ {b : Addr} {o : Obj} {es : Array DictEntry} {ep : Nat}, s₁.heap.get? b = some o → o.data = .dict es ep → H b = none := by
      intro b o es ep e d
      refine free e (fun vs n z => ?_) fun z => ?_ <;> rw [d] at z <;> cases z
    have nsK : ∀ {b : Addr} {m : Str → Option Value}, s₁.heap.Ns b m → (hidT s₁.heap H).Ns b m := by
      rintro b m ⟨o, es, ep, e, d, r⟩
      exact ⟨o, es, ep, hidT_get e (freeD e d), d, r⟩
    have hKb : K.In (hidT s₁.heap H) := by
      intro b o e
      refine hidT_get (KX b o e) ?_
      cases q : H b with
      | none => rfl
      | some u =>
        rcases hA b (by rw [q]; simp) with rfl | rfl
        · rw [hK (by rw [q]; simp)] at e
          cases e
        · rw [ck.no] at e
          cases e
    obtain ⟨mc, l1, l2⟩ := hlim
    have hM : Mod K mg (hidT s₁.heap H) := ⟨hKb, nsK hns, ⟨mb, nsK hb, hbb⟩, mc, nsK l1, l2⟩
    have TB : TabB (hidT s₁.heap H) mg c T := by
      refine ⟨ck.hd hKb, ?_, ?_⟩
      · obtain ⟨bm, ob, b1, b2, b3, b4, b5, b6⟩ := hbm
        refine ⟨bm, ob, b1, b2, ?_, ?_, hidT_get b3 (free b3 (fun vs n z => ?_) fun z => ?_), b4, b5, b6⟩
        · rintro rfl
          obtain ⟨o, es, ep, e, hd, _⟩ := hns
          rw [e] at b3
          cases b3
          rw [hd] at b6
          cases b6
        · rintro rfl
          rw [eT] at b3
          cases b3
          cases b6
        · rw [b6] at z
          cases z
        · rw [b6] at z
          cases z
      · intro z
        obtain ⟨o, es, ep, e, hd, _⟩ := hns
        rw [z, eT] at e
        cases e
        cases hd
    have no0 : ∀ b : Addr, b ∈ ([] : List Addr) → False := fun b z => by simp at z
    have e0 : Env0 P w K mg (hidT s₁.heap H) callerA [] s₁ H :=
      ⟨rfl, hM, fun b o e => of_hidT e, Nat.le_of_eq (hidT_size _ _), trivial, fun b z => (no0 b z).elim, hok, .of_eq hg⟩
    have go := (F _ hKb (nsK hns) TB).run callerA [] s₁ H ⟨[.ref a], []⟩ [.ref a] [.ref a] _ _ rfl hr e0
      (hbind s₁ (.ref a)) (.cons rfl .nil) (hsp H hH hS)
    refine codeAny_mono go ?_
    intro r s' h
    match r, h with
    | .error e, h => exact (hCX H e s' h).elim
    | .ok .next, h => exact False.elim h
    | .ok .brk, h => exact False.elim h
    | .ok .cont, h => exact False.elim h
    | .ok (.ret u), h =>
      obtain ⟨v, H', os, bare, un, hok', r', q⟩ := h
      have q' : v = .bl true := q
      subst q'
      obtain rfl : u = Value.bool true := r'
      have kept : ∀ b o, b ≠ T → s₁.heap.get? b = some o → s'.heap.get? b = some o := by
        intro b o nb e
        cases q : H b with
        | none => exact un.keep b o e q (no0 b) (by simp)
        | some u =>
          rcases hO b with z | z | ⟨ob, xs, z⟩
          · rw [q] at z
            cases z
          · exact absurd z nb
          · obtain ⟨e1, _⟩ := hok b _ z
            obtain ⟨e2, _⟩ := hok' b _ (un.frzs b ob _ z)
            rw [e] at e1
            cases e1
            exact e2
      obtain ⟨more, z⟩ := un.tbls T #[] hH
      have gT : s'.heap.get? T = some { cls := .none, data := .fields (#[] ++ more) } := hok' T _ z
      refine ⟨rfl, ⟨?_, ?_⟩, os, bare⟩
      · intro b o e
        by_cases hbT : b = T
        · subst hbT
          rw [eT] at e
          cases e
          exact .inr (.inl ⟨(hC.tab eT).isCodeTable, rfl, #[], more, rfl, gT⟩)
        · exact .inl (kept b o hbT e)
      · intro b o e
        by_cases hbT : b = T
        · subst hbT
          exact ⟨_, gT⟩
        · exact ⟨o, kept b o hbT e⟩
  cases hk : K.lookup a with
  | some o =>
    have e := KX a o hk
    rw [ha] at e
    cases e
    have sz : vs.toArray.size ≤ sizeLine := by
      rw [List.size_toArray, lenV]
      exact hl
    have yes : ∀ {b : Addr}, b = T → (if b = T then some (HO.tbl #[]) else none) = some (.tbl #[]) := fun h => if_pos h
    have no : ∀ {b : Addr}, ¬ b = T → (if b = T then some (HO.tbl #[]) else none) = none := fun h => if_neg h
    refine inner (fun b => if b = T then some (.tbl #[]) else none) (yes rfl) ?_ (.inr ⟨_, vs.toArray, _, hk, rfl, rfl, rfl, sz, by simpa using rv⟩) ?_ ?_ fun z => absurd (no neq) z
    · intro b
      by_cases h : b = T
      · exact .inr (.inl h)
      · exact .inl (no h)
    · intro b u z
      by_cases h : b = T
      · have z' := (yes h).symm.trans z
        cases z'
        subst h
        exact eT
      · have z' := (no h).symm.trans z
        cases z'
    · intro b z
      by_cases h : b = T
      · exact .inr h
      · exact absurd (no h) z
  | none =>
    let u : HO := .frz { cls := .type "list", data := .seq vs.toArray } (.lst (ns.map V.int))
    have atA : ∀ {b : Addr}, b = a → (if b = a then some u else if b = T then some (.tbl #[]) else none) = some u := fun h => if_pos h
    have atT : ∀ {b : Addr}, ¬ b = a → b = T → (if b = a then some u else if b = T then some (.tbl #[]) else none) = some (.tbl #[]) := fun h h2 => (if_neg h).trans (if_pos h2)
    have at0 : ∀ {b : Addr}, ¬ b = a → ¬ b = T → (if b = a then some u else if b = T then some (.tbl #[]) else none) = none := fun h h2 => (if_neg h).trans (if_neg h2)
    refine inner (fun b => if b = a then some u else if b = T then some (.tbl #[]) else none) (atT neq.symm rfl) ?_ (.inl (.inr ⟨_, atA rfl⟩)) ?_ ?_ fun _ => hk
    · intro b
      by_cases h1 : b = a
      · exact .inr (.inr ⟨_, _, atA h1⟩)
      · by_cases h2 : b = T
        · exact .inr (.inl h2)
        · exact .inl (at0 h1 h2)
    · intro b v z
      by_cases h1 : b = a
      · have z' := (atA h1).symm.trans z
        cases z'
        subst h1
        refine ⟨ha, ?_, vs, _, rv, ha⟩
        rw [List.length_map]
        exact hl
      · by_cases h2 : b = T
        · have z' := (atT h1 h2).symm.trans z
          cases z'
          subst h2
          exact eT
        · have z' := (at0 h1 h2).symm.trans z
          cases z'
    · intro b z
      by_cases h1 : b = a
      · exact .inl h1
      · by_cases h2 : b = T
        · exact .inr h2
        · exact absurd (at0 h1 h2) z
end
/-- the goal of the head, for a law that makes lambdas -/
theorem walk_ofT {l : PySem.W.OpenLaw} {n k : Nat} {q : Program} {loose : List Str} {XP : (Str → Option Value) → Heap → Prop}
    {YP : World → Heap → Prop} {d : DefRec} {K : Params → PySem.W.Frag} {CX : World → CXT} {sp : World → Addr → Sp} {x : Str}
    (hn : l.most = some n) (hn2 : n ≤ sizeLine) (hdf : d.params.defaults = []) (hr : Room k callerA)
    (hrec : ((recsOf q).any fun e => e.name == d.name) = true)
    (hY : ∀ (w : World) (h : Heap), YP w h → (K w.params).In h)
    (F : ∀ (w : World) (mg : Str → Option Value) (fa : Addr) (h : Heap), (K w.params).In h → h.Ns mainGlobals mg →
      mg d.name = some (.ref fa) →
      ∃ (fd : FuncData) (c T : Addr) (oc : Value) (od : Option Addr) (sl : Array (Option Value)), (K w.params).lookup fa = some ⟨oc, od, .func fd, sl⟩ ∧ fd.code = .ref c ∧ CodeK (K w.params) c T ∧ (∀ (s : Shared) (u : Value), BindsTo s fd ⟨[u], []⟩ [(x, u)]) ∧
        ∀ base : Heap, (K w.params).In base → base.Ns mainGlobals mg → TabB base mg c T → FnG l.prog w (K w.params) mg base (CX w) k fa fd [x] (sp w T))
    (hsp : ∀ (w : World) (T : Addr) (H : Hp) (a : Addr) (ns : List Int), ns.length ≤ n →
      (∀ z ∈ ns, Builtin.Int.intBits z ≤ 1048576) → H T = some (.tbl #[]) → SqL (K w.params) H a (ns.map V.int) →
      sp w T [.ref a] H (fun v _ => v = .bl true) fun _ _ _ => False)
    (hCX : ∀ (w : World) (H : Hp) (s : Shared) (e : Value) (s' : Shared), CX w [] H s (fun _ _ _ => False) e s' → False) :
    PySem.W.WalkO q loose XP YP l.row.toRowW d [] (fun f vs => PySem.call f vs) := by
  refine Att.attach_callB hn hdf ?_
  intro w s₀ s₁ mg mb fa o pm cd doc a vs ns G Y ho hd hcd hmg hobj hints hlen hbits hg
  have KX := hY w _ Y
  obtain ⟨fd, c, T, oc, od, sl, lk, hc, ck, hbind, hF⟩ := F w mg fa _ KX G.T.g hmg
  have eT : s₁.heap.get? T = some { cls := .none, data := .fields #[] } := by
    obtain ⟨e, he, hne⟩ := List.any_eq_true.mp hrec
    obtain ⟨a', o', fd', c', P', g1, g2, g3, g4, g5, g6⟩ := G.T.tab e he
    rw [show e.name = d.name from beq_iff_eq.mp hne, hmg] at g1
    cases g1
    rw [KX _ _ lk] at g2
    cases g2
    cases g3
    rw [hc] at g4
    cases g4
    obtain ⟨⟨oc', vc, e1, _, e3, e4⟩, hP⟩ := g6
    obtain ⟨_, _, _, _, _, _, _, _, _, _, k1, k2, _⟩ := ck.ex
    rw [KX _ _ k1] at e1
    cases e1
    cases e3
    rw [k2] at e4
    cases e4
    exact hP
  exact law_callT KX G.T.g G.T.b G.T.builtins G.T.nolimit hg ck eT G.T.bmain hobj hints (Nat.le_trans hlen hn2) hr hF hbind (fun H hH hS => hsp w T H a ns hlen hbits hH hS) fun H e s' => hCX w H s₁ e s'
end X12

/-! x in t, t a tuple of data -/
namespace X13
open PySem PySem.Spec PyProof.Rows L2 Kit
def rInTD (K : PySem.W.Frag) : R2 := fun x t H Q => ∃ (dx : PyData) (dt : List PyData), Dp K H x dx ∧ Dp K H t (.tuple dt) ∧
  SeqAt.shaped dx = true ∧ SeqAt.shaped (.tuple dt) = true ∧ Q (.bl (dt.any fun z => PyData.eqv z dx)) H
theorem op_inTD {X : Cx} (room : X.A.units + 65 < cLine) : OpR X (compareOp .In) (rInTD X.K) := by
  intro pins s σ H x t vx vt Q I rx rt h
  obtain ⟨dx, dt, h1, h2, s1, s2, q⟩ := h
  obtain ⟨ax, g1⟩ := Dp.reads I dx x vx h1 rx
  obtain ⟨at', g2⟩ := Dp.reads I (.tuple dt) t vt h2 rt
  exact SeqAt.in_tuple_reads g2 g1 (SeqAt.canLay_of_shaped s2) (SeqAt.canLay_of_shaped s1) (room_in_shaped s1 room)
    ⟨.bl _, H, I, rfl, q⟩
end X13

set_option autoImplicit false
/-! single steps of a question, by name: where a lemma answers a part that is not at the front -/
namespace St
open PySem PySem.Spec PyProof.Rows L2
section
variable {σ : L2.St} {H : Hp} {Q : VK} {D : Ends} {te tf : TE} {ta tr : TA} {QA : List V → Hp → Prop}
theorem ret (h : te σ H fun v H1 => D.rt v H1) : tRet te D σ H := h
theorem tup (h : ta σ H fun xs H1 => xs.length ≤ sizeLine ∧ ∀ p, H1 p = none → Q (.ref p) (upd H1 p (.tup xs))) : tTup ta σ H Q := h
theorem cons (h : te σ H fun x H1 => tr σ H1 fun xs H2 => QA (x :: xs) H2) : tCons te tr σ H QA := h
theorem cb {r : List V → Hp → VK → Prop} (h : ta σ H fun vs H1 => r vs H1 Q) : tCB r ta σ H Q := h
theorem op {r : R2} (h : te σ H fun x H1 => tf σ H1 fun y H2 => r x y H2 Q) : tOp r te tf σ H Q := h
theorem yes {A B : Hp → Prop} (h : A H) : tYes σ H fun b H' => if b = true then A H' else B H' := by
  show if true = true then A H else B H
  rw [if_pos rfl]
  exact h
end
end St

namespace K80
open PySem PySem.Spec PyProof.Rows L2 Kit
def topS (i : Nat) : Stmt := PySem.Challenge.pw_wiretongue_k80_whole_papers_of_slowest_w.main.body.getD i (.Pass ⟨0, 0, 0, 0⟩)
abbrev s_feeds_of : Stmt := topS 2
abbrev N_feeds_of : List Str := ["gate"]
theorem S_feeds_of : FnScope N_feeds_of ["gate"] (defScope s_feeds_of) := ⟨rfl, rfl, rfl, by decide +kernel, rfl, by decide +kernel, by decide +kernel⟩
abbrev s_brought : Stmt := topS 5
abbrev N_brought : List Str := ["arrivals", "gates", "ways", "g", "step", "feed", "way"]
theorem S_brought : FnScope N_brought ["arrivals", "gates", "ways", "g", "step"] (defScope s_brought) := ⟨rfl, rfl, rfl, by decide +kernel, rfl, by decide +kernel, by decide +kernel⟩
abbrev s_own_delay : Stmt := topS 6
abbrev N_own_delay : List Str := ["gate", "delays"]
theorem S_own_delay : FnScope N_own_delay ["gate", "delays"] (defScope s_own_delay) := ⟨rfl, rfl, rfl, by decide +kernel, rfl, by decide +kernel, by decide +kernel⟩
abbrev s_arrivals_of : Stmt := topS 7
abbrev N_arrivals_of : List Str := ["gates", "ways", "delays", "arrivals", "g", "gate", "time", "_"]
theorem S_arrivals_of : FnScope N_arrivals_of ["gates", "ways", "delays"] (defScope s_arrivals_of) := ⟨rfl, rfl, rfl, by decide +kernel, rfl, by decide +kernel, by decide +kernel⟩
abbrev s_path_to : Stmt := topS 8
abbrev N_path_to : List Str := ["box", "gates", "ways", "arrivals", "step", "path", "going", "_", "feed"]
theorem S_path_to : FnScope N_path_to ["box", "gates", "ways", "arrivals", "step"] (defScope s_path_to) := ⟨rfl, rfl, rfl, by decide +kernel, rfl, by decide +kernel, by decide +kernel⟩
abbrev s_slowest : Stmt := topS 9
abbrev N_slowest : List Str := ["net", "laying", "clock", "delays", "gates", "ways", "arrivals", "boxes", "g", "gate", "time", "box"]
theorem S_slowest : FnScope N_slowest ["net", "laying", "clock", "delays"] (defScope s_slowest) := ⟨rfl, rfl, rfl, by decide +kernel, rfl, by decide +kernel, by decide +kernel⟩
abbrev s_is_natural : Stmt := topS 11
abbrev N_is_natural : List Str := ["thing"]
theorem S_is_natural : FnScope N_is_natural ["thing"] (defScope s_is_natural) := ⟨rfl, rfl, rfl, by decide +kernel, rfl, by decide +kernel, by decide +kernel⟩
abbrev s_is_whole : Stmt := topS 12
abbrev N_is_whole : List Str := ["thing", "end"]
theorem S_is_whole : FnScope N_is_whole ["thing", "end"] (defScope s_is_whole) := ⟨rfl, rfl, rfl, by decide +kernel, rfl, by decide +kernel, by decide +kernel⟩
abbrev s_is_tuple : Stmt := topS 13
abbrev N_is_tuple : List Str := ["thing", "many"]
theorem S_is_tuple : FnScope N_is_tuple ["thing", "many"] (defScope s_is_tuple) := ⟨rfl, rfl, rfl, by decide +kernel, rfl, by decide +kernel, by decide +kernel⟩
abbrev s_are_arrivals : Stmt := topS 15
abbrev N_are_arrivals : List Str := ["gates", "ways", "thing", "delays", "arrival", "g", "gate", "own", "time", "_"]
theorem S_are_arrivals : FnScope N_are_arrivals ["gates", "ways", "thing", "delays"] (defScope s_are_arrivals) := ⟨rfl, rfl, rfl, by decide +kernel, rfl, by decide +kernel, by decide +kernel⟩
abbrev s_is_path : Stmt := topS 16
abbrev N_is_path : List Str := ["gates", "clock", "thing", "g", "feed"]
theorem S_is_path : FnScope N_is_path ["gates", "clock", "thing"] (defScope s_is_path) := ⟨rfl, rfl, rfl, by decide +kernel, rfl, by decide +kernel, by decide +kernel⟩
abbrev s_path_time : Stmt := topS 17
abbrev N_path_time : List Str := ["gates", "ways", "path", "delays", "time", "feed", "g", "own", "lengths", "way", "fed"]
theorem S_path_time : FnScope N_path_time ["gates", "ways", "path", "delays"] (defScope s_path_time) := ⟨rfl, rfl, rfl, by decide +kernel, rfl, by decide +kernel, by decide +kernel⟩
abbrev s_slowest_holds : Stmt := topS 18
abbrev N_slowest_holds : List Str := ["net", "laying", "clock", "thing", "delays", "gates", "ways", "time", "path", "arrivals", "boxes", "g", "gate", "late"]
theorem S_slowest_holds : FnScope N_slowest_holds ["net", "laying", "clock", "thing", "delays"] (defScope s_slowest_holds) := ⟨rfl, rfl, rfl, by decide +kernel, rfl, by decide +kernel, by decide +kernel⟩
abbrev s_l_deck : Stmt := topS 20
abbrev N_l_deck : List Str := ["_law_script", "_law_cells", "_law_seed", "_law_cell"]
theorem S_l_deck : FnScope N_l_deck ["_law_script"] (defScope s_l_deck) := ⟨rfl, rfl, rfl, by decide +kernel, rfl, by decide +kernel, by decide +kernel⟩
abbrev s_l_draw : Stmt := topS 21
abbrev N_l_draw : List Str := ["_law_deck_here", "_law_sides", "_law_at", "_law_number", "_law_cell"]
theorem S_l_draw : FnScope N_l_draw ["_law_deck_here", "_law_sides"] (defScope s_l_draw) := ⟨rfl, rfl, rfl, by decide +kernel, rfl, by decide +kernel, by decide +kernel⟩
abbrev s_l_pick : Stmt := topS 22
abbrev N_l_pick : List Str := ["_law_deck_here", "_law_some"]
theorem S_l_pick : FnScope N_l_pick ["_law_deck_here", "_law_some"] (defScope s_l_pick) := ⟨rfl, rfl, rfl, by decide +kernel, rfl, by decide +kernel, by decide +kernel⟩
abbrev s_l_net : Stmt := topS 23
abbrev N_l_net : List Str := ["_law_deck_here", "_law_many", "_law_sort", "_law_gates", "_law_k", "_law_way_here", "_law_near", "_law_one", "_law_other", "_law_some"]
theorem S_l_net : FnScope N_l_net ["_law_deck_here"] (defScope s_l_net) := ⟨rfl, rfl, rfl, by decide +kernel, rfl, by decide +kernel, by decide +kernel⟩
abbrev s_l_feeds : Stmt := topS 24
abbrev N_l_feeds : List Str := ["_law_gate"]
theorem S_l_feeds : FnScope N_l_feeds ["_law_gate"] (defScope s_l_feeds) := ⟨rfl, rfl, rfl, by decide +kernel, rfl, by decide +kernel, by decide +kernel⟩
abbrev s_l_way : Stmt := topS 25
abbrev N_l_way : List Str := ["_law_deck_here", "_law_first", "_law_last", "_law_found", "_law_here", "_law_turn", "_law_down", "_law_right"]
theorem S_l_way : FnScope N_l_way ["_law_deck_here", "_law_first", "_law_last"] (defScope s_l_way) := ⟨rfl, rfl, rfl, by decide +kernel, rfl, by decide +kernel, by decide +kernel⟩
abbrev s_l_there_and_back : Stmt := topS 26
abbrev N_l_there_and_back : List Str := ["_law_deck_here", "_law_cell", "_law_beside"]
theorem S_l_there_and_back : FnScope N_l_there_and_back ["_law_deck_here", "_law_cell"] (defScope s_l_there_and_back) := ⟨rfl, rfl, rfl, by decide +kernel, rfl, by decide +kernel, by decide +kernel⟩
abbrev s_l_laying : Stmt := topS 27
abbrev N_l_laying : List Str := ["_law_deck_here", "_law_net_here", "_law_first", "_law_by", "_law_cells", "_law_k", "_law_ways", "_law_gate", "_law_some", "_law_feed"]
theorem S_l_laying : FnScope N_l_laying ["_law_deck_here", "_law_net_here"] (defScope s_l_laying) := ⟨rfl, rfl, rfl, by decide +kernel, rfl, by decide +kernel, by decide +kernel⟩
abbrev s_l_delays : Stmt := topS 28
abbrev N_l_delays : List Str := ["_law_deck_here", "_law_far"]
theorem S_l_delays : FnScope N_l_delays ["_law_deck_here"] (defScope s_l_delays) := ⟨rfl, rfl, rfl, by decide +kernel, rfl, by decide +kernel, by decide +kernel⟩
abbrev s_l_moved : Stmt := topS 29
abbrev N_l_moved : List Str := ["_law_gate"]
theorem S_l_moved : FnScope N_l_moved ["_law_gate"] (defScope s_l_moved) := ⟨rfl, rfl, rfl, by decide +kernel, rfl, by decide +kernel, by decide +kernel⟩
abbrev s_l_bring : Stmt := topS 30
abbrev N_l_bring : List Str := ["_law_net_here", "_law_laying_here", "_law_said", "_law_own", "_law_k", "_law_gate", "_law_more", "_law_found", "_law_feed", "_law_way_here"]
theorem S_l_bring : FnScope N_l_bring ["_law_net_here", "_law_laying_here", "_law_said", "_law_own", "_law_k"] (defScope s_l_bring) := ⟨rfl, rfl, rfl, by decide +kernel, rfl, by decide +kernel, by decide +kernel⟩
abbrev s_l_arrivals : Stmt := topS 31
abbrev N_l_arrivals : List Str := ["_law_net_here", "_law_laying_here", "_law_own", "_law_found", "_law_k"]
theorem S_l_arrivals : FnScope N_l_arrivals ["_law_net_here", "_law_laying_here", "_law_own"] (defScope s_l_arrivals) := ⟨rfl, rfl, rfl, by decide +kernel, rfl, by decide +kernel, by decide +kernel⟩
abbrev s_l_time : Stmt := topS 32
abbrev N_l_time : List Str := ["_law_net_here", "_law_laying_here", "_law_said", "_law_own", "_law_clock", "_law_some", "_law_k"]
theorem S_l_time : FnScope N_l_time ["_law_net_here", "_law_laying_here", "_law_said", "_law_own", "_law_clock"] (defScope s_l_time) := ⟨rfl, rfl, rfl, by decide +kernel, rfl, by decide +kernel, by decide +kernel⟩
abbrev s_l_path_time : Stmt := topS 33
abbrev N_l_path_time : List Str := ["_law_net_here", "_law_laying_here", "_law_path", "_law_own", "_law_clock", "_law_gates", "_law_found", "_law_nothing", "_law_k", "_law_feeds_here", "_law_brought", "_law_j"]
theorem S_l_path_time : FnScope N_l_path_time ["_law_net_here", "_law_laying_here", "_law_path", "_law_own", "_law_clock"] (defScope s_l_path_time) := ⟨rfl, rfl, rfl, by decide +kernel, rfl, by decide +kernel, by decide +kernel⟩
abbrev s_l_whole : Stmt := topS 34
abbrev N_l_whole : List Str := ["_law_thing", "_law_top"]
theorem S_l_whole : FnScope N_l_whole ["_law_thing", "_law_top"] (defScope s_l_whole) := ⟨rfl, rfl, rfl, by decide +kernel, rfl, by decide +kernel, by decide +kernel⟩
abbrev s_l_due : Stmt := topS 35
abbrev N_l_due : List Str := ["_law_net_here", "_law_laying_here", "_law_own", "_law_clock", "_law_thing", "_law_many", "_law_time_here", "_law_path", "_law_said", "_law_some", "_law_top", "_law_one", "_law_k"]
theorem S_l_due : FnScope N_l_due ["_law_net_here", "_law_laying_here", "_law_own", "_law_clock", "_law_thing"] (defScope s_l_due) := ⟨rfl, rfl, rfl, by decide +kernel, rfl, by decide +kernel, by decide +kernel⟩
abbrev s_l_off : Stmt := topS 36
abbrev N_l_off : List Str := ["_law_deck_here", "_law_thing", "_law_other", "_law_way_here", "_law_odd", "_law_at", "_law_some"]
theorem S_l_off : FnScope N_l_off ["_law_deck_here", "_law_thing", "_law_other"] (defScope s_l_off) := ⟨rfl, rfl, rfl, by decide +kernel, rfl, by decide +kernel, by decide +kernel⟩
abbrev s_l_spoilt : Stmt := topS 37
abbrev N_l_spoilt : List Str := ["_law_deck_here", "_law_thing", "_law_other", "_law_at", "_law_beside"]
theorem S_l_spoilt : FnScope N_l_spoilt ["_law_deck_here", "_law_thing", "_law_other"] (defScope s_l_spoilt) := ⟨rfl, rfl, rfl, by decide +kernel, rfl, by decide +kernel, by decide +kernel⟩
abbrev s_l_row_net : Stmt := topS 38
abbrev N_l_row_net : List Str := ["_law_deck_here", "_law_many", "_law_gates", "_law_k"]
theorem S_l_row_net : FnScope N_l_row_net ["_law_deck_here"] (defScope s_l_row_net) := ⟨rfl, rfl, rfl, by decide +kernel, rfl, by decide +kernel, by decide +kernel⟩
abbrev s_law : Stmt := topS 39
abbrev N_law : List Str := ["_law_script", "_law_deck_here", "_law_turn", "_law_twice", "_law_k", "_law_net_here", "_law_laying_here", "_law_beside", "_law_own", "_law_far", "_law_goods", "_law_clock", "_law_good", "_law_other", "_law_things", "_law_again", "_law_bent", "_law_thing", "_law_kept", "_law_here", "_law_by", "_law_due_here", "_law_found"]
theorem S_law : FnScope N_law ["_law_script"] (defScope s_law) := ⟨rfl, rfl, rfl, by decide +kernel, rfl, by decide +kernel, by decide +kernel⟩
structure Bi (mg : Str → Option Value) : Prop where
  repr_ : mg "repr" = none
  str_ : mg "str" = none
  all_ : mg "all" = none
  any_ : mg "any" = none
  isinstance_ : mg "isinstance" = none
  len_ : mg "len" = none
  list_ : mg "list" = none
  range_ : mg "range" = none
  enumerate_ : mg "enumerate" = none
  zip_ : mg "zip" = none
  max_ : mg "max" = none
  tuple_ : mg "tuple" = none
  int_ : mg "int" = none
  bool_ : mg "bool" = none
  divmod_ : mg "divmod" = none
/-! ### the deck -/
abbrev big : Int := 170141183460469231731687303715884105727
def deckKv (c : Addr) (sd : Int) (t : Nat) : List (L2.Key × V) := [(.inr "cells", .ref c), (.inr "seed", .int sd), (.inr "at", .int (t : Int))]
structure Deck (H : Hp) (d c : Addr) (t : Nat) : Prop where
  ex : ∃ (cs : List Int) (sd : Int), H d = some (.dK (deckKv c sd t)) ∧ H c = some (.lst (cs.map V.int)) ∧ 0 ≤ sd ∧ sd < big ∧ cs.length ≤ 63 ∧
    ∀ z ∈ cs, Builtin.Int.intBits z ≤ 1048576


theorem put_at (c : Addr) (sd : Int) (t : Nat) (v : V) : putK (deckKv c sd t) (Sum.inr "at") v = [(.inr "cells", .ref c), (.inr "seed", .int sd), (.inr "at", v)] := by
  rfl
theorem get_at (c : Addr) (sd : Int) (t : Nat) : valV (deckKv c sd t) (Sum.inr "at") = some (.int (t : Int)) := rfl
theorem get_seed (c : Addr) (sd : Int) (t : Nat) : valV (deckKv c sd t) (Sum.inr "seed") = some (.int sd) := rfl
theorem get_cells (c : Addr) (sd : Int) (t : Nat) : valV (deckKv c sd t) (Sum.inr "cells") = some (.ref c) := rfl
theorem sl3 (c : Addr) (sd : Int) (t : Nat) : (deckKv c sd t).length < sizeLine := by
  show 3 < sizeLine
  decide

/-- what the draw makes of it is small again -/
theorem bits_lt {x : Int} {n : Nat} (h0 : 0 ≤ x) (h : x < 2 ^ n) : Builtin.Int.intBits x ≤ n := by
  refine PySem.intBits_le_iff.mpr ?_
  have e : ((2 ^ n : Nat) : Int) = (2 : Int) ^ n := by rw [Int.natCast_pow]; rfl
  have h2 : x < ((2 ^ n : Nat) : Int) := by rw [e]; exact h
  omega
theorem bits_add {x y : Int} {n : Nat} (hx : Builtin.Int.intBits x ≤ n) (hy : Builtin.Int.intBits y ≤ n) : Builtin.Int.intBits (x + y) ≤ n + 1 := by
  have h1 := PySem.intBits_le_iff.mp hx
  have h2 := PySem.intBits_le_iff.mp hy
  refine PySem.intBits_le_iff.mpr ?_
  have e : 2 ^ (n + 1) = 2 ^ n + 2 ^ n := by rw [Nat.pow_succ]; omega
  rw [e]
  omega

theorem snoc {α : Type} (cs : List α) : cs = [] ∨ ∃ l x, cs = l ++ [x] := by
  rcases List.eq_nil_or_concat cs with h | ⟨l, x, h⟩
  · exact .inl h
  · exact .inr ⟨l, x, by rw [h, List.concat_eq_append]⟩
theorem pos_big : (0 : Int) < 170141183460469231731687303715884105727 := by decide
theorem dp_ints {K : PySem.W.Frag} {H : Hp} : ∀ ns : List Int, DpAll K H (ns.map V.int) (ns.map PyData.int)
  | [] => .nil
  | n :: ns => .cons (.int n) (dp_ints ns)
def spDraw : Sp := fun vs H Q _ => ∃ (d c : Addr) (n : Int) (t : Nat), vs = [.ref d, .int n] ∧ 1 ≤ n ∧ n < 1000000000 ∧ Deck H d c t ∧ t < 1000000000000 ∧
  ∀ (r : Int) (H' : Hp), 0 ≤ r → r < n → But d c H H' → Deck H' d c (t + 1) → Q (.int r) H'

/-! ### heaps and the deck -/
theorem Deck.ne {H : Hp} {d c : Addr} {t : Nat} (h : Deck H d c t) : d ≠ c := by
  obtain ⟨cs, sd, h1, h2, _⟩ := h.ex
  exact ne_of h1 h2 (by intro z; cases z)
theorem Deck.keep {H H' : Hp} {d c : Addr} {t : Nat} (h : Deck H d c t) (hd : ∀ o, H d = some o → H' d = some o) (hc : ∀ o, H c = some o → H' c = some o) : Deck H' d c t := by
  obtain ⟨cs, sd, h1, h2, h3⟩ := h.ex
  exact ⟨cs, sd, hd _ h1, hc _ h2, h3⟩
theorem Deck.same {H H' : Hp} {d c : Addr} {t : Nat} (h : Deck H d c t) (s : Same H H') : Deck H' d c t := h.keep (fun o e => s _ o e) (fun o e => s _ o e)
theorem Deck.here {H : Hp} {d c : Addr} {t : Nat} (h : Deck H d c t) : H d ≠ none ∧ H c ≠ none := by
  obtain ⟨cs, sd, h1, h2, _⟩ := h.ex
  rw [h1, h2]
  exact ⟨fun z => (by cases z), fun z => (by cases z)⟩
theorem Deck.mut {H : Hp} {d c p : Addr} {o : HO} {t : Nat} (h : Deck H d c t) (n1 : d ≠ p) (n2 : c ≠ p) : Deck (upd H p o) d c t :=
  h.keep (fun o e => by rw [upd_ne n1]; exact e) (fun o e => by rw [upd_ne n2]; exact e)
theorem Deck.new {H : Hp} {d c p : Addr} {o : HO} {t : Nat} (h : Deck H d c t) (n : H p = none) : Deck (upd H p o) d c t := h.same (same_new n)
theorem Deck.free {H : Hp} {d c p : Addr} {t : Nat} (h : Deck H d c t) (n : H p = none) : p ≠ d ∧ p ≠ c :=
  ⟨fun z => h.here.1 (by rw [← z]; exact n), fun z => h.here.2 (by rw [← z]; exact n)⟩

/-! ### promises -/
def spDeck (K : PySem.W.Frag) : Sp := fun vs H Q _ => ∃ (a : Addr) (ns : List Int), vs = [.ref a] ∧ SqL K H a (ns.map V.int) ∧ ns.length ≤ 63 ∧
  (∀ z ∈ ns, Builtin.Int.intBits z ≤ 1048576) ∧ ∀ (d c : Addr) (H' : Hp), Same H H' → H d = none → H c = none → Deck H' d c 0 → Q (.ref d) H'
def spPick (K : PySem.W.Frag) : Sp := fun vs H Q _ => ∃ (d c : Addr) (t : Nat) (v : V) (xs : List V), vs = [.ref d, v] ∧ Sq K H v xs ∧ 1 ≤ xs.length ∧ xs.length < 1000000000 ∧
  v ≠ .ref d ∧ v ≠ .ref c ∧ Deck H d c t ∧ t < 1000000000000 ∧
  ∀ (i : Nat) (x : V) (H' : Hp), xs[i]? = some x → But d c H H' → Deck H' d c (t + 1) → Q x H'
section
variable {P : Program} {w : World} {K : PySem.W.Frag} {mg : Str → Option Value} {base : Heap}
theorem ok_draw {f : Addr} {fd : FuncData} (D : DefAt K mg "_law_draw" ["_law_deck_here", "_law_sides"] s_l_draw f fd) :
    Cal P w K mg base L2.CX0 1 "_law_draw" ["_law_deck_here", "_law_sides"] spDraw := by
  have S := S_l_draw
  refine cal_of D.fn D.mgf D.bs D.kbs S (fun vs H Q E h => ?_) (fun cdv A outer s H vs Q E hq hr h => ?_)
  · obtain ⟨d, c, n, t, rfl, _⟩ := h
    rfl
  · obtain ⟨d, c, n, t, rfl, hn1, hn2, ⟨cs, sd, hd, hc, hs0, hs1, hl, hz⟩, ht, q⟩ := h
    refine ⟨_, (pss_cons (ps_dput (hu_of hr) (pv 0) pe_str (pe_op op_add (pe_dget (hu_of hr) (pv 0) pe_str (fun _ _ => rfl)) pe_int) rfl)
 (pss_cons (ps_set (i := 2) S.nd rfl (.inl rfl) (pe_dget (hu_of hr) (pv 0) pe_str (fun _ _ => rfl)))
 (pss_cons (ps_set (i := 3) S.nd rfl (.inl rfl) (pe_op op_add (pe_dget (hu_of hr) (pv 0) pe_str (fun _ _ => rfl)) (pe_op op_mulB (pe_op op_mulB pe_int (pv 2)) (pv 2))))
 (C8.pss_cut (ps_if (pt_cmpR (op_neNil (room200 hr)) (pe_dget (hu_of hr) (pv 0) pe_str (fun _ _ => rfl)) (pe_lst pa_nil) (nomark _))
  (pss_cons (ps_set (i := 4) S.nd rfl (.inl rfl) (pe_bm0 PySem.F.plainAttrs_list PySem.F.slot_list_pop PySem.F.type_list_pop (mt_pop) (pe_dget (hu_of hr) (pv 0) pe_str (fun _ _ => rfl))))
 (pss_cons (ps_if (pt_cmpR op_ge (pv 4) (pe_op op_pow pe_int pe_int) (nomark _))
  (pss_cons (ps_expr (pe_bm PySem.F.plainAttrs_list PySem.F.slot_list_append PySem.F.type_list_append mt_append (pe_dget (hu_of hr) (pv 0) pe_str (fun _ _ => rfl)) (pa_cons (pe_op op_fdivN (pv 4) (pv 1)) pa_nil)))
 (pss_one (ps_ret (pe_op op_mod (pv 4) (pv 1)))))
  pss_nil)
 (pss_one (ps_set (i := 3) S.nd rfl (.inl rfl) (pe_op op_add (pv 3) (pe_op op_mulB pe_int (pv 4)))))))
  pss_nil)
 (pss_cons (ps_set (i := 3) S.nd rfl (.inl rfl) (pe_op op_mod (pe_op op_mulB (pv 3) (pe_op op_add (pv 3) (pe_op op_mulB pe_int (pv 2)))) pe_int))
 (pss_cons (ps_set (i := 3) S.nd rfl (.inl rfl) (pe_op op_mod (pe_op op_add (pe_op op_mulB (pv 3) (pv 3)) (pe_op op_mulB pe_int (pv 2))) pe_int))
 (pss_one (ps_ret (pe_op op_mod (pe_op op_fdivN (pv 3) pe_int) (pv 1)))))))))), ?_⟩
    have ndc : c ≠ d := ne_of hc hd (by intro z; cases z)
    have g1 : DGet H d (.str "at") (some (.int (t : Int))) := DGet.k (k := Sum.inr "at") hd
    refine ⟨.ref d, rfl, d, _, rfl, g1, t, 1, rfl, rfl, .ref d, rfl, d, _, rfl, DPut.k (k := Sum.inr "at") hd (sl3 c sd t), ?_⟩
    rw [put_at]
    have hd1 : (upd H d (.dK (deckKv c sd (t + 1)))) d = some (.dK (deckKv c sd (t + 1))) := upd_same
    have hc1 : (upd H d (.dK (deckKv c sd (t + 1)))) c = some (.lst (cs.map V.int)) := by
      rw [upd_ne ndc]
      exact hc
    have bt1 : But d c H (upd H d (.dK (deckKv c sd (t + 1)))) := fun b o h1 h2 e => by
      rw [upd_ne h1]
      exact e
    revert hd1 hc1 bt1
    show _ → _ → _ → tSeq _ _ _ _ (upd H d (.dK (deckKv c sd (t + 1))))
    generalize upd H d (.dK (deckKv c sd (t + 1))) = H1
    intro hd1 hc1 bt1
    have g2 : DGet H1 d (.str "at") (some (.int ((t + 1 : Nat) : Int))) := DGet.k (k := Sum.inr "at") hd1
    have g3 : DGet H1 d (.str "seed") (some (.int sd)) := DGet.k (k := Sum.inr "seed") hd1
    have g4 : DGet H1 d (.str "cells") (some (.ref c)) := DGet.k (k := Sum.inr "cells") hd1
    refine ⟨.ref d, rfl, d, _, rfl, g2, ?_⟩
    refine ⟨.ref d, rfl, d, _, rfl, g3, ?_⟩
    refine ⟨.int ((t + 1 : Nat) : Int), rfl, 7919, ((t + 1 : Nat) : Int), rfl, rfl, ?_, .int ((t + 1 : Nat) : Int), rfl, 7919 * ((t + 1 : Nat) : Int), ((t + 1 : Nat) : Int), rfl, rfl, ?_, sd, _, rfl, rfl, ?_⟩
    · exact IntMulOk.of_left (by decide)
    · exact IntMulOk.of_right (intBits_le_64 (by omega) (by omega))
    have T1 : (0 : Int) ≤ ((t + 1 : Nat) : Int) ∧ ((t + 1 : Nat) : Int) < 2 ^ 41 := by omega
    have T2 : (0 : Int) ≤ 7919 * ((t + 1 : Nat) : Int) * ((t + 1 : Nat) : Int) ∧ 7919 * ((t + 1 : Nat) : Int) * ((t + 1 : Nat) : Int) < 2 ^ 100 := by
      generalize ((t + 1 : Nat) : Int) = k at T1
      have h1 : (0 : Int) ≤ 7919 * k := by omega
      refine ⟨Int.mul_nonneg h1 T1.1, ?_⟩
      have h3 : 7919 * k * k ≤ 7919 * k * 2 ^ 41 := Int.mul_le_mul_of_nonneg_left (by omega) h1
      omega
    refine ⟨fun σ' H3 => ∃ (m : Int) (x4 : Option V), σ' = [some (.ref d), some (.int n), some (.int ((t + 1 : Nat) : Int)), some (.int m), x4] ∧ Builtin.Int.intBits m ≤ 1048700 ∧
      But d c H H3 ∧ Deck H3 d c (t + 1), ?_, ?_⟩
    · refine ⟨.ref d, rfl, d, _, rfl, g4, ?_⟩
      refine ⟨Nat.zero_le _, fun p np => ?_⟩
      have npc : c ≠ p := ne_of_none hc1 np
      have hcp : (upd H1 p (.lst [])) c = some (.lst (cs.map V.int)) := by
        rw [upd_ne npc]
        exact hc1
      have npd : d ≠ p := ne_of_none hd1 np
      have hdp : (upd H1 p (.lst [])) d = some (.dK (deckKv c sd (t + 1))) := by
        rw [upd_ne npd]
        exact hd1
      have btp : But d c H (upd H1 p (.lst [])) := fun b o h1 h2 e => by
        have e1 := bt1 b o h1 h2 e
        rw [upd_ne (ne_of_none e1 np)]
        exact e1
      refine ⟨c, p, _, rfl, rfl, .inl (.inl hcp), .inl (.inl upd_same), _, rfl, ?_⟩
      revert hcp hdp btp
      generalize upd H1 p (.lst []) = H2
      intro hc2 hd2 bt2
      have bm : Builtin.Int.intBits (sd + 7919 * ((t + 1 : Nat) : Int) * ((t + 1 : Nat) : Int)) ≤ 200 := by
        have hb : big < 2 ^ 127 := by decide
        exact bits_lt (by omega) (by omega)
      rcases snoc cs with rfl | ⟨l, x, rfl⟩
      · exact iteF ⟨_, _, rfl, Nat.le_trans bm (by decide), bt2, ⟨[], sd, hd2, hc2, hs0, hs1, hl, hz⟩⟩
      · have ne0 : ((l ++ [x]).map V.int).isEmpty = false := by
          cases l <;> rfl
        rw [ne0]
        refine iteT ?_
        have g5 : DGet H2 d (.str "cells") (some (.ref c)) := DGet.k (k := Sum.inr "cells") hd2
        have hx : Builtin.Int.intBits x ≤ 1048576 := hz x (List.mem_append_right _ (List.mem_singleton.mpr rfl))
        have hl' : l.length < 63 := by
          have e := hl
          rw [List.length_append, List.length_singleton] at e
          omega
        have hz' : ∀ z ∈ l, Builtin.Int.intBits z ≤ 1048576 := fun z hm => hz z (List.mem_append_left _ hm)
        have lst1 : ((l ++ [x]).map V.int)[((l ++ [x]).map V.int).length - 1]? = some (.int x) := by
          rw [List.map_append, List.length_append, List.length_map]
          show (l.map V.int ++ [V.int x])[l.length + 1 - 1]? = _
          rw [Nat.add_sub_cancel, List.getElem?_append_right (by rw [List.length_map]; exact Nat.le_refl _), List.length_map, Nat.sub_self]
          rfl
        have drop1 : ((l ++ [x]).map V.int).dropLast = l.map V.int := by
          rw [List.map_append]
          exact List.dropLast_concat
        -- the last cell is taken
        refine ⟨.ref d, rfl, d, _, rfl, g5, .inl ⟨rfl, _, .inl (.inl hc2)⟩, c, _, _, rfl, rfl, hc2, lst1, ?_⟩
        rw [drop1]
        have hd3 : (upd H2 c (.lst (l.map V.int))) d = some (.dK (deckKv c sd (t + 1))) := by
          rw [upd_ne ndc.symm]
          exact hd2
        have hc3 : (upd H2 c (.lst (l.map V.int))) c = some (.lst (l.map V.int)) := upd_same
        have bt3 : But d c H (upd H2 c (.lst (l.map V.int))) := fun b o h1 h2 e => by
          rw [upd_ne h2]
          exact bt2 b o h1 h2 e
        revert hd3 hc3 bt3
        show _ → _ → _ → tSeq _ _ _ _ (upd H2 c (.lst (l.map V.int)))
        generalize upd H2 c (.lst (l.map V.int)) = H3
        intro hd3 hc3 bt3
        refine ⟨.int x, rfl, 10, 18, rfl, rfl, ⟨by decide, by decide, by decide⟩, x, _, rfl, rfl, _, rfl, ite2 (fun _ => ?_) (fun _ => ?_)⟩
        · -- a digit of it
          have g6 : DGet H3 d (.str "cells") (some (.ref c)) := DGet.k (k := Sum.inr "cells") hd3
          refine ⟨.ref d, rfl, d, _, rfl, g6, .inl ⟨rfl, _, .inl (.inl hc3)⟩, .int x, rfl, .int n, rfl, x, n, rfl, rfl, ⟨by omega, by omega⟩, c, _, _, rfl, rfl, hc3, ?_, ?_⟩
          · rw [List.length_map]
            exact Nat.lt_of_lt_of_le hl' (by decide)
          refine ⟨.int x, rfl, .int n, rfl, x, n, rfl, rfl, by omega, ?_⟩
          refine q _ _ (Int.emod_nonneg _ (by omega)) (Int.emod_lt_of_pos _ (by omega)) (fun b o h1 h2 e => ?_) ⟨l ++ [x.fdiv n], sd, ?_, ?_, hs0, hs1, ?_, ?_⟩
          · rw [upd_ne h2]
            exact bt3 b o h1 h2 e
          · rw [upd_ne ndc.symm]
            exact hd3
          · rw [upd_same, List.map_append]
            rfl
          · rw [List.length_append]
            exact hl'
          · intro z hm
            rcases List.mem_append.mp hm with h1 | h1
            · exact hz' z h1
            · rw [List.mem_singleton.mp h1]
              exact PySem.intBits_fdiv_le hx
        · refine ⟨_, rfl, .int x, rfl, 69621, x, rfl, rfl, .of_left (by decide), _, _, rfl, rfl, ?_⟩
          refine ⟨_, _, rfl, ?_, bt3, ⟨l, sd, hd3, hc3, hs0, hs1, by omega, hz'⟩⟩
          have b1 : Builtin.Int.intBits (69621 * x) ≤ 1048650 := Nat.le_trans (PySem.intBits_mul_le (bits_lt (n := 20) (by decide) (by decide)) hx) (by decide)
          exact Nat.le_trans (bits_add (Nat.le_trans bm (by decide)) b1) (by decide)
    · rintro σ' H3 ⟨m, x4, rfl, hm, bt, dk⟩
      have T3 : Builtin.Int.intBits (48271 * ((t + 1 : Nat) : Int)) ≤ 100 := bits_lt (by omega) (by omega)
      have T4 : Builtin.Int.intBits (m + 48271 * ((t + 1 : Nat) : Int)) ≤ 1048701 := bits_add hm (Nat.le_trans T3 (by decide))
      refine ⟨.int m, rfl, .int m, rfl, .int ((t + 1 : Nat) : Int), rfl, 48271, ((t + 1 : Nat) : Int), rfl, rfl, .of_left (by decide), ?_⟩
      refine ⟨m, _, rfl, rfl, m, m + 48271 * ((t + 1 : Nat) : Int), rfl, rfl, .of_le hm T4 (by decide), _, _, rfl, rfl, pos_big, ?_⟩
      have b1 : (0 : Int) ≤ m * (m + 48271 * ((t + 1 : Nat) : Int)) % big := Int.emod_nonneg _ (by decide)
      have b2 : m * (m + 48271 * ((t + 1 : Nat) : Int)) % big < big := Int.emod_lt_of_pos _ (by decide)
      show tSeq _ _ _ [some (.ref d), some (.int n), some (.int ((t + 1 : Nat) : Int)), some (.int (m * (m + 48271 * ((t + 1 : Nat) : Int)) % big)), x4] _
      generalize m * (m + 48271 * ((t + 1 : Nat) : Int)) % big = r at b1 b2
      have b3 : Builtin.Int.intBits r ≤ 127 := bits_lt b1 (Int.lt_of_lt_of_le b2 (by decide))
      refine ⟨.int r, rfl, .int r, rfl, r, r, rfl, rfl, .of_le b3 b3 (by decide), .int ((t + 1 : Nat) : Int), rfl, 104729, ((t + 1 : Nat) : Int), rfl, rfl, .of_left (by decide), _, _, rfl, rfl, _, _, rfl, rfl, pos_big, ?_⟩
      refine ⟨_, rfl, _, 1048576, rfl, rfl, ⟨by decide, by decide⟩, .int n, rfl, _, n, rfl, rfl, by omega, ?_⟩
      exact q _ _ (Int.emod_nonneg _ (by omega)) (Int.emod_lt_of_pos _ (by omega)) bt dk

theorem ok_deck {f : Addr} {fd : FuncData} (D : DefAt K mg "_law_deck" ["_law_script"] s_l_deck f fd) (M : Bi mg) :
    Cal P w K mg base L2.CX0 1 "_law_deck" ["_law_script"] (spDeck K) := by
  have S := S_l_deck
  refine cal_of D.fn D.mgf D.bs D.kbs S (fun vs H Q E h => ?_) (fun cdv A outer s H vs Q E hq hr h => ?_)
  · obtain ⟨a, ns, rfl, _⟩ := h
    rfl
  · obtain ⟨a, ns, rfl, hs, hl, hb, q⟩ := h
    refine ⟨_, (pss_cons (ps_set (i := 1) S.nd rfl (.inl rfl) (pe_callTy call_list_of (by rfl) M.list_ (by decide +kernel) (pa_cons (pe_slice sl_list (pv 0) po_none (po_some pe_int)) pa_nil)))
 (pss_cons (ps_set (i := 2) S.nd rfl (.inl rfl) (pe_op op_add pe_int (pe_callB call_len_seq (by rfl) M.len_ (by decide +kernel) (pa_cons (pv 1) pa_nil))))
 (pss_cons (ps_for PassesOwn.never rfl (pi_list (pv 1)) (pg_name (i := 3) S.nd rfl (.inl rfl))
  (pss_one (ps_set (i := 2) S.nd rfl (.inl rfl) (pe_op op_mod (pe_op op_add (pe_op op_mulB (pv 2) pe_int) (pv 3)) pe_int))))
 (pss_one (ps_ret (pe_disp (pps_cons pe_str (pe_revL (pv 1)) (pps_cons pe_str (pv 2) (pps_cons pe_str pe_int pps_nil))) (by rfl) (by rfl) (fun z => by cases z) (by decide))))))), ?_⟩
    -- list(script[:63])
    refine ⟨.ref a, rfl, 63, rfl, a, _, rfl, hs, fun p np => ?_⟩
    have e63 : cutV (ns.map V.int) none (some 63) = ns.map V.int := by
      unfold cutV
      rw [HT.sIx_none, show HT.sIx (ns.map V.int).length (ns.map V.int).length (some 63) = min 63 (ns.map V.int).length from HT.sIx_nat _ _ 63]
      rw [List.length_map, Nat.min_eq_right hl]
      exact List.take_of_length_le (by rw [List.drop_zero, List.length_map]; exact Nat.le_refl _)
    rw [e63]
    refine ⟨p, _, rfl, .inl (.inl (.inl upd_same)), fun l nl => ?_⟩
    have s1 := same_new (o := .lst (ns.map V.int)) np
    have s2 := s1.trans (same_new (o := .lst (ns.map V.int)) nl)
    have el : (upd (upd H p (.lst (ns.map V.int))) l (.lst (ns.map V.int))) l = some (.lst (ns.map V.int)) := upd_same
    have fl : H l = none := s1.free nl
    revert s2 el
    show _ → _ → tSeq _ _ _ _ (upd (upd H p (.lst (ns.map V.int))) l (.lst (ns.map V.int)))
    generalize upd (upd H p (.lst (ns.map V.int))) l (.lst (ns.map V.int)) = H1
    intro s2 el
    -- the seed
    refine ⟨.ref l, rfl, l, _, rfl, .inl (.inl (.inl el)), 104729, _, rfl, rfl, ?_⟩
    have hlen : (ns.map V.int).length = ns.length := List.length_map _
    rw [hlen]
    refine ⟨.ref l, rfl, l, rfl, ⟨_, .inl (.inl el)⟩, for_list (xs := ns.map V.int)
      (fun i σ H' => H' = H1 ∧ ∃ (sd : Int) (x : Option V), σ = [some (.ref a), some (.ref l), some (.int sd), x] ∧ 0 ≤ sd ∧ sd < big) ?_ ?_ ?_ ?_⟩
    · exact ⟨rfl, 104729 + (ns.length : Int), none, rfl, by omega, by
        show (104729 : Int) + _ < 170141183460469231731687303715884105727
        omega⟩
    · rintro i σ H' _ ⟨rfl, _⟩
      exact .inl (.inl el)
    · rintro i x σ H' hx ⟨rfl, sd, y, rfl, h0, h1⟩
      rw [List.getElem?_map] at hx
      cases hz : ns[i]? with
      | none =>
        rw [hz] at hx
        cases hx
      | some z =>
        rw [hz] at hx
        obtain rfl : V.int z = x := Option.some.inj hx
        have bz := hb z (List.mem_of_getElem? hz)
        refine ⟨_, rfl, sd, 1000003, rfl, rfl, .of_right (by decide), _, rfl, _, _, rfl, rfl, _, _, rfl, rfl, pos_big, rfl, _, _, rfl, ?_, ?_⟩
        · exact Int.emod_nonneg _ (by decide)
        · exact Int.emod_lt_of_pos _ (by decide)
    · rintro σ H' ⟨rfl, sd, y, rfl, h0, h1⟩
      -- the dict
      intro r nr
      have npr : l ≠ r := ne_of_none el nr
      have el2 : (upd H' r (.dK [])) l = some (.lst (ns.map V.int)) := by
        rw [upd_ne npr]
        exact el
      refine ⟨.ref l, rfl, l, _, rfl, .inl (.inl el2), fun c nc => ?_⟩
      have ncr : r ≠ c := fun z => by
        rw [← z, upd_same] at nc
        cases nc
      refine ⟨_, rfl, ?_⟩
      refine ⟨by rw [upd_ne ncr, upd_same], deckKv c sd 0, rfl, by show 3 ≤ 15; decide, ?_⟩
      have fc : H' c = none := by
        rw [upd_ne (fun z => ncr z.symm)] at nc
        exact nc
      have fr : H r = none := s2.free nr
      have fc2 : H c = none := s2.free fc
      refine q r c _ ?_ fr fc2 ⟨ns.reverse, sd, ?_, ?_, h0, h1, ?_, ?_⟩
      · exact same_mut (same_mut (same_mut s2 fr) fc2) fr
      · exact upd_same
      · rw [upd_ne ncr.symm, upd_same, List.map_reverse]
      · rw [List.length_reverse]
        exact hl
      · intro z hz
        exact hb z (List.mem_reverse.mp hz)
theorem ok_pick {f : Addr} {fd : FuncData} (D : DefAt K mg "_law_pick" ["_law_deck_here", "_law_some"] s_l_pick f fd) (M : Bi mg)
    (C_l_draw : Cal P w K mg base L2.CX0 1 "_law_draw" ["_law_deck_here", "_law_sides"] spDraw) :
    Cal P w K mg base L2.CX0 2 "_law_pick" ["_law_deck_here", "_law_some"] (spPick K) := by
  have S := S_l_pick
  refine cal_of D.fn D.mgf D.bs D.kbs S (fun vs H Q E h => ?_) (fun cdv A outer s H vs Q E hq hr h => ?_)
  · obtain ⟨d, c, t, v, xs, rfl, _⟩ := h
    rfl
  · obtain ⟨d, c, t, v, xs, rfl, hs, h1, h2, n1, n2, dk, ht, q⟩ := h
    refine ⟨_, (pss_one (ps_ret (pe_ix ix_seq (pv 1) (pe_c C_l_draw pass0 hq hr (by omega) (by rfl) (pa_cons (pv 0) (pa_cons (pe_callB call_len (by rfl) M.len_ (by decide +kernel) (pa_cons (pv 1) pa_nil)) pa_nil))) (fun _ _ => rfl)))), ?_⟩
    refine ⟨v, rfl, .ref d, rfl, v, rfl, v, _, rfl, hs.lenV, d, c, _, t, rfl, by omega, by omega, dk, ht, fun r H' r0 r1 bt dk' => ?_⟩
    obtain ⟨y, e1, e2⟩ := atI_lt r0 r1 rfl
    exact (bt.sq n1 n2 hs).item e1 (q _ y H' e2 bt dk')

end
/-! ### data of tuples; the reader as a function -/
inductive Td
  | str (z : Str)
  | int (i : Int)
  | tup (xs : List Td)
inductive TdR (H : Hp) : Td → V → Prop
  | str (z : Str) : TdR H (.str z) (.str z)
  | int (i : Int) : TdR H (.int i) (.int i)
  | tup {p : Addr} {xs : List Td} {vs : List V} (h : H p = some (.tup vs)) (hl : xs.length = vs.length)
      (ha : ∀ (i : Nat) x v, xs[i]? = some x → vs[i]? = some v → TdR H x v) : TdR H (.tup xs) (.ref p)
theorem TdR.keep {H H' : Hp} {t : Td} {v : V} (h : TdR H t v) (k : ∀ p vs, H p = some (.tup vs) → H' p = some (.tup vs)) : TdR H' t v := by
  induction h with
  | str z => exact .str z
  | int i => exact .int i
  | tup e hl ha ih => exact .tup (k _ _ e) hl ih
def All2 (H : Hp) (ts : List Td) (vs : List V) : Prop := ts.length = vs.length ∧ ∀ (i : Nat) x v, ts[i]? = some x → vs[i]? = some v → TdR H x v
theorem All2.nil {H : Hp} : All2 H [] [] := ⟨rfl, fun i x v h => by cases h⟩
theorem All2.cons {H : Hp} {t : Td} {v : V} {ts : List Td} {vs : List V} (h : TdR H t v) (hs : All2 H ts vs) : All2 H (t :: ts) (v :: vs) := by
  refine ⟨by rw [List.length_cons, List.length_cons, hs.1], fun i x u h1 h2 => ?_⟩
  cases i with
  | zero =>
    cases h1
    cases h2
    exact h
  | succ i => exact hs.2 i x u h1 h2
theorem All2.snoc {H : Hp} {t : Td} {v : V} : ∀ {ts : List Td} {vs : List V}, All2 H ts vs → TdR H t v → All2 H (ts ++ [t]) (vs ++ [v])
  | [], [], _, h => .cons h .nil
  | [], _ :: _, hs, _ => absurd hs.1 (by simp)
  | _ :: _, [], hs, _ => absurd hs.1 (by simp)
  | a :: ts, b :: vs, hs, h => .cons (hs.2 0 _ _ rfl rfl) (All2.snoc ⟨Nat.succ.inj hs.1, fun i x u h1 h2 => hs.2 (i + 1) x u h1 h2⟩ h)
theorem All2.keep {H H' : Hp} {ts : List Td} {vs : List V} (h : All2 H ts vs) (k : ∀ p vs, H p = some (.tup vs) → H' p = some (.tup vs)) : All2 H' ts vs :=
  ⟨h.1, fun i x v h1 h2 => (h.2 i x v h1 h2).keep k⟩
theorem TdR.mk {H : Hp} {p : Addr} {ts : List Td} {vs : List V} (h : H p = some (.tup vs)) (a : All2 H ts vs) : TdR H (.tup ts) (.ref p) := .tup h a.1 a.2
theorem TdR.inv_tup {H : Hp} {ts : List Td} {v : V} (h : TdR H (.tup ts) v) : ∃ a vs, v = .ref a ∧ H a = some (.tup vs) ∧ All2 H ts vs := by
  cases h with
  | tup e hl ha => exact ⟨_, _, rfl, e, hl, ha⟩
theorem TdR.inv_str {H : Hp} {z : Str} {v : V} (h : TdR H (.str z) v) : v = .str z := by
  cases h
  rfl
theorem TdR.inv_int {H : Hp} {i : Int} {v : V} (h : TdR H (.int i) v) : v = .int i := by
  cases h
  rfl
theorem All2.inv_cons {H : Hp} {t : Td} {ts : List Td} {vs : List V} (h : All2 H (t :: ts) vs) : ∃ v vs', vs = v :: vs' ∧ TdR H t v ∧ All2 H ts vs' := by
  cases vs with
  | nil => exact absurd h.1 (by simp)
  | cons v vs => exact ⟨v, vs, rfl, h.2 0 _ _ rfl rfl, Nat.succ.inj h.1, fun i x u h1 h2 => h.2 (i + 1) x u h1 h2⟩
theorem All2.inv_nil {H : Hp} {vs : List V} (h : All2 H [] vs) : vs = [] := by
  cases vs with
  | nil => rfl
  | cons v vs => exact absurd h.1 (by simp)
theorem All2.same {H H' : Hp} {ts : List Td} {vs : List V} (h : All2 H ts vs) (s : Same H H') : All2 H' ts vs := h.keep fun p vs e => s p _ e
theorem TdR.same {H H' : Hp} {t : Td} {v : V} (h : TdR H t v) (s : Same H H') : TdR H' t v := h.keep fun p vs e => s p _ e
mutual
def pd : Td → PyData
  | .str z => .str z
  | .int i => .int i
  | .tup xs => .tuple (pdL xs)
def pdL : List Td → List PyData
  | [] => []
  | x :: xs => pd x :: pdL xs
end
theorem dpall {K : PySem.W.Frag} {H : Hp} : ∀ (xs : List Td) (vs : List V), xs.length = vs.length → (∀ (i : Nat) x v, xs[i]? = some x → vs[i]? = some v → Dp K H v (pd x)) → DpAll K H vs (pdL xs)
  | [], [], _, _ => by
    rw [pdL]
    exact .nil
  | [], _ :: _, h, _ => by cases h
  | _ :: _, [], h, _ => by cases h
  | x :: xs, v :: vs, h, ha => by
    rw [pdL]
    exact .cons (ha 0 x v rfl rfl) (dpall xs vs (Nat.succ.inj h) fun i y u h1 h2 => ha (i + 1) y u h1 h2)
theorem dp_of {K : PySem.W.Frag} {H : Hp} {t : Td} {v : V} (h : TdR H t v) : Dp K H v (pd t) := by
  induction h with
  | str z =>
    rw [pd]
    exact .str z
  | int i =>
    rw [pd]
    exact .int i
  | tup e hl ha ih =>
    rw [pd]
    exact .tup (.inl (.inl e)) (dpall _ _ hl ih)

end K80

namespace K80
open PySem PySem.Spec PyProof.Rows L2 Kit
/-! ### gates -/
inductive Gt
  | inp (x : Str) (k : Int)
  | iz (b : Int)
  | box (c : Str) (b : Int) (d : Nat)
  | nt (a : Nat)
  | two (w : Str) (a c : Nat)
def Gt.td : Gt → Td
  | .inp x k => .tup [.str "in", .str x, .int k]
  | .iz b => .tup [.str "is", .int b]
  | .box c b d => .tup [.str "box", .str c, .int b, .int d]
  | .nt a => .tup [.str "not", .int a]
  | .two w a c => .tup [.str w, .int a, .int c]
def Gt.vs : Gt → List V
  | .inp x k => [.str "in", .str x, .int k]
  | .iz b => [.str "is", .int b]
  | .box c b d => [.str "box", .str c, .int b, .int d]
  | .nt a => [.str "not", .int a]
  | .two w a c => [.str w, .int a, .int c]
def Gt.feeds : Gt → List Nat
  | .inp _ _ => []
  | .iz _ => []
  | .box _ _ d => [d]
  | .nt a => [a]
  | .two _ a c => [a, c]
def Gt.fed : Gt → Bool
  | .nt _ => true
  | .two _ _ _ => true
  | _ => false
def Gt.ok (n i : Nat) : Gt → Prop
  | .box _ _ d => d < n
  | .nt a => a < i
  | .two w a c => (w = "and" ∨ w = "or" ∨ w = "xor") ∧ a < i ∧ c < i
  | _ => True
def intsT (ns : List Nat) : Td := .tup (ns.map fun (k : Nat) => Td.int (k : Int))
theorem gt_at {H : Hp} {g : Gt} {v : V} (h : TdR H g.td v) : ∃ a, v = .ref a ∧ H a = some (.tup g.vs) := by
  have two : ∀ {x y : Td} {v : V}, TdR H (.tup [x, y]) v → ∃ a u w, v = .ref a ∧ H a = some (.tup [u, w]) ∧ TdR H x u ∧ TdR H y w := by
    intro x y v h
    obtain ⟨a, vs, rfl, e, al⟩ := h.inv_tup
    obtain ⟨u, vs, rfl, hu, al⟩ := al.inv_cons
    obtain ⟨w, vs, rfl, hw, al⟩ := al.inv_cons
    obtain rfl := al.inv_nil
    exact ⟨a, u, w, rfl, e, hu, hw⟩
  have tre : ∀ {x y z : Td} {v : V}, TdR H (.tup [x, y, z]) v → ∃ a u w t, v = .ref a ∧ H a = some (.tup [u, w, t]) ∧ TdR H x u ∧ TdR H y w ∧ TdR H z t := by
    intro x y z v h
    obtain ⟨a, vs, rfl, e, al⟩ := h.inv_tup
    obtain ⟨u, vs, rfl, hu, al⟩ := al.inv_cons
    obtain ⟨w, vs, rfl, hw, al⟩ := al.inv_cons
    obtain ⟨t, vs, rfl, ht, al⟩ := al.inv_cons
    obtain rfl := al.inv_nil
    exact ⟨a, u, w, t, rfl, e, hu, hw, ht⟩
  cases g with
  | inp x k =>
    obtain ⟨a, u, w, t, rfl, e, h1, h2, h3⟩ := tre h
    obtain rfl := h1.inv_str
    obtain rfl := h2.inv_str
    obtain rfl := h3.inv_int
    exact ⟨a, rfl, e⟩
  | iz b =>
    obtain ⟨a, u, w, rfl, e, h1, h2⟩ := two h
    obtain rfl := h1.inv_str
    obtain rfl := h2.inv_int
    exact ⟨a, rfl, e⟩
  | box c b d =>
    obtain ⟨a, vs, rfl, e, al⟩ := h.inv_tup
    obtain ⟨u, vs, rfl, h1, al⟩ := al.inv_cons
    obtain ⟨w, vs, rfl, h2, al⟩ := al.inv_cons
    obtain ⟨t, vs, rfl, h3, al⟩ := al.inv_cons
    obtain ⟨s, vs, rfl, h4, al⟩ := al.inv_cons
    obtain rfl := al.inv_nil
    obtain rfl := h1.inv_str
    obtain rfl := h2.inv_str
    obtain rfl := h3.inv_int
    obtain rfl := h4.inv_int
    exact ⟨a, rfl, e⟩
  | nt b =>
    obtain ⟨a, u, w, rfl, e, h1, h2⟩ := two h
    obtain rfl := h1.inv_str
    obtain rfl := h2.inv_int
    exact ⟨a, rfl, e⟩
  | two y b c =>
    obtain ⟨a, u, w, t, rfl, e, h1, h2, h3⟩ := tre h
    obtain rfl := h1.inv_str
    obtain rfl := h2.inv_int
    obtain rfl := h3.inv_int
    exact ⟨a, rfl, e⟩
theorem ite_str {a b : Str} {A B : Prop} (h1 : a = b → A) (h2 : a ≠ b → B) : if decide (V.str a = V.str b) = true then A else B := by
  by_cases h : a = b
  · rw [decide_eq_true (by rw [h])]
    exact iteT (h1 h)
  · rw [decide_eq_false fun z => h (V.str.inj z)]
    exact iteF (h2 h)
theorem ite_in {c x : Bool} {A B : Prop} (e : x = c) (h : if c = true then A else B) : if (if false = true then !x else x) = true then A else B := by
  rw [if_neg Bool.false_ne_true, e]
  exact h
theorem intsT_nil {H : Hp} {p : Addr} (h : H p = some (.tup [])) : TdR H (intsT []) (.ref p) := .mk h .nil
theorem intsT_one {H : Hp} {p : Addr} {k : Nat} (h : H p = some (.tup [.int (k : Int)])) : TdR H (intsT [k]) (.ref p) := .mk h (.cons (.int _) .nil)
theorem intsT_two {H : Hp} {p : Addr} {k j : Nat} (h : H p = some (.tup [.int (k : Int), .int (j : Int)])) : TdR H (intsT [k, j]) (.ref p) := .mk h (.cons (.int _) (.cons (.int _) .nil))
structure Tp (K : PySem.W.Frag) (mg : Str → Option Value) (cF cD : Addr) : Prop where
  c_FED : ∃ u, mg "FED" = some u ∧ RelV (.ref cF) u
  d_FED : ∀ H, SqT K H cF [.str "not", .str "and", .str "or", .str "xor"]
  c_DELAYS : ∃ u, mg "DELAYS" = some u ∧ RelV (.ref cD) u
  d_DELAYS : ∀ H, SqT K H cD [.int 1, .int 2, .int 3]
def spFeeds : Sp := fun vs H Q _ => ∃ (v : V) (g : Gt) (n i : Nat), vs = [v] ∧ TdR H g.td v ∧ g.ok n i ∧ ∀ w H', Same H H' → TdR H' (intsT g.feeds) w → Q w H'
section
variable {P : Program} {w : World} {K : PySem.W.Frag} {mg : Str → Option Value} {base : Heap} {cF cD : Addr}
theorem ok_feeds {f : Addr} {fd : FuncData} (D : DefAt K mg "feeds_of" ["gate"] s_feeds_of f fd) (T : Tp K mg cF cD) : Cal P w K mg base L2.CX0 1 "feeds_of" ["gate"] spFeeds := by
  have S := S_feeds_of
  refine cal_of D.fn D.mgf D.bs D.kbs S (fun vs H Q E h => ?_) (fun cdv A outer s H vs Q E hq hr h => ?_)
  · obtain ⟨v, g, n, i, rfl, _⟩ := h
    rfl
  · obtain ⟨v, g, n, i, rfl, hg, hok, q⟩ := h
    obtain ⟨a, rfl, ea⟩ := gt_at hg
    refine ⟨_, (pss_cons (ps_if (pt_cmpR op_eq (pe_ix ix_tup (pv 0) pe_int (fun _ _ => rfl)) pe_str (nomark _))
  (pss_one (ps_ret (pe_tup (pa_cons (pe_ix ix_tup (pv 0) pe_int (fun _ _ => rfl)) pa_nil))))
  pss_nil)
 (pss_one (ps_ret (pe_ifExp (pt_cmpR op_in_seq (pe_ix ix_tup (pv 0) pe_int (fun _ _ => rfl)) (C8.pe_gc (by rfl) T.c_FED) rfl) (pe_slice sl_tup (pv 0) (po_some pe_int) po_none) (pe_tup pa_nil))))), ?_⟩
    cases g with
    | inp x k =>
      refine ⟨.ref a, rfl, a, _, _, _, rfl, rfl, .inl (.inl ea), atI_nat (j := 0) rfl, rfl, _, rfl, ite_str (fun z => absurd z (by decide +kernel)) fun _ => ?_⟩
      refine ⟨.ref a, rfl, a, _, _, _, rfl, rfl, .inl (.inl ea), atI_nat (j := 0) rfl, cF, _, rfl, .inr (T.d_FED H), rfl, rfl, _, rfl, ?_⟩
      dsimp only
      refine ite_in (c := false) (by decide +kernel) (iteF ?_)
      exact ⟨Nat.zero_le _, fun p np => q _ _ (same_new np) (intsT_nil upd_same)⟩
    | iz b =>
      refine ⟨.ref a, rfl, a, _, _, _, rfl, rfl, .inl (.inl ea), atI_nat (j := 0) rfl, rfl, _, rfl, ite_str (fun z => absurd z (by decide +kernel)) fun _ => ?_⟩
      refine ⟨.ref a, rfl, a, _, _, _, rfl, rfl, .inl (.inl ea), atI_nat (j := 0) rfl, cF, _, rfl, .inr (T.d_FED H), rfl, rfl, _, rfl, ?_⟩
      dsimp only
      refine ite_in (c := false) (by decide +kernel) (iteF ?_)
      exact ⟨Nat.zero_le _, fun p np => q _ _ (same_new np) (intsT_nil upd_same)⟩
    | box c b d =>
      refine ⟨.ref a, rfl, a, _, _, _, rfl, rfl, .inl (.inl ea), atI_nat (j := 0) rfl, rfl, _, rfl, ite_str (fun _ => ?_) fun z => absurd rfl z⟩
      exact ⟨.ref a, rfl, a, _, _, _, rfl, rfl, .inl (.inl ea), atI_nat (j := 3) rfl, by show 1 ≤ sizeLine; decide, fun p np => q _ _ (same_new np) (intsT_one upd_same)⟩
    | nt b =>
      refine ⟨.ref a, rfl, a, _, _, _, rfl, rfl, .inl (.inl ea), atI_nat (j := 0) rfl, rfl, _, rfl, ite_str (fun z => absurd z (by decide +kernel)) fun _ => ?_⟩
      refine ⟨.ref a, rfl, a, _, _, _, rfl, rfl, .inl (.inl ea), atI_nat (j := 0) rfl, cF, _, rfl, .inr (T.d_FED H), rfl, rfl, _, rfl, ?_⟩
      dsimp only
      refine ite_in (c := true) (by decide +kernel) (iteT ?_)
      refine ⟨.ref a, rfl, 1, rfl, a, _, rfl, .inl (.inl ea), (by show ¬ (HT.sIx 2 0 (some 1) = 0 ∧ HT.sIx 2 2 none = 2); decide), fun p np => ?_⟩
      exact q _ _ (same_new np) (intsT_one upd_same)
    | two y b c =>
      obtain ⟨rfl | rfl | rfl, _, _⟩ := hok
      · refine ⟨.ref a, rfl, a, _, _, _, rfl, rfl, .inl (.inl ea), atI_nat (j := 0) rfl, rfl, _, rfl, ite_str (fun z => absurd z (by decide +kernel)) fun _ => ?_⟩
        refine ⟨.ref a, rfl, a, _, _, _, rfl, rfl, .inl (.inl ea), atI_nat (j := 0) rfl, cF, _, rfl, .inr (T.d_FED H), rfl, rfl, _, rfl, ?_⟩
        dsimp only
        refine ite_in (c := true) (by decide +kernel) (iteT ?_)
        refine ⟨.ref a, rfl, 1, rfl, a, _, rfl, .inl (.inl ea), (by show ¬ (HT.sIx 3 0 (some 1) = 0 ∧ HT.sIx 3 3 none = 3); decide), fun p np => ?_⟩
        exact q _ _ (same_new np) (intsT_two upd_same)
      · refine ⟨.ref a, rfl, a, _, _, _, rfl, rfl, .inl (.inl ea), atI_nat (j := 0) rfl, rfl, _, rfl, ite_str (fun z => absurd z (by decide +kernel)) fun _ => ?_⟩
        refine ⟨.ref a, rfl, a, _, _, _, rfl, rfl, .inl (.inl ea), atI_nat (j := 0) rfl, cF, _, rfl, .inr (T.d_FED H), rfl, rfl, _, rfl, ?_⟩
        dsimp only
        refine ite_in (c := true) (by decide +kernel) (iteT ?_)
        refine ⟨.ref a, rfl, 1, rfl, a, _, rfl, .inl (.inl ea), (by show ¬ (HT.sIx 3 0 (some 1) = 0 ∧ HT.sIx 3 3 none = 3); decide), fun p np => ?_⟩
        exact q _ _ (same_new np) (intsT_two upd_same)
      · refine ⟨.ref a, rfl, a, _, _, _, rfl, rfl, .inl (.inl ea), atI_nat (j := 0) rfl, rfl, _, rfl, ite_str (fun z => absurd z (by decide +kernel)) fun _ => ?_⟩
        refine ⟨.ref a, rfl, a, _, _, _, rfl, rfl, .inl (.inl ea), atI_nat (j := 0) rfl, cF, _, rfl, .inr (T.d_FED H), rfl, rfl, _, rfl, ?_⟩
        dsimp only
        refine ite_in (c := true) (by decide +kernel) (iteT ?_)
        refine ⟨.ref a, rfl, 1, rfl, a, _, rfl, .inl (.inl ea), (by show ¬ (HT.sIx 3 0 (some 1) = 0 ∧ HT.sIx 3 3 none = 3); decide), fun p np => ?_⟩
        exact q _ _ (same_new np) (intsT_two upd_same)
end
end K80

namespace K80
open PySem PySem.Spec PyProof.Rows L2 Kit
def rLen1 (K : PySem.W.Frag) : List V → Hp → VK → Prop := fun xs H Q => ∃ p ys, xs = [.ref p] ∧ (SqL K H p ys ∨ SqT K H p ys) ∧ Q (.int ys.length) H
/-! ### what feeds bring -/
def bro (arr : List Int) (fs ls : List Nat) (step : Int) : List (Int × Int) := List.zipWith (fun (f l : Nat) => (arr.getD f 0 + step * ((l : Int) - 1), (f : Int))) fs ls
abbrev Way := List (Int × Int)
def cellT (c : Int × Int) : Td := .tup [.int c.1, .int c.2]
def wayT (w : Way) : Td := .tup (w.map cellT)
def waysT (wl : List (List Way)) : Td := .tup (wl.map fun ws => .tup (ws.map wayT))
def gatesT (gs : List Gt) : Td := .tup (gs.map Gt.td)
def lens (ws : List Way) : List Nat := ws.map (·.length)
theorem sq_same {K : PySem.W.Frag} {H H1 : Hp} {v : V} {xs : List V} (e : Sq K H v xs) (h : Same H H1) : Sq K H1 v xs := by
  cases e with
  | lst e =>
    rcases e with (e | ⟨o, e⟩) | e
    · exact .lst (.inl (.inl (h _ _ e)))
    · exact .lst (.inl (.inr ⟨o, h _ _ e⟩))
    · exact .lst (.inr e)
  | tup e =>
    rcases e with (e | ⟨o, e⟩) | e
    · exact .tup (.inl (.inl (h _ _ e)))
    · exact .tup (.inl (.inr ⟨o, h _ _ e⟩))
    · exact .tup (.inr e)
  | str e => exact .str e
theorem none_back {H H1 : Hp} {p : Addr} (s : Same H H1) (h : H1 p = none) : H p = none := by
  cases e : H p with
  | none => rfl
  | some o =>
    rw [s p o e] at h
    cases h
theorem arr_at {arr : List Int} {i : Nat} (h : i < arr.length) : (arr.map V.int)[i]? = some (.int (arr.getD i 0)) := by
  rw [List.getElem?_map, List.getElem?_eq_getElem h, List.getD_eq_getElem?_getD, List.getElem?_eq_getElem h]
  rfl
theorem mul_ok {s : Int} {n m : Nat} {e : n = m} (s0 : 0 ≤ s) (s1 : s ≤ 100000) : IntMulOk s ((n : Int) - 1) :=
  .of_left (intBits_le_64 (by omega) (by omega))
theorem Gt.feeds_le (g : Gt) : g.feeds.length ≤ 2 := by
  cases g <;> simp [Gt.feeds]
theorem all2_get {H : Hp} {ts : List Td} {vs : List V} {i : Nat} {t : Td} (h : All2 H ts vs) (e : ts[i]? = some t) : ∃ v, vs[i]? = some v ∧ TdR H t v := by
  have hi : i < vs.length := by
    rw [← h.1]
    exact (List.getElem?_eq_some_iff.mp e).1
  exact ⟨vs[i], List.getElem?_eq_getElem hi, h.2 i t _ e (List.getElem?_eq_getElem hi)⟩
theorem all2_ints {H : Hp} : ∀ {ns : List Nat} {vs : List V}, All2 H (ns.map fun (k : Nat) => Td.int (k : Int)) vs → vs = ns.map fun (k : Nat) => V.int (k : Int)
  | [], vs, h => h.inv_nil
  | n :: ns, vs, h => by
    obtain ⟨v, vs', rfl, h1, h2⟩ := h.inv_cons
    rw [h1.inv_int, all2_ints h2]
    rfl
/-- a sound net with its laying -/
structure Okl (gs : List Gt) (wl : List (List Way)) : Prop where
  gate : ∀ (i : Nat) (g : Gt), gs[i]? = some g → g.ok gs.length i
  many : wl.length = gs.length
  ways : ∀ (i : Nat) (g : Gt) (ws : List Way), gs[i]? = some g → wl[i]? = some ws → ws.length = g.feeds.length ∧ ∀ w ∈ ws, 1 ≤ w.length ∧ w.length ≤ 1000
theorem Okl.at {gs : List Gt} {wl : List (List Way)} (h : Okl gs wl) {i : Nat} {g : Gt} (e : gs[i]? = some g) : ∃ ws, wl[i]? = some ws ∧ ws.length = g.feeds.length ∧ ∀ w ∈ ws, 1 ≤ w.length ∧ w.length ≤ 1000 := by
  have hi : i < wl.length := by
    rw [h.many]
    exact (List.getElem?_eq_some_iff.mp e).1
  exact ⟨wl[i], List.getElem?_eq_getElem hi, h.ways i g _ e (List.getElem?_eq_getElem hi)⟩
def spBro (K : PySem.W.Frag) : Sp := fun vs H Q _ => ∃ (va vg vw : V) (arr : List Int) (gs : List Gt) (wl : List (List Way)) (g : Nat) (gt : Gt) (ws : List Way) (step : Int),
  vs = [va, vg, vw, .int (g : Int), .int step] ∧ Sq K H va (arr.map V.int) ∧ TdR H (gatesT gs) vg ∧ TdR H (waysT wl) vw ∧ Okl gs wl ∧ gs[g]? = some gt ∧ wl[g]? = some ws ∧ (∀ f ∈ gt.feeds, f < arr.length) ∧ 0 ≤ step ∧ step ≤ 100000 ∧
  ∀ (p : Addr) (rs : List Addr) (H' : Hp), Same H H' → H p = none → H' p = some (.lst (rs.map V.ref)) → rs.length = (bro arr gt.feeds (lens ws) step).length →
    (∀ (i : Nat) (r : Addr) (pr : Int × Int), rs[i]? = some r → (bro arr gt.feeds (lens ws) step)[i]? = some pr → H' r = some (.tup [.int pr.1, .int pr.2])) → Q (.ref p) H'
section
variable {P : Program} {w : World} {K : PySem.W.Frag} {mg : Str → Option Value} {base : Heap} {cF cD : Addr}
theorem ok_bro {f : Addr} {fd : FuncData} (D : DefAt K mg "brought" ["arrivals", "gates", "ways", "g", "step"] s_brought f fd) (M : Bi mg)
    (C_feeds_of : Cal P w K mg base L2.CX0 1 "feeds_of" ["gate"] spFeeds) : Cal P w K mg base L2.CX0 2 "brought" ["arrivals", "gates", "ways", "g", "step"] (spBro K) := by
  have S := S_brought
  refine cal_of D.fn D.mgf D.bs D.kbs S (fun vs H Q E h => ?_) (fun cdv A outer s H vs Q E hq hr h => ?_)
  · obtain ⟨va, vg, vw, arr, gs, wl, g, gt, ws, step, rfl, _⟩ := h
    rfl
  · obtain ⟨va, vg, vw, arr, gs, wl, g, gt, ws, step, rfl, ha, hg, hw, ok, eg, ew, hf, s0, s1, q⟩ := h
    refine ⟨_, (pss_one (ps_ret (pe_lc (own := [("feed", 5), ("way", 6)]) (g := (gTup K 2 (gCons (gName 5) (gCons (gName 6) gNil)))) (tt := tYes) (te := (tTup (tCons (tOp (rI0 fun i j => .int (i + j)) (tOp (rIx K) (tVar 0) (tVar 5)) (tOp (rI IntMulOk fun i j => .int (i * j)) (tVar 4) (tOp (rI0 fun i j => .int (i - j)) (tCB (rLen1 K) (tCons (tVar 6) tNil)) (tC (.int 1))))) (tCons (tVar 5) tNil)))) rfl S.nd (RZ.pi_zipA (by rfl) M.zip_ (pa_cons (pe_c C_feeds_of pass0 hq hr (by omega) (by rfl) (pa_cons (pe_ix ix_tup (pv 1) (pv 3) (fun _ _ => rfl)) pa_nil)) (pa_cons (pe_ix ix_tup (pv 2) (pv 3) (fun _ _ => rfl)) pa_nil))) (blkOk_by (own := [("feed", 5), ("way", 6)]) (N := N_brought) (sc := defScope s_brought) (by decide +kernel)) (fun _ _ _ _ _ => (pg_tup (by rfl) (pgs_cons (pg_name (i := 5) S.nd rfl (.inl rfl)) (pgs_cons (pg_name (i := 6) S.nd rfl (.inl rfl)) pgs_nil)))) (fun _ _ _ _ _ => pts_nil) (fun _ _ _ _ _ => (pe_tup (pa_cons (pe_op op_add (pe_ix ix_seq (pv 0) (pv 5) (fun _ _ => rfl)) (pe_op op_mulB (pv 4) (pe_op op_sub (pe_callB call_len_seq (by rfl) M.len_ (by decide +kernel) (pa_cons (pv 6) pa_nil)) pe_int))) (pa_cons (pv 5) pa_nil))))))), ?_⟩
    obtain ⟨G, gvs, rfl, hG, gal⟩ := hg.inv_tup
    obtain ⟨W, wvs, rfl, hW, wal⟩ := hw.inv_tup
    obtain ⟨gv, egv, tgv⟩ := all2_get gal (i := g) (t := gt.td) (by rw [List.getElem?_map, eg]; rfl)
    obtain ⟨wv, ewv, twv⟩ := all2_get wal (i := g) (t := .tup (ws.map wayT)) (by rw [List.getElem?_map, ew]; rfl)
    refine ⟨.ref G, rfl, .int (g : Int), rfl, G, _, _, _, rfl, rfl, .inl (.inl hG), atI_nat egv, gv, gt, gs.length, g, rfl, tgv, ok.gate g gt eg, fun fv H1 sm1 tf => ?_⟩
    have twv1 := twv.same sm1
    obtain ⟨Wg, cvs, rfl, hWg, cal⟩ := twv1.inv_tup
    obtain ⟨Fg, fvs, rfl, hFg, fal⟩ := tf.inv_tup
    obtain rfl := all2_ints fal
    refine ⟨.ref W, rfl, .int (g : Int), rfl, W, _, _, _, rfl, rfl, .inl (.inl (sm1 _ _ hW)), atI_nat ewv, Fg, Wg, _, _, rfl, .inr ⟨.inl (.inl hFg), .inl (.inl hWg), ?_⟩⟩
    intro D1 nD
    obtain ⟨lw, hws⟩ := ok.ways g gt ws eg ew
    have n1 : gt.feeds.length = (gt.feeds.map fun (k : Nat) => V.int (k : Int)).length := (List.length_map _).symm
    have n2 : gt.feeds.length = cvs.length := by rw [← cal.1, List.length_map, lw]
    have lb : (bro arr gt.feeds (lens ws) step).length = gt.feeds.length := by
      unfold bro lens
      rw [List.length_zipWith, List.length_map, lw, Nat.min_self]
    have nF : Fg ≠ D1 := ne_of_none hFg nD
    have nW : Wg ≠ D1 := ne_of_none hWg nD
    refine lc_it (walk_zipT (K := K) (a := Fg) (b := Wg) n1 n2) (fun i H' => Same H1 H' ∧ ∃ rs : List Addr, H' D1 = some (.lst (rs.map V.ref)) ∧ rs.length = i ∧
      ∀ (j : Nat) (r : Addr) (pr : Int × Int), rs[j]? = some r → (bro arr gt.feeds (lens ws) step)[j]? = some pr → H' r = some (.tup [.int pr.1, .int pr.2])) ?_ ?_ ?_ ?_
    · exact ⟨same_new nD, [], upd_same, rfl, fun j r pr h => by cases h⟩
    · rintro i H' _ ⟨sm, _⟩
      exact ⟨.inl (.inl (sm _ _ hFg)), .inl (.inl (sm _ _ hWg))⟩
    · rintro i x H' H2 hi ⟨sm, rs, eD, lr, hrs⟩ ⟨TT, u, v, rfl, nT, rfl, e1, e2⟩
      have e1' : (gt.feeds.map fun (k : Nat) => V.int (k : Int))[i]? = some u := e1
      rw [List.getElem?_map] at e1'
      obtain ⟨fi, efi, rfl⟩ : ∃ fi : Nat, gt.feeds[i]? = some fi ∧ V.int (fi : Int) = u := by
        cases hfi : gt.feeds[i]? with
        | none =>
          rw [hfi] at e1'
          cases e1'
        | some fi =>
          rw [hfi] at e1'
          exact ⟨fi, rfl, Option.some.inj e1'⟩
      obtain ⟨wi, ewi⟩ : ∃ wi, ws[i]? = some wi := ⟨ws[i]'(by omega), List.getElem?_eq_getElem _⟩
      have twi := cal.2 i (wayT wi) v (by rw [List.getElem?_map, ewi]; rfl) e2
      have smT := sm.trans (same_new (o := .tup [.int (fi : Int), v]) nT)
      obtain ⟨C, cellsV, rfl, hC, cl⟩ := (twi.same smT).inv_tup
      have lenC : cellsV.length = wi.length := by rw [← cl.1, List.length_map]
      obtain ⟨w1, w2⟩ := hws wi (List.mem_of_getElem? ewi)
      have ha2 : Sq K (upd H' TT (.tup [.int (fi : Int), .ref C])) va (arr.map V.int) := sq_same ha (sm1.trans smT)
      have lfi : fi < arr.length := hf fi (List.mem_of_getElem? efi)
      have efa : (arr.map V.int)[fi]? = some (.int (arr.getD fi 0)) := arr_at lfi
      have efl : (bro arr gt.feeds (lens ws) step)[i]? = some (arr.getD fi 0 + step * ((wi.length : Int) - 1), (fi : Int)) := by
        unfold bro lens
        rw [List.getElem?_zipWith, efi, List.getElem?_map, ewi]
        rfl
      have eD1 : upd H' TT (.tup [.int (fi : Int), .ref C]) D1 = some (.lst (rs.map V.ref)) := by
        rw [upd_ne (ne_of_none eD nT)]
        exact eD
      refine ⟨TT, _, rfl, .inl (.inl upd_same), rfl, _, _, rfl, _, _, rfl, rfl, ?_⟩
      refine ⟨rfl, ?_⟩
      unfold tYes
      refine iteT ?_
      refine ⟨va, rfl, .int (fi : Int), rfl, ha2.item (atI_nat efa) ?_⟩
      refine ⟨.int step, rfl, .ref C, rfl, C, cellsV, rfl, .inr (.inl (.inl hC)), _, _, rfl, rfl, _, _, rfl, rfl, mul_ok (e := lenC) s0 s1, _, _, rfl, rfl, ?_⟩
      refine ⟨.int (fi : Int), rfl, show (2 : Nat) ≤ _ by decide, fun T3 n3 => ?_⟩
      have eD2 := upd_ne (o := .tup [.int (arr.getD fi 0 + step * ((cellsV.length : Int) - 1)), .int (fi : Int)]) (H := upd H' TT (.tup [.int (fi : Int), .ref C])) (ne_of_none eD1 n3)
      have n3D : T3 ≠ D1 := fun z => by
        rw [z, eD1] at n3
        cases n3
      refine ⟨rs.map V.ref, eD2.trans eD1, ?_, ?_, rs ++ [T3], ?_, ?_, ?_⟩
      · rw [List.length_map, lr]
        exact Nat.lt_of_lt_of_le hi (Nat.le_trans gt.feeds_le (by decide))
      · exact same_mut (smT.trans (same_new n3)) nD
      · rw [upd_same]
        simp
      · rw [List.length_append, lr]
        rfl
      · intro j r pr h1 h2
        by_cases hj : j < i
        · have h1' : rs[j]? = some r := by
            rw [List.getElem?_append_left (by omega)] at h1
            exact h1
          have z := hrs j r pr h1' h2
          have z1 := (same_new (o := .tup [.int (fi : Int), .ref C]) nT) _ _ z
          have z2 := (same_new (o := .tup [.int (arr.getD fi 0 + step * ((cellsV.length : Int) - 1)), .int (fi : Int)]) n3) _ _ z1
          have nr : r ≠ D1 := fun w => by
            rw [w, eD] at z
            cases z
          rw [upd_ne nr]
          exact z2
        · have lj : j < (rs ++ [T3]).length := (List.getElem?_eq_some_iff.mp h1).1
          rw [List.length_append, lr] at lj
          have hj2 : j = i := by
            have : [T3].length = 1 := rfl
            omega
          subst hj2
          rw [List.getElem?_append_right (by omega), lr, Nat.sub_self] at h1
          cases h1
          rw [efl] at h2
          cases h2
          rw [upd_ne n3D, upd_same, lenC]
    · rintro H' ⟨sm, rs, eD, lr, hrs⟩
      exact q _ rs H' (sm1.trans sm) (none_back sm1 nD) eD (by rw [lr, lb]) hrs
end
end K80

namespace K80
open PySem PySem.Spec PyProof.Rows L2 Kit
/-! ### when gates arrive -/
theorem sqt_same0 {K : PySem.W.Frag} {H H1 : Hp} {a : Addr} {xs : List V} (e : SqT K H a xs) (h : Same H H1) : SqT K H1 a xs := by
  rcases e with (e | ⟨o, e⟩) | e
  · exact .inl (.inl (h _ _ e))
  · exact .inl (.inr ⟨o, h _ _ e⟩)
  · exact .inr e
def mxi (l : List Int) : Int := (l.max?).getD 0
theorem mxi_eq {l : List Int} {m : Int} (h1 : m ∈ l) (h2 : ∀ x ∈ l, x ≤ m) : mxi l = m := by
  unfold mxi
  rw [List.max?_eq_some_iff.mpr ⟨h1, h2⟩]
  rfl
theorem pgt_le {q p : Int × Int} (h : L2.pgt q p = false) : q.1 ≤ p.1 := by
  unfold L2.pgt at h
  simp at h
  omega
structure Own where
  (s o t : Int)
def Own.ok (d : Own) : Prop := 0 ≤ d.s ∧ d.s ≤ 100000
def Gt.own (d : Own) : Gt → Int
  | .nt _ => d.o
  | _ => d.t
def Gt.kind : Gt → Str
  | .inp _ _ => "in"
  | .iz _ => "is"
  | .box _ _ _ => "box"
  | .nt _ => "not"
  | .two w _ _ => w
theorem fed_in {g : Gt} {n i : Nat} (h : g.ok n i) : inV (.str g.kind) [.str "not", .str "and", .str "or", .str "xor"] = g.fed := by
  cases g with
  | inp x k => exact (by decide +kernel : inV (.str "in") [.str "not", .str "and", .str "or", .str "xor"] = false)
  | iz b => exact (by decide +kernel : inV (.str "is") [.str "not", .str "and", .str "or", .str "xor"] = false)
  | box c b d => exact (by decide +kernel : inV (.str "box") [.str "not", .str "and", .str "or", .str "xor"] = false)
  | nt a => exact (by decide +kernel : inV (.str "not") [.str "not", .str "and", .str "or", .str "xor"] = true)
  | two y a c =>
    obtain ⟨rfl | rfl | rfl, _, _⟩ := h
    · exact (by decide +kernel : inV (.str "and") [.str "not", .str "and", .str "or", .str "xor"] = true)
    · exact (by decide +kernel : inV (.str "or") [.str "not", .str "and", .str "or", .str "xor"] = true)
    · exact (by decide +kernel : inV (.str "xor") [.str "not", .str "and", .str "or", .str "xor"] = true)
theorem fed_lt {g : Gt} {n i : Nat} (h : g.ok n i) (e : g.fed = true) : ∀ f ∈ g.feeds, f < i := by
  cases g with
  | inp x k => cases e
  | iz b => cases e
  | box c b d => cases e
  | nt a =>
    intro f hf
    rw [List.mem_singleton.mp hf]
    exact h
  | two y a c =>
    obtain ⟨_, h1, h2⟩ := h
    intro f hf
    have hf : f ∈ [a, c] := hf
    simp at hf
    rcases hf with rfl | rfl
    · exact h1
    · exact h2
theorem fed_pos {g : Gt} (e : g.fed = true) : 0 < g.feeds.length := by
  cases g <;> first | cases e; done | (show 0 < List.length (_ :: _); exact Nat.zero_lt_succ _)
theorem Gt.vs0 (g : Gt) : g.vs[0]? = some (.str g.kind) := by cases g <;> rfl
def arrV (gs : List Gt) (wl : List (List Way)) (d : Own) (arr : List Int) (k : Nat) : Int :=
  match gs[k]? with
  | some g => if g.fed then mxi ((bro arr g.feeds (lens (wl.getD k [])) d.s).map (·.1)) + g.own d else 0
  | none => 0
def arrN (gs : List Gt) (wl : List (List Way)) (d : Own) : Nat → List Int
  | 0 => []
  | k + 1 => arrN gs wl d k ++ [arrV gs wl d (arrN gs wl d k) k]
theorem arrN_len (gs : List Gt) (wl : List (List Way)) (d : Own) : ∀ k, (arrN gs wl d k).length = k
  | 0 => rfl
  | k + 1 => by rw [arrN, List.length_append, arrN_len gs wl d k]; rfl
def arrs (gs : List Gt) (wl : List (List Way)) (d : Own) : List Int := arrN gs wl d gs.length
def ownV (d : Own) : List V := [.int d.s, .int d.o, .int d.t]
def spOwn (K : PySem.W.Frag) : Sp := fun vs H Q _ => ∃ (v : V) (a : Addr) (g : Gt) (n i : Nat) (d : Own), vs = [v, .ref a] ∧ TdR H g.td v ∧ SqT K H a (ownV d) ∧ g.ok n i ∧ g.fed = true ∧ Q (.int (g.own d)) H
def spArrs (K : PySem.W.Frag) : Sp := fun vs H Q _ => ∃ (vg vw vd : V) (gs : List Gt) (wl : List (List Way)) (d : Own),
  vs = [vg, vw, vd] ∧ TdR H (gatesT gs) vg ∧ TdR H (waysT wl) vw ∧ (∃ a, vd = .ref a ∧ SqT K H a (ownV d)) ∧ Okl gs wl ∧ d.ok ∧ gs.length ≤ 1000 ∧
  ∀ (p : Addr) (H' : Hp), Same H H' → H' p = some (.tup ((arrs gs wl d).map V.int)) → Q (.ref p) H'
section
variable {P : Program} {w : World} {K : PySem.W.Frag} {mg : Str → Option Value} {base : Heap} {cF cD : Addr}
theorem ok_own {f : Addr} {fd : FuncData} (D : DefAt K mg "own_delay" ["gate", "delays"] s_own_delay f fd) : Cal P w K mg base L2.CX0 1 "own_delay" ["gate", "delays"] (spOwn K) := by
  have S := S_own_delay
  refine cal_of D.fn D.mgf D.bs D.kbs S (fun vs H Q E h => ?_) (fun cdv A outer s H vs Q E hq hr h => ?_)
  · obtain ⟨v, a, g, n, i, d, rfl, _⟩ := h
    rfl
  · obtain ⟨v, a, gt, n, i, d, rfl, hg, hd, hok, hfd, q⟩ := h
    refine ⟨_, (pss_one (ps_ret (pe_ifExp (pt_cmpR op_eq (pe_ix ix_tup (pv 0) pe_int (fun _ _ => rfl)) pe_str (nomark _)) (pe_ix ix_tup (pv 1) pe_int (fun _ _ => rfl)) (pe_ix ix_tup (pv 1) pe_int (fun _ _ => rfl))))), ?_⟩
    obtain ⟨gA, rfl, egA⟩ := gt_at hg
    refine ⟨.ref gA, rfl, gA, _, _, _, rfl, rfl, .inl (.inl egA), atI_nat (j := 0) gt.vs0, rfl, _, rfl, ?_⟩
    have nt : (gt.kind = "not" ∧ gt.own d = d.o) ∨ (gt.kind ≠ "not" ∧ gt.own d = d.t) := by
      cases gt with
      | inp x k => cases hfd
      | iz b => cases hfd
      | box c b e => cases hfd
      | nt b => exact .inl ⟨rfl, rfl⟩
      | two y b c =>
        obtain ⟨rfl | rfl | rfl, _, _⟩ := hok
        · exact .inr ⟨(by decide +kernel : ("and" : Str) ≠ "not"), rfl⟩
        · exact .inr ⟨(by decide +kernel : ("or" : Str) ≠ "not"), rfl⟩
        · exact .inr ⟨(by decide +kernel : ("xor" : Str) ≠ "not"), rfl⟩
    rcases nt with ⟨hk, ho⟩ | ⟨hk, ho⟩
    · refine ite_str (fun _ => ?_) fun z => absurd hk z
      rw [ho] at q
      exact ⟨.ref a, rfl, a, _, _, _, rfl, rfl, hd, atI_nat (j := 1) rfl, q⟩
    · refine ite_str (fun z => absurd z hk) fun _ => ?_
      rw [ho] at q
      exact ⟨.ref a, rfl, a, _, _, _, rfl, rfl, hd, atI_nat (j := 2) rfl, q⟩
theorem ok_arrs {f : Addr} {fd : FuncData} (D : DefAt K mg "arrivals_of" ["gates", "ways", "delays"] s_arrivals_of f fd) (M : Bi mg) (T : Tp K mg cF cD)
    (C_brought : Cal P w K mg base L2.CX0 2 "brought" ["arrivals", "gates", "ways", "g", "step"] (spBro K))
    (C_own_delay : Cal P w K mg base L2.CX0 1 "own_delay" ["gate", "delays"] (spOwn K)) : Cal P w K mg base L2.CX0 3 "arrivals_of" ["gates", "ways", "delays"] (spArrs K) := by
  have S := S_arrivals_of
  refine cal_of D.fn D.mgf D.bs D.kbs S (fun vs H Q E h => ?_) (fun cdv A outer s H vs Q E hq hr h => ?_)
  · obtain ⟨vg, vw, vd, gs, wl, d, rfl, _⟩ := h
    rfl
  · obtain ⟨vg, vw, vd, gs, wl, d, rfl, hg, hw, ⟨a, rfl, hd⟩, ok, od, gl, q⟩ := h
    refine ⟨_, (pss_cons (ps_set (i := 3) S.nd rfl (.inl rfl) (pe_lst pa_nil))
 (pss_cons (ps_for PassesOwn.never rfl (pi_enumT (by rfl) M.enumerate_ (pa_cons (pv 0) pa_nil)) (pg_tup (by rfl) (pgs_cons (pg_name (i := 4) S.nd rfl (.inl rfl)) (pgs_cons (pg_name (i := 5) S.nd rfl (.inl rfl)) pgs_nil)))
  (pss_one (ps_if (pt_cmpR op_in_seq (pe_ix ix_tup (pv 5) pe_int (fun _ _ => rfl)) (C8.pe_gc (by rfl) T.c_FED) rfl)
  (pss_cons (ps_asg (pe_callB (call_maxP rfl (Nat.lt_of_le_of_lt (Nat.add_le_add_left (by decide) _) (room200 hr))) (by rfl) M.max_ (by decide +kernel) (pa_cons (pe_c C_brought pass0 hq hr (by omega) (by rfl) (pa_cons (pv 3) (pa_cons (pv 0) (pa_cons (pv 1) (pa_cons (pv 4) (pa_cons (pe_ix ix_tup (pv 2) pe_int (fun _ _ => rfl)) pa_nil)))))) pa_nil)) (pg_tup (by rfl) (pgs_cons (pg_name (i := 6) S.nd rfl (.inl rfl)) (pgs_cons (pg_name (i := 7) S.nd rfl (.inl rfl)) pgs_nil))))
 (pss_one (ps_expr (pe_bm PySem.F.plainAttrs_list PySem.F.slot_list_append PySem.F.type_list_append mt_append (pv 3) (pa_cons (pe_op op_add (pv 6) (pe_c C_own_delay pass0 hq hr (by omega) (by rfl) (pa_cons (pv 5) (pa_cons (pv 2) pa_nil)))) pa_nil)))))
  (pss_one (ps_expr (pe_bm PySem.F.plainAttrs_list PySem.F.slot_list_append PySem.F.type_list_append mt_append (pv 3) (pa_cons pe_int pa_nil)))))))
 (pss_one (ps_ret (pe_callTy call_tuple_of (by rfl) M.tuple_ (by decide +kernel) (pa_cons (pv 3) pa_nil)))))), ?_⟩
    obtain ⟨G, gvs, rfl, hG, gal⟩ := hg.inv_tup
    have lg : gvs.length = gs.length := by rw [← gal.1, List.length_map]
    refine ⟨show (0 : Nat) ≤ _ by decide, fun L nL => ?_⟩
    have sL := same_new (o := .lst []) nL
    refine ⟨.ref G, rfl, G, gvs, rfl, .inl (.inl (sL _ _ hG)), for_it (walk_enumT (K := K) (a := G) (xs := gvs)) (fun i σ H' => Same H H' ∧ H' L = some (.lst ((arrN gs wl d i).map V.int)) ∧ ∃ x4 x5 x6 x7 : Option V,
      σ = [some (.ref G), some vw, some (.ref a), some (.ref L), x4, x5, x6, x7]) ?_ ?_ ?_ ?_⟩
    · exact ⟨sL, upd_same, none, none, none, none, rfl⟩
    · rintro i σ H' _ ⟨sm, _⟩
      exact .inl (.inl (sm _ _ hG))
    · rintro i x σ H' H2 hi ⟨sm, eL, x4, x5, x6, x7, rfl⟩ ⟨TT, u, v, rfl, nT, rfl, e1, e2⟩
      cases e1
      rw [lg] at hi
      obtain ⟨gt, egt⟩ : ∃ gt, gs[i]? = some gt := ⟨gs[i], List.getElem?_eq_getElem hi⟩
      have tg := gal.2 i gt.td v (by rw [List.getElem?_map, egt]; rfl) e2
      have sT := sm.trans (same_new (o := .tup [.int (i : Int), v]) nT)
      have eL2 := (same_new (o := .tup [.int (i : Int), v]) nT) _ _ eL
      obtain ⟨gA, rfl, egA⟩ := gt_at (tg.same sT)
      refine ⟨TT, _, rfl, .inl (.inl upd_same), rfl, _, _, rfl, _, _, rfl, rfl, ?_⟩
      revert egA sT eL2
      generalize eG1 : upd H' TT (.tup [.int (i : Int), .ref gA]) = G1
      intro sT eL2 egA
      refine ⟨.ref gA, rfl, gA, _, _, _, rfl, rfl, .inl (.inl (egA)), atI_nat (j := 0) gt.vs0, cF, _, rfl, .inr (T.d_FED _), rfl, rfl, _, rfl, ?_⟩
      dsimp only
      refine ite_in (fed_in (ok.gate i gt egt)) ?_
      obtain ⟨ws, ew, lw, hws⟩ := ok.at egt
      cases hfd : gt.fed with
      | false =>
        refine iteF ?_
        refine ⟨.ref L, rfl, .inl ⟨rfl, _, .inl (.inl eL2)⟩, L, _, _, rfl, rfl, eL2, ?_, ?_⟩
        · rw [List.length_map, arrN_len]
          exact Nat.lt_of_lt_of_le (Nat.lt_of_lt_of_le hi gl) (by decide)
        · refine ⟨same_mut sT nL, ?_, _, _, _, _, rfl⟩
          rw [upd_same, arrN, List.map_append]
          unfold arrV
          rw [egt]
          dsimp only
          rw [hfd]
          rfl
      | true =>
        refine iteT ?_
        have lb : (bro (arrN gs wl d i) gt.feeds (lens ws) d.s).length = gt.feeds.length := by
          unfold bro lens
          rw [List.length_zipWith, List.length_map, lw, Nat.min_self]
        refine ⟨.ref L, rfl, .ref G, rfl, vw, rfl, .int (i : Int), rfl, .ref a, rfl, a, _, _, _, rfl, rfl, sqt_same0 hd sT, atI_nat (j := 0) rfl, _, _, _, arrN gs wl d i, gs, wl, i, gt, ws, d.s, rfl, .lst (.inl (.inl eL2)), hg.same sT, hw.same sT, ok, egt, ew, fun f hf => by rw [arrN_len]; exact fed_lt (ok.gate i gt egt) hfd f hf, od.1, od.2, ?_⟩
        intro p rs G2 s3 np ep lrs hrs
        refine ⟨p, rs, _, rfl, .inl (.inl ep), lrs, by rw [lb]; exact fed_pos hfd, fun j r pr h1 h2 => .inl (.inl (hrs j r pr h1 h2)), fun j r pr h1 h2 top => ?_⟩
        refine ⟨r, _, rfl, .inl (.inl (hrs j r pr h1 h2)), rfl, _, _, rfl, _, _, rfl, rfl, ?_⟩
        have eL3 := s3 _ _ eL2
        have eg3 := s3 _ _ egA
        have e1 : mxi ((bro (arrN gs wl d i) gt.feeds (lens ws) d.s).map (·.1)) = pr.1 := mxi_eq (List.mem_map.mpr ⟨pr, List.mem_of_getElem? h2, rfl⟩) fun x hx => by
          obtain ⟨q', hq', rfl⟩ := List.mem_map.mp hx
          exact pgt_le (top q' hq')
        have em : arrV gs wl d (arrN gs wl d i) i = pr.1 + gt.own d := by
          unfold arrV
          rw [egt]
          dsimp only
          rw [hfd, List.getD_eq_getElem?_getD, ew]
          show mxi ((bro (arrN gs wl d i) gt.feeds (lens ws) d.s).map (·.1)) + _ = _
          rw [e1]
        have l1 : ((arrN gs wl d i).map V.int).length < sizeLine := by
          rw [List.length_map, arrN_len]
          exact Nat.lt_of_lt_of_le (Nat.lt_of_lt_of_le hi gl) (by decide)
        have fin : ∀ y : Int, y = pr.1 + gt.own d → upd G2 L (.lst ((arrN gs wl d i).map V.int ++ [V.int y])) L = some (.lst ((arrN gs wl d (i + 1)).map V.int)) := by
          intro y ey
          rw [upd_same, arrN, List.map_append, em, ey]
          rfl
        exact ⟨.ref L, rfl, .inl ⟨rfl, _, .inl (.inl eL3)⟩, .int pr.1, rfl, .ref gA, rfl, .ref a, rfl, .ref gA, a, gt, gs.length, i, d, rfl, (tg.same sT).same s3, sqt_same0 hd (sT.trans s3), ok.gate i gt egt, hfd, _, _, rfl, rfl, L, _, _, rfl, rfl, eL3, l1, same_mut (sT.trans s3) nL, fin _ rfl, _, _, _, _, rfl⟩
    · rintro σ H' ⟨sm, eL, x4, x5, x6, x7, rfl⟩
      rw [lg] at eL
      refine ⟨.ref L, rfl, L, _, rfl, .inl ⟨.inl (.inl eL), fun p np => ?_⟩⟩
      exact q p _ (sm.trans (same_new np)) upd_same
end
end K80

namespace K80
open PySem PySem.Spec PyProof.Rows L2 Kit
/-! ### the path of a box -/
/-- y brings x the latest -/
def Top (gs : List Gt) (wl : List (List Way)) (arr : List Int) (step : Int) (x y : Nat) : Prop :=
  ∃ gt ws pr, gs[x]? = some gt ∧ wl[x]? = some ws ∧ pr ∈ bro arr gt.feeds (lens ws) step ∧ pr.2 = (y : Int) ∧ ∀ q ∈ bro arr gt.feeds (lens ws) step, q.1 ≤ pr.1
inductive Chain (gs : List Gt) (wl : List (List Way)) (arr : List Int) (step : Int) : Nat → List Nat → Prop
  | last {x y : Nat} {g : Gt} (h : Top gs wl arr step x y) (e : gs[y]? = some g) (f : g.fed = false) : Chain gs wl arr step x [y]
  | more {x y : Nat} {g : Gt} {l : List Nat} (h : Top gs wl arr step x y) (e : gs[y]? = some g) (f : g.fed = true) (c : Chain gs wl arr step y l) : Chain gs wl arr step x (y :: l)
theorem feeds_lt {g : Gt} {n i : Nat} (h : g.ok n i) (hi : i < n) : ∀ f ∈ g.feeds, f < n := by
  cases g with
  | inp x k =>
    intro f hf
    cases hf
  | iz b =>
    intro f hf
    cases hf
  | box c b d =>
    intro f hf
    rw [List.mem_singleton.mp hf]
    exact h
  | nt a => exact fun f hf => Nat.lt_trans (fed_lt h rfl f hf) hi
  | two y a c => exact fun f hf => Nat.lt_trans (fed_lt h rfl f hf) hi
theorem bro_feed {arr : List Int} {fs ls : List Nat} {step : Int} {pr : Int × Int} (h : pr ∈ bro arr fs ls step) : ∃ f ∈ fs, pr.2 = (f : Int) := by
  unfold bro at h
  induction fs generalizing ls with
  | nil => cases h
  | cons a fs ih =>
    cases ls with
    | nil => cases h
    | cons b ls =>
      rw [List.zipWith_cons_cons] at h
      cases h with
      | head => exact ⟨a, List.mem_cons_self, rfl⟩
      | tail _ h =>
        obtain ⟨f, hf, e⟩ := ih h
        exact ⟨f, List.mem_cons_of_mem _ hf, e⟩
def nats (l : List Nat) : List V := l.map fun (k : Nat) => V.int (k : Int)
def spPath (K : PySem.W.Frag) : Sp := fun vs H Q _ => ∃ (vg vw : V) (ar : Addr) (gs : List Gt) (wl : List (List Way)) (d : Own) (b : Nat) (gt : Gt),
  vs = [.int (b : Int), vg, vw, .ref ar, .int d.s] ∧ TdR H (gatesT gs) vg ∧ TdR H (waysT wl) vw ∧ H ar = some (.tup ((arrs gs wl d).map V.int)) ∧ Okl gs wl ∧ d.ok ∧ gs.length ≤ 1000 ∧
  gs[b]? = some gt ∧ 0 < gt.feeds.length ∧
  ∀ (p : Addr) (l : List Nat) (H' : Hp), Same H H' → Chain gs wl (arrs gs wl d) d.s b l → l.length ≤ gs.length → H' p = some (.tup (nats (b :: l).reverse)) → Q (.ref p) H'
theorem last_at {b x : Nat} {l : List Nat} (e : (b :: l)[l.length]? = some x) : atI (nats (b :: l)) (-1) = some (.int (x : Int)) := by
  have h : ixN (nats (b :: l)).length (-1) = some l.length := by
    unfold nats ixN
    rw [List.length_map, List.length_cons, if_neg (by decide), if_pos (by omega)]
    congr 1
    omega
  unfold atI
  rw [h]
  show (nats (b :: l))[l.length]? = _
  unfold nats
  rw [List.getElem?_map, e]
  rfl
section
variable {P : Program} {w : World} {K : PySem.W.Frag} {mg : Str → Option Value} {base : Heap} {cF cD : Addr}
theorem ok_path {f : Addr} {fd : FuncData} (D : DefAt K mg "path_to" ["box", "gates", "ways", "arrivals", "step"] s_path_to f fd) (M : Bi mg) (T : Tp K mg cF cD)
    (C_brought : Cal P w K mg base L2.CX0 2 "brought" ["arrivals", "gates", "ways", "g", "step"] (spBro K)) : Cal P w K mg base L2.CX0 3 "path_to" ["box", "gates", "ways", "arrivals", "step"] (spPath K) := by
  have S := S_path_to
  refine cal_of D.fn D.mgf D.bs D.kbs S (fun vs H Q E h => ?_) (fun cdv A outer s H vs Q E hq hr h => ?_)
  · obtain ⟨vg, vw, ar, gs, wl, d, b, gt, rfl, _⟩ := h
    rfl
  · obtain ⟨vg, vw, ar, gs, wl, d, b, gt, rfl, hg, hw, ha, ok, od, gl, egt, hpos, q⟩ := h
    refine ⟨_, (pss_cons (ps_set (i := 5) S.nd rfl (.inl rfl) (pe_lst (pa_cons (pv 0) pa_nil)))
 (pss_cons (ps_set (i := 6) S.nd rfl (.inl rfl) pe_bl)
 (pss_cons (ps_while PassesOwn.never (pt_val (pv 6))
  (pss_cons (ps_asg (pe_callB (call_maxP rfl (Nat.lt_of_le_of_lt (Nat.add_le_add_left (by decide) _) (room200 hr))) (by rfl) M.max_ (by decide +kernel) (pa_cons (pe_c C_brought pass0 hq hr (by omega) (by rfl) (pa_cons (pv 3) (pa_cons (pv 1) (pa_cons (pv 2) (pa_cons (pe_ix ix_list (pv 5) (pe_un un_neg pe_int) (fun _ _ => rfl)) (pa_cons (pv 4) pa_nil)))))) pa_nil)) (pg_tup (by rfl) (pgs_cons (pg_name (i := 7) S.nd rfl (.inl rfl)) (pgs_cons (pg_name (i := 8) S.nd rfl (.inl rfl)) pgs_nil))))
 (pss_cons (ps_expr (pe_bm PySem.F.plainAttrs_list PySem.F.slot_list_append PySem.F.type_list_append mt_append (pv 5) (pa_cons (pv 8) pa_nil)))
 (pss_one (ps_set (i := 6) S.nd rfl (.inl rfl) (pe_cmpR op_in_seq (pe_ix ix_tup (pe_ix ix_tup (pv 1) (pv 8) (fun _ _ => rfl)) pe_int (fun _ _ => rfl)) (C8.pe_gc (by rfl) T.c_FED) rfl))))))
 (pss_one (ps_ret (pe_callTy call_tuple_of (by rfl) M.tuple_ (by decide +kernel) (pa_cons (pe_revL (pv 5)) pa_nil))))))), ?_⟩
    obtain ⟨G, gvs, rfl, hG, gal⟩ := hg.inv_tup
    have lar : (arrs gs wl d).length = gs.length := arrN_len _ _ _ _
    refine ⟨.int (b : Int), rfl, show (1 : Nat) ≤ _ by decide, fun L nL => ?_⟩
    have sL := same_new (o := .lst [V.int (b : Int)]) nL
    refine ⟨fun m σ H' => ∃ (l : List Nat) (x : Nat) (gx : Gt) (go : Bool) (x7 x8 : Option V), σ = [some (.int (b : Int)), some (.ref G), some vw, some (.ref ar), some (.int d.s), some (.ref L), some (.bl go), x7, x8] ∧
      Same H H' ∧ H' L = some (.lst (nats (b :: l))) ∧ l.length + m ≤ gs.length + 1 ∧ 1 ≤ m ∧
      (go = false → Chain gs wl (arrs gs wl d) d.s b l) ∧
      (go = true → (b :: l)[l.length]? = some x ∧ gs[x]? = some gx ∧ 0 < gx.feeds.length ∧ (∀ l', Chain gs wl (arrs gs wl d) d.s x l' → Chain gs wl (arrs gs wl d) d.s b (l ++ l')) ∧ ∀ f ∈ gx.feeds, f + 1 < m), ?_, ?_⟩
    · refine ⟨gs.length + 1, [], b, gt, true, none, none, rfl, sL, upd_same, by simp, Nat.succ_le_succ (Nat.zero_le _), fun z => (by cases z), fun _ => ⟨rfl, egt, hpos, fun l' h => h, fun f hf => ?_⟩⟩
      have hb := (List.getElem?_eq_some_iff.mp egt).1
      exact Nat.succ_lt_succ (feeds_lt (ok.gate b gt egt) hb f hf)
    rintro m σ H1 ⟨l, x, gx, go, x7, x8, rfl, sm, eL, lm, m1, hf, ht⟩
    refine ⟨.bl go, rfl, _, rfl, ?_⟩
    cases go with
    | false =>
      refine iteF ?_
      refine ⟨.ref L, rfl, L, _, rfl, .inl (.inl eL), fun p np => ?_⟩
      refine ⟨p, _, rfl, .inl ⟨.inl (.inl upd_same), fun p2 np2 => ?_⟩⟩
      refine q p2 l _ ((sm.trans (same_new np)).trans (same_new np2)) (hf rfl) (by omega) ?_
      rw [upd_same]
      unfold nats
      rw [List.map_reverse]
    | true =>
      refine iteT ?_
      obtain ⟨ex, egx, px, hc, hm⟩ := ht rfl
      have hx := (List.getElem?_eq_some_iff.mp egx).1
      obtain ⟨ws, ew, lw, hws⟩ := ok.at egx
      have flt := feeds_lt (ok.gate x gx egx) hx
      have lb : (bro (arrs gs wl d) gx.feeds (lens ws) d.s).length = gx.feeds.length := by
        unfold bro lens
        rw [List.length_zipWith, List.length_map, lw, Nat.min_self]
      refine ⟨fun σ' H' => ∃ m', m' < m ∧ _, fun σ' H' h => h, ?_⟩
      refine ⟨.ref ar, rfl, .ref G, rfl, vw, rfl, .ref L, rfl, _, rfl, L, _, _, _, rfl, rfl, .inl (.inl eL), last_at ex, .int d.s, rfl, _, _, _, arrs gs wl d, gs, wl, x, gx, ws, d.s, rfl, .tup (.inl (.inl (sm _ _ ha))), hg.same sm, hw.same sm, ok, egx, ew, fun f hf => by rw [lar]; exact flt f hf, od.1, od.2, ?_⟩
      intro p rs G2 s3 np ep lrs hrs
      refine ⟨p, rs, _, rfl, .inl (.inl ep), lrs, by rw [lb]; exact px, fun j r pr h1 h2 => .inl (.inl (hrs j r pr h1 h2)), fun j r pr h1 h2 top => ?_⟩
      refine ⟨r, _, rfl, .inl (.inl (hrs j r pr h1 h2)), rfl, _, _, rfl, _, _, rfl, rfl, ?_⟩
      have hpr := List.mem_of_getElem? h2
      obtain ⟨y, hy, ey⟩ := bro_feed hpr
      obtain ⟨t, y'⟩ := pr
      have ey : y' = (y : Int) := ey
      subst ey
      have hyn := flt y hy
      obtain ⟨gy, egy⟩ : ∃ gy, gs[y]? = some gy := ⟨gs[y], List.getElem?_eq_getElem hyn⟩
      have htop : Top gs wl (arrs gs wl d) d.s x y := ⟨gx, ws, _, egx, ew, hpr, rfl, fun q' hq' => pgt_le (top q' hq')⟩
      have eL3 := s3 _ _ eL
      have l1 : (nats (b :: l)).length < sizeLine := by
        unfold nats
        rw [List.length_map, List.length_cons]
        have : 1001 < sizeLine := by decide
        have := hm y hy
        omega
      have e4 : nats (b :: l) ++ [V.int (y : Int)] = nats (b :: (l ++ [y])) := by
        unfold nats
        rw [← List.cons_append, List.map_append]
        rfl
      refine ⟨.ref L, rfl, .inl ⟨rfl, _, .inl (.inl eL3)⟩, .int (y : Int), rfl, L, _, _, rfl, rfl, eL3, l1, ?_⟩
      rw [e4]
      have s4 := same_mut (o := .lst (nats (b :: (l ++ [y])))) (sm.trans s3) nL
      obtain ⟨gv, egv, tgv⟩ := all2_get (gal.same s4) (i := y) (t := gy.td) (by rw [List.getElem?_map, egy]; rfl)
      obtain ⟨gA, rfl, egA⟩ := gt_at tgv
      refine ⟨.ref G, rfl, .int (y : Int), rfl, G, gvs, _, _, rfl, rfl, .inl (.inl (s4 _ _ hG)), atI_nat egv, gA, _, _, _, rfl, rfl, .inl (.inl egA), atI_nat (j := 0) gy.vs0, cF, _, rfl, .inr (T.d_FED _), rfl, ?_⟩
      have ein : (if false = true then !inV (.str gy.kind) [.str "not", .str "and", .str "or", .str "xor"] else inV (.str gy.kind) [.str "not", .str "and", .str "or", .str "xor"]) = gy.fed := by
        rw [if_neg Bool.false_ne_true]
        exact fed_in (ok.gate y gy egy)
      refine ⟨rfl, y + 1, hm y hy, l ++ [y], y, gy, gy.fed, some (.int t), some (.int (y : Int)), ?_, s4, upd_same, ?_, Nat.succ_le_succ (Nat.zero_le _), fun z => hc _ (.last htop egy z), fun z => ⟨?_, egy, fed_pos z, fun l' h' => ?_, fun f hf => Nat.succ_lt_succ (fed_lt (ok.gate y gy egy) z f hf)⟩⟩
      · rw [← ein]
        rfl
      · have := hm y hy
        rw [List.length_append]
        show l.length + 1 + (y + 1) ≤ _
        omega
      · rw [List.length_append]
        show (b :: (l ++ [y]))[l.length + 1]? = _
        rw [List.getElem?_cons_succ, List.getElem?_append_right (Nat.le_refl _), Nat.sub_self]
        rfl
      · rw [List.append_assoc]
        exact hc _ (.more htop egy z h')
end
end K80

set_option maxHeartbeats 1000000
/-! a def with keyword-only defaults, called by its name in one form -/
namespace Kit
open PySem PySem.Spec PyProof.Rows L2
section
variable {X : Cx} {CX : CXT} {k n : Nat} {f : Addr} {fd : FuncData} {ps ks : List Str} {sp : Sp} {E : XK}
theorem run_fnB {pins : List (Addr × Obj)} {σ : L2.St} {H : Hp} {s : Shared} {Q : VK} {us ws : List Value} {vs zs : List V}
    {g : List Value → List Value → List Value} {gV : List V → List V → List V}
    (F : FnG X.prog X.w X.K X.mg X.base CX k f fd ps sp) (hq : Qt X.A) (hr : Room k X.A)
    (hb : KBn X.K fd ps n ks g gV) (hx : Passes CX X E) (I : Inv X pins σ H s) (r : Vals vs us) (rz : Vals zs ws) (l1 : vs.length = n) (l2 : zs.length = ks.length)
    (h : sp (gV vs zs) H Q E) :
    wpAny (model X.prog X.w) X.A (call (.ref f) us (ks.zip ws)) (EP X pins σ Q) X.xe s := by
  have z := F.run X.A X.stack s H ⟨us, ks.zip ws⟩ (g us ws) (gV vs zs) Q E hq hr I.env0 (hb.to s us ws I.kIn (r.length.symm.trans l1) (rz.length.symm.trans l2)) (hb.rel r rz) h
  refine wpAny_call (codeAny_mono z ?_)
  intro o s' ho
  match o, ho with
  | .error e, ho => exact hx pins σ H s e s' I ho
  | .ok (.ret u), ho => exact I.after ho
  | .ok .next, ho => exact False.elim ho
  | .ok .brk, ho => exact False.elim ho
  | .ok .cont, ho => exact False.elim ho
structure CalB (P : Program) (w : World) (K : PySem.W.Frag) (mg : Str → Option Value)
    (base : Heap) (CX : CXT) (k : Nat) (x : Str) (ps : List Str) (sp : Sp) (n : Nat) (ks : List Str) (gV : List V → List V → List V) : Prop where
  ex : ∃ (f : Addr) (fd : FuncData) (g : List Value → List Value → List Value), FnG P w K mg base CX k f fd ps sp ∧ mg x = some (.ref f) ∧ PySem.W.keepIn K (.ref f) = true ∧ KBn K fd ps n ks g gV
def tCallB (sp : Sp) (n m : Nat) (gV : List V → List V → List V) (E : XK) (t tk : TA) : TE := fun σ H Q => t σ H fun vs H1 => tk σ H1 fun zs H2 => vs.length = n ∧ zs.length = m ∧ sp (gV vs zs) H2 Q E
variable {x : Str} {p pos : Pos} {e : Expr} {es : List Expr} {kws : List Keyword} {t tk : TA} {j : Nat} {gV : List V → List V → List V}
theorem pe_cB (c : CalB X.prog X.w X.K X.mg X.base CX k x ps sp n ks gV) (hx : Passes CX X E) (hq : Qt X.A) (hr : Room j X.A) (hk : k ≤ j)
    (hg : Gl X x) (ha : PA X (e :: es) t) (hkw : PK X kws tk)
    (hall : (backToKw pos (keywordEach kws X.env)).all (·.1.isSome) = true := by rfl) (hks : (backToKw pos (keywordEach kws X.env)).filterMap (·.1) = ks := by rfl)
    (hdb : (x == ("__debug__" : Str)) = false := by decide) (he : starEach (e :: es) X.env = (false, eval e X.env) :: starEach es X.env := by rfl)
    (hpl : ((backTo pos (starEach (e :: es) X.env)).any (·.1) || (backToKw pos (keywordEach kws X.env)).any (·.1.isNone)) = false := by rfl) :
    PE X (.Call (.Name x p) (e :: es) kws pos) (tCallB sp n ks.length gV E t tk) := by
  obtain ⟨f, fd, g, F, hm, hkp, hb⟩ := c.ex
  refine ⟨fun pins s σ H Q I h => ?_⟩
  refine wpAny_Call_Name_kw (ld_glob I hg hm ?_ hdb)
  refine PySem.W.callWith_KW (h₀ := X.base) I.ok.mod.kin hkp hall (thn (ha.run pos pins s σ H _ I h) fun us s1 ⟨vs, H1, I1, r, q⟩ => ?_) hpl he
  refine thn (hkw.run pos pins s1 σ H1 _ I1 q) fun ws s2 ⟨zs, H2, I2, rz, l1, l2, q2⟩ => ⟨I2.kIn, ?_⟩
  rw [hks]
  exact run_fnB F hq (hr.mono hk) hb hx I2 r rz l1 l2 q2
theorem pe_cB0 (c : CalB X.prog X.w X.K X.mg X.base CX k x ps sp 0 ks gV) (hx : Passes CX X E) (hq : Qt X.A) (hr : Room j X.A) (hk : k ≤ j)
    (hg : Gl X x) (hkw : PK X kws tk)
    (hall : (backToKw pos (keywordEach kws X.env)).all (·.1.isSome) = true := by rfl) (hks : (backToKw pos (keywordEach kws X.env)).filterMap (·.1) = ks := by rfl)
    (hdb : (x == ("__debug__" : Str)) = false := by decide)
    (hpl : ((backTo pos (starEach [] X.env)).any (·.1) || (backToKw pos (keywordEach kws X.env)).any (·.1.isNone)) = false := by rfl) :
    PE X (.Call (.Name x p) [] kws pos) (tCallB sp 0 ks.length gV E tNil tk) := by
  obtain ⟨f, fd, g, F, hm, hkp, hb⟩ := c.ex
  refine ⟨fun pins s σ H Q I h => ?_⟩
  refine wpAny_Call_Name_kw (ld_glob I hg hm ?_ hdb)
  refine PySem.W.callWith_KW0 (h₀ := X.base) I.ok.mod.kin hkp hall ?_ hpl
  refine thn (hkw.run pos pins s σ H _ I h) ?_
  rintro ws s1 ⟨zs, H1, I1, r, l1, l2, q⟩
  refine ⟨I1.kIn, ?_⟩
  rw [hks]
  exact run_fnB (us := []) (vs := []) F hq (hr.mono hk) hb hx I1 .nil r l1 l2 q
end
/-! three parameters and one by its name alone -/
def g4 {α : Type} (us mv ws : List α) : List α := us ++ mv ++ ws
def g4r {α : Type} (us mv ws : List α) : List α := ws.reverse
end Kit

namespace K80
open PySem PySem.Spec PyProof.Rows L2 Kit
/-! ### the slowest way -/
def pSl : List Str := ["net", "laying", "clock", "delays"]
def gvD (cD : Addr) (vs zs : List V) : List V := vs ++ [.ref cD]
def gvP (vs zs : List V) : List V := vs ++ zs
def gvR (vs zs : List V) : List V := zs.reverse
theorem slw_binds {K : PySem.W.Frag} {f cD : Addr} {fd : FuncData} (F : FunD K "slowest" "slowest" (defArgs s_slowest) (defBody s_slowest) (defScope s_slowest) [] [("delays", .ref cD)] f fd) :
    (∃ g, KBn K fd pSl 3 [] g (gvD cD)) ∧ (∃ g, KBn K fd pSl 3 ["delays"] g gvP) ∧ ∃ g, KBn K fd pSl 0 ["delays", "clock", "laying", "net"] g gvR := by
  refine ⟨?_, ?_, ?_⟩
  · obtain ⟨mv, h⟩ := F.kbinds0 (ps := pSl) 3 [] [("delays", .ref cD)] (fun us mv ws => us ++ mv) (by simp) (fun q hq => hq) (fun r1 r2 r3 => r1.append r2) (fun D doc pm an cdv ct us mv ws l1 l2 l3 => by
      match us, mv, ws, l1, l2, l3 with
      | [a, b, c], [d], [], _, _, _ => exact ⟨_, _, _, _, _, _, rfl, rfl, rfl⟩)
    exact ⟨_, h⟩
  · obtain ⟨mv, h⟩ := F.kbinds0 (ps := pSl) 3 ["delays"] [] (fun us mv ws => us ++ ws) (by simp) (fun q hq => by cases hq) (fun r1 r2 r3 => r1.append r3) (fun D doc pm an cdv ct us mv ws l1 l2 l3 => by
      match us, mv, ws, l1, l2, l3 with
      | [a, b, c], [], [d], _, _, _ => exact rfl)
    exact ⟨_, h⟩
  · obtain ⟨mv, h⟩ := F.kbinds0 (ps := pSl) 0 ["delays", "clock", "laying", "net"] [] (fun us mv ws => ws.reverse) (by simp) (fun q hq => by cases hq) (fun r1 r2 r3 => r3.reverse) (fun D doc pm an cdv ct us mv ws l1 l2 l3 => by
      match us, mv, ws, l1, l2, l3 with
      | [], [], [d, c, b, a], _, _, _ => exact rfl)
    exact ⟨_, h⟩
def cellsT (cs : List (Int × Int)) : Td := .tup (cs.map cellT)
def netT (gs : List Gt) : Td := .tup [gatesT gs, .tup [], .tup []]
def layT (cs : List (Int × Int)) (wl : List (List Way)) : Td := .tup [cellsT cs, waysT wl]
def Gt.isBox (c : Str) : Gt → Bool
  | .box c' _ _ => decide (c' = c)
  | _ => false
def boxesN (gs : List Gt) (c : Str) (n : Nat) : List Nat := (List.range n).filter fun k => match gs[k]? with
  | some g => g.isBox c
  | none => false
/-- the time of a box -/
def boxT (gs : List Gt) (wl : List (List Way)) (arr : List Int) (step : Int) (b : Nat) : Int := match gs[b]? with
  | some (.box _ _ dd) => arr.getD dd 0 + step * ((((wl.getD b []).headD []).length : Int) - 1)
  | _ => 0
def SlwOk (gs : List Gt) (wl : List (List Way)) (d : Own) (c : Str) (t : Int) (l : List Nat) : Prop :=
  (boxesN gs c gs.length = [] ∧ t = 0 ∧ l = []) ∨
  ∃ (b : Nat) (ch : List Nat), b ∈ boxesN gs c gs.length ∧ l = (b :: ch).reverse ∧ ch.length ≤ gs.length ∧ Chain gs wl (arrs gs wl d) d.s b ch ∧ t = boxT gs wl (arrs gs wl d) d.s b ∧ ∀ b' ∈ boxesN gs c gs.length, boxT gs wl (arrs gs wl d) d.s b' ≤ t
def spSlow (K : PySem.W.Frag) : Sp := fun vs H Q _ => ∃ (N Y a : Addr) (c : Str) (gs : List Gt) (cs : List (Int × Int)) (wl : List (List Way)) (d : Own),
  vs = [.ref N, .ref Y, .str c, .ref a] ∧ TdR H (netT gs) (.ref N) ∧ TdR H (layT cs wl) (.ref Y) ∧ SqT K H a (ownV d) ∧ Okl gs wl ∧ d.ok ∧ gs.length ≤ 1000 ∧
  ∀ (R lp la : Addr) (t : Int) (l : List Nat) (H' : Hp), Same H H' → H' R = some (.tup [.int t, .ref lp, .ref la]) → H' lp = some (.tup (nats l)) → H' la = some (.tup ((arrs gs wl d).map V.int)) → SlwOk gs wl d c t l → Q (.ref R) H'
theorem boxesN_succ {gs : List Gt} {c : Str} {i : Nat} {g : Gt} (e : gs[i]? = some g) : boxesN gs c (i + 1) = if g.isBox c = true then boxesN gs c i ++ [i] else boxesN gs c i := by
  unfold boxesN
  rw [List.range_succ, List.filter_append]
  cases h : g.isBox c with
  | true =>
    rw [if_pos rfl]
    congr 1
    rw [List.filter_cons_of_pos (by rw [e]; exact h)]
    rfl
  | false =>
    rw [if_neg Bool.false_ne_true, List.filter_cons_of_neg (by rw [e]; simp [h])]
    exact List.append_nil _
theorem boxesN_len (gs : List Gt) (c : Str) (n : Nat) : (boxesN gs c n).length ≤ n := by
  have h := List.length_filter_le (fun k => match gs[k]? with
    | some g => g.isBox c
    | none => false) (List.range n)
  rw [List.length_range] at h
  exact h
theorem boxesN_mem {gs : List Gt} {c : Str} {n b : Nat} (h : b ∈ boxesN gs c n) : b < n ∧ ∃ bit dd, gs[b]? = some (.box c bit dd) := by
  unfold boxesN at h
  obtain ⟨h1, h2⟩ := List.mem_filter.mp h
  refine ⟨List.mem_range.mp h1, ?_⟩
  cases e : gs[b]? with
  | none =>
    rw [e] at h2
    cases h2
  | some g =>
    rw [e] at h2
    cases g with
    | box c' bit dd =>
      have h3 : c' = c := of_decide_eq_true h2
      exact ⟨bit, dd, by rw [h3]⟩
    | inp _ _ => cases h2
    | iz _ => cases h2
    | nt _ => cases h2
    | two _ _ _ => cases h2
theorem sqt_same {K : PySem.W.Frag} {H H1 : Hp} {a : Addr} {xs : List V} (e : SqT K H a xs) (h : Same H H1) : SqT K H1 a xs := by
  rcases e with (e | ⟨o, e⟩) | e
  · exact .inl (.inl (h _ _ e))
  · exact .inl (.inr ⟨o, h _ _ e⟩)
  · exact .inr e
theorem nats_at {l : List Nat} {i b : Nat} (h : l[i]? = some b) : (nats l)[i]? = some (.int (b : Int)) := by
  unfold nats
  rw [List.getElem?_map, h]
  rfl
section
variable {P : Program} {w : World} {K : PySem.W.Frag} {mg : Str → Option Value} {base : Heap} {cF cD : Addr}
theorem ok_slow {f : Addr} {fd : FuncData} (F : FunD K "slowest" "slowest" (defArgs s_slowest) (defBody s_slowest) (defScope s_slowest) [] [("delays", .ref cD)] f fd) (M : Bi mg)
    (C_brought : Cal P w K mg base L2.CX0 2 "brought" ["arrivals", "gates", "ways", "g", "step"] (spBro K))
    (C_arrivals_of : Cal P w K mg base L2.CX0 3 "arrivals_of" ["gates", "ways", "delays"] (spArrs K))
    (C_path_to : Cal P w K mg base L2.CX0 3 "path_to" ["box", "gates", "ways", "arrivals", "step"] (spPath K)) : FnG P w K mg base L2.CX0 4 f fd pSl (spSlow K) := by
  have S := S_slowest
  refine fng_of (He5.fun_of F) S (fun vs H Q E h => ?_) (fun cdv A outer s H vs Q E hq hr h => ?_)
  · obtain ⟨N, Y, a, c, gs, cs, wl, d, rfl, _⟩ := h
    rfl
  · obtain ⟨N, Y, a, c, gs, cs, wl, d, rfl, hN, hY, hd, ok, od, gl, q⟩ := h
    refine ⟨_, (pss_cons (ps_set (i := 4) S.nd rfl (.inr rfl) (pe_ix ix_tup (pv 0) pe_int (fun _ _ => rfl)))
 (pss_cons (ps_set (i := 5) S.nd rfl (.inr rfl) (pe_ix ix_tup (pv 1) pe_int (fun _ _ => rfl)))
 (pss_cons (ps_set (i := 6) S.nd rfl (.inr rfl) (pe_c C_arrivals_of pass0 hq hr (by omega) (by rfl) (pa_cons (pv 4) (pa_cons (pv 5) (pa_cons (pv 3) pa_nil)))))
 (pss_cons (ps_setLc (i := 7) (own := [("g", 8), ("gate", 9)]) (g := (gTup K 2 (gCons (gName 8) (gCons (gName 9) gNil)))) (tt := (tAnd (tTest (tOp rEq (tOp (rIxT K) (tVar 9) (tC (.int 0))) (tC (.str "box")))) (tTest (tOp rEq (tOp (rIxT K) (tVar 9) (tC (.int 1))) (tVar 2))))) rfl S.nd rfl rfl (sw_true rfl rfl rfl (by decide +kernel)) (pi_enumT (by rfl) M.enumerate_ (pa_cons (pv 4) pa_nil)) (blkOk_by (own := [("g", 8), ("gate", 9)]) (N := N_slowest) (sc := defScope s_slowest) (by decide +kernel)) (fun _ _ _ _ _ => (pg_tup (by rfl) (pgs_cons (pg_name (i := 8) S.nd rfl (.inl rfl)) (pgs_cons (pg_name (i := 9) S.nd rfl (.inl rfl)) pgs_nil)))) (fun _ _ _ _ _ => (pts_one (PW.pt (pw_and (pt_cmpR op_eq (pe_ix ix_tup (pv 9) pe_int (fun _ _ => rfl)) pe_str (nomark _)) (pw_and1 (pt_cmpR op_eq (pe_ix ix_tup (pv 9) pe_int (fun _ _ => rfl)) (pv 2) (nomark _))))))) (fun _ _ _ _ _ => (pv 8)))
 (pss_cons (ps_if (pt_not (pt_truth (pv 7) (by intro _; rfl)))
  (pss_one (ps_ret (pe_tup (pa_cons pe_int (pa_cons (pe_tup pa_nil) (pa_cons (pv 6) pa_nil))))))
  pss_nil)
 (pss_cons (ps_asg (pe_callB (call_maxP rfl (Nat.lt_of_le_of_lt (Nat.add_le_add_left (by decide) _) (room200 hr))) (by rfl) M.max_ (by decide +kernel) (pa_cons (pe_lc (own := [("g", 8)]) (g := gName 8) (tt := tYes) (te := (tTup (tCons (tOp (rIxT K) (tOp (rIxL K) (tCall (spBro K) [] E0 (tCons (tVar 6) (tCons (tVar 4) (tCons (tVar 5) (tCons (tVar 8) (tCons (tOp (rIxT K) (tVar 3) (tC (.int 0))) tNil)))))) (tC (.int 0))) (tC (.int 0))) (tCons (tVar 8) tNil)))) rfl S.nd (pi_list (pv 7)) (blkOk_by (own := [("g", 8)]) (N := N_slowest) (sc := defScope s_slowest) (by decide +kernel)) (fun _ _ _ _ _ => pg_name (i := 8) S.nd rfl (.inl rfl)) (fun _ _ _ _ _ => pts_nil) (fun _ _ _ _ _ => (pe_tup (pa_cons (pe_ix ix_tup (pe_ix ix_list (pe_c C_brought pass0 hq hr (by omega) (by rfl) (pa_cons (pv 6) (pa_cons (pv 4) (pa_cons (pv 5) (pa_cons (pv 8) (pa_cons (pe_ix ix_tup (pv 3) pe_int (fun _ _ => rfl)) pa_nil)))))) pe_int (fun _ _ => rfl)) pe_int (fun _ _ => rfl)) (pa_cons (pv 8) pa_nil))))) pa_nil)) (pg_tup (by rfl) (pgs_cons (pg_name (i := 10) S.nd rfl (.inl rfl)) (pgs_cons (pg_name (i := 11) S.nd rfl (.inl rfl)) pgs_nil))))
 (pss_one (ps_ret (pe_tup (pa_cons (pv 10) (pa_cons (pe_c C_path_to pass0 hq hr (by omega) (by rfl) (pa_cons (pv 11) (pa_cons (pv 4) (pa_cons (pv 5) (pa_cons (pv 6) (pa_cons (pe_ix ix_tup (pv 3) pe_int (fun _ _ => rfl)) pa_nil)))))) (pa_cons (pv 6) pa_nil)))))))))))), ?_⟩
    obtain ⟨_, nvs, rfl', eN, nal⟩ := hN.inv_tup
    cases rfl'
    obtain ⟨vg, nvs, rfl, hg, nal⟩ := nal.inv_cons
    obtain ⟨_, yvs, rfl', eY, yal⟩ := hY.inv_tup
    cases rfl'
    obtain ⟨vc, yvs, rfl, _, yal⟩ := yal.inv_cons
    obtain ⟨vw, yvs, rfl, hw, yal⟩ := yal.inv_cons
    obtain ⟨G, gvs, rfl, hG, gal⟩ := hg.inv_tup
    have lg : gvs.length = gs.length := by rw [← gal.1, List.length_map]
    refine ⟨.ref N, rfl, N, _, _, _, rfl, rfl, .inl (.inl eN), atI_nat (j := 0) rfl, .ref Y, rfl, Y, _, _, _, rfl, rfl, .inl (.inl eY), atI_nat (j := 1) rfl, .ref G, rfl, vw, rfl, .ref a, rfl, .ref G, vw, .ref a, gs, wl, d, rfl, hg, hw, ⟨a, rfl, hd⟩, ok, od, gl, fun la H1 s1 ela => ?_⟩
    refine ⟨.ref G, rfl, G, gvs, rfl, .inl (.inl (s1 _ _ hG)), ?_⟩
    intro D1 nD
    refine lc_it (walk_enumT (K := K) (a := G) (xs := gvs)) (fun i H' => Same H1 H' ∧ H' D1 = some (.lst (nats (boxesN gs c i)))) ?_ ?_ ?_ ?_
    · exact ⟨same_new nD, upd_same⟩
    · rintro i H' _ ⟨sm, _⟩
      exact .inl (.inl (sm _ _ (s1 _ _ hG)))
    · rintro i x H' H2 hi ⟨sm, eD⟩ ⟨TT, u, v, rfl, nT, rfl, e1, e2⟩
      cases e1
      rw [lg] at hi
      obtain ⟨gt, egt⟩ : ∃ gt, gs[i]? = some gt := ⟨gs[i], List.getElem?_eq_getElem hi⟩
      have tg := gal.2 i gt.td v (by rw [List.getElem?_map, egt]; rfl) e2
      have sT := (s1.trans sm).trans (same_new (o := .tup [.int (i : Int), v]) nT)
      obtain ⟨gA, rfl, egA⟩ := gt_at (tg.same sT)
      refine ⟨TT, _, rfl, .inl (.inl upd_same), rfl, _, _, rfl, _, _, rfl, rfl, ?_⟩
      refine ⟨rfl, ?_⟩
      have sT1 := sm.trans (same_new (o := .tup [.int (i : Int), .ref gA]) nT)
      have eDT := (same_new (o := .tup [.int (i : Int), .ref gA]) nT) _ _ eD
      refine ⟨.ref gA, rfl, gA, _, _, _, rfl, rfl, .inl (.inl egA), atI_nat (j := 0) gt.vs0, rfl, _, rfl, ?_⟩
      have isb : gt.kind = "box" → ∃ c' bit dd, gt = .box c' bit dd := by
        intro hk
        cases gt with
        | box c' bit dd => exact ⟨_, _, _, rfl⟩
        | inp x k => exact absurd hk (by decide +kernel : ("in" : Str) ≠ "box")
        | iz b => exact absurd hk (by decide +kernel : ("is" : Str) ≠ "box")
        | nt b => exact absurd hk (by decide +kernel : ("not" : Str) ≠ "box")
        | two y b e =>
          obtain ⟨rfl | rfl | rfl, _, _⟩ := ok.gate i _ egt
          · exact absurd hk (by decide +kernel : ("and" : Str) ≠ "box")
          · exact absurd hk (by decide +kernel : ("or" : Str) ≠ "box")
          · exact absurd hk (by decide +kernel : ("xor" : Str) ≠ "box")
      refine ite_str (fun hk => ?_) fun hk => ?_
      · obtain ⟨c', bit, dd, rfl⟩ := isb hk
        refine ⟨.ref gA, rfl, gA, _, _, _, rfl, rfl, .inl (.inl egA), atI_nat (j := 1) rfl, .str c, rfl, rfl, _, rfl, ?_⟩
        have eb := boxesN_succ (c := c) egt
        by_cases hc : c' = c
        · rw [show (Gt.box c' bit dd).isBox c = true from decide_eq_true hc, if_pos rfl] at eb
          rw [decide_eq_true (by rw [hc])]
          refine iteT ?_
          refine ⟨.int (i : Int), rfl, _, eDT, ?_, same_mut sT1 nD, ?_⟩
          · unfold nats
            rw [List.length_map]
            exact Nat.lt_of_le_of_lt (boxesN_len gs c i) (Nat.lt_of_lt_of_le (Nat.lt_of_lt_of_le hi gl) (by decide))
          · rw [upd_same, eb]
            unfold nats
            rw [List.map_append]
            rfl
        · rw [show (Gt.box c' bit dd).isBox c = false from decide_eq_false hc, if_neg Bool.false_ne_true] at eb
          rw [decide_eq_false fun z => hc (V.str.inj z)]
          refine iteF ?_
          rw [eb]
          exact ⟨sT1, eDT⟩
      · have eb := boxesN_succ (c := c) egt
        have nb : gt.isBox c = false := by
          cases gt with
          | box c' bit dd => exact absurd rfl hk
          | _ => rfl
        rw [nb, if_neg Bool.false_ne_true] at eb
        refine iteF ?_
        rw [eb]
        exact ⟨sT1, eDT⟩
    rintro H2 ⟨s2, eB⟩
    rw [lg] at eB
    generalize ebs : boxesN gs c gs.length = bs at *
    have lbs : bs.length ≤ gs.length := by
      rw [← ebs]
      exact boxesN_len gs c _
    have lsz : gs.length < sizeLine := Nat.lt_of_le_of_lt gl (by decide)
    have eG2 := s2 _ _ (s1 _ _ hG)
    have ela2 := s2 _ _ ela
    refine ⟨.ref D1, rfl, !(nats bs).isEmpty, .inl ⟨_, .inl (.inl eB), rfl⟩, ?_⟩
    cases hbs : bs with
    | nil =>
      refine iteT ?_
      refine ⟨Nat.zero_le _, fun E1 nE => ⟨.ref la, rfl, (by decide : (3 : Nat) ≤ sizeLine), fun R nR => ?_⟩⟩
      have s3 := same_new (o := .tup []) nE
      have s4 := same_new (o := .tup [.int 0, .ref E1, .ref la]) nR
      exact q R E1 la 0 [] _ (((s1.trans s2).trans s3).trans s4) upd_same (s4 _ _ upd_same) (s4 _ _ (s3 _ _ ela2)) (.inl ⟨by rw [ebs, hbs], rfl, rfl⟩)
    | cons b0 bs0 =>
      refine iteF ?_
      have hpos : 0 < bs.length := by
        rw [hbs]
        exact Nat.zero_lt_succ _
      refine ⟨.ref D1, rfl, D1, rfl, ⟨_, .inl (.inl eB)⟩, ?_⟩
      intro D2 nD2
      refine lc_it (walk_list (K := K) (a := D1) (xs := nats bs)) (fun i H' => Same H2 H' ∧ ∃ rs : List Addr, H' D2 = some (.lst (rs.map V.ref)) ∧ rs.length = i ∧
        ∀ (j : Nat) (r : Addr) (b : Nat), rs[j]? = some r → bs[j]? = some b → H' r = some (.tup [.int (boxT gs wl (arrs gs wl d) d.s b), .int (b : Int)])) ?_ ?_ ?_ ?_
      · exact ⟨same_new nD2, [], upd_same, rfl, fun j r b h => by cases h⟩
      · rintro i H' _ ⟨sm, _⟩
        exact .inl (.inl (sm _ _ eB))
      · rintro i x H' H3 hi ⟨sm, rs, eD, lr, hrs⟩ ⟨rfl, ex⟩
        have hi2 : i < bs.length := by
          unfold nats at hi
          rw [List.length_map] at hi
          exact hi
        obtain ⟨b, eb⟩ : ∃ b, bs[i]? = some b := ⟨bs[i], List.getElem?_eq_getElem hi2⟩
        rw [nats_at eb] at ex
        cases ex
        obtain ⟨hbn, bit, dd, egt⟩ := boxesN_mem (b := b) (by rw [ebs]; exact List.mem_of_getElem? eb)
        have hdd : dd < gs.length := ok.gate b _ egt
        obtain ⟨ws, ew, lw, hws⟩ := ok.at egt
        obtain ⟨w0, rfl⟩ : ∃ w0, ws = [w0] := by
          match ws, lw with
          | [w0], _ => exact ⟨w0, rfl⟩
        have lar : (arrs gs wl d).length = gs.length := arrN_len _ _ _ _
        have sAll := (s1.trans s2).trans sm
        have eD2 := eD
        refine ⟨rfl, ?_⟩
        unfold tYes
        refine iteT ?_
        refine ⟨.ref la, rfl, .ref G, rfl, vw, rfl, .int (b : Int), rfl, .ref a, rfl, a, _, _, _, rfl, rfl, sqt_same hd sAll, atI_nat (j := 0) rfl, _, _, _, arrs gs wl d, gs, wl, b, _, _, d.s, rfl, .tup (.inl (.inl (sm _ _ ela2))), hg.same sAll, hw.same sAll, ok, egt, ew, fun f hf => by rw [lar, List.mem_singleton.mp hf]; exact hdd, od.1, od.2, ?_⟩
        intro p rs' G2 s5 np ep lrs' hrs'
        have lrs1 : rs'.length = 1 := lrs'
        obtain ⟨r0, rfl⟩ : ∃ r0, rs' = [r0] := by
          match rs', lrs1 with
          | [r0], _ => exact ⟨r0, rfl⟩
        have er0 := hrs' 0 r0 _ rfl rfl
        have ebt : (arrs gs wl d).getD dd 0 + d.s * ((w0.length : Int) - 1) = boxT gs wl (arrs gs wl d) d.s b := by
          unfold boxT
          rw [egt, List.getD_eq_getElem?_getD, List.getD_eq_getElem?_getD, ew]
          rfl
        have er0 : G2 r0 = some (.tup [.int ((arrs gs wl d).getD dd 0 + d.s * ((w0.length : Int) - 1)), .int (dd : Int)]) := er0
        rw [ebt] at er0
        refine ⟨p, _, _, _, rfl, rfl, .inl (.inl ep), atI_nat (j := 0) rfl, r0, _, _, _, rfl, rfl, .inl (.inl er0), atI_nat (j := 0) rfl, .int (b : Int), rfl, (by decide : (2 : Nat) ≤ sizeLine), fun T3 n3 => ?_⟩
        have eD3 := s5 _ _ eD2
        have s6 := same_new (o := .tup [.int (boxT gs wl (arrs gs wl d) d.s b), .int (b : Int)]) n3
        have n3D : T3 ≠ D2 := fun z => by
          rw [z, eD3] at n3
          cases n3
        refine ⟨rs.map V.ref, s6 _ _ eD3, ?_, ?_, rs ++ [T3], ?_, ?_, ?_⟩
        · rw [List.length_map, lr]
          exact Nat.lt_of_lt_of_le hi2 (Nat.le_trans lbs (Nat.le_of_lt lsz))
        · exact same_mut ((sm.trans s5).trans s6) nD2
        · rw [upd_same]
          simp
        · rw [List.length_append, lr]
          rfl
        · intro j r b' h1 h2
          by_cases hj : j < i
          · have h1' : rs[j]? = some r := by
              rw [List.getElem?_append_left (by omega)] at h1
              exact h1
            have z := hrs j r b' h1' h2
            have nr : r ≠ D2 := fun w => by
              rw [w, eD] at z
              cases z
            rw [upd_ne nr]
            exact s6 _ _ (s5 _ _ z)
          · have lj : j < (rs ++ [T3]).length := (List.getElem?_eq_some_iff.mp h1).1
            rw [List.length_append, lr] at lj
            have hj2 : j = i := by
              have : [T3].length = 1 := rfl
              omega
            subst hj2
            rw [List.getElem?_append_right (by omega), lr, Nat.sub_self] at h1
            cases h1
            rw [eb] at h2
            cases h2
            rw [upd_ne n3D, upd_same]
      rintro H3 ⟨s3, rs, eD, lr, hrs⟩
      have lr2 : rs.length = bs.length := by
        rw [lr]
        unfold nats
        rw [List.length_map]
      have s03 := (s1.trans s2).trans s3
      refine ⟨D2, rs, bs.map fun b => (boxT gs wl (arrs gs wl d) d.s b, (b : Int)), rfl, .inl (.inl eD), by rw [List.length_map, lr2], by rw [List.length_map]; exact hpos, fun j r pr h1 h2 => ?_, fun j r pr h1 h2 top => ?_⟩
      · rw [List.getElem?_map] at h2
        cases eb : bs[j]? with
        | none =>
          rw [eb] at h2
          cases h2
        | some b =>
          rw [eb] at h2
          cases h2
          exact .inl (.inl (hrs j r b h1 eb))
      · rw [List.getElem?_map] at h2
        cases eb : bs[j]? with
        | none =>
          rw [eb] at h2
          cases h2
        | some b =>
          rw [eb] at h2
          cases h2
          have hb := List.mem_of_getElem? eb
          obtain ⟨hbn, bit, dd, egt⟩ := boxesN_mem (b := b) (by rw [ebs]; exact hb)
          refine ⟨r, _, rfl, .inl (.inl (hrs j r b h1 eb)), rfl, _, _, rfl, _, _, rfl, rfl, ?_⟩
          refine ⟨.int (boxT gs wl (arrs gs wl d) d.s b), rfl, .int (b : Int), rfl, .ref G, rfl, vw, rfl, .ref la, rfl, .ref a, rfl, a, _, _, _, rfl, rfl, sqt_same hd s03, atI_nat (j := 0) rfl, _, _, la, gs, wl, d, b, _, rfl, hg.same s03, hw.same s03, s3 _ _ ela2, ok, od, gl, egt, Nat.zero_lt_succ _, ?_⟩
          intro lp l H4 s4 hch hll elp
          refine ⟨.ref la, rfl, (by decide : (3 : Nat) ≤ sizeLine), fun R nR => ?_⟩
          have s5 := same_new (o := .tup [.int (boxT gs wl (arrs gs wl d) d.s b), .ref lp, .ref la]) nR
          refine q R lp la _ _ _ ((s03.trans s4).trans s5) upd_same (s5 _ _ elp) (s5 _ _ (s4 _ _ (s3 _ _ ela2))) (.inr ⟨b, l, by rw [ebs]; exact hb, rfl, hll, hch, rfl, fun b' hb' => ?_⟩)
          rw [ebs] at hb'
          exact pgt_le (top _ (List.mem_map.mpr ⟨b', hb', rfl⟩))
end
end K80

namespace K80
open PySem PySem.Spec PyProof.Rows L2 Kit
/-! ### the law's own: feeds -/
def spMoved : Sp := fun vs H Q _ => ∃ (v : V) (g : Gt) (n i : Nat), vs = [v] ∧ TdR H g.td v ∧ g.ok n i ∧ ∀ H', Same H H' → Q (.bl g.fed) H'
theorem Gt.nz1 (g : Gt) : HT.sIx g.vs.length 0 (some 1) ≠ 0 := by
  cases g with
  | inp _ _ => exact (by decide : HT.sIx 3 0 (some 1) ≠ 0)
  | iz _ => exact (by decide : HT.sIx 2 0 (some 1) ≠ 0)
  | box _ _ _ => exact (by decide : HT.sIx 4 0 (some 1) ≠ 0)
  | nt _ => exact (by decide : HT.sIx 2 0 (some 1) ≠ 0)
  | two _ _ _ => exact (by decide : HT.sIx 3 0 (some 1) ≠ 0)
theorem Gt.nz3 (g : Gt) : HT.sIx g.vs.length 0 (some 3) ≠ 0 := by
  cases g with
  | inp _ _ => exact (by decide : HT.sIx 3 0 (some 3) ≠ 0)
  | iz _ => exact (by decide : HT.sIx 2 0 (some 3) ≠ 0)
  | box _ _ _ => exact (by decide : HT.sIx 4 0 (some 3) ≠ 0)
  | nt _ => exact (by decide : HT.sIx 2 0 (some 3) ≠ 0)
  | two _ _ _ => exact (by decide : HT.sIx 3 0 (some 3) ≠ 0)
def fdK (p1 p2 p3 p4 p5 : Addr) : List (Key × V) := [(.inr "not", .ref p1), (.inr "box", .ref p2), (.inr "and", .ref p3), (.inr "or", .ref p4), (.inr "xor", .ref p5)]
theorem fd_not (p1 p2 p3 p4 p5 : Addr) : valV (mergeK [] (fdK p1 p2 p3 p4 p5)) (.inr "not") = some (.ref p1) := by rfl
theorem fd_box (p1 p2 p3 p4 p5 : Addr) : valV (mergeK [] (fdK p1 p2 p3 p4 p5)) (.inr "box") = some (.ref p2) := by rfl
theorem fd_and (p1 p2 p3 p4 p5 : Addr) : valV (mergeK [] (fdK p1 p2 p3 p4 p5)) (.inr "and") = some (.ref p3) := by rfl
theorem fd_or (p1 p2 p3 p4 p5 : Addr) : valV (mergeK [] (fdK p1 p2 p3 p4 p5)) (.inr "or") = some (.ref p4) := by rfl
theorem fd_xor (p1 p2 p3 p4 p5 : Addr) : valV (mergeK [] (fdK p1 p2 p3 p4 p5)) (.inr "xor") = some (.ref p5) := by rfl
theorem fd_in (p1 p2 p3 p4 p5 : Addr) : valV (mergeK [] (fdK p1 p2 p3 p4 p5)) (.inr "in") = none := by rfl
theorem fd_is (p1 p2 p3 p4 p5 : Addr) : valV (mergeK [] (fdK p1 p2 p3 p4 p5)) (.inr "is") = none := by rfl
section
variable {P : Program} {w : World} {K : PySem.W.Frag} {mg : Str → Option Value} {base : Heap}
theorem ok_l_moved {f : Addr} {fd : FuncData} (D : DefAt K mg "_law_moved" ["_law_gate"] s_l_moved f fd) (M : Bi mg) : Cal P w K mg base L2.CX0 1 "_law_moved" ["_law_gate"] spMoved := by
  have S := S_l_moved
  refine cal_of D.fn D.mgf D.bs D.kbs S (fun vs H Q E h => ?_) (fun cdv A outer s H vs Q E hq hr h => ?_)
  · obtain ⟨v, g, n, i, rfl, _⟩ := h
    rfl
  · obtain ⟨v, g, n, i, rfl, hg, hok, q⟩ := h
    obtain ⟨a, rfl, ea⟩ := gt_at hg
    refine ⟨_, (pss_one (ps_ret (pe_cmpR op_in_seq (pe_ix ix_tup (pv 0) pe_int (fun _ _ => rfl)) (pe_tup (pa_cons pe_str (pa_cons pe_str (pa_cons pe_str (pa_cons pe_str pa_nil))))) rfl))), ?_⟩
    refine ⟨.ref a, rfl, a, _, _, _, rfl, rfl, .inl (.inl ea), atI_nat (j := 0) g.vs0, (by decide : (4 : Nat) ≤ sizeLine), fun p np => ⟨p, _, rfl, .inr (.inl (.inl upd_same)), rfl, rfl, ?_⟩⟩
    have ein := fed_in hok
    have q2 := q _ (same_new (o := .tup [.str "not", .str "and", .str "or", .str "xor"]) np)
    rw [← ein] at q2
    exact q2
theorem ok_l_feeds {f : Addr} {fd : FuncData} (D : DefAt K mg "_law_feeds" ["_law_gate"] s_l_feeds f fd) (M : Bi mg) : Cal P w K mg base L2.CX0 1 "_law_feeds" ["_law_gate"] spFeeds := by
  have S := S_l_feeds
  refine cal_of D.fn D.mgf D.bs D.kbs S (fun vs H Q E h => ?_) (fun cdv A outer s H vs Q E hq hr h => ?_)
  · obtain ⟨v, g, n, i, rfl, _⟩ := h
    rfl
  · obtain ⟨v, g, n, i, rfl, hg, hok, q⟩ := h
    obtain ⟨a, rfl, ea⟩ := gt_at hg
    refine ⟨_, (pss_one (ps_ret (pe_dget2 (hu_of hr) (pe_disp (pps_cons pe_str (pe_slice sl_tup (pv 0) (po_some pe_int) (po_some pe_int)) (pps_cons pe_str (pe_slice sl_tup (pv 0) (po_some pe_int) (po_some pe_int)) (pps_cons pe_str (pe_slice sl_tup (pv 0) (po_some pe_int) po_none) (pps_cons pe_str (pe_slice sl_tup (pv 0) (po_some pe_int) po_none) (pps_cons pe_str (pe_slice sl_tup (pv 0) (po_some pe_int) po_none) pps_nil))))) (by rfl) (by rfl) (fun z => by cases z) (by decide)) (pe_ix ix_tup (pv 0) pe_int (fun _ _ => rfl)) (pe_tup pa_nil) ⟨rfl, rfl, rfl, rfl⟩))), ?_⟩
    intro p np
    have k1 : ∀ o, H a = some o → upd H p (.dK []) a = some o := fun o e => (same_new np) _ _ e
    refine ⟨.ref a, rfl, 1, rfl, 2, rfl, a, g.vs, rfl, .inl (.inl (k1 _ ea)), fun h => g.nz1 h.1, fun p1 np1 => ?_⟩
    have m1 := (same_new (o := .dK []) np).trans (same_new (o := .tup (cutV g.vs (some 1) (some 2))) np1)
    have d1 := (same_new (o := .tup (cutV g.vs (some 1) (some 2))) np1) p _ upd_same
    refine ⟨.ref a, rfl, 3, rfl, 4, rfl, a, g.vs, rfl, .inl (.inl (m1 _ _ ea)), fun h => g.nz3 h.1, fun p2 np2 => ?_⟩
    have m2 := m1.trans (same_new (o := .tup (cutV g.vs (some 3) (some 4))) np2)
    have d2 := (same_new (o := .tup (cutV g.vs (some 3) (some 4))) np2) p _ d1
    refine ⟨.ref a, rfl, 1, rfl, a, g.vs, rfl, .inl (.inl (m2 _ _ ea)), fun h => g.nz1 h.1, fun p3 np3 => ?_⟩
    have m3 := m2.trans (same_new (o := .tup (cutV g.vs (some 1) none)) np3)
    have d3 := (same_new (o := .tup (cutV g.vs (some 1) none)) np3) p _ d2
    refine ⟨.ref a, rfl, 1, rfl, a, g.vs, rfl, .inl (.inl (m3 _ _ ea)), fun h => g.nz1 h.1, fun p4 np4 => ?_⟩
    have m4 := m3.trans (same_new (o := .tup (cutV g.vs (some 1) none)) np4)
    have d4 := (same_new (o := .tup (cutV g.vs (some 1) none)) np4) p _ d3
    refine ⟨.ref a, rfl, 1, rfl, a, g.vs, rfl, .inl (.inl (m4 _ _ ea)), fun h => g.nz1 h.1, fun p5 np5 => ?_⟩
    have m5 := m4.trans (same_new (o := .tup (cutV g.vs (some 1) none)) np5)
    have d5 := (same_new (o := .tup (cutV g.vs (some 1) none)) np5) p _ d4
    refine ⟨d5, [(.inr "not", .ref p1), (.inr "box", .ref p2), (.inr "and", .ref p3), (.inr "or", .ref p4), (.inr "xor", .ref p5)], rfl, (by decide : (5 : Nat) ≤ 15), ?_⟩
    have m6 := same_mut (o := .dK (mergeK [] [(.inr "not", .ref p1), (.inr "box", .ref p2), (.inr "and", .ref p3), (.inr "or", .ref p4), (.inr "xor", .ref p5)])) m5 np
    have ein := m6 _ _ ea
    refine ⟨p, rfl, .inl ⟨_, .inl upd_same⟩, .ref a, rfl, a, _, _, _, rfl, rfl, .inl (.inl ein), atI_nat (j := 0) g.vs0, Nat.zero_le _, fun e1 ne1 => ?_⟩
    have m7 := m6.trans (same_new (o := .tup []) ne1)
    refine ⟨_, DGet.k (k := .inr g.kind) ((same_new (o := .tup []) ne1) _ _ upd_same), ?_⟩
    have z1 : ∀ (pj : Addr) (xs : List V) (G : Hp), pj ≠ p → Same G (upd (upd (upd (upd (upd (upd H p (.dK [])) p1 (.tup (cutV g.vs (some 1) (some 2)))) p2 (.tup (cutV g.vs (some 3) (some 4)))) p3 (.tup (cutV g.vs (some 1) none))) p4 (.tup (cutV g.vs (some 1) none))) p5 (.tup (cutV g.vs (some 1) none))) → G pj = some (.tup xs) →
        upd (upd (upd (upd (upd (upd (upd (upd H p (.dK [])) p1 (.tup (cutV g.vs (some 1) (some 2)))) p2 (.tup (cutV g.vs (some 3) (some 4)))) p3 (.tup (cutV g.vs (some 1) none))) p4 (.tup (cutV g.vs (some 1) none))) p5 (.tup (cutV g.vs (some 1) none))) p (.dK (mergeK [] (fdK p1 p2 p3 p4 p5)))) e1 (.tup []) pj = some (.tup xs) := by
      intro pj xs G n1 sG eG
      have y := sG _ _ eG
      refine (same_new (o := .tup []) ne1) _ _ ?_
      rw [upd_ne n1]
      exact y
    have w2 := same_new (o := .tup (cutV g.vs (some 3) (some 4))) np2
    have w3 := same_new (o := .tup (cutV g.vs (some 1) none)) np3
    have w4 := same_new (o := .tup (cutV g.vs (some 1) none)) np4
    have w5 := same_new (o := .tup (cutV g.vs (some 1) none)) np5
    have n1 : p1 ≠ p := (ne_of_none upd_same np1).symm
    have n2 : p2 ≠ p := (ne_of_none d1 np2).symm
    have n3 : p3 ≠ p := (ne_of_none d2 np3).symm
    have n4 : p4 ≠ p := (ne_of_none d3 np4).symm
    have n5 : p5 ≠ p := (ne_of_none d4 np5).symm
    have r1 := z1 p1 _ _ n1 (((w2.trans w3).trans w4).trans w5) upd_same
    have r2 := z1 p2 _ _ n2 ((w3.trans w4).trans w5) upd_same
    have r3 := z1 p3 _ _ n3 (w4.trans w5) upd_same
    have r4 := z1 p4 _ _ n4 w5 upd_same
    have r5 := z1 p5 _ _ n5 (Same.refl _) upd_same
    cases g with
    | inp x k =>
      show Q ((valV (mergeK [] (fdK p1 p2 p3 p4 p5)) (.inr "in")).getD _) _
      rw [fd_in]
      exact q _ _ m7 (intsT_nil upd_same)
    | iz b =>
      show Q ((valV (mergeK [] (fdK p1 p2 p3 p4 p5)) (.inr "is")).getD _) _
      rw [fd_is]
      exact q _ _ m7 (intsT_nil upd_same)
    | box c b dd =>
      show Q ((valV (mergeK [] (fdK p1 p2 p3 p4 p5)) (.inr "box")).getD _) _
      rw [fd_box]
      exact q _ _ m7 (intsT_one r2)
    | nt b =>
      show Q ((valV (mergeK [] (fdK p1 p2 p3 p4 p5)) (.inr "not")).getD _) _
      rw [fd_not]
      exact q _ _ m7 (intsT_one r1)
    | two y b c =>
      obtain ⟨rfl | rfl | rfl, _, _⟩ := hok
      · show Q ((valV (mergeK [] (fdK p1 p2 p3 p4 p5)) (.inr "and")).getD _) _
        rw [fd_and]
        exact q _ _ m7 (intsT_two r3)
      · show Q ((valV (mergeK [] (fdK p1 p2 p3 p4 p5)) (.inr "or")).getD _) _
        rw [fd_or]
        exact q _ _ m7 (intsT_two r4)
      · show Q ((valV (mergeK [] (fdK p1 p2 p3 p4 p5)) (.inr "xor")).getD _) _
        rw [fd_xor]
        exact q _ _ m7 (intsT_two r5)
end
end K80

namespace K80
open PySem PySem.Spec PyProof.Rows L2 Kit
/-! ### the law's own: what feeds bring -/
def Gt.more (d : Own) (g : Gt) : Int := if g.fed then g.own d else 0
def lbr (arr : List Int) (g : Gt) (ws : List Way) (d : Own) : List Int := (bro arr g.feeds (lens ws) d.s).map fun p => p.1 + g.more d
def spBring (K : PySem.W.Frag) : Sp := fun vs H Q _ => ∃ (vm vy va : V) (oa : Addr) (gs : List Gt) (cs : List (Int × Int)) (wl : List (List Way)) (arr : List Int) (d : Own) (k : Nat) (gt : Gt) (ws : List Way),
  vs = [vm, vy, va, .ref oa, .int (k : Int)] ∧ TdR H (netT gs) vm ∧ TdR H (layT cs wl) vy ∧ Sq K H va (arr.map V.int) ∧ SqT K H oa (ownV d) ∧ Okl gs wl ∧ d.ok ∧ gs[k]? = some gt ∧ wl[k]? = some ws ∧ (∀ f ∈ gt.feeds, f < arr.length) ∧
  ∀ (p : Addr) (H' : Hp), Same H H' → H p = none → H' p = some (.lst ((lbr arr gt ws d).map V.int)) → Q (.ref p) H'
theorem net_inv {H : Hp} {gs : List Gt} {v : V} (h : TdR H (netT gs) v) : ∃ N G gvs rest, v = .ref N ∧ H N = some (.tup (.ref G :: rest)) ∧ TdR H (gatesT gs) (.ref G) ∧ H G = some (.tup gvs) ∧ All2 H (gs.map Gt.td) gvs ∧ gvs.length = gs.length := by
  obtain ⟨N, nvs, rfl, eN, nal⟩ := h.inv_tup
  obtain ⟨vg, nvs, rfl, hg, nal⟩ := nal.inv_cons
  obtain ⟨G, gvs, rfl, hG, gal⟩ := hg.inv_tup
  exact ⟨N, G, gvs, nvs, rfl, eN, hg, hG, gal, by rw [← gal.1, List.length_map]⟩
theorem lay_inv {H : Hp} {cs : List (Int × Int)} {wl : List (List Way)} {v : V} (h : TdR H (layT cs wl) v) : ∃ Y vc W wvs, v = .ref Y ∧ H Y = some (.tup [vc, .ref W]) ∧ TdR H (waysT wl) (.ref W) ∧ H W = some (.tup wvs) ∧ All2 H (wl.map fun ws => Td.tup (ws.map wayT)) wvs := by
  obtain ⟨Y, yvs, rfl, eY, yal⟩ := h.inv_tup
  obtain ⟨vc, yvs, rfl, _, yal⟩ := yal.inv_cons
  obtain ⟨vw, yvs, rfl, hw, yal⟩ := yal.inv_cons
  obtain rfl := yal.inv_nil
  obtain ⟨W, wvs, rfl, hW, wal⟩ := hw.inv_tup
  exact ⟨Y, vc, W, wvs, rfl, eY, hw, hW, wal⟩
theorem kinds {g : Gt} {n i : Nat} (h : g.ok n i) (d : Own) : ∃ (b1 b2 : Bool) (j : Nat) (o : Int), decide (V.str g.kind = V.str "not") = b1 ∧ inV (.str g.kind) [.str "and", .str "or", .str "xor"] = b2 ∧
    ((if b1 = true then 1 else 0) + 2 * (if b2 = true then 1 else 0) : Int) = (j : Int) ∧ ([.int 0, .int 1, .int 2] : List V)[j]? = some (.int (j : Int)) ∧ (ownV d)[j]? = some (.int o) ∧ o * (if g.fed = true then 1 else 0) = g.more d := by
  cases g with
  | inp x k => exact ⟨false, false, 0, d.s, (by decide +kernel : decide (V.str "in" = V.str "not") = false), (by decide +kernel : inV (.str "in") [.str "and", .str "or", .str "xor"] = false), rfl, rfl, rfl, Int.mul_zero _⟩
  | iz b => exact ⟨false, false, 0, d.s, (by decide +kernel : decide (V.str "is" = V.str "not") = false), (by decide +kernel : inV (.str "is") [.str "and", .str "or", .str "xor"] = false), rfl, rfl, rfl, Int.mul_zero _⟩
  | box c b e => exact ⟨false, false, 0, d.s, (by decide +kernel : decide (V.str "box" = V.str "not") = false), (by decide +kernel : inV (.str "box") [.str "and", .str "or", .str "xor"] = false), rfl, rfl, rfl, Int.mul_zero _⟩
  | nt a => exact ⟨true, false, 1, d.o, (by decide +kernel : decide (V.str "not" = V.str "not") = true), (by decide +kernel : inV (.str "not") [.str "and", .str "or", .str "xor"] = false), rfl, rfl, rfl, Int.mul_one _⟩
  | two y a c =>
    obtain ⟨rfl | rfl | rfl, _, _⟩ := h
    · exact ⟨false, true, 2, d.t, (by decide +kernel : decide (V.str "and" = V.str "not") = false), (by decide +kernel : inV (.str "and") [.str "and", .str "or", .str "xor"] = true), rfl, rfl, rfl, Int.mul_one _⟩
    · exact ⟨false, true, 2, d.t, (by decide +kernel : decide (V.str "or" = V.str "not") = false), (by decide +kernel : inV (.str "or") [.str "and", .str "or", .str "xor"] = true), rfl, rfl, rfl, Int.mul_one _⟩
    · exact ⟨false, true, 2, d.t, (by decide +kernel : decide (V.str "xor" = V.str "not") = false), (by decide +kernel : inV (.str "xor") [.str "and", .str "or", .str "xor"] = true), rfl, rfl, rfl, Int.mul_one _⟩
theorem sql_same {K : PySem.W.Frag} {H H1 : Hp} {a : Addr} {xs : List V} (e : SqL K H a xs) (h : Same H H1) : SqL K H1 a xs := by
  rcases e with (e | ⟨o, e⟩) | e
  · exact .inl (.inl (h _ _ e))
  · exact .inl (.inr ⟨o, h _ _ e⟩)
  · exact .inr e
theorem take_snoc {α : Type} {l : List α} {i : Nat} {x : α} (h : l[i]? = some x) : l.take (i + 1) = l.take i ++ [x] := by
  rw [List.take_succ, h]
  rfl
section
variable {P : Program} {w : World} {K : PySem.W.Frag} {mg : Str → Option Value} {base : Heap}
theorem ok_l_bring {f : Addr} {fd : FuncData} (D : DefAt K mg "_law_bring" ["_law_net_here", "_law_laying_here", "_law_said", "_law_own", "_law_k"] s_l_bring f fd) (M : Bi mg)
    (C_l_feeds : Cal P w K mg base L2.CX0 1 "_law_feeds" ["_law_gate"] spFeeds) (C_l_moved : Cal P w K mg base L2.CX0 1 "_law_moved" ["_law_gate"] spMoved) :
    Cal P w K mg base L2.CX0 2 "_law_bring" ["_law_net_here", "_law_laying_here", "_law_said", "_law_own", "_law_k"] (spBring K) := by
  have S := S_l_bring
  refine cal_of D.fn D.mgf D.bs D.kbs S (fun vs H Q E h => ?_) (fun cdv A outer s H vs Q E hq hr h => ?_)
  · obtain ⟨vm, vy, va, oa, gs, cs, wl, arr, d, k, gt, ws, rfl, _⟩ := h
    rfl
  · obtain ⟨vm, vy, va, oa, gs, cs, wl, arr, d, k, gt, ws, rfl, hm, hy, hs, ho, ok, od, egt, ew, hf, q⟩ := h
    refine ⟨_, (pss_cons (ps_set (i := 5) S.nd rfl (.inl rfl) (pe_ix ix_tup (pe_ix ix_tup (pv 0) pe_int (fun _ _ => rfl)) (pv 4) (fun _ _ => rfl)))
 (pss_cons (ps_set (i := 6) S.nd rfl (.inl rfl) (pe_op op_mulB (pe_ix ix_tup (pv 3) (pe_ix ix_list (pe_lst (pa_cons pe_int (pa_cons pe_int (pa_cons pe_int pa_nil)))) (pe_op op_add (pe_callTy call_int1 (by rfl) M.int_ (by decide +kernel) (pa_cons (pe_cmpR op_eq (pe_ix ix_tup (pv 5) pe_int (fun _ _ => rfl)) pe_str (nomark _)) pa_nil)) (pe_op op_mulB pe_int (pe_callTy call_int1 (by rfl) M.int_ (by decide +kernel) (pa_cons (pe_cmpR op_in_seq (pe_ix ix_tup (pv 5) pe_int (fun _ _ => rfl)) (pe_tup (pa_cons pe_str (pa_cons pe_str (pa_cons pe_str pa_nil)))) rfl) pa_nil)))) (fun _ _ => rfl)) (fun _ _ => rfl)) (pe_callTy call_int1 (by rfl) M.int_ (by decide +kernel) (pa_cons (pe_c C_l_moved pass0 hq hr (by omega) (by rfl) (pa_cons (pv 5) pa_nil)) pa_nil))))
 (pss_cons (ps_set (i := 7) S.nd rfl (.inl rfl) (pe_lst pa_nil))
 (pss_cons (ps_for PassesOwn.never rfl (RZ.pi_zipA (by rfl) M.zip_ (pa_cons (pe_c C_l_feeds pass0 hq hr (by omega) (by rfl) (pa_cons (pv 5) pa_nil)) (pa_cons (pe_ix ix_tup (pe_ix ix_tup (pv 1) pe_int (fun _ _ => rfl)) (pv 4) (fun _ _ => rfl)) pa_nil))) (pg_tup (by rfl) (pgs_cons (pg_name (i := 8) S.nd rfl (.inl rfl)) (pgs_cons (pg_name (i := 9) S.nd rfl (.inl rfl)) pgs_nil)))
  (pss_one (ps_expr (pe_bm PySem.F.plainAttrs_list PySem.F.slot_list_append PySem.F.type_list_append mt_append (pv 7) (pa_cons (pe_op op_add (pe_op op_add (pe_ix ix_seq (pv 2) (pv 8) (fun _ _ => rfl)) (pe_op op_mulB (pe_ix ix_tup (pv 3) pe_int (fun _ _ => rfl)) (pe_op op_sub (pe_callB call_len_seq (by rfl) M.len_ (by decide +kernel) (pa_cons (pv 9) pa_nil)) pe_int))) (pv 6)) pa_nil)))))
 (pss_one (ps_ret (pv 7))))))), ?_⟩
    obtain ⟨N, G, gvs, nr, rfl, eN, hg, hG, gal, lg⟩ := net_inv hm
    obtain ⟨Y, vc, W, wvs, rfl, eY, hw, hW, wal⟩ := lay_inv hy
    obtain ⟨gv, egv, tgv⟩ := all2_get gal (i := k) (t := gt.td) (by rw [List.getElem?_map, egt]; rfl)
    obtain ⟨wv, ewv, twv⟩ := all2_get wal (i := k) (t := .tup (ws.map wayT)) (by rw [List.getElem?_map, ew]; rfl)
    obtain ⟨gA, rfl, egA⟩ := gt_at tgv
    refine ⟨.ref N, rfl, N, _, _, _, rfl, rfl, .inl (.inl eN), atI_nat (j := 0) rfl, .int (k : Int), rfl, G, _, _, _, rfl, rfl, .inl (.inl hG), atI_nat egv, ?_⟩
    obtain ⟨b1, b2, j, o, e1, e2, e3, e4, e5, e6⟩ := kinds (ok.gate k gt egt) d
    refine ⟨.ref oa, rfl, (by decide : (3 : Nat) ≤ sizeLine), fun p1 np1 => ?_⟩
    have s1 := same_new (o := .lst [.int 0, .int 1, .int 2]) np1
    refine ⟨.ref gA, rfl, gA, _, _, _, rfl, rfl, .inl (.inl (s1 _ _ egA)), atI_nat (j := 0) gt.vs0, rfl, .inr ⟨_, rfl, ?_⟩⟩
    rw [e1]
    refine ⟨.ref gA, rfl, gA, _, _, _, rfl, rfl, .inl (.inl (s1 _ _ egA)), atI_nat (j := 0) gt.vs0, (by decide : (3 : Nat) ≤ sizeLine), fun p2 np2 => ?_⟩
    have s2 := s1.trans (same_new (o := .tup [.str "and", .str "or", .str "xor"]) np2)
    refine ⟨p2, _, rfl, .inr (.inl (.inl upd_same)), rfl, rfl, .inr ⟨_, rfl, ?_⟩⟩
    have e2' : (if false = true then !inV (.str gt.kind) [.str "and", .str "or", .str "xor"] else inV (.str gt.kind) [.str "and", .str "or", .str "xor"]) = b2 := by
      rw [if_neg Bool.false_ne_true]
      exact e2
    rw [e2']
    refine ⟨_, _, rfl, rfl, .of_left (intBits_le_64 (by decide) (by decide)), _, _, rfl, rfl, ?_⟩
    dsimp only
    rw [e3]
    have e1p := (same_new (o := .tup [.str "and", .str "or", .str "xor"]) np2) p1 _ upd_same
    refine ⟨p1, _, _, _, rfl, rfl, .inl (.inl e1p), atI_nat e4, oa, _, _, _, rfl, rfl, sqt_same ho s2, atI_nat e5, .ref gA, rfl, .ref gA, gt, gs.length, k, rfl, tgv.same s2, ok.gate k gt egt, fun H3 s3 => .inr ⟨_, rfl, _, _, rfl, rfl, .of_right (intBits_le_64 (by split <;> decide) (by split <;> decide)), ?_⟩⟩
    dsimp only
    rw [e6]
    refine ⟨(by decide : (0 : Nat) ≤ sizeLine), fun F nF => ?_⟩
    have s4 := (s2.trans s3).trans (same_new (o := .lst []) nF)
    refine ⟨.ref gA, rfl, .ref gA, gt, gs.length, k, rfl, tgv.same s4, ok.gate k gt egt, fun fv H4 s5 tf => ?_⟩
    have s04 := s4.trans s5
    have twv1 := twv.same s04
    obtain ⟨Wg, cvs, rfl, hWg, cal⟩ := twv1.inv_tup
    obtain ⟨Fg, fvs, rfl, hFg, fal⟩ := tf.inv_tup
    obtain rfl := all2_ints fal
    have eF := s5 F _ upd_same
    have nF0 : H F = none := none_back (s2.trans s3) nF
    obtain ⟨lw, hws⟩ := ok.ways k gt ws egt ew
    have n1 : gt.feeds.length = (gt.feeds.map fun (k : Nat) => V.int (k : Int)).length := (List.length_map _).symm
    have n2 : gt.feeds.length = cvs.length := by rw [← cal.1, List.length_map, lw]
    have lb : (lbr arr gt ws d).length = gt.feeds.length := by
      unfold lbr bro lens
      rw [List.length_map, List.length_zipWith, List.length_map, lw, Nat.min_self]
    refine ⟨.ref Y, rfl, Y, _, _, _, rfl, rfl, .inl (.inl (s04 _ _ eY)), atI_nat (j := 1) rfl, .int (k : Int), rfl, W, _, _, _, rfl, rfl, .inl (.inl (s04 _ _ hW)), atI_nat ewv, Fg, Wg, _, _, rfl, .inr ⟨.inl (.inl hFg), .inl (.inl hWg), ?_⟩⟩
    have nFg : Fg ≠ F := fun z => by
      rw [z, eF] at hFg
      cases hFg
    have nWg : Wg ≠ F := fun z => by
      rw [z, eF] at hWg
      cases hWg
    refine for_it (walk_zipT (K := K) (a := Fg) (b := Wg) n1 n2) (fun i σ H' => Same H H' ∧ H' Fg = some (.tup (gt.feeds.map fun (k : Nat) => V.int (k : Int))) ∧ H' Wg = some (.tup cvs) ∧ All2 H' (ws.map wayT) cvs ∧ H' F = some (.lst (((lbr arr gt ws d).take i).map V.int)) ∧ ∃ x8 x9 : Option V,
      σ = [some (.ref N), some (.ref Y), some va, some (.ref oa), some (.int (k : Int)), some (.ref gA), some (.int (gt.more d)), some (.ref F), x8, x9]) ?_ ?_ ?_ ?_
    · exact ⟨s04, hFg, hWg, cal, eF, none, none, rfl⟩
    · rintro i σ H' _ ⟨_, h1, h2, _⟩
      exact ⟨.inl (.inl h1), .inl (.inl h2)⟩
    · rintro i x σ H' H2 hi ⟨sm, h1, h2, cal', eF', x8, x9, rfl⟩ ⟨TT, u, v, rfl, nT, rfl, f1, f2⟩
      have f1' : (gt.feeds.map fun (k : Nat) => V.int (k : Int))[i]? = some u := f1
      rw [List.getElem?_map] at f1'
      obtain ⟨fi, efi, rfl⟩ : ∃ fi : Nat, gt.feeds[i]? = some fi ∧ V.int (fi : Int) = u := by
        cases hfi : gt.feeds[i]? with
        | none =>
          rw [hfi] at f1'
          cases f1'
        | some fi =>
          rw [hfi] at f1'
          exact ⟨fi, rfl, Option.some.inj f1'⟩
      obtain ⟨wi, ewi⟩ : ∃ wi, ws[i]? = some wi := ⟨ws[i]'(by omega), List.getElem?_eq_getElem _⟩
      have twi := cal'.2 i (wayT wi) v (by rw [List.getElem?_map, ewi]; rfl) f2
      have smT0 := same_new (o := .tup [.int (fi : Int), v]) nT
      have smT := sm.trans smT0
      obtain ⟨C, cellsV, rfl, hC, cl⟩ := (twi.same smT0).inv_tup
      have lenC : cellsV.length = wi.length := by rw [← cl.1, List.length_map]
      obtain ⟨w1, w2⟩ := hws wi (List.mem_of_getElem? ewi)
      have lfi : fi < arr.length := hf fi (List.mem_of_getElem? efi)
      have efl : (lbr arr gt ws d)[i]? = some (arr.getD fi 0 + d.s * ((wi.length : Int) - 1) + gt.more d) := by
        unfold lbr bro lens
        rw [List.getElem?_map, List.getElem?_zipWith, efi, List.getElem?_map, ewi]
        rfl
      have eF1 := smT0 _ _ eF'
      refine ⟨TT, _, rfl, .inl (.inl upd_same), rfl, _, _, rfl, _, _, rfl, rfl, ?_⟩
      refine ⟨.ref F, rfl, .inl ⟨rfl, _, .inl (.inl eF1)⟩, va, rfl, .int (fi : Int), rfl, (sq_same hs smT).item (atI_nat (arr_at lfi)) ?_⟩
      refine ⟨.ref oa, rfl, oa, _, _, _, rfl, rfl, sqt_same ho smT, atI_nat (j := 0) rfl, .ref C, rfl, C, cellsV, rfl, .inr (.inl (.inl hC)), _, _, rfl, rfl, _, _, rfl, rfl, mul_ok (e := lenC) od.1 od.2, _, _, rfl, rfl, .int (gt.more d), rfl, _, _, rfl, rfl, F, _, _, rfl, rfl, eF1, ?_, ?_⟩
      · rw [List.length_map, List.length_take, lb]
        exact Nat.lt_of_le_of_lt (Nat.min_le_right _ _) (Nat.lt_of_le_of_lt gt.feeds_le (by decide))
      · refine ⟨same_mut smT nF0, ?_, ?_, ?_, ?_, _, _, rfl⟩
        · rw [upd_ne nFg]
          exact smT0 _ _ h1
        · rw [upd_ne nWg]
          exact smT0 _ _ h2
        · exact (cal'.same smT0).keep fun q vs e => by
            rw [upd_ne (fun z => by rw [z, eF1] at e; cases e)]
            exact e
        · rw [upd_same, take_snoc efl, List.map_append, lenC]
          rfl
    · rintro σ H' ⟨sm, _, _, _, eF', x8, x9, rfl⟩
      refine ⟨.ref F, rfl, q F H' sm nF0 ?_⟩
      rw [← lb, List.take_length] at eF'
      exact eF'
end
end K80

namespace K80
open PySem PySem.Spec PyProof.Rows L2 Kit
/-! ### the law's own: arrivals, times -/
def spLArr (K : PySem.W.Frag) : Sp := fun vs H Q _ => ∃ (vm vy : V) (oa : Addr) (gs : List Gt) (cs : List (Int × Int)) (wl : List (List Way)) (d : Own),
  vs = [vm, vy, .ref oa] ∧ TdR H (netT gs) vm ∧ TdR H (layT cs wl) vy ∧ SqT K H oa (ownV d) ∧ Okl gs wl ∧ d.ok ∧ gs.length ≤ 1000 ∧
  ∀ (p : Addr) (H' : Hp), Same H H' → H p = none → H' p = some (.lst ((arrs gs wl d).map V.int)) → Q (.ref p) H'
def timeV (gs : List Gt) (wl : List (List Way)) (arr : List Int) (step : Int) (bs : List Nat) : V := match bs with
  | [] => .non
  | bs => .int (mxi (bs.map (boxT gs wl arr step)))
def spLTime (K : PySem.W.Frag) : Sp := fun vs H Q _ => ∃ (vm vy va : V) (oa : Addr) (gs : List Gt) (cs : List (Int × Int)) (wl : List (List Way)) (arr : List Int) (d : Own) (c : Str),
  vs = [vm, vy, va, .ref oa, .str c] ∧ TdR H (netT gs) vm ∧ TdR H (layT cs wl) vy ∧ Sq K H va (arr.map V.int) ∧ SqT K H oa (ownV d) ∧ Okl gs wl ∧ d.ok ∧ gs.length ≤ 1000 ∧ arr.length = gs.length ∧
  ∀ (H' : Hp), Same H H' → Q (timeV gs wl arr d.s (boxesN gs c gs.length)) H'
section
variable {P : Program} {w : World} {K : PySem.W.Frag} {mg : Str → Option Value} {base : Heap}
theorem ok_l_arr {f : Addr} {fd : FuncData} (D : DefAt K mg "_law_arrivals" ["_law_net_here", "_law_laying_here", "_law_own"] s_l_arrivals f fd) (M : Bi mg)
    (C_l_bring : Cal P w K mg base L2.CX0 2 "_law_bring" ["_law_net_here", "_law_laying_here", "_law_said", "_law_own", "_law_k"] (spBring K)) (C_l_moved : Cal P w K mg base L2.CX0 1 "_law_moved" ["_law_gate"] spMoved) :
    Cal P w K mg base L2.CX0 3 "_law_arrivals" ["_law_net_here", "_law_laying_here", "_law_own"] (spLArr K) := by
  have S := S_l_arrivals
  refine cal_of D.fn D.mgf D.bs D.kbs S (fun vs H Q E h => ?_) (fun cdv A outer s H vs Q E hq hr h => ?_)
  · obtain ⟨vm, vy, oa, gs, cs, wl, d, rfl, _⟩ := h
    rfl
  · obtain ⟨vm, vy, oa, gs, cs, wl, d, rfl, hm, hy, ho, ok, od, gl, q⟩ := h
    refine ⟨_, (pss_cons (ps_set (i := 3) S.nd rfl (.inl rfl) (pe_lst pa_nil))
 (pss_cons (ps_for PassesOwn.never rfl (pi_range1 (by rfl) M.range_ (pa_cons (pe_callB call_len_seq (by rfl) M.len_ (by decide +kernel) (pa_cons (pe_ix ix_tup (pv 0) pe_int (fun _ _ => rfl)) pa_nil)) pa_nil)) (pg_name (i := 4) S.nd rfl (.inl rfl))
  (pss_one (ps_expr (pe_bm PySem.F.plainAttrs_list PySem.F.slot_list_append PySem.F.type_list_append mt_append (pv 3) (pa_cons (pe_ifExp (pt_val (pe_c C_l_moved pass0 hq hr (by omega) (by rfl) (pa_cons (pe_ix ix_tup (pe_ix ix_tup (pv 0) pe_int (fun _ _ => rfl)) (pv 4) (fun _ _ => rfl)) pa_nil))) (pe_callB (cr_max rfl) (by rfl) M.max_ (by decide +kernel) (pa_cons (pe_c C_l_bring pass0 hq hr (by omega) (by rfl) (pa_cons (pv 0) (pa_cons (pv 1) (pa_cons (pv 3) (pa_cons (pv 2) (pa_cons (pv 4) pa_nil)))))) pa_nil)) pe_int) pa_nil)))))
 (pss_one (ps_ret (pv 3))))), ?_⟩
    obtain ⟨N, G, gvs, nr, rfl, eN, hg, hG, gal, lg⟩ := net_inv hm
    have lsz : gs.length < sizeLine := Nat.lt_of_le_of_lt gl (by decide)
    have bnd : ∀ n : Nat, n ≤ 1000 → -(2 ^ 62) ≤ (n : Int) ∧ (n : Int) < 2 ^ 62 := fun n h => by omega
    refine ⟨(by decide : (0 : Nat) ≤ sizeLine), fun F nF => ?_⟩
    have s0 := same_new (o := .lst []) nF
    refine ⟨.ref N, rfl, N, _, _, _, rfl, rfl, .inl (.inl (s0 _ _ eN)), atI_nat (j := 0) rfl, G, gvs, rfl, .inr (.inl (.inl (s0 _ _ hG))), _, rfl, (bnd _ (by omega)).1, (bnd _ (by omega)).2, for_range (lo := 0) (n := gvs.length) (fun i σ H' => Same H H' ∧ H' F = some (.lst ((arrN gs wl d i).map V.int)) ∧ ∃ x4 : Option V,
      σ = [some (.ref N), some vy, some (.ref oa), some (.ref F), x4]) ?_ ?_ ?_⟩
    · exact ⟨s0, upd_same, none, rfl⟩
    · rintro i σ H' hi ⟨sm, eF, x4, rfl⟩
      rw [Int.zero_add]
      rw [lg] at hi
      obtain ⟨gt, egt⟩ : ∃ gt, gs[i]? = some gt := ⟨gs[i], List.getElem?_eq_getElem hi⟩
      obtain ⟨gv, egv, tgv⟩ := all2_get gal (i := i) (t := gt.td) (by rw [List.getElem?_map, egt]; rfl)
      obtain ⟨ws, ew, lw, hws⟩ := ok.at egt
      have lF : ((arrN gs wl d i).map V.int).length < sizeLine := by
        rw [List.length_map, arrN_len]
        exact Nat.lt_trans hi lsz
      refine ⟨.ref F, rfl, .inl ⟨rfl, _, .inl (.inl eF)⟩, .ref N, rfl, N, _, _, _, rfl, rfl, .inl (.inl (sm _ _ eN)), atI_nat (j := 0) rfl, .int (i : Int), rfl, G, _, _, _, rfl, rfl, .inl (.inl (sm _ _ hG)), atI_nat egv, _, gt, gs.length, i, rfl, tgv.same sm, ok.gate i gt egt, fun H2 s2 => ⟨_, rfl, ?_⟩⟩
      have eF2 := s2 _ _ eF
      cases hfd : gt.fed with
      | false =>
        refine iteF ?_
        have em : arrV gs wl d (arrN gs wl d i) i = 0 := by
          unfold arrV
          rw [egt]
          dsimp only
          rw [hfd]
          rfl
        refine ⟨F, _, _, rfl, rfl, eF2, lF, same_mut (sm.trans s2) nF, ?_, _, rfl⟩
        rw [upd_same, arrN, List.map_append, em]
        rfl
      | true =>
        refine iteT ?_
        have sm2 := sm.trans s2
        refine ⟨.ref N, rfl, vy, rfl, .ref F, rfl, .ref oa, rfl, .int (i : Int), rfl, _, _, .ref F, oa, gs, cs, wl, arrN gs wl d i, d, i, gt, ws, rfl, hm.same sm2, hy.same sm2, .lst (.inl (.inl eF2)), sqt_same ho sm2, ok, od, egt, ew, fun f hf => by rw [arrN_len]; exact fed_lt (ok.gate i gt egt) hfd f hf, ?_⟩
        intro p H3 s3 np ep
        have lb : (lbr (arrN gs wl d i) gt ws d).length = gt.feeds.length := by
          unfold lbr bro lens
          rw [List.length_map, List.length_zipWith, List.length_map, lw, Nat.min_self]
        refine ⟨p, _, rfl, .inl (.inl ep), by rw [lb]; exact fed_pos hfd, fun m hmm hle => ?_⟩
        have em : arrV gs wl d (arrN gs wl d i) i = m := by
          unfold arrV
          rw [egt]
          dsimp only
          rw [hfd, List.getD_eq_getElem?_getD, ew]
          show mxi ((bro (arrN gs wl d i) gt.feeds (lens ws) d.s).map (·.1)) + _ = _
          unfold lbr at hmm hle
          obtain ⟨pr, hpr, rfl⟩ := List.mem_map.mp hmm
          have emo : gt.more d = gt.own d := by
            unfold Gt.more
            rw [hfd]
            rfl
          rw [mxi_eq (m := pr.1) (List.mem_map.mpr ⟨pr, hpr, rfl⟩) fun x hx => ?_, emo]
          obtain ⟨q', hq', rfl⟩ := List.mem_map.mp hx
          have := hle _ (List.mem_map.mpr ⟨q', hq', rfl⟩)
          omega
        refine ⟨F, _, _, rfl, rfl, s3 _ _ eF2, lF, same_mut (sm2.trans s3) nF, ?_, _, rfl⟩
        rw [upd_same, arrN, List.map_append, em]
        rfl
    · rintro σ H' ⟨sm, eF, x4, rfl⟩
      rw [lg] at eF
      exact ⟨.ref F, rfl, q F H' sm nF eF⟩
theorem ok_l_time {f : Addr} {fd : FuncData} (D : DefAt K mg "_law_time" ["_law_net_here", "_law_laying_here", "_law_said", "_law_own", "_law_clock"] s_l_time f fd) (M : Bi mg)
    (C_l_bring : Cal P w K mg base L2.CX0 2 "_law_bring" ["_law_net_here", "_law_laying_here", "_law_said", "_law_own", "_law_k"] (spBring K)) :
    Cal P w K mg base L2.CX0 3 "_law_time" ["_law_net_here", "_law_laying_here", "_law_said", "_law_own", "_law_clock"] (spLTime K) := by
  have S := S_l_time
  refine cal_of D.fn D.mgf D.bs D.kbs S (fun vs H Q E h => ?_) (fun cdv A outer s H vs Q E hq hr h => ?_)
  · obtain ⟨vm, vy, va, oa, gs, cs, wl, arr, d, c, rfl, _⟩ := h
    rfl
  · obtain ⟨vm, vy, va, oa, gs, cs, wl, arr, d, c, rfl, hm, hy, hs, ho, ok, od, gl, la, q⟩ := h
    refine ⟨_, (pss_cons (ps_setLc (i := 5) (own := [("_law_k", 6)]) (g := gName 6) (tt := (tAnd (tTest (tOp rEq (tOp (rIxT K) (tOp (rIxT K) (tOp (rIxT K) (tVar 0) (tC (.int 0))) (tVar 6)) (tC (.int 0))) (tC (.str "box")))) (tTest (tOp rEq (tOp (rIxT K) (tOp (rIxT K) (tOp (rIxT K) (tVar 0) (tC (.int 0))) (tVar 6)) (tC (.int 1))) (tVar 4))))) rfl S.nd rfl rfl (sw_true rfl rfl rfl (by decide +kernel)) (pi_range1 (by rfl) M.range_ (pa_cons (pe_callB call_len_seq (by rfl) M.len_ (by decide +kernel) (pa_cons (pe_ix ix_tup (pv 0) pe_int (fun _ _ => rfl)) pa_nil)) pa_nil)) (blkOk_by (own := [("_law_k", 6)]) (N := N_l_time) (sc := defScope s_l_time) (by decide +kernel)) (fun _ _ _ _ _ => pg_name (i := 6) S.nd rfl (.inl rfl)) (fun _ _ _ _ _ => (pts_one (PW.pt (pw_and (pt_cmpR op_eq (pe_ix ix_tup (pe_ix ix_tup (pe_ix ix_tup (pv 0) pe_int (fun _ _ => rfl)) (pv 6) (fun _ _ => rfl)) pe_int (fun _ _ => rfl)) pe_str (nomark _)) (pw_and1 (pt_cmpR op_eq (pe_ix ix_tup (pe_ix ix_tup (pe_ix ix_tup (pv 0) pe_int (fun _ _ => rfl)) (pv 6) (fun _ _ => rfl)) pe_int (fun _ _ => rfl)) (pv 4) (nomark _))))))) (fun _ _ _ _ _ => (pv 6)))
 (pss_one (ps_ret (pe_callBK (call_maxDf rfl) (by rfl) M.max_ (by decide +kernel) (pa_cons (pe_lc (own := [("_law_k", 6)]) (g := gName 6) (tt := tYes) (te := (tOp (rIxL K) (tCall (spBring K) [] E0 (tCons (tVar 0) (tCons (tVar 1) (tCons (tVar 2) (tCons (tVar 3) (tCons (tVar 6) tNil)))))) (tC (.int 0)))) rfl S.nd (pi_list (pv 5)) (blkOk_by (own := [("_law_k", 6)]) (N := N_l_time) (sc := defScope s_l_time) (by decide +kernel)) (fun _ _ _ _ _ => pg_name (i := 6) S.nd rfl (.inl rfl)) (fun _ _ _ _ _ => pts_nil) (fun _ _ _ _ _ => (pe_ix ix_list (pe_c C_l_bring pass0 hq hr (by omega) (by rfl) (pa_cons (pv 0) (pa_cons (pv 1) (pa_cons (pv 2) (pa_cons (pv 3) (pa_cons (pv 6) pa_nil)))))) pe_int (fun _ _ => rfl)))) pa_nil) (pk_cons pe_non pk_nil))))), ?_⟩
    obtain ⟨N, G, gvs, nr, rfl, eN, hg, hG, gal, lg⟩ := net_inv hm
    have lsz : gs.length < sizeLine := Nat.lt_of_le_of_lt gl (by decide)
    have bnd : ∀ n : Nat, n ≤ 1000 → -(2 ^ 62) ≤ (n : Int) ∧ (n : Int) < 2 ^ 62 := fun n h => by omega
    refine ⟨.ref N, rfl, N, _, _, _, rfl, rfl, .inl (.inl eN), atI_nat (j := 0) rfl, G, gvs, rfl, .inr (.inl (.inl hG)), _, rfl, (bnd _ (by omega)).1, (bnd _ (by omega)).2, ?_⟩
    intro D1 nD
    refine lc_range (lo := 0) (n := gvs.length) (fun i H' => Same H H' ∧ H' D1 = some (.lst (nats (boxesN gs c i)))) ?_ ?_ ?_
    · exact ⟨same_new nD, upd_same⟩
    · rintro i H' hi ⟨sm, eD⟩
      rw [Int.zero_add]
      rw [lg] at hi
      obtain ⟨gt, egt⟩ : ∃ gt, gs[i]? = some gt := ⟨gs[i], List.getElem?_eq_getElem hi⟩
      obtain ⟨gv, egv, tgv⟩ := all2_get gal (i := i) (t := gt.td) (by rw [List.getElem?_map, egt]; rfl)
      obtain ⟨gA, rfl, egA⟩ := gt_at (tgv.same sm)
      refine ⟨rfl, ?_⟩
      refine ⟨.ref N, rfl, N, _, _, _, rfl, rfl, .inl (.inl (sm _ _ eN)), atI_nat (j := 0) rfl, .int (i : Int), rfl, G, _, _, _, rfl, rfl, .inl (.inl (sm _ _ hG)), atI_nat egv, gA, _, _, _, rfl, rfl, .inl (.inl egA), atI_nat (j := 0) gt.vs0, rfl, _, rfl, ?_⟩
      have isb : gt.kind = "box" → ∃ c' bit dd, gt = .box c' bit dd := by
        intro hk
        cases gt with
        | box c' bit dd => exact ⟨_, _, _, rfl⟩
        | inp x k => exact absurd hk (by decide +kernel : ("in" : Str) ≠ "box")
        | iz b => exact absurd hk (by decide +kernel : ("is" : Str) ≠ "box")
        | nt b => exact absurd hk (by decide +kernel : ("not" : Str) ≠ "box")
        | two y b e =>
          obtain ⟨rfl | rfl | rfl, _, _⟩ := ok.gate i _ egt
          · exact absurd hk (by decide +kernel : ("and" : Str) ≠ "box")
          · exact absurd hk (by decide +kernel : ("or" : Str) ≠ "box")
          · exact absurd hk (by decide +kernel : ("xor" : Str) ≠ "box")
      refine ite_str (fun hk => ?_) fun hk => ?_
      · obtain ⟨c', bit, dd, rfl⟩ := isb hk
        refine ⟨.ref N, rfl, N, _, _, _, rfl, rfl, .inl (.inl (sm _ _ eN)), atI_nat (j := 0) rfl, .int (i : Int), rfl, G, _, _, _, rfl, rfl, .inl (.inl (sm _ _ hG)), atI_nat egv, gA, _, _, _, rfl, rfl, .inl (.inl egA), atI_nat (j := 1) rfl, .str c, rfl, rfl, _, rfl, ?_⟩
        have eb := boxesN_succ (c := c) egt
        by_cases hc : c' = c
        · rw [show (Gt.box c' bit dd).isBox c = true from decide_eq_true hc, if_pos rfl] at eb
          rw [decide_eq_true (by rw [hc])]
          refine iteT ?_
          refine ⟨.int (i : Int), rfl, _, eD, ?_, same_mut sm nD, ?_⟩
          · unfold nats
            rw [List.length_map]
            exact Nat.lt_of_le_of_lt (boxesN_len gs c i) (Nat.lt_trans hi lsz)
          · rw [upd_same, eb]
            unfold nats
            rw [List.map_append]
            rfl
        · rw [show (Gt.box c' bit dd).isBox c = false from decide_eq_false hc, if_neg Bool.false_ne_true] at eb
          rw [decide_eq_false fun z => hc (V.str.inj z)]
          refine iteF ?_
          rw [eb]
          exact ⟨sm, eD⟩
      · have eb := boxesN_succ (c := c) egt
        have nb : gt.isBox c = false := by
          cases gt with
          | box c' bit dd => exact absurd rfl hk
          | _ => rfl
        rw [nb, if_neg Bool.false_ne_true] at eb
        refine iteF ?_
        rw [eb]
        exact ⟨sm, eD⟩
    rintro H2 ⟨s2, eB⟩
    rw [lg] at eB
    have lbs := boxesN_len gs c gs.length
    generalize ebs : boxesN gs c gs.length = bs at *
    refine ⟨.ref D1, rfl, D1, rfl, ⟨_, .inl (.inl eB)⟩, ?_⟩
    intro D2 nD2
    refine lc_it (walk_list (K := K) (a := D1) (xs := nats bs)) (fun i H' => Same H2 H' ∧ H' D2 = some (.lst (((bs.map (boxT gs wl arr d.s)).take i).map V.int))) ?_ ?_ ?_ ?_
    · exact ⟨same_new nD2, upd_same⟩
    · rintro i H' _ ⟨sm, _⟩
      exact .inl (.inl (sm _ _ eB))
    · rintro i x H' H3 hi ⟨sm, eD⟩ ⟨rfl, ex⟩
      have hi2 : i < bs.length := by
        unfold nats at hi
        rw [List.length_map] at hi
        exact hi
      obtain ⟨b, eb⟩ : ∃ b, bs[i]? = some b := ⟨bs[i], List.getElem?_eq_getElem hi2⟩
      rw [nats_at eb] at ex
      cases ex
      obtain ⟨hbn, bit, dd, egt⟩ := boxesN_mem (b := b) (by rw [ebs]; exact List.mem_of_getElem? eb)
      have hdd : dd < gs.length := ok.gate b _ egt
      obtain ⟨ws, ew, lw, hws⟩ := ok.at egt
      obtain ⟨w0, rfl⟩ : ∃ w0, ws = [w0] := by
        match ws, lw with
        | [w0], _ => exact ⟨w0, rfl⟩
      have sAll := s2.trans sm
      refine ⟨rfl, ?_⟩
      unfold tYes
      refine iteT ?_
      refine ⟨.ref N, rfl, vy, rfl, va, rfl, .ref oa, rfl, .int (b : Int), rfl, _, _, va, oa, gs, cs, wl, arr, d, b, _, _, rfl, hm.same sAll, hy.same sAll, sq_same hs sAll, sqt_same ho sAll, ok, od, egt, ew, fun f hf => by rw [la, List.mem_singleton.mp hf]; exact hdd, ?_⟩
      intro p H4 s4 np ep
      have ebt : (lbr arr (.box c bit dd) [w0] d)[0]? = some (boxT gs wl arr d.s b) := by
        unfold boxT
        rw [egt, List.getD_eq_getElem?_getD, ew]
        show some _ = some _
        congr 1
        show _ + Gt.more d (.box c bit dd) = _
        exact Int.add_zero _
      have ebt2 : ((lbr arr (.box c bit dd) [w0] d).map V.int)[0]? = some (.int (boxT gs wl arr d.s b)) := by
        rw [List.getElem?_map, ebt]
        rfl
      refine ⟨p, _, _, _, rfl, rfl, .inl (.inl ep), atI_nat (j := 0) ebt2, _, s4 _ _ eD, ?_, same_mut (sm.trans s4) nD2, ?_⟩
      · rw [List.length_map, List.length_take]
        exact Nat.lt_of_le_of_lt (Nat.min_le_left _ _) (Nat.lt_of_lt_of_le hi2 (Nat.le_trans lbs (Nat.le_of_lt lsz)))
      · rw [upd_same, take_snoc (x := boxT gs wl arr d.s b) (by rw [List.getElem?_map, eb]; rfl), List.map_append]
        rfl
    rintro H3 ⟨s3, eD⟩
    have e5 : (bs.map (boxT gs wl arr d.s)).take (nats bs).length = bs.map (boxT gs wl arr d.s) := by
      unfold nats
      rw [List.length_map, List.take_of_length_le (by rw [List.length_map]; exact Nat.le_refl _)]
    rw [e5] at eD
    have q' := q _ (s2.trans s3)
    refine ⟨D2, _, .non, rfl, rfl, .inl (.inl eD), fun z => ?_, fun m hm hle => ?_⟩
    · have z2 : bs = [] := List.map_eq_nil_iff.mp z
      rw [z2] at q'
      exact q'
    · cases hbs : bs with
      | nil =>
        rw [hbs] at hm
        cases hm
      | cons b0 bs0 =>
        rw [hbs] at q' hm hle
        have e6 : mxi ((b0 :: bs0).map (boxT gs wl arr d.s)) = m := mxi_eq hm hle
        have q2 : Q (.int (mxi ((b0 :: bs0).map (boxT gs wl arr d.s)))) H3 := q'
        rw [e6] at q2
        exact q2
end
end K80

namespace K80
open PySem PySem.Spec PyProof.Rows L2 Kit
/-! ### a path's steps come to its time -/
theorem getD_at {α : Type} {l : List α} {i : Nat} {x z : α} (h : l[i]? = some x) : l.getD i z = x := by
  rw [List.getD_eq_getElem?_getD, h]
  rfl
theorem arrN_get (gs : List Gt) (wl : List (List Way)) (d : Own) : ∀ (n k : Nat), k < n → (arrN gs wl d n)[k]? = some (arrV gs wl d (arrN gs wl d k) k)
  | 0, k, h => absurd h (Nat.not_lt_zero _)
  | n + 1, k, h => by
    have hl := arrN_len gs wl d n
    rw [arrN]
    by_cases e : k < n
    · rw [List.getElem?_append_left (by omega)]
      exact arrN_get gs wl d n k e
    · have e : k = n := by omega
      subst e
      rw [List.getElem?_append_right (by omega), hl, Nat.sub_self]
      rfl
theorem arrN_D {gs : List Gt} {wl : List (List Way)} {d : Own} {n m k : Nat} (h1 : k < n) (h2 : k < m) : (arrN gs wl d n).getD k 0 = (arrN gs wl d m).getD k 0 := by
  rw [List.getD_eq_getElem?_getD, List.getD_eq_getElem?_getD, arrN_get gs wl d n k h1, arrN_get gs wl d m k h2]
theorem bro_congr {a b : List Int} {s : Int} : ∀ {fs ls : List Nat}, (∀ f ∈ fs, a.getD f 0 = b.getD f 0) → bro a fs ls s = bro b fs ls s
  | [], _, _ => rfl
  | f :: fs, [], _ => rfl
  | f :: fs, l :: ls, h => by
    have ih := bro_congr (s := s) (fs := fs) (ls := ls) fun g hg => h g (List.mem_cons_of_mem _ hg)
    unfold bro at ih ⊢
    rw [List.zipWith_cons_cons, List.zipWith_cons_cons, ih, h f List.mem_cons_self]
theorem bro_at {a : List Int} {s : Int} : ∀ {fs ls : List Nat} {j f l : Nat}, fs[j]? = some f → ls[j]? = some l → (bro a fs ls s)[j]? = some (a.getD f 0 + s * ((l : Int) - 1), (f : Int)) := by
  intro fs ls j f l h1 h2
  unfold bro
  rw [List.getElem?_zipWith, h1, h2]
theorem bro_mem {a : List Int} {s : Int} {fs ls : List Nat} {p : Int × Int} (h : p ∈ bro a fs ls s) : ∃ (j f l : Nat), fs[j]? = some f ∧ ls[j]? = some l ∧ p = (a.getD f 0 + s * ((l : Int) - 1), (f : Int)) := by
  obtain ⟨j, hj⟩ := List.mem_iff_getElem?.mp h
  unfold bro at hj
  rw [List.getElem?_zipWith] at hj
  cases h1 : fs[j]? with
  | none =>
    rw [h1] at hj
    cases hj
  | some f =>
    cases h2 : ls[j]? with
    | none =>
      rw [h1, h2] at hj
      cases hj
    | some l =>
      rw [h1, h2] at hj
      cases hj
      exact ⟨j, f, l, h1, h2, rfl⟩
theorem arr_fed {gs : List Gt} {wl : List (List Way)} {d : Own} (ok : Okl gs wl) {x : Nat} {gt : Gt} {ws : List Way} (eg : gs[x]? = some gt) (ew : wl[x]? = some ws) (hf : gt.fed = true) :
    (arrs gs wl d).getD x 0 = mxi ((bro (arrs gs wl d) gt.feeds (lens ws) d.s).map (·.1)) + gt.own d := by
  have hx := (List.getElem?_eq_some_iff.mp eg).1
  rw [List.getD_eq_getElem?_getD]
  unfold arrs
  rw [arrN_get gs wl d _ x hx]
  show arrV gs wl d (arrN gs wl d x) x = _
  unfold arrV
  rw [eg]
  dsimp only
  rw [hf, if_pos rfl, List.getD_eq_getElem?_getD, ew]
  show mxi ((bro (arrN gs wl d x) gt.feeds (lens ws) d.s).map (·.1)) + _ = _
  rw [bro_congr fun f h => arrN_D (fed_lt (ok.gate x gt eg) hf f h) (Nat.lt_trans (fed_lt (ok.gate x gt eg) hf f h) hx)]
theorem arr_src {gs : List Gt} {wl : List (List Way)} {d : Own} {x : Nat} {gt : Gt} (eg : gs[x]? = some gt) (hf : gt.fed = false) : (arrs gs wl d).getD x 0 = 0 := by
  have hx := (List.getElem?_eq_some_iff.mp eg).1
  rw [List.getD_eq_getElem?_getD]
  unfold arrs
  rw [arrN_get gs wl d _ x hx]
  show arrV gs wl d (arrN gs wl d x) x = _
  unfold arrV
  rw [eg]
  dsimp only
  rw [hf]
  rfl
/-- what the feeds that are y bring by themselves -/
def selL (fs : List Nat) (L : List Int) (y n : Nat) : List Int := ((List.range n).filter fun j => decide (fs[j]? = some y)).map fun j => L.getD j 0
theorem selL_succ {fs : List Nat} {L : List Int} {y n : Nat} : selL fs L y (n + 1) = if fs[n]? = some y then selL fs L y n ++ [L.getD n 0] else selL fs L y n := by
  unfold selL
  rw [List.range_succ, List.filter_append, List.map_append]
  by_cases h : fs[n]? = some y
  · rw [if_pos h, List.filter_cons_of_pos (by exact decide_eq_true h)]
    rfl
  · rw [if_neg h, List.filter_cons_of_neg (by rw [decide_eq_false h]; exact Bool.false_ne_true)]
    exact List.append_nil _
theorem selL_mem {fs : List Nat} {L : List Int} {y n : Nat} {z : Int} : z ∈ selL fs L y n ↔ ∃ j, j < n ∧ fs[j]? = some y ∧ L.getD j 0 = z := by
  unfold selL
  constructor
  · intro h
    obtain ⟨j, hj, e⟩ := List.mem_map.mp h
    obtain ⟨h1, h2⟩ := List.mem_filter.mp hj
    exact ⟨j, List.mem_range.mp h1, of_decide_eq_true h2, e⟩
  · rintro ⟨j, h1, h2, e⟩
    exact List.mem_map.mpr ⟨j, List.mem_filter.mpr ⟨List.mem_range.mpr h1, decide_eq_true h2⟩, e⟩
theorem lbr_zero {gt : Gt} {ws : List Way} {d : Own} {n j f : Nat} {w : Way} (h1 : gt.feeds[j]? = some f) (h2 : ws[j]? = some w) : (lbr (List.replicate n 0) gt ws d).getD j 0 = d.s * ((w.length : Int) - 1) + gt.more d := by
  unfold lbr
  rw [List.getD_eq_getElem?_getD, List.getElem?_map, bro_at h1 (show (lens ws)[j]? = some w.length by unfold lens; rw [List.getElem?_map, h2]; rfl)]
  show (List.replicate n (0 : Int)).getD f 0 + _ + _ = _
  have : (List.replicate n (0 : Int)).getD f 0 = 0 := by
    rw [List.getD_eq_getElem?_getD, List.getElem?_replicate]
    split <;> rfl
  rw [this]
  omega
theorem step_sum {gs : List Gt} {wl : List (List Way)} {d : Own} {arr : List Int} {x y n : Nat} {gt : Gt} {ws : List Way} (eg : gs[x]? = some gt) (ew : wl[x]? = some ws) (lw : ws.length = gt.feeds.length)
    (h : Top gs wl arr d.s x y) {m : Int} (hm : m ∈ selL gt.feeds (lbr (List.replicate n 0) gt ws d) y gt.feeds.length) (hle : ∀ z ∈ selL gt.feeds (lbr (List.replicate n 0) gt ws d) y gt.feeds.length, z ≤ m) :
    mxi ((bro arr gt.feeds (lens ws) d.s).map (·.1)) + gt.more d = arr.getD y 0 + m := by
  obtain ⟨gt', ws', pr, eg', ew', hpr, hy, htop⟩ := h
  rw [eg] at eg'
  cases eg'
  rw [ew] at ew'
  cases ew'
  rw [mxi_eq (m := pr.1) (List.mem_map.mpr ⟨pr, hpr, rfl⟩) fun z hz => ?_]
  · obtain ⟨j, f, l, h1, h2, rfl⟩ := bro_mem hpr
    have hfy : f = y := Int.ofNat.inj hy
    subst hfy
    have hj := (List.getElem?_eq_some_iff.mp h1).1
    obtain ⟨w, hw⟩ : ∃ w, ws[j]? = some w := ⟨ws[j]'(by omega), List.getElem?_eq_getElem _⟩
    have hl : l = w.length := by
      unfold lens at h2
      rw [List.getElem?_map, hw] at h2
      exact (Option.some.inj h2).symm
    subst hl
    have g1 := hle _ (selL_mem.mpr ⟨j, hj, h1, rfl⟩)
    rw [lbr_zero h1 hw] at g1
    obtain ⟨j', hj', h1', rfl⟩ := selL_mem.mp hm
    obtain ⟨w', hw'⟩ : ∃ w', ws[j']? = some w' := ⟨ws[j']'(by omega), List.getElem?_eq_getElem _⟩
    rw [lbr_zero h1' hw'] at g1 ⊢
    have g2 := htop _ (List.mem_of_getElem? (bro_at (a := arr) (s := d.s) h1' (show (lens ws)[j']? = some w'.length by unfold lens; rw [List.getElem?_map, hw']; rfl)))
    dsimp only at g2 ⊢
    omega
  · obtain ⟨q, hq, rfl⟩ := List.mem_map.mp hz
    exact htop q hq
theorem chain_ix {gs : List Gt} {wl : List (List Way)} {arr : List Int} {s : Int} {x : Nat} {l : List Nat} (h : Chain gs wl arr s x l) : 1 ≤ l.length ∧
    (∀ i, i < l.length → ∃ y z, (x :: l)[i]? = some y ∧ (x :: l)[i + 1]? = some z ∧ Top gs wl arr s y z) ∧
    (∀ i, 1 ≤ i → i < l.length → ∃ y g, (x :: l)[i]? = some y ∧ gs[y]? = some g ∧ g.fed = true) ∧ ∃ y g, (x :: l)[l.length]? = some y ∧ gs[y]? = some g ∧ g.fed = false := by
  induction h with
  | @last x y g h e f =>
    refine ⟨Nat.le_refl _, fun i hi => ?_, fun i h1 h2 => ?_, y, g, rfl, e, f⟩
    · have hi : i < 1 := hi
      obtain rfl : i = 0 := by omega
      exact ⟨x, y, rfl, rfl, h⟩
    · have h2 : i < 1 := h2
      omega
  | @more x y g l h e f c ih =>
    obtain ⟨i1, i2, i3, i4⟩ := ih
    refine ⟨Nat.succ_le_succ (Nat.zero_le _), fun i hi => ?_, fun i h1 h2 => ?_, ?_⟩
    · cases i with
      | zero => exact ⟨x, y, rfl, rfl, h⟩
      | succ i => exact i2 i (Nat.lt_of_succ_lt_succ hi)
    · cases i with
      | zero => exact absurd h1 (by decide)
      | succ i =>
        cases i with
        | zero => exact ⟨y, g, rfl, e, f⟩
        | succ i => exact i3 (i + 1) (Nat.succ_le_succ (Nat.zero_le _)) (Nat.lt_of_succ_lt_succ h2)
    · exact i4
/-- the path as it is told, from its source -/
structure Pth (gs : List Gt) (wl : List (List Way)) (d : Own) (l : List Nat) (b : Nat) (n : Nat) : Prop where
  len : l.length = n + 1
  pos : 1 ≤ n
  top : ∀ i, i < n → ∃ x y, l[i + 1]? = some x ∧ l[i]? = some y ∧ Top gs wl (arrs gs wl d) d.s x y
  mid : ∀ i, 1 ≤ i → i < n → ∃ x g, l[i]? = some x ∧ gs[x]? = some g ∧ g.fed = true
  src : ∃ y g, l[0]? = some y ∧ gs[y]? = some g ∧ g.fed = false
  box : l[n]? = some b
theorem pth_of {gs : List Gt} {wl : List (List Way)} {d : Own} {b : Nat} {ch : List Nat} (h : Chain gs wl (arrs gs wl d) d.s b ch) : Pth gs wl d (b :: ch).reverse b ch.length := by
  obtain ⟨i1, i2, i3, i4⟩ := chain_ix h
  have rv : ∀ i, i ≤ ch.length → (b :: ch).reverse[i]? = (b :: ch)[ch.length - i]? := fun i hi => by
    rw [List.getElem?_reverse (by show i < ch.length + 1; omega)]
    show (b :: ch)[ch.length + 1 - 1 - i]? = _
    rw [Nat.add_sub_cancel]
  refine ⟨by rw [List.length_reverse]; rfl, i1, fun i hi => ?_, fun i h1 h2 => ?_, ?_, ?_⟩
  · obtain ⟨y, z, h1, h2, h3⟩ := i2 (ch.length - (i + 1)) (by omega)
    refine ⟨y, z, ?_, ?_, h3⟩
    · rw [rv _ (by omega)]
      exact h1
    · rw [rv _ (by omega), ← h2]
      congr 1
      omega
  · obtain ⟨y, g, h3, h4, h5⟩ := i3 (ch.length - i) (by omega) (by omega)
    exact ⟨y, g, by rw [rv _ (by omega)]; exact h3, h4, h5⟩
  · obtain ⟨y, g, h3, h4, h5⟩ := i4
    exact ⟨y, g, by rw [rv _ (by omega)]; exact h3, h4, h5⟩
  · rw [rv _ (Nat.le_refl _), Nat.sub_self]
    rfl
/-- what is found behind i steps -/
def fnd (gs : List Gt) (wl : List (List Way)) (d : Own) (l : List Nat) (b n i : Nat) : Int := if i = n then boxT gs wl (arrs gs wl d) d.s b else (arrs gs wl d).getD (l.getD i 0) 0
theorem fnd_zero {gs : List Gt} {wl : List (List Way)} {d : Own} {l : List Nat} {b n : Nat} (h : Pth gs wl d l b n) : fnd gs wl d l b n 0 = 0 := by
  obtain ⟨y, g, h1, h2, h3⟩ := h.src
  unfold fnd
  rw [if_neg (by have := h.pos; omega), getD_at h1]
  exact arr_src h2 h3
theorem fnd_step {gs : List Gt} {wl : List (List Way)} {d : Own} {l : List Nat} {b n i x y k : Nat} {gt : Gt} {ws : List Way} (ok : Okl gs wl) {c : Str} {bit : Int} {dd : Nat} (eb : gs[b]? = some (.box c bit dd)) (h : Pth gs wl d l b n) (hi : i < n)
    (ex : l[i + 1]? = some x) (ey : l[i]? = some y) (ht : Top gs wl (arrs gs wl d) d.s x y) (eg : gs[x]? = some gt) (ew : wl[x]? = some ws) {m : Int}
    (hm : m ∈ selL gt.feeds (lbr (List.replicate k 0) gt ws d) y gt.feeds.length) (hle : ∀ z ∈ selL gt.feeds (lbr (List.replicate k 0) gt ws d) y gt.feeds.length, z ≤ m) :
    fnd gs wl d l b n (i + 1) = fnd gs wl d l b n i + m := by
  have lw := (ok.ways x gt ws eg ew).1
  have ss := step_sum eg ew lw ht hm hle
  have f1 : fnd gs wl d l b n i = (arrs gs wl d).getD y 0 := by
    unfold fnd
    rw [if_neg (by omega), getD_at ey]
  rw [f1, ← ss]
  unfold fnd
  by_cases e : i + 1 = n
  · rw [if_pos e]
    have e2 := h.box
    rw [← e, ex] at e2
    cases e2
    rw [eb] at eg
    cases eg
    obtain ⟨w0, rfl⟩ : ∃ w0, ws = [w0] := by
      match ws, lw with
      | [w0], _ => exact ⟨w0, rfl⟩
    unfold boxT
    rw [eb, getD_at ew]
    show _ = mxi [_] + 0
    rw [mxi_eq (m := (arrs gs wl d).getD dd 0 + d.s * ((w0.length : Int) - 1)) List.mem_cons_self fun z hz => by rw [List.mem_singleton.mp hz]; exact Int.le_refl _]
    exact (Int.add_zero _).symm
  · rw [if_neg e, getD_at ex]
    show (arrs gs wl d).getD x 0 = _
    obtain ⟨x', g, h1, h2, h3⟩ := h.mid (i + 1) (by omega) (by omega)
    rw [ex] at h1
    cases h1
    rw [eg] at h2
    cases h2
    rw [arr_fed ok eg ew h3]
    unfold Gt.more
    rw [h3]
    rfl
theorem fnd_end (gs : List Gt) (wl : List (List Way)) (d : Own) (l : List Nat) (b n : Nat) : fnd gs wl d l b n n = boxT gs wl (arrs gs wl d) d.s b := if_pos rfl
end K80

namespace K80
open PySem PySem.Spec PyProof.Rows L2 Kit
/-! ### the law's own: the time of a path -/
theorem last_at2 {l : List Nat} {n x : Nat} (hl : l.length = n + 1) (e : l[n]? = some x) : atI (nats l) (-1) = some (.int (x : Int)) := by
  have h : ixN (nats l).length (-1) = some n := by
    unfold nats ixN
    rw [List.length_map, hl, if_neg (by decide), if_pos (by omega)]
    congr 1
    omega
  unfold atI
  rw [h]
  exact nats_at e
theorem pd_bc (c : Str) : pd (.tup [.str "box", .str c]) = .tuple [.str "box", .str c] := by
  rw [pd, pdL, pd, pdL, pd, pdL]
theorem lay_bc {c : Str} (h : PyData.canLay0 (.str c) = true) : PyData.canLay0 (.tuple [.str "box", .str c]) = true := by
  rw [PyData.canLay0, PyData.canLayAll0, PyData.canLayAll0, PyData.canLayAll0, h]
  decide +kernel
theorem sh_bc {c : Str} (h : PyData.canLay0 (.str c) = true) : SeqAt.shaped (.tuple [.str "box", .str c]) = true := by
  unfold SeqAt.shaped
  rw [lay_bc h]
  simp [PyData.depth, PyData.depthAll]
theorem zeros_eq : ∀ k : Nat, (List.replicate k [V.int 0]).flatten = (List.replicate k (0 : Int)).map V.int
  | 0 => rfl
  | k + 1 => by
    rw [List.replicate_succ, List.flatten_cons, zeros_eq k, List.replicate_succ, List.map_cons]
    rfl
theorem flat_nats (l : List Nat) : (nats l).all flatV = true := by
  rw [List.all_eq_true]
  intro v hv
  unfold nats at hv
  obtain ⟨k, _, rfl⟩ := List.mem_map.mp hv
  rfl
theorem top_in {gs : List Gt} {wl : List (List Way)} {arr : List Int} {s : Int} {x y : Nat} {gt : Gt} (h : Top gs wl arr s x y) (e : gs[x]? = some gt) : y ∈ gt.feeds := by
  obtain ⟨gt', ws', pr, eg', ew', hpr, hy, _⟩ := h
  rw [e] at eg'
  cases eg'
  obtain ⟨f, hf, e2⟩ := bro_feed hpr
  rw [hy] at e2
  rw [Int.ofNat.inj e2]
  exact hf
theorem inV_nats {l : List Nat} {y : Nat} (h : y ∈ l) : inV (.int (y : Int)) (nats l) = true := by
  unfold inV nats
  rw [List.any_eq_true]
  refine ⟨V.int (y : Int), List.mem_map.mpr ⟨y, h, rfl⟩, ?_⟩
  unfold eqV
  exact decide_eq_true rfl
end K80

namespace K80
open PySem PySem.Spec PyProof.Rows L2 Kit
/-! ### shown -/
def strN (i : Nat) : Str := Str.ofString (toString (i : Int))
theorem strN_cps (i : Nat) : (strN i).cps.toList = (Nat.toDigits 10 i).map Char.toNat := by
  unfold strN
  rw [signs_ofString]
  show (Nat.repr i).toList.map Char.toNat = _
  rw [Nat.repr_eq_ofList_toDigits, String.toList_ofList]
theorem digs_len : ∀ (k i : Nat), i < 10 ^ (k + 1) → (Nat.toDigits 10 i).length ≤ k + 1 ∧ 1 ≤ (Nat.toDigits 10 i).length
  | 0, i, h => by
    rw [Nat.toDigits_of_lt_base (by omega)]
    exact ⟨Nat.le_refl _, Nat.le_refl _⟩
  | k + 1, i, h => by
    by_cases h1 : i < 10
    · rw [Nat.toDigits_of_lt_base h1]
      exact ⟨by show 1 ≤ _; omega, Nat.le_refl _⟩
    · obtain ⟨a, b⟩ := digs_len k (i / 10) (by rw [Nat.pow_succ] at h; omega)
      rw [Nat.toDigits_of_base_le (by decide) (by omega), List.length_append]
      exact ⟨by show _ + 1 ≤ _; omega, by omega⟩
def okZ (z : Str) : Prop := z.length ≤ 20 ∧ ∀ c ∈ z.cps.toList, c < 256 ∧ c ≠ 32 ∧ c ≠ 10
theorem okZ_dec {z : Str} (h : (decide (z.length ≤ 20) && z.cps.toList.all fun c => decide (c < 256 ∧ c ≠ 32 ∧ c ≠ 10)) = true) : okZ z := by
  rw [Bool.and_eq_true, decide_eq_true_eq, List.all_eq_true] at h
  exact ⟨h.1, fun c hc => of_decide_eq_true (h.2 c hc)⟩
structure SR (t : Td) (n L : Nat) : Prop where
  sh : (pd t).showable = true
  hd : (pd t).hasDict = false
  dp : (pd t).depth ≤ n
  ln : (pd t).shown.length + 2 ≤ L
  cl : (pd t).canLay0 = true
structure SRL (ts : List Td) (n L : Nat) : Prop where
  sh : PyData.showableAll (pdL ts) = true
  hd : PyData.hasDictAll (pdL ts) = false
  dp : PyData.depthAll (pdL ts) ≤ n
  ln : ((PyData.shownAll (pdL ts)).map (·.length)).sum + 2 * ts.length ≤ L
  cl : PyData.canLayAll0 (pdL ts) = true
theorem shownAll_len : ∀ ts : List Td, (PyData.shownAll (pdL ts)).length = ts.length
  | [] => by simp [pdL, PyData.shownAll]
  | t :: ts => by
    rw [pdL, PyData.shownAll, List.length_cons, List.length_cons, shownAll_len ts]
theorem SRL.nil {n : Nat} : SRL [] n 0 := by
  constructor
  · simp [pdL, PyData.showableAll]
  · simp [pdL, PyData.hasDictAll]
  · simp [pdL, PyData.depthAll]
  · simp [pdL, PyData.shownAll]
  · rw [pdL, PyData.canLayAll0]
theorem SRL.cons {t : Td} {ts : List Td} {n L M : Nat} (h : SR t n L) (hs : SRL ts n M) : SRL (t :: ts) n (L + M) := by
  obtain ⟨a1, a2, a3, a4, a5⟩ := h
  obtain ⟨b1, b2, b3, b4, b5⟩ := hs
  constructor
  · rw [pdL, PyData.showableAll, a1, b1]
    rfl
  · rw [pdL, PyData.hasDictAll, a2, b2]
    rfl
  · rw [pdL, PyData.depthAll]
    exact Nat.max_le.mpr ⟨a3, b3⟩
  · rw [pdL, PyData.shownAll, List.map_cons, List.sum_cons, List.length_cons]
    omega
  · rw [pdL, PyData.canLayAll0, a5, b5]
    rfl
theorem SRL.mono {ts : List Td} {n m L M : Nat} (h : SRL ts n L) (hn : n ≤ m) (hl : L ≤ M) : SRL ts m M := ⟨h.sh, h.hd, Nat.le_trans h.dp hn, Nat.le_trans h.ln hl, h.cl⟩
theorem SR.mono {t : Td} {n m L M : Nat} (h : SR t n L) (hn : n ≤ m) (hl : L ≤ M) : SR t m M := ⟨h.sh, h.hd, Nat.le_trans h.dp hn, Nat.le_trans h.ln hl, h.cl⟩
theorem SRL.tup {ts : List Td} {n L : Nat} (h : SRL ts n L) : SR (.tup ts) (n + 1) (L + 5) := by
  obtain ⟨b1, b2, b3, b4, b5⟩ := h
  constructor
  · rw [pd, PyData.showable, b1]
  · rw [pd, PyData.hasDict, b2]
  · rw [pd, PyData.depth]
    omega
  · rw [pd, PyData.shown]
    have := tupleText_len_le (PyData.shownAll (pdL ts))
    rw [shownAll_len] at this
    omega
  · rw [pd, PyData.canLay0, b5]
theorem SR.str {z : Str} (h : okZ z) (n : Nat) : SR (.str z) n 204 := by
  constructor
  · rw [pd, PyData.showable]
  · rw [pd, PyData.hasDict]
  · rw [pd, PyData.depth]
    omega
  · rw [pd, PyData.shown]
    have := StrLaws.reprText_len z fun c hc => Nat.lt_trans (h.2 c hc).1 (by decide)
    have := h.1
    omega
  · rw [pd, PyData.canLay0, PyData.strOk, ← Array.all_toList, List.all_eq_true]
    exact fun c hc => decide_eq_true (Nat.lt_trans (h.2 c hc).1 (by decide))
theorem SR.nat {i : Nat} (h : i ≤ 9999999) (n : Nat) : SR (.int (i : Int)) n 9 := by
  constructor
  · rw [pd, PyData.showable, decide_eq_true_eq]
    have h2 : ((i : Int).natAbs) < 2 ^ 24 := by omega
    rcases Nat.eq_zero_or_pos (i : Int).natAbs with e | e
    · rw [e]
      decide
    · have := (Nat.log2_lt (Nat.ne_of_gt e)).mpr h2
      omega
  · rw [pd, PyData.hasDict]
  · rw [pd, PyData.depth]
    omega
  · rw [pd, PyData.shown]
    have e : (strN i).length = (Nat.toDigits 10 i).length := by
      have e1 : (strN i).length = (strN i).cps.toList.length := Array.length_toList.symm
      rw [e1, strN_cps, List.length_map]
    have := digs_len 6 i (by omega)
    show (strN i).length + 2 ≤ 9
    omega
  · rw [pd, PyData.canLay0]

def small (k : Int) : Prop := ∃ n : Nat, k = (n : Int) ∧ n ≤ 9999999
theorem SR.sm {k : Int} (h : small k) (n : Nat) : SR (.int k) n 9 := by
  obtain ⟨m, rfl, h⟩ := h
  exact SR.nat h n
def Gt.sm : Gt → Prop
  | .inp x k => okZ x ∧ small k
  | .iz b => small b
  | .box c b d => okZ c ∧ small b ∧ d ≤ 9999999
  | .nt a => a ≤ 9999999
  | .two w a c => okZ w ∧ a ≤ 9999999 ∧ c ≤ 9999999
theorem okZ_in : okZ (Str.ofString "in") := okZ_dec (by decide +kernel)
theorem okZ_is : okZ (Str.ofString "is") := okZ_dec (by decide +kernel)
theorem okZ_box : okZ (Str.ofString "box") := okZ_dec (by decide +kernel)
theorem okZ_not : okZ (Str.ofString "not") := okZ_dec (by decide +kernel)
theorem Gt.sr {g : Gt} (h : g.sm) : SR g.td 2 500 := by
  cases g with
  | inp x k => exact (SRL.tup (SRL.cons (SR.str okZ_in 1) (SRL.cons (SR.str h.1 1) (SRL.cons (SR.sm h.2 1) SRL.nil)))).mono (by decide) (by decide)
  | iz b => exact (SRL.tup (SRL.cons (SR.str okZ_is 1) (SRL.cons (SR.sm h 1) SRL.nil))).mono (by decide) (by decide)
  | box c b d => exact (SRL.tup (SRL.cons (SR.str okZ_box 1) (SRL.cons (SR.str h.1 1) (SRL.cons (SR.sm h.2.1 1) (SRL.cons (SR.nat h.2.2 1) SRL.nil))))).mono (by decide) (by decide)
  | nt a => exact (SRL.tup (SRL.cons (SR.str okZ_not 1) (SRL.cons (SR.nat h 1) SRL.nil))).mono (by decide) (by decide)
  | two w a c => exact (SRL.tup (SRL.cons (SR.str h.1 1) (SRL.cons (SR.nat h.2.1 1) (SRL.cons (SR.nat h.2.2 1) SRL.nil)))).mono (by decide) (by decide)
theorem SRL.map {α : Type} {f : α → Td} {n L : Nat} : ∀ {l : List α}, (∀ x ∈ l, SR (f x) n L) → SRL (l.map f) n (L * l.length)
  | [], _ => SRL.nil
  | x :: l, h => (SRL.cons (h x List.mem_cons_self) (SRL.map (l := l) fun y hy => h y (List.mem_cons_of_mem _ hy))).mono (Nat.le_refl _) (by rw [List.length_cons, Nat.mul_succ]; omega)
def smC (c : Int × Int) : Prop := small c.1 ∧ small c.2
theorem cell_sr {c : Int × Int} (h : smC c) : SR (cellT c) 1 23 := (SRL.tup (SRL.cons (SR.sm h.1 0) (SRL.cons (SR.sm h.2 0) SRL.nil))).mono (by decide) (by decide)
def smW (w : Way) : Prop := w.length ≤ 1000 ∧ ∀ c ∈ w, smC c
theorem way_sr {w : Way} (h : smW w) : SR (wayT w) 2 23005 := (SRL.tup (SRL.map fun c hc => cell_sr (h.2 c hc))).mono (by decide) (by have := h.1; omega)
theorem wl_sr {ws : List Way} (h : ∀ w ∈ ws, smW w) (hl : ws.length ≤ 2) : SR (.tup (ws.map wayT)) 3 46015 := (SRL.tup (SRL.map fun w hw => way_sr (h w hw))).mono (by decide) (by omega)
/-- all is small -/
structure Sml (gs : List Gt) (cs : List (Int × Int)) (wl : List (List Way)) : Prop where
  n : gs.length ≤ 40
  g : ∀ g ∈ gs, g.sm
  m : cs.length ≤ 40
  c : ∀ c ∈ cs, smC c
  k : wl.length ≤ 40
  w : ∀ ws ∈ wl, ws.length ≤ 2 ∧ ∀ w ∈ ws, smW w
theorem both_sr {gs : List Gt} {cs : List (Int × Int)} {wl : List (List Way)} (h : Sml gs cs wl) : SR (.tup [netT gs, layT cs wl]) 10 2000000 := by
  have g1 := SRL.tup (SRL.map (f := Gt.td) fun g hg => Gt.sr (h.g g hg))
  have e1 : SR (.tup []) 1 5 := (SRL.tup (SRL.nil (n := 0))).mono (by decide) (by decide)
  have n1 : SR (netT gs) 6 20030 := (SRL.tup (SRL.cons (g1.mono (m := 5) (M := 20010) (by decide) (by have := h.n; omega)) (SRL.cons (e1.mono (m := 5) (by decide) (Nat.le_refl _)) (SRL.cons (e1.mono (m := 5) (by decide) (Nat.le_refl _)) SRL.nil)))).mono (by decide) (by decide)
  have c1 := SRL.tup (SRL.map (f := cellT) fun c hc => cell_sr (h.c c hc))
  have w1 := SRL.tup (SRL.map (f := fun ws : List Way => Td.tup (ws.map wayT)) fun ws hw => wl_sr (h.w ws hw).2 (h.w ws hw).1)
  have l1 : SR (layT cs wl) 6 1900000 := (SRL.tup (SRL.cons (c1.mono (m := 5) (M := 1000) (by decide) (by have := h.m; omega)) (SRL.cons (w1.mono (m := 5) (M := 1840610) (by decide) (by have := h.k; omega)) SRL.nil))).mono (by decide) (by decide)
  exact (SRL.tup (SRL.cons n1 (SRL.cons l1 SRL.nil))).mono (by decide) (by decide)
/-- a tuple of small ints -/
theorem ints_sr {l : List Int} (h : ∀ x ∈ l, small x) (hl : l.length ≤ 1000) : SR (.tup (l.map Td.int)) 2 10000 := (SRL.tup (SRL.map (f := Td.int) fun x hx => SR.sm (h x hx) 0)).mono (by decide) (by omega)
theorem ints_td {H : Hp} {p : Addr} {l : List Int} (h : H p = some (.tup (l.map V.int))) : TdR H (.tup (l.map Td.int)) (.ref p) := by
  refine .mk h ⟨by rw [List.length_map, List.length_map], fun i x v h1 h2 => ?_⟩
  rw [List.getElem?_map] at h1 h2
  cases e : l[i]? with
  | none =>
    rw [e] at h1
    cases h1
  | some z =>
    rw [e] at h1 h2
    cases h1
    cases h2
    exact .int _
/-! ### arrivals are small -/
def Own.few (d : Own) : Prop := (0 ≤ d.s ∧ d.s ≤ 3) ∧ (0 ≤ d.o ∧ d.o ≤ 1000) ∧ 0 ≤ d.t ∧ d.t ≤ 1000
theorem mxi_bd {l : List Int} {B : Int} (hB : 0 ≤ B) (h : ∀ x ∈ l, 0 ≤ x ∧ x ≤ B) : 0 ≤ mxi l ∧ mxi l ≤ B := by
  unfold mxi
  cases e : l.max? with
  | none => exact ⟨Int.le_refl _, hB⟩
  | some m => exact h m (List.max?_eq_some_iff.mp e).1
theorem step_bd {d : Own} (h : d.few) {m : Nat} (h1 : 1 ≤ m) (h2 : m ≤ 1000) : 0 ≤ d.s * ((m : Int) - 1) ∧ d.s * ((m : Int) - 1) ≤ 2997 := by
  obtain ⟨⟨a, b⟩, _, _⟩ := h
  refine ⟨Int.mul_nonneg a (by omega), ?_⟩
  have := Int.mul_le_mul b (show (m : Int) - 1 ≤ 999 by omega) (by omega) (by decide)
  omega
theorem getD_bd {l : List Int} {B : Int} (hB : 0 ≤ B) (h : ∀ x ∈ l, 0 ≤ x ∧ x ≤ B) (i : Nat) : 0 ≤ l.getD i 0 ∧ l.getD i 0 ≤ B := by
  rw [List.getD_eq_getElem?_getD]
  cases e : l[i]? with
  | none => exact ⟨Int.le_refl _, hB⟩
  | some x => exact h x (List.mem_of_getElem? e)
theorem bro_bd {arr : List Int} {g : Gt} {ws : List Way} {d : Own} {B : Int} (hB : 0 ≤ B) (hd : d.few) (h : ∀ x ∈ arr, 0 ≤ x ∧ x ≤ B) (hw : ∀ w ∈ ws, 1 ≤ w.length ∧ w.length ≤ 1000) :
    ∀ x ∈ (bro arr g.feeds (lens ws) d.s).map (·.1), 0 ≤ x ∧ x ≤ B + 2997 := by
  intro x hx
  obtain ⟨p, hp, rfl⟩ := List.mem_map.mp hx
  obtain ⟨j, f, l, h1, h2, rfl⟩ := bro_mem hp
  unfold lens at h2
  rw [List.getElem?_map] at h2
  cases e : ws[j]? with
  | none =>
    rw [e] at h2
    cases h2
  | some w =>
    rw [e] at h2
    cases h2
    obtain ⟨w1, w2⟩ := hw w (List.mem_of_getElem? e)
    obtain ⟨a, b⟩ := step_bd hd w1 w2
    obtain ⟨a2, b2⟩ := getD_bd hB h f
    dsimp only
    omega
theorem arrN_bd {gs : List Gt} {wl : List (List Way)} {d : Own} (ok : Okl gs wl) (hd : d.few) : ∀ k, ∀ x ∈ arrN gs wl d k, 0 ≤ x ∧ x ≤ 4000 * (k : Int)
  | 0, x, h => by cases h
  | k + 1, x, h => by
    have ih := arrN_bd ok hd k
    rw [arrN] at h
    rcases List.mem_append.mp h with h | h
    · have := ih x h
      omega
    · rw [List.mem_singleton.mp h]
      unfold arrV
      cases e : gs[k]? with
      | none => exact ⟨Int.le_refl _, by dsimp only; omega⟩
      | some g =>
        dsimp only
        cases hf : g.fed with
        | false => exact ⟨Int.le_refl _, by rw [if_neg Bool.false_ne_true]; omega⟩
        | true =>
          rw [if_pos rfl]
          obtain ⟨ws, ew, lw, hws⟩ := ok.at e
          rw [List.getD_eq_getElem?_getD, ew]
          obtain ⟨a, b⟩ := mxi_bd (by omega) (bro_bd (g := g) (ws := ws) (by omega) hd ih hws)
          have ow : 0 ≤ g.own d ∧ g.own d ≤ 1000 := by
            obtain ⟨_, h2, h3⟩ := hd
            cases g <;> first | exact h2 | exact h3
          show 0 ≤ mxi ((bro (arrN gs wl d k) g.feeds (lens ws) d.s).map (·.1)) + _ ∧ mxi ((bro (arrN gs wl d k) g.feeds (lens ws) d.s).map (·.1)) + _ ≤ _
          omega
theorem small_of {x : Int} (h1 : 0 ≤ x) (h2 : x ≤ 9999999) : small x := ⟨x.toNat, by omega, by omega⟩
theorem arrs_small {gs : List Gt} {wl : List (List Way)} {d : Own} (ok : Okl gs wl) (hd : d.few) (hn : gs.length ≤ 40) : ∀ x ∈ arrs gs wl d, small x := by
  intro x hx
  have := arrN_bd ok hd gs.length x hx
  exact small_of this.1 (by omega)
theorem boxT_small {gs : List Gt} {wl : List (List Way)} {d : Own} (ok : Okl gs wl) (hd : d.few) (hn : gs.length ≤ 40) (b : Nat) : 0 ≤ boxT gs wl (arrs gs wl d) d.s b ∧ boxT gs wl (arrs gs wl d) d.s b ≤ 9999999 := by
  unfold boxT
  cases e : gs[b]? with
  | none => exact ⟨Int.le_refl _, (by decide : (0 : Int) ≤ 9999999)⟩
  | some g =>
    cases g with
    | box c bit dd =>
      obtain ⟨ws, ew, lw, hws⟩ := ok.at e
      obtain ⟨w0, rfl⟩ : ∃ w0, ws = [w0] := by
        match ws, lw with
        | [w0], _ => exact ⟨w0, rfl⟩
      obtain ⟨w1, w2⟩ := hws w0 List.mem_cons_self
      obtain ⟨a, b'⟩ := step_bd hd w1 w2
      obtain ⟨a2, b2⟩ := getD_bd (B := 4000 * (gs.length : Int)) (by omega) (arrN_bd ok hd gs.length) dd
      dsimp only
      rw [getD_at ew]
      show 0 ≤ (arrs gs wl d).getD dd 0 + d.s * ((w0.length : Int) - 1) ∧ (arrs gs wl d).getD dd 0 + d.s * ((w0.length : Int) - 1) ≤ 9999999
      unfold arrs
      omega
    | _ => exact ⟨Int.le_refl _, (by decide : (0 : Int) ≤ 9999999)⟩
end K80

namespace K80
open PySem PySem.Spec PyProof.Rows L2 Kit
/-! ### the law's own: a net -/
/-- tuples stay -/
def TK (H H' : Hp) : Prop := ∀ p vs, H p = some (.tup vs) → H' p = some (.tup vs)
theorem TK.trans {H H1 H2 : Hp} (a : TK H H1) (b : TK H1 H2) : TK H H2 := fun p vs e => b p vs (a p vs e)
theorem TK.same {H H1 : Hp} (a : Same H H1) : TK H H1 := fun p vs e => a p _ e
theorem TK.but {H H1 : Hp} {d c : Addr} {t : Nat} (k : Deck H d c t) (a : But d c H H1) : TK H H1 := fun p vs e => by
  obtain ⟨cs, sd, h1, h2, _⟩ := k.ex
  exact a p _ (fun z => by rw [z, h1] at e; cases e) (fun z => by rw [z, h2] at e; cases e) e
theorem TK.lst {H H1 : Hp} {L : Addr} {xs : List V} {o : HO} (a : TK H H1) (e : H1 L = some (.lst xs)) : TK H (upd H1 L o) := fun p vs h => by
  have h2 := a p vs h
  rw [upd_ne (fun z => by rw [z, e] at h2; cases h2)]
  exact h2
structure NetOk (gs : List Gt) (n : Nat) : Prop where
  len : gs.length ≤ n
  ok : ∀ (i : Nat) (g : Gt), gs[i]? = some g → g.ok n i ∧ g.sm
theorem NetOk.snoc {gs : List Gt} {n : Nat} {g : Gt} (h : NetOk gs n) (hl : gs.length < n) (hg : g.ok n gs.length) (hs : g.sm) : NetOk (gs ++ [g]) n := by
  refine ⟨by rw [List.length_append]; exact hl, fun i g' e => ?_⟩
  by_cases hi : i < gs.length
  · rw [List.getElem?_append_left hi] at e
    exact h.ok i g' e
  · have lj : i < (gs ++ [g]).length := (List.getElem?_eq_some_iff.mp e).1
    rw [List.length_append] at lj
    have hi2 : i = gs.length := by
      have : [g].length = 1 := rfl
      omega
    subst hi2
    rw [List.getElem?_append_right (Nat.le_refl _), Nat.sub_self] at e
    cases e
    exact ⟨hg, hs⟩
theorem but_none {H H' : Hp} {d c p : Addr} {t : Nat} (k : Deck H' d c t) (b : But d c H H') (h : H' p = none) : H p = none := by
  cases e : H p with
  | none => rfl
  | some o =>
    have f := k.free h
    rw [b p o f.1 f.2 e] at h
    cases h
theorem gt_td {H : Hp} {p : Addr} (g : Gt) (h : H p = some (.tup g.vs)) : TdR H g.td (.ref p) := by
  cases g with
  | inp x k => exact .mk h (.cons (.str _) (.cons (.str _) (.cons (.int _) .nil)))
  | iz b => exact .mk h (.cons (.str _) (.cons (.int _) .nil))
  | box c b d => exact .mk h (.cons (.str _) (.cons (.str _) (.cons (.int _) (.cons (.int _) .nil))))
  | nt a => exact .mk h (.cons (.str _) (.cons (.int _) .nil))
  | two y a c => exact .mk h (.cons (.str _) (.cons (.int _) (.cons (.int _) .nil)))
theorem near_at {kk r x : Int} {i : Nat} {v : V} (h0 : 1 ≤ kk) (h1 : 0 ≤ r) (h2 : r < kk) (h3 : 0 ≤ x) (h : ([.int (kk - 1), .int r, .int (if kk - 1 - x > 0 then kk - 1 - x else 0)] : List V)[i]? = some v) : ∃ a : Nat, v = .int (a : Int) ∧ (a : Int) < kk := by
  match i, h with
  | 0, h =>
    cases h
    exact ⟨(kk - 1).toNat, by congr 1; omega, by omega⟩
  | 1, h =>
    cases h
    exact ⟨r.toNat, by congr 1; omega, by omega⟩
  | 2, h =>
    cases h
    by_cases e : kk - 1 - x > 0
    · exact ⟨(kk - 1 - x).toNat, by rw [if_pos e]; congr 1; omega, by omega⟩
    · exact ⟨0, by rw [if_neg e]; rfl, by omega⟩
  | n + 3, h => cases h
theorem sides_at {so : Int} (h0 : 0 ≤ so) (h1 : so < 4) : ∃ sd : Int, atI [V.int 8, .int 8, .int 4, .int 12] so = some (.int sd) ∧ 1 ≤ sd ∧ sd ≤ 12 := by
  obtain ⟨n, rfl⟩ : ∃ n : Nat, so = (n : Int) := ⟨so.toNat, by omega⟩
  match n, h1 with
  | 0, _ => exact ⟨8, rfl, by decide, by decide⟩
  | 1, _ => exact ⟨8, rfl, by decide, by decide⟩
  | 2, _ => exact ⟨4, rfl, by decide, by decide⟩
  | 3, _ => exact ⟨12, rfl, by decide, by decide⟩
  | n + 4, h => omega
theorem many_at {r1 r2 : Int} (h0 : 0 ≤ r1) (h1 : r1 < 12) : ∃ m : Nat, 3 ≤ m ∧ m ≤ 40 ∧ atI [V.int (3 + r1), .int 40] (if decide (V.int r2 = V.int 5) = true then 1 else 0) = some (.int (m : Int)) := by
  by_cases e : decide (V.int r2 = V.int 5) = true
  · rw [if_pos e]
    exact ⟨40, by decide, by decide, rfl⟩
  · rw [if_neg e]
    refine ⟨(3 + r1).toNat, by omega, by omega, ?_⟩
    show some (V.int (3 + r1)) = _
    congr 2
    omega
theorem kkm_at {i : Nat} {x : V} (h : (sgV "kkm")[i]? = some x) : ∃ z : Str, x = .str z ∧ okZ z := by
  have e : sgV "kkm" = [.str "k", .str "k", .str "m"] := by decide +kernel
  rw [e] at h
  match i, h with
  | 0, h =>
    cases h
    exact ⟨_, rfl, okZ_dec (by decide +kernel)⟩
  | 1, h =>
    cases h
    exact ⟨_, rfl, okZ_dec (by decide +kernel)⟩
  | 2, h =>
    cases h
    exact ⟨_, rfl, okZ_dec (by decide +kernel)⟩
  | n + 3, h => cases h
theorem xyz_at {k : Nat} (h : k < 40) : ∃ ch, atI ("xyzuv" : Str).cps.toList ((k : Int).fdiv 8) = some ch ∧ okZ ⟨#[ch]⟩ := by
  have e : ((k : Int).fdiv 8) = ((k / 8 : Nat) : Int) := by
    rw [Int.fdiv_eq_ediv_of_nonneg _ (by decide)]
    rfl
  rw [e]
  have h2 : k / 8 < 5 := by omega
  generalize k / 8 = j at h2
  match j, h2 with
  | 0, _ => exact ⟨120, by decide +kernel, okZ_dec (by decide +kernel)⟩
  | 1, _ => exact ⟨121, by decide +kernel, okZ_dec (by decide +kernel)⟩
  | 2, _ => exact ⟨122, by decide +kernel, okZ_dec (by decide +kernel)⟩
  | 3, _ => exact ⟨117, by decide +kernel, okZ_dec (by decide +kernel)⟩
  | 4, _ => exact ⟨118, by decide +kernel, okZ_dec (by decide +kernel)⟩
  | n + 5, h => omega
def spNet : Sp := fun vs H Q _ => ∃ (d c : Addr) (t : Nat), vs = [.ref d] ∧ Deck H d c t ∧ t < 1000000 ∧
  ∀ (v : V) (gs : List Gt) (t' : Nat) (H' : Hp), But d c H H' → Deck H' d c t' → t' ≤ t + 500 → TdR H' (netT gs) v → NetOk gs gs.length → gs.length ≤ 40 → 2 ≤ gs.length → Q v H'
section
variable {P : Program} {w : World} {K : PySem.W.Frag} {mg : Str → Option Value} {base : Heap}
theorem ok_l_net {f : Addr} {fd : FuncData} (D : DefAt K mg "_law_net" ["_law_deck_here"] s_l_net f fd) (M : Bi mg)
    (C_l_draw : Cal P w K mg base L2.CX0 1 "_law_draw" ["_law_deck_here", "_law_sides"] spDraw) (C_l_pick : Cal P w K mg base L2.CX0 2 "_law_pick" ["_law_deck_here", "_law_some"] (spPick K)) :
    Cal P w K mg base L2.CX0 3 "_law_net" ["_law_deck_here"] spNet := by
  have S := S_l_net
  refine cal_of D.fn D.mgf D.bs D.kbs S (fun vs H Q E h => ?_) (fun cdv A outer s H vs Q E hq hr h => ?_)
  · obtain ⟨d, c, t, rfl, _⟩ := h
    rfl
  · obtain ⟨d, c, t, rfl, dk, ht, q⟩ := h
    refine ⟨_, (pss_cons (ps_set (i := 1) S.nd rfl (.inl rfl) (pe_ix ix_list (pe_lst (pa_cons (pe_op op_add pe_int (pe_c C_l_draw pass0 hq hr (by omega) (by rfl) (pa_cons (pv 0) (pa_cons pe_int pa_nil)))) (pa_cons pe_int pa_nil))) (pe_callTy call_int1 (by rfl) M.int_ (by decide +kernel) (pa_cons (pe_cmpR op_eq (pe_c C_l_draw pass0 hq hr (by omega) (by rfl) (pa_cons (pv 0) (pa_cons pe_int pa_nil))) pe_int (nomark _)) pa_nil)) (fun _ _ => rfl)))
 (pss_cons (ps_set (i := 2) S.nd rfl (.inl rfl) (pe_c C_l_draw pass0 hq hr (by omega) (by rfl) (pa_cons (pv 0) (pa_cons pe_int pa_nil))))
 (pss_cons (ps_set (i := 3) S.nd rfl (.inl rfl) (pe_lst (pa_cons (pe_tup (pa_cons pe_str (pa_cons pe_str (pa_cons pe_int pa_nil)))) (pa_cons (pe_tup (pa_cons pe_str (pa_cons pe_str (pa_cons (pe_c C_l_draw pass0 hq hr (by omega) (by rfl) (pa_cons (pv 0) (pa_cons pe_int pa_nil))) (pa_cons (pe_c C_l_draw pass0 hq hr (by omega) (by rfl) (pa_cons (pv 0) (pa_cons (pv 1) pa_nil))) pa_nil))))) pa_nil))))
 (pss_cons (ps_for PassesOwn.never rfl (pi_range2 (by rfl) M.range_ (pa_cons pe_int (pa_cons (pv 1) pa_nil))) (pg_name (i := 4) S.nd rfl (.inl rfl))
  (pss_cons (ps_set (i := 5) S.nd rfl (.inl rfl) (pe_c C_l_draw pass0 hq hr (by omega) (by rfl) (pa_cons (pv 0) (pa_cons (pe_ix ix_list (pe_lst (pa_cons pe_int (pa_cons pe_int (pa_cons pe_int (pa_cons pe_int pa_nil))))) (pv 2) (fun _ _ => rfl)) pa_nil))))
 (pss_cons (ps_set (i := 6) S.nd rfl (.inl rfl) (pe_lst (pa_cons (pe_op op_sub (pv 4) pe_int) (pa_cons (pe_c C_l_draw pass0 hq hr (by omega) (by rfl) (pa_cons (pv 0) (pa_cons (pv 4) pa_nil))) (pa_cons (pe_callB (call_max2 rfl) (by rfl) M.max_ (by decide +kernel) (pa_cons pe_int (pa_cons (pe_op op_sub (pe_op op_sub (pv 4) pe_int) (pe_c C_l_draw pass0 hq hr (by omega) (by rfl) (pa_cons (pv 0) (pa_cons pe_int pa_nil)))) pa_nil))) pa_nil)))))
 (pss_cons (ps_par (i := 7) (j := 8) rfl S.nd rfl rfl (by decide) rfl rfl (pa_cons (pe_c C_l_pick pass0 hq hr (by omega) (by rfl) (pa_cons (pv 0) (pa_cons (pv 6) pa_nil))) (pa_cons (pe_c C_l_pick pass0 hq hr (by omega) (by rfl) (pa_cons (pv 0) (pa_cons (pv 6) pa_nil))) pa_nil)) (by rfl))
 (pss_cons (ps_set (i := 9) S.nd rfl (.inl rfl) (pe_lst (pa_cons (pe_tup (pa_cons pe_str (pa_cons (pv 7) (pa_cons (pv 8) pa_nil)))) (pa_cons (pe_tup (pa_cons pe_str (pa_cons (pv 7) (pa_cons (pv 8) pa_nil)))) (pa_cons (pe_tup (pa_cons pe_str (pa_cons (pv 7) pa_nil))) (pa_cons (pe_tup (pa_cons pe_str (pa_cons (pv 7) (pa_cons (pv 7) pa_nil)))) (pa_cons (pe_tup (pa_cons pe_str (pa_cons (pe_c C_l_draw pass0 hq hr (by omega) (by rfl) (pa_cons (pv 0) (pa_cons pe_int pa_nil))) pa_nil))) pa_nil)))))))
 (pss_cons (ps_expr (pe_bm PySem.F.plainAttrs_list PySem.F.slot_list_append PySem.F.type_list_append mt_append (pv 9) (pa_cons (pe_tup (pa_cons pe_str (pa_cons (pe_c C_l_pick pass0 hq hr (by omega) (by rfl) (pa_cons (pv 0) (pa_cons pe_str pa_nil))) (pa_cons (pe_c C_l_draw pass0 hq hr (by omega) (by rfl) (pa_cons (pv 0) (pa_cons pe_int pa_nil))) (pa_cons (pe_c C_l_draw pass0 hq hr (by omega) (by rfl) (pa_cons (pv 0) (pa_cons (pv 1) pa_nil))) pa_nil))))) pa_nil)))
 (pss_cons (ps_expr (pe_bm PySem.F.plainAttrs_list PySem.F.slot_list_append PySem.F.type_list_append mt_append (pv 9) (pa_cons (pe_tup (pa_cons pe_str (pa_cons (pe_ix ix_str pe_str (pe_op op_fdivN (pv 4) pe_int) (fun _ _ => rfl)) (pa_cons (pe_op op_mod (pv 4) pe_int) pa_nil)))) pa_nil)))
 (pss_one (ps_expr (pe_bm PySem.F.plainAttrs_list PySem.F.slot_list_append PySem.F.type_list_append mt_append (pv 3) (pa_cons (pe_ix ix_list (pe_op op_cat (pv 9) (pe_op op_rep (pe_lst (pa_cons (pe_tup (pa_cons pe_str (pa_cons (pv 7) pa_nil))) pa_nil)) pe_int)) (pv 5) (fun _ _ => rfl)) pa_nil)))))))))))
 (pss_one (ps_ret (pe_tup (pa_cons (pe_callTy call_tuple_of (by rfl) M.tuple_ (by decide +kernel) (pa_cons (pv 3) pa_nil)) (pa_cons (pe_tup pa_nil) (pa_cons (pe_tup pa_nil) pa_nil)))))))))), ?_⟩
    refine ⟨.ref d, rfl, d, c, 12, t, rfl, by decide, by decide, dk, by omega, fun r1 H1 a1 b1 k1 dk1 => ⟨_, _, rfl, rfl, (by decide : (2 : Nat) ≤ sizeLine), fun p1 np1 => ?_⟩⟩
    generalize hP1 : upd _ p1 _ = P1
    have sP1 : Same H1 P1 := hP1 ▸ same_new np1
    have eP1 : P1 p1 = some _ := hP1 ▸ upd_same
    refine ⟨.ref d, rfl, d, c, 8, t + 1, rfl, by decide, by decide, dk1.same sP1, by omega, fun r2 H2 a2 b2 k2 dk2 => ⟨rfl, .inr ⟨_, rfl, ?_⟩⟩⟩
    obtain ⟨m, m1, m2, hat⟩ := many_at (r2 := r2) a1 b1
    have f1 := dk1.free np1
    refine ⟨p1, _, _, _, rfl, rfl, .inl (.inl (k2 p1 _ f1.1 f1.2 eP1)), hat, ?_⟩
    refine ⟨.ref d, rfl, d, c, 4, t + 2, rfl, by decide, by decide, dk2, by omega, fun so H3 a3 b3 k3 dk3 => ?_⟩
    obtain ⟨sd, hsd, sd1, sd2⟩ := sides_at a3 b3
    refine ⟨(by decide : (3 : Nat) ≤ sizeLine), fun g1 ng1 => ?_⟩
    generalize hP2 : upd _ g1 _ = P2
    have sP2 : Same H3 P2 := hP2 ▸ same_new ng1
    have eg1 : P2 g1 = some _ := hP2 ▸ upd_same
    refine ⟨.ref d, rfl, d, c, 2, t + 3, rfl, by decide, by decide, dk3.same sP2, by omega, fun r4 H4 a4 b4 k4 dk4 => ?_⟩
    refine ⟨.ref d, rfl, .int (m : Int), rfl, d, c, (m : Int), t + 4, rfl, by omega, by omega, dk4, by omega, fun r5 H5 a5 b5 k5 dk5 => ?_⟩
    refine ⟨(by decide : (4 : Nat) ≤ sizeLine), fun g2 ng2 => ?_⟩
    generalize hP3 : upd _ g2 _ = P3
    have sP3 : Same H5 P3 := hP3 ▸ same_new ng2
    have eg2 : P3 g2 = some _ := hP3 ▸ upd_same
    refine ⟨(by decide : (2 : Nat) ≤ sizeLine), fun L nL => ?_⟩
    generalize hP4 : upd _ L _ = P4
    have sP4 : Same P3 P4 := hP4 ▸ same_new nL
    have eL : P4 L = some _ := hP4 ▸ upd_same
    have bb := (((((k1.same sP1).trans k2).trans k3).same sP2).trans k4).trans k5
    have dk6 := dk5.same sP3
    have nL0 : H L = none := but_none dk6 (bb.same sP3) nL
    have bb4 := (bb.same sP3).same sP4
    have tg1 : TdR P4 (Gt.inp "x" 0).td (.ref g1) := (gt_td (.inp "x" 0) eg1).keep ((((TK.but (dk3.same sP2) k4).trans (TK.but dk4 k5)).trans (TK.same sP3)).trans (TK.same sP4))
    obtain ⟨n5, rfl⟩ : ∃ n5 : Nat, r5 = (n5 : Int) := ⟨r5.toNat, by omega⟩
    have tg2 : TdR P4 (Gt.box "k" r4 n5).td (.ref g2) := (gt_td (.box "k" r4 n5) eg2).keep (TK.same sP4)
    have ej : ((m : Int) - 2).toNat = m - 2 := by omega
    refine ⟨.int (m : Int), rfl, 2, (m : Int), rfl, ⟨by decide, by decide, by omega, by omega⟩, ?_⟩
    rw [ej]
    refine for_range (lo := 2) (n := m - 2) (fun i σ H' => ∃ (gs : List Gt) (vs : List V) (t' : Nat), But d c H H' ∧ Deck H' d c t' ∧ t' ≤ t + 5 + 9 * i ∧ H' L = some (.lst vs) ∧ All2 H' (gs.map Gt.td) vs ∧ NetOk gs m ∧ gs.length = i + 2 ∧ ∃ x4 x5 x6 x7 x8 x9 : Option V,
      σ = [some (.ref d), some (.int (m : Int)), some (.int so), some (.ref L), x4, x5, x6, x7, x8, x9]) ?_ ?_ ?_
    · refine ⟨[.inp "x" 0, .box "k" r4 n5], _, t + 5, bb4, dk6.same sP4, by omega, eL, .cons tg1 (.cons tg2 .nil), ⟨by show 2 ≤ m; omega, fun i g e => ?_⟩, rfl, none, none, none, none, none, none, rfl⟩
      match i, e with
      | 0, e =>
        cases e
        exact ⟨True.intro, okZ_dec (by decide +kernel), ⟨0, rfl, by decide⟩⟩
      | 1, e =>
        cases e
        exact ⟨(by show n5 < m; omega), okZ_dec (by decide +kernel), small_of a4 (by omega), (by show n5 ≤ 9999999; omega)⟩
      | n + 2, e => cases e
    · rintro i σ H' hi ⟨gs, vs, t', bt, dkt, lt, eLt, al, no, lgs, x4, x5, x6, x7, x8, x9, rfl⟩
      rw [show (2 : Int) + (i : Int) = ((i + 2 : Nat) : Int) by omega]
      generalize hkk : i + 2 = kk at *
      have hkm : kk < m := by omega
      obtain ⟨nLd1, nLd2⟩ := dk6.free nL
      -- which
      refine ⟨.ref d, rfl, (by decide : (4 : Nat) ≤ sizeLine), fun q1 nq1 => ?_⟩
      generalize hU1 : upd _ q1 _ = U1
      have s1 : Same H' U1 := hU1 ▸ same_new nq1
      have e1 : U1 q1 = some _ := hU1 ▸ upd_same
      refine ⟨.int so, rfl, q1, _, _, _, rfl, rfl, .inl (.inl e1), hsd, d, c, sd, t', rfl, sd1, by omega, dkt.same s1, by omega, fun wh G1 aw bw h1 j1 => ?_⟩
      -- near
      refine ⟨.int (kk : Int), rfl, _, _, rfl, rfl, .ref d, rfl, .int (kk : Int), rfl, d, c, (kk : Int), t' + 1, rfl, by omega, by omega, j1, by omega, fun rr G2 ar br h2 j2 => ?_⟩
      refine ⟨.int (kk : Int), rfl, _, _, rfl, rfl, .ref d, rfl, d, c, 3, t' + 2, rfl, by decide, by decide, j2, by omega, fun rx G3 ax bx h3 j3 => ?_⟩
      refine ⟨_, _, rfl, rfl, _, _, rfl, (by decide : (3 : Nat) ≤ sizeLine), fun q2 nq2 => ?_⟩
      generalize hU2 : upd _ q2 _ = U2
      have s2 : Same G3 U2 := hU2 ▸ same_new nq2
      have e2 : U2 q2 = some _ := hU2 ▸ upd_same
      have nq2d := j3.free nq2
      have nr : ∀ z : Addr, V.ref q2 = .ref z → q2 = z := fun z h => V.ref.inj h
      -- one, other
      refine ⟨.ref d, rfl, .ref q2, rfl, d, c, t' + 3, .ref q2, _, rfl, .lst (.inl (.inl e2)), (by decide : (1 : Nat) ≤ 3), (by decide : (3 : Nat) < 1000000000), fun h => nq2d.1 (nr _ h), fun h => nq2d.2 (nr _ h), j3.same s2, by omega, fun i1 v1 G4 z1 h4 j4 => ?_⟩
      refine ⟨.ref d, rfl, .ref q2, rfl, d, c, t' + 4, .ref q2, _, rfl, .lst (.inl (.inl (h4 q2 _ nq2d.1 nq2d.2 e2))), (by decide : (1 : Nat) ≤ 3), (by decide : (3 : Nat) < 1000000000), fun h => nq2d.1 (nr _ h), fun h => nq2d.2 (nr _ h), j4, by omega, fun i2 v2 G5 z2 h5 j5 => ?_⟩
      obtain ⟨a, rfl, la⟩ := near_at (by omega) ar br ax z1
      obtain ⟨b, rfl, lb⟩ := near_at (by omega) ar br ax z2
      refine ⟨_, _, rfl, ?_⟩
      -- some
      refine ⟨.int (a : Int), rfl, .int (b : Int), rfl, (by decide : (3 : Nat) ≤ sizeLine), fun u1 nu1 => ?_⟩
      generalize hW1 : upd _ u1 _ = W1
      have y1 : Same G5 W1 := hW1 ▸ same_new nu1
      have o1 : W1 u1 = some _ := hW1 ▸ upd_same
      refine ⟨.int (a : Int), rfl, .int (b : Int), rfl, (by decide : (3 : Nat) ≤ sizeLine), fun u2 nu2 => ?_⟩
      generalize hW2 : upd _ u2 _ = W2
      have y2 : Same W1 W2 := hW2 ▸ same_new nu2
      have o2 : W2 u2 = some _ := hW2 ▸ upd_same
      refine ⟨.int (a : Int), rfl, (by decide : (2 : Nat) ≤ sizeLine), fun u3 nu3 => ?_⟩
      generalize hW3 : upd _ u3 _ = W3
      have y3 : Same W2 W3 := hW3 ▸ same_new nu3
      have o3 : W3 u3 = some _ := hW3 ▸ upd_same
      refine ⟨.int (a : Int), rfl, .int (a : Int), rfl, (by decide : (3 : Nat) ≤ sizeLine), fun u4 nu4 => ?_⟩
      generalize hW4 : upd _ u4 _ = W4
      have y4 : Same W3 W4 := hW4 ▸ same_new nu4
      have o4 : W4 u4 = some _ := hW4 ▸ upd_same
      have y14 := ((y1.trans y2).trans y3).trans y4
      refine ⟨.ref d, rfl, d, c, 2, t' + 5, rfl, by decide, by decide, j5.same y14, by omega, fun r6 G6 a6 b6 h6 j6 => ?_⟩
      refine ⟨(by decide : (2 : Nat) ≤ sizeLine), fun u5 nu5 => ?_⟩
      generalize hW5 : upd _ u5 _ = W5
      have y5 : Same G6 W5 := hW5 ▸ same_new nu5
      have o5 : W5 u5 = some _ := hW5 ▸ upd_same
      refine ⟨(by decide : (5 : Nat) ≤ sizeLine), fun SL nSL => ?_⟩
      generalize hW6 : upd _ SL _ = W6
      have y6 : Same W5 W6 := hW6 ▸ same_new nSL
      have oS : W6 SL = some _ := hW6 ▸ upd_same
      have jW5 := j6.same y5
      have nSLd := jW5.free nSL
      have jW6 := jW5.same y6
      -- the box
      refine ⟨.ref SL, rfl, .inl ⟨rfl, _, .inl (.inl oS)⟩, .ref d, rfl, d, c, t' + 6, .str "kkm", _, rfl, .str (by decide +kernel), (by decide +kernel : 1 ≤ (sgV "kkm").length), (by decide +kernel : (sgV "kkm").length < 1000000000), fun h => (by cases h), fun h => (by cases h), jW6, by omega, fun i3 v3 G7 z3 h7 j7 => ?_⟩
      obtain ⟨ck, rfl, okc⟩ := kkm_at z3
      refine ⟨.ref d, rfl, d, c, 2, t' + 7, rfl, by decide, by decide, j7, by omega, fun r7 G8 a7 b7 h8 j8 => ?_⟩
      refine ⟨.ref d, rfl, .int (m : Int), rfl, d, c, (m : Int), t' + 8, rfl, by omega, by omega, j8, by omega, fun r8 G9 a8 b8 h9 j9 => ?_⟩
      refine ⟨(by decide : (4 : Nat) ≤ sizeLine), fun u6 nu6 => ?_⟩
      generalize hW7 : upd _ u6 _ = W7
      have y7 : Same G9 W7 := hW7 ▸ same_new nu6
      have o6 : W7 u6 = some _ := hW7 ▸ upd_same
      have oS7 : W7 SL = some _ := y7 _ _ (h9 SL _ nSLd.1 nSLd.2 (h8 SL _ nSLd.1 nSLd.2 (h7 SL _ nSLd.1 nSLd.2 oS)))
      refine ⟨SL, _, _, rfl, rfl, oS7, (by decide : (5 : Nat) < sizeLine), ?_⟩
      generalize hW8 : upd _ SL _ = W8
      have oS8 : W8 SL = some _ := hW8 ▸ upd_same
      obtain ⟨chx, hchx, okx⟩ := xyz_at (k := kk) (by omega)
      refine ⟨.ref SL, rfl, .inl ⟨rfl, _, .inl (.inl oS8)⟩, .int (kk : Int), rfl, _, _, rfl, rfl, ⟨by decide, by decide⟩, "xyzuv", _, chx, rfl, rfl, by decide, hchx, .int (kk : Int), rfl, _, _, rfl, rfl, (by show (0 : Int) < 8; decide), (by decide : (3 : Nat) ≤ sizeLine), fun u7 nu7 => ?_⟩
      generalize hW9 : upd _ u7 _ = W9
      have y9 : Same W8 W9 := hW9 ▸ same_new nu7
      have o7 : W9 u7 = some _ := hW9 ▸ upd_same
      have oS9 := y9 _ _ oS8
      refine ⟨SL, _, _, rfl, rfl, oS9, (by decide : (6 : Nat) < sizeLine), ?_⟩
      generalize hWA : upd _ SL _ = WA
      have oSA : WA SL = some _ := hWA ▸ upd_same
      -- which is taken
      have bG5 : But d c H' G5 := (((((But.of s1).trans h1).trans h2).trans h3).same s2).trans (h4.trans h5)
      have bG9 : But d c H' W7 := ((((((bG5.same y14).trans h6).same y5).same y6).trans h7).trans (h8.trans h9)).same y7
      have eL7 : W7 L = some (.lst vs) := bG9 L _ nLd1 nLd2 eLt
      have nLS : L ≠ SL := fun z => by
        have e5 : W5 L = some (.lst vs) := y5 _ _ (h6 L _ nLd1 nLd2 (y14 _ _ (bG5 L _ nLd1 nLd2 eLt)))
        rw [z, nSL] at e5
        cases e5
      have eL8 : W8 L = some (.lst vs) := by
        rw [← hW8, upd_ne nLS]
        exact eL7
      have eLA : WA L = some (.lst vs) := by
        rw [← hWA, upd_ne nLS]
        exact y9 _ _ eL8
      refine ⟨.ref L, rfl, .inl ⟨rfl, _, .inl (.inl eLA)⟩, .ref SL, rfl, .int (a : Int), rfl, (by decide : (2 : Nat) ≤ sizeLine), fun u8 nu8 => ?_⟩
      generalize hWB : upd _ u8 _ = WB
      have yB : Same WA WB := hWB ▸ same_new nu8
      have o8 : WB u8 = some _ := hWB ▸ upd_same
      refine ⟨(by decide : (1 : Nat) ≤ sizeLine), fun w1 nw1 => ?_⟩
      generalize hWC : upd _ w1 _ = WC
      have yC : Same WB WC := hWC ▸ same_new nw1
      have ow1 : WC w1 = some _ := hWC ▸ upd_same
      refine ⟨w1, 5, _, rfl, rfl, ow1, by decide, by decide, (by decide : 1 * (5 : Int).toNat ≤ sizeLine), fun w2 nw2 => ?_⟩
      generalize hWD : upd _ w2 _ = WD
      have yD : Same WC WD := hWD ▸ same_new nw2
      have ow2 : WD w2 = some _ := hWD ▸ upd_same
      have oSD := yD _ _ (yC _ _ (yB _ _ oSA))
      refine ⟨SL, w2, _, _, rfl, rfl, oSD, ow2, (by decide : (12 : Nat) ≤ sizeLine), fun w3 nw3 => ?_⟩
      generalize hWE : upd _ w3 _ = WE
      have yE : Same WD WE := hWE ▸ same_new nw3
      have ow3 : WE w3 = some _ := hWE ▸ upd_same
      have kB := TK.same ((yC.trans yD).trans yE)
      have kA := (TK.same yB).trans kB
      have k9 : TK W9 WE := TK.trans (hWA ▸ TK.lst (TK.same (Same.refl W9)) oS9) kA
      have k8 := (TK.same y9).trans k9
      have k7 : TK W7 WE := TK.trans (hW8 ▸ TK.lst (TK.same (Same.refl W7)) oS7) k8
      have kG9 := (TK.same y7).trans k7
      have kW6 := (((TK.but jW6 h7).trans (TK.but j7 h8)).trans (TK.but j8 h9)).trans kG9
      have kW5 := (TK.same y6).trans kW6
      have kG6 := (TK.same y5).trans kW5
      have kW4 := (TK.but (j5.same y14) h6).trans kG6
      have kW3 := (TK.same y4).trans kW4
      have kW2 := (TK.same y3).trans kW3
      have kW1 := (TK.same y2).trans kW2
      have bW5 : But d c H' W5 := ((bG5.same y14).trans h6).same y5
      have nS0 : H' SL = none := but_none jW5 bW5 nSL
      have bW8 : But d c H' W8 := hW8 ▸ bG9.mut nS0
      have bWA : But d c H' WA := hWA ▸ (bW8.same y9).mut nS0
      have bWE := bWA.same (((yB.trans yC).trans yD).trans yE)
      have jW8 : Deck W8 d c (t' + 9) := hW8 ▸ (j9.same y7).mut nSLd.1.symm nSLd.2.symm
      have jWA : Deck WA d c (t' + 9) := hWA ▸ (jW8.same y9).mut nSLd.1.symm nSLd.2.symm
      have jWE := jWA.same (((yB.trans yC).trans yD).trans yE)
      have eLE := yE _ _ (yD _ _ (yC _ _ (yB _ _ eLA)))
      have la2 : a < kk := by omega
      have lb2 : b < kk := by omega
      obtain ⟨wn, rfl⟩ : ∃ wn : Nat, wh = (wn : Int) := ⟨wh.toNat, by omega⟩
      obtain ⟨r8n, rfl⟩ : ∃ r8n : Nat, r8 = (r8n : Int) := ⟨r8.toNat, by omega⟩
      have pk : ∃ (u : Addr) (g : Gt), ([V.ref u1, V.ref u2, V.ref u3, V.ref u4, V.ref u5] ++ [V.ref u6] ++ [V.ref u7] ++ (List.replicate (5 : Int).toNat [V.ref u8]).flatten)[wn]? = some (.ref u) ∧ TdR WE g.td (.ref u) ∧ g.ok m kk ∧ g.sm := by
        have tn : ∃ (g : Gt), TdR WE g.td (.ref u8) ∧ g.ok m kk ∧ g.sm := ⟨.nt a, (gt_td (.nt a) o8).keep kB, la2, (by show a ≤ 9999999; omega)⟩
        obtain ⟨g8, q8, q9, q10⟩ := tn
        have hw12 : wn < 12 := by omega
        match wn, hw12 with
        | 0, _ => exact ⟨u1, .two "and" a b, rfl, (gt_td (.two "and" a b) o1).keep kW1, ⟨.inl rfl, la2, lb2⟩, okZ_dec (by decide +kernel), by omega, by omega⟩
        | 1, _ => exact ⟨u2, .two "or" a b, rfl, (gt_td (.two "or" a b) o2).keep kW2, ⟨.inr (.inl rfl), la2, lb2⟩, okZ_dec (by decide +kernel), by omega, by omega⟩
        | 2, _ => exact ⟨u3, .nt a, rfl, (gt_td (.nt a) o3).keep kW3, la2, (by show a ≤ 9999999; omega)⟩
        | 3, _ => exact ⟨u4, .two "xor" a a, rfl, (gt_td (.two "xor" a a) o4).keep kW4, ⟨.inr (.inr rfl), la2, la2⟩, okZ_dec (by decide +kernel), by omega, by omega⟩
        | 4, _ => exact ⟨u5, .iz r6, rfl, (gt_td (.iz r6) o5).keep kW5, True.intro, small_of a6 (by omega)⟩
        | 5, _ => exact ⟨u6, .box ck r7 r8n, rfl, (gt_td (.box ck r7 r8n) o6).keep k7, (by show r8n < m; omega), okc, small_of a7 (by omega), (by show r8n ≤ 9999999; omega)⟩
        | 6, _ => exact ⟨u7, .inp ⟨#[chx]⟩ ((kk : Int) % 8), rfl, (gt_td (.inp ⟨#[chx]⟩ ((kk : Int) % 8)) o7).keep k9, True.intro, okx, small_of (by omega) (by omega)⟩
        | 7, _ => exact ⟨u8, g8, rfl, q8, q9, q10⟩
        | 8, _ => exact ⟨u8, g8, rfl, q8, q9, q10⟩
        | 9, _ => exact ⟨u8, g8, rfl, q8, q9, q10⟩
        | 10, _ => exact ⟨u8, g8, rfl, q8, q9, q10⟩
        | 11, _ => exact ⟨u8, g8, rfl, q8, q9, q10⟩
        | n + 12, h => omega
      obtain ⟨u, g, hu, tu, gok, gsm⟩ := pk
      have lv : vs.length = gs.length := by rw [← al.1, List.length_map]
      refine ⟨.int (wn : Int), rfl, w3, _, _, _, rfl, rfl, .inl (.inl ow3), atI_nat hu, L, _, _, rfl, rfl, eLE, (by rw [lv, lgs]; exact Nat.lt_trans hkm (Nat.lt_of_le_of_lt m2 (by decide))), ?_⟩
      have kf := TK.lst (o := .lst (vs ++ [V.ref u])) (TK.same (Same.refl WE)) eLE
      refine ⟨gs ++ [g], vs ++ [.ref u], t' + 9, (bt.trans bWE).mut nL0, jWE.mut (Ne.symm nLd1) (Ne.symm nLd2), by omega, upd_same, ?_, no.snoc (by omega) (by rw [lgs]; exact gok) gsm, by rw [List.length_append, lgs]; show kk + 1 = i + 1 + 2; omega, _, _, _, _, _, _, rfl⟩
      rw [List.map_append]
      exact All2.snoc ((al.keep (TK.but dkt bWE)).keep kf) (tu.keep kf)
    · rintro σ H' ⟨gs, vs, t', bt, dkt, lt, eLt, al, no, lgs, x4, x5, x6, x7, x8, x9, rfl⟩
      have lv : vs.length = gs.length := by rw [← al.1, List.length_map]
      have lgm : gs.length = m := by omega
      refine ⟨.ref L, rfl, L, vs, rfl, .inl ⟨.inl (.inl eLt), fun T1 nT1 => ?_⟩⟩
      generalize hV1 : upd _ T1 _ = V1
      have v1 : Same H' V1 := hV1 ▸ same_new nT1
      have x1 : V1 T1 = some _ := hV1 ▸ upd_same
      refine ⟨Nat.zero_le _, fun T2 nT2 => ?_⟩
      generalize hV2 : upd _ T2 _ = V2
      have v2 : Same V1 V2 := hV2 ▸ same_new nT2
      have x2 : V2 T2 = some _ := hV2 ▸ upd_same
      refine ⟨Nat.zero_le _, fun T3 nT3 => ?_⟩
      generalize hV3 : upd _ T3 _ = V3
      have v3 : Same V2 V3 := hV3 ▸ same_new nT3
      have x3 : V3 T3 = some _ := hV3 ▸ upd_same
      refine ⟨(by decide : (3 : Nat) ≤ sizeLine), fun T4 nT4 => ?_⟩
      generalize hV4 : upd _ T4 _ = V4
      have v4 : Same V3 V4 := hV4 ▸ same_new nT4
      have x4 : V4 T4 = some _ := hV4 ▸ upd_same
      have v14 := ((v1.trans v2).trans v3).trans v4
      refine q _ gs t' V4 (bt.same v14) (dkt.same v14) (by omega) ?_ (by rw [lgm]; exact no) (by omega) (by omega)
      exact .mk x4 (.cons (.mk (v4 _ _ (v3 _ _ (v2 _ _ x1))) (al.same v14)) (.cons (.mk (v4 _ _ (v3 _ _ x2)) .nil) (.cons (.mk (v4 _ _ x3) .nil) .nil)))
end
end K80

namespace K80
open PySem PySem.Spec PyProof.Rows L2 Kit
/-! ### the law's own: a way -/
def cV (c : Int × Int) : List V := [.int c.1, .int c.2]
def on9 (c : Int × Int) : Prop := (0 ≤ c.1 ∧ c.1 < 9) ∧ 0 ≤ c.2 ∧ c.2 < 9
theorem on9_sm {c : Int × Int} (h : on9 c) : smC c := ⟨small_of h.1.1 (by have := h.1.2; omega), small_of h.2.1 (by have := h.2.2; omega)⟩
theorem cell_td {H : Hp} {p : Addr} {c : Int × Int} (h : H p = some (.tup (cV c))) : TdR H (cellT c) (.ref p) := .mk h (.cons (.int _) (.cons (.int _) .nil))
def spWay : Sp := fun vs H Q _ => ∃ (d c F T : Addr) (t : Nat) (a b : Int × Int), vs = [.ref d, .ref F, .ref T] ∧ Deck H d c t ∧ t < 10000000 ∧ H F = some (.tup (cV a)) ∧ H T = some (.tup (cV b)) ∧ on9 a ∧ on9 b ∧
  ∀ (v : V) (w : Way) (t' : Nat) (H' : Hp), But d c H H' → Deck H' d c t' → t' ≤ t + 40 → TdR H' (wayT w) v → 1 ≤ w.length → w.length ≤ 40 → (∀ z ∈ w, smC z) → Q v H'
def cellD (c : Int × Int) : PyData := .tuple [.int c.1, .int c.2]
theorem pd_cell (c : Int × Int) : pd (cellT c) = cellD c := by
  unfold cellT cellD
  rw [pd, pdL, pd, pdL, pd, pdL]
theorem cell_sh (c : Int × Int) : SeqAt.shaped (cellD c) = true := by
  unfold SeqAt.shaped cellD
  simp [PyData.canLay0, PyData.canLayAll0, PyData.depth, PyData.depthAll]
theorem cell_eqv (a b : Int × Int) : PyData.eqv (cellD a) (cellD b) = decide (a = b) := by
  unfold cellD
  rw [PyData.eqv, PyData.eqvAll, PyData.eqvAll, PyData.eqvAll, PyData.eqv, PyData.eqv]
  by_cases h : a = b
  · subst h
    simp
  · rw [decide_eq_false h]
    obtain ⟨a1, a2⟩ := a
    obtain ⟨b1, b2⟩ := b
    dsimp only
    by_cases h1 : a1 = b1
    · by_cases h2 : a2 = b2
      · exact absurd (by rw [h1, h2]) h
      · simp [h2]
    · simp [h1]
structure WI (d c L : Addr) (H G : Hp) (hA : Addr) (hc : Int × Int) (vs : List V) (w : Way) (t : Nat) : Prop where
  but : But d c H G
  dk : Deck G d c t
  eL : G L = some (.lst vs)
  al : All2 G (w.map cellT) vs
  eh : G hA = some (.tup (cV hc))
  on : on9 hc
  sm : ∀ z ∈ w, smC z
  l1 : L ≠ d
  l2 : L ≠ c
  l0 : H L = none
theorem WI.step {d c L : Addr} {H G G2 : Hp} {hA : Addr} {hc : Int × Int} {vs : List V} {w : Way} {t t2 : Nat} (h : WI d c L H G hA hc vs w t) (b : But d c G G2) (k : Deck G2 d c t2) : WI d c L H G2 hA hc vs w t2 := by
  have tk := TK.but h.dk b
  exact ⟨h.but.trans b, k, b L _ h.l1 h.l2 h.eL, h.al.keep tk, tk _ _ h.eh, h.on, h.sm, h.l1, h.l2, h.l0⟩
theorem WI.same {d c L : Addr} {H G G2 : Hp} {hA : Addr} {hc : Int × Int} {vs : List V} {w : Way} {t : Nat} (h : WI d c L H G hA hc vs w t) (b : Same G G2) : WI d c L H G2 hA hc vs w t := h.step (But.of b) (h.dk.same b)
/-- another cell -/
theorem WI.go {d c L : Addr} {H G : Hp} {hA hB : Addr} {hc hd : Int × Int} {vs : List V} {w : Way} {t : Nat} (h : WI d c L H G hA hc vs w t) (e : G hB = some (.tup (cV hd))) (o : on9 hd) : WI d c L H (upd G L (.lst (vs ++ [.ref hB]))) hB hd (vs ++ [.ref hB]) (w ++ [hd]) t := by
  have tk : TK G (upd G L (.lst (vs ++ [.ref hB]))) := TK.lst (TK.same (Same.refl G)) h.eL
  refine ⟨h.but.mut h.l0, h.dk.mut h.l1.symm h.l2.symm, upd_same, ?_, tk _ _ e, o, ?_, h.l1, h.l2, h.l0⟩
  · rw [List.map_append]
    exact All2.snoc (h.al.keep tk) ((cell_td e).keep tk)
  · intro z hz
    rcases List.mem_append.mp hz with hz | hz
    · exact h.sm z hz
    · rw [List.mem_singleton.mp hz]
      exact on9_sm o
def far (a b : Int × Int) : Nat := (a.1 - b.1).natAbs + (a.2 - b.2).natAbs
theorem sg_at (x y : Int) : ∃ sg : Int, atI [V.int 1, .int (-1)] (if decide (x < y) = true then 1 else 0) = some (.int sg) ∧ ((x < y ∧ sg = -1) ∨ (¬ x < y ∧ sg = 1)) := by
  by_cases h : x < y
  · exact ⟨-1, by rw [decide_eq_true h]; rfl, .inl ⟨h, rfl⟩⟩
  · exact ⟨1, by rw [decide_eq_false h]; rfl, .inr ⟨h, rfl⟩⟩
theorem prod_small {r1 r2 : Int} (a1 : 0 ≤ r1) (b1 : r1 < 3) (a2 : 0 ≤ r2) (b2 : r2 < 2) : 0 ≤ r1 * r2 ∧ r1 * r2 ≤ 2 := by
  have h : r2 = 0 ∨ r2 = 1 := by omega
  rcases h with rfl | rfl
  · rw [Int.mul_zero]
    decide
  · rw [Int.mul_one]
    omega
section
variable {P : Program} {w : World} {K : PySem.W.Frag} {mg : Str → Option Value} {base : Heap}
theorem ok_l_way {f : Addr} {fd : FuncData} (D : DefAt K mg "_law_way" ["_law_deck_here", "_law_first", "_law_last"] s_l_way f fd) (M : Bi mg)
    (C_l_draw : Cal P w K mg base L2.CX0 1 "_law_draw" ["_law_deck_here", "_law_sides"] spDraw) :
    Cal P w K mg base L2.CX0 2 "_law_way" ["_law_deck_here", "_law_first", "_law_last"] spWay := by
  have S := S_l_way
  refine cal_of D.fn D.mgf D.bs D.kbs S (fun vs H Q E h => ?_) (fun cdv A outer s H vs Q E hq hr h => ?_)
  · obtain ⟨d, c, F, T, t, a, b, rfl, _⟩ := h
    rfl
  · obtain ⟨d, c, F, T, t, a, b, rfl, dk, ht, eF, eT, oa, ob, q⟩ := h
    refine ⟨_, (pss_cons (ps_par (i := 3) (j := 4) rfl S.nd rfl rfl (by decide) rfl rfl (pa_cons (pe_lst (pa_cons (pv 1) pa_nil)) (pa_cons (pv 1) pa_nil)) (by rfl))
 (pss_cons (ps_for PassesOwn.never rfl (pi_range1 (by rfl) M.range_ (pa_cons (pe_op op_mulB (pe_c C_l_draw pass0 hq hr (by omega) (by rfl) (pa_cons (pv 0) (pa_cons pe_int pa_nil))) (pe_c C_l_draw pass0 hq hr (by omega) (by rfl) (pa_cons (pv 0) (pa_cons pe_int pa_nil)))) pa_nil)) (pg_name (i := 5) S.nd rfl (.inl rfl))
  (pss_cons (ps_asg (pe_ix ix_list (pe_lst (pa_cons (pe_tup (pa_cons pe_int (pa_cons pe_int pa_nil))) (pa_cons (pe_tup (pa_cons pe_int (pa_cons pe_int pa_nil))) (pa_cons (pe_tup (pa_cons pe_int (pa_cons (pe_un un_neg pe_int) pa_nil))) (pa_cons (pe_tup (pa_cons (pe_un un_neg pe_int) (pa_cons pe_int pa_nil))) pa_nil))))) (pe_c C_l_draw pass0 hq hr (by omega) (by rfl) (pa_cons (pv 0) (pa_cons pe_int pa_nil))) (fun _ _ => rfl)) (pg_tup (by rfl) (pgs_cons (pg_name (i := 6) S.nd rfl (.inl rfl)) (pgs_cons (pg_name (i := 7) S.nd rfl (.inl rfl)) pgs_nil))))
 (pss_one (ps_if (PW.pt (pw_and (pt_chain op_le op_lt pe_int (pe_op op_add (pe_ix ix_tup (pv 4) pe_int (fun _ _ => rfl)) (pv 6)) pe_int) (pw_and1 (pt_chain op_le op_lt pe_int (pe_op op_add (pe_ix ix_tup (pv 4) pe_int (fun _ _ => rfl)) (pv 7)) pe_int))))
  (pss_cons (ps_set (i := 4) S.nd rfl (.inl rfl) (pe_tup (pa_cons (pe_op op_add (pe_ix ix_tup (pv 4) pe_int (fun _ _ => rfl)) (pv 6)) (pa_cons (pe_op op_add (pe_ix ix_tup (pv 4) pe_int (fun _ _ => rfl)) (pv 7)) pa_nil))))
 (pss_one (ps_expr (pe_bm PySem.F.plainAttrs_list PySem.F.slot_list_append PySem.F.type_list_append mt_append (pv 3) (pa_cons (pv 4) pa_nil)))))
  pss_nil))))
 (pss_cons (ps_while PassesOwn.never (pt_cmpR (op_neD hr.units) (pv 4) (pv 2) (nomark _))
  (C8.pss_cut (ps_if (PW.pt (pw_and (pt_cmpR op_ne (pe_ix ix_tup (pv 4) pe_int (fun _ _ => rfl)) (pe_ix ix_tup (pv 2) pe_int (fun _ _ => rfl)) (nomark _)) (pw_and1 (PW.pt (pw_or (pt_cmpR op_eq (pe_ix ix_tup (pv 4) pe_int (fun _ _ => rfl)) (pe_ix ix_tup (pv 2) pe_int (fun _ _ => rfl)) (nomark _)) (pw_or1 (pt_cmpR op_eq (pe_c C_l_draw pass0 hq hr (by omega) (by rfl) (pa_cons (pv 0) (pa_cons pe_int pa_nil))) pe_int (nomark _))))))))
  (pss_one (ps_set (i := 4) S.nd rfl (.inl rfl) (pe_tup (pa_cons (pe_op op_add (pe_ix ix_tup (pv 4) pe_int (fun _ _ => rfl)) (pe_ix ix_list (pe_lst (pa_cons pe_int (pa_cons (pe_un un_neg pe_int) pa_nil))) (pe_callTy call_int1 (by rfl) M.int_ (by decide +kernel) (pa_cons (pe_cmpR op_lt (pe_ix ix_tup (pv 2) pe_int (fun _ _ => rfl)) (pe_ix ix_tup (pv 4) pe_int (fun _ _ => rfl)) (nomark _)) pa_nil)) (fun _ _ => rfl))) (pa_cons (pe_ix ix_tup (pv 4) pe_int (fun _ _ => rfl)) pa_nil)))))
  (pss_one (ps_set (i := 4) S.nd rfl (.inl rfl) (pe_tup (pa_cons (pe_ix ix_tup (pv 4) pe_int (fun _ _ => rfl)) (pa_cons (pe_op op_add (pe_ix ix_tup (pv 4) pe_int (fun _ _ => rfl)) (pe_ix ix_list (pe_lst (pa_cons pe_int (pa_cons (pe_un un_neg pe_int) pa_nil))) (pe_callTy call_int1 (by rfl) M.int_ (by decide +kernel) (pa_cons (pe_cmpR op_lt (pe_ix ix_tup (pv 2) pe_int (fun _ _ => rfl)) (pe_ix ix_tup (pv 4) pe_int (fun _ _ => rfl)) (nomark _)) pa_nil)) (fun _ _ => rfl))) pa_nil))))))
 (pss_one (ps_expr (pe_bm PySem.F.plainAttrs_list PySem.F.slot_list_append PySem.F.type_list_append mt_append (pv 3) (pa_cons (pv 4) pa_nil))))))
 (pss_one (ps_ret (pe_callTy call_tuple_of (by rfl) M.tuple_ (by decide +kernel) (pa_cons (pv 3) pa_nil))))))), ?_⟩
    refine ⟨.ref F, rfl, (by decide : (1 : Nat) ≤ sizeLine), fun L nL => ?_⟩
    generalize hU : upd _ L _ = U
    have sU : Same H U := hU ▸ same_new nL
    have eL : U L = some _ := hU ▸ upd_same
    obtain ⟨l1, l2⟩ := dk.free nL
    have wi0 : WI d c L H U F a [.ref F] [a] t := ⟨But.of sU, dk.same sU, eL, .cons (cell_td (sU _ _ eF)) .nil, sU _ _ eF, oa, fun z hz => by rw [List.mem_singleton.mp hz]; exact on9_sm oa, l1, l2, nL⟩
    refine ⟨.ref F, rfl, _, _, rfl, ?_⟩
    refine ⟨.ref d, rfl, d, c, 3, t, rfl, by decide, by decide, wi0.dk, by omega, fun r1 G1 a1 b1 k1 dk1 => ?_⟩
    refine ⟨.ref d, rfl, d, c, 2, t + 1, rfl, by decide, by decide, dk1, by omega, fun r2 G2 a2 b2 k2 dk2 => ?_⟩
    obtain ⟨p1, p2⟩ := prod_small a1 b1 a2 b2
    refine ⟨_, _, rfl, rfl, .of_left (intBits_le_64 (by omega) (by omega)), _, rfl, by omega, by omega, ?_⟩
    have wi2 := (wi0.step k1 dk1).step k2 dk2
    have ln : (r1 * r2).toNat ≤ 2 := by omega
    generalize (r1 * r2).toNat = n at ln
    refine for_range (lo := 0) (n := n) (fun i σ G => ∃ (hA : Addr) (hc : Int × Int) (vs : List V) (w : Way) (t' : Nat), WI d c L H G hA hc vs w t' ∧ t' ≤ t + 2 + i ∧ w.length ≤ 1 + i ∧ 1 ≤ w.length ∧ ∃ x5 x6 x7 : Option V,
      σ = [some (.ref d), some (.ref F), some (.ref T), some (.ref L), some (.ref hA), x5, x6, x7]) ?_ ?_ ?_
    · exact ⟨F, a, _, [a], t + 2, wi2, Nat.le_refl _, Nat.le_refl _, Nat.le_refl _, none, none, none, rfl⟩
    · rintro i σ G hi ⟨hA, hc, vs, w, t', wi, lt, lw, lw1, x5, x6, x7, rfl⟩
      refine ⟨(by decide : (2 : Nat) ≤ sizeLine), fun u1 nu1 => ?_⟩
      generalize hU1 : upd _ u1 _ = U1
      have s1 : Same G U1 := hU1 ▸ same_new nu1
      have o1 : U1 u1 = some (.tup (cV (0, 1))) := hU1 ▸ upd_same
      refine ⟨(by decide : (2 : Nat) ≤ sizeLine), fun u2 nu2 => ?_⟩
      generalize hU2 : upd _ u2 _ = U2
      have s2 : Same U1 U2 := hU2 ▸ same_new nu2
      have o2 : U2 u2 = some (.tup (cV (1, 0))) := hU2 ▸ upd_same
      refine ⟨_, rfl, (by decide : (2 : Nat) ≤ sizeLine), fun u3 nu3 => ?_⟩
      generalize hU3 : upd _ u3 _ = U3
      have s3 : Same U2 U3 := hU3 ▸ same_new nu3
      have o3 : U3 u3 = some (.tup (cV (0, -1))) := hU3 ▸ upd_same
      refine ⟨_, rfl, (by decide : (2 : Nat) ≤ sizeLine), fun u4 nu4 => ?_⟩
      generalize hU4 : upd _ u4 _ = U4
      have s4 : Same U3 U4 := hU4 ▸ same_new nu4
      have o4 : U4 u4 = some (.tup (cV (-1, 0))) := hU4 ▸ upd_same
      refine ⟨(by decide : (4 : Nat) ≤ sizeLine), fun u5 nu5 => ?_⟩
      generalize hU5 : upd _ u5 _ = U5
      have s5 : Same U4 U5 := hU5 ▸ same_new nu5
      have o5 : U5 u5 = some _ := hU5 ▸ upd_same
      have wi5 := ((((wi.same s1).same s2).same s3).same s4).same s5
      have f5 := (((((wi.dk.same s1).same s2).same s3).same s4)).free nu5
      refine ⟨.ref d, rfl, d, c, 4, t', rfl, by decide, by decide, wi5.dk, by omega, fun rr G3 ar br k3 dk3 => ?_⟩
      have wi6 := wi5.step k3 dk3
      have pk : ∃ (u : Addr) (dr : Int × Int), atI [V.ref u1, V.ref u2, V.ref u3, V.ref u4] rr = some (.ref u) ∧ G3 u = some (.tup (cV dr)) := by
        have tk := TK.but wi5.dk k3
        obtain ⟨n, rfl⟩ : ∃ n : Nat, rr = (n : Int) := ⟨rr.toNat, by omega⟩
        match n, br with
        | 0, _ => exact ⟨u1, _, rfl, tk _ _ (s5 _ _ (s4 _ _ (s3 _ _ (s2 _ _ o1))))⟩
        | 1, _ => exact ⟨u2, _, rfl, tk _ _ (s5 _ _ (s4 _ _ (s3 _ _ o2)))⟩
        | 2, _ => exact ⟨u3, _, rfl, tk _ _ (s5 _ _ (s4 _ _ o3))⟩
        | 3, _ => exact ⟨u4, _, rfl, tk _ _ (s5 _ _ o4)⟩
        | n + 4, h => omega
      obtain ⟨u, dr, hat, eu⟩ := pk
      refine ⟨u5, _, _, _, rfl, rfl, .inl (.inl (k3 u5 _ f5.1 f5.2 o5)), hat, u, _, rfl, .inl (.inl eu), rfl, _, _, rfl, _, _, rfl, rfl, ?_⟩
      refine ⟨.ref hA, rfl, hA, _, _, _, rfl, rfl, .inl (.inl wi6.eh), atI_nat (j := 0) rfl, .int dr.1, rfl, _, _, rfl, rfl, _, _, rfl, rfl, _, rfl, ?_⟩
      have lv : vs.length = w.length := by rw [← wi6.al.1, List.length_map]
      have lvs : vs.length < sizeLine := by
        have : 10 < sizeLine := by decide
        omega
      by_cases h1 : 0 ≤ hc.1 + dr.1
      · rw [decide_eq_true h1]
        refine iteT ?_
        refine ⟨_, _, rfl, rfl, _, rfl, ?_⟩
        by_cases h2 : hc.1 + dr.1 < 9
        · rw [decide_eq_true h2]
          refine iteT ?_
          refine ⟨.ref hA, rfl, hA, _, _, _, rfl, rfl, .inl (.inl wi6.eh), atI_nat (j := 1) rfl, .int dr.2, rfl, _, _, rfl, rfl, _, _, rfl, rfl, _, rfl, ?_⟩
          by_cases h3 : 0 ≤ hc.2 + dr.2
          · rw [decide_eq_true h3]
            refine iteT ?_
            refine ⟨_, _, rfl, rfl, _, rfl, ?_⟩
            by_cases h4 : hc.2 + dr.2 < 9
            · rw [decide_eq_true h4]
              refine iteT ?_
              refine ⟨.ref hA, rfl, hA, _, _, _, rfl, rfl, .inl (.inl wi6.eh), atI_nat (j := 0) rfl, .int dr.1, rfl, _, _, rfl, rfl, .ref hA, rfl, hA, _, _, _, rfl, rfl, .inl (.inl wi6.eh), atI_nat (j := 1) rfl, .int dr.2, rfl, _, _, rfl, rfl, (by decide : (2 : Nat) ≤ sizeLine), fun p np => ?_⟩
              generalize hV : upd _ p _ = V1
              have sV : Same G3 V1 := hV ▸ same_new np
              have oV : V1 p = some (.tup (cV (hc.1 + dr.1, hc.2 + dr.2))) := hV ▸ upd_same
              have wi7 := wi6.same sV
              refine ⟨.ref L, rfl, .inl ⟨rfl, _, .inl (.inl wi7.eL)⟩, .ref p, rfl, L, _, _, rfl, rfl, wi7.eL, lvs, ?_⟩
              exact ⟨p, _, _, _, t' + 1, wi7.go oV ⟨⟨h1, h2⟩, h3, h4⟩, by omega, by rw [List.length_append]; show w.length + 1 ≤ _; omega, by rw [List.length_append]; show 1 ≤ w.length + 1; omega, _, _, _, rfl⟩
            · rw [decide_eq_false h4]
              refine iteF ?_
              exact ⟨hA, hc, vs, w, t' + 1, wi6, by omega, by omega, lw1, _, _, _, rfl⟩
          · rw [decide_eq_false h3]
            refine iteF ?_
            refine ⟨_, rfl, ?_⟩
            refine iteF ?_
            exact ⟨hA, hc, vs, w, t' + 1, wi6, by omega, by omega, lw1, _, _, _, rfl⟩
        · rw [decide_eq_false h2]
          refine iteF ?_
          refine iteF ?_
          exact ⟨hA, hc, vs, w, t' + 1, wi6, by omega, by omega, lw1, _, _, _, rfl⟩
      · rw [decide_eq_false h1]
        refine iteF ?_
        refine ⟨_, rfl, ?_⟩
        refine iteF ?_
        refine iteF ?_
        exact ⟨hA, hc, vs, w, t' + 1, wi6, by omega, by omega, lw1, _, _, _, rfl⟩
    · rintro σ G ⟨hA, hc, vs, w, t', wi, lt, lw, lw1, x5, x6, x7, rfl⟩
      have fb : far hc b ≤ 16 := by
        have h1 := wi.on
        unfold far
        obtain ⟨⟨_, _⟩, _, _⟩ := h1
        obtain ⟨⟨_, _⟩, _, _⟩ := ob
        omega
      refine ⟨fun m σ G => ∃ (hA : Addr) (hc : Int × Int) (vs : List V) (w : Way) (t' : Nat), WI d c L H G hA hc vs w t' ∧ m = far hc b ∧ t' + m ≤ t + 20 ∧ w.length + m ≤ 19 ∧ 1 ≤ w.length ∧ ∃ x5 x6 x7 : Option V,
        σ = [some (.ref d), some (.ref F), some (.ref T), some (.ref L), some (.ref hA), x5, x6, x7], ⟨far hc b, hA, hc, vs, w, t', wi, rfl, by omega, by omega, lw1, x5, x6, x7, rfl⟩, ?_⟩
      rintro m σ G ⟨hA, hc, vs, w, t', wi, rfl, lt, lw, lw1, x5, x6, x7, rfl⟩
      have eT1 : G T = some (.tup (cV b)) := TK.but dk wi.but _ _ eT
      have dp1 := dp_of (K := K) (cell_td wi.eh)
      have dp2 := dp_of (K := K) (cell_td eT1)
      rw [pd_cell] at dp1 dp2
      refine ⟨.ref hA, rfl, .ref T, rfl, _, _, dp1, dp2, cell_sh _, cell_sh _, _, rfl, ?_⟩
      rw [cell_eqv]
      by_cases hne : hc = b
      · rw [decide_eq_true hne]
        refine iteF ?_
        refine ⟨.ref L, rfl, L, vs, rfl, .inl ⟨.inl (.inl wi.eL), fun p np => ?_⟩⟩
        generalize hV : upd _ p _ = V1
        have sV : Same G V1 := hV ▸ same_new np
        have oV : V1 p = some _ := hV ▸ upd_same
        have wi2 := wi.same sV
        exact q _ w t' V1 wi2.but wi2.dk (by omega) (.mk oV wi2.al) lw1 (by omega) wi2.sm
      · rw [decide_eq_false hne]
        refine iteT ?_
        refine ⟨fun σ' H' => ∃ m', m' < far hc b ∧ _, fun σ' H' h => h, ?_⟩
        have lv : vs.length = w.length := by rw [← wi.al.1, List.length_map]
        have lvs : vs.length < sizeLine := by
          have : 40 < sizeLine := by decide
          omega
        have hne2 : ¬ (hc.1 = b.1 ∧ hc.2 = b.2) := fun z => hne (Prod.ext z.1 z.2)
        refine ⟨fun σ' G' => ∃ (hB : Addr) (hd : Int × Int) (t2 : Nat), WI d c L H G' hA hc vs w t2 ∧ G' hB = some (.tup (cV hd)) ∧ on9 hd ∧ far hd b + 1 = far hc b ∧ t2 ≤ t' + 1 ∧ ∃ x5 x6 x7 : Option V,
          σ' = [some (.ref d), some (.ref F), some (.ref T), some (.ref L), some (.ref hB), x5, x6, x7], ?_, ?_⟩
        · refine ⟨.ref hA, rfl, hA, _, _, _, rfl, rfl, .inl (.inl wi.eh), atI_nat (j := 0) rfl, .ref T, rfl, T, _, _, _, rfl, rfl, .inl (.inl eT1), atI_nat (j := 0) rfl, rfl, _, rfl, ?_⟩
          by_cases f1 : hc.1 = b.1
          · rw [decide_eq_true (by rw [f1])]
            refine iteF ?_
            refine iteF ?_
            refine ⟨.ref hA, rfl, hA, _, _, _, rfl, rfl, .inl (.inl wi.eh), atI_nat (j := 0) rfl, .ref hA, rfl, hA, _, _, _, rfl, rfl, .inl (.inl wi.eh), atI_nat (j := 1) rfl, _, rfl, (by decide : (2 : Nat) ≤ sizeLine), fun q1 nq1 => ?_⟩
            generalize hA1 : upd _ q1 _ = A1
            have sA : Same _ A1 := hA1 ▸ same_new nq1
            have oA : A1 q1 = some _ := hA1 ▸ upd_same
            have wiA := wi.same sA
            have eTA : A1 T = some (.tup (cV b)) := TK.but dk wiA.but _ _ eT
            obtain ⟨sg, hsg, hs⟩ := sg_at b.2 hc.2
            refine ⟨.ref T, rfl, T, _, _, _, rfl, rfl, .inl (.inl eTA), atI_nat (j := 1) rfl, .ref hA, rfl, hA, _, _, _, rfl, rfl, .inl (.inl wiA.eh), atI_nat (j := 1) rfl, _, _, rfl, rfl, .inr ⟨_, rfl, ?_⟩⟩
            refine ⟨q1, _, _, _, rfl, rfl, .inl (.inl oA), hsg, _, _, rfl, rfl, (by decide : (2 : Nat) ≤ sizeLine), fun p np => ?_⟩
            generalize hV : upd _ p _ = V1
            have sV : Same A1 V1 := hV ▸ same_new np
            have oV : V1 p = some (.tup (cV (hc.1, hc.2 + sg))) := hV ▸ upd_same
            have h9 := wi.on
            obtain ⟨⟨i1, i2⟩, i3, i4⟩ := h9
            obtain ⟨⟨j1, j2⟩, j3, j4⟩ := ob
            refine ⟨p, (hc.1, hc.2 + sg), t', wiA.same sV, oV, ⟨⟨?_, ?_⟩, ?_, ?_⟩, ?_, Nat.le_succ _, x5, x6, x7, rfl⟩ <;> (try unfold far) <;> dsimp only <;> omega
          · rw [decide_eq_false (show ¬ V.int hc.1 = V.int b.1 from fun z => f1 (V.int.inj z))]
            refine iteT ?_
            refine ⟨.ref hA, rfl, hA, _, _, _, rfl, rfl, .inl (.inl wi.eh), atI_nat (j := 1) rfl, .ref T, rfl, T, _, _, _, rfl, rfl, .inl (.inl eT1), atI_nat (j := 1) rfl, rfl, _, rfl, ?_⟩
            by_cases f2 : hc.2 = b.2
            · rw [decide_eq_true (by rw [f2])]
              refine iteT ?_
              refine iteT ?_
              refine ⟨.ref hA, rfl, hA, _, _, _, rfl, rfl, .inl (.inl wi.eh), atI_nat (j := 0) rfl, _, rfl, (by decide : (2 : Nat) ≤ sizeLine), fun q1 nq1 => ?_⟩
              generalize hA1 : upd _ q1 _ = A1
              have sA : Same _ A1 := hA1 ▸ same_new nq1
              have oA : A1 q1 = some _ := hA1 ▸ upd_same
              have wiA := wi.same sA
              have eTA : A1 T = some (.tup (cV b)) := TK.but dk wiA.but _ _ eT
              obtain ⟨sg, hsg, hs⟩ := sg_at b.1 hc.1
              refine ⟨.ref T, rfl, T, _, _, _, rfl, rfl, .inl (.inl eTA), atI_nat (j := 0) rfl, .ref hA, rfl, hA, _, _, _, rfl, rfl, .inl (.inl wiA.eh), atI_nat (j := 0) rfl, _, _, rfl, rfl, .inr ⟨_, rfl, ?_⟩⟩
              refine ⟨q1, _, _, _, rfl, rfl, .inl (.inl oA), hsg, _, _, rfl, rfl, .ref hA, rfl, hA, _, _, _, rfl, rfl, .inl (.inl wiA.eh), atI_nat (j := 1) rfl, (by decide : (2 : Nat) ≤ sizeLine), fun p np => ?_⟩
              generalize hV : upd _ p _ = V1
              have sV : Same A1 V1 := hV ▸ same_new np
              have oV : V1 p = some (.tup (cV (hc.1 + sg, hc.2))) := hV ▸ upd_same
              have h9 := wi.on
              obtain ⟨⟨i1, i2⟩, i3, i4⟩ := h9
              obtain ⟨⟨j1, j2⟩, j3, j4⟩ := ob
              refine ⟨p, (hc.1 + sg, hc.2), t', wiA.same sV, oV, ⟨⟨?_, ?_⟩, ?_, ?_⟩, ?_, Nat.le_succ _, x5, x6, x7, rfl⟩ <;> (try unfold far) <;> dsimp only <;> omega
            · rw [decide_eq_false (show ¬ V.int hc.2 = V.int b.2 from fun z => f2 (V.int.inj z))]
              refine iteF ?_
              refine ⟨.ref d, rfl, d, c, 2, t', rfl, by decide, by decide, wi.dk, by omega, fun rr G3 ar br k3 dk3 => ?_⟩
              have wi3 := wi.step k3 dk3
              refine ⟨rfl, _, rfl, ?_⟩
              by_cases f3 : rr = 0
              · rw [decide_eq_true (by rw [f3])]
                refine iteT ?_
                refine ⟨.ref hA, rfl, hA, _, _, _, rfl, rfl, .inl (.inl wi3.eh), atI_nat (j := 0) rfl, _, rfl, (by decide : (2 : Nat) ≤ sizeLine), fun q1 nq1 => ?_⟩
                generalize hA1 : upd _ q1 _ = A1
                have sA : Same _ A1 := hA1 ▸ same_new nq1
                have oA : A1 q1 = some _ := hA1 ▸ upd_same
                have wiA := wi3.same sA
                have eTA : A1 T = some (.tup (cV b)) := TK.but dk wiA.but _ _ eT
                obtain ⟨sg, hsg, hs⟩ := sg_at b.1 hc.1
                refine ⟨.ref T, rfl, T, _, _, _, rfl, rfl, .inl (.inl eTA), atI_nat (j := 0) rfl, .ref hA, rfl, hA, _, _, _, rfl, rfl, .inl (.inl wiA.eh), atI_nat (j := 0) rfl, _, _, rfl, rfl, .inr ⟨_, rfl, ?_⟩⟩
                refine ⟨q1, _, _, _, rfl, rfl, .inl (.inl oA), hsg, _, _, rfl, rfl, .ref hA, rfl, hA, _, _, _, rfl, rfl, .inl (.inl wiA.eh), atI_nat (j := 1) rfl, (by decide : (2 : Nat) ≤ sizeLine), fun p np => ?_⟩
                generalize hV : upd _ p _ = V1
                have sV : Same A1 V1 := hV ▸ same_new np
                have oV : V1 p = some (.tup (cV (hc.1 + sg, hc.2))) := hV ▸ upd_same
                have h9 := wi3.on
                obtain ⟨⟨i1, i2⟩, i3, i4⟩ := h9
                obtain ⟨⟨j1, j2⟩, j3, j4⟩ := ob
                refine ⟨p, (hc.1 + sg, hc.2), t' + 1, wiA.same sV, oV, ⟨⟨?_, ?_⟩, ?_, ?_⟩, ?_, Nat.le_refl _, x5, x6, x7, rfl⟩ <;> (try unfold far) <;> dsimp only <;> omega
              · rw [decide_eq_false (show ¬ V.int rr = V.int 0 from fun z => f3 (V.int.inj z))]
                refine iteF ?_
                refine ⟨.ref hA, rfl, hA, _, _, _, rfl, rfl, .inl (.inl wi3.eh), atI_nat (j := 0) rfl, .ref hA, rfl, hA, _, _, _, rfl, rfl, .inl (.inl wi3.eh), atI_nat (j := 1) rfl, _, rfl, (by decide : (2 : Nat) ≤ sizeLine), fun q1 nq1 => ?_⟩
                generalize hA1 : upd _ q1 _ = A1
                have sA : Same _ A1 := hA1 ▸ same_new nq1
                have oA : A1 q1 = some _ := hA1 ▸ upd_same
                have wiA := wi3.same sA
                have eTA : A1 T = some (.tup (cV b)) := TK.but dk wiA.but _ _ eT
                obtain ⟨sg, hsg, hs⟩ := sg_at b.2 hc.2
                refine ⟨.ref T, rfl, T, _, _, _, rfl, rfl, .inl (.inl eTA), atI_nat (j := 1) rfl, .ref hA, rfl, hA, _, _, _, rfl, rfl, .inl (.inl wiA.eh), atI_nat (j := 1) rfl, _, _, rfl, rfl, .inr ⟨_, rfl, ?_⟩⟩
                refine ⟨q1, _, _, _, rfl, rfl, .inl (.inl oA), hsg, _, _, rfl, rfl, (by decide : (2 : Nat) ≤ sizeLine), fun p np => ?_⟩
                generalize hV : upd _ p _ = V1
                have sV : Same A1 V1 := hV ▸ same_new np
                have oV : V1 p = some (.tup (cV (hc.1, hc.2 + sg))) := hV ▸ upd_same
                have h9 := wi3.on
                obtain ⟨⟨i1, i2⟩, i3, i4⟩ := h9
                obtain ⟨⟨j1, j2⟩, j3, j4⟩ := ob
                refine ⟨p, (hc.1, hc.2 + sg), t' + 1, wiA.same sV, oV, ⟨⟨?_, ?_⟩, ?_, ?_⟩, ?_, Nat.le_refl _, x5, x6, x7, rfl⟩ <;> (try unfold far) <;> dsimp only <;> omega
        · rintro σ' G' ⟨hB, hd, t2, wi2, eB, o2, fd2, lt2, x5, x6, x7, rfl⟩
          refine ⟨.ref L, rfl, .inl ⟨rfl, _, .inl (.inl wi2.eL)⟩, .ref hB, rfl, L, _, _, rfl, rfl, wi2.eL, lvs, ?_⟩
          exact ⟨far hd b, by omega, hB, hd, _, _, t2, wi2.go eB o2, rfl, by omega, by rw [List.length_append]; show w.length + 1 + _ ≤ 19; omega, by rw [List.length_append]; show 1 ≤ w.length + 1; omega, x5, x6, x7, rfl⟩
end
end K80

namespace K80
open PySem PySem.Spec PyProof.Rows L2 Kit
/-! ### the law's own: there and back; delays -/
def spBack : Sp := fun vs H Q _ => ∃ (d c F : Addr) (t : Nat) (a : Int × Int), vs = [.ref d, .ref F] ∧ Deck H d c t ∧ t < 10000000 ∧ H F = some (.tup (cV a)) ∧ on9 a ∧
  ∀ (v : V) (w : Way) (t' : Nat) (H' : Hp), But d c H H' → Deck H' d c t' → t' ≤ t + 40 → TdR H' (wayT w) v → 1 ≤ w.length → w.length ≤ 40 → (∀ z ∈ w, smC z) → Q v H'
def spDel (K : PySem.W.Frag) : Sp := fun vs H Q _ => ∃ (d c : Addr) (t : Nat), vs = [.ref d] ∧ Deck H d c t ∧ t < 10000000 ∧
  ∀ (p : Addr) (o : Own) (t' : Nat) (H' : Hp), But d c H H' → Deck H' d c t' → t' ≤ t + 40 → H' p = some (.tup (ownV o)) → o.few → Q (.ref p) H'
theorem eq8_at (x : Int) : ∃ sg : Int, atI [V.int 1, .int (-1)] (if decide (V.int x = V.int 8) = true then 1 else 0) = some (.int sg) ∧ ((x = 8 ∧ sg = -1) ∨ (x ≠ 8 ∧ sg = 1)) := by
  by_cases h : x = 8
  · exact ⟨-1, by rw [decide_eq_true (by rw [h])]; rfl, .inl ⟨h, rfl⟩⟩
  · exact ⟨1, by rw [decide_eq_false (show ¬ V.int x = V.int 8 from fun z => h (V.int.inj z))]; rfl, .inr ⟨h, rfl⟩⟩
section
variable {P : Program} {w : World} {K : PySem.W.Frag} {mg : Str → Option Value} {base : Heap}
theorem ok_l_back {f : Addr} {fd : FuncData} (D : DefAt K mg "_law_there_and_back" ["_law_deck_here", "_law_cell"] s_l_there_and_back f fd) (M : Bi mg)
    (C_l_draw : Cal P w K mg base L2.CX0 1 "_law_draw" ["_law_deck_here", "_law_sides"] spDraw) :
    Cal P w K mg base L2.CX0 2 "_law_there_and_back" ["_law_deck_here", "_law_cell"] spBack := by
  have S := S_l_there_and_back
  refine cal_of D.fn D.mgf D.bs D.kbs S (fun vs H Q E h => ?_) (fun cdv A outer s H vs Q E hq hr h => ?_)
  · obtain ⟨d, c, F, t, a, rfl, _⟩ := h
    rfl
  · obtain ⟨d, c, F, t, a, rfl, dk, ht, eF, oa, q⟩ := h
    refine ⟨_, (pss_cons (ps_set (i := 2) S.nd rfl (.inl rfl) (pe_tup (pa_cons (pe_ix ix_tup (pv 1) pe_int (fun _ _ => rfl)) (pa_cons (pe_op op_add (pe_ix ix_tup (pv 1) pe_int (fun _ _ => rfl)) (pe_ix ix_list (pe_lst (pa_cons pe_int (pa_cons (pe_un un_neg pe_int) pa_nil))) (pe_callTy call_int1 (by rfl) M.int_ (by decide +kernel) (pa_cons (pe_cmpR op_eq (pe_ix ix_tup (pv 1) pe_int (fun _ _ => rfl)) pe_int (nomark _)) pa_nil)) (fun _ _ => rfl))) pa_nil))))
 (pss_one (ps_ret (pe_ix ix_list (pe_lst (pa_cons (pe_tup (pa_cons (pv 1) pa_nil)) (pa_cons (pe_tup (pa_cons (pv 1) (pa_cons (pv 2) (pa_cons (pv 1) pa_nil)))) (pa_cons (pe_tup (pa_cons (pv 1) (pa_cons (pv 2) (pa_cons (pv 1) (pa_cons (pv 2) (pa_cons (pv 1) pa_nil)))))) (pa_cons (pe_tup (pa_cons (pv 1) pa_nil)) pa_nil))))) (pe_c C_l_draw pass0 hq hr (by omega) (by rfl) (pa_cons (pv 0) (pa_cons pe_int pa_nil))) (fun _ _ => rfl))))), ?_⟩
    refine ⟨.ref F, rfl, F, _, _, _, rfl, rfl, .inl (.inl eF), atI_nat (j := 0) rfl, .ref F, rfl, F, _, _, _, rfl, rfl, .inl (.inl eF), atI_nat (j := 1) rfl, _, rfl, (by decide : (2 : Nat) ≤ sizeLine), fun u1 nu1 => ?_⟩
    generalize hW1 : upd _ u1 _ = W1
    have y1 : Same H W1 := hW1 ▸ same_new nu1
    have o1 : W1 u1 = some _ := hW1 ▸ upd_same
    have eF1 := y1 _ _ eF
    obtain ⟨sg, hsg, hs⟩ := eq8_at a.2
    refine ⟨.ref F, rfl, F, _, _, _, rfl, rfl, .inl (.inl eF1), atI_nat (j := 1) rfl, rfl, .inr ⟨_, rfl, ?_⟩⟩
    refine ⟨u1, _, _, _, rfl, rfl, .inl (.inl o1), hsg, _, _, rfl, rfl, (by decide : (2 : Nat) ≤ sizeLine), fun u2 nu2 => ?_⟩
    generalize hW2 : upd _ u2 _ = W2
    have y2 : Same W1 W2 := hW2 ▸ same_new nu2
    have o2 : W2 u2 = some (.tup (cV (a.1, a.2 + sg))) := hW2 ▸ upd_same
    have ob : on9 (a.1, a.2 + sg) := by
      obtain ⟨⟨_, _⟩, _, _⟩ := oa
      refine ⟨⟨?_, ?_⟩, ?_, ?_⟩ <;> dsimp only <;> omega
    refine ⟨.ref F, rfl, (by decide : (1 : Nat) ≤ sizeLine), fun u3 nu3 => ?_⟩
    generalize hW3 : upd _ u3 _ = W3
    have y3 : Same W2 W3 := hW3 ▸ same_new nu3
    have o3 : W3 u3 = some _ := hW3 ▸ upd_same
    refine ⟨.ref F, rfl, .ref u2, rfl, .ref F, rfl, (by decide : (3 : Nat) ≤ sizeLine), fun u4 nu4 => ?_⟩
    generalize hW4 : upd _ u4 _ = W4
    have y4 : Same W3 W4 := hW4 ▸ same_new nu4
    have o4 : W4 u4 = some _ := hW4 ▸ upd_same
    refine ⟨.ref F, rfl, .ref u2, rfl, .ref F, rfl, .ref u2, rfl, .ref F, rfl, (by decide : (5 : Nat) ≤ sizeLine), fun u5 nu5 => ?_⟩
    generalize hW5 : upd _ u5 _ = W5
    have y5 : Same W4 W5 := hW5 ▸ same_new nu5
    have o5 : W5 u5 = some _ := hW5 ▸ upd_same
    refine ⟨.ref F, rfl, (by decide : (1 : Nat) ≤ sizeLine), fun u6 nu6 => ?_⟩
    generalize hW6 : upd _ u6 _ = W6
    have y6 : Same W5 W6 := hW6 ▸ same_new nu6
    have o6 : W6 u6 = some _ := hW6 ▸ upd_same
    refine ⟨(by decide : (4 : Nat) ≤ sizeLine), fun u7 nu7 => ?_⟩
    generalize hW7 : upd _ u7 _ = W7
    have y7 : Same W6 W7 := hW7 ▸ same_new nu7
    have o7 : W7 u7 = some _ := hW7 ▸ upd_same
    have y17 := (((((y1.trans y2).trans y3).trans y4).trans y5).trans y6).trans y7
    have y37 := (((y3.trans y4).trans y5).trans y6).trans y7
    have dk7 := dk.same y17
    have fr := (dk.same (((((y1.trans y2).trans y3).trans y4).trans y5).trans y6)).free nu7
    refine ⟨.ref d, rfl, d, c, 4, t, rfl, by decide, by decide, dk7, by omega, fun rr G ar br k1 dk1 => ?_⟩
    have tk := TK.but dk7 k1
    have cF : TdR G (cellT a) (.ref F) := (cell_td (y17 _ _ eF)).keep tk
    have cB : TdR G (cellT (a.1, a.2 + sg)) (.ref u2) := (cell_td (y37 _ _ o2)).keep tk
    have e3 := tk _ _ (y7 _ _ (y6 _ _ (y5 _ _ (y4 _ _ o3))))
    have e4 := tk _ _ (y7 _ _ (y6 _ _ (y5 _ _ o4)))
    have e5 := tk _ _ (y7 _ _ (y6 _ _ o5))
    have e6 := tk _ _ (y7 _ _ o6)
    have bu : But d c H G := (But.of y17).trans k1
    have sa := on9_sm oa
    have sb := on9_sm ob
    obtain ⟨n, rfl⟩ : ∃ n : Nat, rr = (n : Int) := ⟨rr.toNat, by omega⟩
    have fin : ∀ (v : V) (w : Way), ([V.ref u3, V.ref u4, V.ref u5, V.ref u6] : List V)[n]? = some v → TdR G (wayT w) v → 1 ≤ w.length → w.length ≤ 40 → (∀ z ∈ w, smC z) → ∃ v, ([V.ref u3, V.ref u4, V.ref u5, V.ref u6] : List V)[n]? = some v ∧ Q v G :=
      fun v w h1 h2 h3 h4 h5 => ⟨v, h1, q v w (t + 1) G bu dk1 (by omega) h2 h3 h4 h5⟩
    have s1 : ∀ z ∈ [a], smC z := fun z hz => by
      rw [List.mem_singleton.mp hz]
      exact sa
    have s3 : ∀ z ∈ [a, (a.1, a.2 + sg), a], smC z := fun z hz => by
      simp only [List.mem_cons, List.not_mem_nil, or_false] at hz
      rcases hz with rfl | rfl | rfl <;> assumption
    have s5 : ∀ z ∈ [a, (a.1, a.2 + sg), a, (a.1, a.2 + sg), a], smC z := fun z hz => by
      simp only [List.mem_cons, List.not_mem_nil, or_false] at hz
      rcases hz with rfl | rfl | rfl | rfl | rfl <;> assumption
    have all : ∃ v, ([V.ref u3, V.ref u4, V.ref u5, V.ref u6] : List V)[n]? = some v ∧ Q v G := by
      have hn4 : n < 4 := by omega
      match n, hn4, fin with
      | 0, _, fin => exact fin _ [a] rfl (.mk e3 (.cons cF .nil)) (by decide : 1 ≤ 1) (by decide : 1 ≤ 40) s1
      | 1, _, fin => exact fin _ [a, (a.1, a.2 + sg), a] rfl (.mk e4 (.cons cF (.cons cB (.cons cF .nil)))) (by decide : 1 ≤ 3) (by decide : 3 ≤ 40) s3
      | 2, _, fin => exact fin _ [a, (a.1, a.2 + sg), a, (a.1, a.2 + sg), a] rfl (.mk e5 (.cons cF (.cons cB (.cons cF (.cons cB (.cons cF .nil)))))) (by decide : 1 ≤ 5) (by decide : 5 ≤ 40) s5
      | 3, _, fin => exact fin _ [a] rfl (.mk e6 (.cons cF .nil)) (by decide : 1 ≤ 1) (by decide : 1 ≤ 40) s1
      | n + 4, h, _ => omega
    obtain ⟨v, hv, qv⟩ := all
    exact ⟨u7, _, _, _, rfl, rfl, .inl (.inl (k1 u7 _ fr.1 fr.2 o7)), atI_nat hv, qv⟩
theorem ok_l_del {f : Addr} {fd : FuncData} (D : DefAt K mg "_law_delays" ["_law_deck_here"] s_l_delays f fd) (M : Bi mg)
    (C_l_draw : Cal P w K mg base L2.CX0 1 "_law_draw" ["_law_deck_here", "_law_sides"] spDraw) :
    Cal P w K mg base L2.CX0 2 "_law_delays" ["_law_deck_here"] (spDel K) := by
  have S := S_l_delays
  refine cal_of D.fn D.mgf D.bs D.kbs S (fun vs H Q E h => ?_) (fun cdv A outer s H vs Q E hq hr h => ?_)
  · obtain ⟨d, c, t, rfl, _⟩ := h
    rfl
  · obtain ⟨d, c, t, rfl, dk, ht, q⟩ := h
    refine ⟨_, (pss_cons (ps_set (i := 1) S.nd rfl (.inl rfl) (pe_tup (pa_cons (pe_c C_l_draw pass0 hq hr (by omega) (by rfl) (pa_cons (pv 0) (pa_cons pe_int pa_nil))) (pa_cons (pe_c C_l_draw pass0 hq hr (by omega) (by rfl) (pa_cons (pv 0) (pa_cons pe_int pa_nil))) (pa_cons (pe_c C_l_draw pass0 hq hr (by omega) (by rfl) (pa_cons (pv 0) (pa_cons pe_int pa_nil))) pa_nil)))))
 (pss_one (ps_ret (pe_ix ix_list (pe_lst (pa_cons (pe_tup (pa_cons pe_int (pa_cons pe_int (pa_cons pe_int pa_nil)))) (pa_cons (pe_tup (pa_cons pe_int (pa_cons pe_int (pa_cons pe_int pa_nil)))) (pa_cons (pe_tup (pa_cons pe_int (pa_cons pe_int (pa_cons pe_int pa_nil)))) (pa_cons (pv 1) pa_nil))))) (pe_c C_l_draw pass0 hq hr (by omega) (by rfl) (pa_cons (pv 0) (pa_cons pe_int pa_nil))) (fun _ _ => rfl))))), ?_⟩
    refine ⟨.ref d, rfl, d, c, 4, t, rfl, by decide, by decide, dk, by omega, fun r1 G1 a1 b1 k1 dk1 => ?_⟩
    refine ⟨.ref d, rfl, d, c, 9, t + 1, rfl, by decide, by decide, dk1, by omega, fun r2 G2 a2 b2 k2 dk2 => ?_⟩
    refine ⟨.ref d, rfl, d, c, 1001, t + 2, rfl, by decide, by decide, dk2, by omega, fun r3 G3 a3 b3 k3 dk3 => ?_⟩
    refine ⟨(by decide : (3 : Nat) ≤ sizeLine), fun u1 nu1 => ?_⟩
    generalize hW1 : upd _ u1 _ = W1
    have y1 : Same G3 W1 := hW1 ▸ same_new nu1
    have o1 : W1 u1 = some (.tup (ownV ⟨r1, r2, r3⟩)) := hW1 ▸ upd_same
    refine ⟨(by decide : (3 : Nat) ≤ sizeLine), fun u2 nu2 => ?_⟩
    generalize hW2 : upd _ u2 _ = W2
    have y2 : Same W1 W2 := hW2 ▸ same_new nu2
    have o2 : W2 u2 = some (.tup (ownV ⟨1, 2, 3⟩)) := hW2 ▸ upd_same
    refine ⟨(by decide : (3 : Nat) ≤ sizeLine), fun u3 nu3 => ?_⟩
    generalize hW3 : upd _ u3 _ = W3
    have y3 : Same W2 W3 := hW3 ▸ same_new nu3
    have o3 : W3 u3 = some (.tup (ownV ⟨0, 1, 1⟩)) := hW3 ▸ upd_same
    refine ⟨(by decide : (3 : Nat) ≤ sizeLine), fun u4 nu4 => ?_⟩
    generalize hW4 : upd _ u4 _ = W4
    have y4 : Same W3 W4 := hW4 ▸ same_new nu4
    have o4 : W4 u4 = some (.tup (ownV ⟨1, 0, 0⟩)) := hW4 ▸ upd_same
    refine ⟨.ref u1, rfl, (by decide : (4 : Nat) ≤ sizeLine), fun u5 nu5 => ?_⟩
    generalize hW5 : upd _ u5 _ = W5
    have y5 : Same W4 W5 := hW5 ▸ same_new nu5
    have o5 : W5 u5 = some _ := hW5 ▸ upd_same
    have y15 := (((y1.trans y2).trans y3).trans y4).trans y5
    have dk5 := dk3.same y15
    have fr := (dk3.same (((y1.trans y2).trans y3).trans y4)).free nu5
    refine ⟨.ref d, rfl, d, c, 4, t + 3, rfl, by decide, by decide, dk5, by omega, fun rr G ar br k4 dk4 => ?_⟩
    have tk := TK.but dk5 k4
    have e1 := tk _ _ (y5 _ _ (y4 _ _ (y3 _ _ (y2 _ _ o1))))
    have e2 := tk _ _ (y5 _ _ (y4 _ _ (y3 _ _ o2)))
    have e3 := tk _ _ (y5 _ _ (y4 _ _ o3))
    have e4 := tk _ _ (y5 _ _ o4)
    have bu : But d c H G := ((((k1.trans k2).trans k3).same y15).trans k4)
    obtain ⟨n, rfl⟩ : ∃ n : Nat, rr = (n : Int) := ⟨rr.toNat, by omega⟩
    have fin : ∀ (p : Addr) (o : Own), ([V.ref u2, V.ref u3, V.ref u4, V.ref u1] : List V)[n]? = some (.ref p) → G p = some (.tup (ownV o)) → o.few → ∃ v, ([V.ref u2, V.ref u3, V.ref u4, V.ref u1] : List V)[n]? = some v ∧ Q v G :=
      fun p o h1 h2 h3 => ⟨.ref p, h1, q p o (t + 4) G bu dk4 (by omega) h2 h3⟩
    have all : ∃ v, ([V.ref u2, V.ref u3, V.ref u4, V.ref u1] : List V)[n]? = some v ∧ Q v G := by
      have hn4 : n < 4 := by omega
      match n, hn4, fin with
      | 0, _, fin => exact fin u2 _ rfl e2 ⟨⟨by decide, by decide⟩, ⟨by decide, by decide⟩, by decide, by decide⟩
      | 1, _, fin => exact fin u3 _ rfl e3 ⟨⟨by decide, by decide⟩, ⟨by decide, by decide⟩, by decide, by decide⟩
      | 2, _, fin => exact fin u4 _ rfl e4 ⟨⟨by decide, by decide⟩, ⟨by decide, by decide⟩, by decide, by decide⟩
      | 3, _, fin => exact fin u1 _ rfl e1 ⟨⟨a1, by dsimp only; omega⟩, ⟨a2, by dsimp only; omega⟩, a3, by dsimp only; omega⟩
      | n + 4, h, _ => omega
    obtain ⟨v, hv, qv⟩ := all
    exact ⟨u5, _, _, _, rfl, rfl, .inl (.inl (k4 u5 _ fr.1 fr.2 o5)), atI_nat hv, qv⟩
end
end K80

namespace K80
open PySem PySem.Spec PyProof.Rows L2 Kit
/-! ### the law's own: a laying -/
def spLay : Sp := fun vs H Q _ => ∃ (d c : Addr) (t : Nat) (v : V) (gs : List Gt), vs = [.ref d, v] ∧ Deck H d c t ∧ t < 1000000 ∧ TdR H (netT gs) v ∧ NetOk gs gs.length ∧ gs.length ≤ 40 ∧
  ∀ (u : V) (cs : List (Int × Int)) (wl : List (List Way)) (t' : Nat) (H' : Hp), But d c H H' → Deck H' d c t' → t' ≤ t + 10000 → TdR H' (layT cs wl) u → Okl gs wl → Sml gs cs wl → (∀ ws ∈ wl, ∀ w ∈ ws, w.length ≤ 40) → Q u H'
structure LI (d c C : Addr) (H G : Hp) (cs : List (Int × Int)) (cv : List V) (t : Nat) : Prop where
  but : But d c H G
  dk : Deck G d c t
  eC : G C = some (.lst cv)
  al : All2 G (cs.map cellT) cv
  c1 : C ≠ d
  c2 : C ≠ c
  c0 : H C = none
theorem LI.step {d c C : Addr} {H G G2 : Hp} {cs : List (Int × Int)} {cv : List V} {t t2 : Nat} (h : LI d c C H G cs cv t) (b : But d c G G2) (k : Deck G2 d c t2) : LI d c C H G2 cs cv t2 :=
  ⟨h.but.trans b, k, b C _ h.c1 h.c2 h.eC, h.al.keep (TK.but h.dk b), h.c1, h.c2, h.c0⟩
theorem LI.same {d c C : Addr} {H G G2 : Hp} {cs : List (Int × Int)} {cv : List V} {t : Nat} (h : LI d c C H G cs cv t) (b : Same G G2) : LI d c C H G2 cs cv t := h.step (But.of b) (h.dk.same b)
theorem LI.other {d c C L : Addr} {H G : Hp} {cs : List (Int × Int)} {cv xs ys : List V} {t : Nat} (h : LI d c C H G cs cv t) (e : G L = some (.lst xs)) (n : L ≠ C) (n1 : L ≠ d) (n2 : L ≠ c) (n0 : H L = none) : LI d c C H (upd G L (.lst ys)) cs cv t :=
  ⟨h.but.mut n0, h.dk.mut n1.symm n2.symm, by rw [upd_ne n.symm]; exact h.eC, h.al.keep (TK.lst (TK.same (Same.refl G)) e), h.c1, h.c2, h.c0⟩
theorem cell_inv {H : Hp} {c : Int × Int} {v : V} (h : TdR H (cellT c) v) : ∃ p, v = .ref p ∧ H p = some (.tup (cV c)) := by
  obtain ⟨p, vs, rfl, e, al⟩ := h.inv_tup
  obtain ⟨u, vs, rfl, h1, al⟩ := al.inv_cons
  obtain ⟨w, vs, rfl, h2, al⟩ := al.inv_cons
  obtain rfl := al.inv_nil
  obtain rfl := h1.inv_int
  obtain rfl := h2.inv_int
  exact ⟨p, rfl, e⟩
theorem LI.cell {d c C : Addr} {H G : Hp} {cs : List (Int × Int)} {cv : List V} {t i : Nat} (h : LI d c C H G cs cv t) (hi : i < cs.length) : ∃ p z, cs[i]? = some z ∧ cv[i]? = some (.ref p) ∧ G p = some (.tup (cV z)) := by
  obtain ⟨v, hv, tv⟩ := all2_get h.al (i := i) (t := cellT cs[i]) (by rw [List.getElem?_map, List.getElem?_eq_getElem hi]; rfl)
  obtain ⟨p, rfl, e⟩ := cell_inv tv
  exact ⟨p, cs[i], List.getElem?_eq_getElem hi, hv, e⟩
theorem by_at {rr : Int} (h0 : 0 ≤ rr) (h1 : rr < 6) : ∃ b : Int, atI [V.int 1, .int 2, .int 5, .int 7, .int 10, .int 80] rr = some (.int b) ∧ 1 ≤ b ∧ b ≤ 80 := by
  obtain ⟨n, rfl⟩ : ∃ n : Nat, rr = (n : Int) := ⟨rr.toNat, by omega⟩
  match n, h1 with
  | 0, _ => exact ⟨1, rfl, by decide, by decide⟩
  | 1, _ => exact ⟨2, rfl, by decide, by decide⟩
  | 2, _ => exact ⟨5, rfl, by decide, by decide⟩
  | 3, _ => exact ⟨7, rfl, by decide, by decide⟩
  | 4, _ => exact ⟨10, rfl, by decide, by decide⟩
  | 5, _ => exact ⟨80, rfl, by decide, by decide⟩
  | n + 6, h => omega
def wsT (ws : List Way) : Td := .tup (ws.map wayT)
def wayOk (w : Way) : Prop := 1 ≤ w.length ∧ w.length ≤ 40 ∧ ∀ z ∈ w, smC z
structure WsOk (gs : List Gt) (wl : List (List Way)) : Prop where
  ok : ∀ (j : Nat) (g : Gt) (ws : List Way), gs[j]? = some g → wl[j]? = some ws → ws.length = g.feeds.length ∧ ∀ w ∈ ws, wayOk w
theorem WsOk.snoc {gs : List Gt} {wl : List (List Way)} {g : Gt} {ws : List Way} (h : WsOk gs wl) (e : gs[wl.length]? = some g) (l : ws.length = g.feeds.length) (w : ∀ w ∈ ws, wayOk w) : WsOk gs (wl ++ [ws]) := by
  refine ⟨fun j g' ws' e1 e2 => ?_⟩
  by_cases hj : j < wl.length
  · rw [List.getElem?_append_left hj] at e2
    exact h.ok j g' ws' e1 e2
  · have lj : j < (wl ++ [ws]).length := (List.getElem?_eq_some_iff.mp e2).1
    rw [List.length_append] at lj
    have hj2 : j = wl.length := by
      have : [ws].length = 1 := rfl
      omega
    subst hj2
    rw [List.getElem?_append_right (Nat.le_refl _), Nat.sub_self] at e2
    cases e2
    rw [e] at e1
    cases e1
    exact ⟨l, w⟩
section
variable {P : Program} {w : World} {K : PySem.W.Frag} {mg : Str → Option Value} {base : Heap}
theorem ok_l_lay {f : Addr} {fd : FuncData} (D : DefAt K mg "_law_laying" ["_law_deck_here", "_law_net_here"] s_l_laying f fd) (M : Bi mg)
    (C_l_draw : Cal P w K mg base L2.CX0 1 "_law_draw" ["_law_deck_here", "_law_sides"] spDraw)
    (C_l_feeds : Cal P w K mg base L2.CX0 1 "_law_feeds" ["_law_gate"] spFeeds)
    (C_l_way : Cal P w K mg base L2.CX0 2 "_law_way" ["_law_deck_here", "_law_first", "_law_last"] spWay)
    (C_l_there_and_back : Cal P w K mg base L2.CX0 2 "_law_there_and_back" ["_law_deck_here", "_law_cell"] spBack) :
    Cal P w K mg base L2.CX0 3 "_law_laying" ["_law_deck_here", "_law_net_here"] spLay := by
  have S := S_l_laying
  refine cal_of D.fn D.mgf D.bs D.kbs S (fun vs H Q E h => ?_) (fun cdv A outer s H vs Q E hq hr h => ?_)
  · obtain ⟨d, c, t, v, gs, rfl, _⟩ := h
    rfl
  · obtain ⟨d, c, t, v, gs, rfl, dk, ht, hm, no, gl, q⟩ := h
    refine ⟨_, (pss_cons (ps_par (i := 2) (j := 3) rfl S.nd rfl rfl (by decide) rfl rfl (pa_cons (pe_c C_l_draw pass0 hq hr (by omega) (by rfl) (pa_cons (pv 0) (pa_cons pe_int pa_nil))) (pa_cons (pe_ix ix_list (pe_lst (pa_cons pe_int (pa_cons pe_int (pa_cons pe_int (pa_cons pe_int (pa_cons pe_int (pa_cons pe_int pa_nil))))))) (pe_c C_l_draw pass0 hq hr (by omega) (by rfl) (pa_cons (pv 0) (pa_cons pe_int pa_nil))) (fun _ _ => rfl)) pa_nil)) (by rfl))
 (pss_cons (ps_set (i := 4) S.nd rfl (.inr rfl) (pe_lst pa_nil))
 (pss_cons (ps_for PassesOwn.never rfl (pi_range1 (by rfl) M.range_ (pa_cons (pe_callB call_len_seq (by rfl) M.len_ (by decide +kernel) (pa_cons (pe_ix ix_tup (pv 1) pe_int (fun _ _ => rfl)) pa_nil)) pa_nil)) (pg_name (i := 5) S.nd rfl (.inr rfl))
  (pss_one (ps_expr (pe_bm PySem.F.plainAttrs_list PySem.F.slot_list_append PySem.F.type_list_append mt_append (pv 4) (pa_cons (pe_callB call_divmod (by rfl) M.divmod_ (by decide +kernel) (pa_cons (pe_op op_mod (pe_op op_add (pv 2) (pe_op op_mulB (pv 3) (pv 5))) pe_int) (pa_cons pe_int pa_nil))) pa_nil)))))
 (pss_cons (ps_set (i := 6) S.nd rfl (.inl rfl) (pe_lst pa_nil))
 (pss_cons (ps_for PassesOwn.never rfl (pi_enumT (by rfl) M.enumerate_ (pa_cons (pe_ix ix_tup (pv 1) pe_int (fun _ _ => rfl)) pa_nil)) (pg_tup (by rfl) (pgs_cons (pg_name (i := 5) S.nd rfl (.inr rfl)) (pgs_cons (pg_name (i := 7) S.nd rfl (.inl rfl)) pgs_nil)))
  (pss_cons (ps_setLc (i := 8) (own := [("_law_feed", 9)]) (g := gName 9) (tt := tYes) (te := (tCall spWay [] E0 (tCons (tVar 0) (tCons (tOp (rIxL K) (tVar 4) (tVar 9)) (tCons (tOp (rIxL K) (tVar 4) (tVar 5)) tNil))))) rfl S.nd rfl rfl (sw_true rfl rfl rfl (by decide +kernel)) (pi_tup (pe_c C_l_feeds pass0 hq hr (by omega) (by rfl) (pa_cons (pv 7) pa_nil))) (blkOk_by (own := [("_law_feed", 9)]) (N := N_l_laying) (sc := defScope s_l_laying) (by decide +kernel)) (fun _ _ _ _ _ => pg_name (i := 9) S.nd rfl (.inl rfl)) (fun _ _ _ _ _ => pts_nil) (fun _ _ _ _ _ => (pe_c C_l_way pass0 hq hr (by omega) (by rfl) (pa_cons (pv 0) (pa_cons (pe_ix ix_list (pv 4) (pv 9) (fun _ _ => rfl)) (pa_cons (pe_ix ix_list (pv 4) (pv 5) (fun _ _ => rfl)) pa_nil))))))
 (C8.pss_cut (ps_if (PW.pt (pw_and (pt_cmpR op_eq (pe_ix ix_tup (pv 7) pe_int (fun _ _ => rfl)) pe_str (nomark _)) (pw_and1 (pt_cmpR op_eq (pe_ix ix_tup (pv 7) pe_int (fun _ _ => rfl)) (pv 5) (nomark _)))))
  (pss_one (ps_set (i := 8) S.nd rfl (.inl rfl) (pe_lst (pa_cons (pe_c C_l_there_and_back pass0 hq hr (by omega) (by rfl) (pa_cons (pv 0) (pa_cons (pe_ix ix_list (pv 4) (pv 5) (fun _ _ => rfl)) pa_nil))) pa_nil))))
  pss_nil)
 (pss_one (ps_expr (pe_bm PySem.F.plainAttrs_list PySem.F.slot_list_append PySem.F.type_list_append mt_append (pv 6) (pa_cons (pe_callTy call_tuple_of (by rfl) M.tuple_ (by decide +kernel) (pa_cons (pv 8) pa_nil)) pa_nil)))))))
 (pss_one (ps_ret (pe_tup (pa_cons (pe_callTy call_tuple_of (by rfl) M.tuple_ (by decide +kernel) (pa_cons (pv 4) pa_nil)) (pa_cons (pe_callTy call_tuple_of (by rfl) M.tuple_ (by decide +kernel) (pa_cons (pv 6) pa_nil)) pa_nil)))))))))), ?_⟩
    obtain ⟨N, G, gvs, nr, rfl, eN, hg, hG, gal, lg⟩ := net_inv hm
    have bnd : ∀ n : Nat, n ≤ 1000 → -(2 ^ 62) ≤ (n : Int) ∧ (n : Int) < 2 ^ 62 := fun n h => by omega
    refine ⟨.ref d, rfl, d, c, 81, t, rfl, by decide, by decide, dk, by omega, fun fi G1 a1 b1 k1 dk1 => ?_⟩
    refine ⟨(by decide : (6 : Nat) ≤ sizeLine), fun q1 nq1 => ?_⟩
    generalize hU1 : upd _ q1 _ = U1
    have s1 : Same G1 U1 := hU1 ▸ same_new nq1
    have o1 : U1 q1 = some _ := hU1 ▸ upd_same
    have f1 := dk1.free nq1
    refine ⟨.ref d, rfl, d, c, 6, t + 1, rfl, by decide, by decide, dk1.same s1, by omega, fun rr G2 a2 b2 k2 dk2 => ?_⟩
    obtain ⟨by_, hby, by1, by2⟩ := by_at a2 b2
    refine ⟨q1, _, _, _, rfl, rfl, .inl (.inl (k2 q1 _ f1.1 f1.2 o1)), hby, _, _, rfl, ?_⟩
    have bu2 := (k1.same s1).trans k2
    refine ⟨(by decide : (0 : Nat) ≤ sizeLine), fun C nC => ?_⟩
    generalize hU2 : upd _ C _ = U2
    have s2 : Same G2 U2 := hU2 ▸ same_new nC
    have o2 : U2 C = some _ := hU2 ▸ upd_same
    obtain ⟨C1, C2⟩ := dk2.free nC
    have li0 : LI d c C H U2 [] [] (t + 2) := ⟨bu2.same s2, dk2.same s2, o2, .nil, C1, C2, but_none dk2 bu2 nC⟩
    have tkH : ∀ {X : Hp}, But d c H X → TK H X := fun b => TK.but dk b
    refine ⟨.ref N, rfl, N, _, _, _, rfl, rfl, .inl (.inl (tkH li0.but _ _ eN)), atI_nat (j := 0) rfl, G, gvs, rfl, .inr (.inl (.inl (tkH li0.but _ _ hG))), _, rfl, (bnd _ (by omega)).1, (bnd _ (by omega)).2, for_range (lo := 0) (n := gvs.length) (fun i σ X => ∃ (cs : List (Int × Int)) (cv : List V), LI d c C H X cs cv (t + 2) ∧ cs.length = i ∧ (∀ z ∈ cs, on9 z) ∧ ∃ x5 x6 x7 x8 x9 : Option V,
      σ = [some (.ref d), some (.ref N), some (.int fi), some (.int by_), some (.ref C), x5, x6, x7, x8, x9]) ?_ ?_ ?_⟩
    · exact ⟨[], [], li0, rfl, (fun z hz => by cases hz), none, none, none, none, none, rfl⟩
    · rintro i σ X hi ⟨cs, cv, li, lc, oc, x5, x6, x7, x8, x9, rfl⟩
      rw [Int.zero_add]
      have lv : cv.length = cs.length := by rw [← li.al.1, List.length_map]
      refine ⟨.ref C, rfl, .inl ⟨rfl, _, .inl (.inl li.eC)⟩, .int fi, rfl, .int by_, rfl, .int (i : Int), rfl, _, _, rfl, rfl, .of_left (intBits_le_64 (by omega) (by omega)), _, _, rfl, rfl, _, _, rfl, rfl, (by show (0 : Int) < 81; decide), _, 9, rfl, ⟨by decide, by decide⟩, fun p np => ?_⟩
      generalize hV : upd _ p _ = V1
      have sV : Same X V1 := hV ▸ same_new np
      have oV : V1 p = some (.tup (cV ((fi + by_ * (i : Int)) % 81 / 9, (fi + by_ * (i : Int)) % 81 % 9))) := hV ▸ upd_same
      have li2 := li.same sV
      have on : on9 ((fi + by_ * (i : Int)) % 81 / 9, (fi + by_ * (i : Int)) % 81 % 9) := by
        generalize fi + by_ * (i : Int) = z
        refine ⟨⟨?_, ?_⟩, ?_, ?_⟩ <;> dsimp only <;> omega
      refine ⟨C, _, _, rfl, rfl, li2.eC, (by rw [lv, lc]; exact Nat.lt_of_lt_of_le hi (by rw [lg]; exact Nat.le_trans gl (by decide))), ?_⟩
      have tk : TK V1 (upd V1 C (.lst (cv ++ [V.ref p]))) := TK.lst (TK.same (Same.refl V1)) li2.eC
      refine ⟨cs ++ [((fi + by_ * (i : Int)) % 81 / 9, (fi + by_ * (i : Int)) % 81 % 9)], cv ++ [.ref p], ⟨li2.but.mut li2.c0, li2.dk.mut C1.symm C2.symm, upd_same, ?_, C1, C2, li2.c0⟩, by rw [List.length_append, lc]; rfl, fun z hz => ?_, _, _, _, _, _, rfl⟩
      · rw [List.map_append]
        exact All2.snoc (li2.al.keep tk) ((cell_td oV).keep tk)
      · rcases List.mem_append.mp hz with hz | hz
        · exact oc z hz
        · rw [List.mem_singleton.mp hz]
          exact on
    · rintro σ X ⟨cs, cv, li, lc, oc, x5, x6, x7, x8, x9, rfl⟩
      rw [lg] at lc
      refine ⟨(by decide : (0 : Nat) ≤ sizeLine), fun W nW => ?_⟩
      generalize hU3 : upd _ W _ = U3
      have s3 : Same X U3 := hU3 ▸ same_new nW
      have o3 : U3 W = some _ := hU3 ▸ upd_same
      obtain ⟨W1, W2⟩ := li.dk.free nW
      have nWC : W ≠ C := fun z => by
        rw [z, li.eC] at nW
        cases nW
      have W0 : H W = none := but_none li.dk li.but nW
      have li3 := li.same s3
      refine ⟨.ref N, rfl, N, _, _, _, rfl, rfl, .inl (.inl (tkH li3.but _ _ eN)), atI_nat (j := 0) rfl, G, gvs, rfl, .inl (.inl (tkH li3.but _ _ hG)), ?_⟩
      refine for_it (walk_enumT (K := K) (a := G) (xs := gvs)) (fun i σ Y => ∃ (wv : List V) (wl : List (List Way)) (t' : Nat), LI d c C H Y cs cv t' ∧ t' ≤ t + 2 + 120 * i ∧ Y W = some (.lst wv) ∧ All2 Y (wl.map wsT) wv ∧ wl.length = i ∧ WsOk gs wl ∧ ∃ x5 x7 x8 x9 : Option V,
        σ = [some (.ref d), some (.ref N), some (.int fi), some (.int by_), some (.ref C), x5, some (.ref W), x7, x8, x9]) ?_ ?_ ?_ ?_
      · exact ⟨[], [], t + 2, li3, by omega, o3, .nil, rfl, ⟨(fun j g ws h1 h2 => by cases h2)⟩, _, _, _, _, rfl⟩
      · rintro i σ Y _ ⟨wv, wl, t', li, _⟩
        exact .inl (.inl (tkH li.but _ _ hG))
      · rintro i x σ Y Y2 hi ⟨wv, wl, t', li, lt, eW, wal, lw, wok, x5, x7, x8, x9, rfl⟩ ⟨TT, u, v, rfl, nT, rfl, e1, e2⟩
        cases e1
        rw [lg] at hi
        obtain ⟨gt, egt⟩ : ∃ gt, gs[i]? = some gt := ⟨gs[i], List.getElem?_eq_getElem hi⟩
        have tg := gal.2 i gt.td v (by rw [List.getElem?_map, egt]; rfl) e2
        have gok := (no.ok i gt egt).1
        have sT := same_new (o := .tup [.int (i : Int), v]) nT
        have liT := li.same sT
        have tgT : TdR (upd Y TT (.tup [.int (i : Int), v])) gt.td v := tg.keep (tkH liT.but)
        obtain ⟨gA, rfl, egA⟩ := gt_at tgT
        refine ⟨TT, _, rfl, .inl (.inl upd_same), rfl, _, _, rfl, _, _, rfl, rfl, ?_⟩
        refine ⟨.ref gA, rfl, .ref gA, gt, gs.length, i, rfl, tgT, gok, fun fv H4 s5 tf => ?_⟩
        obtain ⟨Fg, fvs, rfl, hFg, fal⟩ := tf.inv_tup
        obtain rfl := all2_ints fal
        have li4 := liT.same s5
        have eW4 := s5 _ _ (sT _ _ eW)
        have tk4 : TK Y H4 := (TK.same sT).trans (TK.same s5)
        have lfs : (nats gt.feeds).length = gt.feeds.length := by
          unfold nats
          rw [List.length_map]
        have hfl := gt.feeds_le
        have ffl := feeds_lt gok hi
        refine ⟨Fg, rfl, ⟨_, .inl (.inl hFg)⟩, ?_⟩
        intro D1 nD1
        obtain ⟨d1, d2⟩ := li4.dk.free nD1
        have nDC : D1 ≠ C := fun z => by
          rw [z, li4.eC] at nD1
          cases nD1
        have nDW : D1 ≠ W := fun z => by
          rw [z, eW4] at nD1
          cases nD1
        have nD0 : H D1 = none := but_none li4.dk li4.but nD1
        have sD := same_new (o := .lst []) nD1
        obtain ⟨pk, zk, ezk, evk, epk⟩ := li4.cell (i := i) (by omega)
        refine lc_it (walk_tup (K := K) (a := Fg) (xs := nats gt.feeds)) (fun j X => ∃ (sv : List V) (ws : List Way) (t3 : Nat), LI d c C H X cs cv t3 ∧ But d c H4 X ∧ TK H4 X ∧ t3 ≤ t' + 40 * j ∧ X D1 = some (.lst sv) ∧ All2 X (ws.map wayT) sv ∧ ws.length = j ∧ ∀ w ∈ ws, wayOk w) ?_ ?_ ?_ ?_
        · exact ⟨[], [], t', li4.same sD, But.of sD, TK.same sD, by omega, upd_same, .nil, rfl, fun w hw => by cases hw⟩
        · rintro j X _ ⟨sv, ws, t3, liX, bX, tX, _⟩
          exact .inl (.inl (tX _ _ hFg))
        · rintro j x X X2 hj ⟨sv, ws, t3, liX, bX, tX, l3, eD, wal3, lws, wo⟩ ⟨rfl, ex⟩
          have hj2 : j < gt.feeds.length := by
            rw [← lfs]
            exact hj
          obtain ⟨fj, efj⟩ : ∃ fj, gt.feeds[j]? = some fj := ⟨gt.feeds[j], List.getElem?_eq_getElem hj2⟩
          rw [nats_at efj] at ex
          cases ex
          obtain ⟨pf, zf, ezf, evf, epf⟩ := liX.cell (i := fj) (by rw [lc]; exact ffl fj (List.mem_of_getElem? efj))
          have epk2 := tX _ _ epk
          refine ⟨rfl, ?_⟩
          unfold tYes
          refine iteT ?_
          refine ⟨.ref d, rfl, .ref C, rfl, .int (fj : Int), rfl, C, _, _, _, rfl, rfl, .inl (.inl liX.eC), atI_nat evf, .ref C, rfl, .int (i : Int), rfl, C, _, _, _, rfl, rfl, .inl (.inl liX.eC), atI_nat evk, d, c, pf, pk, t3, zf, zk, rfl, liX.dk, by omega, epf, epk2, oc _ (List.mem_of_getElem? ezf), oc _ (List.mem_of_getElem? ezk), fun v3 w3 t4 X3 b3 dk3 lt4 tw l1 l2 sm => ?_⟩
          have eD3 := b3 D1 _ d1 d2 eD
          have lsv : sv.length = ws.length := by rw [← wal3.1, List.length_map]
          have li5 := liX.step b3 dk3
          have tkm : TK X3 (upd X3 D1 (.lst (sv ++ [v3]))) := TK.lst (TK.same (Same.refl X3)) eD3
          refine ⟨sv, eD3, (by have : 10 < sizeLine := by decide
                               omega), sv ++ [v3], ws ++ [w3], t4, li5.other eD3 nDC d1 d2 nD0, ((bX.trans b3).mut nD1), (tX.trans (TK.but liX.dk b3)).trans tkm, by omega, upd_same, ?_, by rw [List.length_append, lws]; rfl, fun w hw => ?_⟩
          · rw [List.map_append]
            exact All2.snoc ((wal3.keep (TK.but liX.dk b3)).keep tkm) (tw.keep tkm)
          · rcases List.mem_append.mp hw with hw | hw
            · exact wo w hw
            · rw [List.mem_singleton.mp hw]
              exact ⟨l1, l2, sm⟩
        rintro X ⟨sv, ws, t3, liX, bX, tX, l3, eD, wal3, lws, wo⟩
        rw [lfs] at lws l3
        have eWX : X W = some (.lst wv) := bX W _ W1 W2 eW4
        have walX : All2 X (wl.map wsT) wv := wal.keep (tk4.trans tX)
        have egX := tX _ _ (s5 _ _ egA)
        have isb : gt.kind = "box" → ∃ c' bit dd, gt = .box c' bit dd := by
          intro hk
          cases gt with
          | box c' bit dd => exact ⟨_, _, _, rfl⟩
          | inp x k => exact absurd hk (by decide +kernel : ("in" : Str) ≠ "box")
          | iz b => exact absurd hk (by decide +kernel : ("is" : Str) ≠ "box")
          | nt b => exact absurd hk (by decide +kernel : ("not" : Str) ≠ "box")
          | two y b e =>
            obtain ⟨rfl | rfl | rfl, _, _⟩ := gok
            · exact absurd hk (by decide +kernel : ("and" : Str) ≠ "box")
            · exact absurd hk (by decide +kernel : ("or" : Str) ≠ "box")
            · exact absurd hk (by decide +kernel : ("xor" : Str) ≠ "box")
        refine ⟨fun σ' X' => ∃ (SA : Addr) (sv : List V) (ws : List Way) (t4 : Nat), LI d c C H X' cs cv t4 ∧ t4 ≤ t' + 120 ∧ X' W = some (.lst wv) ∧ All2 X' (wl.map wsT) wv ∧ X' SA = some (.lst sv) ∧ All2 X' (ws.map wayT) sv ∧ ws.length = gt.feeds.length ∧ (∀ w ∈ ws, wayOk w) ∧ ∃ x9 : Option V,
          σ' = [some (.ref d), some (.ref N), some (.int fi), some (.int by_), some (.ref C), some (.int (i : Int)), some (.ref W), some (.ref gA), some (.ref SA), x9], ?_, ?_⟩
        · refine ⟨.ref gA, rfl, gA, _, _, _, rfl, rfl, .inl (.inl egX), atI_nat (j := 0) gt.vs0, rfl, _, rfl, ?_⟩
          refine ite_str (fun hk => ?_) fun hk => ?_
          · obtain ⟨c', bit, dd, rfl⟩ := isb hk
            refine ⟨.ref gA, rfl, gA, _, _, _, rfl, rfl, .inl (.inl egX), atI_nat (j := 3) rfl, .int (i : Int), rfl, rfl, _, rfl, ?_⟩
            by_cases hdi : decide (V.int (dd : Int) = V.int (i : Int)) = true
            · rw [hdi]
              refine iteT ?_
              refine ⟨.ref d, rfl, .ref C, rfl, .int (i : Int), rfl, C, _, _, _, rfl, rfl, .inl (.inl liX.eC), atI_nat evk, d, c, pk, t3, zk, rfl, liX.dk, by omega, tX _ _ epk, oc _ (List.mem_of_getElem? ezk), fun v3 w3 t4 X3 b3 dk3 lt4 tw l1 l2 sm => ?_⟩
              refine ⟨(by decide : (1 : Nat) ≤ sizeLine), fun SA nSA => ?_⟩
              generalize hV : upd _ SA _ = V1
              have sV : Same X3 V1 := hV ▸ same_new nSA
              have oV : V1 SA = some _ := hV ▸ upd_same
              exact ⟨SA, _, [w3], t4, (liX.step b3 dk3).same sV, by omega, sV _ _ (b3 W _ W1 W2 eWX), (walX.keep (TK.but liX.dk b3)).same sV, oV, .cons (tw.same sV) .nil, rfl, (fun w hw => by rw [List.mem_singleton.mp hw]; exact ⟨l1, l2, sm⟩), _, rfl⟩
            · rw [Bool.not_eq_true] at hdi
              rw [hdi]
              refine iteF ?_
              exact ⟨D1, sv, ws, t3, liX, by omega, eWX, walX, eD, wal3, lws, wo, _, rfl⟩
          · refine iteF ?_
            exact ⟨D1, sv, ws, t3, liX, by omega, eWX, walX, eD, wal3, lws, wo, _, rfl⟩
        · rintro σ' X' ⟨SA, sv, ws, t4, liM, lt4, eWM, walM, eS, wsM, lwM, woM, x9, rfl⟩
          have lwv : wv.length = wl.length := by rw [← walM.1, List.length_map]
          refine ⟨.ref W, rfl, .inl ⟨rfl, _, .inl (.inl eWM)⟩, .ref SA, rfl, SA, sv, rfl, .inl ⟨.inl (.inl eS), fun p np => ?_⟩⟩
          generalize hV : upd _ p _ = V1
          have sV : Same X' V1 := hV ▸ same_new np
          have oV : V1 p = some _ := hV ▸ upd_same
          have eWV := sV _ _ eWM
          have tkm : TK V1 (upd V1 W (.lst (wv ++ [V.ref p]))) := TK.lst (TK.same (Same.refl V1)) eWV
          refine ⟨W, _, _, rfl, rfl, eWV, (by have : 50 < sizeLine := by decide
                                              omega), wv ++ [.ref p], wl ++ [ws], t4, (liM.same sV).other eWV nWC W1 W2 W0, by omega, upd_same, ?_, by rw [List.length_append, lw]; rfl, wok.snoc (by rw [lw]; exact egt) lwM woM, _, _, _, _, rfl⟩
          rw [List.map_append]
          exact All2.snoc ((walM.same sV).keep tkm) (TdR.keep (.mk oV (wsM.same sV)) tkm)
      · rintro σ Y ⟨wv, wl, t', li, lt, eW, wal, lw, wok, x5, x7, x8, x9, rfl⟩
        rw [lg] at lw
        refine ⟨.ref C, rfl, C, cv, rfl, .inl ⟨.inl (.inl li.eC), fun T1 nT1 => ?_⟩⟩
        generalize hV1 : upd _ T1 _ = V1
        have v1 : Same Y V1 := hV1 ▸ same_new nT1
        have z1 : V1 T1 = some _ := hV1 ▸ upd_same
        refine ⟨.ref W, rfl, W, wv, rfl, .inl ⟨.inl (.inl (v1 _ _ eW)), fun T2 nT2 => ?_⟩⟩
        generalize hV2 : upd _ T2 _ = V2
        have v2 : Same V1 V2 := hV2 ▸ same_new nT2
        have z2 : V2 T2 = some _ := hV2 ▸ upd_same
        refine ⟨(by decide : (2 : Nat) ≤ sizeLine), fun T3 nT3 => ?_⟩
        generalize hV3 : upd _ T3 _ = V3
        have v3 : Same V2 V3 := hV3 ▸ same_new nT3
        have z3 : V3 T3 = some _ := hV3 ▸ upd_same
        have v13 := (v1.trans v2).trans v3
        have li9 := li.same v13
        refine q _ cs wl t' V3 li9.but li9.dk (by omega) (.mk z3 (.cons (.mk (v3 _ _ (v2 _ _ z1)) li9.al) (.cons (.mk (v3 _ _ z2) (wal.same v13)) .nil))) ⟨fun i g e => (no.ok i g e).1, lw, fun i g ws e1 e2 => ?_⟩ ⟨gl, fun g hg => ?_, by omega, fun z hz => on9_sm (oc z hz), by omega, fun ws hws => ?_⟩ (fun ws hws w hw => ?_)
        · obtain ⟨h1, h2⟩ := wok.ok i g ws e1 e2
          exact ⟨h1, fun w hw => ⟨(h2 w hw).1, Nat.le_trans (h2 w hw).2.1 (by decide)⟩⟩
        · obtain ⟨j, hj⟩ := List.mem_iff_getElem?.mp hg
          exact (no.ok j g hj).2
        · obtain ⟨j, hj⟩ := List.mem_iff_getElem?.mp hws
          have hj2 : j < gs.length := by
            have := (List.getElem?_eq_some_iff.mp hj).1
            omega
          obtain ⟨h1, h2⟩ := wok.ok j gs[j] ws (List.getElem?_eq_getElem hj2) hj
          exact ⟨by rw [h1]; exact Gt.feeds_le _, fun w hw => ⟨Nat.le_trans (h2 w hw).2.1 (by decide), (h2 w hw).2.2⟩⟩
        · obtain ⟨j, hj⟩ := List.mem_iff_getElem?.mp hws
          have hj2 : j < gs.length := by
            have := (List.getElem?_eq_some_iff.mp hj).1
            omega
          exact ((wok.ok j gs[j] ws (List.getElem?_eq_getElem hj2) hj).2 w hw).2.1
end
end K80

/-! a slice that is the whole tuple: the same object -/
namespace X9
open PySem PySem.Spec PyProof.Rows L2 Kit HT
section
variable {prog : Program} {w : World} {A : Around} {E : Value → Shared → Prop} {s : Shared}
theorem getItem_tuple_whole {t sl : Addr} {items : Array Value} {vl vu : Value} {lo hi : Option Int} {Q : Value → Shared → Prop} (ht : IsTup s.heap t items) (hs : s.heap.IsSliceOf sl vl vu .none) (pl : IsPart vl lo) (pu : IsPart vu hi)
    (hw : sIx items.size 0 lo = 0 ∧ sIx items.size items.size hi = items.size)
    (h : Q (.ref t) s)
    (hsz : items.size ≤ sizeLine) : wpAny (model prog w) A (getItem (.ref t) (.ref sl)) Q E s := by
  obtain ⟨os, hos, hcs, hds⟩ := id hs
  have hTs : s.TypeIs (.ref sl) "slice" := ⟨os, hos, hcs⟩
  unfold getItem
  try with_reducible refine wpAny_holding ?_
  first | refine wpAny_bind (wpAny_pure ?_) | skip
  refine wpAny_bind (wpAny_sequenceKey ht.typeIs (by decide) ?_)
  refine wpAny_bind (wpAny_callSpecial?_slot (name := Str.ofString "__getitem__") ht.typeIs PyProof.Rows.slot_tuple_getitem
    (wpAny_call_entry PyProof.Rows.slot_tuple_getitem ht.typeIs entry_tuple_getitem ?_ (args_tuple_getitem _ _)))
  show wpAny _ _ (Builtin.Tuple.tupleItemsOf (.ref t) >>= _) _ _ s
  refine wpAny_bind (tupleItemsOf_ ht ?_)
  refine wpAny_bind (wpAny_typeOf hTs ?_)
  rw [if_pos (by decide)]
  refine wpAny_bind (sliceApplied_gen hs pl pu ?_)
  have hno : ((((sIx items.size 0 lo : Nat) : Int) == 0 && (1 : Int) == 1 && (sIx items.size items.size hi - sIx items.size 0 lo) == items.size) = true) := by
    rw [hw.1, hw.2, Nat.sub_zero]
    simp
  show wpAny _ _ (if (((sIx items.size 0 lo : Nat) : Int) == 0 && (1 : Int) == 1 && (sIx items.size items.size hi - sIx items.size 0 lo) == items.size) = true then _ else _) _ _ s
  rw [if_pos hno]
  have he : ∀ {Q' : Bool → Shared → Prop}, Q' true s → wpAny (model prog w) A.in1 (Builtin.Tuple.tupleIsExact (.ref t)) Q' E s := by
    intro Q' q'
    unfold Builtin.Tuple.tupleIsExact
    refine wpAny_bind (wpAny_typeOf ht.typeIs ?_)
    exact wpAny_pure q'
  refine wpAny_bind (he ?_)
  rw [if_pos rfl]
  first
    | exact wpAny_bind (wpAny_rule (wpAny_pure ⟨_, rfl, wpAny_pure h⟩))
end
def whole (n : Nat) (lo hi : Option Int) : Prop := HT.sIx n 0 lo = 0 ∧ HT.sIx n n hi = n
/-- t[lo:hi]: the whole is t itself -/
def rSlTA (K : PySem.W.Frag) : V → Option Int → Option Int → Hp → VK → Prop := fun x lo hi H Q => ∃ a xs, x = .ref a ∧ SqT K H a xs ∧
  (whole xs.length lo hi → Q (.ref a) H) ∧ (¬ whole xs.length lo hi → ∀ p, H p = none → Q (.ref p) (upd H p (.tup (cutV xs lo hi))))
theorem sl_tupA {X : Cx} : SlR X (rSlTA X.K) := by
  intro pins s σ H x v vl vu lo hi sl Q I rx hs pl pu h
  obtain ⟨a, xs, rfl, hx, q1, q2⟩ := h
  by_cases hw : whole xs.length lo hi
  · cases rx
    obtain ⟨its, r, ht, hz⟩ := I.tuple hx
    have hlen : its.toArray.size = xs.length := by rw [List.size_toArray]; exact r.length.symm
    refine ⟨"tuple", _, PyProof.Rows.slot_tuple_getitem.lookup, ht.typeIs, ?_⟩
    exact getItem_tuple_whole ht hs pl pu (by rw [hlen]; exact hw) ⟨.ref a, H, I, rfl, q1 hw⟩ (by rw [hlen]; exact hz)
  · exact sl_tup pins s σ H _ v vl vu lo hi sl Q I rx hs pl pu ⟨a, xs, rfl, hx, hw, q2 hw⟩
end X9

/-! odd things, with a dict that holds one thing: == (), repr -/
namespace X15
open PySem PySem.Spec PyProof.Rows L2 Kit
theorem dict_declines (l b : Addr) (es : Array DictEntry) (n : Nat) (dd dd2 : Option Addr) (sl sl2 : Array (Option Value)) (vs : Array Value) (m : Nat) :
    Meets (Builtin.«dict.__eq__» ⟨[.ref l, .ref b], []⟩) (fun _ R s =>
      (s.heap.get? l = some { cls := .type "dict", dict := dd, data := .dict es n, slots := sl } ∧
        s.heap.get? b = some { cls := .type "tuple", dict := dd2, data := .seq vs m, slots := sl2 }) ∧ R (.ok (.ret .notImplemented)) s) :=
  .of_wp fun prog w A R s h => by
    obtain ⟨hp, g, d, tk, os⟩ := s
    obtain ⟨⟨hl, hb⟩, h⟩ := h
    have f1 := PySem.F.sub_tuple_dict
    wp_walk using wpAny_loadPart' hl, wpAny_loadPart' hb
    exact ⟨_, rfl, h⟩
theorem tuple_declines (l b : Addr) (es : Array DictEntry) (n : Nat) (dd dd2 : Option Addr) (sl sl2 : Array (Option Value)) (vs : Array Value) (m : Nat) :
    Meets (Builtin.«tuple.__eq__» ⟨[.ref b, .ref l], []⟩) (fun _ R s =>
      (s.heap.get? l = some { cls := .type "dict", dict := dd, data := .dict es n, slots := sl } ∧
        s.heap.get? b = some { cls := .type "tuple", dict := dd2, data := .seq vs m, slots := sl2 }) ∧ R (.ok (.ret .notImplemented)) s) :=
  .of_wp fun prog w A R s h => by
    obtain ⟨hp, g, d, tk, os⟩ := s
    obtain ⟨⟨hl, hb⟩, h⟩ := h
    have f1 := PySem.F.sub_dict_tuple
    wp_walk using wpAny_loadPart' hb, wpAny_loadPart' hl
    exact ⟨_, rfl, h⟩

/-! ### data of any kind -/
inductive Ob
  | non
  | bl (b : Bool)
  | int (i : Int)
  | str (z : Str)
  | tup (xs : List Ob)
  | lst (xs : List Ob)
  | emp
  | dic (x : Ob)
/-- it stands at v; its lists and dicts are neither at d nor at c -/
inductive ObR (d c : Addr) (H : Hp) : Ob → V → Prop
  | non : ObR d c H .non .non
  | bl (b : Bool) : ObR d c H (.bl b) (.bl b)
  | int (i : Int) : ObR d c H (.int i) (.int i)
  | str (z : Str) : ObR d c H (.str z) (.str z)
  | tup {p : Addr} {xs : List Ob} {vs : List V} (h : H p = some (.tup vs)) (hl : xs.length = vs.length) (ha : ∀ (i : Nat) x v, xs[i]? = some x → vs[i]? = some v → ObR d c H x v) : ObR d c H (.tup xs) (.ref p)
  | lst {p : Addr} {xs : List Ob} {vs : List V} (n : p ≠ d ∧ p ≠ c) (ns : p ≠ sysModules) (h : H p = some (.lst vs)) (hl : xs.length = vs.length) (ha : ∀ (i : Nat) x v, xs[i]? = some x → vs[i]? = some v → ObR d c H x v) : ObR d c H (.lst xs) (.ref p)
  | emp {p : Addr} (n : p ≠ d ∧ p ≠ c) (h : H p = some (.dK [])) : ObR d c H .emp (.ref p)
  | dic {p : Addr} {x : Ob} {v : V} (n : p ≠ d ∧ p ≠ c) (h : H p = some (.dK [(.inl 0, v)])) (hx : ObR d c H x v) : ObR d c H (.dic x) (.ref p)
/-- tuples stay, and lists and dicts elsewhere -/
structure KO (d c : Addr) (H H' : Hp) : Prop where
  tup : ∀ p vs, H p = some (.tup vs) → H' p = some (.tup vs)
  lst : ∀ p vs, p ≠ d → p ≠ c → H p = some (.lst vs) → H' p = some (.lst vs)
  dic : ∀ p kvs, p ≠ d → p ≠ c → H p = some (.dK kvs) → H' p = some (.dK kvs)
theorem KO.of {d c : Addr} {H H' : Hp} (s : Same H H') : KO d c H H' := ⟨fun p vs e => s _ _ e, fun p vs _ _ e => s _ _ e, fun p kvs _ _ e => s _ _ e⟩
theorem ObR.keep {d c : Addr} {H H' : Hp} {o : Ob} {v : V} (h : ObR d c H o v) (k : KO d c H H') : ObR d c H' o v := by
  induction h with
  | non => exact .non
  | bl b => exact .bl b
  | int i => exact .int i
  | str z => exact .str z
  | tup e hl ha ih => exact .tup (k.tup _ _ e) hl ih
  | lst n ns e hl ha ih => exact .lst n ns (k.lst _ _ n.1 n.2 e) hl ih
  | emp n e => exact .emp n (k.dic _ _ n.1 n.2 e)
  | dic n e hx ih => exact .dic n (k.dic _ _ n.1 n.2 e) ih
theorem ObR.same {d c : Addr} {H H' : Hp} {o : Ob} {v : V} (h : ObR d c H o v) (s : Same H H') : ObR d c H' o v := h.keep (.of s)
def AllO (d c : Addr) (H : Hp) (xs : List Ob) (vs : List V) : Prop := xs.length = vs.length ∧ ∀ (i : Nat) x v, xs[i]? = some x → vs[i]? = some v → ObR d c H x v
theorem AllO.nil {d c : Addr} {H : Hp} : AllO d c H [] [] := ⟨rfl, fun i x v h => by cases h⟩
theorem AllO.cons {d c : Addr} {H : Hp} {x : Ob} {v : V} {xs : List Ob} {vs : List V} (h : ObR d c H x v) (hs : AllO d c H xs vs) : AllO d c H (x :: xs) (v :: vs) := by
  refine ⟨by rw [List.length_cons, List.length_cons, hs.1], fun i y u h1 h2 => ?_⟩
  cases i with
  | zero =>
    cases h1
    cases h2
    exact h
  | succ i => exact hs.2 i y u h1 h2
theorem AllO.keep {d c : Addr} {H H' : Hp} {xs : List Ob} {vs : List V} (h : AllO d c H xs vs) (k : KO d c H H') : AllO d c H' xs vs := ⟨h.1, fun i x v h1 h2 => (h.2 i x v h1 h2).keep k⟩
theorem AllO.same {d c : Addr} {H H' : Hp} {xs : List Ob} {vs : List V} (h : AllO d c H xs vs) (s : Same H H') : AllO d c H' xs vs := h.keep (.of s)
theorem AllO.take {d c : Addr} {H : Hp} {xs : List Ob} {vs : List V} (h : AllO d c H xs vs) (k : Nat) : AllO d c H (xs.take k) (vs.take k) := by
  refine ⟨by rw [List.length_take, List.length_take, h.1], fun i x v e1 e2 => ?_⟩
  rw [List.getElem?_take] at e1 e2
  by_cases hi : i < k
  · rw [if_pos hi] at e1 e2
    exact h.2 i x v e1 e2
  · rw [if_neg hi] at e1
    cases e1
theorem AllO.drop {d c : Addr} {H : Hp} {xs : List Ob} {vs : List V} (h : AllO d c H xs vs) (k : Nat) : AllO d c H (xs.drop k) (vs.drop k) := by
  refine ⟨by rw [List.length_drop, List.length_drop, h.1], fun i x v e1 e2 => ?_⟩
  rw [List.getElem?_drop] at e1 e2
  exact h.2 _ x v e1 e2
theorem AllO.inv_cons {d c : Addr} {H : Hp} {x : Ob} {xs : List Ob} {vs : List V} (h : AllO d c H (x :: xs) vs) : ∃ v vs', vs = v :: vs' ∧ ObR d c H x v ∧ AllO d c H xs vs' := by
  cases vs with
  | nil => exact absurd h.1 (by simp)
  | cons v vs => exact ⟨v, vs, rfl, h.2 0 _ _ rfl rfl, Nat.succ.inj h.1, fun i x u h1 h2 => h.2 (i + 1) x u h1 h2⟩
theorem AllO.inv_nil {d c : Addr} {H : Hp} {vs : List V} (h : AllO d c H [] vs) : vs = [] := by
  cases vs with
  | nil => rfl
  | cons v vs => exact absurd h.1 (by simp)
theorem AllO.append {d c : Addr} {H : Hp} : ∀ {xs ys : List Ob} {vs ws : List V}, AllO d c H xs vs → AllO d c H ys ws → AllO d c H (xs ++ ys) (vs ++ ws)
  | [], _, _, _, h, h2 => by
    rw [h.inv_nil]
    exact h2
  | x :: xs, ys, vs, ws, h, h2 => by
    obtain ⟨v, vs', rfl, h3, h4⟩ := h.inv_cons
    exact .cons h3 (AllO.append h4 h2)
theorem AllO.rev {d c : Addr} {H : Hp} {xs : List Ob} {vs : List V} (h : AllO d c H xs vs) : AllO d c H xs.reverse vs.reverse := by
  refine ⟨by rw [List.length_reverse, List.length_reverse, h.1], fun i x v e1 e2 => ?_⟩
  have hi : i < xs.length := by
    have := (List.getElem?_eq_some_iff.mp e1).1
    rwa [List.length_reverse] at this
  rw [List.getElem?_reverse hi] at e1
  rw [List.getElem?_reverse (by rw [← h.1]; exact hi), ← h.1] at e2
  exact h.2 _ x v e1 e2
theorem ObR.mk {d c : Addr} {H : Hp} {p : Addr} {xs : List Ob} {vs : List V} (h : H p = some (.tup vs)) (a : AllO d c H xs vs) : ObR d c H (.tup xs) (.ref p) := .tup h a.1 a.2
theorem ObR.mkL {d c : Addr} {H : Hp} {p : Addr} {xs : List Ob} {vs : List V} (n : p ≠ d ∧ p ≠ c) (ns : p ≠ sysModules) (h : H p = some (.lst vs)) (a : AllO d c H xs vs) : ObR d c H (.lst xs) (.ref p) := .lst n ns h a.1 a.2
theorem ObR.inv_tup {d c : Addr} {H : Hp} {xs : List Ob} {v : V} (h : ObR d c H (.tup xs) v) : ∃ p vs, v = .ref p ∧ H p = some (.tup vs) ∧ AllO d c H xs vs := by
  cases h with
  | tup e hl ha => exact ⟨_, _, rfl, e, hl, ha⟩
theorem ObR.inv_int {d c : Addr} {H : Hp} {i : Int} {v : V} (h : ObR d c H (.int i) v) : v = .int i := by
  cases h
  rfl
mutual
def od : Ob → PyData
  | .non => .none
  | .bl b => .bool b
  | .int i => .int i
  | .str z => .str z
  | .tup xs => .tuple (odL xs)
  | .lst xs => .list (odL xs)
  | .emp => .dict []
  | .dic x => .dict [(.int 0, od x)]
def odL : List Ob → List PyData
  | [] => []
  | x :: xs => od x :: odL xs
end
section
variable {X : Cx} {pins : List (Addr × Obj)} {σ : L2.St} {H : Hp} {s : Shared} {d c : Addr}
theorem readsL (h : Heap) : ∀ (xs : List Ob) (us : List Value), (∀ (i : Nat) x u, xs[i]? = some x → us[i]? = some u → ∃ as, Reads h u (od x) as ∧ sysModules ∉ as) → xs.length = us.length →
    ∃ as, ReadsAll h us (odL xs) as ∧ sysModules ∉ as
  | [], [], _, _ => by
    rw [odL]
    exact ⟨_, .nil, fun z => by cases z⟩
  | [], _ :: _, _, hl => by cases hl
  | _ :: _, [], _, hl => by cases hl
  | x :: xs, u :: us, ha, hl => by
    obtain ⟨a1, h1, n1⟩ := ha 0 x u rfl rfl
    obtain ⟨a2, h2, n2⟩ := readsL h xs us (fun i y v e1 e2 => ha (i + 1) y v e1 e2) (Nat.succ.inj hl)
    rw [odL]
    refine ⟨_, .cons h1 h2, fun m => ?_⟩
    rcases List.mem_append.mp m with m | m
    · exact n1 m
    · exact n2 m
theorem vals_at {vs : List V} {us : List Value} (r : Vals vs us) {i : Nat} {u : Value} (e : us[i]? = some u) : ∃ v, vs[i]? = some v ∧ RelV v u := by
  induction r generalizing i with
  | nil => cases e
  | cons r1 _ ih =>
    cases i with
    | zero =>
      cases e
      exact ⟨_, rfl, r1⟩
    | succ i => exact ih e
theorem ObR.reads (I : Inv X pins σ H s) {o : Ob} {v : V} (h : ObR d c H o v) : ∀ u, RelV v u → ∃ as, Reads s.heap u (od o) as ∧ sysModules ∉ as := by
  induction h with
  | non =>
    intro u r
    cases r
    rw [od]
    exact ⟨_, .none, fun z => by cases z⟩
  | bl b =>
    intro u r
    cases r
    rw [od]
    exact ⟨_, .bool b, fun z => by cases z⟩
  | int i =>
    rintro u ⟨t, rfl⟩
    rw [od]
    exact ⟨_, .int i t, fun z => by cases z⟩
  | str z =>
    rintro u ⟨t, rfl⟩
    rw [od]
    exact ⟨_, .str z t, fun z => by cases z⟩
  | tup e hl ha ih =>
    intro u r
    cases r
    obtain ⟨its, rv, ⟨o, ho, hc, n, hd⟩, _⟩ := I.tuple (.inl (.inl e))
    obtain ⟨as, h1, h2⟩ := readsL s.heap _ its (fun i x u e1 e2 => by
      obtain ⟨v, e3, r⟩ := vals_at rv e2
      exact ih i x v e1 e3 u r) (by rw [hl, rv.length])
    rw [od]
    exact ⟨_, .tuple ho hc hd h1, h2⟩
  | lst n ns e hl ha ih =>
    intro u r
    cases r
    obtain ⟨its, rv, ⟨o, n, ho, hc, _, hd⟩, _⟩ := I.list (.inl (.inl e))
    obtain ⟨as, h1, h2⟩ := readsL s.heap _ its (fun i x u e1 e2 => by
      obtain ⟨v, e3, r⟩ := vals_at rv e2
      exact ih i x v e1 e3 u r) (by rw [hl, rv.length])
    rw [od]
    refine ⟨_, .list ho hc hd h1, fun m => ?_⟩
    rcases List.mem_cons.mp m with m | m
    · exact ns m.symm
    · exact h2 m
  | emp n e =>
    intro u r
    cases r
    obtain ⟨_, nm, vs, rel, o, es, ep, ho, ⟨hc, _, _⟩, hd, _, pr, _⟩ := dk_of I.hok e
    have : vs = [] := by
      cases rel
      rfl
    subst this
    have h0 : es.toList = [] := by
      generalize es.toList = l at pr
      cases pr
      rfl
    rw [od]
    refine ⟨_, .dict ho hc hd (as := []) (bs := []) ?_ ?_, fun m => ?_⟩
    · rw [h0]
      exact .nil
    · rw [h0]
      exact .nil
    · have m : sysModules ∈ [_] := m
      rw [List.mem_singleton.mp m] at nm
      simp at nm
  | @dic p x v n e hx ih =>
    intro u r
    cases r
    obtain ⟨_, nm, vs, rel, o, es, ep, ho, ⟨hc, _, _⟩, hd, _, pr, _⟩ := dk_of I.hok e
    obtain ⟨w, hw, rfl⟩ : ∃ w, RelV v w ∧ vs = [(.inl 0, w)] := by
      match vs, rel with
      | [(k, w)], .cons h .nil =>
        obtain ⟨h1, h2⟩ := h
        have h1 : Sum.inl 0 = k := h1
        subst h1
        exact ⟨w, h2, rfl⟩
    obtain ⟨t, as, h1, h2⟩ : ∃ t as, es.toList.map (·.key) = [.int 0 t] ∧ es.toList.map (·.val) = [w] ∧ Reads s.heap w (od x) as ∧ sysModules ∉ as := by
      obtain ⟨as, a1, a2⟩ := ih w hw
      generalize es.toList = l at pr
      cases pr with
      | cons k1 k2 k3 =>
        cases k3
        rename_i en
        have k1 : keyIs (.inl 0) en.key = true := k1
        rcases keyIs_shape k1 with ⟨i, t, h, h'⟩ | ⟨y, t, h, _⟩
        · cases h
          exact ⟨t, as, by rw [List.map_cons, List.map_nil, h'], by rw [List.map_cons, List.map_nil, k2], a1, a2⟩
        · cases h
    obtain ⟨h2, h3, h4⟩ := h2
    rw [od]
    refine ⟨_, .dict ho hc hd (as := []) (bs := as ++ []) ?_ ?_, fun m => ?_⟩
    · rw [h1]
      exact .cons (.int 0 t) .nil
    · rw [h2]
      exact .cons h3 .nil
    · rw [List.append_nil] at m
      have m : sysModules ∈ p :: as := m
      rcases List.mem_cons.mp m with m | m
      · rw [← m] at nm
        simp at nm
      · exact h4 m
/-! ### lists that are no modules' table -/
def tLstN (t : TA) : TE := fun σ H Q => t σ H fun xs H1 => xs.length ≤ sizeLine ∧ ∀ p, H1 p = none → p ≠ sysModules → Q (.ref p) (upd H1 p (.lst xs))
theorem pe_lstN {es : List Expr} {pos : Pos} {t : TA} (h : PA X es t) : PE X (.List es pos) (tLstN t) := by
  refine ⟨fun pins s σ H Q I hq => ?_⟩
  refine wpAny_List_spliced (thn (h.run pos pins s σ H _ I hq) fun us s1 ⟨xs, H1, I1, r, z, q⟩ => ⟨by rw [← r.length]; exact z, ?_⟩)
  have hf : H1 s1.heap.objs.size = none := I1.hok.fresh (Nat.le_refl _)
  refine ⟨.ref s1.heap.objs.size, upd H1 s1.heap.objs.size (.lst xs), I1.laid (t' := s1.toks) (fun b u e => Heap.get?_push_of_some _ e) (Nat.le_refl _) ?_, rfl, q _ hf (Nat.ne_of_gt I1.big)⟩
  exact ⟨z, us, 0, r, Heap.get?_push_size _ rfl⟩
/-- list(t) of a tuple -/
theorem call_list_ofN : CallR X (.type "list") (fun xs H Q => ∃ p ys, xs = [.ref p] ∧ SqT X.K H p ys ∧ ∀ l, H l = none → l ≠ sysModules → Q (.ref l) (upd H l (.lst ys))) := by
  intro pins s σ H xs us Q I r h
  obtain ⟨p, ys, rfl, hq, q⟩ := h
  obtain ⟨u, rfl, rx⟩ := vals1 r
  cases rx
  obtain ⟨its, r', pl, hz⟩ := I.tuple hq
  have hlen := r'.length
  obtain ⟨o, ho, hc, n, hd⟩ := pl
  exact call_list_seq p (.inr rfl) ho hc hd (fun h' c' kp e => ⟨.ref s.heap.objs.size, _, I.laid (t' := s.toks) kp (Nat.le_refl _) (show ObjOk X.prog X.w _ h' _ (.lst ys) from ⟨by omega, its, c', r', e⟩), rfl, q _ (I.hok.fresh (Nat.le_refl _)) (Nat.ne_of_gt I.big)⟩) (by simp only [List.size_toArray] <;> omega)
/-- repr of it -/
def rReprO : List V → Hp → VK → Prop := fun xs H Q => ∃ (d c : Addr) (o : Ob) (v : V), xs = [v] ∧ ObR d c H o v ∧ (od o).showable = true ∧ (od o).depth ≤ 150 ∧ (od o).shown.length ≤ sizeLine ∧ Q (.str (od o).shown) H
theorem call_reprO (hq : Qt X.A) (hu : X.A.units + 200 < cLine) : CallR X (.builtin "repr") rReprO := by
  intro pins s σ H xs us Q I r h
  obtain ⟨d, c, o, v, rfl, ho, hs, hp, hz, q⟩ := h
  have big : ∀ {a : Addr}, us = [.ref a] → v = .ref a → wpAny (model X.prog X.w) X.A (call (.builtin "repr") us) (fun u s' => ∃ v' H', Inv X pins σ H' s' ∧ RelV v' u ∧ Q v' H') X.xe s := by
    rintro a rfl rfl
    obtain ⟨as, rd, hm⟩ := ho.reads I (.ref a) rfl
    exact repr_of_reads' rd hs (fun _ => hm) hq (by omega) (fun _ _ e => e) (fun h' u tk hk => ⟨.str _, H, I.kept hk, ⟨_, rfl⟩, q⟩) hz
  cases ho with
  | non =>
    obtain ⟨u, rfl, ru⟩ := vals1 r
    obtain rfl : u = Value.none := ru
    rw [od, PyData.shown] at q
    exact P.repr_of_none ⟨.str _, H, I.tok _, ⟨_, rfl⟩, q⟩
  | bl b =>
    obtain ⟨u, rfl, ru⟩ := vals1 r
    obtain rfl : u = Value.bool b := ru
    rw [od, PyData.shown] at q
    exact P.repr_of_bool ⟨.str _, H, I.tok _, ⟨_, rfl⟩, q⟩
  | int i =>
    obtain ⟨u, rfl, t, rfl⟩ := vals1 r
    rw [od, PyData.showable, decide_eq_true_eq] at hs
    rw [od, PyData.shown] at q
    exact P.repr_of_int hs ⟨.str _, H, I.tok _, ⟨_, rfl⟩, q⟩
  | str z =>
    obtain ⟨u, rfl, t, rfl⟩ := vals1 r
    rw [od, PyData.shown] at q hz
    exact P.repr_of_str ⟨.str _, H, I.tok _, ⟨_, rfl⟩, q⟩ hz
  | tup e hl ha => exact big (Vals.ref1 r) rfl
  | lst n ns e hl ha => exact big (Vals.ref1 r) rfl
  | emp n e => exact big (Vals.ref1 r) rfl
  | dic n e hx => exact big (Vals.ref1 r) rfl
/-! ### x == () -/
def isE : Ob → Bool
  | .tup [] => true
  | _ => false
def rEqE : R2 := fun x y H Q => ∃ (d c : Addr) (o : Ob) (p : Addr), ObR d c H o x ∧ y = .ref p ∧ H p = some (.tup []) ∧ Q (.bl (isE o)) H
theorem op_eqE (hu : X.A.units + 200 < cLine) : OpR X (compareOp .Eq) rEqE := by
  intro pins s σ H x y v u Q I rx ry h
  obtain ⟨d, c, o, p, ho, rfl, ep, q⟩ := h
  obtain rfl : u = Value.ref p := ry
  obtain ⟨its2, rv2, t2, _⟩ := I.tuple (.inl (.inl ep))
  have z2 : its2 = [] := by
    cases rv2
    rfl
  subst z2
  have hu0 : X.A.units < cLine := by omega
  have no : isE o = false → wpAny (model X.prog X.w) X.A (pure (Value.bool false)) (fun u s' => ∃ v' H', Inv X pins σ H' s' ∧ RelV v' u ∧ Q v' H') X.xe s := fun z => by
    rw [z] at q
    exact wpAny_pure ⟨.bl false, H, I, rfl, q⟩
  have fin : isE o = false → ∃ v' H', Inv X pins σ H' s ∧ RelV v' (Value.bool false) ∧ Q v' H' := fun z => by
    rw [z] at q
    exact ⟨.bl false, H, I, rfl, q⟩
  cases ho with
  | non =>
    cases rx
    exact SeqAt.RcAt.none_tuple t2 hu0 _ _ _ _ (fin rfl)
  | bl b =>
    cases rx
    exact SeqAt.RcAt.bool_tuple b t2 hu0 _ _ _ _ (fin rfl)
  | int i =>
    obtain ⟨t, rfl⟩ := rx
    exact SeqAt.RcAt.int_tuple i t t2 hu0 _ _ _ _ (fin rfl)
  | str z =>
    obtain ⟨t, rfl⟩ := rx
    exact SeqAt.RcAt.str_tuple z t t2 hu0 _ _ _ _ (fin rfl)
  | @tup a xs vs e hl ha =>
    cases rx
    obtain ⟨its, rv, t1, _⟩ := I.tuple (.inl (.inl e))
    refine SeqAt.RcAt.tuples (e := fun _ => true) t1 t2 hu0 (fun j h1 h2 => ?_) _ _ _ _ ?_
    · exact absurd h2 (by simp)
    · have ee : ((List.range (min its.toArray.size ([] : List Value).toArray.size)).all (fun _ => true) && its.toArray.size == ([] : List Value).toArray.size) = isE (.tup xs) := by
        have l : xs.length = its.length := by rw [hl, rv.length]
        cases xs with
        | nil =>
          cases its with
          | nil => rfl
          | cons _ _ => cases l
        | cons _ _ =>
          cases its with
          | nil => cases l
          | cons _ _ => simp [isE]
      rw [ee]
      exact ⟨.bl _, H, I, rfl, q⟩
  | lst n ns e hl ha =>
    cases rx
    obtain ⟨its, rv, t1, _⟩ := I.list (.inl (.inl e))
    exact SeqAt.RcAt.list_tuple t1.isList t2 hu0 _ _ _ _ (fin rfl)
  | @emp a n e =>
    cases rx
    obtain ⟨_, _, vs, rel, o, es, ep', ho, ⟨hc, hdd, hsl⟩, hd, _⟩ := dk_of I.hok e
    obtain ⟨⟨cls2, dd2, data2, sl2⟩, ho2, hc2, n2, hd2⟩ := t2
    obtain ⟨cls, dd, data, sl⟩ := o
    simp only at hc hd hc2 hd2
    subst hc hd hc2 hd2
    have hne : a ≠ p := fun z => by
      rw [z, ho2] at ho
      have h1 : Value.type "tuple" = Value.type "dict" := congrArg Obj.cls (Option.some.inj ho)
      injection h1 with h1
      exact absurd h1 (by decide)
    exact SeqAt.rc_eq_decline_or (k := false) ⟨_, ho, rfl⟩ ⟨_, ho2, rfl⟩ (by decide) PySem.F.sub_tuple_dict PySem.F.slot_dict_eq PySem.F.slot_tuple_eq_refl
      (fun _ hq => call_meets PySem.F.slot_dict_eq ⟨_, ho, rfl⟩ PySem.F.entry_dict_eq (PySem.F.args_dict_eq_2 _ _) (dict_declines a p es ep' dd dd2 sl sl2 _ n2) ⟨⟨ho, ho2⟩, hq⟩)
      (fun _ hq => call_meets PySem.F.slot_tuple_eq_refl ⟨_, ho2, rfl⟩ PySem.F.entry_tuple_eq (PySem.F.args_tuple_eq_2 _ _) (tuple_declines a p es ep' dd dd2 sl sl2 _ n2) ⟨⟨ho, ho2⟩, hq⟩)
      (fun _ hq => wpAny_isSame_ref_other hne ho ho2 (by simp) hq) (.inr hu0) (fin rfl)
  | @dic a x v n e hx =>
    cases rx
    obtain ⟨_, _, vs, rel, o, es, ep', ho, ⟨hc, hdd, hsl⟩, hd, _⟩ := dk_of I.hok e
    obtain ⟨⟨cls2, dd2, data2, sl2⟩, ho2, hc2, n2, hd2⟩ := t2
    obtain ⟨cls, dd, data, sl⟩ := o
    simp only at hc hd hc2 hd2
    subst hc hd hc2 hd2
    have hne : a ≠ p := fun z => by
      rw [z, ho2] at ho
      have h1 : Value.type "tuple" = Value.type "dict" := congrArg Obj.cls (Option.some.inj ho)
      injection h1 with h1
      exact absurd h1 (by decide)
    exact SeqAt.rc_eq_decline_or (k := false) ⟨_, ho, rfl⟩ ⟨_, ho2, rfl⟩ (by decide) PySem.F.sub_tuple_dict PySem.F.slot_dict_eq PySem.F.slot_tuple_eq_refl
      (fun _ hq => call_meets PySem.F.slot_dict_eq ⟨_, ho, rfl⟩ PySem.F.entry_dict_eq (PySem.F.args_dict_eq_2 _ _) (dict_declines a p es ep' dd dd2 sl sl2 _ n2) ⟨⟨ho, ho2⟩, hq⟩)
      (fun _ hq => call_meets PySem.F.slot_tuple_eq_refl ⟨_, ho2, rfl⟩ PySem.F.entry_tuple_eq (PySem.F.args_tuple_eq_2 _ _) (tuple_declines a p es ep' dd dd2 sl sl2 _ n2) ⟨⟨ho, ho2⟩, hq⟩)
      (fun _ hq => wpAny_isSame_ref_other hne ho ho2 (by simp) hq) (.inr hu0) (fin rfl)
end
end X15

namespace K80
open PySem PySem.Spec PyProof.Rows L2 Kit X15
/-! ### looking at papers of slowest ways -/
def natB : Ob → Bool
  | .int i => decide (0 ≤ i)
  | _ => false
def wholeB (e : Int) : Ob → Bool
  | .int i => decide (0 ≤ i ∧ i < e)
  | _ => false
def tupB (n : Int) : Ob → Bool
  | .tup xs => decide ((xs.length : Int) = n)
  | _ => false
def spNat : Sp := fun vs H Q _ => ∃ (d c : Addr) (o : Ob) (v : V), vs = [v] ∧ ObR d c H o v ∧ Q (.bl (natB o)) H
def spWhole : Sp := fun vs H Q _ => ∃ (d c : Addr) (o : Ob) (v : V) (e : Int), vs = [v, .int e] ∧ ObR d c H o v ∧ Q (.bl (wholeB e o)) H
def spTupM : Sp := fun vs H Q _ => ∃ (d c : Addr) (o : Ob) (v : V) (n : Int), vs = [v, .int n] ∧ ObR d c H o v ∧ Q (.bl (tupB n o)) H
def tyO : Ob → String
  | .non => "NoneType"
  | .bl _ => "bool"
  | .int _ => "int"
  | .str _ => "str"
  | .tup _ => "tuple"
  | .lst _ => "list"
  | .emp => "dict"
  | .dic _ => "dict"
def isI : Ob → Bool
  | .int _ => true
  | .bl _ => true
  | _ => false
def isB : Ob → Bool
  | .bl _ => true
  | _ => false
def isT : Ob → Bool
  | .tup _ => true
  | _ => false
theorem _root_.X15.ObR.ty {K : PySem.W.Frag} {d c : Addr} {H : Hp} {o : Ob} {v : V} (h : ObR d c H o v) : TyX K H v (.type (tyO o)) := by
  cases h with
  | non => exact .base .non
  | bl b => exact .base (.bl b)
  | int i => exact .base (.int i)
  | str z => exact .base (.str z)
  | tup e _ _ => exact .base (.tup e)
  | lst _ _ e _ _ => exact .base (.lst e)
  | emp _ e => exact .base (.dK e)
  | dic _ e _ => exact .base (.dK e)
theorem kit_oi (K : PySem.W.Frag) (o : Ob) : PySem.W.kitOne K (.type (tyO o)) (.type "int") = some (isI o) := by
  cases o with
  | non => exact (show PySem.W.kitOne K (.type "NoneType") (.type "int") = some false from kit_ty (by decide +kernel))
  | bl _ => exact (show PySem.W.kitOne K (.type "bool") (.type "int") = some true from kit_ty (by decide +kernel))
  | int _ => exact (show PySem.W.kitOne K (.type "int") (.type "int") = some true from kit_ty (by decide +kernel))
  | str _ => exact (show PySem.W.kitOne K (.type "str") (.type "int") = some false from kit_ty (by decide +kernel))
  | tup _ => exact (show PySem.W.kitOne K (.type "tuple") (.type "int") = some false from kit_ty (by decide +kernel))
  | lst _ => exact (show PySem.W.kitOne K (.type "list") (.type "int") = some false from kit_ty (by decide +kernel))
  | emp => exact (show PySem.W.kitOne K (.type "dict") (.type "int") = some false from kit_ty (by decide +kernel))
  | dic _ => exact (show PySem.W.kitOne K (.type "dict") (.type "int") = some false from kit_ty (by decide +kernel))
theorem kit_ob (K : PySem.W.Frag) (o : Ob) : PySem.W.kitOne K (.type (tyO o)) (.type "bool") = some (isB o) := by
  cases o with
  | non => exact (show PySem.W.kitOne K (.type "NoneType") (.type "bool") = some false from kit_ty (by decide +kernel))
  | bl _ => exact (show PySem.W.kitOne K (.type "bool") (.type "bool") = some true from kit_ty (by decide +kernel))
  | int _ => exact (show PySem.W.kitOne K (.type "int") (.type "bool") = some false from kit_ty (by decide +kernel))
  | str _ => exact (show PySem.W.kitOne K (.type "str") (.type "bool") = some false from kit_ty (by decide +kernel))
  | tup _ => exact (show PySem.W.kitOne K (.type "tuple") (.type "bool") = some false from kit_ty (by decide +kernel))
  | lst _ => exact (show PySem.W.kitOne K (.type "list") (.type "bool") = some false from kit_ty (by decide +kernel))
  | emp => exact (show PySem.W.kitOne K (.type "dict") (.type "bool") = some false from kit_ty (by decide +kernel))
  | dic _ => exact (show PySem.W.kitOne K (.type "dict") (.type "bool") = some false from kit_ty (by decide +kernel))
theorem kit_ot (K : PySem.W.Frag) (o : Ob) : PySem.W.kitOne K (.type (tyO o)) (.type "tuple") = some (isT o) := by
  cases o with
  | non => exact (show PySem.W.kitOne K (.type "NoneType") (.type "tuple") = some false from kit_ty (by decide +kernel))
  | bl _ => exact (show PySem.W.kitOne K (.type "bool") (.type "tuple") = some false from kit_ty (by decide +kernel))
  | int _ => exact (show PySem.W.kitOne K (.type "int") (.type "tuple") = some false from kit_ty (by decide +kernel))
  | str _ => exact (show PySem.W.kitOne K (.type "str") (.type "tuple") = some false from kit_ty (by decide +kernel))
  | tup _ => exact (show PySem.W.kitOne K (.type "tuple") (.type "tuple") = some true from kit_ty (by decide +kernel))
  | lst _ => exact (show PySem.W.kitOne K (.type "list") (.type "tuple") = some false from kit_ty (by decide +kernel))
  | emp => exact (show PySem.W.kitOne K (.type "dict") (.type "tuple") = some false from kit_ty (by decide +kernel))
  | dic _ => exact (show PySem.W.kitOne K (.type "dict") (.type "tuple") = some false from kit_ty (by decide +kernel))
/-- a tuple of whole numbers -/
def intsO (arr : List Int) : Ob := .tup (arr.map Ob.int)
theorem int_map_inj : ∀ {a b : List Int}, a.map Ob.int = b.map Ob.int → a = b
  | [], [], _ => rfl
  | [], _ :: _, h => by cases h
  | _ :: _, [], h => by cases h
  | x :: a, y :: b, h => by
    injection h with h1 h2
    injection h1 with h1
    rw [h1, int_map_inj h2]
theorem ints_inj {a b : List Int} (h : intsO a = intsO b) : a = b := by
  unfold intsO at h
  injection h with h
  exact int_map_inj h
theorem allo_ints {d c : Addr} {H : Hp} : ∀ {arr : List Int} {vs : List V}, AllO d c H (arr.map Ob.int) vs → vs = arr.map V.int
  | [], vs, h => h.inv_nil
  | x :: arr, vs, h => by
    obtain ⟨v, vs', rfl, h1, h2⟩ := h.inv_cons
    rw [h1.inv_int, allo_ints h2]
    rfl
theorem allo_of_ints {d c : Addr} {H : Hp} : ∀ arr : List Int, AllO d c H (arr.map Ob.int) (arr.map V.int)
  | [] => .nil
  | x :: arr => .cons (.int x) (allo_of_ints arr)
theorem nat_ints : ∀ {xs : List Ob}, xs.all natB = true → ∃ arr : List Int, xs = arr.map Ob.int ∧ ∀ x ∈ arr, 0 ≤ x
  | [], _ => ⟨[], rfl, fun x h => by cases h⟩
  | o :: xs, h => by
    rw [List.all_cons, Bool.and_eq_true] at h
    obtain ⟨arr, rfl, ha⟩ := nat_ints h.2
    cases o with
    | int i =>
      refine ⟨i :: arr, rfl, fun x hx => ?_⟩
      rcases List.mem_cons.mp hx with rfl | hx
      · exact of_decide_eq_true h.1
      · exact ha x hx
    | _ => cases h.1
theorem kit_ii (K : PySem.W.Frag) : PySem.W.kitOne K (.type "int") (.type "int") = some true := kit_ty (by decide +kernel)
theorem kit_ib (K : PySem.W.Frag) : PySem.W.kitOne K (.type "int") (.type "bool") = some false := kit_ty (by decide +kernel)
theorem kit_tt (K : PySem.W.Frag) : PySem.W.kitOne K (.type "tuple") (.type "tuple") = some true := kit_ty (by decide +kernel)
/-- arrivals that are right -/
structure ArrOk (gs : List Gt) (wl : List (List Way)) (d : Own) (arr : List Int) : Prop where
  len : arr.length = gs.length
  nat : ∀ x ∈ arr, 0 ≤ x
  feeds : ∀ (k : Nat) g ws, gs[k]? = some g → wl[k]? = some ws → g.fed = true → ∀ p ∈ bro arr g.feeds (lens ws) d.s, p.1 + g.own d ≤ arr.getD k 0
def ArrO (gs : List Gt) (wl : List (List Way)) (d : Own) (o : Ob) : Prop := ∃ arr : List Int, o = intsO arr ∧ ArrOk gs wl d arr
def spArr (K : PySem.W.Frag) : Sp := fun vs H Q _ => ∃ (dd cc : Addr) (vg vw va : V) (a : Addr) (gs : List Gt) (wl : List (List Way)) (d : Own) (o : Ob),
  vs = [vg, vw, va, .ref a] ∧ TdR H (gatesT gs) vg ∧ TdR H (waysT wl) vw ∧ ObR dd cc H o va ∧ SqT K H a (ownV d) ∧ Okl gs wl ∧ d.ok ∧ gs.length ≤ 1000 ∧
  ∀ (b : Bool) (H' : Hp), Same H H' → (b = true ↔ ArrO gs wl d o) → Q (.bl b) H'
theorem ints_get {arr : List Int} {i : Nat} {v : V} (h : (arr.map V.int)[i]? = some v) : ∃ x, arr[i]? = some x ∧ v = .int x := by
  rw [List.getElem?_map] at h
  cases e : arr[i]? with
  | none =>
    rw [e] at h
    cases h
  | some x =>
    rw [e] at h
    exact ⟨x, rfl, (Option.some.inj h).symm⟩
theorem take_bl {α : Type} {l : List α} {i : Nat} {x : α} (f : α → Bool) (h : l[i]? = some x) : ((l.take (i + 1)).map f).map V.bl = ((l.take i).map f).map V.bl ++ [V.bl (f x)] := by
  rw [List.take_add_one, h, List.map_append, List.map_append]
  rfl
section
variable {P : Program} {w : World} {K : PySem.W.Frag} {mg : Str → Option Value} {base : Heap} {cF cD : Addr}
theorem ok_nat {f : Addr} {fd : FuncData} (D : DefAt K mg "is_natural" ["thing"] s_is_natural f fd) (M : Bi mg) : Cal P w K mg base L2.CX0 1 "is_natural" ["thing"] spNat := by
  have S := S_is_natural
  refine cal_of D.fn D.mgf D.bs D.kbs S (fun vs H Q E h => ?_) (fun cdv A outer s H vs Q E hq hr h => ?_)
  · obtain ⟨d, c, o, v, rfl, _⟩ := h
    rfl
  · obtain ⟨d, c, o, v, rfl, ho, q⟩ := h
    refine ⟨_, (pss_one (ps_ret (pe_and (pe_callB call_isi (by rfl) M.isinstance_ (by decide +kernel) (pa_cons (pv 0) (pa_cons (pe_bltn (v := .ty "int") (u := .type "int") (by rfl) M.int_ (by decide +kernel) rfl) pa_nil))) (pe_and (pe_not (pe_callB call_isi (by rfl) M.isinstance_ (by decide +kernel) (pa_cons (pv 0) (pa_cons (pe_bltn (v := .ty "bool") (u := .type "bool") (by rfl) M.bool_ (by decide +kernel) rfl) pa_nil)))) (pe_one (pe_cmpR op_ge (pv 0) pe_int (nomark _))))))), ?_⟩
    have t := ho.ty (K := K)
    refine ⟨v, rfl, _, _, _, _, _, rfl, .ty "int", t, kit_oi K o, isI o, rfl, ?_⟩
    cases o with
    | int i =>
      obtain rfl := ho.inv_int
      exact iteT ⟨.int i, rfl, _, _, _, _, _, rfl, .ty "bool", t, kit_ob K (.int i), false, rfl, true, rfl, iteT ⟨.int i, rfl, i, 0, rfl, rfl, q⟩⟩
    | bl b => exact iteT ⟨v, rfl, _, _, _, _, _, rfl, .ty "bool", t, kit_ob K (.bl b), true, rfl, false, rfl, iteF q⟩
    | non => exact iteF q
    | str z => exact iteF q
    | tup z => exact iteF q
    | lst z => exact iteF q
    | emp => exact iteF q
    | dic z => exact iteF q
theorem ok_whole {f : Addr} {fd : FuncData} (D : DefAt K mg "is_whole" ["thing", "end"] s_is_whole f fd) (M : Bi mg)
    (C_is_natural : Cal P w K mg base L2.CX0 1 "is_natural" ["thing"] spNat) : Cal P w K mg base L2.CX0 2 "is_whole" ["thing", "end"] spWhole := by
  have S := S_is_whole
  refine cal_of D.fn D.mgf D.bs D.kbs S (fun vs H Q E h => ?_) (fun cdv A outer s H vs Q E hq hr h => ?_)
  · obtain ⟨d, c, o, v, e, rfl, _⟩ := h
    rfl
  · obtain ⟨d, c, o, v, e, rfl, ho, q⟩ := h
    refine ⟨_, (pss_one (ps_ret (pe_and (pe_c C_is_natural pass0 hq hr (by omega) (by rfl) (pa_cons (pv 0) pa_nil)) (pe_one (pe_cmpR op_lt (pv 0) (pv 1) (nomark _)))))), ?_⟩
    refine ⟨v, rfl, d, c, o, v, rfl, ho, _, rfl, ?_⟩
    cases o with
    | int i =>
      obtain rfl := ho.inv_int
      show if decide (0 ≤ i) = true then _ else _
      by_cases h : 0 ≤ i
      · rw [decide_eq_true h]
        refine iteT ⟨.int i, rfl, .int e, rfl, i, e, rfl, rfl, ?_⟩
        have e1 : decide (i < e) = wholeB e (.int i) := by
          show _ = decide (0 ≤ i ∧ i < e)
          by_cases h2 : i < e
          · rw [decide_eq_true h2, decide_eq_true ⟨h, h2⟩]
          · rw [decide_eq_false h2, decide_eq_false fun z => h2 z.2]
        show Q (V.bl (decide (i < e))) H
        rw [e1]
        exact q
      · have e1 : wholeB e (.int i) = false := decide_eq_false fun z => h z.1
        rw [e1] at q
        rw [decide_eq_false h]
        exact iteF q
    | bl b => exact iteF q
    | non => exact iteF q
    | str z => exact iteF q
    | tup z => exact iteF q
    | lst z => exact iteF q
    | emp => exact iteF q
    | dic z => exact iteF q
theorem ok_tupM {f : Addr} {fd : FuncData} (D : DefAt K mg "is_tuple" ["thing", "many"] s_is_tuple f fd) (M : Bi mg) : Cal P w K mg base L2.CX0 1 "is_tuple" ["thing", "many"] spTupM := by
  have S := S_is_tuple
  refine cal_of D.fn D.mgf D.bs D.kbs S (fun vs H Q E h => ?_) (fun cdv A outer s H vs Q E hq hr h => ?_)
  · obtain ⟨d, c, o, v, n, rfl, _⟩ := h
    rfl
  · obtain ⟨d, c, o, v, n, rfl, ho, q⟩ := h
    refine ⟨_, (pss_one (ps_ret (pe_and (pe_callB call_isi (by rfl) M.isinstance_ (by decide +kernel) (pa_cons (pv 0) (pa_cons (pe_bltn (v := .ty "tuple") (u := .type "tuple") (by rfl) M.tuple_ (by decide +kernel) rfl) pa_nil))) (pe_one (pe_cmpR op_eq (pe_callB call_len_seq (by rfl) M.len_ (by decide +kernel) (pa_cons (pv 0) pa_nil)) (pv 1) (nomark _)))))), ?_⟩
    refine ⟨v, rfl, _, _, _, _, _, rfl, .ty "tuple", ho.ty (K := K), kit_ot K o, isT o, rfl, ?_⟩
    cases o with
    | tup xs =>
      obtain ⟨a, us, rfl, ea, al⟩ := ho.inv_tup
      refine iteT ⟨.ref a, rfl, a, us, rfl, .inr (.inl (.inl ea)), .int n, rfl, rfl, ?_⟩
      have e1 : decide (V.int (us.length : Nat) = V.int n) = tupB n (.tup xs) := by
        show _ = decide ((xs.length : Int) = n)
        rw [al.1]
        by_cases h : (us.length : Int) = n
        · rw [decide_eq_true h, decide_eq_true (by rw [h])]
        · rw [decide_eq_false h, decide_eq_false fun z => h (V.int.inj z)]
      rw [e1]
      exact q
    | bl b => exact iteF q
    | non => exact iteF q
    | str z => exact iteF q
    | int z => exact iteF q
    | lst z => exact iteF q
    | emp => exact iteF q
    | dic z => exact iteF q
theorem ok_arr {f : Addr} {fd : FuncData} (D : DefAt K mg "are_arrivals" ["gates", "ways", "thing", "delays"] s_are_arrivals f fd) (M : Bi mg) (T : Tp K mg cF cD)
    (C_is_natural : Cal P w K mg base L2.CX0 1 "is_natural" ["thing"] spNat)
    (C_is_tuple : Cal P w K mg base L2.CX0 1 "is_tuple" ["thing", "many"] spTupM)
    (C_own_delay : Cal P w K mg base L2.CX0 1 "own_delay" ["gate", "delays"] (spOwn K))
    (C_brought : Cal P w K mg base L2.CX0 2 "brought" ["arrivals", "gates", "ways", "g", "step"] (spBro K)) :
    Cal P w K mg base L2.CX0 3 "are_arrivals" ["gates", "ways", "thing", "delays"] (spArr K) := by
  have S := S_are_arrivals
  refine cal_of D.fn D.mgf D.bs D.kbs S (fun vs H Q E h => ?_) (fun cdv A outer s H vs Q E hq hr h => ?_)
  · obtain ⟨dd, cc, vg, vw, va, a, gs, wl, d, o, rfl, _⟩ := h
    rfl
  · obtain ⟨dd, cc, vg, vw, va, a, gs, wl, d, o, rfl, hg, hw, ho, hd, ok, od, gl, q⟩ := h
    refine ⟨_, (pss_cons (ps_if (PW.pt (pw_or (pt_not (pt_val (pe_c C_is_tuple pass0 hq hr (by omega) (by rfl) (pa_cons (pv 2) (pa_cons (pe_callB call_len_seq (by rfl) M.len_ (by decide +kernel) (pa_cons (pv 0) pa_nil)) pa_nil))))) (pw_or1 (pt_not (pt_val (pe_callB (cr_all rfl) (by rfl) M.all_ (by decide +kernel) (pa_cons (pe_lc (own := [("arrival", 4)]) (g := gName 4) (tt := tYes) rfl S.nd (pi_tup (pv 2)) (blkOk_by (own := [("arrival", 4)]) (N := N_are_arrivals) (sc := defScope s_are_arrivals) (by decide +kernel)) (fun _ _ _ _ _ => pg_name (i := 4) S.nd rfl (.inl rfl)) (fun _ _ _ _ _ => pts_nil) (fun _ _ _ _ _ => (pe_c C_is_natural pass0 hq hr (by omega) (by rfl) (pa_cons (pv 4) pa_nil)))) pa_nil)))))))
  (pss_one (ps_ret pe_bl))
  pss_nil)
 (pss_cons (ps_for PassesOwn.never rfl (pi_enumT (by rfl) M.enumerate_ (pa_cons (pv 0) pa_nil)) (pg_tup (by rfl) (pgs_cons (pg_name (i := 5) S.nd rfl (.inr rfl)) (pgs_cons (pg_name (i := 6) S.nd rfl (.inl rfl)) pgs_nil)))
  (pss_one (ps_if (pt_cmpR op_in_seq (pe_ix ix_tup (pv 6) pe_int (fun _ _ => rfl)) (C8.pe_gc (by rfl) T.c_FED) rfl)
  (pss_cons (ps_set (i := 7) S.nd rfl (.inr rfl) (pe_c C_own_delay pass0 hq hr (by omega) (by rfl) (pa_cons (pv 6) (pa_cons (pv 3) pa_nil))))
 (pss_one (ps_if (pt_val (pe_callB (cr_any rfl) (by rfl) M.any_ (by decide +kernel) (pa_cons (pe_lc (own := [("time", 8), ("_", 9)]) (g := (gTup K 2 (gCons (gName 8) (gCons (gName 9) gNil)))) (tt := tYes) (te := (tOp (rI0 fun i j => V.bl (decide (i < j))) (tOp (rIxT K) (tVar 2) (tVar 5)) (tOp (rI0 fun i j => .int (i + j)) (tVar 8) (tVar 7)))) rfl S.nd (pi_list (pe_c C_brought pass0 hq hr (by omega) (by rfl) (pa_cons (pv 2) (pa_cons (pv 0) (pa_cons (pv 1) (pa_cons (pv 5) (pa_cons (pe_ix ix_tup (pv 3) pe_int (fun _ _ => rfl)) pa_nil))))))) (blkOk_by (own := [("time", 8), ("_", 9)]) (N := N_are_arrivals) (sc := defScope s_are_arrivals) (by decide +kernel)) (fun _ _ _ _ _ => (pg_tup (by rfl) (pgs_cons (pg_name (i := 8) S.nd rfl (.inl rfl)) (pgs_cons (pg_name (i := 9) S.nd rfl (.inl rfl)) pgs_nil)))) (fun _ _ _ _ _ => pts_nil) (fun _ _ _ _ _ => (pe_cmpR op_lt (pe_ix ix_tup (pv 2) (pv 5) (fun _ _ => rfl)) (pe_op op_add (pv 8) (pv 7)) (nomark _)))) pa_nil)))
  (pss_one (ps_ret pe_bl))
  pss_nil)))
  pss_nil)))
 (pss_one (ps_ret pe_bl)))), ?_⟩
    obtain ⟨G, gvs, rfl, hG, gal⟩ := hg.inv_tup
    have lg : gvs.length = gs.length := by rw [← gal.1, List.length_map]
    have big : 1000000 < sizeLine := by decide
    refine ⟨va, rfl, .ref G, rfl, G, gvs, rfl, .inr (.inl (.inl hG)), dd, cc, o, va, _, rfl, ho, _, rfl, ?_⟩
    cases ht : tupB (gvs.length : Int) o with
    | false =>
      refine iteT (q false H (Same.refl H) ⟨fun z => (by cases z), fun z => ?_⟩)
      obtain ⟨arr, rfl, ha⟩ := z
      have : tupB (gvs.length : Int) (intsO arr) = true := decide_eq_true (by rw [List.length_map, lg, ha.len])
      rw [ht] at this
      cases this
    | true =>
      refine iteF ?_
      obtain ⟨xs, rfl, hlx⟩ : ∃ xs, o = .tup xs ∧ (xs.length : Int) = (gvs.length : Int) := by
        cases o with
        | tup xs => exact ⟨xs, rfl, of_decide_eq_true ht⟩
        | _ => cases ht
      obtain ⟨A, us, rfl, eA, al⟩ := ho.inv_tup
      have lus : us.length = gs.length := by
        rw [← al.1, ← lg]
        exact Int.ofNat.inj hlx
      refine ⟨.ref A, rfl, A, rfl, ⟨_, .inl (.inl eA)⟩, fun Dl nD => ?_⟩
      refine lc_tup (K := K) (a := A) (xs := us) (fun i H' => Same H H' ∧ H' Dl = some (.lst (((xs.take i).map natB).map V.bl))) ?_ ?_ ?_ ?_
      · exact ⟨same_new nD, upd_same⟩
      · rintro i H' _ ⟨sm, _⟩
        exact .inl (.inl (sm _ _ eA))
      · rintro i v H' hv ⟨sm, eD⟩
        obtain ⟨x, hx⟩ : ∃ x, xs[i]? = some x := ⟨_, List.getElem?_eq_getElem (by rw [al.1]; exact (List.getElem?_eq_some_iff.mp hv).1)⟩
        have hi := (List.getElem?_eq_some_iff.mp hx).1
        refine ⟨rfl, ?_⟩
        unfold tYes
        refine iteT ⟨v, rfl, dd, cc, x, v, rfl, (al.2 i x v hx hv).same sm, _, eD, ?_, same_mut sm nD, ?_⟩
        · rw [List.length_map, List.length_map, List.length_take]
          have := al.1
          omega
        · rw [upd_same, take_bl _ hx]
      rintro H1 ⟨s1, eD⟩
      rw [← al.1, List.take_of_length_le (Nat.le_refl _)] at eD
      refine ⟨Dl, _, rfl, .inl (.inl eD), _, rfl, ?_⟩
      rw [List.all_map]
      cases hn : (xs.all (id ∘ natB)) with
      | false =>
        refine iteT (q false H1 s1 ⟨fun z => (by cases z), fun z => ?_⟩)
        obtain ⟨arr, e, ha⟩ := z
        unfold intsO at e
        cases e
        have h2 : ((arr.map Ob.int).all (id ∘ natB)) = true := by
          rw [List.all_map]
          exact List.all_eq_true.mpr fun x hx => decide_eq_true (ha.nat x hx)
        rw [hn] at h2
        cases h2
      | true =>
        obtain ⟨arr, rfl, hnat⟩ := nat_ints (xs := xs) hn
        obtain rfl := allo_ints al
        have hlen : arr.length = gs.length := by
          rw [← lus, List.length_map]
        have la : arr.length ≤ 1000000 := by omega
        refine iteF ?_
        have eA1 := s1 _ _ eA
        refine ⟨.ref G, rfl, G, gvs, rfl, .inl (.inl (s1 _ _ hG)), for_it (walk_enumT (K := K) (a := G) (xs := gvs)) (fun i σ H' => Same H H' ∧ (∀ (k : Nat) g ws, k < i → gs[k]? = some g → wl[k]? = some ws → g.fed = true → ∀ p ∈ bro arr g.feeds (lens ws) d.s, p.1 + g.own d ≤ arr.getD k 0) ∧
          ∃ x4 x5 x6 x7 x8 x9 : Option V, σ = [some (.ref G), some vw, some (.ref A), some (.ref a), x4, x5, x6, x7, x8, x9]) ?_ ?_ ?_ ?_⟩
        · exact ⟨s1, fun k g ws h => absurd h (Nat.not_lt_zero _), none, none, none, none, none, none, rfl⟩
        · rintro i σ H' _ ⟨sm, _⟩
          exact .inl (.inl (sm _ _ hG))
        · rintro i x σ H' H2 hi ⟨sm, hall, x4, x5, x6, x7, x8, x9, rfl⟩ ⟨TT, u, v, rfl, nT, rfl, e1, e2⟩
          cases e1
          rw [lg] at hi
          obtain ⟨gt, egt⟩ : ∃ gt, gs[i]? = some gt := ⟨gs[i], List.getElem?_eq_getElem hi⟩
          have tg := gal.2 i gt.td v (by rw [List.getElem?_map, egt]; rfl) e2
          refine ⟨TT, _, rfl, .inl (.inl upd_same), rfl, _, _, rfl, _, _, rfl, rfl, ?_⟩
          generalize eG1 : upd H' TT _ = G1
          have sT : Same H G1 := eG1 ▸ sm.trans (same_new nT)
          obtain ⟨gA, rfl, egA⟩ := gt_at (tg.same sT)
          refine ⟨.ref gA, rfl, gA, _, _, _, rfl, rfl, .inl (.inl egA), atI_nat (j := 0) gt.vs0, cF, _, rfl, .inr (T.d_FED _), rfl, rfl, _, rfl, ?_⟩
          dsimp only
          refine ite_in (fed_in (ok.gate i gt egt)) ?_
          obtain ⟨ws, ew, lw, hws⟩ := ok.at egt
          cases hfd : gt.fed with
          | false =>
            refine iteF ⟨sT, fun k g ws' hk h1 h2 h3 => ?_, _, _, _, _, _, _, rfl⟩
            by_cases hki : k = i
            · subst hki
              rw [egt] at h1
              cases h1
              rw [hfd] at h3
              cases h3
            · exact hall k g ws' (by omega) h1 h2 h3
          | true =>
            refine iteT ?_
            refine ⟨.ref gA, rfl, .ref a, rfl, .ref gA, a, gt, gs.length, i, d, rfl, tg.same sT, sqt_same hd sT, ok.gate i gt egt, hfd, ?_⟩
            have hfl : ∀ f ∈ gt.feeds, f < arr.length := fun f hf => by
              rw [hlen]
              exact feeds_lt (ok.gate i gt egt) hi f hf
            refine ⟨.ref A, rfl, .ref G, rfl, vw, rfl, .int (i : Int), rfl, .ref a, rfl, a, _, _, _, rfl, rfl, sqt_same hd sT, atI_nat (j := 0) rfl, _, _, _, arr, gs, wl, i, gt, ws, d.s, rfl, .tup (.inl (.inl (sT _ _ eA))), hg.same sT, hw.same sT, ok, egt, ew, hfl, od.1, od.2, ?_⟩
            intro p rs G2 s3 np ep lrs hrs
            have lb : (bro arr gt.feeds (lens ws) d.s).length ≤ 2 := by
              unfold bro
              rw [List.length_zipWith]
              exact Nat.le_trans (Nat.min_le_left _ _) gt.feeds_le
            generalize eB : bro arr gt.feeds (lens ws) d.s = bs at *
            refine ⟨p, rfl, ⟨_, .inl (.inl ep)⟩, fun D2 nD2 => ?_⟩
            refine lc_list (K := K) (a := p) (xs := rs.map V.ref) (fun j H' => Same G2 H' ∧ H' D2 = some (.lst (((bs.take j).map fun pr => decide (arr.getD i 0 < pr.1 + gt.own d)).map V.bl))) ?_ ?_ ?_ ?_
            · exact ⟨same_new nD2, upd_same⟩
            · rintro j H' _ ⟨sm2, _⟩
              exact .inl (.inl (sm2 _ _ ep))
            · rintro j v H' hv ⟨sm2, eD2⟩
              rw [List.getElem?_map] at hv
              cases hr2 : rs[j]? with
              | none =>
                rw [hr2] at hv
                cases hv
              | some r =>
                rw [hr2] at hv
                cases hv
                have hj : j < bs.length := by
                  rw [← lrs]
                  exact (List.getElem?_eq_some_iff.mp hr2).1
                obtain ⟨pr, hpr⟩ : ∃ pr, bs[j]? = some pr := ⟨bs[j], List.getElem?_eq_getElem hj⟩
                have er := sm2 _ _ (hrs j r pr hr2 hpr)
                refine ⟨r, _, rfl, .inl (.inl er), rfl, _, _, rfl, _, _, rfl, rfl, rfl, ?_⟩
                unfold tYes
                refine iteT ⟨.ref A, rfl, .int (i : Int), rfl, A, _, _, _, rfl, rfl, .inl (.inl (sm2 _ _ (s3 _ _ (sT _ _ eA)))), atI_nat (arr_at (by rw [hlen]; exact hi)), .int pr.1, rfl, .int (gt.own d), rfl, _, _, rfl, rfl, _, _, rfl, rfl, _, eD2, ?_, same_mut sm2 nD2, ?_⟩
                · rw [List.length_map, List.length_map, List.length_take]
                  omega
                · rw [upd_same, take_bl _ hpr]
            rintro H3 ⟨s4, eD3⟩
            rw [List.length_map, lrs, List.take_of_length_le (Nat.le_refl _)] at eD3
            refine ⟨D2, _, rfl, .inl (.inl eD3), _, rfl, ?_⟩
            rw [List.any_map]
            have sAll := (sT.trans s3).trans s4
            cases han : (bs.any (id ∘ fun pr => decide (arr.getD i 0 < pr.1 + gt.own d))) with
            | true =>
              refine iteT (q false H3 sAll ⟨fun z => (by cases z), fun z => ?_⟩)
              obtain ⟨arr', ee, z⟩ := z
              cases ints_inj ee
              obtain ⟨pr, hm, hlt⟩ := List.any_eq_true.mp han
              have h1 := z.feeds i gt ws egt ew hfd pr (by rw [eB]; exact hm)
              have h2 := of_decide_eq_true hlt
              omega
            | false =>
              refine iteF ⟨sAll, fun k g ws' hk h1 h2 h3 => ?_, _, _, _, _, _, _, rfl⟩
              by_cases hki : k = i
              · subst hki
                rw [egt] at h1
                cases h1
                rw [ew] at h2
                cases h2
                rw [eB]
                intro pr hm
                have h5 := List.any_eq_false.mp han pr hm
                have h6 : ¬ arr.getD k 0 < pr.1 + gt.own d := fun y => h5 (decide_eq_true y)
                omega
              · exact hall k g ws' (by omega) h1 h2 h3
        · rintro σ H' ⟨sm, hall, x4, x5, x6, x7, x8, x9, rfl⟩
          refine q true H' sm ⟨fun _ => ⟨arr, rfl, hlen, hnat, fun k g ws h1 h2 h3 => ?_⟩, fun _ => rfl⟩
          exact hall k g ws (by rw [lg]; exact (List.getElem?_eq_some_iff.mp h1).1) h1 h2 h3
end
end K80

namespace K80
open PySem PySem.Spec PyProof.Rows L2 Kit X15
/-! ### paths -/
structure PthN (gs : List Gt) (c : Str) (l : List Nat) : Prop where
  two : 2 ≤ l.length
  lt : ∀ k ∈ l, k < gs.length
  src : ∃ g, gs[l.getD 0 0]? = some g ∧ g.fed = false
  snk : ∃ bit dd, gs[l.getD (l.length - 1) 0]? = some (.box c bit dd)
  mid : ∀ i, 0 < i → i + 1 < l.length → ∃ g, gs[l.getD i 0]? = some g ∧ g.fed = true
  con : ∀ i, i + 1 < l.length → ∃ g, gs[l.getD (i + 1) 0]? = some g ∧ l.getD i 0 ∈ g.feeds
def natsO (l : List Nat) : Ob := intsO (l.map fun (k : Nat) => (k : Int))
def PathO (gs : List Gt) (c : Str) (o : Ob) : Prop := ∃ l : List Nat, o = natsO l ∧ PthN gs c l
def Few (o : Ob) : Prop := ∀ xs, o = .tup xs → xs.length ≤ 1000000
def spIsP : Sp := fun vs H Q _ => ∃ (dd cc : Addr) (vg v : V) (c : Str) (gs : List Gt) (o : Ob),
  vs = [vg, .str c, v] ∧ TdR H (gatesT gs) vg ∧ ObR dd cc H o v ∧ (∀ (i : Nat) (g : Gt), gs[i]? = some g → g.ok gs.length i) ∧ gs.length ≤ 1000 ∧ Few o ∧ okZ c ∧ (∀ g ∈ gs, g.sm) ∧
  ∀ (b : Bool) (H' : Hp), Same H H' → (b = true ↔ PathO gs c o) → Q (.bl b) H'
theorem walk_zipT2 {K : PySem.W.Frag} {a b : Addr} {xs ys : List V} {n : Nat} (h1 : n ≤ xs.length) (h2 : n = ys.length) : Walk (RZ.ItzT K a b) n (fun H => SqT K H a xs ∧ SqT K H b ys) (YPair (fun i => xs[i]?) (fun i => ys[i]?)) where
  goes := fun i H hi h => ⟨xs, ys, xs[i]'(by omega), ys[i]'(by omega), h.1, h.2, List.getElem?_eq_getElem _, List.getElem?_eq_getElem _⟩
  stops := fun H h => ⟨xs, ys, h.1, h.2, .inr (by omega)⟩
  yields := fun i H x H' hi h y => by
    obtain ⟨T, u, v, rfl, nT, e, hu, hv⟩ := y
    exact ⟨T, u, v, rfl, nT, e, hu xs h.1, hv ys h.2⟩
theorem nat_of {n : Nat} : ∀ {xs : List Ob}, xs.all (wholeB (n : Int)) = true → ∃ l : List Nat, xs = (l.map (fun (k : Nat) => (k : Int))).map Ob.int ∧ ∀ k ∈ l, k < n
  | [], _ => ⟨[], rfl, fun k h => by cases h⟩
  | o :: xs, h => by
    rw [List.all_cons, Bool.and_eq_true] at h
    obtain ⟨l, e, hl⟩ := nat_of h.2
    cases o with
    | int x =>
      obtain ⟨h0, h1⟩ := of_decide_eq_true h.1
      refine ⟨x.toNat :: l, ?_, fun k hk => ?_⟩
      · rw [List.map_cons, List.map_cons, ← e, Int.toNat_of_nonneg h0]
      · rcases List.mem_cons.mp hk with rfl | hk
        · omega
        · exact hl k hk
    | _ => cases h.1
theorem natsO_inj {a b : List Nat} (h : natsO a = natsO b) : a = b := (List.map_inj_right (fun a b z => Int.ofNat.inj z)).mp (ints_inj h)
theorem map_ints (l : List Nat) : ((l.map (fun (k : Nat) => (k : Int))).map V.int) = nats l := by
  unfold nats
  rw [List.map_map]
  rfl
def fedB (gs : List Gt) (k : Nat) : Bool := match gs[k]? with
  | some g => g.fed
  | none => false
def boxB (gs : List Gt) (c : Str) (k : Nat) : Bool := match gs[k]? with
  | some g => g.isBox c
  | none => false
def feedB (gs : List Gt) (f k : Nat) : Bool := match gs[k]? with
  | some g => decide (f ∈ g.feeds)
  | none => false
theorem inV_natsD (f : Nat) : ∀ l : List Nat, inV (.int (f : Int)) (nats l) = decide (f ∈ l)
  | [] => by rfl
  | k :: l => by
    have ih := inV_natsD f l
    unfold inV nats at ih ⊢
    rw [List.map_cons, List.any_cons, ih]
    have e : eqV (.int (k : Int)) (.int (f : Int)) = decide (k = f) := by
      show ((k : Int) == (f : Int)) = _
      by_cases h : k = f
      · subst h
        simp
      · rw [decide_eq_false h]
        exact beq_eq_false_iff_ne.mpr (by omega)
    rw [e]
    by_cases h : k = f
    · subst h
      rw [decide_eq_true rfl, decide_eq_true List.mem_cons_self, Bool.true_or]
    · rw [decide_eq_false h, Bool.false_or]
      by_cases h2 : f ∈ l
      · rw [decide_eq_true h2, decide_eq_true (List.mem_cons_of_mem _ h2)]
      · rw [decide_eq_false h2, decide_eq_false]
        intro z
        rcases List.mem_cons.mp z with z | z
        · exact h z.symm
        · exact h2 z
theorem nats_flat : ∀ l : List Nat, (nats l).all flatV = true
  | [] => rfl
  | k :: l => by
    have ih := nats_flat l
    unfold nats at ih ⊢
    rw [List.map_cons, List.all_cons, ih]
    rfl
theorem nats_len (l : List Nat) : (nats l).length = l.length := List.length_map _
theorem nats_getD {l : List Nat} {i : Nat} (h : i < l.length) : (nats l)[i]? = some (.int ((l.getD i 0 : Nat) : Int)) := by
  refine nats_at ?_
  rw [List.getD_eq_getElem?_getD, List.getElem?_eq_getElem h]
  rfl
theorem last_nats {l : List Nat} (h : 1 ≤ l.length) : atI (nats l) (-1) = some (.int ((l.getD (l.length - 1) 0 : Nat) : Int)) := by
  unfold atI
  have e : ixN (nats l).length (-1) = some (l.length - 1) := by
    rw [nats_len]
    unfold ixN
    split
    · omega
    · split
      · congr 1
        omega
      · omega
  rw [e]
  exact nats_getD (by omega)
/-- the first two of a gate beside a box of a clock -/
theorem okZ_pd {z : Str} (h : okZ z) : (PyData.str z).canLay0 = true := by
  rw [PyData.canLay0, PyData.strOk, ← Array.all_toList, List.all_eq_true]
  exact fun c hc => decide_eq_true (Nat.lt_trans (h.2 c hc).1 (by decide))
theorem pd2_shaped {a b : Td} (h1 : (pd a).canLay0 = true) (h2 : (pd b).canLay0 = true) (h3 : (pd a).depth = 0) (h4 : (pd b).depth = 0) : SeqAt.shaped (pd (.tup [a, b])) = true := by
  rw [SeqAt.shaped, Bool.and_eq_true, decide_eq_true_eq]
  constructor
  · rw [pd, pdL, pdL, pdL, PyData.canLay0, PyData.canLayAll0, PyData.canLayAll0, PyData.canLayAll0, h1, h2]
    rfl
  · rw [pd, pdL, pdL, pdL, PyData.depth, PyData.depthAll, PyData.depthAll, PyData.depthAll, h3, h4]
    decide
theorem str_dp (z : Str) : (pd (.str z)).depth = 0 := by rw [pd, PyData.depth]
theorem int_dp (i : Int) : (pd (.int i)).depth = 0 := by rw [pd, PyData.depth]
theorem str_cl {z : Str} (h : okZ z) : (pd (.str z)).canLay0 = true := by rw [pd]; exact okZ_pd h
theorem int_cl (i : Int) : (pd (.int i)).canLay0 = true := by rw [pd, PyData.canLay0]
def Gt.one : Gt → Td
  | .inp x _ => .str x
  | .iz b => .int b
  | .box c _ _ => .str c
  | .nt a => .int a
  | .two _ a _ => .int a
theorem Gt.one_v (g : Gt) : ∃ v, g.vs[1]? = some v ∧ ∀ H, TdR H g.one v := by
  cases g with
  | inp x k => exact ⟨_, rfl, fun H => .str _⟩
  | iz b => exact ⟨_, rfl, fun H => .int _⟩
  | box c b d => exact ⟨_, rfl, fun H => .str _⟩
  | nt a => exact ⟨_, rfl, fun H => .int _⟩
  | two w a c => exact ⟨_, rfl, fun H => .int _⟩
theorem Gt.cut2 (g : Gt) : ∃ v, cutV g.vs none (some 2) = [.str g.kind, v] ∧ (∀ H, TdR H g.one v) ∧ (X9.whole g.vs.length none (some 2) → g.vs = [.str g.kind, v]) := by
  cases g with
  | inp x k => exact ⟨_, rfl, fun H => .str _, fun h => absurd h.2 (by show ¬ HT.sIx 3 3 (some 2) = 3; decide)⟩
  | iz b => exact ⟨_, rfl, fun H => .int _, fun _ => rfl⟩
  | box c b d => exact ⟨_, rfl, fun H => .str _, fun h => absurd h.2 (by show ¬ HT.sIx 4 4 (some 2) = 4; decide)⟩
  | nt a => exact ⟨_, rfl, fun H => .int _, fun _ => rfl⟩
  | two w a c => exact ⟨_, rfl, fun H => .int _, fun h => absurd h.2 (by show ¬ HT.sIx 3 3 (some 2) = 3; decide)⟩
theorem Gt.one_cl {g : Gt} (h : g.sm) : (pd g.one).canLay0 = true ∧ (pd g.one).depth = 0 := by
  cases g with
  | inp x k => exact ⟨str_cl h.1, str_dp _⟩
  | iz b => exact ⟨int_cl _, int_dp _⟩
  | box c b d => exact ⟨str_cl h.1, str_dp _⟩
  | nt a => exact ⟨int_cl _, int_dp _⟩
  | two w a c => exact ⟨int_cl _, int_dp _⟩
theorem Gt.kind_okZ {g : Gt} {n i : Nat} (h : g.ok n i) : okZ g.kind := by
  cases g with
  | inp x k => exact okZ_in
  | iz b => exact okZ_is
  | box c b d => exact okZ_box
  | nt a => exact okZ_not
  | two w a c =>
    obtain ⟨rfl | rfl | rfl, _⟩ := h
    · exact (okZ_dec (by decide +kernel) : okZ (Str.ofString "and"))
    · exact (okZ_dec (by decide +kernel) : okZ (Str.ofString "or"))
    · exact (okZ_dec (by decide +kernel) : okZ (Str.ofString "xor"))
theorem box_eqv {g : Gt} {n i : Nat} (h : g.ok n i) (c : Str) : PyData.eqv (pd (.tup [.str g.kind, g.one])) (pd (.tup [.str "box", .str c])) = g.isBox c := by
  have e1 : pd (.tup [.str g.kind, g.one]) = .tuple [.str g.kind, pd g.one] := by rw [pd, pdL, pdL, pdL, pd]
  have e2 : pd (.tup [.str "box", .str c]) = .tuple [.str "box", .str c] := by rw [pd, pdL, pdL, pdL, pd, pd]
  rw [e1, e2, PyData.eqv, PyData.eqvAll, PyData.eqvAll, PyData.eqvAll, PyData.eqv, Bool.and_true]
  have ks : ∀ z : Str, z ≠ "box" → (z == Str.ofString "box") = false := fun z hz => beq_eq_false_iff_ne.mpr hz
  cases g with
  | inp x k =>
    rw [show (Gt.inp x k).kind = "in" from rfl, ks _ (by decide +kernel), Bool.false_and]
    rfl
  | iz b =>
    rw [show (Gt.iz b).kind = "is" from rfl, ks _ (by decide +kernel), Bool.false_and]
    rfl
  | box c' b d =>
    rw [show (Gt.box c' b d).kind = "box" from rfl, show (Gt.box c' b d).one = .str c' from rfl, pd, PyData.eqv]
    show (Str.ofString "box" == Str.ofString "box" && c' == c) = decide (c' = c)
    rw [beq_self_eq_true, Bool.true_and]
    by_cases hc : c' = c
    · subst hc
      rw [beq_self_eq_true, decide_eq_true rfl]
    · rw [decide_eq_false hc]
      exact beq_eq_false_iff_ne.mpr hc
  | nt a =>
    rw [show (Gt.nt a).kind = "not" from rfl, ks _ (by decide +kernel), Bool.false_and]
    rfl
  | two w a d =>
    obtain ⟨hw, _, _⟩ := h
    have hb : (w == Str.ofString "box") = false := ks _ (by
      rcases hw with rfl | rfl | rfl
      · decide +kernel
      · decide +kernel
      · decide +kernel)
    rw [show (Gt.two w a d).kind = w from rfl, hb, Bool.false_and]
    rfl
/-- gate[:2] beside ("box", clock) -/
theorem cut_eq {K : PySem.W.Frag} {H : Hp} {gA : Addr} {g : Gt} {n i : Nat} {c : Str} {lo : Option Int} {F : V → Hp → Prop} (e : H gA = some (.tup g.vs)) (ok : g.ok n i) (sm : g.sm) (hc : okZ c) (elo : lo = none)
    (hF : ∀ (v : V) (H1 : Hp), Same H H1 → (∃ B, v = .ref B ∧ H1 B = some (.tup [.str g.kind, (g.vs[1]?).getD .non])) → F v H1) : X9.rSlTA K (.ref gA) lo (some 2) H F := by
  subst elo
  obtain ⟨v, h1, h2, h3⟩ := g.cut2
  have hv : (g.vs[1]?).getD .non = v := by
    have : cutV g.vs none (some 2) = [.str g.kind, v] := h1
    cases g <;> (have h4 := List.cons.inj h1; have h5 := List.cons.inj h4.2; exact h5.1)
  refine ⟨gA, g.vs, rfl, .inl (.inl e), fun w => ?_, fun _ p np => ?_⟩
  · refine hF _ H (Same.refl H) ⟨gA, rfl, ?_⟩
    rw [e, h3 w, ← h3 w, hv]
    rw [← h3 w]
  · refine hF _ _ (same_new np) ⟨p, rfl, ?_⟩
    rw [upd_same, h1, hv]
end K80

namespace K80
open PySem PySem.Spec PyProof.Rows L2 Kit X15
theorem box_dp {K : PySem.W.Frag} {H : Hp} {B : Addr} {g : Gt} (e : H B = some (.tup [.str g.kind, (g.vs[1]?).getD .non])) : Dp K H (.ref B) (pd (.tup [.str g.kind, g.one])) := by
  obtain ⟨v, h1, h2⟩ := g.one_v
  rw [h1] at e
  exact dp_of (.mk e (.cons (.str _) (.cons (h2 H) .nil)))
theorem clk_dp {K : PySem.W.Frag} {H : Hp} {p : Addr} {c : Str} (e : H p = some (.tup [.str "box", .str c])) : Dp K H (.ref p) (pd (.tup [.str "box", .str c])) := dp_of (.mk e (.cons (.str _) (.cons (.str _) .nil)))
theorem box_sh {g : Gt} {n i : Nat} (ok : g.ok n i) (sm : g.sm) : SeqAt.shaped (pd (.tup [.str g.kind, g.one])) = true := pd2_shaped (str_cl (Gt.kind_okZ ok)) (Gt.one_cl sm).1 (str_dp _) (Gt.one_cl sm).2
theorem clk_sh {c : Str} (h : okZ c) : SeqAt.shaped (pd (.tup [.str "box", .str c])) = true := pd2_shaped (str_cl okZ_box) (str_cl h) (str_dp _) (str_dp _)
theorem isBox_iff {g : Gt} {c : Str} : g.isBox c = true ↔ ∃ bit dd, g = .box c bit dd := by
  cases g with
  | box c' b d =>
    constructor
    · intro h
      have : c' = c := of_decide_eq_true h
      exact ⟨b, d, by rw [this]⟩
    · rintro ⟨b', d', e⟩
      cases e
      exact decide_eq_true rfl
  | _ => exact ⟨fun h => (by cases h), fun ⟨_, _, e⟩ => (by cases e)⟩
theorem cut_mid {l : List Nat} (h : 2 ≤ l.length) : cutV (nats l) (some 1) (some (-1)) = nats ((l.drop 1).take (l.length - 2)) := by
  unfold cutV
  have e1 : HT.sIx (nats l).length 0 (some 1) = 1 := by
    rw [show (some (1 : Int)) = some ((1 : Nat) : Int) from rfl, HT.sIx_nat, nats_len]
    omega
  have e2 : HT.sIx (nats l).length (nats l).length (some (-1)) = l.length - 1 := by
    rw [nats_len]
    show (if (-1 : Int) < 0 then ((-1 : Int) + (l.length : Int)).toNat else min (-1 : Int).toNat l.length) = _
    rw [if_pos (by decide)]
    omega
  rw [e1, e2]
  unfold nats
  rw [List.map_take, List.map_drop]
  rfl
theorem cut_one {l : List Nat} (h : 1 ≤ l.length) : cutV (nats l) (some 1) none = nats (l.drop 1) := by
  unfold cutV
  have e1 : HT.sIx (nats l).length 0 (some 1) = 1 := by
    rw [show (some (1 : Int)) = some ((1 : Nat) : Int) from rfl, HT.sIx_nat, nats_len]
    omega
  have e2 : HT.sIx (nats l).length (nats l).length none = l.length := by rw [nats_len]; rfl
  rw [e1, e2]
  unfold nats
  rw [List.map_drop]
  exact List.take_of_length_le (by rw [List.length_drop, List.length_map]; omega)
theorem mid_get {l : List Nat} {i : Nat} (h2 : 2 ≤ l.length) (h : i < ((l.drop 1).take (l.length - 2)).length) : ((l.drop 1).take (l.length - 2))[i]? = some (l.getD (i + 1) 0) := by
  rw [List.length_take, List.length_drop] at h
  rw [List.getElem?_take_of_lt (by omega), List.getElem?_drop, List.getD_eq_getElem?_getD, Nat.add_comm 1 i, List.getElem?_eq_getElem (by omega)]
  rfl
section
variable {P : Program} {w : World} {K : PySem.W.Frag} {mg : Str → Option Value} {base : Heap} {cF cD : Addr}
theorem ok_isp {f : Addr} {fd : FuncData} (D : DefAt K mg "is_path" ["gates", "clock", "thing"] s_is_path f fd) (M : Bi mg) (T : Tp K mg cF cD)
    (C_is_whole : Cal P w K mg base L2.CX0 2 "is_whole" ["thing", "end"] spWhole)
    (C_feeds_of : Cal P w K mg base L2.CX0 1 "feeds_of" ["gate"] spFeeds) :
    Cal P w K mg base L2.CX0 3 "is_path" ["gates", "clock", "thing"] spIsP := by
  have S := S_is_path
  refine cal_of D.fn D.mgf D.bs D.kbs S (fun vs H Q E h => ?_) (fun cdv A outer s H vs Q E hq hr h => ?_)
  · obtain ⟨dd, cc, vg, v, c, gs, o, rfl, _⟩ := h
    rfl
  · obtain ⟨dd, cc, vg, v, c, gs, o, rfl, hg, ho, gok, gl, fo, hc, gsm, q⟩ := h
    refine ⟨_, (pss_cons (ps_if (PW.pt (pw_or (pt_not (pt_val (pe_callB call_isi (by rfl) M.isinstance_ (by decide +kernel) (pa_cons (pv 2) (pa_cons (pe_bltn (v := .ty "tuple") (u := .type "tuple") (by rfl) M.tuple_ (by decide +kernel) rfl) pa_nil))))) (pw_or1 (pt_cmpR op_lt (pe_callB call_len_seq (by rfl) M.len_ (by decide +kernel) (pa_cons (pv 2) pa_nil)) pe_int (nomark _)))))
  (pss_one (ps_ret pe_bl))
  pss_nil)
 (pss_cons (ps_if (pt_not (pt_val (pe_callB (cr_all rfl) (by rfl) M.all_ (by decide +kernel) (pa_cons (pe_lc (own := [("g", 3)]) (g := gName 3) (tt := tYes) (te := (tCall spWhole [] E0 (tCons (tVar 3) (tCons (tCB (rLen1 K) (tCons (tVar 0) tNil)) tNil)))) rfl S.nd (pi_tup (pv 2)) (blkOk_by (own := [("g", 3)]) (N := N_is_path) (sc := defScope s_is_path) (by decide +kernel)) (fun _ _ _ _ _ => pg_name (i := 3) S.nd rfl (.inl rfl)) (fun _ _ _ _ _ => pts_nil) (fun _ _ _ _ _ => (pe_c C_is_whole pass0 hq hr (by omega) (by rfl) (pa_cons (pv 3) (pa_cons (pe_callB call_len_seq (by rfl) M.len_ (by decide +kernel) (pa_cons (pv 0) pa_nil)) pa_nil))))) pa_nil))))
  (pss_one (ps_ret pe_bl))
  pss_nil)
 (pss_cons (ps_if (PW.pt (pw_or (pt_cmpR op_in_seq (pe_ix ix_tup (pe_ix ix_tup (pv 0) (pe_ix ix_tup (pv 2) pe_int (fun _ _ => rfl)) (fun _ _ => rfl)) pe_int (fun _ _ => rfl)) (C8.pe_gc (by rfl) T.c_FED) rfl) (pw_or1 (pt_cmpR (op_neD hr.units) (pe_slice X9.sl_tupA (pe_ix ix_tup (pv 0) (pe_ix ix_tup (pv 2) (pe_un un_neg pe_int) (fun _ _ => rfl)) (fun _ _ => rfl)) po_none (po_some pe_int)) (pe_tup (pa_cons pe_str (pa_cons (pv 1) pa_nil))) (nomark _)))))
  (pss_one (ps_ret pe_bl))
  pss_nil)
 (pss_cons (ps_if (pt_not (pt_val (pe_callB (cr_all rfl) (by rfl) M.all_ (by decide +kernel) (pa_cons (pe_lc (own := [("g", 3)]) (g := gName 3) (tt := tYes) (te := (tOp (rIn K false) (tOp (rIxT K) (tOp (rIxT K) (tVar 0) (tVar 3)) (tC (.int 0))) (tC (.ref cF)))) rfl S.nd (pi_tup (pe_slice sl_tup (pv 2) (po_some pe_int) (po_some (pe_un un_neg pe_int)))) (blkOk_by (own := [("g", 3)]) (N := N_is_path) (sc := defScope s_is_path) (by decide +kernel)) (fun _ _ _ _ _ => pg_name (i := 3) S.nd rfl (.inl rfl)) (fun _ _ _ _ _ => pts_nil) (fun _ _ _ _ _ => (pe_cmpR op_in_seq (pe_ix ix_tup (pe_ix ix_tup (pv 0) (pv 3) (fun _ _ => rfl)) pe_int (fun _ _ => rfl)) (C8.pe_gc (by rfl) T.c_FED) rfl))) pa_nil))))
  (pss_one (ps_ret pe_bl))
  pss_nil)
 (pss_one (ps_ret (pe_callB (cr_all rfl) (by rfl) M.all_ (by decide +kernel) (pa_cons (pe_lc (own := [("feed", 4), ("g", 3)]) (g := (gTup K 2 (gCons (gName 4) (gCons (gName 3) gNil)))) (tt := tYes) (te := (tOp (rIn K false) (tVar 4) (tCall spFeeds [] E0 (tCons (tOp (rIxT K) (tVar 0) (tVar 3)) tNil)))) rfl S.nd (RZ.pi_zipA (by rfl) M.zip_ (pa_cons (pv 2) (pa_cons (pe_slice sl_tup (pv 2) (po_some pe_int) po_none) pa_nil))) (blkOk_by (own := [("feed", 4), ("g", 3)]) (N := N_is_path) (sc := defScope s_is_path) (by decide +kernel)) (fun _ _ _ _ _ => (pg_tup (by rfl) (pgs_cons (pg_name (i := 4) S.nd rfl (.inl rfl)) (pgs_cons (pg_name (i := 3) S.nd rfl (.inl rfl)) pgs_nil)))) (fun _ _ _ _ _ => pts_nil) (fun _ _ _ _ _ => (pe_cmpR op_in_seq (pv 4) (pe_c C_feeds_of pass0 hq hr (by omega) (by rfl) (pa_cons (pe_ix ix_tup (pv 0) (pv 3) (fun _ _ => rfl)) pa_nil)) rfl))) pa_nil)))))))), ?_⟩
    obtain ⟨G, gvs, rfl, hG, gal⟩ := hg.inv_tup
    have lg : gvs.length = gs.length := by rw [← gal.1, List.length_map]
    have big : 1000000 < sizeLine := by decide
    have gat : ∀ {k : Nat} {H' : Hp}, k < gs.length → Same H H' → ∃ g gA, gs[k]? = some g ∧ gvs[k]? = some (.ref gA) ∧ H' gA = some (.tup g.vs) ∧ TdR H' g.td (.ref gA) := by
      intro k H' hk sm
      obtain ⟨g, eg⟩ : ∃ g, gs[k]? = some g := ⟨gs[k], List.getElem?_eq_getElem hk⟩
      obtain ⟨v, ev, tv⟩ := all2_get gal (i := k) (t := g.td) (by rw [List.getElem?_map, eg]; rfl)
      obtain ⟨gA, rfl, e⟩ := gt_at (tv.same sm)
      exact ⟨g, gA, eg, ev, e, tv.same sm⟩
    have tyo := ho.ty (K := K)
    refine ⟨v, rfl, _, _, _, _, _, rfl, .ty "tuple", tyo, kit_ot K o, isT o, rfl, ?_⟩
    cases hT : isT o with
    | false =>
      refine iteT (iteT (q false H (Same.refl H) ⟨fun z => (by cases z), fun z => ?_⟩))
      obtain ⟨l, rfl, _⟩ := z
      cases hT
    | true =>
    obtain ⟨xs, rfl⟩ : ∃ xs, o = .tup xs := by
      cases o with
      | tup xs => exact ⟨xs, rfl⟩
      | _ => cases hT
    have lp := fo xs rfl
    obtain ⟨A, us, rfl, eA, al⟩ := ho.inv_tup
    refine iteF ⟨.ref A, rfl, A, _, rfl, .inr (.inl (.inl eA)), _, 2, rfl, rfl, _, rfl, ?_⟩
    rw [← al.1]
    by_cases h2 : 2 ≤ xs.length
    · rw [decide_eq_false (show ¬ (xs.length : Int) < 2 by omega)]
      refine iteF ?_
      refine ⟨.ref A, rfl, A, rfl, ⟨_, .inl (.inl eA)⟩, fun Dl nD => ?_⟩
      refine lc_tup (K := K) (a := A) (xs := us) (fun i H' => Same H H' ∧ H' Dl = some (.lst (((xs.take i).map (wholeB (gvs.length : Int))).map V.bl))) ?_ ?_ ?_ ?_
      · exact ⟨same_new nD, upd_same⟩
      · rintro i H' _ ⟨sm, _⟩
        exact .inl (.inl (sm _ _ eA))
      · rintro i v H' hv ⟨sm, eD⟩
        obtain ⟨x, hx⟩ : ∃ x, xs[i]? = some x := ⟨_, List.getElem?_eq_getElem (by rw [al.1]; exact (List.getElem?_eq_some_iff.mp hv).1)⟩
        have hi := (List.getElem?_eq_some_iff.mp hx).1
        refine ⟨rfl, ?_⟩
        unfold tYes
        refine iteT ⟨v, rfl, .ref G, rfl, G, gvs, rfl, .inr (.inl (.inl (sm _ _ hG))), dd, cc, x, v, _, rfl, (al.2 i x v hx hv).same sm, _, eD, ?_, same_mut sm nD, ?_⟩
        · rw [List.length_map, List.length_map, List.length_take]
          omega
        · rw [upd_same, take_bl _ hx]
      rintro H1 ⟨s1, eD⟩
      rw [← al.1, List.take_of_length_le (Nat.le_refl _)] at eD
      refine ⟨Dl, _, rfl, .inl (.inl eD), _, rfl, ?_⟩
      rw [List.all_map]
      cases hn : (xs.all (id ∘ wholeB (gvs.length : Int))) with
      | false =>
        refine iteT (q false H1 s1 ⟨fun z => (by cases z), fun z => ?_⟩)
        obtain ⟨l, e, hl⟩ := z
        unfold natsO intsO at e
        cases e
        have h3 : (((l.map (fun (k : Nat) => (k : Int))).map Ob.int).all (id ∘ wholeB (gvs.length : Int))) = true := List.all_eq_true.mpr fun x hx => by
          obtain ⟨y, hy, rfl⟩ := List.mem_map.mp hx
          obtain ⟨k, hk, rfl⟩ := List.mem_map.mp hy
          have := hl.lt k hk
          exact decide_eq_true ⟨by omega, by omega⟩
        rw [hn] at h3
        cases h3
      | true =>
        refine iteF ?_
        rw [lg] at hn
        obtain ⟨l, rfl, hlt⟩ := nat_of (n := gs.length) (xs := xs) hn
        obtain rfl := allo_ints al
        rw [map_ints] at eA
        have no : ∀ H', Same H H' → ¬ PthN gs c l → Q (.bl false) H' := fun H' sm hn => q false H' sm ⟨fun z => (by cases z), fun ⟨l', e, hl'⟩ => absurd (natsO_inj e ▸ hl') hn⟩
        have yes : ∀ H', Same H H' → PthN gs c l → Q (.bl true) H' := fun H' sm hn => q true H' sm ⟨fun _ => ⟨l, rfl, hn⟩, fun _ => rfl⟩
        rw [List.length_map, List.length_map] at h2 lp
        have hget : ∀ i, i < l.length → l.getD i 0 < gs.length := fun i hi => hlt _ (by
          rw [List.getD_eq_getElem?_getD, List.getElem?_eq_getElem hi]
          exact List.getElem_mem hi)
        obtain ⟨g0, a0, eg0, ev0, ea0, ta0⟩ := gat (hget 0 (by omega)) s1
        have eA1 := s1 _ _ eA
        have hG1 := s1 _ _ hG
        refine ⟨.ref G, rfl, .ref A, rfl, A, _, _, _, rfl, rfl, .inl (.inl eA1), atI_nat (nats_getD (i := 0) (by omega)), G, gvs, _, _, rfl, rfl, .inl (.inl hG1), atI_nat ev0, a0, _, _, _, rfl, rfl, .inl (.inl ea0), atI_nat (j := 0) g0.vs0, cF, _, rfl, .inr (T.d_FED _), rfl, rfl, _, rfl, ?_⟩
        dsimp only
        refine ite_in (fed_in (gok _ g0 eg0)) ?_
        cases hf0 : g0.fed with
        | true =>
          refine iteT (iteT (no _ s1 fun z => ?_))
          obtain ⟨g, e, hf⟩ := z.src
          rw [eg0] at e
          cases e
          rw [hf0] at hf
          cases hf
        | false =>
          refine iteF ?_
          obtain ⟨g1, a1, eg1, ev1, ea1, ta1⟩ := gat (hget (l.length - 1) (by omega)) s1
          have ok1 := gok _ g1 eg1
          have sm1 := gsm g1 (List.mem_of_getElem? eg1)
          refine ⟨.ref G, rfl, .ref A, rfl, _, rfl, A, _, _, _, rfl, rfl, .inl (.inl eA1), last_nats (by omega), G, gvs, _, _, rfl, rfl, .inl (.inl hG1), atI_nat ev1, 2, rfl, cut_eq ea1 ok1 sm1 hc rfl fun v H2 s2 hB => ?_⟩
          obtain ⟨B, rfl, eB⟩ := hB
          refine ⟨.str c, rfl, (by decide : (2 : Nat) ≤ sizeLine), fun p np => ?_⟩
          have s3 := same_new (o := .tup [.str "box", .str c]) np
          refine ⟨_, _, box_dp (s3 _ _ eB), clk_dp upd_same, box_sh ok1 sm1, clk_sh hc, _, rfl, ?_⟩
          rw [box_eqv ok1]
          have s03 := (s1.trans s2).trans s3
          revert s03
          generalize upd H2 p (.tup [.str "box", .str c]) = H3
          intro s03
          cases hb1 : g1.isBox c with
          | false =>
            refine iteT (no _ s03 fun z => ?_)
            obtain ⟨bit, dd, e⟩ := z.snk
            rw [eg1] at e
            cases e
            rw [isBox_iff.mpr ⟨bit, dd, rfl⟩] at hb1
            cases hb1
          | true =>
            refine iteF ?_
            have eA3 := s03 _ _ eA
            have nw : ¬ (HT.sIx (nats l).length 0 (some 1) = 0 ∧ HT.sIx (nats l).length (nats l).length (some (-1)) = (nats l).length) := by
              intro z
              have e1 : HT.sIx (nats l).length 0 (some 1) = 1 := by
                rw [show (some (1 : Int)) = some ((1 : Nat) : Int) from rfl, HT.sIx_nat, nats_len]
                omega
              rw [e1] at z
              exact absurd z.1 (by decide)
            refine ⟨.ref A, rfl, 1, rfl, 1, rfl, _, rfl, A, _, rfl, .inl (.inl eA3), nw, fun Mp nMp => ?_⟩
            rw [cut_mid h2]
            generalize eH4 : upd H3 Mp _ = H4
            have s4 : Same H H4 := eH4 ▸ s03.trans (same_new nMp)
            have eM : H4 Mp = some (.tup (nats ((l.drop 1).take (l.length - 2)))) := eH4 ▸ upd_same
            refine ⟨Mp, rfl, ⟨_, .inl (.inl eM)⟩, fun D2 nD2 => ?_⟩
            have lm : ((l.drop 1).take (l.length - 2)).length = l.length - 2 := by
              rw [List.length_take, List.length_drop]
              omega
            refine lc_tup (K := K) (a := Mp) (xs := nats ((l.drop 1).take (l.length - 2))) (fun i H' => Same H4 H' ∧ H' D2 = some (.lst (((((l.drop 1).take (l.length - 2)).take i).map fun k => fedB gs k).map V.bl))) ?_ ?_ ?_ ?_
            · exact ⟨same_new nD2, upd_same⟩
            · rintro i H' _ ⟨sm, _⟩
              exact .inl (.inl (sm _ _ eM))
            · rintro i v H' hv ⟨sm, eD2⟩
              have hi : i < ((l.drop 1).take (l.length - 2)).length := by
                rw [← nats_len]
                exact (List.getElem?_eq_some_iff.mp hv).1
              have hx := mid_get h2 hi
              rw [nats_at hx] at hv
              cases hv
              rw [lm] at hi
              obtain ⟨g, gA, eg, ev, ea, ta⟩ := gat (hget (i + 1) (by omega)) (s4.trans sm)
              refine ⟨rfl, ?_⟩
              unfold tYes
              refine iteT ⟨.ref G, rfl, .int _, rfl, G, gvs, _, _, rfl, rfl, .inl (.inl ((s4.trans sm) _ _ hG)), atI_nat ev, gA, _, _, _, rfl, rfl, .inl (.inl ea), atI_nat (j := 0) g.vs0, cF, _, rfl, .inr (T.d_FED _), rfl, rfl, _, eD2, ?_, same_mut sm nD2, ?_⟩
              · rw [List.length_map, List.length_map, List.length_take, lm]
                omega
              · rw [upd_same, take_bl _ hx]
                have e1 : (if false = true then !inV (V.str g.kind) [V.str "not", V.str "and", V.str "or", V.str "xor"] else inV (V.str g.kind) [V.str "not", V.str "and", V.str "or", V.str "xor"]) = fedB gs (l.getD (i + 1) 0) := by
                  rw [if_neg Bool.false_ne_true, fed_in (gok _ g eg)]
                  unfold fedB
                  rw [eg]
                rw [← e1]
            rintro H5 ⟨s5, eD2⟩
            rw [nats_len, List.take_of_length_le (Nat.le_refl _)] at eD2
            refine ⟨D2, _, rfl, .inl (.inl eD2), _, rfl, ?_⟩
            rw [List.all_map]
            have s05 := s4.trans s5
            cases hmd : (((l.drop 1).take (l.length - 2)).all (id ∘ fun k => fedB gs k)) with
            | false =>
              refine iteT (no _ s05 fun z => ?_)
              have h3 : (((l.drop 1).take (l.length - 2)).all (id ∘ fun k => fedB gs k)) = true := List.all_eq_true.mpr fun x hx => by
                obtain ⟨i, hi⟩ := List.getElem?_of_mem hx
                have hi2 := (List.getElem?_eq_some_iff.mp hi).1
                rw [mid_get h2 hi2] at hi
                cases hi
                rw [lm] at hi2
                obtain ⟨g, e, hf⟩ := z.mid (i + 1) (by omega) (by omega)
                show fedB gs _ = true
                unfold fedB
                rw [e]
                exact hf
              rw [hmd] at h3
              cases h3
            | true =>
              refine iteF ?_
              have eA5 := s05 _ _ eA
              have nw1 : ¬ (HT.sIx (nats l).length 0 (some 1) = 0 ∧ HT.sIx (nats l).length (nats l).length none = (nats l).length) := by
                intro z
                have e1 : HT.sIx (nats l).length 0 (some 1) = 1 := by
                  rw [show (some (1 : Int)) = some ((1 : Nat) : Int) from rfl, HT.sIx_nat, nats_len]
                  omega
                rw [e1] at z
                exact absurd z.1 (by decide)
              refine ⟨.ref A, rfl, .ref A, rfl, 1, rfl, A, _, rfl, .inl (.inl eA5), nw1, fun N nN => ?_⟩
              rw [cut_one (by omega)]
              generalize eH6 : upd H5 N _ = H6
              have s6 : Same H H6 := eH6 ▸ s05.trans (same_new nN)
              have eN : H6 N = some (.tup (nats (l.drop 1))) := eH6 ▸ upd_same
              have eA6 := s6 _ _ eA
              refine ⟨A, N, nats l, nats (l.drop 1), rfl, .inr ⟨.inl (.inl eA6), .inl (.inl eN), fun D3 nD3 => ?_⟩⟩
              have ln : l.length - 1 = (nats (l.drop 1)).length := by rw [nats_len, List.length_drop]
              refine lc_it (walk_zipT2 (K := K) (a := A) (b := N) (xs := nats l) (ys := nats (l.drop 1)) (n := l.length - 1) (by rw [nats_len]; omega) ln) (fun i H' => Same H6 H' ∧ H' D3 = some (.lst (((List.range i).map fun i => feedB gs (l.getD i 0) (l.getD (i + 1) 0)).map V.bl))) ?_ ?_ ?_ ?_
              · exact ⟨same_new nD3, upd_same⟩
              · rintro i H' _ ⟨sm, _⟩
                exact ⟨.inl (.inl (sm _ _ eA6)), .inl (.inl (sm _ _ eN))⟩
              · rintro i x H' H7 hi ⟨sm, eD3⟩ ⟨TT, u, v, rfl, nT, rfl, e1, e2⟩
                have e1 : (nats l)[i]? = some u := e1
                have e2 : (nats (l.drop 1))[i]? = some v := e2
                rw [nats_getD (by omega)] at e1
                have e2' : (nats (l.drop 1))[i]? = some (.int ((l.getD (i + 1) 0 : Nat) : Int)) := by
                  refine nats_at ?_
                  rw [List.getElem?_drop, Nat.add_comm 1 i, List.getD_eq_getElem?_getD, List.getElem?_eq_getElem (by omega)]
                  rfl
                rw [e2'] at e2
                cases e1
                cases e2
                refine ⟨TT, _, rfl, .inl (.inl upd_same), rfl, _, _, rfl, _, _, rfl, rfl, rfl, ?_⟩
                unfold tYes
                generalize eG1 : upd H' TT _ = G1
                have sT : Same H6 G1 := eG1 ▸ sm.trans (same_new nT)
                have eDT : G1 D3 = _ := eG1 ▸ (same_new nT) _ _ eD3
                obtain ⟨g, gA, eg, ev, ea, ta⟩ := gat (hget (i + 1) (by omega)) (s6.trans sT)
                refine iteT ⟨.int _, rfl, .ref G, rfl, .int _, rfl, G, gvs, _, _, rfl, rfl, .inl (.inl ((s6.trans sT) _ _ hG)), atI_nat ev, .ref gA, g, gs.length, _, rfl, ta, gok _ g eg, fun fv H8 s8 tf => ?_⟩
                obtain ⟨Fg, fvs, rfl, hFg, fal⟩ := tf.inv_tup
                obtain rfl := all2_ints fal
                refine ⟨Fg, _, rfl, .inr (.inl (.inl hFg)), rfl, nats_flat g.feeds, _, s8 _ _ eDT, ?_, same_mut (sT.trans s8) nD3, ?_⟩
                · rw [List.length_map, List.length_map, List.length_range]
                  omega
                · rw [upd_same, List.range_succ, List.map_append, List.map_append]
                  have e1 : (if false = true then !inV (V.int ((l.getD i 0 : Nat) : Int)) (nats g.feeds) else inV (V.int ((l.getD i 0 : Nat) : Int)) (nats g.feeds)) = feedB gs (l.getD i 0) (l.getD (i + 1) 0) := by
                    rw [if_neg Bool.false_ne_true, inV_natsD]
                    unfold feedB
                    rw [eg]
                  rw [List.map_cons, List.map_nil, List.map_cons, List.map_nil, ← e1]
                  rfl
              rintro H7 ⟨s7, eD3⟩
              refine ⟨D3, _, rfl, .inl (.inl eD3), ?_⟩
              have s07 := s6.trans s7
              rw [List.all_map]
              cases hcn : ((List.range (l.length - 1)).all (id ∘ fun i => feedB gs (l.getD i 0) (l.getD (i + 1) 0))) with
              | false =>
                refine no _ s07 fun z => ?_
                have h3 : ((List.range (l.length - 1)).all (id ∘ fun i => feedB gs (l.getD i 0) (l.getD (i + 1) 0))) = true := List.all_eq_true.mpr fun i hi => by
                  have hi := List.mem_range.mp hi
                  obtain ⟨g, e, hf⟩ := z.con i (by omega)
                  show feedB gs _ _ = true
                  unfold feedB
                  rw [e]
                  exact decide_eq_true hf
                rw [hcn] at h3
                cases h3
              | true =>
                refine yes _ s07 ⟨h2, hlt, ⟨g0, eg0, hf0⟩, ?_, fun i h0 h1 => ?_, fun i h1 => ?_⟩
                · obtain ⟨bit, dd, e⟩ := isBox_iff.mp hb1
                  exact ⟨bit, dd, by rw [eg1, e]⟩
                · obtain ⟨g, eg⟩ : ∃ g, gs[l.getD i 0]? = some g := ⟨_, List.getElem?_eq_getElem (hget i (by omega))⟩
                  have hx : ((l.drop 1).take (l.length - 2))[i - 1]? = some (l.getD i 0) := by
                    rw [mid_get h2 (by rw [lm]; omega)]
                    rw [show i - 1 + 1 = i by omega]
                  have h3 := List.all_eq_true.mp hmd _ (List.mem_of_getElem? hx)
                  have h4 : fedB gs (l.getD i 0) = true := h3
                  unfold fedB at h4
                  rw [eg] at h4
                  exact ⟨g, eg, h4⟩
                · obtain ⟨g, eg⟩ : ∃ g, gs[l.getD (i + 1) 0]? = some g := ⟨_, List.getElem?_eq_getElem (hget (i + 1) h1)⟩
                  have h3 := List.all_eq_true.mp hcn i (List.mem_range.mpr (by omega))
                  have h4 : feedB gs (l.getD i 0) (l.getD (i + 1) 0) = true := h3
                  unfold feedB at h4
                  rw [eg] at h4
                  exact ⟨g, eg, of_decide_eq_true h4⟩
    · rw [decide_eq_true (show (xs.length : Int) < 2 by omega)]
      refine iteT (q false H (Same.refl H) ⟨fun z => (by cases z), fun z => ?_⟩)
      obtain ⟨l, e, hl⟩ := z
      unfold natsO intsO at e
      cases e
      rw [List.length_map, List.length_map] at h2
      exact absurd hl.two h2
end
end K80

namespace K80
open PySem PySem.Spec PyProof.Rows L2 Kit
/-! ### the time of a path -/
def lensTo (fs ls : List Nat) (f n : Nat) : List Int := ((List.range n).filter fun j => decide (fs[j]? = some f)).map fun j => ((ls.getD j 0 : Nat) : Int) - 1
theorem lensTo_succ {fs ls : List Nat} {f n : Nat} : lensTo fs ls f (n + 1) = if fs[n]? = some f then lensTo fs ls f n ++ [((ls.getD n 0 : Nat) : Int) - 1] else lensTo fs ls f n := by
  unfold lensTo
  rw [List.range_succ, List.filter_append, List.map_append]
  by_cases h : fs[n]? = some f
  · have e : ([n] : List Nat).filter (fun j => decide (fs[j]? = some f)) = [n] := by simp [h]
    rw [if_pos h, e]
    rfl
  · have e : ([n] : List Nat).filter (fun j => decide (fs[j]? = some f)) = [] := by simp [h]
    rw [if_neg h, e]
    exact List.append_nil _
theorem lensTo_mem {fs ls : List Nat} {f n : Nat} {z : Int} : z ∈ lensTo fs ls f n ↔ ∃ j, j < n ∧ fs[j]? = some f ∧ ((ls.getD j 0 : Nat) : Int) - 1 = z := by
  unfold lensTo
  rw [List.mem_map]
  constructor
  · rintro ⟨j, hj, e⟩
    obtain ⟨h1, h2⟩ := List.mem_filter.mp hj
    exact ⟨j, List.mem_range.mp h1, of_decide_eq_true h2, e⟩
  · rintro ⟨j, h1, h2, e⟩
    exact ⟨j, List.mem_filter.mpr ⟨List.mem_range.mpr h1, decide_eq_true h2⟩, e⟩
theorem lensTo_len (fs ls : List Nat) (f n : Nat) : (lensTo fs ls f n).length ≤ n := by
  unfold lensTo
  rw [List.length_map]
  have := List.length_filter_le (fun j => decide (fs[j]? = some f)) (List.range n)
  rw [List.length_range] at this
  exact this
def ownF (d : Own) (g : Gt) : Int := if g.fed = true then g.own d else 0
def stepT (gs : List Gt) (wl : List (List Way)) (d : Own) (f k : Nat) : Int := match gs[k]? with
  | some g => d.s * mxi (lensTo g.feeds (lens (wl.getD k [])) f g.feeds.length) + ownF d g
  | none => 0
def ptN (gs : List Gt) (wl : List (List Way)) (d : Own) (l : List Nat) : Nat → Int
  | 0 => 0
  | i + 1 => ptN gs wl d l i + stepT gs wl d (l.getD i 0) (l.getD (i + 1) 0)
def spPTm (K : PySem.W.Frag) : Sp := fun vs H Q _ => ∃ (vg vw : V) (A a : Addr) (gs : List Gt) (wl : List (List Way)) (d : Own) (c : Str) (l : List Nat),
  vs = [vg, vw, .ref A, .ref a] ∧ TdR H (gatesT gs) vg ∧ TdR H (waysT wl) vw ∧ H A = some (.tup (nats l)) ∧ SqT K H a (ownV d) ∧ Okl gs wl ∧ d.ok ∧ gs.length ≤ 1000 ∧ l.length ≤ 1000000 ∧ PthN gs c l ∧
  ∀ H', Same H H' → Q (.int (ptN gs wl d l (l.length - 1))) H'
section
variable {P : Program} {w : World} {K : PySem.W.Frag} {mg : Str → Option Value} {base : Heap} {cF cD : Addr}
theorem own_if {σ : L2.St} {H : Hp} {Q : VK} {G gA a : Addr} {gvs : List V} {k n i : Nat} {g : Gt} {d : Own} (T : Tp K mg cF cD) (h0 : σ[0]? = some (some (.ref G))) (h6 : σ[6]? = some (some (.int (k : Int)))) (h3 : σ[3]? = some (some (.ref a)))
    (eG : H G = some (.tup gvs)) (ev : gvs[k]? = some (.ref gA)) (ea : H gA = some (.tup g.vs)) (tg : TdR H g.td (.ref gA)) (ok : g.ok n i) (hd : SqT K H a (ownV d)) (q : Q (.int (ownF d g)) H) :
    tIf (tTest (tOp (rIn K false) (tOp (rIxT K) (tOp (rIxT K) (tVar 0) (tVar 6)) (tC (.int 0))) (tC (.ref cF)))) (tCall (spOwn K) [] E0 (tCons (tOp (rIxT K) (tVar 0) (tVar 6)) (tCons (tVar 3) tNil))) (tC (.int 0)) σ H Q := by
  refine ⟨.ref G, h0, .int (k : Int), h6, G, gvs, _, _, rfl, rfl, .inl (.inl eG), atI_nat ev, gA, _, _, _, rfl, rfl, .inl (.inl ea), atI_nat (j := 0) g.vs0, cF, _, rfl, .inr (T.d_FED _), rfl, rfl, _, rfl, ?_⟩
  dsimp only
  refine ite_in (fed_in ok) ?_
  unfold ownF at q
  cases hf : g.fed with
  | true =>
    rw [hf, if_pos rfl] at q
    exact iteT ⟨.ref G, h0, .int (k : Int), h6, G, gvs, _, _, rfl, rfl, .inl (.inl eG), atI_nat ev, .ref a, h3, .ref gA, a, g, n, i, d, rfl, tg, hd, ok, hf, q⟩
  | false =>
    rw [hf, if_neg Bool.false_ne_true] at q
    exact iteF q
theorem ok_pt {f : Addr} {fd : FuncData} (D : DefAt K mg "path_time" ["gates", "ways", "path", "delays"] s_path_time f fd) (M : Bi mg) (T : Tp K mg cF cD)
    (C_own_delay : Cal P w K mg base L2.CX0 1 "own_delay" ["gate", "delays"] (spOwn K))
    (C_feeds_of : Cal P w K mg base L2.CX0 1 "feeds_of" ["gate"] spFeeds) :
    Cal P w K mg base L2.CX0 2 "path_time" ["gates", "ways", "path", "delays"] (spPTm K) := by
  have S := S_path_time
  refine cal_of D.fn D.mgf D.bs D.kbs S (fun vs H Q E h => ?_) (fun cdv A outer s H vs Q E hq hr h => ?_)
  · obtain ⟨vg, vw, A, a, gs, wl, d, c, l, rfl, _⟩ := h
    rfl
  · obtain ⟨vg, vw, A, a, gs, wl, d, c, l, rfl, hg, hw, eA, hd, ok, od, gl, ll, hp, q⟩ := h
    refine ⟨_, (pss_cons (ps_set (i := 4) S.nd rfl (.inl rfl) pe_int)
 (pss_cons (ps_for PassesOwn.never rfl (RZ.pi_zipA (by rfl) M.zip_ (pa_cons (pv 2) (pa_cons (pe_slice sl_tup (pv 2) (po_some pe_int) po_none) pa_nil))) (pg_tup (by rfl) (pgs_cons (pg_name (i := 5) S.nd rfl (.inr rfl)) (pgs_cons (pg_name (i := 6) S.nd rfl (.inl rfl)) pgs_nil)))
  (pss_cons (ps_set (i := 7) S.nd rfl (.inl rfl) (pe_ifExp (pt_cmpR op_in_seq (pe_ix ix_tup (pe_ix ix_tup (pv 0) (pv 6) (fun _ _ => rfl)) pe_int (fun _ _ => rfl)) (C8.pe_gc (by rfl) T.c_FED) rfl) (pe_c C_own_delay pass0 hq hr (by omega) (by rfl) (pa_cons (pe_ix ix_tup (pv 0) (pv 6) (fun _ _ => rfl)) (pa_cons (pv 3) pa_nil))) pe_int))
 (pss_cons (ps_setLc (i := 8) (own := [("way", 9), ("fed", 10)]) (g := (gTup K 2 (gCons (gName 9) (gCons (gName 10) gNil)))) (te := (tOp (rI0 fun i j => .int (i - j)) (tCB (rLen1 K) (tCons (tVar 9) tNil)) (tC (.int 1)))) rfl S.nd rfl rfl (sw_true rfl rfl rfl (by decide +kernel)) (RZ.pi_zipA (by rfl) M.zip_ (pa_cons (pe_ix ix_tup (pv 1) (pv 6) (fun _ _ => rfl)) (pa_cons (pe_c C_feeds_of pass0 hq hr (by omega) (by rfl) (pa_cons (pe_ix ix_tup (pv 0) (pv 6) (fun _ _ => rfl)) pa_nil)) pa_nil))) (blkOk_by (own := [("way", 9), ("fed", 10)]) (N := N_path_time) (sc := defScope s_path_time) (by decide +kernel)) (fun _ _ _ _ _ => (pg_tup (by rfl) (pgs_cons (pg_name (i := 9) S.nd rfl (.inl rfl)) (pgs_cons (pg_name (i := 10) S.nd rfl (.inl rfl)) pgs_nil)))) (fun _ _ _ _ _ => (pts_one (pt_cmpR op_eq (pv 10) (pv 5) (nomark _)))) (fun _ _ _ _ _ => (pe_op op_sub (pe_callB call_len_seq (by rfl) M.len_ (by decide +kernel) (pa_cons (pv 9) pa_nil)) pe_int)))
 (pss_one (ps_aug (i := 4) S.nd rfl (.inl rfl) (pe_op op_add (pe_op op_mulB (pe_ix ix_tup (pv 3) pe_int (fun _ _ => rfl)) (pe_callB (cr_max rfl) (by rfl) M.max_ (by decide +kernel) (pa_cons (pv 8) pa_nil))) (pv 7)) ip_add)))))
 (pss_one (ps_ret (pv 4))))), ?_⟩
    obtain ⟨G, gvs, rfl, hG, gal⟩ := hg.inv_tup
    obtain ⟨W, wvs, rfl, hW, wal⟩ := hw.inv_tup
    have h2 := hp.two
    have hget : ∀ i, i < l.length → l.getD i 0 < gs.length := fun i hi => hp.lt _ (by
      rw [List.getD_eq_getElem?_getD, List.getElem?_eq_getElem hi]
      exact List.getElem_mem hi)
    have gat : ∀ {k : Nat} {H' : Hp}, k < gs.length → Same H H' → ∃ g gA, gs[k]? = some g ∧ gvs[k]? = some (.ref gA) ∧ H' gA = some (.tup g.vs) ∧ TdR H' g.td (.ref gA) := by
      intro k H' hk sm
      obtain ⟨g, eg⟩ : ∃ g, gs[k]? = some g := ⟨gs[k], List.getElem?_eq_getElem hk⟩
      obtain ⟨v, ev, tv⟩ := all2_get gal (i := k) (t := g.td) (by rw [List.getElem?_map, eg]; rfl)
      obtain ⟨gA, rfl, e⟩ := gt_at (tv.same sm)
      exact ⟨g, gA, eg, ev, e, tv.same sm⟩
    have nw1 : ¬ (HT.sIx (nats l).length 0 (some 1) = 0 ∧ HT.sIx (nats l).length (nats l).length none = (nats l).length) := by
      intro z
      have e1 : HT.sIx (nats l).length 0 (some 1) = 1 := by
        rw [show (some (1 : Int)) = some ((1 : Nat) : Int) from rfl, HT.sIx_nat, nats_len]
        omega
      rw [e1] at z
      exact absurd z.1 (by decide)
    refine ⟨.ref A, rfl, .ref A, rfl, 1, rfl, A, _, rfl, .inl (.inl eA), nw1, fun N nN => ?_⟩
    rw [cut_one (by omega)]
    generalize eH6 : upd H N _ = H6
    have s6 : Same H H6 := eH6 ▸ same_new nN
    have eN : H6 N = some (.tup (nats (l.drop 1))) := eH6 ▸ upd_same
    have eA6 := s6 _ _ eA
    have ln : l.length - 1 = (nats (l.drop 1)).length := by rw [nats_len, List.length_drop]
    refine ⟨A, N, nats l, nats (l.drop 1), rfl, .inr ⟨.inl (.inl eA6), .inl (.inl eN), for_it (walk_zipT2 (K := K) (a := A) (b := N) (xs := nats l) (ys := nats (l.drop 1)) (n := l.length - 1) (by rw [nats_len]; omega) ln) (fun i σ H' => Same H6 H' ∧ ∃ x5 x6 x7 x8 x9 x10 : Option V,
      σ = [some (.ref G), some (.ref W), some (.ref A), some (.ref a), some (.int (ptN gs wl d l i)), x5, x6, x7, x8, x9, x10]) ?_ ?_ ?_ ?_⟩⟩
    · exact ⟨Same.refl _, none, none, none, none, none, none, rfl⟩
    · rintro i σ H' _ ⟨sm, _⟩
      exact ⟨.inl (.inl (sm _ _ eA6)), .inl (.inl (sm _ _ eN))⟩
    · rintro i x σ H' H7 hi ⟨sm, x5, x6, x7, x8, x9, x10, rfl⟩ ⟨TT, u, v, rfl, nT, rfl, e1, e2⟩
      have e1 : (nats l)[i]? = some u := e1
      have e2 : (nats (l.drop 1))[i]? = some v := e2
      rw [nats_getD (by omega)] at e1
      have e2' : (nats (l.drop 1))[i]? = some (.int ((l.getD (i + 1) 0 : Nat) : Int)) := by
        refine nats_at ?_
        rw [List.getElem?_drop, Nat.add_comm 1 i, List.getD_eq_getElem?_getD, List.getElem?_eq_getElem (by omega)]
        rfl
      rw [e2'] at e2
      cases e1
      cases e2
      refine ⟨TT, _, rfl, .inl (.inl upd_same), rfl, _, _, rfl, _, _, rfl, rfl, ?_⟩
      generalize eG1 : upd H' TT _ = G1
      have sT : Same H6 G1 := eG1 ▸ sm.trans (same_new nT)
      have s0 := s6.trans sT
      have hk := hget (i + 1) (by omega)
      generalize ek : l.getD (i + 1) 0 = k at hk
      generalize ef : l.getD i 0 = f
      obtain ⟨g, gA, eg, ev, ea, tg⟩ := gat hk s0
      have okg := ok.gate k g eg
      refine own_if T rfl rfl rfl (s0 _ _ hG) ev ea tg okg (sqt_same hd s0) ?_
      obtain ⟨ws, ew, lw, hws⟩ := ok.at eg
      obtain ⟨wv, ewv, twv⟩ := all2_get wal (i := k) (t := .tup (ws.map wayT)) (by rw [List.getElem?_map, ew]; rfl)
      refine ⟨.ref W, rfl, .int (k : Int), rfl, W, _, _, _, rfl, rfl, .inl (.inl (s0 _ _ hW)), atI_nat ewv, .ref G, rfl, .int (k : Int), rfl, G, gvs, _, _, rfl, rfl, .inl (.inl (s0 _ _ hG)), atI_nat ev, .ref gA, g, gs.length, k, rfl, tg, okg, fun fv H8 s8 tf => ?_⟩
      have s08 := s0.trans s8
      obtain ⟨Wg, cvs, rfl, hWg, cal⟩ := (twv.same s08).inv_tup
      obtain ⟨Fg, fvs, rfl, hFg, fal⟩ := tf.inv_tup
      obtain rfl := all2_ints fal
      have n2 : g.feeds.length = cvs.length := by rw [← cal.1, List.length_map, lw]
      have n1 : g.feeds.length = (g.feeds.map fun (k : Nat) => V.int (k : Int)).length := (List.length_map _).symm
      have hf2 := g.feeds_le
      refine ⟨Wg, Fg, _, _, rfl, .inr ⟨.inl (.inl hWg), .inl (.inl hFg), fun D1 nD => ?_⟩⟩
      refine lc_it (walk_zipT (K := K) (a := Wg) (b := Fg) (xs := cvs) (ys := g.feeds.map fun (k : Nat) => V.int (k : Int)) n2 n1) (fun j H' => Same H8 H' ∧ H' D1 = some (.lst ((lensTo g.feeds (lens ws) f j).map V.int))) ?_ ?_ ?_ ?_
      · exact ⟨same_new nD, upd_same⟩
      · rintro j H' _ ⟨sm2, _⟩
        exact ⟨.inl (.inl (sm2 _ _ hWg)), .inl (.inl (sm2 _ _ hFg))⟩
      · rintro j x H' H9 hj ⟨sm2, eD⟩ ⟨T2, u, v, rfl, nT2, rfl, e1, e2⟩
        have e1 : cvs[j]? = some u := e1
        have e2 : (g.feeds.map fun (k : Nat) => V.int (k : Int))[j]? = some v := e2
        obtain ⟨y, hy⟩ : ∃ y, g.feeds[j]? = some y := ⟨g.feeds[j], List.getElem?_eq_getElem hj⟩
        rw [List.getElem?_map, hy] at e2
        cases e2
        obtain ⟨wy, hwy⟩ : ∃ wy, ws[j]? = some wy := ⟨ws[j]'(by omega), List.getElem?_eq_getElem (by omega)⟩
        have tu := cal.2 j (wayT wy) u (by rw [List.getElem?_map, hwy]; rfl) e1
        refine ⟨T2, _, rfl, .inl (.inl upd_same), rfl, _, _, rfl, _, _, rfl, rfl, rfl, ?_⟩
        generalize eG2 : upd H' T2 _ = G2
        have sT2 : Same H8 G2 := eG2 ▸ sm2.trans (same_new nT2)
        have eDT : G2 D1 = _ := eG2 ▸ (same_new nT2) _ _ eD
        obtain ⟨uA, uvs, rfl, euA, ual⟩ := (tu.same sT2).inv_tup
        have lu : uvs.length = wy.length := by rw [← ual.1, List.length_map]
        refine ⟨.int (y : Int), rfl, .int (f : Int), rfl, rfl, _, rfl, ?_⟩
        have dec : decide (V.int (y : Int) = V.int (f : Int)) = decide (g.feeds[j]? = some f) := by
          rw [hy]
          by_cases h : y = f
          · subst h
            rw [decide_eq_true rfl, decide_eq_true rfl]
          · rw [decide_eq_false (fun z => h (by have := V.int.inj z; omega)), decide_eq_false (fun z => h (Option.some.inj z))]
        rw [dec]
        by_cases h : g.feeds[j]? = some f
        · rw [decide_eq_true h]
          refine iteT ⟨.ref uA, rfl, uA, _, rfl, .inr (.inl (.inl euA)), _, 1, rfl, rfl, _, eDT, ?_, same_mut sT2 nD, ?_⟩
          · rw [List.length_map]
            have := lensTo_len g.feeds (lens ws) f j
            have : 1000 < sizeLine := by decide
            omega
          · rw [upd_same, lensTo_succ, if_pos h, List.map_append, lu]
            have e3 : (lens ws).getD j 0 = wy.length := by
              unfold lens
              rw [List.getD_eq_getElem?_getD, List.getElem?_map, hwy]
              rfl
            rw [e3]
            rfl
        · rw [decide_eq_false h]
          refine iteF ⟨sT2, ?_⟩
          rw [lensTo_succ, if_neg h]
          exact eDT
      rintro H9 ⟨s9, eD9⟩
      have s09 := s08.trans s9
      have hff : f ∈ g.feeds := by
        obtain ⟨g', eg', hf'⟩ := hp.con i (by omega)
        rw [ek, eg] at eg'
        cases eg'
        rw [ef] at hf'
        exact hf'
      obtain ⟨j0, hj0⟩ := List.getElem?_of_mem hff
      have hj0l := (List.getElem?_eq_some_iff.mp hj0).1
      have mem0 : ((((lens ws).getD j0 0 : Nat) : Int) - 1) ∈ lensTo g.feeds (lens ws) f g.feeds.length := lensTo_mem.mpr ⟨j0, hj0l, hj0, rfl⟩
      refine ⟨_, rfl, .ref a, rfl, a, _, _, _, rfl, rfl, sqt_same hd s09, atI_nat (j := 0) rfl, .ref D1, rfl, D1, _, rfl, .inl (.inl eD9), List.length_pos_of_mem mem0, fun m hm hmx => ?_⟩
      refine ⟨_, _, rfl, rfl, ?_, .int (ownF d g), rfl, _, _, rfl, rfl, _, _, rfl, rfl, ?_⟩
      · have h0 := od.1
        have h1 := od.2
        exact .of_left (intBits_le_64 (by omega) (by omega))
      · refine ⟨(sT.trans s8).trans s9, some (.int (f : Int)), some (.int (k : Int)), some (.int (ownF d g)), some (.ref D1), x9, x10, ?_⟩
        have e4 : ptN gs wl d l (i + 1) = ptN gs wl d l i + (d.s * m + ownF d g) := by
          rw [ptN, ek, ef]
          unfold stepT
          rw [eg]
          show _ + (d.s * mxi _ + _) = _
          rw [List.getD_eq_getElem?_getD, ew]
          show _ + (d.s * mxi (lensTo g.feeds (lens ws) f g.feeds.length) + _) = _
          rw [mxi_eq hm hmx]
        rw [e4]
        rfl
    · rintro σ H' ⟨sm, x5, x6, x7, x8, x9, x10, rfl⟩
      exact ⟨_, rfl, q H' (s6.trans sm)⟩
end
end K80

namespace K80
open PySem PySem.Spec PyProof.Rows L2 Kit X15
/-! ### papers that are let by -/
def pSh : List Str := ["net", "laying", "clock", "thing", "delays"]
theorem sh_binds {K : PySem.W.Frag} {f cD : Addr} {fd : FuncData} (F : FunD K "slowest_holds" "slowest_holds" (defArgs s_slowest_holds) (defBody s_slowest_holds) (defScope s_slowest_holds) [] [("delays", .ref cD)] f fd) :
    ∃ g, KBn K fd pSh 4 ["delays"] g gvP := by
  obtain ⟨mv, h⟩ := F.kbinds0 (ps := pSh) 4 ["delays"] [] (fun us mv ws => us ++ ws) (by simp) (fun q hq => by cases hq) (fun r1 r2 r3 => r1.append r3) (fun D doc pm an cdv ct us mv ws l1 l2 l3 => by
      match us, mv, ws, l1, l2, l3 with
      | [a, b, c, x], [], [d], _, _, _ => exact rfl)
  exact ⟨_, h⟩
structure Hold (gs : List Gt) (wl : List (List Way)) (d : Own) (c : Str) (t : Int) (po : Ob) (arr : List Int) : Prop where
  t0 : 0 ≤ t
  ao : ArrOk gs wl d arr
  way : (boxesN gs c gs.length = [] ∧ t = 0 ∧ po = .tup []) ∨ (boxesN gs c gs.length ≠ [] ∧ (∀ b ∈ boxesN gs c gs.length, boxT gs wl arr d.s b ≤ t) ∧
    ∃ l : List Nat, po = natsO l ∧ PthN gs c l ∧ ptN gs wl d l (l.length - 1) = t)
def HoldO (gs : List Gt) (wl : List (List Way)) (d : Own) (c : Str) (o : Ob) : Prop := ∃ t po arr, o = .tup [.int t, po, intsO arr] ∧ Hold gs wl d c t po arr
def FewP (o : Ob) : Prop := ∀ t p r, o = .tup [t, p, r] → Few p
def spHold (K : PySem.W.Frag) : Sp := fun vs H Q _ => ∃ (dd cc N Y a : Addr) (v : V) (c : Str) (gs : List Gt) (cs : List (Int × Int)) (wl : List (List Way)) (d : Own) (o : Ob),
  vs = [.ref N, .ref Y, .str c, v, .ref a] ∧ TdR H (netT gs) (.ref N) ∧ TdR H (layT cs wl) (.ref Y) ∧ ObR dd cc H o v ∧
  SqT K H a (ownV d) ∧ Okl gs wl ∧ d.ok ∧ gs.length ≤ 1000 ∧ FewP o ∧ okZ c ∧ (∀ g ∈ gs, g.sm) ∧
  ∀ (b : Bool) (H' : Hp), Same H H' → (b = true ↔ HoldO gs wl d c o) → Q (.bl b) H'
theorem all2_ints2 {H : Hp} : ∀ {ns : List Int} {vs : List V}, All2 H (ns.map Td.int) vs → vs = ns.map V.int
  | [], vs, h => h.inv_nil
  | n :: ns, vs, h => by
    obtain ⟨v, vs', rfl, h1, h2⟩ := h.inv_cons
    rw [h1.inv_int, all2_ints2 h2]
    rfl
theorem boxT_at {gs : List Gt} {wl : List (List Way)} {arr : List Int} {s : Int} {b : Nat} {c : Str} {bit : Int} {dd : Nat} {w0 : Way} (eg : gs[b]? = some (.box c bit dd)) (ew : wl[b]? = some [w0]) :
    arr.getD dd 0 + s * ((w0.length : Int) - 1) = boxT gs wl arr s b := by
  unfold boxT
  rw [eg, List.getD_eq_getElem?_getD, List.getD_eq_getElem?_getD, ew]
  rfl
def lateN (gs : List Gt) (wl : List (List Way)) (arr : List Int) (s t : Int) (bs : List Nat) : List Nat := bs.filter fun b => decide (t < boxT gs wl arr s b)
theorem lateN_snoc {gs : List Gt} {wl : List (List Way)} {arr : List Int} {s t : Int} {bs : List Nat} {i b : Nat} (e : bs[i]? = some b) :
    lateN gs wl arr s t (bs.take (i + 1)) = if t < boxT gs wl arr s b then lateN gs wl arr s t (bs.take i) ++ [b] else lateN gs wl arr s t (bs.take i) := by
  unfold lateN
  rw [List.take_add_one, e, List.filter_append]
  show _ ++ [b].filter _ = _
  by_cases h : t < boxT gs wl arr s b
  · have e2 : [b].filter (fun b => decide (t < boxT gs wl arr s b)) = [b] := by simp [h]
    rw [if_pos h, e2]
  · have e2 : [b].filter (fun b => decide (t < boxT gs wl arr s b)) = [] := by simp [h]
    rw [if_neg h, e2, List.append_nil]
section
variable {P : Program} {w : World} {K : PySem.W.Frag} {mg : Str → Option Value} {base : Heap} {cF cD : Addr}
theorem ok_hold {f : Addr} {fd : FuncData} (F : FunD K "slowest_holds" "slowest_holds" (defArgs s_slowest_holds) (defBody s_slowest_holds) (defScope s_slowest_holds) [] [("delays", .ref cD)] f fd) (M : Bi mg)
    (C_is_natural : Cal P w K mg base L2.CX0 1 "is_natural" ["thing"] spNat)
    (C_is_tuple : Cal P w K mg base L2.CX0 1 "is_tuple" ["thing", "many"] spTupM)
    (C_brought : Cal P w K mg base L2.CX0 2 "brought" ["arrivals", "gates", "ways", "g", "step"] (spBro K))
    (C_are_arrivals : Cal P w K mg base L2.CX0 3 "are_arrivals" ["gates", "ways", "thing", "delays"] (spArr K))
    (C_is_path : Cal P w K mg base L2.CX0 3 "is_path" ["gates", "clock", "thing"] spIsP)
    (C_path_time : Cal P w K mg base L2.CX0 2 "path_time" ["gates", "ways", "path", "delays"] (spPTm K)) : FnG P w K mg base L2.CX0 4 f fd pSh (spHold K) := by
  have S := S_slowest_holds
  refine fng_of (He5.fun_of F) S (fun vs H Q E h => ?_) (fun cdv A outer s H vs Q E hq hr h => ?_)
  · obtain ⟨dd, cc, N, Y, a, v, c, gs, cs, wl, d, o, rfl, _⟩ := h
    rfl
  · obtain ⟨dd, cc, N, Y, a, v, c, gs, cs, wl, d, o, rfl, hN, hY, ho, hd, ok, od, gl, fo, hc, gsm, q⟩ := h
    refine ⟨_, (pss_cons (ps_set (i := 5) S.nd rfl (.inr rfl) (pe_ix ix_tup (pv 0) pe_int (fun _ _ => rfl)))
 (pss_cons (ps_set (i := 6) S.nd rfl (.inr rfl) (pe_ix ix_tup (pv 1) pe_int (fun _ _ => rfl)))
 (pss_cons (ps_if (pt_not (pt_val (pe_c C_is_tuple pass0 hq hr (by omega) (by rfl) (pa_cons (pv 3) (pa_cons pe_int pa_nil)))))
  (pss_one (ps_ret pe_bl))
  pss_nil)
 (pss_cons (ps_asg (pv 3) (pg_tup (by rfl) (pgs_cons (pg_name (i := 7) S.nd rfl (.inr rfl)) (pgs_cons (pg_name (i := 8) S.nd rfl (.inl rfl)) (pgs_cons (pg_name (i := 9) S.nd rfl (.inr rfl)) pgs_nil)))))
 (pss_cons (ps_if (PW.pt (pw_or (pt_not (pt_val (pe_c C_is_natural pass0 hq hr (by omega) (by rfl) (pa_cons (pv 7) pa_nil)))) (pw_or1 (pt_not (pt_val (pe_c C_are_arrivals pass0 hq hr (by omega) (by rfl) (pa_cons (pv 5) (pa_cons (pv 6) (pa_cons (pv 9) (pa_cons (pv 4) pa_nil))))))))))
  (pss_one (ps_ret pe_bl))
  pss_nil)
 (pss_cons (ps_setLc (i := 10) (own := [("g", 11), ("gate", 12)]) (g := (gTup K 2 (gCons (gName 11) (gCons (gName 12) gNil)))) (tt := (tTest (tOp (rEqD K) (tSl (X9.rSlTA K) (tVar 12) tNoPart (tPart (tC (.int 2)))) (tTup (tCons (tC (.str "box")) (tCons (tVar 2) tNil)))))) rfl S.nd rfl rfl (sw_true rfl rfl rfl (by decide +kernel)) (pi_enumT (by rfl) M.enumerate_ (pa_cons (pv 5) pa_nil)) (blkOk_by (own := [("g", 11), ("gate", 12)]) (N := N_slowest_holds) (sc := defScope s_slowest_holds) (by decide +kernel)) (fun _ _ _ _ _ => (pg_tup (by rfl) (pgs_cons (pg_name (i := 11) S.nd rfl (.inl rfl)) (pgs_cons (pg_name (i := 12) S.nd rfl (.inl rfl)) pgs_nil)))) (fun _ _ _ _ _ => (pts_one (pt_cmpR (op_eqD hr.units) (pe_slice X9.sl_tupA (pv 12) po_none (po_some pe_int)) (pe_tup (pa_cons pe_str (pa_cons (pv 2) pa_nil))) (nomark _)))) (fun _ _ _ _ _ => (pv 11)))
 (pss_cons (ps_if (pt_not (pt_truth (pv 10) (by intro _; rfl)))
  (pss_one (ps_ret (pe_and (pe_cmpR op_eq (pv 7) pe_int (nomark _)) (pe_one (pe_cmpR (X15.op_eqE (room200 hr)) (pv 8) (pe_tup pa_nil) (nomark _))))))
  pss_nil)
 (pss_cons (ps_setLc (i := 13) (own := [("g", 11)]) (g := gName 11) (tt := (tTest (tOp (rI0 fun i j => V.bl (decide (j < i))) (tOp (rIxT K) (tOp (rIxL K) (tCall (spBro K) [] E0 (tCons (tVar 9) (tCons (tVar 5) (tCons (tVar 6) (tCons (tVar 11) (tCons (tOp (rIxT K) (tVar 4) (tC (.int 0))) tNil)))))) (tC (.int 0))) (tC (.int 0))) (tVar 7)))) rfl S.nd rfl rfl (sw_true rfl rfl rfl (by decide +kernel)) (pi_list (pv 10)) (blkOk_by (own := [("g", 11)]) (N := N_slowest_holds) (sc := defScope s_slowest_holds) (by decide +kernel)) (fun _ _ _ _ _ => pg_name (i := 11) S.nd rfl (.inl rfl)) (fun _ _ _ _ _ => (pts_one (pt_cmpR op_gt (pe_ix ix_tup (pe_ix ix_list (pe_c C_brought pass0 hq hr (by omega) (by rfl) (pa_cons (pv 9) (pa_cons (pv 5) (pa_cons (pv 6) (pa_cons (pv 11) (pa_cons (pe_ix ix_tup (pv 4) pe_int (fun _ _ => rfl)) pa_nil)))))) pe_int (fun _ _ => rfl)) pe_int (fun _ _ => rfl)) (pv 7) (nomark _)))) (fun _ _ _ _ _ => (pv 11)))
 (pss_one (ps_ret (pe_and (pe_notT (pv 13)) (pe_and (pe_c C_is_path pass0 hq hr (by omega) (by rfl) (pa_cons (pv 5) (pa_cons (pv 2) (pa_cons (pv 8) pa_nil)))) (pe_one (pe_cmpR op_eq (pe_c C_path_time pass0 hq hr (by omega) (by rfl) (pa_cons (pv 5) (pa_cons (pv 6) (pa_cons (pv 8) (pa_cons (pv 4) pa_nil))))) (pv 7) (nomark _))))))))))))))), ?_⟩
    obtain ⟨N', G, gvs, rest, e', eN, hg, hG, gal, lg⟩ := net_inv hN
    cases e'
    obtain ⟨Y', vc, W, wvs, e', eY, hw, hW, wal⟩ := lay_inv hY
    cases e'
    have big : 1000000 < sizeLine := by decide
    refine ⟨.ref N, rfl, N, _, _, _, rfl, rfl, .inl (.inl eN), atI_nat (j := 0) rfl, .ref Y, rfl, Y, _, _, _, rfl, rfl, .inl (.inl eY), atI_nat (j := 1) rfl, v, rfl, dd, cc, o, v, 3, rfl, ho, _, rfl, ?_⟩
    cases hT : tupB 3 o with
    | false =>
      refine iteT (q false H (Same.refl H) ⟨fun z => (by cases z), fun z => ?_⟩)
      obtain ⟨t, po, arr, rfl, _⟩ := z
      cases hT
    | true =>
    obtain ⟨ot, po, oa, rfl⟩ : ∃ ot po oa, o = .tup [ot, po, oa] := by
      cases o with
      | tup xs =>
        have h3 : (xs.length : Int) = 3 := of_decide_eq_true hT
        match xs, h3 with
        | [x, y, z], _ => exact ⟨x, y, z, rfl⟩
        | [], h => exact absurd h (by decide)
        | [_], h => exact absurd h (by simp)
        | [_, _], h => exact absurd h (by simp)
        | _ :: _ :: _ :: _ :: r, h => exact absurd h (by simp only [List.length_cons]; omega)
      | _ => cases hT
    have fp := fo _ _ _ rfl
    obtain ⟨TH, us, rfl, eTH, al⟩ := ho.inv_tup
    obtain ⟨vt, us1, rfl, hot, al1⟩ := al.inv_cons
    obtain ⟨vp, us2, rfl, hop, al2⟩ := al1.inv_cons
    obtain ⟨va, us3, rfl, hoa, al3⟩ := al2.inv_cons
    obtain rfl := al3.inv_nil
    refine iteF ?_
    refine ⟨.ref TH, rfl, TH, _, rfl, .inl (.inl eTH), rfl, _, _, rfl, _, _, rfl, _, _, rfl, rfl, ?_⟩
    refine ⟨vt, rfl, dd, cc, ot, vt, rfl, hot, _, rfl, ?_⟩
    cases ht0 : natB ot with
    | false =>
      refine iteT (iteT (q false H (Same.refl H) ⟨fun z => (by cases z), fun z => ?_⟩))
      obtain ⟨t, po, arr, e, z⟩ := z
      cases e
      have : natB (.int t) = true := decide_eq_true z.t0
      rw [ht0] at this
      cases this
    | true =>
      obtain ⟨t, rfl⟩ : ∃ t, ot = .int t := by
        cases ot with
        | int t => exact ⟨t, rfl⟩
        | _ => cases ht0
      have ht : 0 ≤ t := of_decide_eq_true ht0
      obtain rfl := hot.inv_int
      refine iteF ⟨.ref G, rfl, .ref W, rfl, va, rfl, .ref a, rfl, dd, cc, .ref G, .ref W, va, a, gs, wl, d, oa, rfl, hg, hw, hoa, hd, ok, od, gl, fun ba H1 s1 hba => ⟨_, rfl, ?_⟩⟩
      cases ba with
      | false =>
        refine iteT (q false H1 s1 ⟨fun z => (by cases z), fun z => hba.mpr ?_⟩)
        obtain ⟨t', po', arr, e, z⟩ := z
        cases e
        exact ⟨arr, rfl, z.ao⟩
      | true =>
        obtain ⟨arr, rfl, harr⟩ := hba.mp rfl
        have hold : HoldO gs wl d c (.tup [.int t, po, intsO arr]) → Hold gs wl d c t po arr := fun z => by
          obtain ⟨t', po', arr', e, z⟩ := z
          injection e with e
          injection e with e1 e2
          injection e1 with e1
          injection e2 with e2 e3
          injection e3 with e3 _
          rw [e1, e2, ints_inj e3]
          exact z
        obtain ⟨AA, avs, rfl, eAA, aal⟩ := hoa.inv_tup
        obtain rfl := allo_ints aal
        refine iteF ?_
        refine ⟨.ref G, rfl, G, gvs, rfl, .inl (.inl (s1 _ _ hG)), fun D1 nD => ?_⟩
        refine lc_it (walk_enumT (K := K) (a := G) (xs := gvs)) (fun i H' => Same H1 H' ∧ H' D1 = some (.lst (nats (boxesN gs c i)))) ?_ ?_ ?_ ?_
        · exact ⟨same_new nD, upd_same⟩
        · rintro i H' _ ⟨sm, _⟩
          exact .inl (.inl (sm _ _ (s1 _ _ hG)))
        · rintro i x H' H2 hi ⟨sm, eD⟩ ⟨TT, u, v, rfl, nT, rfl, e1, e2⟩
          cases e1
          rw [lg] at hi
          obtain ⟨gt, egt⟩ : ∃ gt, gs[i]? = some gt := ⟨gs[i], List.getElem?_eq_getElem hi⟩
          have tg := gal.2 i gt.td v (by rw [List.getElem?_map, egt]; rfl) e2
          refine ⟨TT, _, rfl, .inl (.inl upd_same), rfl, _, _, rfl, _, _, rfl, rfl, rfl, ?_⟩
          generalize eG1 : upd H' TT _ = G1
          have sT : Same H1 G1 := eG1 ▸ sm.trans (same_new nT)
          have eDT : G1 D1 = _ := eG1 ▸ (same_new nT) _ _ eD
          obtain ⟨gA, rfl, egA⟩ := gt_at (tg.same (s1.trans sT))
          have okg := ok.gate i gt egt
          have smg := gsm gt (List.mem_of_getElem? egt)
          refine ⟨.ref gA, rfl, 2, rfl, cut_eq egA okg smg hc rfl fun v H2 s2 hB => ?_⟩
          obtain ⟨B, rfl, eB⟩ := hB
          refine ⟨.str c, rfl, (by decide : (2 : Nat) ≤ sizeLine), fun p np => ?_⟩
          have s3 := same_new (o := .tup [.str "box", .str c]) np
          refine ⟨_, _, box_dp (s3 _ _ eB), clk_dp upd_same, box_sh okg smg, clk_sh hc, _, rfl, ?_⟩
          rw [box_eqv okg]
          have s13 := (sT.trans s2).trans s3
          have eD3 := s3 _ _ (s2 _ _ eDT)
          revert s13 eD3
          generalize upd H2 p (.tup [.str "box", .str c]) = H3
          intro s13 eD3
          have eb := boxesN_succ (c := c) egt
          cases hb : gt.isBox c with
          | true =>
            rw [hb, if_pos rfl] at eb
            refine iteT ⟨.int (i : Int), rfl, _, eD3, ?_, same_mut s13 nD, ?_⟩
            · rw [nats_len]
              exact Nat.lt_of_le_of_lt (boxesN_len gs c i) (by omega)
            · rw [upd_same, eb]
              unfold nats
              rw [List.map_append]
              rfl
          | false =>
            rw [hb, if_neg Bool.false_ne_true] at eb
            refine iteF ⟨s13, ?_⟩
            rw [eb]
            exact eD3
        rintro H2 ⟨s2, eB⟩
        rw [lg] at eB
        generalize ebs : boxesN gs c gs.length = bs at *
        have lbs : bs.length ≤ gs.length := by
          rw [← ebs]
          exact boxesN_len gs c _
        have s02 := s1.trans s2
        refine ⟨.ref D1, rfl, !(nats bs).isEmpty, .inl ⟨_, .inl (.inl eB), rfl⟩, ?_⟩
        cases hbs : bs with
        | nil =>
          refine iteT ?_
          have no : ∀ H', Same H H' → ¬ (t = 0 ∧ po = .tup []) → Q (.bl false) H' := fun H' sm hn => q false H' sm ⟨fun z => (by cases z), fun z => by
            rcases (hold z).way with ⟨_, h1, h2⟩ | ⟨h1, _⟩
            · exact absurd ⟨h1, h2⟩ hn
            · rw [ebs, hbs] at h1
              exact absurd rfl h1⟩
          refine ⟨.int t, rfl, rfl, _, rfl, ?_⟩
          by_cases h0 : t = 0
          · rw [decide_eq_true (by rw [h0])]
            refine iteT ⟨vp, rfl, Nat.zero_le _, fun e0 n0 => ?_⟩
            have s3 := same_new (o := .tup []) n0
            refine ⟨dd, cc, po, e0, hop.same (s02.trans s3), rfl, upd_same, ?_⟩
            cases hp : isE po with
            | true =>
              have hp : po = .tup [] := by
                match po, hp with
                | .tup [], _ => rfl
              exact q true _ (s02.trans s3) ⟨fun _ => ⟨t, po, arr, rfl, ht, harr, .inl ⟨by rw [ebs, hbs], h0, hp⟩⟩, fun _ => rfl⟩
            | false => exact no _ (s02.trans s3) (fun z => (by
                have h9 : isE po = true := (by rw [z.2]; rfl)
                exact Bool.false_ne_true (hp.symm.trans h9)))
          · rw [decide_eq_false fun z => h0 (V.int.inj z)]
            exact iteF (no _ s02 fun z => h0 z.1)
        | cons b0 bs0 =>
          refine iteF ?_
          have ne : bs ≠ [] := by
            rw [hbs]
            exact List.cons_ne_nil _ _
          refine ⟨.ref D1, rfl, D1, rfl, ⟨_, .inl (.inl eB)⟩, fun D2 nD2 => ?_⟩
          refine lc_it (walk_list (K := K) (a := D1) (xs := nats bs)) (fun i H' => Same H2 H' ∧ H' D2 = some (.lst (nats (lateN gs wl arr d.s t (bs.take i))))) ?_ ?_ ?_ ?_
          · exact ⟨same_new nD2, upd_same⟩
          · rintro i H' _ ⟨sm, _⟩
            exact .inl (.inl (sm _ _ eB))
          · rintro i x H' H3 hi ⟨sm, eD⟩ ⟨rfl, ex⟩
            rw [nats_len] at hi
            obtain ⟨b, eb⟩ : ∃ b, bs[i]? = some b := ⟨bs[i], List.getElem?_eq_getElem hi⟩
            rw [nats_at eb] at ex
            cases ex
            obtain ⟨hbn, bit, dd, egt⟩ := boxesN_mem (b := b) (by rw [ebs]; exact List.mem_of_getElem? eb)
            have hdd : dd < gs.length := ok.gate b _ egt
            obtain ⟨ws, ew, lw, hws⟩ := ok.at egt
            obtain ⟨w0, rfl⟩ : ∃ w0, ws = [w0] := by
              match ws, lw with
              | [w0], _ => exact ⟨w0, rfl⟩
            have sAll := s02.trans sm
            refine ⟨rfl, ?_⟩
            refine ⟨.ref AA, rfl, .ref G, rfl, .ref W, rfl, .int (b : Int), rfl, .ref a, rfl, a, _, _, _, rfl, rfl, sqt_same hd sAll, atI_nat (j := 0) rfl, _, _, _, arr, gs, wl, b, _, _, d.s, rfl, .tup (.inl (.inl (sAll _ _ eAA))), hg.same sAll, hw.same sAll, ok, egt, ew, fun f hf => by rw [harr.len, List.mem_singleton.mp hf]; exact hdd, od.1, od.2, ?_⟩
            intro p rs' G2 s5 np ep lrs' hrs'
            have lrs1 : rs'.length = 1 := lrs'
            obtain ⟨r0, rfl⟩ : ∃ r0, rs' = [r0] := by
              match rs', lrs1 with
              | [r0], _ => exact ⟨r0, rfl⟩
            have er0 : G2 r0 = some (.tup [.int (arr.getD dd 0 + d.s * ((w0.length : Int) - 1)), .int (dd : Int)]) := hrs' 0 r0 _ rfl rfl
            rw [boxT_at egt ew] at er0
            refine ⟨p, _, _, _, rfl, rfl, .inl (.inl ep), atI_nat (j := 0) rfl, r0, _, _, _, rfl, rfl, .inl (.inl er0), atI_nat (j := 0) rfl, .int t, rfl, _, _, rfl, rfl, _, rfl, ?_⟩
            have eD5 := s5 _ _ eD
            have els := lateN_snoc (gs := gs) (wl := wl) (arr := arr) (s := d.s) (t := t) eb
            by_cases hlt : t < boxT gs wl arr d.s b
            · rw [if_pos hlt] at els
              rw [decide_eq_true hlt]
              refine iteT ⟨.int (b : Int), rfl, _, eD5, ?_, same_mut (sm.trans s5) nD2, ?_⟩
              · rw [nats_len]
                have : (lateN gs wl arr d.s t (bs.take i)).length ≤ (bs.take i).length := List.length_filter_le _ _
                rw [List.length_take] at this
                omega
              · rw [upd_same, els]
                unfold nats
                rw [List.map_append]
                rfl
            · rw [if_neg hlt] at els
              rw [decide_eq_false hlt]
              refine iteF ⟨sm.trans s5, ?_⟩
              rw [els]
              exact eD5
          rintro H3 ⟨s3, eL⟩
          rw [nats_len, List.take_of_length_le (Nat.le_refl _)] at eL
          have s03 := s02.trans s3
          have late_nil : lateN gs wl arr d.s t bs = [] ↔ ∀ b ∈ bs, boxT gs wl arr d.s b ≤ t := by
            unfold lateN
            rw [List.filter_eq_nil_iff]
            constructor
            · intro h b hb
              have := h b hb
              have : ¬ t < boxT gs wl arr d.s b := fun z => this (decide_eq_true z)
              omega
            · intro h b hb z
              have := h b hb
              have := of_decide_eq_true z
              omega
          have no : ∀ H', Same H H' → ¬ ((∀ b ∈ bs, boxT gs wl arr d.s b ≤ t) ∧ ∃ l : List Nat, po = natsO l ∧ PthN gs c l ∧ ptN gs wl d l (l.length - 1) = t) → Q (.bl false) H' := fun H' sm hn => q false H' sm ⟨fun z => (by cases z), fun z => by
            rcases (hold z).way with ⟨h1, _⟩ | ⟨_, h1, h2⟩
            · rw [ebs] at h1
              exact absurd h1 ne
            · rw [ebs] at h1
              exact absurd ⟨h1, h2⟩ hn⟩
          refine ⟨.ref D2, rfl, !(nats (lateN gs wl arr d.s t bs)).isEmpty, .inl ⟨_, .inl (.inl eL), rfl⟩, _, rfl, ?_⟩
          by_cases hl0 : lateN gs wl arr d.s t bs = []
          · rw [hl0]
            refine iteT ⟨.ref G, rfl, .str c, rfl, vp, rfl, dd, cc, .ref G, vp, c, gs, po, rfl, hg.same s03, hop.same s03, ok.gate, gl, fp, hc, gsm, fun bp H4 s4 hbp => ⟨_, rfl, ?_⟩⟩
            cases bp with
            | false =>
              refine iteF (no _ (s03.trans s4) fun z => ?_)
              obtain ⟨l, e1, e2, _⟩ := z.2
              have := hbp.mpr ⟨l, e1, e2⟩
              cases this
            | true =>
              obtain ⟨l, rfl, hp⟩ := hbp.mp rfl
              have lp := fp _ rfl
              rw [List.length_map, List.length_map] at lp
              obtain ⟨PA, pvs, rfl, ePA, pal⟩ := hop.inv_tup
              obtain rfl := allo_ints pal
              have s04 := s03.trans s4
              refine iteT ⟨.ref G, rfl, .ref W, rfl, .ref PA, rfl, .ref a, rfl, .ref G, .ref W, PA, a, gs, wl, d, c, l, rfl, hg.same s04, hw.same s04, by rw [← map_ints]; exact s04 _ _ ePA, sqt_same hd s04, ok, od, gl, lp, hp, fun H5 s5 => ⟨.int t, rfl, rfl, ?_⟩⟩
              have s05 := s04.trans s5
              by_cases hpt : ptN gs wl d l (l.length - 1) = t
              · rw [decide_eq_true (by rw [hpt])]
                exact q true _ s05 ⟨fun _ => ⟨t, _, arr, rfl, ht, harr, .inr ⟨by rw [ebs]; exact ne, by rw [ebs]; exact late_nil.mp hl0, l, rfl, hp, hpt⟩⟩, fun _ => rfl⟩
              · rw [decide_eq_false fun z => hpt (V.int.inj z)]
                refine no _ s05 fun z => ?_
                obtain ⟨l', e1, e2, e3⟩ := z.2
                have : l = l' := natsO_inj e1
                rw [← this] at e3
                exact hpt e3
          · have ne2 : (nats (lateN gs wl arr d.s t bs)).isEmpty = false := by
              cases h : lateN gs wl arr d.s t bs with
              | nil => exact absurd h hl0
              | cons x xs => rfl
            rw [ne2]
            exact iteF (no _ s03 fun z => hl0 (late_nil.mpr z.1))
end
end K80

namespace K80
open PySem PySem.Spec PyProof.Rows L2 Kit X15
/-! ### the law's own: the time of any path -/
theorem mxi_mem {l : List Int} (h : l ≠ []) : mxi l ∈ l ∧ ∀ x ∈ l, x ≤ mxi l := by
  unfold mxi
  cases e : l.max? with
  | none => exact absurd (List.max?_eq_none_iff.mp e) h
  | some m => exact List.max?_eq_some_iff.mp e
theorem wl_at {wl : List (List Way)} {k : Nat} {ws : List Way} (ew : wl[k]? = some ws) : wl.getD k [] = ws := by rw [List.getD_eq_getElem?_getD, ew]; rfl
def spPT (K : PySem.W.Frag) : Sp := fun vs H Q _ => ∃ (vm vy : V) (pa oa : Addr) (gs : List Gt) (cs : List (Int × Int)) (wl : List (List Way)) (d : Own) (c : Str) (l : List Nat),
  vs = [vm, vy, .ref pa, .ref oa, .str c] ∧ TdR H (netT gs) vm ∧ TdR H (layT cs wl) vy ∧ H pa = some (.tup (nats l)) ∧ SqT K H oa (ownV d) ∧ Okl gs wl ∧ d.ok ∧ gs.length ≤ 1000 ∧ okZ c ∧ (∀ g ∈ gs, g.sm) ∧
  l.length ≤ 1000000 ∧ (∀ k ∈ l, k < gs.length) ∧
  ∀ (v : V) (H' : Hp), Same H H' → ((¬ PthN gs c l ∧ v = .non) ∨ (PthN gs c l ∧ v = .int (ptN gs wl d l (l.length - 1)))) → Q v H'
def StepOk (gs : List Gt) (l : List Nat) (j : Nat) : Prop := ∃ g, gs[l.getD (j + 1) 0]? = some g ∧ l.getD j 0 ∈ g.feeds ∧ (j + 2 < l.length → g.fed = true)
theorem selL_lens {gt : Gt} {ws : List Way} {d : Own} {y m : Nat} (lw : ws.length = gt.feeds.length) :
    ∀ n, n ≤ gt.feeds.length → selL gt.feeds (lbr (List.replicate m 0) gt ws d) y n = (lensTo gt.feeds (lens ws) y n).map fun z => d.s * z + ownF d gt
  | 0, _ => rfl
  | n + 1, h => by
    have ih := selL_lens (d := d) (y := y) (m := m) lw n (by omega)
    rw [selL_succ, lensTo_succ, ih]
    by_cases e : gt.feeds[n]? = some y
    · rw [if_pos e, if_pos e, List.map_append]
      congr 1
      obtain ⟨wi, ewi⟩ : ∃ wi, ws[n]? = some wi := ⟨ws[n]'(by omega), List.getElem?_eq_getElem _⟩
      have h1 : (lbr (List.replicate m 0) gt ws d).getD n 0 = 0 + d.s * ((wi.length : Int) - 1) + gt.more d := by
        refine getD_at ?_
        unfold lbr
        rw [List.getElem?_map, bro_at e (show (lens ws)[n]? = some wi.length by unfold lens; rw [List.getElem?_map, ewi]; rfl)]
        have hz : (List.replicate m (0 : Int)).getD y 0 = 0 := by
          rw [List.getD_eq_getElem?_getD, List.getElem?_replicate]
          split <;> rfl
        rw [hz]
        rfl
      have h2 : (lens ws).getD n 0 = wi.length := getD_at (by unfold lens; rw [List.getElem?_map, ewi]; rfl)
      rw [h1, h2, Int.zero_add]
      rfl
    · rw [if_neg e, if_neg e]
theorem sel_step {gs : List Gt} {wl : List (List Way)} {d : Own} {gt : Gt} {ws : List Way} {x y m : Nat} {z : Int} (hs : 0 ≤ d.s) (eg : gs[x]? = some gt) (ew : wl[x]? = some ws) (lw : ws.length = gt.feeds.length)
    (h1 : z ∈ selL gt.feeds (lbr (List.replicate m 0) gt ws d) y gt.feeds.length) (h2 : ∀ u ∈ selL gt.feeds (lbr (List.replicate m 0) gt ws d) y gt.feeds.length, u ≤ z) : z = stepT gs wl d y x := by
  rw [selL_lens lw _ (Nat.le_refl _)] at h1 h2
  obtain ⟨q, hq, rfl⟩ := List.mem_map.mp h1
  obtain ⟨mm, mx⟩ := mxi_mem (List.ne_nil_of_mem hq)
  have h3 := h2 _ (List.mem_map.mpr ⟨_, mm, rfl⟩)
  have h4 : d.s * q ≤ d.s * mxi (lensTo gt.feeds (lens ws) y gt.feeds.length) := Int.mul_le_mul_of_nonneg_left (mx _ hq) hs
  unfold stepT
  rw [eg]
  show _ = d.s * mxi (lensTo gt.feeds (lens (wl.getD x [])) y gt.feeds.length) + _
  rw [wl_at ew]
  omega
section
variable {P : Program} {w : World} {K : PySem.W.Frag} {mg : Str → Option Value} {base : Heap}
theorem ok_l_pt {f : Addr} {fd : FuncData} (D : DefAt K mg "_law_path_time" ["_law_net_here", "_law_laying_here", "_law_path", "_law_own", "_law_clock"] s_l_path_time f fd) (M : Bi mg)
    (C_l_feeds : Cal P w K mg base L2.CX0 1 "_law_feeds" ["_law_gate"] spFeeds)
    (C_l_bring : Cal P w K mg base L2.CX0 2 "_law_bring" ["_law_net_here", "_law_laying_here", "_law_said", "_law_own", "_law_k"] (spBring K)) (C_l_moved : Cal P w K mg base L2.CX0 1 "_law_moved" ["_law_gate"] spMoved) :
    Cal P w K mg base L2.CX0 3 "_law_path_time" ["_law_net_here", "_law_laying_here", "_law_path", "_law_own", "_law_clock"] (spPT K) := by
  have S := S_l_path_time
  refine cal_of D.fn D.mgf D.bs D.kbs S (fun vs H Q E h => ?_) (fun cdv A outer s H vs Q E hq hr h => ?_)
  · obtain ⟨vm, vy, pa, oa, gs, cs, wl, d, c, l, rfl, _⟩ := h
    rfl
  · obtain ⟨vm, vy, pa, oa, gs, cs, wl, d, c, l, rfl, hm, hy, hp, ho, ok, od, gl, hc, gsm, ll, hlt, q⟩ := h
    refine ⟨_, (pss_cons (ps_set (i := 5) S.nd rfl (.inl rfl) (pe_ix ix_tup (pv 0) pe_int (fun _ _ => rfl)))
 (pss_cons (ps_if (PW.pt (pw_or (pt_cmpR op_lt (pe_callB call_len_seq (by rfl) M.len_ (by decide +kernel) (pa_cons (pv 2) pa_nil)) pe_int (nomark _)) (pw_or (pt_val (pe_c C_l_moved pass0 hq hr (by omega) (by rfl) (pa_cons (pe_ix ix_tup (pv 5) (pe_ix ix_tup (pv 2) pe_int (fun _ _ => rfl)) (fun _ _ => rfl)) pa_nil))) (pw_or1 (pt_cmpR (op_neD hr.units) (pe_slice X9.sl_tupA (pe_ix ix_tup (pv 5) (pe_ix ix_tup (pv 2) (pe_un un_neg pe_int) (fun _ _ => rfl)) (fun _ _ => rfl)) po_none (po_some pe_int)) (pe_tup (pa_cons pe_str (pa_cons (pv 4) pa_nil))) (nomark _))))))
  (pss_one (ps_ret pe_non))
  pss_nil)
 (pss_cons (ps_par (i := 6) (j := 7) rfl S.nd rfl rfl (by decide) rfl rfl (pa_cons pe_int (pa_cons (pe_op op_rep (pe_lst (pa_cons pe_int pa_nil)) (pe_callB call_len_seq (by rfl) M.len_ (by decide +kernel) (pa_cons (pv 5) pa_nil))) pa_nil)) (by rfl))
 (pss_cons (ps_for PassesOwn.never rfl (pi_range2 (by rfl) M.range_ (pa_cons pe_int (pa_cons (pe_callB call_len_seq (by rfl) M.len_ (by decide +kernel) (pa_cons (pv 2) pa_nil)) pa_nil))) (pg_name (i := 8) S.nd rfl (.inr rfl))
  (pss_cons (ps_set (i := 9) S.nd rfl (.inr rfl) (pe_c C_l_feeds pass0 hq hr (by omega) (by rfl) (pa_cons (pe_ix ix_tup (pv 5) (pe_ix ix_tup (pv 2) (pv 8) (fun _ _ => rfl)) (fun _ _ => rfl)) pa_nil)))
 (pss_cons (ps_if (PW.pt (pw_or (PW.pt (pw_and (pt_cmpR op_lt (pv 8) (pe_op op_sub (pe_callB call_len_seq (by rfl) M.len_ (by decide +kernel) (pa_cons (pv 2) pa_nil)) pe_int) (nomark _)) (pw_and1 (pt_not (pt_val (pe_c C_l_moved pass0 hq hr (by omega) (by rfl) (pa_cons (pe_ix ix_tup (pv 5) (pe_ix ix_tup (pv 2) (pv 8) (fun _ _ => rfl)) (fun _ _ => rfl)) pa_nil))))))) (pw_or1 (pt_cmpR op_notIn_seq (pe_ix ix_tup (pv 2) (pe_op op_sub (pv 8) pe_int) (fun _ _ => rfl)) (pv 9) rfl))))
  (pss_one (ps_ret pe_non))
  pss_nil)
 (pss_cons (ps_set (i := 10) S.nd rfl (.inr rfl) (pe_c C_l_bring pass0 hq hr (by omega) (by rfl) (pa_cons (pv 0) (pa_cons (pv 1) (pa_cons (pv 7) (pa_cons (pv 3) (pa_cons (pe_ix ix_tup (pv 2) (pv 8) (fun _ _ => rfl)) pa_nil)))))))
 (pss_one (ps_set (i := 6) S.nd rfl (.inl rfl) (pe_op op_add (pv 6) (pe_callB (cr_max rfl) (by rfl) M.max_ (by decide +kernel) (pa_cons (pe_lc (own := [("_law_j", 11)]) (g := gName 11) (tt := (tTest (tOp rEq (tOp (rIxT K) (tVar 9) (tVar 11)) (tOp (rIxT K) (tVar 2) (tOp (rI0 fun i j => .int (i - j)) (tVar 8) (tC (.int 1))))))) (te := (tOp (rIxL K) (tVar 10) (tVar 11))) rfl S.nd (pi_range1 (by rfl) M.range_ (pa_cons (pe_callB call_len_seq (by rfl) M.len_ (by decide +kernel) (pa_cons (pv 9) pa_nil)) pa_nil)) (blkOk_by (own := [("_law_j", 11)]) (N := N_l_path_time) (sc := defScope s_l_path_time) (by decide +kernel)) (fun _ _ _ _ _ => pg_name (i := 11) S.nd rfl (.inl rfl)) (fun _ _ _ _ _ => (pts_one (pt_cmpR op_eq (pe_ix ix_tup (pv 9) (pv 11) (fun _ _ => rfl)) (pe_ix ix_tup (pv 2) (pe_op op_sub (pv 8) pe_int) (fun _ _ => rfl)) (nomark _)))) (fun _ _ _ _ _ => (pe_ix ix_list (pv 10) (pv 11) (fun _ _ => rfl)))) pa_nil)))))))))
 (pss_one (ps_ret (pv 6))))))), ?_⟩
    obtain ⟨N, G, gvs, nr, rfl, eN, hg, hG, gal, lg⟩ := net_inv hm
    have lsz : gs.length < sizeLine := Nat.lt_of_le_of_lt gl (by decide)
    have big : 1000000 < sizeLine := by decide
    have bnd : ∀ n : Nat, n ≤ 1000001 → -(2 ^ 62) ≤ (n : Int) ∧ (n : Int) < 2 ^ 62 := fun n h => by omega
    have lnl : (nats l).length = l.length := nats_len l
    have no : ∀ H', Same H H' → ¬ PthN gs c l → Q .non H' := fun H' sm hn => q .non H' sm (.inl ⟨hn, rfl⟩)
    have hget : ∀ i, i < l.length → l.getD i 0 < gs.length := fun i hi => hlt _ (by
      rw [List.getD_eq_getElem?_getD, List.getElem?_eq_getElem hi]
      exact List.getElem_mem hi)
    have gat : ∀ {k : Nat} {H' : Hp}, k < gs.length → Same H H' → ∃ g gA, gs[k]? = some g ∧ gvs[k]? = some (.ref gA) ∧ H' gA = some (.tup g.vs) ∧ TdR H' g.td (.ref gA) := by
      intro k H' hk sm
      obtain ⟨g, eg⟩ : ∃ g, gs[k]? = some g := ⟨gs[k], List.getElem?_eq_getElem hk⟩
      obtain ⟨v, ev, tv⟩ := all2_get gal (i := k) (t := g.td) (by rw [List.getElem?_map, eg]; rfl)
      obtain ⟨gA, rfl, e⟩ := gt_at (tv.same sm)
      exact ⟨g, gA, eg, ev, e, tv.same sm⟩
    refine ⟨.ref N, rfl, N, _, _, _, rfl, rfl, .inl (.inl eN), atI_nat (j := 0) rfl, ?_⟩
    refine ⟨.ref pa, rfl, pa, nats l, rfl, .inr (.inl (.inl hp)), _, _, rfl, rfl, _, rfl, ?_⟩
    rw [lnl]
    by_cases h2 : 2 ≤ l.length
    · rw [decide_eq_false (show ¬ (l.length : Int) < 2 by omega)]
      refine iteF ?_
      obtain ⟨g0, a0, eg0, ev0, ea0, ta0⟩ := gat (hget 0 (by omega)) (Same.refl H)
      refine ⟨.ref G, rfl, .ref pa, rfl, pa, _, _, _, rfl, rfl, .inl (.inl hp), atI_nat (nats_getD (i := 0) (by omega)), G, _, _, _, rfl, rfl, .inl (.inl hG), atI_nat ev0, _, g0, gs.length, _, rfl, ta0, ok.gate _ g0 eg0, fun H1 s1 => ⟨_, rfl, ?_⟩⟩
      cases hf0 : g0.fed with
      | true =>
        refine iteT (iteT (no _ s1 fun z => ?_))
        obtain ⟨g, e, hf⟩ := z.src
        rw [eg0] at e
        cases e
        rw [hf0] at hf
        cases hf
      | false =>
        refine iteF ?_
        have eA1 := s1 _ _ hp
        have hG1 := s1 _ _ hG
        obtain ⟨g1, a1, eg1, ev1, ea1, ta1⟩ := gat (hget (l.length - 1) (by omega)) s1
        have ok1 := ok.gate _ g1 eg1
        have sm1 := gsm g1 (List.mem_of_getElem? eg1)
        refine ⟨.ref G, rfl, .ref pa, rfl, _, rfl, pa, _, _, _, rfl, rfl, .inl (.inl eA1), last_nats (by omega), G, gvs, _, _, rfl, rfl, .inl (.inl hG1), atI_nat ev1, 2, rfl, cut_eq ea1 ok1 sm1 hc rfl fun v H2 s2 hB => ?_⟩
        obtain ⟨B, rfl, eB⟩ := hB
        refine ⟨.str c, rfl, (by decide : (2 : Nat) ≤ sizeLine), fun p np => ?_⟩
        have s3 := same_new (o := .tup [.str "box", .str c]) np
        refine ⟨_, _, box_dp (s3 _ _ eB), clk_dp upd_same, box_sh ok1 sm1, clk_sh hc, _, rfl, ?_⟩
        rw [box_eqv ok1]
        have s03 := (s1.trans s2).trans s3
        revert s03
        generalize upd H2 p (.tup [.str "box", .str c]) = H3
        intro s03
        cases hb1 : g1.isBox c with
        | false =>
          refine iteT (no _ s03 fun z => ?_)
          obtain ⟨bit, dd, e⟩ := z.snk
          rw [eg1] at e
          cases e
          rw [isBox_iff.mpr ⟨bit, dd, rfl⟩] at hb1
          cases hb1
        | true =>
          refine iteF ?_
          refine ⟨(by decide : (1 : Nat) ≤ sizeLine), fun z1 nz1 => ?_⟩
          have s5 := s03.trans (same_new (o := .lst [.int 0]) nz1)
          refine ⟨.ref G, rfl, G, gvs, rfl, .inr (.inl (.inl (s5 _ _ hG))), z1, _, _, rfl, rfl, upd_same, by omega, by omega, ?_, fun Z nZ => ?_⟩
          · show 1 * gvs.length ≤ sizeLine
            omega
          have nZ0 : H Z = none := none_back s5 nZ
          generalize eH6 : upd _ Z _ = H6
          have s6 : Same H H6 := eH6 ▸ s5.trans (same_new nZ)
          have eZ : H6 Z = some (.lst ((List.replicate gvs.length (0 : Int)).map V.int)) := by
            rw [← eH6, upd_same]
            exact congrArg some (congrArg HO.lst (zeros_eq gvs.length))
          refine ⟨_, _, rfl, ?_⟩
          refine ⟨.ref pa, rfl, pa, nats l, rfl, .inr (.inl (.inl (s6 _ _ hp))), 1, _, rfl, ⟨by decide, by decide, (bnd _ (by omega)).1, (bnd _ (by omega)).2⟩, ?_⟩
          have ej : (((nats l).length : Int) - 1).toNat = l.length - 1 := by omega
          rw [ej]
          refine for_range (lo := 1) (n := l.length - 1) (fun i σ H' => Same H H' ∧ H' Z = some (.lst ((List.replicate gvs.length (0 : Int)).map V.int)) ∧ (∀ j, j < i → StepOk gs l j) ∧ ∃ x8 x9 x10 x11 : Option V,
            σ = [some (.ref N), some vy, some (.ref pa), some (.ref oa), some (.str c), some (.ref G), some (.int (ptN gs wl d l i)), some (.ref Z), x8, x9, x10, x11]) ?_ ?_ ?_
          · exact ⟨s6, eZ, fun j h => absurd h (Nat.not_lt_zero _), none, none, none, none, rfl⟩
          · rintro i σ H' hi ⟨sm, eZ', hst, x8, x9, x10, x11, rfl⟩
            rw [show (1 : Int) + (i : Int) = ((i + 1 : Nat) : Int) by omega]
            have ei : (((i + 1 : Nat) : Int) - 1) = (i : Int) := by omega
            obtain ⟨x, exx⟩ : ∃ x, l.getD (i + 1) 0 = x := ⟨_, rfl⟩
            obtain ⟨y, eyy⟩ : ∃ y, l.getD i 0 = y := ⟨_, rfl⟩
            have hxn := hget (i + 1) (by omega)
            rw [exx] at hxn
            obtain ⟨gt, gA, egt, evx, eax, tx⟩ := gat hxn sm
            obtain ⟨ws, ew, lw, hws⟩ := ok.at egt
            have okx := ok.gate _ gt egt
            have ex := nats_getD (l := l) (i := i + 1) (by omega)
            have ey := nats_getD (l := l) (i := i) (by omega)
            rw [exx] at ex
            rw [eyy] at ey
            have eiy : atI (nats l) (((i + 1 : Nat) : Int) - 1) = some (.int (y : Int)) := by
              rw [ei]
              exact atI_nat ey
            refine ⟨.ref G, rfl, .ref pa, rfl, .int ((i + 1 : Nat) : Int), rfl, pa, _, _, _, rfl, rfl, .inl (.inl (sm _ _ hp)), atI_nat ex, G, _, _, _, rfl, rfl, .inl (.inl (sm _ _ hG)), atI_nat evx, _, gt, gs.length, x, rfl, tx, okx, fun fv H2 s7 tf => ?_⟩
            obtain ⟨Fg, fvs, rfl, hFg, fal⟩ := tf.inv_tup
            obtain rfl := all2_ints fal
            have sm2 := sm.trans s7
            refine ⟨.int ((i + 1 : Nat) : Int), rfl, .ref pa, rfl, pa, nats l, rfl, .inr (.inl (.inl (sm2 _ _ hp))), _, _, rfl, rfl, _, _, rfl, rfl, _, rfl, ?_⟩
            by_cases hk : i + 1 < l.length - 1
            rotate_left
            rw [decide_eq_false (by omega)]
            refine iteF ?_
            refine iteF ?_
            have hfx2 : i + 2 < l.length → gt.fed = true := fun h => absurd h (by omega)
            obtain ⟨H3, e3⟩ : ∃ H3, H3 = H2 := ⟨_, rfl⟩
            have s8 : Same H2 H3 := by
              rw [e3]
              exact Same.refl _
            rw [← e3]
            rotate_left
            rw [decide_eq_true (by omega)]
            refine iteT ?_
            refine ⟨.ref G, rfl, .ref pa, rfl, .int ((i + 1 : Nat) : Int), rfl, pa, _, _, _, rfl, rfl, .inl (.inl (sm2 _ _ hp)), atI_nat ex, G, _, _, _, rfl, rfl, .inl (.inl (sm2 _ _ hG)), atI_nat evx, _, gt, gs.length, x, rfl, tx.same s7, okx, fun H3 s8 => ⟨_, rfl, ?_⟩⟩
            by_cases hfx : gt.fed = false
            · rw [hfx]
              refine iteT (iteT (no _ (sm2.trans s8) fun z => ?_))
              obtain ⟨g, e, hf⟩ := z.mid (i + 1) (by omega) (by omega)
              rw [exx, egt] at e
              cases e
              rw [hfx] at hf
              cases hf
            have hfx2 : i + 2 < l.length → gt.fed = true := fun _ => (Bool.eq_false_or_eq_true gt.fed).resolve_right hfx
            rw [(Bool.eq_false_or_eq_true gt.fed).resolve_right hfx]
            refine iteF ?_
            all_goals
              have sm3 := sm2.trans s8
              refine ⟨.ref pa, rfl, .int ((i + 1 : Nat) : Int), rfl, _, _, rfl, rfl, pa, _, _, _, rfl, rfl, .inl (.inl (sm3 _ _ hp)), eiy, .ref Fg, rfl, Fg, _, rfl, .inr (.inl (.inl (s8 _ _ hFg))), rfl, flat_nats _, _, rfl, ?_⟩
              refine (show (if (if true = true then !inV (.int (y : Int)) (nats gt.feeds) else inV (.int (y : Int)) (nats gt.feeds)) = true then _ else _) from ?_)
              by_cases hyf : y ∈ gt.feeds
              · have ein : (if true = true then !inV (.int (y : Int)) (nats gt.feeds) else inV (.int (y : Int)) (nats gt.feeds)) = false := by
                  rw [if_pos rfl, inV_nats hyf]
                  rfl
                rw [ein]
                refine iteF ?_
                have eZ3 := s8 _ _ (s7 _ _ eZ')
                refine ⟨.ref N, rfl, vy, rfl, .ref Z, rfl, .ref oa, rfl, .ref pa, rfl, .int ((i + 1 : Nat) : Int), rfl, pa, _, _, _, rfl, rfl, .inl (.inl (sm3 _ _ hp)), atI_nat ex, _, _, .ref Z, oa, gs, cs, wl, List.replicate gvs.length 0, d, x, gt, ws, rfl, hm.same sm3, hy.same sm3, .lst (.inl (.inl eZ3)), sqt_same ho sm3, ok, od, egt, ew, fun f hf => by rw [List.length_replicate, lg]; exact feeds_lt okx hxn f hf, ?_⟩
                intro p H4 s9 np ep
                have sm4 := sm3.trans s9
                have lbl : (lbr (List.replicate gvs.length 0) gt ws d).length = gt.feeds.length := by
                  unfold lbr bro lens
                  rw [List.length_map, List.length_zipWith, List.length_map, lw, Nat.min_self]
                have lfs : (nats gt.feeds).length = gt.feeds.length := nats_len _
                have hfl := gt.feeds_le
                have eFg4 := s9 _ _ (s8 _ _ hFg)
                refine ⟨.int (ptN gs wl d l i), rfl, .ref Fg, rfl, Fg, nats gt.feeds, rfl, .inr (.inl (.inl eFg4)), _, rfl, (bnd _ (by omega)).1, (bnd _ (by omega)).2, ?_⟩
                intro D1 nD
                refine lc_range (lo := 0) (n := (nats gt.feeds).length) (fun j H' => Same H4 H' ∧ H' D1 = some (.lst ((selL gt.feeds (lbr (List.replicate gvs.length 0) gt ws d) y j).map V.int))) ?_ ?_ ?_
                · exact ⟨same_new nD, upd_same⟩
                · rintro j H' hj ⟨sj, eD⟩
                  rw [Int.zero_add]
                  rw [lfs] at hj
                  obtain ⟨fj, efj⟩ : ∃ fj, gt.feeds[j]? = some fj := ⟨gt.feeds[j], List.getElem?_eq_getElem hj⟩
                  have sp := sm4.trans sj
                  refine ⟨rfl, ?_⟩
                  refine ⟨.ref Fg, rfl, .int (j : Int), rfl, Fg, _, _, _, rfl, rfl, .inl (.inl (sj _ _ eFg4)), atI_nat (nats_at efj), .ref pa, rfl, .int ((i + 1 : Nat) : Int), rfl, _, _, rfl, rfl, pa, _, _, _, rfl, rfl, .inl (.inl (sp _ _ hp)), eiy, rfl, _, rfl, ?_⟩
                  have es := selL_succ (fs := gt.feeds) (L := lbr (List.replicate gvs.length 0) gt ws d) (y := y) (n := j)
                  by_cases hfy : fj = y
                  · rw [if_pos (by rw [efj, hfy])] at es
                    rw [decide_eq_true (by rw [hfy])]
                    refine iteT ?_
                    refine ⟨.ref p, rfl, .int (j : Int), rfl, p, _, _, _, rfl, rfl, .inl (.inl (sj _ _ ep)), atI_nat (arr_at (by rw [lbl]; exact hj)), _, eD, ?_, same_mut sj nD, ?_⟩
                    · rw [List.length_map]
                      unfold selL
                      rw [List.length_map]
                      have h9 := List.length_filter_le (fun k => decide (gt.feeds[k]? = some y)) (List.range j)
                      rw [List.length_range] at h9
                      have : 2 < sizeLine := by decide
                      omega
                    · rw [upd_same, es, List.map_append]
                      rfl
                  · rw [if_neg (by rw [efj]; exact fun z => hfy (Option.some.inj z))] at es
                    rw [decide_eq_false (show ¬ (V.int (fj : Int) = V.int (y : Int)) from fun z => hfy (Int.ofNat.inj (V.int.inj z)))]
                    refine iteF ?_
                    rw [es]
                    exact ⟨sj, eD⟩
                rintro H5 ⟨s10, eD⟩
                rw [lfs] at eD
                obtain ⟨j0, hj0, ej0⟩ : ∃ j, j < gt.feeds.length ∧ gt.feeds[j]? = some y := by
                  obtain ⟨j, hj⟩ := List.mem_iff_getElem?.mp hyf
                  exact ⟨j, (List.getElem?_eq_some_iff.mp hj).1, hj⟩
                refine ⟨D1, _, rfl, .inl (.inl eD), List.length_pos_of_mem (selL_mem.mpr ⟨j0, hj0, ej0, rfl⟩), fun m hmm hle => ?_⟩
                refine ⟨_, _, rfl, rfl, sm4.trans s10, s10 _ _ (s9 _ _ eZ3), fun j hj => ?_, some (.int ((i + 1 : Nat) : Int)), some (.ref Fg), some (.ref p), x11, ?_⟩
                · by_cases hji : j = i
                  · subst hji
                    exact ⟨gt, by rw [exx]; exact egt, by rw [eyy]; exact hyf, hfx2⟩
                  · exact hst j (by omega)
                · rw [ptN, exx, eyy, ← sel_step od.1 egt ew lw hmm hle]
                  rfl
              · have ein : (if true = true then !inV (.int (y : Int)) (nats gt.feeds) else inV (.int (y : Int)) (nats gt.feeds)) = true := by
                  rw [if_pos rfl, inV_natsD, decide_eq_false hyf]
                  rfl
                rw [ein]
                refine iteT (no _ sm3 fun z => ?_)
                obtain ⟨g, e, hf⟩ := z.con i (by omega)
                rw [exx, egt] at e
                cases e
                rw [eyy] at hf
                exact hyf hf
          · rintro σ H' ⟨sm, eZ', hst, x8, x9, x10, x11, rfl⟩
            refine ⟨.int _, rfl, ?_⟩
            refine q _ H' sm (.inr ⟨⟨h2, hlt, ⟨g0, eg0, hf0⟩, ?_, fun i h0 h1 => ?_, fun i h1 => ?_⟩, rfl⟩)
            · obtain ⟨bit, dd, e⟩ := isBox_iff.mp hb1
              exact ⟨bit, dd, by rw [eg1, e]⟩
            · obtain ⟨g, h3, h4, h5⟩ := hst (i - 1) (by omega)
              rw [show i - 1 + 1 = i by omega] at h3
              exact ⟨g, h3, h5 (by omega)⟩
            · obtain ⟨g, h3, h4, h5⟩ := hst i (by omega)
              exact ⟨g, h3, h4⟩
    · rw [decide_eq_true (show (l.length : Int) < 2 by omega)]
      exact iteT (iteT (no H (Same.refl H) fun z => h2 z.two))
end
end K80

namespace K80
open PySem PySem.Spec PyProof.Rows L2 Kit X15
/-! ### the law's own: what is due -/
/-- numbers in it are below -/
def Und (B : Int) (o : Ob) : Prop := ∀ t p r, o = .tup [t, p, r] → (∀ i, t = .int i → i < B) ∧ ∀ xs, r = .tup xs → xs.length ≤ 1000000 ∧ ∀ i, Ob.int i ∈ xs → i < B
def spLDue (K : PySem.W.Frag) : Sp := fun vs H Q _ => ∃ (dd cc : Addr) (vm vy v : V) (oa : Addr) (gs : List Gt) (cs : List (Int × Int)) (wl : List (List Way)) (d : Own) (c : Str) (o : Ob),
  vs = [vm, vy, .ref oa, .str c, v] ∧ TdR H (netT gs) vm ∧ TdR H (layT cs wl) vy ∧ SqT K H oa (ownV d) ∧ ObR dd cc H o v ∧ Okl gs wl ∧ d.ok ∧ gs.length ≤ 1000 ∧ FewP o ∧ okZ c ∧ (∀ g ∈ gs, g.sm) ∧ Und (10 ^ 41) o ∧
  ∀ (b : Bool) (H' : Hp), Same H H' → (b = true ↔ HoldO gs wl d c o) → Q (.bl b) H'
theorem whole_nats {n : Nat} {l : List Nat} (h : ∀ k ∈ l, k < n) : ((l.map fun (k : Nat) => (k : Int)).map Ob.int).all (wholeB (n : Int)) = true := by
  rw [List.all_eq_true]
  intro o ho
  obtain ⟨i, hi, rfl⟩ := List.mem_map.mp ho
  obtain ⟨k, hk, rfl⟩ := List.mem_map.mp hi
  have := h k hk
  exact decide_eq_true ⟨by omega, by omega⟩
theorem whole_ints {B : Int} {l : List Int} (h : ∀ x ∈ l, 0 ≤ x) (h2 : ∀ x ∈ l, x < B) : (l.map Ob.int).all (wholeB B) = true := by
  rw [List.all_eq_true]
  intro o ho
  obtain ⟨i, hi, rfl⟩ := List.mem_map.mp ho
  exact decide_eq_true ⟨h i hi, h2 i hi⟩
theorem of_whole {B : Int} : ∀ {xs : List Ob}, xs.all (wholeB B) = true → ∃ arr : List Int, xs = arr.map Ob.int ∧ ∀ x ∈ arr, 0 ≤ x
  | [], _ => ⟨[], rfl, fun x h => by cases h⟩
  | o :: xs, h => by
    rw [List.all_cons, Bool.and_eq_true] at h
    obtain ⟨arr, rfl, ha⟩ := of_whole h.2
    cases o with
    | int i =>
      refine ⟨i :: arr, rfl, fun x hx => ?_⟩
      rcases List.mem_cons.mp hx with rfl | hx
      · exact (of_decide_eq_true h.1).1
      · exact ha x hx
    | _ => cases h.1
section
variable {P : Program} {w : World} {K : PySem.W.Frag} {mg : Str → Option Value} {base : Heap}
theorem ok_l_whole {f : Addr} {fd : FuncData} (D : DefAt K mg "_law_whole" ["_law_thing", "_law_top"] s_l_whole f fd) (M : Bi mg) : Cal P w K mg base L2.CX0 1 "_law_whole" ["_law_thing", "_law_top"] spWhole := by
  have S := S_l_whole
  refine cal_of D.fn D.mgf D.bs D.kbs S (fun vs H Q E h => ?_) (fun cdv A outer s H vs Q E hq hr h => ?_)
  · obtain ⟨d, c, o, v, e, rfl, _⟩ := h
    rfl
  · obtain ⟨d, c, o, v, e, rfl, ho, q⟩ := h
    refine ⟨_, (pss_one (ps_ret (pe_and (pe_callB call_isi (by rfl) M.isinstance_ (by decide +kernel) (pa_cons (pv 0) (pa_cons (pe_bltn (v := .ty "int") (u := .type "int") (by rfl) M.int_ (by decide +kernel) rfl) pa_nil))) (pe_and (pe_not (pe_callB call_isi (by rfl) M.isinstance_ (by decide +kernel) (pa_cons (pv 0) (pa_cons (pe_bltn (v := .ty "bool") (u := .type "bool") (by rfl) M.bool_ (by decide +kernel) rfl) pa_nil)))) (pe_one (pe_chain op_le op_lt pe_int (pv 0) (pv 1))))))), ?_⟩
    have t := ho.ty (K := K)
    refine ⟨v, rfl, _, _, _, _, _, rfl, .ty "int", t, kit_oi K o, isI o, rfl, ?_⟩
    cases o with
    | int i =>
      obtain rfl := ho.inv_int
      refine iteT ⟨.int i, rfl, _, _, _, _, _, rfl, .ty "bool", t, kit_ob K (.int i), false, rfl, true, rfl, iteT ⟨.int i, rfl, 0, i, rfl, rfl, _, rfl, ?_⟩⟩
      by_cases h : 0 ≤ i
      · rw [decide_eq_true h]
        refine iteT ⟨.int e, rfl, i, e, rfl, rfl, ?_⟩
        have e1 : decide (i < e) = wholeB e (.int i) := by
          show _ = decide (0 ≤ i ∧ i < e)
          by_cases h2 : i < e
          · rw [decide_eq_true h2, decide_eq_true ⟨h, h2⟩]
          · rw [decide_eq_false h2, decide_eq_false fun z => h2 z.2]
        show Q (V.bl (decide (i < e))) H
        rw [e1]
        exact q
      · have e1 : wholeB e (.int i) = false := decide_eq_false fun z => h z.1
        rw [e1] at q
        rw [decide_eq_false h]
        exact iteF q
    | bl b => exact iteT ⟨v, rfl, _, _, _, _, _, rfl, .ty "bool", t, kit_ob K (.bl b), true, rfl, false, rfl, iteF q⟩
    | non => exact iteF q
    | str z => exact iteF q
    | tup z => exact iteF q
    | lst z => exact iteF q
    | emp => exact iteF q
    | dic z => exact iteF q
theorem ok_due {f : Addr} {fd : FuncData} (D : DefAt K mg "_law_due" ["_law_net_here", "_law_laying_here", "_law_own", "_law_clock", "_law_thing"] s_l_due f fd) (M : Bi mg)
    (C_l_whole : Cal P w K mg base L2.CX0 1 "_law_whole" ["_law_thing", "_law_top"] spWhole)
    (C_l_bring : Cal P w K mg base L2.CX0 2 "_law_bring" ["_law_net_here", "_law_laying_here", "_law_said", "_law_own", "_law_k"] (spBring K)) (C_l_moved : Cal P w K mg base L2.CX0 1 "_law_moved" ["_law_gate"] spMoved)
    (C_l_time : Cal P w K mg base L2.CX0 3 "_law_time" ["_law_net_here", "_law_laying_here", "_law_said", "_law_own", "_law_clock"] (spLTime K))
    (C_l_path_time : Cal P w K mg base L2.CX0 3 "_law_path_time" ["_law_net_here", "_law_laying_here", "_law_path", "_law_own", "_law_clock"] (spPT K)) :
    Cal P w K mg base L2.CX0 4 "_law_due" ["_law_net_here", "_law_laying_here", "_law_own", "_law_clock", "_law_thing"] (spLDue K) := by
  have S := S_l_due
  refine cal_of D.fn D.mgf D.bs D.kbs S (fun vs H Q E h => ?_) (fun cdv A outer s H vs Q E hq hr h => ?_)
  · obtain ⟨dd, cc, vm, vy, v, oa, gs, cs, wl, d, c, o, rfl, _⟩ := h
    rfl
  · obtain ⟨dd, cc, vm, vy, v, oa, gs, cs, wl, d, c, o, rfl, hm, hy, hd, ho, ok, od, gl, fo, hc, gsm, und, q⟩ := h
    refine ⟨_, (pss_cons (ps_set (i := 5) S.nd rfl (.inl rfl) (pe_callB call_len_seq (by rfl) M.len_ (by decide +kernel) (pa_cons (pe_ix ix_tup (pv 0) pe_int (fun _ _ => rfl)) pa_nil)))
 (pss_cons (ps_if (PW.pt (pw_or (pt_not (pt_val (pe_callB call_isi (by rfl) M.isinstance_ (by decide +kernel) (pa_cons (pv 4) (pa_cons (pe_bltn (v := .ty "tuple") (u := .type "tuple") (by rfl) M.tuple_ (by decide +kernel) rfl) pa_nil))))) (pw_or (pt_cmpR op_ne (pe_callB call_len_seq (by rfl) M.len_ (by decide +kernel) (pa_cons (pv 4) pa_nil)) pe_int (nomark _)) (pw_or1 (pt_not (pt_val (pe_c C_l_whole pass0 hq hr (by omega) (by rfl) (pa_cons (pe_ix ix_tup (pv 4) pe_int (fun _ _ => rfl)) (pa_cons (pe_op op_pow pe_int pe_int) pa_nil)))))))))
  (pss_one (ps_ret pe_bl))
  pss_nil)
 (pss_cons (ps_asg (pv 4) (pg_tup (by rfl) (pgs_cons (pg_name (i := 6) S.nd rfl (.inl rfl)) (pgs_cons (pg_name (i := 7) S.nd rfl (.inl rfl)) (pgs_cons (pg_name (i := 8) S.nd rfl (.inl rfl)) pgs_nil)))))
 (pss_cons (ps_for PassesOwn.never rfl (pi_list (pe_lst (pa_cons (pe_tup (pa_cons (pv 7) (pa_cons (pv 5) pa_nil))) (pa_cons (pe_tup (pa_cons (pv 8) (pa_cons (pe_op op_pow pe_int pe_int) pa_nil))) pa_nil)))) (pg_tup (by rfl) (pgs_cons (pg_name (i := 9) S.nd rfl (.inl rfl)) (pgs_cons (pg_name (i := 10) S.nd rfl (.inr rfl)) pgs_nil)))
  (pss_one (ps_if (PW.pt (pw_or (pt_not (pt_val (pe_callB call_isi (by rfl) M.isinstance_ (by decide +kernel) (pa_cons (pv 9) (pa_cons (pe_bltn (v := .ty "tuple") (u := .type "tuple") (by rfl) M.tuple_ (by decide +kernel) rfl) pa_nil))))) (pw_or1 (pt_cmpR (op_neNil (room200 hr)) (pe_lc (own := [("_law_one", 11)]) (g := gName 11) rfl S.nd (pi_tup (pv 9)) (blkOk_by (own := [("_law_one", 11)]) (N := N_l_due) (sc := defScope s_l_due) (by decide +kernel)) (fun _ _ _ _ _ => pg_name (i := 11) S.nd rfl (.inl rfl)) (fun _ _ _ _ _ => (pts_one (pt_not (pt_val (pe_c C_l_whole pass0 hq hr (by omega) (by rfl) (pa_cons (pv 11) (pa_cons (pv 10) pa_nil))))))) (fun _ _ _ _ _ => pe_int)) (pe_lst pa_nil) (nomark _)))))
  (pss_one (ps_ret pe_bl))
  pss_nil)))
 (pss_cons (ps_if (pt_cmpR op_ne (pe_callB call_len_seq (by rfl) M.len_ (by decide +kernel) (pa_cons (pv 8) pa_nil)) (pv 5) (nomark _))
  (pss_one (ps_ret pe_bl))
  pss_nil)
 (pss_cons (ps_for PassesOwn.never rfl (pi_range1 (by rfl) M.range_ (pa_cons (pv 5) pa_nil)) (pg_name (i := 12) S.nd rfl (.inl rfl))
  (pss_one (ps_if (PW.pt (pw_and (pt_val (pe_c C_l_moved pass0 hq hr (by omega) (by rfl) (pa_cons (pe_ix ix_tup (pe_ix ix_tup (pv 0) pe_int (fun _ _ => rfl)) (pv 12) (fun _ _ => rfl)) pa_nil))) (pw_and1 (pt_cmpR op_gt (pe_callB (cr_max rfl) (by rfl) M.max_ (by decide +kernel) (pa_cons (pe_c C_l_bring pass0 hq hr (by omega) (by rfl) (pa_cons (pv 0) (pa_cons (pv 1) (pa_cons (pv 8) (pa_cons (pv 2) (pa_cons (pv 12) pa_nil)))))) pa_nil)) (pe_ix ix_tup (pv 8) (pv 12) (fun _ _ => rfl)) (nomark _)))))
  (pss_one (ps_ret pe_bl))
  pss_nil)))
 (pss_cons (ps_set (i := 9) S.nd rfl (.inl rfl) (pe_c C_l_time pass0 hq hr (by omega) (by rfl) (pa_cons (pv 0) (pa_cons (pv 1) (pa_cons (pv 8) (pa_cons (pv 2) (pa_cons (pv 3) pa_nil)))))))
 (pss_cons (ps_if (pt_cmpR op_isN (pv 9) pe_non (nomark _))
  (pss_one (ps_ret (pe_and (pe_cmpR op_eq (pv 6) pe_int (nomark _)) (pe_one (pe_cmpR (X15.op_eqE (room200 hr)) (pv 7) (pe_tup pa_nil) (nomark _))))))
  pss_nil)
 (pss_one (ps_ret (pe_and (pe_cmpR op_le (pv 9) (pv 6) (nomark _)) (pe_one (pe_cmpR op_eq (pe_c C_l_path_time pass0 hq hr (by omega) (by rfl) (pa_cons (pv 0) (pa_cons (pv 1) (pa_cons (pv 7) (pa_cons (pv 2) (pa_cons (pv 3) pa_nil)))))) (pv 6) (nomark _)))))))))))))), ?_⟩
    obtain ⟨N, G, gvs, nr, rfl, eN, hg, hG, gal, lg⟩ := net_inv hm
    have bnd : ∀ n : Nat, n ≤ 1000001 → -(2 ^ 62) ≤ (n : Int) ∧ (n : Int) < 2 ^ 62 := fun n h => by omega
    have big : 1000000 < sizeLine := by decide
    refine ⟨.ref N, rfl, N, _, _, _, rfl, rfl, .inl (.inl eN), atI_nat (j := 0) rfl, G, gvs, rfl, .inr (.inl (.inl hG)), ?_⟩
    refine ⟨v, rfl, _, _, _, _, _, rfl, .ty "tuple", ho.ty (K := K), kit_ot K o, isT o, rfl, ?_⟩
    have tupX : ∀ xs : List Ob, o = .tup xs → isT o = true := fun xs e => by
      rw [e]
      rfl
    cases hT : isT o with
    | false =>
      refine iteT (iteT (q false H (Same.refl H) ⟨fun z => (by cases z), fun z => ?_⟩))
      obtain ⟨t, po, arr, e, _⟩ := z
      rw [tupX _ e] at hT
      cases hT
    | true =>
    obtain ⟨xs, rfl⟩ : ∃ xs, o = .tup xs := by
      cases o with
      | tup xs => exact ⟨xs, rfl⟩
      | _ => cases hT
    obtain ⟨TH, us, rfl, eTH, al⟩ := ho.inv_tup
    refine iteF ?_
    have no : ∀ H', Same H H' → ¬ HoldO gs wl d c (.tup xs) → Q (.bl false) H' := fun H' sm hn => q false H' sm ⟨fun z => (by cases z), fun z => absurd z hn⟩
    refine ⟨.ref TH, rfl, TH, us, rfl, .inr (.inl (.inl eTH)), rfl, _, rfl, ?_⟩
    by_cases h3 : xs.length = 3
    rotate_left
    · have e3 : decide (V.int (us.length : Nat) = V.int 3) = false := decide_eq_false fun z => h3 (by
        have := V.int.inj z
        rw [al.1]
        omega)
      rw [e3]
      refine iteT (iteT (no H (Same.refl H) fun z => ?_))
      obtain ⟨t, po, arr, e, _⟩ := z
      cases e
      exact h3 rfl
    have e3 : decide (V.int (us.length : Nat) = V.int 3) = true := decide_eq_true (by rw [← al.1, h3]; rfl)
    rw [e3]
    refine iteF ?_
    obtain ⟨ot, po, oa', rfl⟩ : ∃ ot po oa', xs = [ot, po, oa'] := by
      match xs, h3 with
      | [x, y, z], _ => exact ⟨x, y, z, rfl⟩
    obtain ⟨vt, us1, rfl, hot, al1⟩ := al.inv_cons
    obtain ⟨vp, us2, rfl, hop, al2⟩ := al1.inv_cons
    obtain ⟨va, us3, rfl, hoa, al3⟩ := al2.inv_cons
    obtain rfl := al3.inv_nil
    have fp := fo _ _ _ rfl
    obtain ⟨ut, ua⟩ := und _ _ _ rfl
    obtain ⟨B, eB⟩ : ∃ B : Int, (10 : Int) ^ 41 = B := ⟨_, rfl⟩
    have eB2 : (10 : Int) ^ Int.toNat 41 = B := eB
    rw [eB] at ut ua
    refine ⟨.ref TH, rfl, TH, _, _, _, rfl, rfl, .inl (.inl eTH), atI_nat (j := 0) rfl, 10, 41, rfl, rfl, ⟨by decide, by decide, by decide⟩, dd, cc, ot, vt, _, rfl, hot, _, rfl, ?_⟩
    rw [eB2]
    cases ht0 : wholeB B ot with
    | false =>
      refine iteT (no H (Same.refl H) fun z => ?_)
      obtain ⟨t, po', arr, e, z⟩ := z
      cases e
      have h1 : wholeB B (.int t) = true := decide_eq_true ⟨z.t0, ut t rfl⟩
      rw [ht0] at h1
      cases h1
    | true =>
    obtain ⟨t, rfl⟩ : ∃ t, ot = .int t := by
      cases ot with
      | int t => exact ⟨t, rfl⟩
      | _ => cases ht0
    obtain ⟨t0, tB⟩ : 0 ≤ t ∧ t < B := of_decide_eq_true ht0
    obtain rfl := hot.inv_int
    refine iteF ?_
    refine ⟨.ref TH, rfl, TH, _, rfl, .inl (.inl eTH), rfl, _, _, rfl, _, _, rfl, _, _, rfl, rfl, ?_⟩
    -- both are tuples of whole numbers
    refine ⟨vp, rfl, .int (gvs.length : Int), rfl, (by decide : (2 : Nat) ≤ sizeLine), fun p1 n1 => ?_⟩
    generalize hU1 : upd _ p1 _ = U1
    have s1 : Same H U1 := hU1 ▸ same_new n1
    have e1 : U1 p1 = some _ := hU1 ▸ upd_same
    refine ⟨va, rfl, 10, 41, rfl, rfl, ⟨by decide, by decide, by decide⟩, (by decide : (2 : Nat) ≤ sizeLine), fun p2 n2 => ?_⟩
    generalize hU2 : upd _ p2 _ = U2
    have s2 : Same U1 U2 := hU2 ▸ same_new n2
    have e2 : U2 p2 = some (.tup [va, .int B]) := by rw [← hU2, upd_same, ← eB2]
    refine ⟨(by decide : (2 : Nat) ≤ sizeLine), fun L nL => ?_⟩
    generalize hU3 : upd _ L _ = U3
    have s3 : Same U2 U3 := hU3 ▸ same_new nL
    have e3 : U3 L = some _ := hU3 ▸ upd_same
    have s03 := (s1.trans s2).trans s3
    refine ⟨L, rfl, ⟨_, .inl (.inl e3)⟩, for_it (walk_list (K := K) (a := L) (xs := [.ref p1, .ref p2])) (fun j σ X => Same U3 X ∧ (1 ≤ j → ∃ ys, po = .tup ys ∧ ys.all (wholeB (gvs.length : Int)) = true) ∧ (2 ≤ j → ∃ ys, oa' = .tup ys ∧ ys.all (wholeB B) = true) ∧ ∃ x9 x10 x11 x12 : Option V,
      σ = [some (.ref N), some vy, some (.ref oa), some (.str c), some (.ref TH), some (.int (gvs.length : Int)), some (.int t), some vp, some va, x9, x10, x11, x12]) ?_ ?_ ?_ ?_⟩
    · exact ⟨Same.refl _, fun h => absurd h (by decide), fun h => absurd h (by decide), none, none, none, none, rfl⟩
    · rintro j σ X _ ⟨sm, _⟩
      exact .inl (.inl (sm _ _ e3))
    · rintro j x σ X0 X hj ⟨sm, k1, k2, x9, x10, x11, x12, rfl⟩ ⟨rfl, ex⟩
      obtain ⟨p, vx, e, ox, rfl, ep, hox, few, hno, hyes⟩ : ∃ (p : Addr) (vx : V) (e : Int) (ox : Ob), x = .ref p ∧ X p = some (.tup [vx, .int e]) ∧ ObR dd cc X ox vx ∧ (∀ ys, ox = .tup ys → ys.length ≤ 1000000) ∧
          (HoldO gs wl d c (.tup [.int t, po, oa']) → ∃ ys, ox = .tup ys ∧ ys.all (wholeB e) = true) ∧
          ((∃ ys, ox = .tup ys ∧ ys.all (wholeB e) = true) → (1 ≤ j + 1 → ∃ ys, po = .tup ys ∧ ys.all (wholeB (gvs.length : Int)) = true) ∧ (2 ≤ j + 1 → ∃ ys, oa' = .tup ys ∧ ys.all (wholeB B) = true)) := by
        match j, ex with
        | 0, ex =>
          cases ex
          refine ⟨p1, vp, _, po, rfl, sm _ _ (s3 _ _ (s2 _ _ e1)), hop.same (s03.trans sm), fun ys e => fp ys e, fun z => ?_, fun h => ⟨fun _ => h, fun h2 => absurd h2 (by decide)⟩⟩
          obtain ⟨t', po', arr, e, z⟩ := z
          cases e
          rcases z.way with ⟨_, _, rfl⟩ | ⟨_, _, l, rfl, hp, _⟩
          · exact ⟨[], rfl, rfl⟩
          · exact ⟨_, rfl, whole_nats (by rw [lg]; exact hp.lt)⟩
        | 1, ex =>
          cases ex
          refine ⟨p2, va, _, oa', rfl, sm _ _ (s3 _ _ e2), hoa.same (s03.trans sm), fun ys e => (ua ys e).1, fun z => ?_, fun h => ⟨fun _ => k1 (Nat.le_refl _), fun _ => h⟩⟩
          obtain ⟨t', po', arr, e, z⟩ := z
          cases e
          exact ⟨_, rfl, whole_ints z.ao.nat fun x hx => (ua _ rfl).2 x (List.mem_map.mpr ⟨x, hx, rfl⟩)⟩
      refine ⟨p, _, rfl, .inl (.inl ep), rfl, _, _, rfl, _, _, rfl, rfl, ?_⟩
      refine ⟨vx, rfl, _, _, _, _, _, rfl, .ty "tuple", hox.ty (K := K), kit_ot K ox, isT ox, rfl, ?_⟩
      have sX := s03.trans sm
      cases hTx : isT ox with
      | false =>
        refine iteT (iteT (no X sX fun z => ?_))
        obtain ⟨ys, rfl, _⟩ := hno z
        cases hTx
      | true =>
      obtain ⟨ys, rfl⟩ : ∃ ys, ox = .tup ys := by
        cases ox with
        | tup ys => exact ⟨ys, rfl⟩
        | _ => cases hTx
      obtain ⟨Ya, yvs, rfl, eY, yal⟩ := hox.inv_tup
      have ly := few _ rfl
      refine iteF ⟨.ref Ya, rfl, Ya, rfl, ⟨_, .inl (.inl eY)⟩, fun Dl nD => ?_⟩
      refine lc_tup (K := K) (a := Ya) (xs := yvs) (fun i H' => Same X H' ∧ ∃ acc, H' Dl = some (.lst acc) ∧ acc.length ≤ i ∧ (acc = [] ↔ (ys.take i).all (wholeB e) = true)) ?_ ?_ ?_ ?_
      · exact ⟨same_new nD, [], upd_same, Nat.le_refl _, by simp⟩
      · rintro i H' _ ⟨sm', _⟩
        exact .inl (.inl (sm' _ _ eY))
      · rintro i v H' hv ⟨sm', acc, eD, la, ha⟩
        have hi := (List.getElem?_eq_some_iff.mp hv).1
        obtain ⟨y, hy'⟩ : ∃ y, ys[i]? = some y := ⟨_, List.getElem?_eq_getElem (by rw [yal.1]; exact hi)⟩
        have hyv := (yal.2 i y v hy' hv).same sm'
        have hi2 := (List.getElem?_eq_some_iff.mp hy').1
        have et : (ys.take (i + 1)).all (wholeB e) = ((ys.take i).all (wholeB e) && wholeB e y) := by
          rw [List.take_add_one, hy', List.all_append]
          simp
        refine ⟨rfl, v, rfl, .int e, rfl, dd, cc, y, v, e, rfl, hyv, _, rfl, ?_⟩
        cases hw : wholeB e y with
        | true =>
          refine iteF ⟨sm', acc, eD, by omega, ?_⟩
          rw [et, hw, Bool.and_true]
          exact ha
        | false =>
          refine iteT ⟨_, eD, by omega, same_mut sm' nD, _, upd_same, ?_, ?_⟩
          · rw [List.length_append]
            show acc.length + 1 ≤ _
            omega
          · rw [et, hw, Bool.and_false]
            simp
      rintro H3 ⟨sm3, acc, eD, la, ha⟩
      rw [← yal.1, List.take_of_length_le (Nat.le_refl _)] at ha
      refine ⟨Nat.zero_le _, fun e0 n0 => ?_⟩
      have sE := same_new (o := .lst []) n0
      refine ⟨Dl, e0, acc, rfl, rfl, .inl (.inl (sE _ _ eD)), .inl (.inl upd_same), _, rfl, ?_⟩
      have smE := sm3.trans sE
      by_cases hacc : acc = []
      · have hall := ha.mp hacc
        rw [hacc]
        obtain ⟨j1, j2⟩ := hyes ⟨ys, rfl, hall⟩
        exact iteF ⟨sm.trans smE, j1, j2, _, _, _, _, rfl⟩
      · have ne : (!acc.isEmpty) = true := by
          cases acc with
          | nil => exact absurd rfl hacc
          | cons _ _ => rfl
        rw [ne]
        refine iteT (no _ (sX.trans smE) fun z => ?_)
        obtain ⟨ys', e, h⟩ := hno z
        cases e
        exact hacc (ha.mpr h)
    · rintro σ X ⟨sm, k1, k2, x9, x10, x11, x12, rfl⟩
      obtain ⟨ps, rfl, hps⟩ := k1 (show 1 ≤ 2 by decide)
      obtain ⟨rs, rfl, hrs⟩ := k2 (show 2 ≤ 2 by decide)
      obtain ⟨l, rfl, hl⟩ := nat_of hps
      obtain ⟨arr, rfl, hnat⟩ := of_whole hrs
      obtain ⟨PA, pvs, rfl, ePA, pal⟩ := hop.inv_tup
      obtain rfl := allo_ints pal
      obtain ⟨TA, avs, rfl, eTA, aal⟩ := hoa.inv_tup
      obtain rfl := allo_ints aal
      have ll : l.length ≤ 1000000 := by
        have := fp _ rfl
        rw [List.length_map, List.length_map] at this
        exact this
      have hold : HoldO gs wl d c (.tup [.int t, natsO l, intsO arr]) → Hold gs wl d c t (natsO l) arr := fun z => by
        obtain ⟨t', po', arr', e, z⟩ := z
        injection e with e
        injection e with e1 e2
        injection e1 with e1
        injection e2 with e2 e3
        injection e3 with e3 _
        rw [e1, e2, ints_inj e3]
        exact z
      have sX := s03.trans sm
      refine ⟨.ref TA, rfl, TA, _, rfl, .inr (.inl (.inl (sX _ _ eTA))), .int (gvs.length : Int), rfl, rfl, _, rfl, ?_⟩
      by_cases hla : arr.length = gs.length
      rotate_left
      · rw [decide_eq_false (show ¬ (V.int ((arr.map V.int).length : Nat) = V.int (gvs.length : Int)) from fun z => hla (by
          have := V.int.inj z
          rw [List.length_map] at this
          omega))]
        exact iteT (no X sX fun z => hla (hold z).ao.len)
      rw [decide_eq_true (show V.int ((arr.map V.int).length : Nat) = V.int (gvs.length : Int) by rw [List.length_map, hla, lg])]
      refine iteF ?_
      refine ⟨.int (gvs.length : Int), rfl, _, rfl, (bnd _ (by omega)).1, (bnd _ (by omega)).2, for_range (lo := 0) (n := gvs.length) (fun i σ G1 => Same H G1 ∧ (∀ k g ws, k < i → gs[k]? = some g → wl[k]? = some ws → g.fed = true → ∀ p ∈ bro arr g.feeds (lens ws) d.s, p.1 + g.own d ≤ arr.getD k 0) ∧ ∃ x9 x10 x11 x12 : Option V,
        σ = [some (.ref N), some vy, some (.ref oa), some (.str c), some (.ref TH), some (.int (gvs.length : Int)), some (.int t), some (.ref PA), some (.ref TA), x9, x10, x11, x12]) ?_ ?_ ?_⟩
      · exact ⟨sX, fun k g ws h => absurd h (Nat.not_lt_zero _), _, _, _, _, rfl⟩
      · rintro i σ G1 hi ⟨sG, hall, y9, y10, y11, y12, rfl⟩
        rw [Int.zero_add]
        rw [lg] at hi
        obtain ⟨gt, egt⟩ : ∃ gt, gs[i]? = some gt := ⟨gs[i], List.getElem?_eq_getElem hi⟩
        obtain ⟨gv, egv, tgv⟩ := all2_get gal (i := i) (t := gt.td) (by rw [List.getElem?_map, egt]; rfl)
        obtain ⟨ws, ew, lw, hws⟩ := ok.at egt
        have okg := ok.gate i gt egt
        refine ⟨.ref N, rfl, N, _, _, _, rfl, rfl, .inl (.inl (sG _ _ eN)), atI_nat (j := 0) rfl, .int (i : Int), rfl, G, _, _, _, rfl, rfl, .inl (.inl (sG _ _ hG)), atI_nat egv, _, gt, gs.length, i, rfl, tgv.same sG, okg, fun G2 s7 => ⟨_, rfl, ?_⟩⟩
        have sG2 := sG.trans s7
        cases hfd : gt.fed with
        | false =>
          refine iteF (iteF ⟨sG2, fun k g ws' hk h1 h2 h3 => ?_, _, _, _, _, rfl⟩)
          by_cases hki : k = i
          · subst hki
            rw [egt] at h1
            cases h1
            rw [hfd] at h3
            cases h3
          · exact hall k g ws' (by omega) h1 h2 h3
        | true =>
          refine iteT ?_
          refine ⟨.ref N, rfl, vy, rfl, .ref TA, rfl, .ref oa, rfl, .int (i : Int), rfl, _, vy, .ref TA, oa, gs, cs, wl, arr, d, i, gt, ws, rfl, hm.same sG2, hy.same sG2, .tup (.inl (.inl (sG2 _ _ eTA))), sqt_same hd sG2, ok, od, egt, ew, fun f hf => by rw [hla]; exact feeds_lt okg hi f hf, fun p G3 s8 np ep => ?_⟩
          have sG3 := sG2.trans s8
          have lbl : (lbr arr gt ws d).length = gt.feeds.length := by
            unfold lbr bro lens
            rw [List.length_map, List.length_zipWith, List.length_map, lw, Nat.min_self]
          have em : gt.more d = gt.own d := by
            unfold Gt.more
            rw [hfd]
            rfl
          refine ⟨p, _, rfl, .inl (.inl ep), by rw [lbl]; exact fed_pos hfd, fun m hmm hle => ?_⟩
          refine ⟨.ref TA, rfl, .int (i : Int), rfl, TA, _, _, _, rfl, rfl, .inl (.inl (sG3 _ _ eTA)), atI_nat (arr_at (by rw [hla]; exact hi)), _, _, rfl, rfl, _, rfl, ?_⟩
          unfold lbr at hmm hle
          rw [em] at hmm hle
          obtain ⟨pr, hpr, rfl⟩ := List.mem_map.mp hmm
          by_cases hlt : arr.getD i 0 < pr.1 + gt.own d
          · rw [decide_eq_true hlt]
            refine iteT (no _ sG3 fun z => ?_)
            have := (hold z).ao.feeds i gt ws egt ew hfd pr hpr
            omega
          · rw [decide_eq_false hlt]
            refine iteF ⟨sG3, fun k g ws' hk h1 h2 h3 p' hp' => ?_, _, _, _, _, rfl⟩
            by_cases hki : k = i
            · subst hki
              rw [egt] at h1
              cases h1
              rw [ew] at h2
              cases h2
              have := hle _ (List.mem_map.mpr ⟨p', hp', rfl⟩)
              omega
            · exact hall k g ws' (by omega) h1 h2 h3 p' hp'
      · rintro σ G1 ⟨sG, hall, y9, y10, y11, y12, rfl⟩
        have aok : ArrOk gs wl d arr := ⟨hla, hnat, fun k g ws h1 h2 h3 => hall k g ws (by rw [lg]; exact (List.getElem?_eq_some_iff.mp h1).1) h1 h2 h3⟩
        refine ⟨.ref N, rfl, vy, rfl, .ref TA, rfl, .ref oa, rfl, .str c, rfl, .ref N, vy, .ref TA, oa, gs, cs, wl, arr, d, c, rfl, hm.same sG, hy.same sG, .tup (.inl (.inl (sG _ _ eTA))), sqt_same hd sG, ok, od, gl, hla, fun G2 s7 => ?_⟩
        have sG2 := sG.trans s7
        have hp0 : ObR dd cc G2 (natsO l) (.ref PA) := (hop).same sG2
        generalize ebs : boxesN gs c gs.length = bs
        have dc0 : TdR G2 (netT gs) (.ref N) := hm.same sG2
        cases bs with
        | nil =>
          refine ⟨.non, rfl, rfl, _, rfl, ?_⟩
          rw [decide_eq_true rfl]
          refine iteT ⟨.int t, rfl, rfl, _, rfl, ?_⟩
          have hno : ∀ H', Same H H' → ¬ (t = 0 ∧ natsO l = .tup []) → Q (.bl false) H' := fun H' s' hn => no H' s' fun z => by
            rcases (hold z).way with ⟨_, h1, h2⟩ | ⟨h1, _⟩
            · exact hn ⟨h1, h2⟩
            · exact h1 ebs
          by_cases h0 : t = 0
          · rw [decide_eq_true (by rw [h0])]
            refine iteT ⟨.ref PA, rfl, Nat.zero_le _, fun e0 n0 => ?_⟩
            have sE := same_new (o := .tup []) n0
            refine ⟨dd, cc, natsO l, e0, hp0.same sE, rfl, upd_same, ?_⟩
            cases hp : isE (natsO l) with
            | true =>
              have hp : natsO l = .tup [] := by
                match natsO l, hp with
                | .tup [], _ => rfl
              exact q true _ (sG2.trans sE) ⟨fun _ => ⟨t, _, arr, rfl, t0, aok, .inl ⟨ebs, h0, hp⟩⟩, fun _ => rfl⟩
            | false => exact hno _ (sG2.trans sE) (fun z => (by
                have h9 : isE (natsO l) = true := (by rw [z.2]; rfl)
                exact Bool.false_ne_true (hp.symm.trans h9)))
          · rw [decide_eq_false fun z => h0 (V.int.inj z)]
            exact iteF (hno _ sG2 fun z => h0 z.1)
        | cons b0 bs0 =>
          obtain ⟨bs, hbs⟩ : ∃ bs, b0 :: bs0 = bs := ⟨_, rfl⟩
          have ne : bs.map (boxT gs wl arr d.s) ≠ [] := by
            rw [← hbs]
            exact List.cons_ne_nil _ _
          have ne2 : bs ≠ [] := by
            rw [← hbs]
            exact List.cons_ne_nil _ _
          have etv : timeV gs wl arr d.s (b0 :: bs0) = .int (mxi (bs.map (boxT gs wl arr d.s))) := by
            rw [← hbs]
            rfl
          rw [etv]
          rw [hbs] at ebs
          obtain ⟨mm, mx⟩ := mxi_mem ne
          have hm1 : mxi (bs.map (boxT gs wl arr d.s)) ≤ t ↔ ∀ b ∈ bs, boxT gs wl arr d.s b ≤ t := by
            constructor
            · intro h b hb
              have := mx _ (List.mem_map.mpr ⟨b, hb, rfl⟩)
              omega
            · intro h
              obtain ⟨b, hb, e⟩ := List.mem_map.mp mm
              have := h b hb
              omega
          generalize mxi (bs.map (boxT gs wl arr d.s)) = m at *
          have hno : ∀ H', Same H H' → ¬ ((∀ b ∈ bs, boxT gs wl arr d.s b ≤ t) ∧ PthN gs c l ∧ ptN gs wl d l (l.length - 1) = t) → Q (.bl false) H' := fun H' s' hn => no H' s' fun z => by
            rcases (hold z).way with ⟨h1, _⟩ | ⟨_, h1, l', e, h2, h3⟩
            · rw [ebs] at h1
              exact ne2 h1
            · rw [ebs] at h1
              have : l = l' := natsO_inj e
              rw [← this] at h2 h3
              exact hn ⟨h1, h2, h3⟩
          refine ⟨.int m, rfl, rfl, _, rfl, ?_⟩
          rw [decide_eq_false (show ¬ V.int m = V.non from fun z => by cases z)]
          refine iteF ⟨.int m, rfl, .int t, rfl, _, _, rfl, rfl, _, rfl, ?_⟩
          by_cases hmt : m ≤ t
          · rw [decide_eq_true hmt]
            refine iteT ⟨.ref N, rfl, vy, rfl, .ref PA, rfl, .ref oa, rfl, .str c, rfl, .ref N, vy, PA, oa, gs, cs, wl, d, c, l, rfl, dc0, hy.same sG2, by rw [← map_ints]; exact sG2 _ _ ePA, sqt_same hd sG2, ok, od, gl, hc, gsm, ll, by rw [← lg]; exact hl, fun v H' s8 hv => ⟨.int t, rfl, ?_⟩⟩
            have sH := sG2.trans s8
            rcases hv with ⟨hn, rfl⟩ | ⟨hp, rfl⟩
            · refine ⟨rfl, ?_⟩
              rw [decide_eq_false (show ¬ V.non = V.int t from fun z => by cases z)]
              exact hno _ sH fun z => hn z.2.1
            · refine ⟨rfl, ?_⟩
              by_cases hpt : ptN gs wl d l (l.length - 1) = t
              · rw [decide_eq_true (by rw [hpt])]
                exact q true _ sH ⟨fun _ => ⟨t, _, arr, rfl, t0, aok, .inr ⟨by rw [ebs]; exact ne2, by rw [ebs]; exact hm1.mp hmt, l, rfl, hp, hpt⟩⟩, fun _ => rfl⟩
              · rw [decide_eq_false fun z => hpt (V.int.inj z)]
                exact hno _ sH fun z => hpt z.2.2
          · rw [decide_eq_false hmt]
            exact iteF (hno _ sG2 fun z => hmt (hm1.mpr z.1))
end
end K80

namespace K80
open PySem PySem.Spec PyProof.Rows L2 Kit X15
/-! ### items of any kind, whose lists and dicts are new -/
/-- it stands at v; its lists and dicts are neither at d nor at c -/
inductive ObE (E : Addr → Prop) (H : Hp) : Ob → V → Prop
  | non : ObE E H .non .non
  | bl (b : Bool) : ObE E H (.bl b) (.bl b)
  | int (i : Int) : ObE E H (.int i) (.int i)
  | str (z : Str) : ObE E H (.str z) (.str z)
  | tup {p : Addr} {xs : List Ob} {vs : List V} (h : H p = some (.tup vs)) (hl : xs.length = vs.length) (ha : ∀ (i : Nat) x v, xs[i]? = some x → vs[i]? = some v → ObE E H x v) : ObE E H (.tup xs) (.ref p)
  | lst {p : Addr} {xs : List Ob} {vs : List V} (n : ¬ E p) (ns : p ≠ sysModules) (h : H p = some (.lst vs)) (hl : xs.length = vs.length) (ha : ∀ (i : Nat) x v, xs[i]? = some x → vs[i]? = some v → ObE E H x v) : ObE E H (.lst xs) (.ref p)
  | emp {p : Addr} (n : ¬ E p) (h : H p = some (.dK [])) : ObE E H .emp (.ref p)
  | dic {p : Addr} {x : Ob} {v : V} (n : ¬ E p) (h : H p = some (.dK [(.inl 0, v)])) (hx : ObE E H x v) : ObE E H (.dic x) (.ref p)
/-- tuples stay, and lists and dicts elsewhere -/
structure KE (E : Addr → Prop) (H H' : Hp) : Prop where
  tup : ∀ p vs, H p = some (.tup vs) → H' p = some (.tup vs)
  lst : ∀ p vs, ¬ E p → H p = some (.lst vs) → H' p = some (.lst vs)
  dic : ∀ p kvs, ¬ E p → H p = some (.dK kvs) → H' p = some (.dK kvs)
theorem KE.of {E : Addr → Prop} {H H' : Hp} (s : Same H H') : KE E H H' := ⟨fun p vs e => s _ _ e, fun p vs _ e => s _ _ e, fun p kvs _ e => s _ _ e⟩
theorem ObE.keep {E : Addr → Prop} {H H' : Hp} {o : Ob} {v : V} (h : ObE E H o v) (k : KE E H H') : ObE E H' o v := by
  induction h with
  | non => exact .non
  | bl b => exact .bl b
  | int i => exact .int i
  | str z => exact .str z
  | tup e hl ha ih => exact .tup (k.tup _ _ e) hl ih
  | lst n ns e hl ha ih => exact .lst n ns (k.lst _ _ n e) hl ih
  | emp n e => exact .emp n (k.dic _ _ n e)
  | dic n e hx ih => exact .dic n (k.dic _ _ n e) ih
theorem ObE.same {E : Addr → Prop} {H H' : Hp} {o : Ob} {v : V} (h : ObE E H o v) (s : Same H H') : ObE E H' o v := h.keep (.of s)
def AllE (E : Addr → Prop) (H : Hp) (xs : List Ob) (vs : List V) : Prop := xs.length = vs.length ∧ ∀ (i : Nat) x v, xs[i]? = some x → vs[i]? = some v → ObE E H x v
theorem AllE.nil {E : Addr → Prop} {H : Hp} : AllE E H [] [] := ⟨rfl, fun i x v h => by cases h⟩
theorem AllE.cons {E : Addr → Prop} {H : Hp} {x : Ob} {v : V} {xs : List Ob} {vs : List V} (h : ObE E H x v) (hs : AllE E H xs vs) : AllE E H (x :: xs) (v :: vs) := by
  refine ⟨by rw [List.length_cons, List.length_cons, hs.1], fun i y u h1 h2 => ?_⟩
  cases i with
  | zero =>
    cases h1
    cases h2
    exact h
  | succ i => exact hs.2 i y u h1 h2
theorem AllE.keep {E : Addr → Prop} {H H' : Hp} {xs : List Ob} {vs : List V} (h : AllE E H xs vs) (k : KE E H H') : AllE E H' xs vs := ⟨h.1, fun i x v h1 h2 => (h.2 i x v h1 h2).keep k⟩
theorem AllE.same {E : Addr → Prop} {H H' : Hp} {xs : List Ob} {vs : List V} (h : AllE E H xs vs) (s : Same H H') : AllE E H' xs vs := h.keep (.of s)
theorem AllE.take {E : Addr → Prop} {H : Hp} {xs : List Ob} {vs : List V} (h : AllE E H xs vs) (k : Nat) : AllE E H (xs.take k) (vs.take k) := by
  refine ⟨by rw [List.length_take, List.length_take, h.1], fun i x v e1 e2 => ?_⟩
  rw [List.getElem?_take] at e1 e2
  by_cases hi : i < k
  · rw [if_pos hi] at e1 e2
    exact h.2 i x v e1 e2
  · rw [if_neg hi] at e1
    cases e1
theorem AllE.drop {E : Addr → Prop} {H : Hp} {xs : List Ob} {vs : List V} (h : AllE E H xs vs) (k : Nat) : AllE E H (xs.drop k) (vs.drop k) := by
  refine ⟨by rw [List.length_drop, List.length_drop, h.1], fun i x v e1 e2 => ?_⟩
  rw [List.getElem?_drop] at e1 e2
  exact h.2 _ x v e1 e2
theorem AllE.inv_cons {E : Addr → Prop} {H : Hp} {x : Ob} {xs : List Ob} {vs : List V} (h : AllE E H (x :: xs) vs) : ∃ v vs', vs = v :: vs' ∧ ObE E H x v ∧ AllE E H xs vs' := by
  cases vs with
  | nil => exact absurd h.1 (by simp)
  | cons v vs => exact ⟨v, vs, rfl, h.2 0 _ _ rfl rfl, Nat.succ.inj h.1, fun i x u h1 h2 => h.2 (i + 1) x u h1 h2⟩
theorem AllE.inv_nil {E : Addr → Prop} {H : Hp} {vs : List V} (h : AllE E H [] vs) : vs = [] := by
  cases vs with
  | nil => rfl
  | cons v vs => exact absurd h.1 (by simp)
theorem AllE.append {E : Addr → Prop} {H : Hp} : ∀ {xs ys : List Ob} {vs ws : List V}, AllE E H xs vs → AllE E H ys ws → AllE E H (xs ++ ys) (vs ++ ws)
  | [], _, _, _, h, h2 => by
    rw [h.inv_nil]
    exact h2
  | x :: xs, ys, vs, ws, h, h2 => by
    obtain ⟨v, vs', rfl, h3, h4⟩ := h.inv_cons
    exact .cons h3 (AllE.append h4 h2)
theorem AllE.rev {E : Addr → Prop} {H : Hp} {xs : List Ob} {vs : List V} (h : AllE E H xs vs) : AllE E H xs.reverse vs.reverse := by
  refine ⟨by rw [List.length_reverse, List.length_reverse, h.1], fun i x v e1 e2 => ?_⟩
  have hi : i < xs.length := by
    have := (List.getElem?_eq_some_iff.mp e1).1
    rwa [List.length_reverse] at this
  rw [List.getElem?_reverse hi] at e1
  rw [List.getElem?_reverse (by rw [← h.1]; exact hi), ← h.1] at e2
  exact h.2 _ x v e1 e2
theorem ObE.mk {E : Addr → Prop} {H : Hp} {p : Addr} {xs : List Ob} {vs : List V} (h : H p = some (.tup vs)) (a : AllE E H xs vs) : ObE E H (.tup xs) (.ref p) := .tup h a.1 a.2
theorem ObE.mkL {E : Addr → Prop} {H : Hp} {p : Addr} {xs : List Ob} {vs : List V} (n : ¬ E p) (ns : p ≠ sysModules) (h : H p = some (.lst vs)) (a : AllE E H xs vs) : ObE E H (.lst xs) (.ref p) := .lst n ns h a.1 a.2
theorem ObE.inv_tup {E : Addr → Prop} {H : Hp} {xs : List Ob} {v : V} (h : ObE E H (.tup xs) v) : ∃ p vs, v = .ref p ∧ H p = some (.tup vs) ∧ AllE E H xs vs := by
  cases h with
  | tup e hl ha => exact ⟨_, _, rfl, e, hl, ha⟩
theorem ObE.inv_int {E : Addr → Prop} {H : Hp} {i : Int} {v : V} (h : ObE E H (.int i) v) : v = .int i := by
  cases h
  rfl
/-- into what the program's promises ask -/
theorem ObE.toR {E : Addr → Prop} {d c : Addr} {H : Hp} {o : Ob} {v : V} (h : ObE E H o v) (hd : E d) (hc : E c) : ObR d c H o v := by
  induction h with
  | non => exact .non
  | bl b => exact .bl b
  | int i => exact .int i
  | str z => exact .str z
  | tup e hl ha ih => exact .tup e hl ih
  | @lst p _ _ n ns e hl ha ih => exact .lst ⟨fun z => n (by rw [z]; exact hd), fun z => n (by rw [z]; exact hc)⟩ ns e hl ih
  | @emp p n e => exact .emp ⟨fun z => n (by rw [z]; exact hd), fun z => n (by rw [z]; exact hc)⟩ e
  | @dic p _ _ n e hx ih => exact .dic ⟨fun z => n (by rw [z]; exact hd), fun z => n (by rw [z]; exact hc)⟩ e ih
/-- what is in E stands -/
def ExE (E : Addr → Prop) (H : Hp) : Prop := ∀ x, E x → H x ≠ none
theorem ExE.same {E : Addr → Prop} {H H' : Hp} (h : ExE E H) (s : Same H H') : ExE E H' := fun x e z => by
  cases q : H x with
  | none => exact h x e q
  | some o =>
    rw [s x o q] at z
    cases z
theorem ExE.but {E : Addr → Prop} {d c : Addr} {t : Nat} {H H' : Hp} (h : ExE E H) (b : But d c H H') (k : Deck H' d c t) : ExE E H' := fun x e z => by
  by_cases h1 : x = d
  · rw [h1] at z
    exact k.here.1 z
  · by_cases h2 : x = c
    · rw [h2] at z
      exact k.here.2 z
    · cases q : H x with
      | none => exact h x e q
      | some o =>
        rw [b x o h1 h2 q] at z
        cases z
theorem KE.but {E : Addr → Prop} {d c : Addr} {t : Nat} {H H' : Hp} (k : Deck H d c t) (b : But d c H H') (hd : E d) (hc : E c) : KE E H H' :=
  ⟨fun p vs e => TK.but k b p vs e, fun p vs n e => b p _ (fun z => n (by rw [z]; exact hd)) (fun z => n (by rw [z]; exact hc)) e, fun p kvs n e => b p _ (fun z => n (by rw [z]; exact hd)) (fun z => n (by rw [z]; exact hc)) e⟩
/-! ### items of any kind, their weight -/
mutual
def wt : Ob → Nat
  | .tup xs => wtL xs + 5
  | .lst xs => wtL xs + 5
  | .dic x => wt x + 30
  | .non => 500
  | .bl _ => 500
  | .int _ => 500
  | .str _ => 500
  | .emp => 500
def wtL : List Ob → Nat
  | [] => 0
  | x :: xs => wt x + wtL xs
end
theorem wtL_app : ∀ xs ys : List Ob, wtL (xs ++ ys) = wtL xs + wtL ys
  | [], ys => by rw [List.nil_append, wtL, Nat.zero_add]
  | x :: xs, ys => by rw [List.cons_append, wtL, wtL, wtL_app xs ys, Nat.add_assoc]
theorem wtL_split (xs : List Ob) (k : Nat) : wtL (xs.take k) + wtL (xs.drop k) = wtL xs := by rw [← wtL_app, List.take_append_drop]
theorem wtL_take (xs : List Ob) (k : Nat) : wtL (xs.take k) ≤ wtL xs := by
  have := wtL_split xs k
  omega
theorem wtL_drop (xs : List Ob) (k : Nat) : wtL (xs.drop k) ≤ wtL xs := by
  have := wtL_split xs k
  omega
theorem wtL_rev : ∀ xs : List Ob, wtL xs.reverse = wtL xs
  | [] => rfl
  | x :: xs => by
    rw [List.reverse_cons, wtL_app, wtL_rev xs, wtL, wtL, wtL]
    omega
theorem wtL_mem {x : Ob} : ∀ {xs : List Ob}, x ∈ xs → wt x ≤ wtL xs
  | y :: ys, h => by
    rw [wtL]
    rcases List.mem_cons.mp h with rfl | h
    · omega
    · have := wtL_mem h
      omega
theorem wtL_at {x : Ob} {xs : List Ob} {k : Nat} (h : xs[k]? = some x) : wtL (xs.take k) + wt x + wtL (xs.drop (k + 1)) = wtL xs := by
  have h1 := wtL_split xs k
  have h2 : xs.drop k = x :: xs.drop (k + 1) := by
    have hk := (List.getElem?_eq_some_iff.mp h)
    rw [List.drop_eq_getElem_cons hk.1, hk.2]
  rw [h2, wtL] at h1
  omega
def leafO (B : Int) : Ob → Prop
  | .non => True
  | .bl _ => True
  | .int i => -B ≤ i ∧ i ≤ B
  | .str z => z.length ≤ 45 ∧ ∀ c ∈ z.cps.toList, c < 256
  | .emp => True
  | _ => False
/-- numbers within B, no more than m side by side, no deeper than n -/
def In (B : Int) (m : Nat) : Nat → Ob → Prop
  | 0, o => leafO B o
  | n + 1, o => leafO B o ∨ (∃ xs : List Ob, (o = .tup xs ∨ o = .lst xs) ∧ xs.length ≤ m ∧ ∀ x ∈ xs, In B m n x) ∨ ∃ x, o = .dic x ∧ In B m n x
theorem leaf_mono {B C : Int} (hB : B ≤ C) {o : Ob} (h : leafO B o) : leafO C o := by
  cases o with
  | int i =>
    obtain ⟨h1, h2⟩ := h
    exact ⟨by omega, by omega⟩
  | tup xs => exact h
  | lst xs => exact h
  | dic x => exact h
  | _ => exact h
theorem In.mono {B C : Int} {m p : Nat} (hB : B ≤ C) (hm : m ≤ p) : ∀ {n : Nat} {o : Ob}, In B m n o → In C p n o
  | 0, o, h => leaf_mono hB h
  | n + 1, o, h => by
    rcases h with h | ⟨xs, e, l, h⟩ | ⟨x, e, h⟩
    · exact .inl (leaf_mono hB h)
    · exact .inr (.inl ⟨xs, e, Nat.le_trans l hm, fun x hx => (h x hx).mono hB hm⟩)
    · exact .inr (.inr ⟨x, e, h.mono hB hm⟩)
theorem In.succ {B : Int} {m : Nat} : ∀ {n : Nat} {o : Ob}, In B m n o → In B m (n + 1) o
  | 0, o, h => .inl h
  | n + 1, o, h => by
    rcases h with h | ⟨xs, e, l, h⟩ | ⟨x, e, h⟩
    · exact .inl h
    · exact .inr (.inl ⟨xs, e, l, fun x hx => (h x hx).succ⟩)
    · exact .inr (.inr ⟨x, e, h.succ⟩)
theorem leaf_in {B : Int} {m : Nat} {o : Ob} (h : leafO B o) (n : Nat) : In B m n o := by
  cases n with
  | zero => exact h
  | succ n => exact .inl h
theorem In.tup {B : Int} {m n : Nat} {xs : List Ob} (l : xs.length ≤ m) (h : ∀ x ∈ xs, In B m n x) : In B m (n + 1) (.tup xs) := .inr (.inl ⟨xs, .inl rfl, l, h⟩)
theorem In.lst {B : Int} {m n : Nat} {xs : List Ob} (l : xs.length ≤ m) (h : ∀ x ∈ xs, In B m n x) : In B m (n + 1) (.lst xs) := .inr (.inl ⟨xs, .inr rfl, l, h⟩)
theorem In.ch {B : Int} {m n : Nat} {xs : List Ob} (h : In B m n (.tup xs)) : ∃ k, n = k + 1 ∧ xs.length ≤ m ∧ ∀ x ∈ xs, In B m k x := by
  cases n with
  | zero => exact h.elim
  | succ n =>
    rcases h with h | ⟨ys, e, l, h⟩ | ⟨x, e, h⟩
    · exact h.elim
    · rcases e with e | e
      · cases e
        exact ⟨n, rfl, l, h⟩
      · cases e
    · cases e
theorem In.int {B : Int} {m n : Nat} {i : Int} (h : In B m n (.int i)) : -B ≤ i ∧ i ≤ B := by
  cases n with
  | zero => exact h
  | succ n =>
    rcases h with h | ⟨ys, e, _⟩ | ⟨x, e, h⟩
    · exact h
    · rcases e with e | e <;> cases e
    · cases e
theorem In.few {B : Int} {m n : Nat} (hm : m ≤ 1000000) {o : Ob} (h : In B m n o) : Few o := fun xs e => by
  subst e
  obtain ⟨k, _, l, _⟩ := h.ch
  omega
theorem In.fewP {B : Int} {m n : Nat} (hm : m ≤ 1000000) {o : Ob} (h : In B m n o) : FewP o := fun t p r e => by
  subst e
  obtain ⟨k, _, _, h⟩ := h.ch
  exact (h p (by simp)).few hm
theorem In.und {B C : Int} (hB : B < C) {m n : Nat} (hm : m ≤ 1000000) {o : Ob} (h : In B m n o) : Und C o := fun t p r e => by
  subst e
  obtain ⟨k, _, _, h⟩ := h.ch
  refine ⟨fun i e => ?_, fun xs e => ?_⟩
  · subst e
    exact Int.lt_of_le_of_lt (h (.int i) (by simp)).int.2 hB
  · subst e
    obtain ⟨k', _, l, h'⟩ := (h (.tup xs) (by simp)).ch
    exact ⟨by omega, fun i hi => Int.lt_of_le_of_lt (h' _ hi).int.2 hB⟩
/-! ### how long they are when shown -/
structure RO (o : Ob) (n : Nat) : Prop where
  sh : (od o).showable = true
  dp : (od o).depth ≤ n
  ln : (od o).shown.length + 2 ≤ wt o
structure ROL (xs : List Ob) (n : Nat) : Prop where
  sh : PyData.showableAll (odL xs) = true
  dp : PyData.depthAll (odL xs) ≤ n
  ln : ((PyData.shownAll (odL xs)).map (·.length)).sum + 2 * xs.length ≤ wtL xs
  mn : (PyData.shownAll (odL xs)).length = xs.length
theorem ROL.of {n : Nat} : ∀ {xs : List Ob}, (∀ x ∈ xs, RO x n) → ROL xs n
  | [], _ => ⟨by simp [odL, PyData.showableAll], by simp [odL, PyData.depthAll], by simp [odL, PyData.shownAll], by simp [odL, PyData.shownAll]⟩
  | x :: xs, h => by
    obtain ⟨a1, a2, a3⟩ := h x List.mem_cons_self
    obtain ⟨b1, b2, b3, b4⟩ := ROL.of (xs := xs) fun y hy => h y (List.mem_cons_of_mem _ hy)
    constructor
    · rw [odL, PyData.showableAll, a1, b1]
      rfl
    · rw [odL, PyData.depthAll]
      exact Nat.max_le.mpr ⟨a2, b2⟩
    · rw [odL, PyData.shownAll, List.map_cons, List.sum_cons, List.length_cons, wtL]
      omega
    · rw [odL, PyData.shownAll, List.length_cons, List.length_cons, b4]
theorem RO.tup {xs : List Ob} {n : Nat} (h : ∀ x ∈ xs, RO x n) : RO (.tup xs) (n + 1) := by
  obtain ⟨b1, b2, b3, b4⟩ := ROL.of h
  constructor
  · rw [od, PyData.showable, b1]
  · rw [od, PyData.depth]
    omega
  · rw [od, PyData.shown, wt]
    have := tupleText_len_le (PyData.shownAll (odL xs))
    omega
theorem RO.lst {xs : List Ob} {n : Nat} (h : ∀ x ∈ xs, RO x n) : RO (.lst xs) (n + 1) := by
  obtain ⟨b1, b2, b3, b4⟩ := ROL.of h
  constructor
  · rw [od, PyData.showable, b1]
  · rw [od, PyData.depth]
    omega
  · rw [od, PyData.shown, wt]
    have := listText_len_le (PyData.shownAll (odL xs))
    omega
theorem RO.dic {x : Ob} {n : Nat} (h : RO x n) : RO (.dic x) (n + 1) := by
  obtain ⟨b1, b2, b3⟩ := h
  constructor
  · rw [od]
    simp only [PyData.showable, PyData.showableKv, b1]
    decide +kernel
  · rw [od]
    simp only [PyData.depth, PyData.depthKv]
    omega
  · rw [od, PyData.shown, wt]
    have h1 := dictText_len_le (PyData.shownKv [(.int 0, od x)])
    have e2 : ((PyData.int 0).shown ++ ": " ++ (od x).shown).length = (PyData.int 0).shown.length + 2 + (od x).shown.length := by
      rw [strLen_append, strLen_append]
      rfl
    have e3 : (PyData.int 0).shown.length = 1 := by decide +kernel
    simp only [PyData.shownKv, List.map_cons, List.map_nil, List.sum_cons, List.sum_nil, List.length_cons, List.length_nil] at h1 ⊢
    omega
theorem nat_len {k i : Nat} (h : i < 10 ^ (k + 1)) : (strN i).length ≤ k + 1 := by
  have e : (strN i).length = (Nat.toDigits 10 i).length := by
    have e1 : (strN i).length = (strN i).cps.toList.length := Array.length_toList.symm
    rw [e1, strN_cps, List.length_map]
  have := (digs_len k i h).1
  omega
theorem dig_small : ∀ i, i < 10 → (Nat.digitChar i).toNat < 256 := by decide
theorem digs_small : ∀ (k i : Nat), i < 10 ^ (k + 1) → ∀ ch ∈ Nat.toDigits 10 i, ch.toNat < 256
  | 0, i, h, ch, hc => by
    rw [Nat.toDigits_of_lt_base (by omega)] at hc
    rw [List.mem_singleton.mp hc]
    exact dig_small i (by omega)
  | k + 1, i, h, ch, hc => by
    by_cases h1 : i < 10
    · rw [Nat.toDigits_of_lt_base h1] at hc
      rw [List.mem_singleton.mp hc]
      exact dig_small i h1
    · rw [Nat.toDigits_of_base_le (by decide) (by omega)] at hc
      rcases List.mem_append.mp hc with hc | hc
      · exact digs_small k (i / 10) (by rw [Nat.pow_succ] at h; omega) ch hc
      · rw [List.mem_singleton.mp hc]
        exact dig_small _ (Nat.mod_lt _ (by decide))
/-- a whole number's text: short, of signs below 256 -/
theorem int_txt {i : Int} (h0 : -(10 ^ 41) < i) (h1 : i < 10 ^ 41) : (toString i : Str).length ≤ 42 ∧ ∀ c ∈ (toString i : Str).cps.toList, c < 256 := by
  have e41 : (10 : Int) ^ 41 = ((10 ^ (40 + 1) : Nat) : Int) := rfl
  rw [e41] at h0 h1
  by_cases hi : 0 ≤ i
  · obtain ⟨k, rfl⟩ : ∃ k : Nat, i = (k : Int) := ⟨i.toNat, by omega⟩
    have hk : k < 10 ^ (40 + 1) := Int.ofNat_lt.mp h1
    refine ⟨?_, fun c hc => ?_⟩
    · have := nat_len hk
      show (strN k).length ≤ 42
      omega
    · have hc : c ∈ (strN k).cps.toList := hc
      rw [strN_cps] at hc
      obtain ⟨ch, hch, rfl⟩ := List.mem_map.mp hc
      exact digs_small 40 k hk ch hch
  · obtain ⟨k, rfl⟩ : ∃ k : Nat, i = Int.negSucc k := ⟨(-i - 1).toNat, by omega⟩
    have hk : k + 1 < 10 ^ (40 + 1) := by
      have : -((10 ^ (40 + 1) : Nat) : Int) < -((k + 1 : Nat) : Int) := h0
      omega
    have es : (toString (Int.negSucc k) : Str) = Str.ofString ("-" ++ toString (k + 1)) := rfl
    have ec : (Str.ofString ("-" ++ toString (k + 1))).cps.toList = 45 :: (strN (k + 1)).cps.toList := by
      unfold strN
      rw [signs_ofString, signs_ofString, String.toList_append, List.map_append]
      rfl
    rw [es]
    refine ⟨?_, fun c hc => ?_⟩
    · have e1 : (Str.ofString ("-" ++ toString (k + 1))).length = (Str.ofString ("-" ++ toString (k + 1))).cps.toList.length := Array.length_toList.symm
      have e2 : (strN (k + 1)).length = (strN (k + 1)).cps.toList.length := Array.length_toList.symm
      rw [e1, ec, List.length_cons, ← e2]
      have := nat_len hk
      omega
    · rw [ec] at hc
      rcases List.mem_cons.mp hc with rfl | hc
      · decide
      · rw [strN_cps] at hc
        obtain ⟨ch, hch, rfl⟩ := List.mem_map.mp hc
        exact digs_small 40 (k + 1) hk ch hch
theorem leaf_ro {B : Int} (hB : B < 10 ^ 41) {o : Ob} (h : leafO B o) (n : Nat) : RO o (n + 1) := by
  cases o with
  | non => exact ⟨by rw [od, PyData.showable], by rw [od, PyData.depth]; omega, by rw [od, wt]; decide +kernel⟩
  | bl b => exact ⟨by rw [od, PyData.showable], by rw [od, PyData.depth]; omega, by rw [od, wt]; cases b <;> decide +kernel⟩
  | emp => exact ⟨by rw [od, PyData.showable, PyData.showableKv], by rw [od, PyData.depth, PyData.depthKv]; omega, by rw [od, wt]; decide +kernel⟩
  | tup xs => exact h.elim
  | lst xs => exact h.elim
  | dic x => exact h.elim
  | str z =>
    refine ⟨by rw [od, PyData.showable], by rw [od, PyData.depth]; omega, ?_⟩
    rw [od, PyData.shown, wt]
    have := StrLaws.reprText_len z fun c hc => Nat.lt_trans (h.2 c hc) (by decide)
    have := h.1
    omega
  | int i =>
    obtain ⟨h0, h1⟩ := h
    refine ⟨?_, by rw [od, PyData.depth]; omega, ?_⟩
    · rw [od, PyData.showable, decide_eq_true_eq]
      have h3 : i.natAbs < 2 ^ 200 := by
        have e : (10 : Int) ^ 41 = 100000000000000000000000000000000000000000 := rfl
        have e2 : (2 : Nat) ^ 200 = 1606938044258990275541962092341162602522202993782792835301376 := rfl
        rw [e] at hB
        rw [e2]
        omega
      rcases Nat.eq_zero_or_pos i.natAbs with e | e
      · rw [e]
        decide
      · have := (Nat.log2_lt (Nat.ne_of_gt e)).mpr h3
        omega
    · rw [od, wt, PyData.shown]
      have := (int_txt (i := i) (by omega) (by omega)).1
      have h4 : (toString i : Str).length + 2 ≤ 500 := by omega
      exact h4
theorem In.ro {B : Int} {m : Nat} (hB : B < 10 ^ 41) : ∀ {n : Nat} {o : Ob}, In B m n o → RO o (n + 1)
  | 0, o, h => leaf_ro hB h 0
  | n + 1, o, h => by
    rcases h with h | ⟨xs, e, l, h⟩ | ⟨x, e, h⟩
    · exact leaf_ro hB h (n + 1)
    · rcases e with rfl | rfl
      · exact RO.tup fun x hx => (h x hx).ro hB
      · exact RO.lst fun x hx => (h x hx).ro hB
    · subst e
      exact RO.dic (h.ro hB)
theorem bl_ro (b : Bool) : RO (.bl b) 1 := leaf_ro (B := 0) (by decide) (o := .bl b) True.intro 0
end K80

/-! zip of two that are a list, a tuple or a text, in any mixture -/
namespace X16
open PySem PySem.Spec PyProof.Rows L2 Kit
inductive Kd | L | T | S
theorem vals_at {vs : List V} {us : List Value} (r : Vals vs us) {i : Nat} {u : Value} (e : us[i]? = some u) : ∃ v, vs[i]? = some v ∧ RelV v u := by
  induction r generalizing i with
  | nil => cases e
  | cons r1 _ ih =>
    cases i with
    | zero =>
      cases e
      exact ⟨_, rfl, r1⟩
    | succ i => exact ih e
def SqK (K : PySem.W.Frag) (H : Hp) : Kd → V → List V → Prop
  | .L, v, xs => ∃ a, v = .ref a ∧ SqL K H a xs
  | .T, v, xs => ∃ a, v = .ref a ∧ SqT K H a xs
  | .S, v, xs => ∃ z, v = .str z ∧ xs = sgV z
def ItZM (K : PySem.W.Frag) (k1 k2 : Kd) (va vb : V) : It :=
  ⟨fun i H => ∃ (xs ys : List V) (x y : V), SqK K H k1 va xs ∧ SqK K H k2 vb ys ∧ xs[i]? = some x ∧ ys[i]? = some y,
    fun i H v H' => ∃ T x y, v = .ref T ∧ H T = none ∧ H' = upd H T (.tup [x, y]) ∧ (∀ xs, SqK K H k1 va xs → xs[i]? = some x) ∧ ∀ ys, SqK K H k2 vb ys → ys[i]? = some y,
    fun i H => ∃ xs ys : List V, SqK K H k1 va xs ∧ SqK K H k2 vb ys ∧ i ≤ xs.length ∧ i ≤ ys.length ∧ (i = xs.length ∨ i = ys.length)⟩
def IK (h : Heap) (it : Addr) : Kd → Value → Nat → Prop
  | .L, u, i => ∃ l, u = .ref l ∧ h.IsListIter it l i
  | .T, u, i => ∃ l, u = .ref l ∧ h.IsTupleIter it l i
  | .S, u, i => ∃ z t, u = .str z t ∧ h.IsStrIter it (strIterType z) z t i
theorem IK.at {h h' : Heap} {it : Addr} {k : Kd} {u : Value} {i : Nat} (s : IK h it k u i) (q : ∀ o, h.get? it = some o → h'.get? it = some o) : IK h' it k u i := by
  cases k with
  | L =>
    obtain ⟨l, e, o, ho, r⟩ := s
    exact ⟨l, e, o, q o ho, r⟩
  | T =>
    obtain ⟨l, e, o, ho, r⟩ := s
    exact ⟨l, e, o, q o ho, r⟩
  | S =>
    obtain ⟨z, t, e, o, ho, r⟩ := s
    exact ⟨z, t, e, o, q o ho, r⟩
theorem IK.here {h : Heap} {it : Addr} {k : Kd} {u : Value} {i : Nat} (s : IK h it k u i) : ∃ o, h.get? it = some o ∧ ∀ v, o.data ≠ .cell v := by
  cases k with
  | L =>
    obtain ⟨l, e, o, ho, _, d⟩ := s
    exact ⟨o, ho, fun v q => by rw [d] at q; cases q⟩
  | T =>
    obtain ⟨l, e, o, ho, _, d⟩ := s
    exact ⟨o, ho, fun v q => by rw [d] at q; cases q⟩
  | S =>
    obtain ⟨z, t, e, o, ho, _, d⟩ := s
    exact ⟨o, ho, fun v q => by rw [d] at q; cases q⟩
section
variable {X : Cx} {pins : List (Addr × Obj)} {σ : L2.St} {H : Hp} {s : Shared}
theorem sqk_inj (I : Inv X pins σ H s) {k : Kd} {v : V} {xs ys : List V} (a : SqK X.K H k v xs) (b : SqK X.K H k v ys) : xs = ys := by
  cases k with
  | L =>
    obtain ⟨p, rfl, h1⟩ := a
    obtain ⟨q, e, h2⟩ := b
    cases e
    exact I.list_inj h1 h2
  | T =>
    obtain ⟨p, rfl, h1⟩ := a
    obtain ⟨q, e, h2⟩ := b
    cases e
    exact I.tuple_inj h1 h2
  | S =>
    obtain ⟨p, rfl, h1⟩ := a
    obtain ⟨q, e, h2⟩ := b
    cases e
    rw [h1, h2]
theorem draws_of {A : Around} (I : Inv X pins σ H s) (hh : A.handled = none) {k : Kd} {v : V} {xs : List V} {u : Value} {it : Addr} {i : Nat} (q : SqK X.K H k v xs) (r : RelV v u) (st : IK s.heap it k u i) (ap : ∀ l, u = .ref l → l ≠ it) :
    ∃ (fp : List Addr) (n : Nat) (P : Nat → Value → Prop) (St : Nat → Heap → Prop), n = xs.length ∧ Draws X.prog X.w A it fp n P St ∧ St i s.heap ∧ it ∈ fp ∧ (∀ b ∈ fp, b = it ∨ u = .ref b) ∧
      (∀ j x, P j x → ∃ y, xs[j]? = some y ∧ RelV y x) ∧ ∀ j h, St j h → IK h it k u j := by
  cases k with
  | L =>
    obtain ⟨a, rfl, e⟩ := q
    cases r
    obtain ⟨l, e1, hit⟩ := st
    cases e1
    obtain ⟨its, rv, p, _⟩ := I.list e
    refine ⟨[it, a], its.toArray.size, _, _, ?_, Draws.list hh it a (ap a rfl) its.toArray, ⟨hit, p.isList⟩, by simp, ?_, ?_, ?_⟩
    · rw [List.size_toArray, rv.length]
    · intro b hb
      have hb' : b = it ∨ b = a := by simpa using hb
      rcases hb' with z | z
      · exact .inl z
      · exact .inr (by rw [z])
    · intro j x hx
      have hx : its[j]? = some x := by simpa using hx
      obtain ⟨y, h1, h2⟩ := vals_at rv hx
      exact ⟨y, h1, h2⟩
    · intro j h hs
      exact ⟨a, rfl, hs.1⟩
  | T =>
    obtain ⟨a, rfl, e⟩ := q
    cases r
    obtain ⟨l, e1, hit⟩ := st
    cases e1
    obtain ⟨its, rv, p, _⟩ := I.tuple e
    refine ⟨[it, a], its.toArray.size, _, _, ?_, Draws.tuple hh it a (ap a rfl) its.toArray, ⟨hit, p⟩, by simp, ?_, ?_, ?_⟩
    · rw [List.size_toArray, rv.length]
    · intro b hb
      have hb' : b = it ∨ b = a := by simpa using hb
      rcases hb' with z | z
      · exact .inl z
      · exact .inr (by rw [z])
    · intro j x hx
      have hx : its[j]? = some x := by simpa using hx
      obtain ⟨y, h1, h2⟩ := vals_at rv hx
      exact ⟨y, h1, h2⟩
    · intro j h hs
      exact ⟨a, rfl, hs.1⟩
  | S =>
    obtain ⟨z, rfl, rfl⟩ := q
    obtain ⟨t, rfl⟩ := r
    obtain ⟨z', t', e1, hit⟩ := st
    cases e1
    refine ⟨[it], z.cps.size, _, _, ?_, Draws.text hh it z t, hit, by simp, ?_, ?_, ?_⟩
    · rw [sgV_len]
      rfl
    · intro b hb
      exact .inl (by simpa using hb)
    · rintro j x ⟨c, u, hc, rfl⟩
      refine ⟨.str ⟨#[c]⟩, ?_, ⟨u, rfl⟩⟩
      unfold sgV
      rw [List.getElem?_map, Array.getElem?_toList, hc]
      rfl
    · intro j h hs
      exact ⟨z, t, rfl, hs⟩
theorem begins_of (I : Inv X pins σ H s) {k : Kd} {v : V} {xs : List V} {u : Value} (q : SqK X.K H k v xs) (r : RelV v u) :
    ∃ (o : Obj) (H0 : Heap → Prop), Begins u o H0 ∧ H0 s.heap ∧ (∀ (h : Heap) (it : Addr), h.get? it = some o → IK h it k u 0) ∧ ∀ l, u = .ref l → l < s.heap.objs.size := by
  cases k with
  | L =>
    obtain ⟨a, rfl, e⟩ := q
    cases r
    obtain ⟨its, rv, p, _⟩ := I.list e
    exact ⟨_, _, begins_list a its.toArray, p.isList, fun h it g => ⟨a, rfl, _, g, rfl, rfl⟩, fun l e => by cases e; exact p.lt⟩
  | T =>
    obtain ⟨a, rfl, e⟩ := q
    cases r
    obtain ⟨its, rv, p, _⟩ := I.tuple e
    refine ⟨_, _, begins_tuple a its.toArray, p, fun h it g => ⟨a, rfl, _, g, rfl, rfl⟩, fun l e => ?_⟩
    cases e
    obtain ⟨o1, ho1, _⟩ := id p
    exact Heap.lt_size ho1
  | S =>
    obtain ⟨z, rfl, rfl⟩ := q
    obtain ⟨t, rfl⟩ := r
    exact ⟨_, _, begins_text z t, trivial, fun h it g => ⟨z, t, rfl, _, g, rfl, rfl⟩, fun l e => by cases e⟩
end
theorem na {a b : Nat} (h : a ≠ b) : (a : Addr) ≠ b := h
theorem ni {a b : Nat} (h : (a : Addr) = b) : a = b := h
theorem sep_of {n : Nat} {u1 u2 : Value} {fp1 fp2 : List Addr} (l1 : ∀ l : Nat, u1 = .ref l → l < n) (l2 : ∀ l : Nat, u2 = .ref l → l < n) (m1 : n ∈ fp1) (m2 : n + 1 ∈ fp2) (f1 : ∀ b ∈ fp1, b = n ∨ u1 = .ref b) (f2 : ∀ b ∈ fp2, b = n + 1 ∨ u2 = .ref b) :
    ZipSep2 (n + 4) (n + 2) (n + 3) n (n + 1) fp1 fp2 := by
  have g1 : ∀ b : Nat, b ∈ fp1 → b ≤ n := fun b hb => by
    rcases f1 b hb with q | q
    · exact Nat.le_of_eq q
    · exact Nat.le_of_lt (l1 _ q)
  have g2 : ∀ b : Nat, b ∈ fp2 → b ≤ n + 1 ∧ b ≠ n := fun b hb => by
    rcases f2 b hb with q | q
    · have q : b = n + 1 := q
      exact ⟨Nat.le_of_eq q, by omega⟩
    · have := l2 _ q
      exact ⟨by omega, by omega⟩
  refine ⟨na (by omega), na (by omega), na (by omega), na (by omega), m1, fun z => ?_, fun z => ?_, na (by omega), m2, fun z => ?_, fun z => ?_, fun z => ?_, fun z => ?_⟩
  · have := g1 (n + 4) z
    omega
  · have := g1 (n + 3) z
    omega
  · have := (g2 (n + 4) z).1
    omega
  · have := (g2 (n + 3) z).1
    omega
  · exact (g2 n z).2 rfl
  · have := g1 (n + 1) z
    omega
theorem turn_zipM {P : Program} {w : World} {K : PySem.W.Frag} {elts : List Expr} {kk : Nat} {tpos : Pos} {k1 k2 : Kd} {va vb : V} {u1 u2 : Value} {n : Nat} (r1 : RelV va u1) (r2 : RelV vb u2) (l1 : ∀ l : Nat, u1 = .ref l → l < n) (l2 : ∀ l : Nat, u2 = .ref l → l < n) :
    Turn P w K (.Tuple elts kk tpos) (ItZM K k1 k2 va vb) [n + 4, n + 2, n + 3, n, n + 1] (n + 4) (fun i h => IsZip h (n + 4) (n + 2) (n + 3) .none ∧ IsTupOf2 h (n + 2) (.ref n) (.ref (n + 1)) ∧ (∃ x y, IsTupOf2 h (n + 3) x y) ∧ IK h n k1 u1 i ∧ IK h (n + 1) k2 u2 i) where
  mem := by simp
  obj := fun i h st c hc => by
    obtain ⟨hz, hTI, ⟨x, y, hTO⟩, h1, h2⟩ := st
    have e' : c = n + 4 ∨ c = n + 2 ∨ c = n + 3 ∨ c = n ∨ c = n + 1 := by simpa using hc
    rcases e' with q | q | q | q | q
    · rw [q]; exact ⟨_, hz, fun v q => nomatch q⟩
    · rw [q]; exact ⟨_, hTI, fun v q => nomatch q⟩
    · rw [q]; exact ⟨_, hTO, fun v q => nomatch q⟩
    · rw [q]; exact h1.here
    · rw [q]; exact h2.here
  keep := fun i h h' st k => by
    obtain ⟨hz, hTI, ⟨x, y, hTO⟩, h1, h2⟩ := st
    exact ⟨k (n + 4) (by simp) _ hz, k (n + 2) (by simp) _ hTI, ⟨x, y, k (n + 3) (by simp) _ hTO⟩, h1.at fun o q => k n (by simp) o q, h2.at fun o q => k (n + 1) (by simp) o q⟩
  item := by
    intro X hP hw hK hc i pins s σ H E I hf st hg
    subst hP hw hK
    obtain ⟨hz, hTI, ⟨x0, y0, hTO⟩, h1, h2⟩ := st
    obtain ⟨xs, ys, x, y, hqx, hqy, hx, hy⟩ := hg
    have hh : X.A.in1.handled = none := I.ok.hd hc
    obtain ⟨fp1, n1, P1, St1, e1, D1, st1, m1, f1, p1, kk1⟩ := draws_of I hh hqx r1 h1 (fun l e z => by have := l1 l e; have := ni z; omega)
    obtain ⟨fp2, n2, P2, St2, e2, D2, st2, m2, f2, p2, kk2⟩ := draws_of I hh hqy r2 h2 (fun l e z => by have := l2 l e; have := ni z; omega)
    have S : ZipSep2 (n + 4) (n + 2) (n + 3) n (n + 1) fp1 fp2 := sep_of l1 l2 m1 m2 f1 f2
    have hzl : n + 4 < s.heap.objs.size := Heap.lt_size hz
    refine wpAny_pyNext_zipD2_item S D1 D2 hz hTI hTO st1 st2 (by rw [e1]; exact (List.getElem?_eq_some_iff.mp hx).1) (by rw [e2]; exact (List.getElem?_eq_some_iff.mp hy).1) fun v1 v2 h' tk y1 y2 z' TO' s1' s2' hT hsz hk => ?_
    obtain ⟨x', hx', rx⟩ := p1 i v1 y1
    rw [hx] at hx'
    cases hx'
    obtain ⟨y', hy', ry⟩ := p2 i v2 y2
    rw [hy] at hy'
    cases hy'
    refine ⟨_, rfl, wpAny_letOwnedTupleGo_zip (s := { s with heap := h', toks := tk }) z' fun h'' z'' sb => ?_⟩
    have hT2 : h''.get? s.heap.objs.size = some { cls := .type "tuple", data := .seq #[v1, v2] } := (sb.2 _ (Nat.ne_of_gt hzl)).trans hT
    have new : ObjOk X.prog X.w (upd H s.heap.objs.size (.tup [x, y])) h'' s.heap.objs.size (.tup [x, y]) :=
      ⟨by show 2 ≤ sizeLine; decide, [v1, v2], .cons rx (.cons ry .nil), ⟨_, hT2, rfl, _, rfl⟩⟩
    have I1 : Inv X pins σ (upd H s.heap.objs.size (.tup [x, y])) { s with heap := h'', toks := tk } :=
      I.turnedNew (t' := tk) (ch := [n + 4, n + 2, n + 3, n, n + 1]) (fun c o hb q => (sb.2 c (fun q' => hb (by simp [q']))).trans (hk c o (fun q' => hb (by simp [q'])) (fun q' => hb (by simp [q'])) (fun q' => hb (by simp [q'])) (fun q' => hb (by simp [q'])) q)) hf (Nat.le_refl _) new
    refine ⟨.ref s.heap.objs.size, _, I1, rfl, ⟨_, x, y, rfl, I.hok.fresh (Nat.le_refl _), rfl, fun l hl => by rw [sqk_inj I hl hqx]; exact hx, fun l hl => by rw [sqk_inj I hl hqy]; exact hy⟩, ⟨z'', ?_, ⟨v1, v2, ?_⟩, ?_, ?_⟩, fun c hcm => ?_⟩
    · exact (sb.2 _ (na (by omega))).trans (hk _ _ (na (by omega)) (na (by omega)) (na (by omega)) (na (by omega)) hTI)
    · exact (sb.2 _ (na (by omega))).trans TO'
    · exact (kk1 _ _ s1').at fun o q => (sb.2 _ (na (by omega))).trans q
    · exact (kk2 _ _ s2').at fun o q => (sb.2 _ (na (by omega))).trans q
    · have hlt : c < s.heap.objs.size := by
        have e' : c = n + 4 ∨ c = n + 2 ∨ c = n + 3 ∨ c = n ∨ c = n + 1 := by simpa using hcm
        have hzl : (n + 4 : Nat) < s.heap.objs.size := hzl
        rcases e' with q | q | q | q | q
        · rw [q]; exact hzl
        · rw [q]; exact (show (n + 2 : Nat) < s.heap.objs.size by omega)
        · rw [q]; exact (show (n + 3 : Nat) < s.heap.objs.size by omega)
        · rw [q]; exact (show (n : Nat) < s.heap.objs.size by omega)
        · rw [q]; exact (show (n + 1 : Nat) < s.heap.objs.size by omega)
      rw [upd_ne (Nat.ne_of_lt hlt)]
      exact (hf c hcm).1
  done := by
    intro X hP hw hK hc i pins s σ H E I hf st hg
    subst hP hw hK
    obtain ⟨hz, hTI, ⟨x0, y0, hTO⟩, h1, h2⟩ := st
    obtain ⟨xs, ys, hqx, hqy, b1, b2, hend⟩ := hg
    have hh : X.A.in1.handled = none := I.ok.hd hc
    obtain ⟨fp1, n1, P1, St1, e1, D1, st1, m1, f1, p1, kk1⟩ := draws_of I hh hqx r1 h1 (fun l e z => by have := l1 l e; have := ni z; omega)
    obtain ⟨fp2, n2, P2, St2, e2, D2, st2, m2, f2, p2, kk2⟩ := draws_of I hh hqy r2 h2 (fun l e z => by have := l2 l e; have := ni z; omega)
    have S : ZipSep2 (n + 4) (n + 2) (n + 3) n (n + 1) fp1 fp2 := sep_of l1 l2 m1 m2 f1 f2
    exact wpAny_pyNext_zipD2_end S D1 D2 hz hTI hTO st1 st2 (by omega) (by omega) (by omega) fun h' tk hk => ⟨rfl, I.turnedL (t' := tk) (ch := [n + 4, n + 2, n + 3, n, n + 1]) (fun c o hb q =>
      hk c o (fun q' => hb (by simp [q'])) (fun q' => hb (by simp [q'])) (fun q' => hb (by simp [q'])) (fun q' => hb (by simp [q'])) q) hf⟩
  self := fun A i s Q E st h => wpAny_pyIter_zip st.1 h
def iZipM (K : PySem.W.Frag) (k1 k2 : Kd) (ta : TA) : TI := fun σ H R => ta σ H fun vs H1 => ∃ va vb xs ys, vs = [va, vb] ∧ SqK K H1 k1 va xs ∧ SqK K H1 k2 vb ys ∧ R (ItZM K k1 k2 va vb) H1
theorem pi_zipM {X : Cx} {k1 k2 : Kd} {e e2 : Expr} {ta : TA} {p pos tpos : Pos} {elts : List Expr} {kk : Nat} (hg : Gl X "zip") (hm : X.mg "zip" = none) (ha : PA X [e, e2] ta)
    (hs : starEach [e, e2] X.env = (false, eval e X.env) :: starEach [e2] X.env := by rfl) (hpl : (backTo pos (starEach [e2] X.env)).any (·.1) = false := by rfl) :
    PI X (.Tuple elts kk tpos) (.Call (.Name "zip" p) [e, e2] [] pos) (iZipM X.K k1 k2 ta) := by
  refine ⟨fun pins s σ H R I h => ?_⟩
  refine Call_ (ld_blt I hg hm PyProof.Rows.boot_zip (PyProof.Rows.callWith_type1 (thn (ha.run pos pins s σ H _ I h) fun us s1 ⟨vs, H1, I1, r1, q1⟩ => ?_) hs hpl))
  obtain ⟨va, vb, xs, ys, ex, hqx, hqy, q⟩ := q1
  subst ex
  cases r1 with
  | cons r rr =>
    cases rr with
    | cons r' rr =>
      cases rr
      obtain ⟨o1, H01, B1, g1, i1, l1⟩ := begins_of I1 hqx r
      obtain ⟨o2, H02, B2, g2, i2, l2⟩ := begins_of I1 hqy r'
      refine zip_begins2 B1 B2 g1 g2 fun h' hz hTI hTO e1 e2 hsz hk => wpAny_pyIter_zip hz ?_
      have I2 : Inv X pins σ H1 { s1 with heap := h' } := I1.kept (t' := s1.toks) hk
      refine ⟨s1.heap.objs.size + 4, [s1.heap.objs.size + 4, s1.heap.objs.size + 2, s1.heap.objs.size + 3, s1.heap.objs.size, s1.heap.objs.size + 1], _, _, H1, rfl, I2, turn_zipM r r' l1 l2, ⟨hz, hTI, ⟨_, _, hTO⟩, i1 _ _ e1, i2 _ _ e2⟩, fun c hcm => ?_, q⟩
      have e' : c = s1.heap.objs.size + 4 ∨ c = s1.heap.objs.size + 2 ∨ c = s1.heap.objs.size + 3 ∨ c = s1.heap.objs.size ∨ c = s1.heap.objs.size + 1 := by simpa using hcm
      have hle : s1.heap.objs.size ≤ c := by
        rcases e' with z | z | z | z | z
        · rw [z]; exact Nat.le_add_right _ _
        · rw [z]; exact Nat.le_add_right _ _
        · rw [z]; exact Nat.le_add_right _ _
        · rw [z]; exact Nat.le_refl _
        · rw [z]; exact Nat.le_add_right _ _
      exact I1.fpOk hle (I1.hok.fresh hle)
theorem walk_zipM {K : PySem.W.Frag} {k1 k2 : Kd} {a b : V} {xs ys : List V} {n : Nat} (h : n = min xs.length ys.length) :
    Walk (ItZM K k1 k2 a b) n (fun H => SqK K H k1 a xs ∧ SqK K H k2 b ys) (YPair (fun i => xs[i]?) (fun i => ys[i]?)) where
  goes := fun i H hi h => ⟨xs, ys, xs[i]'(by omega), ys[i]'(by omega), h.1, h.2, List.getElem?_eq_getElem _, List.getElem?_eq_getElem _⟩
  stops := fun H h => ⟨xs, ys, h.1, h.2, by omega, by omega, by omega⟩
  yields := fun i H x H' hi h y => by
    obtain ⟨T, u, v, rfl, nT, e, hu, hv⟩ := y
    exact ⟨T, u, v, rfl, nT, e, hu xs h.1, hv ys h.2⟩
end X16

/-! zip of three that are a list, a tuple or a text, in any mixture -/
namespace X19
open PySem PySem.Spec PyProof.Rows L2 Kit X16
def ItZ3 (K : PySem.W.Frag) (k1 k2 k3 : Kd) (va vb vc : V) : It :=
  ⟨fun i H => ∃ (xs ys zs : List V) (x y z : V), SqK K H k1 va xs ∧ SqK K H k2 vb ys ∧ SqK K H k3 vc zs ∧ xs[i]? = some x ∧ ys[i]? = some y ∧ zs[i]? = some z,
    fun i H v H' => ∃ T x y z, v = .ref T ∧ H T = none ∧ H' = upd H T (.tup [x, y, z]) ∧ (∀ xs, SqK K H k1 va xs → xs[i]? = some x) ∧ (∀ ys, SqK K H k2 vb ys → ys[i]? = some y) ∧ ∀ zs, SqK K H k3 vc zs → zs[i]? = some z,
    fun i H => ∃ xs ys zs : List V, SqK K H k1 va xs ∧ SqK K H k2 vb ys ∧ SqK K H k3 vc zs ∧ i ≤ xs.length ∧ i ≤ ys.length ∧ i ≤ zs.length ∧ (i = xs.length ∨ i = ys.length ∨ i = zs.length)⟩
theorem sep_of3 {n : Nat} {u1 u2 u3 : Value} {fp1 fp2 fp3 : List Addr} (l1 : ∀ l : Nat, u1 = .ref l → l < n) (l2 : ∀ l : Nat, u2 = .ref l → l < n) (l3 : ∀ l : Nat, u3 = .ref l → l < n) (m1 : n ∈ fp1) (m2 : n + 1 ∈ fp2) (m3 : n + 2 ∈ fp3)
    (f1 : ∀ b ∈ fp1, b = n ∨ u1 = .ref b) (f2 : ∀ b ∈ fp2, b = n + 1 ∨ u2 = .ref b) (f3 : ∀ b ∈ fp3, b = n + 2 ∨ u3 = .ref b) :
    ZipSep3 (n + 5) (n + 3) (n + 4) n (n + 1) (n + 2) fp1 fp2 fp3 := by
  have g1 : ∀ b : Nat, b ∈ fp1 → b ≤ n := fun b hb => by
    rcases f1 b hb with q | q
    · exact Nat.le_of_eq q
    · exact Nat.le_of_lt (l1 _ q)
  have g2 : ∀ b : Nat, b ∈ fp2 → b ≤ n + 1 ∧ b ≠ n := fun b hb => by
    rcases f2 b hb with q | q
    · have q : b = n + 1 := q
      exact ⟨Nat.le_of_eq q, by omega⟩
    · have := l2 _ q
      exact ⟨by omega, by omega⟩
  have g3 : ∀ b : Nat, b ∈ fp3 → b ≤ n + 2 ∧ b ≠ n ∧ b ≠ n + 1 := fun b hb => by
    rcases f3 b hb with q | q
    · have q : b = n + 2 := q
      exact ⟨Nat.le_of_eq q, by omega, by omega⟩
    · have := l3 _ q
      exact ⟨by omega, by omega, by omega⟩
  constructor
  all_goals first
    | exact m1
    | exact m2
    | exact m3
    | exact na (by omega)
    | (intro z; have := g1 _ z; omega)
    | (intro z; have := g2 _ z; omega)
    | (intro z; have := g3 _ z; omega)
theorem turn_zip3 {P : Program} {w : World} {K : PySem.W.Frag} {elts : List Expr} {kk : Nat} {tpos : Pos} {k1 k2 k3 : Kd} {va vb vc : V} {u1 u2 u3 : Value} {n : Nat} (r1 : RelV va u1) (r2 : RelV vb u2) (r3 : RelV vc u3)
    (l1 : ∀ l : Nat, u1 = .ref l → l < n) (l2 : ∀ l : Nat, u2 = .ref l → l < n) (l3 : ∀ l : Nat, u3 = .ref l → l < n) :
    Turn P w K (.Tuple elts kk tpos) (ItZ3 K k1 k2 k3 va vb vc) [n + 5, n + 3, n + 4, n, n + 1, n + 2] (n + 5) (fun i h => IsZip h (n + 5) (n + 3) (n + 4) .none ∧ IsTupOf3 h (n + 3) (.ref n) (.ref (n + 1)) (.ref (n + 2)) ∧ (∃ x y z, IsTupOf3 h (n + 4) x y z) ∧ IK h n k1 u1 i ∧ IK h (n + 1) k2 u2 i ∧ IK h (n + 2) k3 u3 i) where
  mem := by simp
  obj := fun i h st c hc => by
    obtain ⟨hz, hTI, ⟨x, y, z, hTO⟩, h1, h2, h3⟩ := st
    have e' : c = n + 5 ∨ c = n + 3 ∨ c = n + 4 ∨ c = n ∨ c = n + 1 ∨ c = n + 2 := by simpa using hc
    rcases e' with q | q | q | q | q | q
    · rw [q]; exact ⟨_, hz, fun v q => nomatch q⟩
    · rw [q]; exact ⟨_, hTI, fun v q => nomatch q⟩
    · rw [q]; exact ⟨_, hTO, fun v q => nomatch q⟩
    · rw [q]; exact h1.here
    · rw [q]; exact h2.here
    · rw [q]; exact h3.here
  keep := fun i h h' st k => by
    obtain ⟨hz, hTI, ⟨x, y, z, hTO⟩, h1, h2, h3⟩ := st
    exact ⟨k (n + 5) (by simp) _ hz, k (n + 3) (by simp) _ hTI, ⟨x, y, z, k (n + 4) (by simp) _ hTO⟩, h1.at fun o q => k n (by simp) o q, h2.at fun o q => k (n + 1) (by simp) o q, h3.at fun o q => k (n + 2) (by simp) o q⟩
  item := by
    intro X hP hw hK hc i pins s σ H E I hf st hg
    subst hP hw hK
    obtain ⟨hz, hTI, ⟨x0, y0, z0, hTO⟩, h1, h2, h3⟩ := st
    obtain ⟨xs, ys, zs, x, y, z, hqx, hqy, hqz, hx, hy, hzz⟩ := hg
    have hh : X.A.in1.handled = none := I.ok.hd hc
    obtain ⟨fp1, n1, P1, St1, e1, D1, st1, m1, f1, p1, kk1⟩ := draws_of I hh hqx r1 h1 (fun l e z => by have := l1 l e; have := ni z; omega)
    obtain ⟨fp2, n2, P2, St2, e2, D2, st2, m2, f2, p2, kk2⟩ := draws_of I hh hqy r2 h2 (fun l e z => by have := l2 l e; have := ni z; omega)
    obtain ⟨fp3, n3, P3, St3, e3, D3, st3, m3, f3, p3, kk3⟩ := draws_of I hh hqz r3 h3 (fun l e z => by have := l3 l e; have := ni z; omega)
    have S : ZipSep3 (n + 5) (n + 3) (n + 4) n (n + 1) (n + 2) fp1 fp2 fp3 := sep_of3 l1 l2 l3 m1 m2 m3 f1 f2 f3
    have hzl : n + 5 < s.heap.objs.size := Heap.lt_size hz
    refine wpAny_pyNext_zipD3_item S D1 D2 D3 hz hTI hTO st1 st2 st3 (by rw [e1]; exact (List.getElem?_eq_some_iff.mp hx).1) (by rw [e2]; exact (List.getElem?_eq_some_iff.mp hy).1) (by rw [e3]; exact (List.getElem?_eq_some_iff.mp hzz).1) fun v1 v2 v3 h' tk y1 y2 y3 z' TO' s1' s2' s3' hT hsz hk => ?_
    obtain ⟨x', hx', rx⟩ := p1 i v1 y1
    rw [hx] at hx'
    cases hx'
    obtain ⟨y', hy', ry⟩ := p2 i v2 y2
    rw [hy] at hy'
    cases hy'
    obtain ⟨w', hw', rz⟩ := p3 i v3 y3
    rw [hzz] at hw'
    cases hw'
    refine ⟨_, rfl, wpAny_letOwnedTupleGo_zip (s := { s with heap := h', toks := tk }) z' fun h'' z'' sb => ?_⟩
    have hT2 : h''.get? s.heap.objs.size = some { cls := .type "tuple", data := .seq #[v1, v2, v3] } := (sb.2 _ (Nat.ne_of_gt hzl)).trans hT
    have new : ObjOk X.prog X.w (upd H s.heap.objs.size (.tup [x, y, z])) h'' s.heap.objs.size (.tup [x, y, z]) :=
      ⟨by show 3 ≤ sizeLine; decide, [v1, v2, v3], .cons rx (.cons ry (.cons rz .nil)), ⟨_, hT2, rfl, _, rfl⟩⟩
    have I1 : Inv X pins σ (upd H s.heap.objs.size (.tup [x, y, z])) { s with heap := h'', toks := tk } :=
      I.turnedNew (t' := tk) (ch := [n + 5, n + 3, n + 4, n, n + 1, n + 2]) (fun c o hb q => (sb.2 c (fun q' => hb (by simp [q']))).trans (hk c o (fun q' => hb (by simp [q'])) (fun q' => hb (by simp [q'])) (fun q' => hb (by simp [q'])) (fun q' => hb (by simp [q'])) (fun q' => hb (by simp [q'])) q)) hf (Nat.le_refl _) new
    refine ⟨.ref s.heap.objs.size, _, I1, rfl, ⟨_, x, y, z, rfl, I.hok.fresh (Nat.le_refl _), rfl, fun l hl => by rw [sqk_inj I hl hqx]; exact hx, fun l hl => by rw [sqk_inj I hl hqy]; exact hy, fun l hl => by rw [sqk_inj I hl hqz]; exact hzz⟩, ⟨z'', ?_, ⟨v1, v2, v3, ?_⟩, ?_, ?_, ?_⟩, fun c hcm => ?_⟩
    · exact (sb.2 _ (na (by omega))).trans (hk _ _ (na (by omega)) (na (by omega)) (na (by omega)) (na (by omega)) (na (by omega)) hTI)
    · exact (sb.2 _ (na (by omega))).trans TO'
    · exact (kk1 _ _ s1').at fun o q => (sb.2 _ (na (by omega))).trans q
    · exact (kk2 _ _ s2').at fun o q => (sb.2 _ (na (by omega))).trans q
    · exact (kk3 _ _ s3').at fun o q => (sb.2 _ (na (by omega))).trans q
    · have hlt : c < s.heap.objs.size := by
        have e' : c = n + 5 ∨ c = n + 3 ∨ c = n + 4 ∨ c = n ∨ c = n + 1 ∨ c = n + 2 := by simpa using hcm
        have hzl : (n + 5 : Nat) < s.heap.objs.size := hzl
        rcases e' with q | q | q | q | q | q
        · rw [q]; exact hzl
        · rw [q]; exact (show (n + 3 : Nat) < s.heap.objs.size by omega)
        · rw [q]; exact (show (n + 4 : Nat) < s.heap.objs.size by omega)
        · rw [q]; exact (show (n : Nat) < s.heap.objs.size by omega)
        · rw [q]; exact (show (n + 1 : Nat) < s.heap.objs.size by omega)
        · rw [q]; exact (show (n + 2 : Nat) < s.heap.objs.size by omega)
      rw [upd_ne (Nat.ne_of_lt hlt)]
      exact (hf c hcm).1
  done := by
    intro X hP hw hK hc i pins s σ H E I hf st hg
    subst hP hw hK
    obtain ⟨hz, hTI, ⟨x0, y0, z0, hTO⟩, h1, h2, h3⟩ := st
    obtain ⟨xs, ys, zs, hqx, hqy, hqz, b1, b2, b3, hend⟩ := hg
    have hh : X.A.in1.handled = none := I.ok.hd hc
    obtain ⟨fp1, n1, P1, St1, e1, D1, st1, m1, f1, p1, kk1⟩ := draws_of I hh hqx r1 h1 (fun l e z => by have := l1 l e; have := ni z; omega)
    obtain ⟨fp2, n2, P2, St2, e2, D2, st2, m2, f2, p2, kk2⟩ := draws_of I hh hqy r2 h2 (fun l e z => by have := l2 l e; have := ni z; omega)
    obtain ⟨fp3, n3, P3, St3, e3, D3, st3, m3, f3, p3, kk3⟩ := draws_of I hh hqz r3 h3 (fun l e z => by have := l3 l e; have := ni z; omega)
    have S : ZipSep3 (n + 5) (n + 3) (n + 4) n (n + 1) (n + 2) fp1 fp2 fp3 := sep_of3 l1 l2 l3 m1 m2 m3 f1 f2 f3
    exact wpAny_pyNext_zipD3_end S D1 D2 D3 hz hTI hTO st1 st2 st3 (by omega) (by omega) (by omega) (by omega) fun h' tk hk => ⟨rfl, I.turnedL (t' := tk) (ch := [n + 5, n + 3, n + 4, n, n + 1, n + 2]) (fun c o hb q =>
      hk c o (fun q' => hb (by simp [q'])) (fun q' => hb (by simp [q'])) (fun q' => hb (by simp [q'])) (fun q' => hb (by simp [q'])) (fun q' => hb (by simp [q'])) q) hf⟩
  self := fun A i s Q E st h => wpAny_pyIter_zip st.1 h
def iZip3 (K : PySem.W.Frag) (k1 k2 k3 : Kd) (ta : TA) : TI := fun σ H R => ta σ H fun vs H1 => ∃ va vb vc xs ys zs, vs = [va, vb, vc] ∧ SqK K H1 k1 va xs ∧ SqK K H1 k2 vb ys ∧ SqK K H1 k3 vc zs ∧ R (ItZ3 K k1 k2 k3 va vb vc) H1
theorem pi_zip3 {X : Cx} {k1 k2 k3 : Kd} {e e2 e3 : Expr} {ta : TA} {p pos tpos : Pos} {elts : List Expr} {kk : Nat} (hg : Gl X "zip") (hm : X.mg "zip" = none) (ha : PA X [e, e2, e3] ta)
    (hs : starEach [e, e2, e3] X.env = (false, eval e X.env) :: starEach [e2, e3] X.env := by rfl) (hpl : (backTo pos (starEach [e2, e3] X.env)).any (·.1) = false := by rfl) :
    PI X (.Tuple elts kk tpos) (.Call (.Name "zip" p) [e, e2, e3] [] pos) (iZip3 X.K k1 k2 k3 ta) := by
  refine ⟨fun pins s σ H R I h => ?_⟩
  refine Call_ (ld_blt I hg hm PyProof.Rows.boot_zip (PyProof.Rows.callWith_type1 (thn (ha.run pos pins s σ H _ I h) fun us s1 ⟨vs, H1, I1, r1, q1⟩ => ?_) hs hpl))
  obtain ⟨va, vb, vc, xs, ys, zs, ex, hqx, hqy, hqz, q⟩ := q1
  subst ex
  cases r1 with
  | cons r rr =>
    cases rr with
    | cons r' rr =>
      cases rr with
      | cons r'' rr =>
      cases rr
      obtain ⟨o1, H01, B1, g1, i1, l1⟩ := begins_of I1 hqx r
      obtain ⟨o2, H02, B2, g2, i2, l2⟩ := begins_of I1 hqy r'
      obtain ⟨o3, H03, B3, g3, i3, l3⟩ := begins_of I1 hqz r''
      refine zip_begins3 B1 B2 B3 g1 g2 g3 fun h' hz hTI hTO e1 e2 e3 hsz hk => wpAny_pyIter_zip hz ?_
      have I2 : Inv X pins σ H1 { s1 with heap := h' } := I1.kept (t' := s1.toks) hk
      refine ⟨s1.heap.objs.size + 5, [s1.heap.objs.size + 5, s1.heap.objs.size + 3, s1.heap.objs.size + 4, s1.heap.objs.size, s1.heap.objs.size + 1, s1.heap.objs.size + 2], _, _, H1, rfl, I2, turn_zip3 r r' r'' l1 l2 l3, ⟨hz, hTI, ⟨_, _, _, hTO⟩, i1 _ _ e1, i2 _ _ e2, i3 _ _ e3⟩, fun c hcm => ?_, q⟩
      have e' : c = s1.heap.objs.size + 5 ∨ c = s1.heap.objs.size + 3 ∨ c = s1.heap.objs.size + 4 ∨ c = s1.heap.objs.size ∨ c = s1.heap.objs.size + 1 ∨ c = s1.heap.objs.size + 2 := by simpa using hcm
      have hle : s1.heap.objs.size ≤ c := by
        rcases e' with z | z | z | z | z | z
        · rw [z]; exact Nat.le_add_right _ _
        · rw [z]; exact Nat.le_add_right _ _
        · rw [z]; exact Nat.le_add_right _ _
        · rw [z]; exact Nat.le_refl _
        · rw [z]; exact Nat.le_add_right _ _
        · rw [z]; exact Nat.le_add_right _ _
      exact I1.fpOk hle (I1.hok.fresh hle)
/-- what such a turn gives -/
def YTrip (xs ys zs : List V) : Nat → Hp → V → Hp → Prop := fun i H v H' => ∃ T x y z, v = .ref T ∧ H T = none ∧ H' = upd H T (.tup [x, y, z]) ∧ xs[i]? = some x ∧ ys[i]? = some y ∧ zs[i]? = some z
theorem walk_zip3 {K : PySem.W.Frag} {k1 k2 k3 : Kd} {a b c : V} {xs ys zs : List V} {n : Nat} (h1 : n = xs.length) (h2 : n = ys.length) (h3 : n = zs.length) :
    Walk (ItZ3 K k1 k2 k3 a b c) n (fun H => SqK K H k1 a xs ∧ SqK K H k2 b ys ∧ SqK K H k3 c zs) (YTrip xs ys zs) where
  goes := fun i H hi h => ⟨xs, ys, zs, xs[i]'(by omega), ys[i]'(by omega), zs[i]'(by omega), h.1, h.2.1, h.2.2, List.getElem?_eq_getElem _, List.getElem?_eq_getElem _, List.getElem?_eq_getElem _⟩
  stops := fun H h => ⟨xs, ys, zs, h.1, h.2.1, h.2.2, by omega, by omega, by omega, by omega⟩
  yields := fun i H x H' hi h y => by
    obtain ⟨T, u, v, w, rfl, nT, e, hu, hv, hw⟩ := y
    exact ⟨T, u, v, w, rfl, nT, e, hu xs h.1, hv ys h.2.1, hw zs h.2.2⟩
end X19

namespace K80
open PySem PySem.Spec PyProof.Rows L2 Kit X15
/-! ### an item otherwise -/
theorem cut_whole {xs : List V} {lo hi : Option Int} (h : X9.whole xs.length lo hi) : cutV xs lo hi = xs := by
  unfold cutV
  rw [h.1, h.2, List.drop_zero]
  exact List.take_of_length_le (by omega)
theorem cut_to {xs : List V} {k : Nat} : cutV xs none (some (k : Int)) = xs.take k := by
  unfold cutV
  rw [HT.sIx_none, HT.sIx_nat, List.drop_zero, Nat.sub_zero]
  by_cases h : k ≤ xs.length
  · rw [Nat.min_eq_left h]
  · rw [Nat.min_eq_right (by omega), List.take_of_length_le (Nat.le_refl _), List.take_of_length_le (by omega)]
theorem cut_from {xs : List V} {k : Nat} : cutV xs (some (k : Int)) none = xs.drop k := by
  unfold cutV
  rw [HT.sIx_none, HT.sIx_nat]
  by_cases h : k ≤ xs.length
  · rw [Nat.min_eq_left h]
    exact List.take_of_length_le (by rw [List.length_drop]; omega)
  · rw [Nat.min_eq_right (by omega), List.drop_of_length_le (Nat.le_refl _), List.drop_of_length_le (by omega), List.take_nil]
theorem cut_midK {xs : List V} {a b : Nat} (ha : a ≤ xs.length) (hab : a ≤ b) : cutV xs (some (a : Int)) (some (b : Int)) = (xs.drop a).take (b - a) := by
  unfold cutV
  rw [HT.sIx_nat, HT.sIx_nat, Nat.min_eq_left ha]
  by_cases h : b ≤ xs.length
  · rw [Nat.min_eq_left h]
  · rw [Nat.min_eq_right (by omega), List.take_of_length_le (by rw [List.length_drop]; omega), List.take_of_length_le (by rw [List.length_drop]; omega)]
theorem sl_any {K : PySem.W.Frag} {H : Hp} {a : Addr} {xs : List V} {lo hi : Option Int} {F : V → Hp → Prop} (e : H a = some (.tup xs)) (q : ∀ p H', Same H H' → H' p = some (.tup (cutV xs lo hi)) → F (.ref p) H') : X9.rSlTA K (.ref a) lo hi H F :=
  ⟨a, xs, rfl, .inl (.inl e), fun w => q a H (Same.refl H) (by rw [cut_whole w]; exact e), fun _ p np => q p _ (same_new np) upd_same⟩
theorem sl_toI {K : PySem.W.Frag} {H : Hp} {a : Addr} {xs : List V} {lo : Option Int} {k : Nat} {z : Int} {F : V → Hp → Prop} (hz : z = (k : Int)) (e : H a = some (.tup xs)) (hlo : lo = none) (q : ∀ p H', Same H H' → H' p = some (.tup (xs.take k)) → F (.ref p) H') : X9.rSlTA K (.ref a) lo (some z) H F := by
  subst hlo
  subst hz
  exact sl_any e fun p H' s e' => q p H' s (by rw [← cut_to]; exact e')
theorem sl_fromI {K : PySem.W.Frag} {H : Hp} {a : Addr} {xs : List V} {hi : Option Int} {k : Nat} {z : Int} {F : V → Hp → Prop} (hz : z = (k : Int)) (e : H a = some (.tup xs)) (hhi : hi = none) (q : ∀ p H', Same H H' → H' p = some (.tup (xs.drop k)) → F (.ref p) H') : X9.rSlTA K (.ref a) (some z) hi H F := by
  subst hhi
  subst hz
  exact sl_any e fun p H' s e' => q p H' s (by rw [← cut_from]; exact e')
theorem sl_midI {K : PySem.W.Frag} {H : Hp} {a : Addr} {xs : List V} {k j : Nat} {z y : Int} {F : V → Hp → Prop} (hz : z = (k : Int)) (hy : y = ((k + j : Nat) : Int)) (hk : k ≤ xs.length) (e : H a = some (.tup xs)) (q : ∀ p H', Same H H' → H' p = some (.tup ((xs.drop k).take j)) → F (.ref p) H') : X9.rSlTA K (.ref a) (some z) (some y) H F := by
  subst hz
  subst hy
  refine sl_any e fun p H' s e' => q p H' s ?_
  rw [cut_midK hk (Nat.le_add_right _ _), Nat.add_sub_cancel_left] at e'
  exact e'
theorem np_ {σ : L2.St} {H : Hp} {G : Option Int → Hp → Prop} (h : G none H) : tNoPart σ H G := h
theorem cat_any {K : PySem.W.Frag} {H : Hp} {a b : Addr} {xs ys : List V} {F : VK} (e1 : H a = some (.tup xs)) (e2 : H b = some (.tup ys)) (l : xs.length + ys.length ≤ sizeLine) (q : ∀ p H', Same H H' → H' p = some (.tup (xs ++ ys)) → F (.ref p) H') : X10.rCatTA K (.ref a) (.ref b) H F := by
  by_cases hx : xs = []
  · subst hx
    exact .inl ⟨a, b, ys, rfl, rfl, .inl (.inl e1), .inl (.inl e2), q b H (Same.refl H) e2⟩
  · refine .inr ⟨a, b, xs, ys, rfl, rfl, .inl (.inl e1), .inl (.inl e2), hx, l, fun hy => ?_, fun _ p np => q p _ (same_new np) upd_same⟩
    subst hy
    exact q a H (Same.refl H) (by rw [List.append_nil]; exact e1)
def spOff : Sp := fun vs H Q _ => ∃ (E : Addr → Prop) (d c : Addr) (o ot : Ob) (v vo : V) (t : Nat) (B : Int) (m n : Nat), vs = [.ref d, v, vo] ∧ ExE E H ∧ E d ∧ E c ∧ Deck H d c t ∧ t < 100000000000 ∧ ObE E H o v ∧ ObE E H ot vo ∧
  In B m n o ∧ In B m n ot ∧ (10 : Int) ^ 39 ≤ B ∧ B + 1000 < 10 ^ 41 ∧ 2 ≤ m ∧ m ≤ 100 ∧ wt o ≤ 1000000 ∧
  ∀ (v' : V) (o' : Ob) (t' : Nat) (H' : Hp), But d c H H' → Deck H' d c t' → t' ≤ t + 3 → ObE E H' o' v' → In (B + 1000) (m + 1) (n + 1) o' → wt o' ≤ 2 * wt o + wt ot + 1000 → Q v' H'
theorem wt_ge : ∀ o : Ob, 5 ≤ wt o
  | .non => by rw [wt]; decide
  | .bl _ => by rw [wt]; decide
  | .int _ => by rw [wt]; decide
  | .str _ => by rw [wt]; decide
  | .emp => by rw [wt]; decide
  | .tup xs => by rw [wt]; omega
  | .lst xs => by rw [wt]; omega
  | .dic x => by rw [wt]; omega
section
variable {P : Program} {w : World} {K : PySem.W.Frag} {mg : Str → Option Value} {base : Heap}
theorem ok_off {f : Addr} {fd : FuncData} (D : DefAt K mg "_law_off" ["_law_deck_here", "_law_thing", "_law_other"] s_l_off f fd) (M : Bi mg)
    (C_l_draw : Cal P w K mg base L2.CX0 1 "_law_draw" ["_law_deck_here", "_law_sides"] spDraw) :
    Cal P w K mg base L2.CX0 2 "_law_off" ["_law_deck_here", "_law_thing", "_law_other"] spOff := by
  have S := S_l_off
  refine cal_of D.fn D.mgf D.bs D.kbs S (fun vs H Q E h => ?_) (fun cdv A outer s H vs Q E0' hq hr h => ?_)
  · obtain ⟨E, d, c, o, ot, v, vo, t, B, m, n, rfl, _⟩ := h
    rfl
  · obtain ⟨E, d, c, o, ot, v, vo, t, B, m, n, rfl, exE, Ed, Ec, dk, ht, ho, hot, ino, inot, B1, B2, m2, m1, wto, q⟩ := h
    refine ⟨_, (pss_cons (ps_set (i := 3) S.nd rfl (.inl rfl) (pe_c C_l_draw pass0 hq hr (by omega) (by rfl) (pa_cons (pv 0) (pa_cons pe_int pa_nil))))
 (pss_cons (ps_set (i := 4) S.nd rfl (.inl rfl) (pe_ix ix_list (pe_lst (pa_cons pe_non (pa_cons pe_bl (pa_cons pe_bl (pa_cons pe_str (pa_cons pe_str (pa_cons (pe_tup pa_nil) (pa_cons (X15.pe_lstN pa_nil) (pa_cons pe_dnewK (pa_cons (pe_tup (pa_cons pe_int pa_nil)) (pa_cons (pe_un un_neg pe_int) (pa_cons (pe_op op_pow pe_int pe_int) (pa_cons (pv 2) pa_nil))))))))))))) (pe_c C_l_draw pass0 hq hr (by omega) (by rfl) (pa_cons (pv 0) (pa_cons pe_int pa_nil))) (fun _ _ => rfl)))
 (pss_cons (ps_if (PW.pt (pw_and (pt_val (pe_callB call_isi (by rfl) M.isinstance_ (by decide +kernel) (pa_cons (pv 1) (pa_cons (pe_bltn (v := .ty "int") (u := .type "int") (by rfl) M.int_ (by decide +kernel) rfl) pa_nil)))) (pw_and1 (pt_not (pt_val (pe_callB call_isi (by rfl) M.isinstance_ (by decide +kernel) (pa_cons (pv 1) (pa_cons (pe_bltn (v := .ty "bool") (u := .type "bool") (by rfl) M.bool_ (by decide +kernel) rfl) pa_nil))))))))
  (pss_one (ps_ret (pe_ix ix_list (pe_lst (pa_cons (pe_op op_add (pv 1) pe_int) (pa_cons (pe_op op_sub (pv 1) pe_int) (pa_cons (pe_op op_add (pv 1) pe_int) (pa_cons (pe_op op_sub pe_int (pv 1)) (pa_cons (pe_cmpR op_eq (pv 1) pe_int (nomark _)) (pa_cons (pe_callTy call_str_int (by rfl) M.str_ (by decide +kernel) (pa_cons (pv 1) pa_nil)) (pa_cons (pe_tup (pa_cons (pv 1) pa_nil)) (pa_cons (pv 4) pa_nil))))))))) (pv 3) (fun _ _ => rfl))))
  pss_nil)
 (pss_cons (ps_if (pt_not (pt_val (pe_callB call_isi (by rfl) M.isinstance_ (by decide +kernel) (pa_cons (pv 1) (pa_cons (pe_bltn (v := .ty "tuple") (u := .type "tuple") (by rfl) M.tuple_ (by decide +kernel) rfl) pa_nil)))))
  (pss_one (ps_ret (pv 4)))
  pss_nil)
 (pss_cons (ps_set (i := 5) S.nd rfl (.inl rfl) (pe_c C_l_draw pass0 hq hr (by omega) (by rfl) (pa_cons (pv 0) (pa_cons (pe_op op_add (pe_callB call_len_seq (by rfl) M.len_ (by decide +kernel) (pa_cons (pv 1) pa_nil)) pe_int) pa_nil))))
 (pss_cons (ps_set (i := 6) S.nd rfl (.inl rfl) (pe_lst (pa_cons (pe_op X10.op_catTA (pe_slice X9.sl_tupA (pv 1) po_none (po_some (pv 5))) (pe_slice X9.sl_tupA (pv 1) (po_some (pe_op op_add (pv 5) pe_int)) po_none)) (pa_cons (pe_op X10.op_catTA (pe_op X10.op_catTA (pe_slice X9.sl_tupA (pv 1) po_none (po_some (pv 5))) (pe_slice X9.sl_tupA (pv 1) (po_some (pv 5)) (po_some (pe_op op_add (pv 5) pe_int)))) (pe_slice X9.sl_tupA (pv 1) (po_some (pv 5)) po_none)) (pa_cons (X7.pe_revT (pv 1)) (pa_cons (pe_callTy X15.call_list_ofN (by rfl) M.list_ (by decide +kernel) (pa_cons (pv 1) pa_nil)) pa_nil))))))
 (pss_cons (ps_set (i := 6) S.nd rfl (.inl rfl) (pe_op op_cat (pv 6) (pe_lst (pa_cons (pe_disp (pps_cons pe_int (pv 1) pps_nil) (by rfl) (by rfl) (fun z => by cases z) (by decide)) (pa_cons (pe_op X10.op_catTA (pe_op X10.op_catTA (pe_slice X9.sl_tupA (pv 1) po_none (po_some (pv 5))) (X7.pe_revT (pe_slice X9.sl_tupA (pv 1) (po_some (pv 5)) (po_some (pe_op op_add (pv 5) pe_int))))) (pe_slice X9.sl_tupA (pv 1) (po_some (pe_op op_add (pv 5) pe_int)) po_none)) (pa_cons (pe_op X10.op_catTA (pv 1) (pe_tup (pa_cons (pv 4) pa_nil))) (pa_cons (pv 4) pa_nil)))))))
 (pss_one (ps_ret (pe_ix ix_list (pv 6) (pv 3) (fun _ _ => rfl))))))))))), ?_⟩
    have big : 1000000 < sizeLine := by decide
    refine ⟨.ref d, rfl, d, c, 8, t, rfl, by decide, by decide, dk, by omega, fun way H1 w0 w1 b1 dk1 => ?_⟩
    have dk1' := dk1
    refine ⟨Nat.zero_le _, fun e1 n1 => ?_⟩
    generalize hU1 : upd _ e1 _ = U1
    have s1 : Same H1 U1 := hU1 ▸ same_new n1
    have o1 : U1 e1 = some (.tup []) := hU1 ▸ upd_same
    refine ⟨Nat.zero_le _, fun e2 n2 ns2 => ?_⟩
    generalize hU2 : upd _ e2 _ = U2
    have s2 : Same U1 U2 := hU2 ▸ same_new n2
    have o2 : U2 e2 = some (.lst []) := hU2 ▸ upd_same
    intro e3 n3
    generalize hU3 : upd _ e3 _ = U3
    have s3 : Same U2 U3 := hU3 ▸ same_new n3
    have o3 : U3 e3 = some (.dK []) := hU3 ▸ upd_same
    refine ⟨(by decide : (1 : Nat) ≤ sizeLine), fun e4 n4 => ?_⟩
    generalize hU4 : upd _ e4 _ = U4
    have s4 : Same U3 U4 := hU4 ▸ same_new n4
    have o4 : U4 e4 = some (.tup [.int 0]) := hU4 ▸ upd_same
    obtain ⟨B39, eB⟩ : ∃ B : Int, (10 : Int) ^ 39 = B := ⟨_, rfl⟩
    have eB2 : (10 : Int) ^ Int.toNat 39 = B39 := eB
    have hB0 : 9999999 ≤ B39 := by
      rw [← eB]
      decide
    rw [eB] at B1
    refine ⟨_, rfl, 10, 39, rfl, rfl, ⟨by decide, by decide, by decide⟩, vo, rfl, (by show 12 ≤ sizeLine; decide), fun L nL => ?_⟩
    generalize hU5 : upd _ L _ = U5
    have s5 : Same U4 U5 := hU5 ▸ same_new nL
    have oL : U5 L = some (.lst [.non, .bl true, .bl false, .str "", .str "k", .ref e1, .ref e2, .ref e3, .ref e4, .int (-1), .int B39, vo]) := by
      rw [← hU5, upd_same, ← eB2]
    have dk5 := ((((dk1.same s1).same s2).same s3).same s4).same s5
    obtain ⟨L1, L2⟩ := ((((dk1.same s1).same s2).same s3).same s4).free nL
    refine ⟨.ref d, rfl, d, c, 12, t + 1, rfl, by decide, by decide, dk5, by omega, fun k H2 k0 k1 b2 dk2 => ?_⟩
    obtain ⟨vodd, ek1, ek2⟩ := atI_lt (xs := [V.non, .bl true, .bl false, .str "", .str "k", .ref e1, .ref e2, .ref e3, .ref e4, .int (-1), .int B39, vo]) k0 k1 rfl
    refine ⟨L, _, _, _, rfl, rfl, .inl (.inl (b2 _ _ L1 L2 oL)), ek1, ?_⟩
    have b12 : But d c H H2 := ((((((b1.same s1).same s2).same s3).same s4).same s5).trans b2)
    have nn : ∀ {z : Addr} {X : Hp}, X z = none → ExE E X → ¬ E z := fun h k e => k _ e h
    have nd : ∀ {z : Addr} {X : Hp}, X z = none → Deck X d c (t + 1) → z ≠ d ∧ z ≠ c := fun h k => k.free h
    have ex1 := exE.but b1 dk1
    have exU1 := ex1.same s1
    have exU2 := exU1.same s2
    have dkU1 := dk1.same s1
    have dkU2 := dkU1.same s2
    have f2 := nd n2 dkU1
    have f3 := nd n3 dkU2
    have g2 := nn n2 exU1
    have g3 := nn n3 exU2
    have o1' := TK.but dk5 b2 _ _ (s5 _ _ (s4 _ _ (s3 _ _ (s2 _ _ o1))))
    have o2' := b2 _ _ f2.1 f2.2 (s5 _ _ (s4 _ _ (s3 _ _ o2)))
    have o3' := b2 _ _ f3.1 f3.2 (s5 _ _ (s4 _ _ o3))
    have o4' := TK.but dk5 b2 _ _ (s5 _ _ o4)
    have ho2 := ho.keep (KE.but dk b12 Ed Ec)
    have hot2 := hot.keep (KE.but dk b12 Ed Ec)
    have mB : B ≤ B + 1000 := by omega
    have up : ∀ {k : Nat} {x : Ob}, In B m k x → In (B + 1000) (m + 1) k x := fun h => h.mono mB (Nat.le_succ m)
    have lf : ∀ {x : Ob} (k : Nat), leafO (B + 1000) x → In (B + 1000) (m + 1) k x := fun k h => leaf_in h k
    obtain ⟨oo, hoo, inoo, inoo1, wtoo⟩ : ∃ oo, ObE E H2 oo vodd ∧ In (B + 1000) (m + 1) (n + 1) oo ∧ (1 ≤ n → In (B + 1000) (m + 1) n oo) ∧ wt oo ≤ wt ot + 505 := by
      have l1 : ∀ k, ∀ x, (∀ y ∈ x, y = Ob.int 0) → x.length ≤ 1 → In (B + 1000) (m + 1) (k + 1) (.tup x) := fun k x hx hl => .tup (by omega) fun y hy => by
        rw [hx y hy]
        exact lf k ⟨by omega, by omega⟩
      generalize k.toNat = j at ek2
      match j, ek2 with
      | 0, e =>
        cases e
        exact ⟨.non, .non, lf _ True.intro, fun _ => lf _ True.intro, by rw [wt]; omega⟩
      | 1, e =>
        cases e
        exact ⟨.bl true, .bl true, lf _ True.intro, fun _ => lf _ True.intro, by rw [wt]; omega⟩
      | 2, e =>
        cases e
        exact ⟨.bl false, .bl false, lf _ True.intro, fun _ => lf _ True.intro, by rw [wt]; omega⟩
      | 3, e =>
        cases e
        have h : leafO (B + 1000) (.str "") := ⟨by decide +kernel, by decide +kernel⟩
        exact ⟨.str _, .str _, lf _ h, fun _ => lf _ h, by rw [wt]; omega⟩
      | 4, e =>
        cases e
        have h : leafO (B + 1000) (.str "k") := ⟨by decide +kernel, by decide +kernel⟩
        exact ⟨.str _, .str _, lf _ h, fun _ => lf _ h, by rw [wt]; omega⟩
      | 5, e =>
        cases e
        refine ⟨.tup [], .mk o1' .nil, l1 n [] (fun y hy => by cases hy) (Nat.zero_le _), fun hn => ?_, by rw [wt, wtL]; omega⟩
        obtain ⟨k, rfl⟩ : ∃ k, n = k + 1 := ⟨n - 1, by omega⟩
        exact l1 k [] (fun y hy => by cases hy) (Nat.zero_le _)
      | 6, e =>
        cases e
        refine ⟨.lst [], .mkL g2 ns2 o2' .nil, .lst (Nat.zero_le _) fun y hy => (by cases hy), fun hn => ?_, by rw [wt, wtL]; omega⟩
        obtain ⟨k, rfl⟩ : ∃ k, n = k + 1 := ⟨n - 1, by omega⟩
        exact .lst (Nat.zero_le _) fun y hy => (by cases hy)
      | 7, e =>
        cases e
        exact ⟨.emp, .emp g3 o3', lf _ True.intro, fun _ => lf _ True.intro, by rw [wt]; omega⟩
      | 8, e =>
        cases e
        refine ⟨.tup [.int 0], .mk o4' (.cons (.int 0) .nil), l1 n [.int 0] (fun y hy => List.mem_singleton.mp hy) (Nat.le_refl _), fun hn => ?_, by rw [wt, wtL, wtL, wt]; omega⟩
        obtain ⟨k, rfl⟩ : ∃ k, n = k + 1 := ⟨n - 1, by omega⟩
        exact l1 k [.int 0] (fun y hy => List.mem_singleton.mp hy) (Nat.le_refl _)
      | 9, e =>
        cases e
        have h : leafO (B + 1000) (.int (-1)) := ⟨by omega, by omega⟩
        exact ⟨.int _, .int _, lf _ h, fun _ => lf _ h, by rw [wt]; omega⟩
      | 10, e =>
        cases e
        have h : leafO (B + 1000) (.int B39) := ⟨by omega, by omega⟩
        exact ⟨.int _, .int _, lf _ h, fun _ => lf _ h, by rw [wt]; omega⟩
      | 11, e =>
        cases e
        exact ⟨ot, hot2, (up inot).succ, fun _ => up inot, by omega⟩
      | j + 12, e => exact absurd e (by simp)
    have ty := (ho2.toR Ed Ec).ty (K := K)
    refine ⟨v, rfl, _, _, _, _, _, rfl, .ty "int", ty, kit_oi K o, isI o, rfl, ?_⟩
    have w5 := wt_ge o
    have pc : (∃ i : Int, o = .int i) ∨ (∃ k xs, n = k + 1 ∧ o = .tup xs ∧ xs.length ≤ m ∧ ∀ x ∈ xs, In B m k x) ∨ (isT o = false ∧ (isI o = false ∨ ∃ b, o = .bl b)) := by
      cases o with
      | int i => exact .inl ⟨i, rfl⟩
      | tup xs =>
        obtain ⟨k, e, l, h⟩ := ino.ch
        exact .inr (.inl ⟨k, xs, e, rfl, l, h⟩)
      | bl b => exact .inr (.inr ⟨rfl, .inr ⟨b, rfl⟩⟩)
      | _ => exact .inr (.inr ⟨rfl, .inl rfl⟩)
    rcases pc with ⟨i, rfl⟩ | ⟨k0, xs, rfl, rfl, lx, hx⟩ | ⟨hT, hI⟩
    · obtain rfl := ho.inv_int
      obtain ⟨i0, i1⟩ := ino.int
      obtain ⟨B40, eB40⟩ : ∃ B : Int, (10 : Int) ^ 41 = B := ⟨_, rfl⟩
      refine iteT ⟨.int i, rfl, _, _, _, _, _, rfl, .ty "bool", ty, kit_ob K (.int i), false, rfl, ?_⟩
      refine iteT ⟨.int i, rfl, _, _, rfl, rfl, .int i, rfl, _, _, rfl, rfl, .int i, rfl, _, _, rfl, rfl, .int i, rfl, _, _, rfl, rfl, .int i, rfl, rfl, .int i, rfl, i, rfl, ?_, .int i, rfl, (by decide : (1 : Nat) ≤ sizeLine), fun p1 np1 => ?_⟩
      · have h3 : i.natAbs < 2 ^ 200 := by
          have e : (10 : Int) ^ 41 = 100000000000000000000000000000000000000000 := rfl
          have e2 : (2 : Nat) ^ 200 = 1606938044258990275541962092341162602522202993782792835301376 := rfl
          rw [e] at B2
          rw [e2]
          omega
        rcases Nat.eq_zero_or_pos i.natAbs with e | e
        · rw [e]
          decide
        · have := (Nat.log2_lt (Nat.ne_of_gt e)).mpr h3
          omega
      generalize hU6 : upd _ p1 _ = U6
      have s6 : Same H2 U6 := hU6 ▸ same_new np1
      have op1 : U6 p1 = some (.tup [.int i]) := hU6 ▸ upd_same
      refine ⟨vodd, rfl, (by show 8 ≤ sizeLine; decide), fun L8 n8 => ?_⟩
      generalize hU7 : upd _ L8 _ = U7
      have s7 : Same U6 U7 := hU7 ▸ same_new n8
      have oL8 : U7 L8 = some (.lst [.int (i + 1), .int (i - 1), .int (i + 1000), .int (0 - i), .bl (decide (V.int i = V.int 1)), .str (toString i), .ref p1, vodd]) := by
        rw [← hU7, upd_same]
      obtain ⟨vr, er1, er2⟩ := atI_lt (xs := [V.int (i + 1), .int (i - 1), .int (i + 1000), .int (0 - i), .bl (decide (V.int i = V.int 1)), .str (toString i), .ref p1, vodd]) w0 w1 rfl
      refine ⟨.int way, rfl, L8, _, _, _, rfl, rfl, .inl (.inl oL8), er1, ?_⟩
      have bt := (b12.same s6).same s7
      have dkf := (dk2.same s6).same s7
      have wi : wt (.int i) = 500 := by rw [wt]
      rw [wi] at q
      obtain ⟨or, hor, inr, wtr⟩ : ∃ or, ObE E U7 or vr ∧ In (B + 1000) (m + 1) (n + 1) or ∧ wt or ≤ 2 * 500 + wt ot + 1000 := by
        generalize way.toNat = j at er2
        match j, er2 with
        | 0, e =>
          cases e
          exact ⟨.int _, .int _, lf _ ⟨by omega, by omega⟩, by rw [wt]; omega⟩
        | 1, e =>
          cases e
          exact ⟨.int _, .int _, lf _ ⟨by omega, by omega⟩, by rw [wt]; omega⟩
        | 2, e =>
          cases e
          exact ⟨.int _, .int _, lf _ ⟨by omega, by omega⟩, by rw [wt]; omega⟩
        | 3, e =>
          cases e
          exact ⟨.int _, .int _, lf _ ⟨by omega, by omega⟩, by rw [wt]; omega⟩
        | 4, e =>
          cases e
          exact ⟨.bl _, .bl _, lf _ True.intro, by rw [wt]; omega⟩
        | 5, e =>
          cases e
          have h := int_txt (i := i) (by omega) (by omega)
          exact ⟨.str _, .str _, lf _ ⟨by omega, h.2⟩, by rw [wt]; omega⟩
        | 6, e =>
          cases e
          refine ⟨.tup [.int i], .mk (s7 _ _ op1) (.cons (.int i) .nil), .tup (by show 1 ≤ m + 1; omega) fun x hx => ?_, by rw [wt, wtL, wtL, wt]; omega⟩
          rw [List.mem_singleton.mp hx]
          exact lf _ ⟨by omega, by omega⟩
        | 7, e =>
          cases e
          exact ⟨oo, (hoo.same s6).same s7, inoo, by omega⟩
        | j + 8, e => exact absurd e (by simp)
      exact q vr or (t + 2) _ bt dkf (by omega) hor inr wtr
    · refine iteF (iteF ?_)
      obtain ⟨TP, us, rfl, eTP, al⟩ := ho2.inv_tup
      refine ⟨.ref TP, rfl, _, _, _, _, _, rfl, .ty "tuple", ty, kit_ot K (.tup xs), true, rfl, ?_⟩
      have lus : us.length = xs.length := al.1.symm
      refine iteF ⟨.ref d, rfl, .ref TP, rfl, TP, us, rfl, .inr (.inl (.inl eTP)), _, _, rfl, rfl, d, c, _, t + 2, rfl, by omega, by omega, dk2, by omega, fun at_ H7 a0 a1 b7 dk7 => ?_⟩
      obtain ⟨ka, rfl⟩ : ∃ ka : Nat, at_ = (ka : Int) := ⟨at_.toNat, by omega⟩
      have hka : ka ≤ xs.length := by omega
      have b07 := b12.trans b7
      have ko7 := KE.but dk2 b7 Ed Ec
      have eT7 := ko7.tup _ _ eTP
      have al7 := al.keep ko7
      have ex7 := exE.but b07 dk7
      -- the first four
      refine ⟨.ref TP, rfl, .int (ka : Int), rfl, _, rfl, sl_toI rfl eT7 rfl fun p1 X1 z1 ep1 => ?_⟩
      refine ⟨.ref TP, rfl, .int (ka : Int), rfl, _, _, rfl, rfl, _, rfl, np_ (sl_fromI (k := ka + 1) (by omega) (z1 _ _ eT7) rfl fun p2 X2 z2 ep2 => ?_)⟩
      refine cat_any (z2 _ _ ep1) ep2 (by rw [List.length_take, List.length_drop]; omega) fun pA X3 z3 epA => ?_
      have z03 := (z1.trans z2).trans z3
      refine ⟨.ref TP, rfl, .int (ka : Int), rfl, _, rfl, sl_toI rfl (z03 _ _ eT7) rfl fun p4 X4 z4 ep4 => ?_⟩
      have z04 := z03.trans z4
      refine ⟨.ref TP, rfl, .int (ka : Int), rfl, _, rfl, .int (ka : Int), rfl, _, _, rfl, rfl, _, rfl, sl_midI (k := ka) (j := 1) rfl (by omega) (by omega) (z04 _ _ eT7) fun p5 X5 z5 ep5 => ?_⟩
      refine cat_any (z5 _ _ ep4) ep5 (by rw [List.length_take, List.length_take, List.length_drop]; omega) fun p6 X6 z6 ep6 => ?_
      have z06 := (z04.trans z5).trans z6
      refine ⟨.ref TP, rfl, .int (ka : Int), rfl, _, rfl, np_ (sl_fromI rfl (z06 _ _ eT7) rfl fun p7 X7 z7 ep7 => ?_)⟩
      refine cat_any (z7 _ _ ep6) ep7 (by rw [List.length_append, List.length_take, List.length_take, List.length_drop]; omega) fun pB X8 z8 epB => ?_
      have z08 := (z06.trans z7).trans z8
      refine ⟨.ref TP, rfl, TP, _, rfl, .inl (.inl (z08 _ _ eT7)), fun pC npC => ?_⟩
      generalize hV1 : upd _ pC _ = V1
      have z9 : Same X8 V1 := hV1 ▸ same_new npC
      have epC : V1 pC = some (.tup us.reverse) := hV1 ▸ upd_same
      have z09 := z08.trans z9
      refine ⟨.ref TP, rfl, TP, _, rfl, .inl (.inl (z09 _ _ eT7)), fun pD npD nsD => ?_⟩
      generalize hV2 : upd _ pD _ = V2
      have z10 : Same V1 V2 := hV2 ▸ same_new npD
      have epD : V2 pD = some (.lst us) := hV2 ▸ upd_same
      have fD := nn npD (ex7.same z09)
      have z010 := z09.trans z10
      refine ⟨(by show 4 ≤ sizeLine; decide), fun L4 n4' => ?_⟩
      generalize hV3 : upd _ L4 _ = V3
      have z11 : Same V2 V3 := hV3 ▸ same_new n4'
      have oL4 : V3 L4 = some (.lst [.ref pA, .ref pB, .ref pC, .ref pD]) := hV3 ▸ upd_same
      have z011 := z010.trans z11
      -- the other four
      refine ⟨.ref L4, rfl, ?_⟩
      intro pE npE
      generalize hV4 : upd _ pE _ = V4
      have z12 : Same V3 V4 := hV4 ▸ same_new npE
      have epE0 : V4 pE = some (.dK []) := hV4 ▸ upd_same
      refine ⟨.ref TP, rfl, epE0, [(.inl 0, .ref TP)], rfl, by show 1 ≤ 15; decide, ?_⟩
      generalize hV5 : upd _ pE _ = V5
      have z13 : Same V3 V5 := by
        rw [← hV5]
        exact same_mut z12 npE
      have epE : V5 pE = some (.dK [(.inl 0, .ref TP)]) := by
        rw [← hV5, upd_same]
        rfl
      have fE := nn npE (ex7.same z011)
      have z013 := z011.trans z13
      refine ⟨.ref TP, rfl, .int (ka : Int), rfl, _, rfl, sl_toI rfl (z013 _ _ eT7) rfl fun p8 Y1 y1 ep8 => ?_⟩
      refine ⟨.ref TP, rfl, .int (ka : Int), rfl, _, rfl, .int (ka : Int), rfl, _, _, rfl, rfl, _, rfl, sl_midI (k := ka) (j := 2) rfl (by omega) (by omega) (y1 _ _ (z013 _ _ eT7)) fun p9 Y2 y2 ep9 => ?_⟩
      refine ⟨p9, _, rfl, .inl (.inl ep9), fun p10 np10 => ?_⟩
      generalize hV6 : upd _ p10 _ = V6
      have y3 : Same Y2 V6 := hV6 ▸ same_new np10
      have ep10 : V6 p10 = some (.tup ((us.drop ka).take 2).reverse) := hV6 ▸ upd_same
      refine cat_any (y3 _ _ (y2 _ _ ep8)) ep10 (by rw [List.length_reverse, List.length_take, List.length_take, List.length_drop]; omega) fun p11 Y4 y4 ep11 => ?_
      have y04 := ((y1.trans y2).trans y3).trans y4
      refine ⟨.ref TP, rfl, .int (ka : Int), rfl, _, _, rfl, rfl, _, rfl, np_ (sl_fromI (k := ka + 2) (by omega) (y04 _ _ (z013 _ _ eT7)) rfl fun p12 Y5 y5 ep12 => ?_)⟩
      refine cat_any (y5 _ _ ep11) ep12 (by rw [List.length_append, List.length_reverse, List.length_take, List.length_take, List.length_drop, List.length_drop]; omega) fun pF Y6 y6 epF => ?_
      have y06 := (y04.trans y5).trans y6
      refine ⟨.ref TP, rfl, vodd, rfl, (by decide : (1 : Nat) ≤ sizeLine), fun p13 np13 => ?_⟩
      generalize hV7 : upd _ p13 _ = V7
      have y7 : Same Y6 V7 := hV7 ▸ same_new np13
      have ep13 : V7 p13 = some (.tup [vodd]) := hV7 ▸ upd_same
      have y07 := y06.trans y7
      refine cat_any (y07 _ _ (z013 _ _ eT7)) ep13 (by show _ + 1 ≤ _; omega) fun pG Y8 y8 epG => ?_
      refine ⟨vodd, rfl, (by show 4 ≤ sizeLine; decide), fun M4 nM4 => ?_⟩
      generalize hV8 : upd _ M4 _ = V8
      have y9 : Same Y8 V8 := hV8 ▸ same_new nM4
      have oM4 : V8 M4 = some (.lst [.ref pE, .ref pF, .ref pG, vodd]) := hV8 ▸ upd_same
      have y09 := (y07.trans y8).trans y9
      refine ⟨L4, M4, _, _, rfl, rfl, y09 _ _ (z13 _ _ oL4), oM4, by show 4 + 4 ≤ sizeLine; decide, fun L8 n8 => ?_⟩
      generalize hV9 : upd _ L8 _ = V9
      have y10 : Same V8 V9 := hV9 ▸ same_new n8
      have oL8 : V9 L8 = some (.lst [.ref pA, .ref pB, .ref pC, .ref pD, .ref pE, .ref pF, .ref pG, vodd]) := hV9 ▸ upd_same
      obtain ⟨vr, er1, er2⟩ := atI_lt (xs := [V.ref pA, .ref pB, .ref pC, .ref pD, .ref pE, .ref pF, .ref pG, vodd]) w0 w1 rfl
      refine ⟨.ref L8, rfl, .int way, rfl, L8, _, _, _, rfl, rfl, .inl (.inl oL8), er1, ?_⟩
      have yAll := y09.trans y10
      have z := z013.trans yAll
      have alf := al7.same z
      have z13y := z13.trans yAll
      have gA := z13y _ _ (z11 _ _ (z10 _ _ (z9 _ _ (z8 _ _ (z7 _ _ (z6 _ _ (z5 _ _ (z4 _ _ epA))))))))
      have gB := z13y _ _ (z11 _ _ (z10 _ _ (z9 _ _ epB)))
      have gC := z13y _ _ (z11 _ _ (z10 _ _ epC))
      have gD := z13y _ _ (z11 _ _ epD)
      have gE := yAll _ _ epE
      have gF := y10 _ _ (y9 _ _ (y8 _ _ (y7 _ _ epF)))
      have gG := y10 _ _ (y9 _ _ epG)
      have hoo' := (hoo.keep ko7).same z
      have inx : ∀ x ∈ xs, In (B + 1000) (m + 1) (k0 + 1) x := fun x h => (up (hx x h)).succ
      have wx : wt (.tup xs) = wtL xs + 5 := by rw [wt]
      rw [wx] at q wto
      have mem2 : ∀ {ys zs : List Ob}, (∀ x ∈ ys, x ∈ xs) → (∀ x ∈ zs, x ∈ xs) → ∀ x ∈ ys ++ zs, x ∈ xs := fun h1 h2 x hx => by
        rcases List.mem_append.mp hx with h | h
        · exact h1 x h
        · exact h2 x h
      have tk : ∀ (ys : List Ob) (j : Nat), (∀ x ∈ ys, x ∈ xs) → ∀ x ∈ ys.take j, x ∈ xs := fun ys j h x hx => h x (List.mem_of_mem_take hx)
      have dr : ∀ (ys : List Ob) (j : Nat), (∀ x ∈ ys, x ∈ xs) → ∀ x ∈ ys.drop j, x ∈ xs := fun ys j h x hx => h x (List.mem_of_mem_drop hx)
      have all : ∀ x ∈ xs, x ∈ xs := fun x h => h
      have mkT : ∀ (zs : List Ob), (∀ x ∈ zs, x ∈ xs) → zs.length ≤ m + 1 → In (B + 1000) (m + 1) (k0 + 1 + 1) (.tup zs) := fun zs h l => .tup l fun x hx => inx x (h x hx)
      have wsp := wtL_split xs ka
      have wd1 := wtL_drop xs (ka + 1)
      have wdt := wtL_split (xs.drop ka) 1
      have wdt2 := wtL_split (xs.drop ka) 2
      have wdd : wtL (xs.drop (ka + 2)) = wtL ((xs.drop ka).drop 2) := by rw [List.drop_drop]
      have wdd1 : wtL (xs.drop (ka + 1)) = wtL ((xs.drop ka).drop 1) := by rw [List.drop_drop]
      obtain ⟨or, hor, inr, wtr⟩ : ∃ or, ObE E V9 or vr ∧ In (B + 1000) (m + 1) (k0 + 1 + 1) or ∧ wt or ≤ 2 * (wtL xs + 5) + wt ot + 1000 := by
        generalize way.toNat = j at er2
        match j, er2 with
        | 0, e =>
          cases e
          exact ⟨.tup (xs.take ka ++ xs.drop (ka + 1)), .mk gA ((alf.take ka).append (alf.drop (ka + 1))), mkT _ (mem2 (tk _ _ all) (dr _ _ all)) (by rw [List.length_append, List.length_take, List.length_drop]; omega), by rw [wt, wtL_app]; omega⟩
        | 1, e =>
          cases e
          exact ⟨.tup (xs.take ka ++ (xs.drop ka).take 1 ++ xs.drop ka), .mk gB (((alf.take ka).append ((alf.drop ka).take 1)).append (alf.drop ka)), mkT _ (mem2 (mem2 (tk _ _ all) (tk _ _ (dr _ _ all))) (dr _ _ all)) (by rw [List.length_append, List.length_append, List.length_take, List.length_take, List.length_drop]; omega), by rw [wt, wtL_app, wtL_app]; omega⟩
        | 2, e =>
          cases e
          exact ⟨.tup xs.reverse, .mk gC alf.rev, mkT _ (fun x h => List.mem_reverse.mp h) (by rw [List.length_reverse]; omega), by rw [wt, wtL_rev]; omega⟩
        | 3, e =>
          cases e
          exact ⟨.lst xs, .mkL fD nsD gD alf, .lst (by omega) inx, by rw [wt]; omega⟩
        | 4, e =>
          cases e
          exact ⟨.dic (.tup xs), .dic fE gE (.mk (z _ _ eT7) alf), .inr (.inr ⟨_, rfl, .tup (by omega) fun x h => up (hx x h)⟩), by rw [wt, wt]; omega⟩
        | 5, e =>
          cases e
          exact ⟨.tup (xs.take ka ++ ((xs.drop ka).take 2).reverse ++ xs.drop (ka + 2)), .mk gF (((alf.take ka).append ((alf.drop ka).take 2).rev).append (alf.drop (ka + 2))), mkT _ (mem2 (mem2 (tk _ _ all) fun x h => tk _ _ (dr _ _ all) x (List.mem_reverse.mp h)) (dr _ _ all)) (by rw [List.length_append, List.length_append, List.length_reverse, List.length_take, List.length_take, List.length_drop, List.length_drop]; omega), by rw [wt, wtL_app, wtL_app, wtL_rev]; omega⟩
        | 6, e =>
          cases e
          refine ⟨.tup (xs ++ [oo]), .mk gG (alf.append (.cons hoo' .nil)), .tup (by rw [List.length_append]; show _ + 1 ≤ _; omega) fun x h => ?_, by rw [wt, wtL_app, wtL, wtL]; omega⟩
          rcases List.mem_append.mp h with h | h
          · exact inx x h
          · rw [List.mem_singleton.mp h]
            exact inoo1 (by omega)
        | 7, e =>
          cases e
          exact ⟨oo, hoo', inoo, by omega⟩
        | j + 8, e => exact absurd e (by simp)
      exact q vr or (t + 3) _ (b07.same z) (dk7.same z) (by omega) hor inr wtr
    · have fin : q = q := rfl
      have go : tRet (tVar 4) { nx := fun _ H' => Q .non H', rt := Q } ((List.set (_root_.L2.start N_l_off [V.ref d, v, vo]) 3 (some (V.int way))).set 4 (some vodd)) H2 := ⟨vodd, rfl, q vodd oo (t + 2) H2 b12 dk2 (by omega) hoo inoo (by omega)⟩
      have tail : True := trivial
      rcases hI with hI | ⟨b, rfl⟩
      · rw [hI]
        refine iteF (iteF ⟨v, rfl, _, _, _, _, _, rfl, .ty "tuple", ty, kit_ot K o, isT o, rfl, ?_⟩)
        rw [hT]
        exact iteT go
      · obtain ⟨rfl⟩ : v = .bl b := by
          cases ho
          rfl
        refine iteT ⟨.bl b, rfl, _, _, _, _, _, rfl, .ty "bool", ty, kit_ob K (.bl b), true, rfl, ?_⟩
        refine iteF ⟨.bl b, rfl, _, _, _, _, _, rfl, .ty "tuple", ty, kit_ot K (.bl b), false, rfl, ?_⟩
        exact iteT go
end
end K80

namespace K80
open PySem PySem.Spec PyProof.Rows L2 Kit X15
/-! ### a thing spoilt somewhere -/
theorem In.up {B : Int} {m n k : Nat} (h : n ≤ k) {o : Ob} (i : In B m n o) : In B m k o := by
  induction k with
  | zero =>
    obtain rfl : n = 0 := by omega
    exact i
  | succ k ih =>
    by_cases e : n ≤ k
    · exact (ih e).succ
    · obtain rfl : n = k + 1 := by omega
      exact i
def spSpo (N : Nat) : Sp := fun vs H Q _ => ∃ (E : Addr → Prop) (d c : Addr) (o ot : Ob) (v vo : V) (t : Nat) (B : Int) (m n p : Nat), vs = [.ref d, v, vo] ∧ ExE E H ∧ E d ∧ E c ∧ Deck H d c t ∧ t + 2 * n < 10000000000 ∧ ObE E H o v ∧ ObE E H ot vo ∧
  n ≤ N ∧ In B m n o ∧ In B m p ot ∧ (10 : Int) ^ 39 ≤ B ∧ B + 1000 < 10 ^ 41 ∧ 2 ≤ m ∧ m ≤ 100 ∧ wt o ≤ 1000000 ∧
  ∀ (v' : V) (o' : Ob) (t' : Nat) (H' : Hp), But d c H H' → Deck H' d c t' → t' ≤ t + 2 * n + 4 → ObE E H' o' v' → In (B + 1000) (m + 1) (n + p + 1) o' → wt o' ≤ 2 * wt o + wt ot + 1000 → Q v' H'
def spSpoR : Nat → Sp
  | 0 => fun _ _ _ _ => False
  | n + 1 => spSpo n
theorem wt_tup (xs : List Ob) : wt (.tup xs) = wtL xs + 5 := by rw [wt]
section
variable {P : Program} {w : World} {K : PySem.W.Frag} {mg : Str → Option Value} {base : Heap}
theorem ok_spoilt {L N : Nat} {f : Addr} {fd : FuncData} (D : DefAt K mg "_law_spoilt" ["_law_deck_here", "_law_thing", "_law_other"] s_l_spoilt f fd) (M : Bi mg) (hL : 1 ≤ L)
    (C_l_draw : Cal P w K mg base L2.CX0 1 "_law_draw" ["_law_deck_here", "_law_sides"] spDraw)
    (C_l_off : Cal P w K mg base L2.CX0 2 "_law_off" ["_law_deck_here", "_law_thing", "_law_other"] spOff)
    (C_l_spoilt : Cal P w K mg base L2.CX0 L "_law_spoilt" ["_law_deck_here", "_law_thing", "_law_other"] (spSpoR N)) :
    Cal P w K mg base L2.CX0 (L + 2) "_law_spoilt" ["_law_deck_here", "_law_thing", "_law_other"] (spSpo N) := by
  have S := S_l_spoilt
  refine cal_of D.fn D.mgf D.bs D.kbs S (fun vs H Q E h => ?_) (fun cdv A outer s H vs Q E0' hq hr h => ?_)
  · obtain ⟨E, d, c, o, ot, v, vo, t, B, m, n, p, rfl, _⟩ := h
    rfl
  · obtain ⟨E, d, c, o, ot, v, vo, t, B, m, n, p, rfl, exE, Ed, Ec, dk, ht, ho, hot, nN, ino, inot, B1, B2, m2, m1, wto, q⟩ := h
    refine ⟨_, (pss_cons (ps_if (PW.pt (pw_or (pt_not (pt_val (pe_callB call_isi (by rfl) M.isinstance_ (by decide +kernel) (pa_cons (pv 1) (pa_cons (pe_bltn (v := .ty "tuple") (u := .type "tuple") (by rfl) M.tuple_ (by decide +kernel) rfl) pa_nil))))) (pw_or (pt_cmpR (X15.op_eqE (room200 hr)) (pv 1) (pe_tup pa_nil) (nomark _)) (pw_or1 (pt_cmpR op_eq (pe_c C_l_draw pass0 hq hr (by omega) (by rfl) (pa_cons (pv 0) (pa_cons pe_int pa_nil))) pe_int (nomark _))))))
  (pss_one (ps_ret (pe_c C_l_off pass0 hq hr (by omega) (by rfl) (pa_cons (pv 0) (pa_cons (pv 1) (pa_cons (pv 2) pa_nil))))))
  pss_nil)
 (pss_cons (ps_set (i := 3) S.nd rfl (.inl rfl) (pe_c C_l_draw pass0 hq hr (by omega) (by rfl) (pa_cons (pv 0) (pa_cons (pe_callB call_len_seq (by rfl) M.len_ (by decide +kernel) (pa_cons (pv 1) pa_nil)) pa_nil))))
 (pss_cons (ps_set (i := 4) S.nd rfl (.inl rfl) (pe_ifExp (PW.pt (pw_and (pt_val (pe_callB call_isi (by rfl) M.isinstance_ (by decide +kernel) (pa_cons (pv 2) (pa_cons (pe_bltn (v := .ty "tuple") (u := .type "tuple") (by rfl) M.tuple_ (by decide +kernel) rfl) pa_nil)))) (pw_and1 (pt_cmpR op_gt (pe_callB call_len_seq (by rfl) M.len_ (by decide +kernel) (pa_cons (pv 2) pa_nil)) (pv 3) (nomark _))))) (pe_ix ix_tup (pv 2) (pv 3) (fun _ _ => rfl)) (pv 2)))
 (pss_one (ps_ret (pe_op X10.op_catTA (pe_op X10.op_catTA (pe_slice X9.sl_tupA (pv 1) po_none (po_some (pv 3))) (pe_tup (pa_cons (pe_c C_l_spoilt pass0 hq hr (by omega) (by rfl) (pa_cons (pv 0) (pa_cons (pe_ix ix_tup (pv 1) (pv 3) (fun _ _ => rfl)) (pa_cons (pv 4) pa_nil)))) pa_nil))) (pe_slice X9.sl_tupA (pv 1) (po_some (pe_op op_add (pv 3) pe_int)) po_none))))))), ?_⟩
    have big : 1000000 < sizeLine := by decide
    have inot' : In B m (n + p) ot := inot.up (Nat.le_add_left p n)
    have ino' : In B m (n + p) o := ino.up (Nat.le_add_right n p)
    have ty := (ho.toR Ed Ec).ty (K := K)
    have OFF : ∀ (t1 : Nat) (X : Hp), But d c H X → Deck X d c t1 → t1 ≤ t + 1 → spOff [.ref d, v, vo] X Q E0' := fun t1 X b k l =>
      ⟨E, d, c, o, ot, v, vo, t1, B, m, n + p, rfl, exE.but b k, Ed, Ec, k, by omega, ho.keep (KE.but dk b Ed Ec), hot.keep (KE.but dk b Ed Ec), ino', inot', B1, B2, m2, m1, wto, fun v' o' t' H' b' k' l' ho' in' w' => q v' o' t' H' (b.trans b') k' (by omega) ho' in' w'⟩
    refine ⟨v, rfl, _, _, _, _, _, rfl, .ty "tuple", ty, kit_ot K o, isT o, rfl, ?_⟩
    cases hT : isT o with
    | false =>
      refine iteT (iteT ⟨.ref d, rfl, v, rfl, vo, rfl, OFF t H (But.refl d c H) dk (Nat.le_succ t)⟩)
    | true =>
    obtain ⟨xs, rfl⟩ : ∃ xs, o = .tup xs := by
      cases o with
      | tup xs => exact ⟨xs, rfl⟩
      | _ => cases hT
    refine iteF ⟨v, rfl, Nat.zero_le _, fun e0 n0 => ?_⟩
    generalize hU0 : upd _ e0 _ = U0
    have s0 : Same H U0 := hU0 ▸ same_new n0
    have o0 : U0 e0 = some (.tup []) := hU0 ▸ upd_same
    have bU0 : But d c H U0 := But.of s0
    have dkU0 := dk.same s0
    refine ⟨d, c, .tup xs, e0, (ho.same s0).toR Ed Ec, rfl, o0, _, rfl, ?_⟩
    by_cases hx0 : xs = []
    · subst hx0
      exact iteT (iteT ⟨.ref d, rfl, v, rfl, vo, rfl, OFF t U0 bU0 dkU0 (Nat.le_succ t)⟩)
    have hE : isE (.tup xs) = false := by
      cases xs with
      | nil => exact absurd rfl hx0
      | cons x xs => rfl
    rw [hE]
    have lx1 : 1 ≤ xs.length := by
      cases xs with
      | nil => exact absurd rfl hx0
      | cons x xs => exact Nat.succ_le_succ (Nat.zero_le _)
    refine iteF ⟨.ref d, rfl, d, c, 4, t, rfl, by decide, by decide, dkU0, by omega, fun r H1 r0 r1 b1 dk1 => ⟨rfl, _, rfl, ?_⟩⟩
    have b01 := bU0.trans b1
    by_cases hr0 : r = 0
    · rw [decide_eq_true (by rw [hr0])]
      exact iteT ⟨.ref d, rfl, v, rfl, vo, rfl, OFF (t + 1) H1 b01 dk1 (Nat.le_refl _)⟩
    rw [decide_eq_false fun z => hr0 (V.int.inj z)]
    obtain ⟨k0, rfl, lx, hx⟩ := ino.ch
    obtain ⟨N', rfl⟩ : ∃ N', N = N' + 1 := ⟨N - 1, by omega⟩
    have ko1 := KE.but dk b01 Ed Ec
    have ho1 := ho.keep ko1
    have hot1 := hot.keep ko1
    obtain ⟨TP, us, rfl, eTP, al⟩ := ho1.inv_tup
    have lus : us.length = xs.length := al.1.symm
    refine iteF ⟨.ref d, rfl, .ref TP, rfl, TP, us, rfl, .inr (.inl (.inl eTP)), d, c, _, t + 1, rfl, by omega, by omega, dk1, by omega, fun at_ H2 a0 a1 b2 dk2 => ?_⟩
    obtain ⟨ka, rfl⟩ : ∃ ka : Nat, at_ = (ka : Int) := ⟨at_.toNat, by omega⟩
    have hka : ka < xs.length := by omega
    have b02 := b01.trans b2
    have ko2 := KE.but dk1 b2 Ed Ec
    have eT2 := ko2.tup _ _ eTP
    have al2 := al.keep ko2
    have hot2 := hot1.keep ko2
    have ex2 := exE.but b02 dk2
    have tyo := (hot2.toR Ed Ec).ty (K := K)
    obtain ⟨x, ex⟩ : ∃ x, xs[ka]? = some x := ⟨xs[ka]'hka, List.getElem?_eq_getElem _⟩
    obtain ⟨vx, evx⟩ : ∃ vx, us[ka]? = some vx := ⟨us[ka]'(by omega), List.getElem?_eq_getElem _⟩
    refine ⟨vo, rfl, _, _, _, _, _, rfl, .ty "tuple", tyo, kit_ot K ot, isT ot, rfl, ?_⟩
    have pc : (isT ot = false) ∨ ∃ (O' : Addr) (ys : List Ob) (ws : List V), isT ot = true ∧ ot = .tup ys ∧ vo = .ref O' ∧ H2 O' = some (.tup ws) ∧ AllE E H2 ys ws := by
      cases hTo : isT ot with
      | false => exact .inl rfl
      | true =>
        obtain ⟨ys, rfl⟩ : ∃ ys, ot = .tup ys := by
          cases ot with
          | tup ys => exact ⟨ys, rfl⟩
          | _ => cases hTo
        obtain ⟨O', ws, e1, e2, e3⟩ := hot2.inv_tup
        exact .inr ⟨O', ys, ws, rfl, rfl, e1, e2, e3⟩
    have wsp := wtL_at ex
    have wxx : wt (.tup xs) = wtL xs + 5 := wt_tup xs
    rcases pc with hTo | ⟨O', ys, ws, hTo, rfl, rfl, eO, alo⟩
    · rw [hTo]
      refine iteF (iteF ?_)
      obtain ⟨ob, vb, evb, hob, inb, wob⟩ : ∃ ob vb, vo = vb ∧ ObE E H2 ob vb ∧ In B m p ob ∧ wt ob ≤ wt ot := ⟨ot, vo, rfl, hot2, inot, Nat.le_refl _⟩
      subst evb
      generalize wt ot = wo at *
      refine ⟨vo, rfl, ?_⟩
      refine ⟨.ref TP, rfl, .int (ka : Int), rfl, _, rfl, sl_toI rfl eT2 rfl fun p1 X1 z1 ep1 => ?_⟩
      refine ⟨.ref d, rfl, .ref TP, rfl, .int (ka : Int), rfl, TP, _, _, _, rfl, rfl, .inl (.inl (z1 _ _ eT2)), atI_nat evx, vo, rfl, E, d, c, x, ob, vx, vo, t + 2, B, m, k0, p, rfl, ex2.same z1, Ed, Ec, dk2.same z1, by omega, (al2.2 _ _ _ ex evx).same z1, hob.same z1, by omega, hx x (List.mem_of_getElem? ex), inb, B1, B2, m2, m1, by omega, fun v' o' t' X2 b9 dk9 lt9 ho9 in9 wt9 => ?_⟩
      have b09 := (b02.same z1).trans b9
      have ko9 := KE.but (dk2.same z1) b9 Ed Ec
      refine ⟨(by decide : (1 : Nat) ≤ sizeLine), fun p2 np2 => ?_⟩
      generalize hU8 : upd _ p2 _ = U8
      have s10 : Same X2 U8 := hU8 ▸ same_new np2
      have op2 : U8 p2 = some (.tup [v']) := hU8 ▸ upd_same
      refine cat_any (s10 _ _ (ko9.tup _ _ ep1)) op2 (by rw [List.length_take]; show _ + 1 ≤ _; omega) fun p3 X3 s11 ep3 => ?_
      have eT11 := s11 _ _ (s10 _ _ (ko9.tup _ _ (z1 _ _ eT2)))
      refine ⟨.ref TP, rfl, .int (ka : Int), rfl, _, _, rfl, rfl, _, rfl, np_ (sl_fromI (k := ka + 1) (by omega) eT11 rfl fun p4 X4 s12 ep4 => ?_)⟩
      refine cat_any (s12 _ _ ep3) ep4 (by rw [List.length_append, List.length_take, List.length_drop]; show _ + 1 + _ ≤ _; omega) fun p5 X5 s13 ep5 => ?_
      have sAll := ((s10.trans s11).trans s12).trans s13
      have alf : AllE E X5 xs us := ((al2.same z1).keep ko9).same sAll
      refine q (.ref p5) (.tup (xs.take ka ++ [o'] ++ xs.drop (ka + 1))) t' X5 (b09.same sAll) (dk9.same sAll) (by omega) (.mk ep5 (((alf.take ka).append (.cons (ho9.same sAll) .nil)).append (alf.drop (ka + 1)))) ?_ ?_
      · rw [show k0 + 1 + p + 1 = (k0 + p + 1) + 1 by omega]
        refine .tup ?_ fun y hy => ?_
        · rw [List.length_append, List.length_append, List.length_take, List.length_drop]
          show _ + 1 + _ ≤ m + 1
          omega
        · rcases List.mem_append.mp hy with hy | hy
          · rcases List.mem_append.mp hy with hy | hy
            · exact ((hx y (List.mem_of_mem_take hy)).up (by omega)).mono (by omega) (Nat.le_succ m)
            · rw [List.mem_singleton.mp hy]
              exact in9
          · exact ((hx y (List.mem_of_mem_drop hy)).up (by omega)).mono (by omega) (Nat.le_succ m)
      · rw [wt_tup, wtL_app, wtL_app, wtL, wtL]
        omega
    · rw [hTo]
      refine iteT ⟨.ref O', rfl, O', ws, rfl, .inr (.inl (.inl eO)), .int (ka : Int), rfl, _, _, rfl, rfl, _, rfl, ?_⟩
      by_cases hk : ka < ws.length
      · rw [decide_eq_true (show (ka : Int) < (ws.length : Int) by omega)]
        obtain ⟨vb, evb⟩ : ∃ vb, ws[ka]? = some vb := ⟨ws[ka]'hk, List.getElem?_eq_getElem _⟩
        obtain ⟨ob, eob⟩ : ∃ ob, ys[ka]? = some ob := ⟨ys[ka]'(by rw [alo.1]; exact hk), List.getElem?_eq_getElem _⟩
        have hob := alo.2 _ _ _ eob evb
        have inb : In B m p ob := by
          obtain ⟨p0, rfl, _, h⟩ := inot.ch
          exact (h ob (List.mem_of_getElem? eob)).succ
        have wob : wt ob ≤ wt (.tup ys) := by
          rw [wt_tup]
          have := wtL_mem (List.mem_of_getElem? eob)
          omega
        generalize wt (.tup ys) = wo at *
        refine iteT ⟨.ref O', rfl, .int (ka : Int), rfl, O', _, _, _, rfl, rfl, .inl (.inl eO), atI_nat evb, ?_⟩
        refine ⟨.ref TP, rfl, .int (ka : Int), rfl, _, rfl, sl_toI rfl eT2 rfl fun p1 X1 z1 ep1 => ?_⟩
        refine ⟨.ref d, rfl, .ref TP, rfl, .int (ka : Int), rfl, TP, _, _, _, rfl, rfl, .inl (.inl (z1 _ _ eT2)), atI_nat evx, vb, rfl, E, d, c, x, ob, vx, vb, t + 2, B, m, k0, p, rfl, ex2.same z1, Ed, Ec, dk2.same z1, by omega, (al2.2 _ _ _ ex evx).same z1, hob.same z1, by omega, hx x (List.mem_of_getElem? ex), inb, B1, B2, m2, m1, by omega, fun v' o' t' X2 b9 dk9 lt9 ho9 in9 wt9 => ?_⟩
        have b09 := (b02.same z1).trans b9
        have ko9 := KE.but (dk2.same z1) b9 Ed Ec
        refine ⟨(by decide : (1 : Nat) ≤ sizeLine), fun p2 np2 => ?_⟩
        generalize hU8 : upd _ p2 _ = U8
        have s10 : Same X2 U8 := hU8 ▸ same_new np2
        have op2 : U8 p2 = some (.tup [v']) := hU8 ▸ upd_same
        refine cat_any (s10 _ _ (ko9.tup _ _ ep1)) op2 (by rw [List.length_take]; show _ + 1 ≤ _; omega) fun p3 X3 s11 ep3 => ?_
        have eT11 := s11 _ _ (s10 _ _ (ko9.tup _ _ (z1 _ _ eT2)))
        refine ⟨.ref TP, rfl, .int (ka : Int), rfl, _, _, rfl, rfl, _, rfl, np_ (sl_fromI (k := ka + 1) (by omega) eT11 rfl fun p4 X4 s12 ep4 => ?_)⟩
        refine cat_any (s12 _ _ ep3) ep4 (by rw [List.length_append, List.length_take, List.length_drop]; show _ + 1 + _ ≤ _; omega) fun p5 X5 s13 ep5 => ?_
        have sAll := ((s10.trans s11).trans s12).trans s13
        have alf : AllE E X5 xs us := ((al2.same z1).keep ko9).same sAll
        refine q (.ref p5) (.tup (xs.take ka ++ [o'] ++ xs.drop (ka + 1))) t' X5 (b09.same sAll) (dk9.same sAll) (by omega) (.mk ep5 (((alf.take ka).append (.cons (ho9.same sAll) .nil)).append (alf.drop (ka + 1)))) ?_ ?_
        · rw [show k0 + 1 + p + 1 = (k0 + p + 1) + 1 by omega]
          refine .tup ?_ fun y hy => ?_
          · rw [List.length_append, List.length_append, List.length_take, List.length_drop]
            show _ + 1 + _ ≤ m + 1
            omega
          · rcases List.mem_append.mp hy with hy | hy
            · rcases List.mem_append.mp hy with hy | hy
              · exact ((hx y (List.mem_of_mem_take hy)).up (by omega)).mono (by omega) (Nat.le_succ m)
              · rw [List.mem_singleton.mp hy]
                exact in9
            · exact ((hx y (List.mem_of_mem_drop hy)).up (by omega)).mono (by omega) (Nat.le_succ m)
        · rw [wt_tup, wtL_app, wtL_app, wtL, wtL]
          omega
      · rw [decide_eq_false (show ¬ (ka : Int) < (ws.length : Int) by omega)]
        obtain ⟨ob, vb, evb, hob, inb, wob⟩ : ∃ ob vb, V.ref O' = vb ∧ ObE E H2 ob vb ∧ In B m p ob ∧ wt ob ≤ wt (.tup ys) := ⟨.tup ys, .ref O', rfl, hot2, inot, Nat.le_refl _⟩
        subst evb
        generalize wt (.tup ys) = wo at *
        refine iteF ⟨.ref O', rfl, ?_⟩
        refine ⟨.ref TP, rfl, .int (ka : Int), rfl, _, rfl, sl_toI rfl eT2 rfl fun p1 X1 z1 ep1 => ?_⟩
        refine ⟨.ref d, rfl, .ref TP, rfl, .int (ka : Int), rfl, TP, _, _, _, rfl, rfl, .inl (.inl (z1 _ _ eT2)), atI_nat evx, .ref O', rfl, E, d, c, x, ob, vx, .ref O', t + 2, B, m, k0, p, rfl, ex2.same z1, Ed, Ec, dk2.same z1, by omega, (al2.2 _ _ _ ex evx).same z1, hob.same z1, by omega, hx x (List.mem_of_getElem? ex), inb, B1, B2, m2, m1, by omega, fun v' o' t' X2 b9 dk9 lt9 ho9 in9 wt9 => ?_⟩
        have b09 := (b02.same z1).trans b9
        have ko9 := KE.but (dk2.same z1) b9 Ed Ec
        refine ⟨(by decide : (1 : Nat) ≤ sizeLine), fun p2 np2 => ?_⟩
        generalize hU8 : upd _ p2 _ = U8
        have s10 : Same X2 U8 := hU8 ▸ same_new np2
        have op2 : U8 p2 = some (.tup [v']) := hU8 ▸ upd_same
        refine cat_any (s10 _ _ (ko9.tup _ _ ep1)) op2 (by rw [List.length_take]; show _ + 1 ≤ _; omega) fun p3 X3 s11 ep3 => ?_
        have eT11 := s11 _ _ (s10 _ _ (ko9.tup _ _ (z1 _ _ eT2)))
        refine ⟨.ref TP, rfl, .int (ka : Int), rfl, _, _, rfl, rfl, _, rfl, np_ (sl_fromI (k := ka + 1) (by omega) eT11 rfl fun p4 X4 s12 ep4 => ?_)⟩
        refine cat_any (s12 _ _ ep3) ep4 (by rw [List.length_append, List.length_take, List.length_drop]; show _ + 1 + _ ≤ _; omega) fun p5 X5 s13 ep5 => ?_
        have sAll := ((s10.trans s11).trans s12).trans s13
        have alf : AllE E X5 xs us := ((al2.same z1).keep ko9).same sAll
        refine q (.ref p5) (.tup (xs.take ka ++ [o'] ++ xs.drop (ka + 1))) t' X5 (b09.same sAll) (dk9.same sAll) (by omega) (.mk ep5 (((alf.take ka).append (.cons (ho9.same sAll) .nil)).append (alf.drop (ka + 1)))) ?_ ?_
        · rw [show k0 + 1 + p + 1 = (k0 + p + 1) + 1 by omega]
          refine .tup ?_ fun y hy => ?_
          · rw [List.length_append, List.length_append, List.length_take, List.length_drop]
            show _ + 1 + _ ≤ m + 1
            omega
          · rcases List.mem_append.mp hy with hy | hy
            · rcases List.mem_append.mp hy with hy | hy
              · exact ((hx y (List.mem_of_mem_take hy)).up (by omega)).mono (by omega) (Nat.le_succ m)
              · rw [List.mem_singleton.mp hy]
                exact in9
            · exact ((hx y (List.mem_of_mem_drop hy)).up (by omega)).mono (by omega) (Nat.le_succ m)
        · rw [wt_tup, wtL_app, wtL_app, wtL, wtL]
          omega
theorem nev {x : Str} {ps : List Str} {st : Stmt} {f : Addr} {fd : FuncData} {sp : Sp} (D : DefAt K mg x ps st f fd) (h : ∀ vs H Q E, sp vs H Q E → False) : Cal P w K mg base L2.CX0 1 x ps sp :=
  ⟨f, fd, ⟨fun vs H Q E z => (h vs H Q E z).elim, fun _ _ _ _ _ _ _ _ _ _ _ _ _ _ z => (h _ _ _ _ z).elim⟩, D.mgf, D.fn.kp, D.bs, D.kbs⟩
/-- at any depth -/
theorem spoils {f : Addr} {fd : FuncData} (D : DefAt K mg "_law_spoilt" ["_law_deck_here", "_law_thing", "_law_other"] s_l_spoilt f fd) (M : Bi mg)
    (C_l_draw : Cal P w K mg base L2.CX0 1 "_law_draw" ["_law_deck_here", "_law_sides"] spDraw)
    (C_l_off : Cal P w K mg base L2.CX0 2 "_law_off" ["_law_deck_here", "_law_thing", "_law_other"] spOff) :
    ∀ n, Cal P w K mg base L2.CX0 (2 * n + 3) "_law_spoilt" ["_law_deck_here", "_law_thing", "_law_other"] (spSpo n)
  | 0 => ok_spoilt (N := 0) D M (Nat.le_refl _) C_l_draw C_l_off (nev D fun _ _ _ _ z => z)
  | n + 1 => ok_spoilt (N := n + 1) D M (by omega) C_l_draw C_l_off (spoils D M C_l_draw C_l_off n)
end
end K80

namespace K80
open PySem PySem.Spec PyProof.Rows L2 Kit X15
/-! ### a net in a row -/
section
variable {P : Program} {w : World} {K : PySem.W.Frag} {mg : Str → Option Value} {base : Heap}
theorem ok_row {f : Addr} {fd : FuncData} (D : DefAt K mg "_law_row_net" ["_law_deck_here"] s_l_row_net f fd) (M : Bi mg)
    (C_l_draw : Cal P w K mg base L2.CX0 1 "_law_draw" ["_law_deck_here", "_law_sides"] spDraw) :
    Cal P w K mg base L2.CX0 3 "_law_row_net" ["_law_deck_here"] spNet := by
  have S := S_l_row_net
  refine cal_of D.fn D.mgf D.bs D.kbs S (fun vs H Q E h => ?_) (fun cdv A outer s H vs Q E hq hr h => ?_)
  · obtain ⟨d, c, t, rfl, _⟩ := h
    rfl
  · obtain ⟨d, c, t, rfl, dk, ht, q⟩ := h
    refine ⟨_, (pss_cons (ps_set (i := 1) S.nd rfl (.inl rfl) (pe_op op_add pe_int (pe_c C_l_draw pass0 hq hr (by omega) (by rfl) (pa_cons (pv 0) (pa_cons pe_int pa_nil)))))
 (pss_cons (ps_set (i := 2) S.nd rfl (.inl rfl) (pe_op op_cat (pe_lst (pa_cons (pe_tup (pa_cons pe_str (pa_cons pe_str (pa_cons pe_int (pa_cons (pe_ix ix_list (pe_lst (pa_cons (pv 1) (pa_cons pe_int pa_nil))) (pe_c C_l_draw pass0 hq hr (by omega) (by rfl) (pa_cons (pv 0) (pa_cons pe_int pa_nil))) (fun _ _ => rfl)) pa_nil))))) pa_nil)) (pe_lc (own := [("_law_k", 3)]) (g := gName 3) (tt := tYes) rfl S.nd (pi_range1 (by rfl) M.range_ (pa_cons (pv 1) pa_nil)) (blkOk_by (own := [("_law_k", 3)]) (N := N_l_row_net) (sc := defScope s_l_row_net) (by decide +kernel)) (fun _ _ _ _ _ => pg_name (i := 3) S.nd rfl (.inl rfl)) (fun _ _ _ _ _ => pts_nil) (fun _ _ _ _ _ => (pe_tup (pa_cons pe_str (pa_cons (pv 3) pa_nil)))))))
 (pss_one (ps_ret (pe_tup (pa_cons (pe_callTy call_tuple_of (by rfl) M.tuple_ (by decide +kernel) (pa_cons (pe_op op_cat (pv 2) (pe_lst (pa_cons (pe_tup (pa_cons pe_str (pa_cons pe_str (pa_cons pe_int (pa_cons (pe_c C_l_draw pass0 hq hr (by omega) (by rfl) (pa_cons (pv 0) (pa_cons (pe_op op_add (pv 1) pe_int) pa_nil))) pa_nil))))) pa_nil))) pa_nil)) (pa_cons (pe_tup pa_nil) (pa_cons (pe_tup pa_nil) pa_nil)))))))), ?_⟩
    refine ⟨.ref d, rfl, d, c, 20, t, rfl, by decide, by decide, dk, by omega, fun r1 H1 a1 b1 k1 dk1 => ⟨_, _, rfl, rfl, ?_⟩⟩
    obtain ⟨m, em⟩ : ∃ m : Nat, 1 + r1 = (m : Int) := ⟨(1 + r1).toNat, by omega⟩
    show gName 1 (V.int (1 + r1)) _ _ _
    rw [em]
    have hm1 : 1 ≤ m := by omega
    have hm2 : m ≤ 20 := by omega
    refine ⟨.int (m : Int), rfl, (by decide : (2 : Nat) ≤ sizeLine), fun L0 nL0 => ?_⟩
    generalize hP0 : upd _ L0 _ = P0
    have s0 : Same H1 P0 := hP0 ▸ same_new nL0
    have e0 : P0 L0 = some (.lst [.int (m : Int), .int 0]) := hP0 ▸ upd_same
    refine ⟨.ref d, rfl, d, c, 2, t + 1, rfl, by decide, by decide, dk1.same s0, by omega, fun r2 H2 a2 b2 k2 dk2 => ?_⟩
    have f0 := dk1.free nL0
    obtain ⟨x, hx, exv⟩ : ∃ x : Nat, x < m + 2 ∧ atI [V.int (m : Int), .int 0] r2 = some (.int (x : Int)) := by
      have : r2 = 0 ∨ r2 = 1 := by omega
      rcases this with rfl | rfl
      · exact ⟨m, by omega, rfl⟩
      · exact ⟨0, by omega, rfl⟩
    refine ⟨L0, _, _, _, rfl, rfl, .inl (.inl (k2 _ _ f0.1 f0.2 e0)), exv, (by decide : (4 : Nat) ≤ sizeLine), fun g1 ng1 => ?_⟩
    generalize hP1 : upd _ g1 _ = P1
    have s1 : Same H2 P1 := hP1 ▸ same_new ng1
    have e1 : P1 g1 = some _ := hP1 ▸ upd_same
    refine ⟨(by decide : (1 : Nat) ≤ sizeLine), fun L1 nL1 => ?_⟩
    generalize hP2 : upd _ L1 _ = P2
    have s2 : Same P1 P2 := hP2 ▸ same_new nL1
    have e2 : P2 L1 = some (.lst [.ref g1]) := hP2 ▸ upd_same
    have bb : But d c H P2 := ((((k1.same s0).trans k2).same s1).same s2)
    have dkP2 := (dk2.same s1).same s2
    have tg1 : TdR P2 (Gt.box "k" 0 x).td (.ref g1) := (gt_td (.box "k" 0 x) e1).keep (TK.same s2)
    have nL10 : H L1 = none := but_none (dk2.same s1) (((k1.same s0).trans k2).same s1) nL1
    have bnd : ∀ k : Nat, k ≤ 1000000 → -2 ^ 62 ≤ (k : Int) ∧ (k : Int) < 2 ^ 62 := fun k h => ⟨by omega, by omega⟩
    have big : 1000000 < sizeLine := by decide
    refine ⟨.int (m : Int), rfl, (m : Int), rfl, (bnd _ (by omega)).1, (bnd _ (by omega)).2, fun Dl nD => ?_⟩
    have fD := dkP2.free nD
    have g0ok : NetOk [Gt.box "k" 0 x] (m + 2) := ⟨by show 1 ≤ m + 2; omega, fun i g e => by
      match i, e with
      | 0, e =>
        cases e
        exact ⟨hx, okZ_dec (by decide +kernel), small_of (Int.le_refl _) (by decide), (by show x ≤ 9999999; omega)⟩
      | i + 1, e => exact absurd e (by simp)⟩
    refine lc_range (lo := 0) (n := m) (fun j X => ∃ (gs : List Gt) (vs : List V), Same P2 X ∧ X Dl = some (.lst vs) ∧ All2 X (gs.map Gt.td) vs ∧ gs.length = j ∧ NetOk ([Gt.box "k" 0 x] ++ gs) (m + 2)) ?_ ?_ ?_
    · exact ⟨[], [], same_new nD, upd_same, .nil, rfl, g0ok⟩
    · rintro j X hj ⟨gs, vs, sX, eX, al, lgs, no⟩
      refine ⟨rfl, ?_⟩
      unfold tYes
      have lv : vs.length = j := by rw [← al.1, List.length_map, lgs]
      refine iteT ⟨.int (0 + (j : Int)), rfl, (by decide : (2 : Nat) ≤ sizeLine), fun p np => ?_⟩
      generalize hXp : upd _ p _ = Xp
      have sp : Same X Xp := hXp ▸ same_new np
      have ep : Xp p = some _ := hXp ▸ upd_same
      have eXp := sp _ _ eX
      have kf := TK.lst (o := .lst (vs ++ [V.ref p])) (TK.same (Same.refl Xp)) eXp
      refine ⟨vs, eXp, by rw [lv]; omega, gs ++ [.nt j], vs ++ [.ref p], same_mut (sX.trans sp) nD, upd_same, ?_, by rw [List.length_append, lgs]; rfl, ?_⟩
      · rw [List.map_append]
        have tg : TdR Xp (Gt.nt j).td (.ref p) := gt_td (.nt j) (by rw [ep]; show some (HO.tup [.str "not", .int (0 + (j : Int))]) = some (HO.tup [.str "not", .int (j : Int)]); rw [Int.zero_add])
        exact All2.snoc ((al.keep (TK.same sp)).keep kf) (tg.keep kf)
      · rw [← List.append_assoc]
        refine no.snoc ?_ ?_ ?_
        · rw [List.length_append, lgs]
          show 1 + j < _
          omega
        · rw [List.length_append, lgs]
          show j < 1 + j
          omega
        · show j ≤ 9999999
          omega
    rintro X ⟨gs, vs, sX, eX, al, lgs, no⟩
    have lv : vs.length = m := by rw [← al.1, List.length_map, lgs]
    refine ⟨L1, Dl, _, _, rfl, rfl, sX _ _ e2, eX, by show 1 + vs.length ≤ _; rw [lv]; exact Nat.le_trans (by omega : 1 + m ≤ 21) (by decide), fun L3 nL3 => ?_⟩
    generalize hP3 : upd _ L3 _ = P3
    have s3 : Same X P3 := hP3 ▸ same_new nL3
    have e3 : P3 L3 = some (.lst ([V.ref g1] ++ vs)) := hP3 ▸ upd_same
    have bP3 : But d c H P3 := (bb.same sX).same s3
    have dkP3 := (dkP2.same sX).same s3
    have f3 := (dkP2.same sX).free nL3
    refine ⟨.ref L3, rfl, .ref d, rfl, .int (m : Int), rfl, _, _, rfl, rfl, d, c, _, t + 2, rfl, by omega, by omega, dkP3, by omega, fun r3 H3 a3 b3 k3 dk3 => ?_⟩
    obtain ⟨y, rfl⟩ : ∃ y : Nat, r3 = (y : Int) := ⟨r3.toNat, by omega⟩
    refine ⟨(by decide : (4 : Nat) ≤ sizeLine), fun g2 ng2 => ?_⟩
    generalize hP4 : upd _ g2 _ = P4
    have s4 : Same H3 P4 := hP4 ▸ same_new ng2
    have e4 : P4 g2 = some _ := hP4 ▸ upd_same
    refine ⟨(by decide : (1 : Nat) ≤ sizeLine), fun L4 nL4 => ?_⟩
    generalize hP5 : upd _ L4 _ = P5
    have s5 : Same P4 P5 := hP5 ▸ same_new nL4
    have e5 : P5 L4 = some (.lst [.ref g2]) := hP5 ▸ upd_same
    have e3' := s5 _ _ (s4 _ _ (k3 _ _ f3.1 f3.2 e3))
    refine ⟨L3, L4, _, _, rfl, rfl, e3', e5, by rw [List.length_append, lv]; show 1 + m + 1 ≤ _; omega, fun L5 nL5 => ?_⟩
    generalize hP6 : upd _ L5 _ = P6
    have s6 : Same P5 P6 := hP6 ▸ same_new nL5
    have e6 : P6 L5 = some (.lst ([V.ref g1] ++ vs ++ [V.ref g2])) := hP6 ▸ upd_same
    refine ⟨L5, _, rfl, .inl ⟨.inl (.inl e6), fun T1 nT1 => ?_⟩⟩
    generalize hV1 : upd _ T1 _ = V1
    have v1 : Same P6 V1 := hV1 ▸ same_new nT1
    have x1 : V1 T1 = some _ := hV1 ▸ upd_same
    refine ⟨Nat.zero_le _, fun T2 nT2 => ?_⟩
    generalize hV2 : upd _ T2 _ = V2
    have v2 : Same V1 V2 := hV2 ▸ same_new nT2
    have x2 : V2 T2 = some _ := hV2 ▸ upd_same
    refine ⟨Nat.zero_le _, fun T3 nT3 => ?_⟩
    generalize hV3 : upd _ T3 _ = V3
    have v3 : Same V2 V3 := hV3 ▸ same_new nT3
    have x3 : V3 T3 = some _ := hV3 ▸ upd_same
    refine ⟨(by decide : (3 : Nat) ≤ sizeLine), fun T4 nT4 => ?_⟩
    generalize hV4 : upd _ T4 _ = V4
    have v4 : Same V3 V4 := hV4 ▸ same_new nT4
    have x4 : V4 T4 = some _ := hV4 ▸ upd_same
    have v14 := ((v1.trans v2).trans v3).trans v4
    have z45 := (s4.trans s5).trans s6
    have kk := ((TK.same (sX.trans s3)).trans (TK.but dkP3 k3)).trans ((TK.same z45).trans (TK.same v14))
    have kX := ((TK.same s3).trans (TK.but dkP3 k3)).trans ((TK.same z45).trans (TK.same v14))
    have lgs2 : ([Gt.box "k" 0 x] ++ gs).length = m + 1 := by
      rw [List.length_append, lgs]
      show 1 + m = m + 1
      omega
    have noF := no.snoc (g := .box "m" 1 y) (by omega) (show y < m + 2 by omega) ⟨okZ_dec (by decide +kernel), small_of (by decide) (by decide), (by show y ≤ 9999999; omega)⟩
    have lF : ([Gt.box "k" 0 x] ++ gs ++ [Gt.box "m" 1 y]).length = m + 2 := by
      rw [List.length_append, lgs2]
      rfl
    refine q _ ([Gt.box "k" 0 x] ++ gs ++ [Gt.box "m" 1 y]) (t + 3) V4 (((bP3.trans k3).same z45).same v14) ((dk3.same z45).same v14) (by omega) ?_ (by rw [lF]; exact noF) (by rw [lF]; omega) (by rw [lF]; omega)
    refine .mk x4 (.cons (.mk (v4 _ _ (v3 _ _ (v2 _ _ x1))) ?_) (.cons (.mk (v4 _ _ (v3 _ _ x2)) .nil) (.cons (.mk (v4 _ _ x3) .nil) .nil)))
    rw [List.map_append, List.map_append]
    exact All2.snoc (.cons (tg1.keep kk) (al.keep kX)) ((gt_td (.box "m" 1 y) e4).keep (TK.same ((s5.trans s6).trans v14)))
end
end K80

namespace K80
open PySem PySem.Spec PyProof.Rows L2 Kit X15
/-! ### papers, their weight -/
/-- a paper in the heap -/
structure Pap (H : Hp) (R : Addr) (T : Int) (l : List Nat) (L : List Int) : Prop where
  ex : ∃ lp la : Addr, H R = some (.tup [.int T, .ref lp, .ref la]) ∧ H lp = some (.tup (nats l)) ∧ H la = some (.tup (L.map V.int))
theorem Pap.kt {H H' : Hp} {R : Addr} {T : Int} {l : List Nat} {L : List Int} (h : Pap H R T l L) (k : TK H H') : Pap H' R T l L := by
  obtain ⟨lp, la, h1, h2, h3⟩ := h.ex
  exact ⟨lp, la, k _ _ h1, k _ _ h2, k _ _ h3⟩
/-- its numbers are small -/
structure PapS (T : Int) (l : List Nat) (L : List Int) : Prop where
  t0 : 0 ≤ T
  t1 : T ≤ 9999999
  ln : l.length ≤ 41
  lb : ∀ k ∈ l, k ≤ 9999999
  an : L.length ≤ 41
  ab : ∀ x ∈ L, 0 ≤ x ∧ x ≤ 9999999
def papO (T : Int) (l : List Nat) (L : List Int) : Ob := .tup [.int T, natsO l, intsO L]
theorem alle_of_ints {E : Addr → Prop} {H : Hp} : ∀ arr : List Int, AllE E H (arr.map Ob.int) (arr.map V.int)
  | [] => .nil
  | x :: arr => .cons (.int x) (alle_of_ints arr)
theorem allo_nats {E : Addr → Prop} {H : Hp} (l : List Nat) : AllE E H ((l.map fun (k : Nat) => (k : Int)).map Ob.int) (nats l) := by
  rw [← map_ints]
  exact alle_of_ints _
theorem nats_ob {E : Addr → Prop} {H : Hp} {p : Addr} {l : List Nat} (e : H p = some (.tup (nats l))) : ObE E H (natsO l) (.ref p) := .mk e (allo_nats l)
theorem ints_ob {E : Addr → Prop} {H : Hp} {p : Addr} {L : List Int} (e : H p = some (.tup (L.map V.int))) : ObE E H (intsO L) (.ref p) := .mk e (alle_of_ints L)
theorem Pap.ob {E : Addr → Prop} {H : Hp} {R : Addr} {T : Int} {l : List Nat} {L : List Int} (h : Pap H R T l L) : ObE E H (papO T l L) (.ref R) := by
  obtain ⟨lp, la, h1, h2, h3⟩ := h.ex
  exact .mk h1 (.cons (.int T) (.cons (nats_ob h2) (.cons (ints_ob h3) .nil)))
theorem in_int {B : Int} {m : Nat} {x : Int} (h0 : -B ≤ x) (h1 : x ≤ B) (n : Nat) : In B m n (.int x) := leaf_in (show leafO B (.int x) from ⟨h0, h1⟩) n
theorem in_ints {B : Int} {m : Nat} {L : List Int} (hl : L.length ≤ m) (h : ∀ x ∈ L, -B ≤ x ∧ x ≤ B) (n : Nat) : In B m (n + 1) (intsO L) := by
  refine .tup (by rw [List.length_map]; exact hl) fun o ho => ?_
  obtain ⟨x, hx, rfl⟩ := List.mem_map.mp ho
  exact in_int (h x hx).1 (h x hx).2 n
theorem wtL_ints : ∀ L : List Int, wtL (L.map Ob.int) = 500 * L.length
  | [] => by rw [List.map_nil, wtL]; rfl
  | x :: L => by
    rw [List.map_cons, wtL, wtL_ints L, wt, List.length_cons]
    omega
theorem wt_ints (L : List Int) : wt (intsO L) = 500 * L.length + 5 := by
  unfold intsO
  rw [wt_tup, wtL_ints]
theorem wt_nats (l : List Nat) : wt (natsO l) = 500 * l.length + 5 := by
  have : wt (natsO l) = 500 * (l.map fun (k : Nat) => (k : Int)).length + 5 := wt_ints _
  rw [this, List.length_map]
section
variable {B T : Int} {l : List Nat} {L : List Int}
theorem PapS.inT (h : PapS T l L) (hB : 9999999 ≤ B) (n : Nat) : In B 41 n (.int T) := by
  have := h.t0
  have := h.t1
  exact in_int (by omega) (by omega) n
theorem PapS.inl (h : PapS T l L) (hB : 9999999 ≤ B) (n : Nat) : In B 41 (n + 1) (natsO l) := by
  refine in_ints (by rw [List.length_map]; exact h.ln) (fun x hx => ?_) n
  obtain ⟨k, hk, rfl⟩ := List.mem_map.mp hx
  have := h.lb k hk
  omega
theorem PapS.inL (h : PapS T l L) (hB : 9999999 ≤ B) (n : Nat) : In B 41 (n + 1) (intsO L) :=
  in_ints h.an (fun x hx => by have := h.ab x hx; omega) n
theorem PapS.in3 (h : PapS T l L) (hB : 9999999 ≤ B) : ∀ o ∈ ([.int T, natsO l, intsO L] : List Ob), In B 41 1 o := fun o ho => by
  rcases List.mem_cons.mp ho with rfl | ho
  · exact h.inT hB 1
  · rcases List.mem_cons.mp ho with rfl | ho
    · exact h.inl hB 0
    · rw [List.mem_singleton.mp ho]
      exact h.inL hB 0
theorem PapS.inn (h : PapS T l L) (hB : 9999999 ≤ B) : In B 41 2 (papO T l L) := .tup (by show 3 ≤ 41; decide) (h.in3 hB)
theorem PapS.wt3 (h : PapS T l L) : wtL [.int T, natsO l, intsO L] ≤ 41515 := by
  have := h.ln
  have := h.an
  rw [wtL, wtL, wtL, wtL, wt, wt_nats, wt_ints]
  omega
theorem PapS.wt (h : PapS T l L) : wt (papO T l L) ≤ 42000 := by
  have := h.wt3
  unfold papO
  rw [wt_tup]
  omega
end
end K80

set_option maxHeartbeats 8000000
namespace K80
open PySem PySem.Spec PyProof.Rows L2 Kit X15
/-! ### the law -/
def spLaw (K : PySem.W.Frag) : Sp := fun vs H Q _ => ∃ (a : Addr) (ns : List Int), vs = [.ref a] ∧ SqL K H a (ns.map V.int) ∧ ns.length ≤ 63 ∧
  (∀ z ∈ ns, Builtin.Int.intBits z ≤ 1048576) ∧ ∀ H', Q (.bl true) H'
/-- papers side by side -/
def Paps (H : Hp) (rs : List V) : Prop := ∀ r ∈ rs, ∃ R T l L, r = .ref R ∧ Pap H R T l L ∧ PapS T l L
theorem Paps.kt {H H' : Hp} {rs : List V} (h : Paps H rs) (k : TK H H') : Paps H' rs := fun r hr => by
  obtain ⟨R, T, l, L, e, hp, hs⟩ := h r hr
  exact ⟨R, T, l, L, e, hp.kt k, hs⟩
/-- what stands through a turn -/
structure Ctx (H : Hp) (N Y Z oa fa Tw G G' d c : Addr) (gs : List Gt) (cs cs2 : List (Int × Int)) (wl wl2 : List (List Way)) (own far : Own) (bs : List Bool) (rs : List V) (t : Nat) : Prop where
  tn : TdR H (netT gs) (.ref N)
  tl : TdR H (layT cs wl) (.ref Y)
  tz : TdR H (layT cs2 wl2) (.ref Z)
  eo : H oa = some (.tup (ownV own))
  ef : H fa = some (.tup (ownV far))
  ew : H Tw = some (.lst (bs.map V.bl))
  eg : H G = some (.lst rs)
  eh : H G' = some (.lst rs.reverse)
  pp : Paps H rs
  w1 : Tw ≠ d ∧ Tw ≠ c
  g1 : G ≠ d ∧ G ≠ c
  h1 : G' ≠ d ∧ G' ≠ c
  dk : Deck H d c t
section
variable {H H' : Hp} {N Y Z oa fa Tw G G' d c : Addr} {gs : List Gt} {cs cs2 : List (Int × Int)} {wl wl2 : List (List Way)} {own far : Own} {bs : List Bool} {rs : List V} {t t' : Nat}
theorem Ctx.same (h : Ctx H N Y Z oa fa Tw G G' d c gs cs cs2 wl wl2 own far bs rs t) (s : Same H H') : Ctx H' N Y Z oa fa Tw G G' d c gs cs cs2 wl wl2 own far bs rs t :=
  ⟨h.tn.same s, h.tl.same s, h.tz.same s, s _ _ h.eo, s _ _ h.ef, s _ _ h.ew, s _ _ h.eg, s _ _ h.eh, h.pp.kt (TK.same s), h.w1, h.g1, h.h1, h.dk.same s⟩
theorem Ctx.but (h : Ctx H N Y Z oa fa Tw G G' d c gs cs cs2 wl wl2 own far bs rs t) (b : But d c H H') (dk : Deck H' d c t') : Ctx H' N Y Z oa fa Tw G G' d c gs cs cs2 wl wl2 own far bs rs t' :=
  have k := TK.but h.dk b
  ⟨h.tn.keep k, h.tl.keep k, h.tz.keep k, k _ _ h.eo, k _ _ h.ef, b _ _ h.w1.1 h.w1.2 h.ew, b _ _ h.g1.1 h.g1.2 h.eg, b _ _ h.h1.1 h.h1.2 h.eh, h.pp.kt k, h.w1, h.g1, h.h1, dk⟩
/-- a list beside them grows -/
theorem Ctx.grow {S : Addr} {xs ys : List V} (h : Ctx H N Y Z oa fa Tw G G' d c gs cs cs2 wl wl2 own far bs rs t) (e : H S = some (.lst xs)) (n1 : Tw ≠ S) (n2 : G ≠ S) (n3 : G' ≠ S) (n4 : S ≠ d) (n5 : S ≠ c) :
    Ctx (upd H S (.lst ys)) N Y Z oa fa Tw G G' d c gs cs cs2 wl wl2 own far bs rs t :=
  have k : TK H (upd H S (.lst ys)) := TK.lst (TK.same (Same.refl H)) e
  ⟨h.tn.keep k, h.tl.keep k, h.tz.keep k, k _ _ h.eo, k _ _ h.ef, by rw [upd_ne n1]; exact h.ew, by rw [upd_ne n2]; exact h.eg, by rw [upd_ne n3]; exact h.eh, h.pp.kt k, h.w1, h.g1, h.h1, h.dk.mut n4.symm n5.symm⟩
end
/-- a thing that may be held up: its numbers, its length -/
def Thg (B : Int) (o : Ob) : Prop := In (B + 2000) 43 9 o ∧ wt o ≤ 300000
theorem km_at {i : Nat} {x : V} (h : (sgV "km")[i]? = some x) : ∃ z : Str, x = .str z ∧ okZ z := by
  have e : sgV "km" = [.str "k", .str "m"] := by decide +kernel
  rw [e] at h
  match i, h with
  | 0, h =>
    cases h
    exact ⟨_, rfl, okZ_dec (by decide +kernel)⟩
  | 1, h =>
    cases h
    exact ⟨_, rfl, okZ_dec (by decide +kernel)⟩
  | i + 2, h => exact absurd h (by simp)
theorem chain_lt {gs : List Gt} {wl : List (List Way)} {arr : List Int} {step : Int} {x : Nat} {ch : List Nat} (h : Chain gs wl arr step x ch) : ∀ k ∈ ch, k < gs.length := by
  induction h with
  | last t e f =>
    intro k hk
    rw [List.mem_singleton.mp hk]
    exact (List.getElem?_eq_some_iff.mp e).1
  | more t e f c ih =>
    intro k hk
    rcases List.mem_cons.mp hk with rfl | hk
    · exact (List.getElem?_eq_some_iff.mp e).1
    · exact ih k hk
theorem ite_same {b : Bool} {A : Prop} (h : A) : if b = true then A else A := by
  split <;> exact h
theorem same_none {H H' : Hp} (s : Same H H') {p : Addr} (h : H' p = none) : H p = none := by
  cases e : H p with
  | none => rfl
  | some o =>
    rw [s _ _ e] at h
    cases h
theorem slw_papS {gs : List Gt} {wl : List (List Way)} {own : Own} {c : Str} {t : Int} {l : List Nat} (ok : Okl gs wl) (few : own.few) (gl : gs.length ≤ 40) (h : SlwOk gs wl own c t l) : PapS t l (arrs gs wl own) := by
  have lar : (arrs gs wl own).length = gs.length := arrN_len _ _ _ _
  have abd : ∀ x ∈ arrs gs wl own, 0 ≤ x ∧ x ≤ 9999999 := fun x hx => by
    have := arrN_bd ok few gs.length x hx
    omega
  rcases h with ⟨_, rfl, rfl⟩ | ⟨b, ch, hb, rfl, lc, hch, rfl, _⟩
  · exact ⟨Int.le_refl _, by decide, by decide, (fun k hk => by cases hk), by omega, abd⟩
  · obtain ⟨_, bit, dd, eb⟩ := boxesN_mem hb
    have bs := boxT_small ok few gl b
    refine ⟨bs.1, bs.2, by rw [List.length_reverse, List.length_cons]; omega, fun k hk => ?_, by omega, abd⟩
    have : k < gs.length := by
      rcases List.mem_cons.mp (List.mem_reverse.mp hk) with rfl | hk
      · exact (List.getElem?_eq_some_iff.mp eb).1
      · exact chain_lt hch k hk
    omega
theorem allE_toR {E : Addr → Prop} {d c : Addr} {H : Hp} {xs : List Ob} {vs : List V} (h : AllE E H xs vs) (hd : E d) (hc : E c) : AllO d c H xs vs := ⟨h.1, fun i x v e1 e2 => (h.2 i x v e1 e2).toR hd hc⟩
section
variable {P : Program} {w : World} {K : PySem.W.Frag} {mg : Str → Option Value} {base : Heap} {cF cD : Addr}
theorem ok_law {f : Addr} {fd : FuncData} (D : DefAt K mg "law" ["_law_script"] s_law f fd) (M : Bi mg)
    (C_l_deck : Cal P w K mg base L2.CX0 1 "_law_deck" ["_law_script"] (spDeck K))
    (C_l_draw : Cal P w K mg base L2.CX0 1 "_law_draw" ["_law_deck_here", "_law_sides"] spDraw)
    (C_l_net : Cal P w K mg base L2.CX0 3 "_law_net" ["_law_deck_here"] spNet)
    (C_l_row_net : Cal P w K mg base L2.CX0 3 "_law_row_net" ["_law_deck_here"] spNet)
    (C_l_laying : Cal P w K mg base L2.CX0 3 "_law_laying" ["_law_deck_here", "_law_net_here"] spLay)
    (C_l_delays : Cal P w K mg base L2.CX0 2 "_law_delays" ["_law_deck_here"] (spDel K))
    (C_l_spoilt : Cal P w K mg base L2.CX0 (2 * 5 + 3) "_law_spoilt" ["_law_deck_here", "_law_thing", "_law_other"] (spSpo 5))
    (C_l_due : Cal P w K mg base L2.CX0 4 "_law_due" ["_law_net_here", "_law_laying_here", "_law_own", "_law_clock", "_law_thing"] (spLDue K))
    (B_P : CalB P w K mg base L2.CX0 4 "slowest" pSl (spSlow K) 3 ["delays"] gvP)
    (B_H : CalB P w K mg base L2.CX0 4 "slowest_holds" pSh (spHold K) 4 ["delays"] gvP) :
    FnG P w K mg base L2.CX0 60 f fd ["_law_script"] (spLaw K) := by
  have S := S_law
  refine fng_of D.fn S (fun vs H Q E h => ?_) (fun cdv A outer s H vs Q E hq hr h => ?_)
  · obtain ⟨a, ns, rfl, _⟩ := h
    rfl
  · obtain ⟨a, ns, rfl, hs, hl, hb, q⟩ := h
    refine ⟨_, (pss_cons (ps_set (i := 1) S.nd rfl (.inr rfl) (pe_c C_l_deck pass0 hq hr (by omega) (by rfl) (pa_cons (pv 0) pa_nil)))
 (pss_cons (ps_for PassesOwn.never rfl (pi_range1 (by rfl) M.range_ (pa_cons pe_int pa_nil)) (pg_name (i := 2) S.nd rfl (.inl rfl))
  (pss_cons (ps_setLc (i := 3) (own := [("_law_k", 4)]) (g := gName 4) (tt := tYes) rfl S.nd rfl rfl (sw_true rfl rfl rfl (by decide +kernel)) (pi_range1 (by rfl) M.range_ (pa_cons pe_int pa_nil)) (blkOk_by (own := [("_law_k", 4)]) (N := N_law) (sc := defScope s_law) (by decide +kernel)) (fun _ _ _ _ _ => pg_name (i := 4) S.nd rfl (.inl rfl)) (fun _ _ _ _ _ => pts_nil) (fun _ _ _ _ _ => (pe_cmpR op_eq (pe_c C_l_draw pass0 hq hr (by omega) (by rfl) (pa_cons (pv 1) (pa_cons pe_int pa_nil))) pe_int (nomark _))))
 (pss_cons (ps_set (i := 5) S.nd rfl (.inr rfl) (pe_ifExp (pt_cmpR op_eq (pv 2) pe_int (nomark _)) (pe_c C_l_net pass0 hq hr (by omega) (by rfl) (pa_cons (pv 1) pa_nil)) (pe_c C_l_row_net pass0 hq hr (by omega) (by rfl) (pa_cons (pv 1) pa_nil))))
 (pss_cons (ps_asg (pe_tup (pa_cons (pe_c C_l_laying pass0 hq hr (by omega) (by rfl) (pa_cons (pv 1) (pa_cons (pv 5) pa_nil))) (pa_cons (pe_c C_l_laying pass0 hq hr (by omega) (by rfl) (pa_cons (pv 1) (pa_cons (pv 5) pa_nil))) pa_nil))) (pg_tup (by rfl) (pgs_cons (pg_name (i := 6) S.nd rfl (.inr rfl)) (pgs_cons (pg_name (i := 7) S.nd rfl (.inl rfl)) pgs_nil))))
 (pss_cons (ps_asg (pe_tup (pa_cons (pe_c C_l_delays pass0 hq hr (by omega) (by rfl) (pa_cons (pv 1) pa_nil)) (pa_cons (pe_c C_l_delays pass0 hq hr (by omega) (by rfl) (pa_cons (pv 1) pa_nil)) pa_nil))) (pg_tup (by rfl) (pgs_cons (pg_name (i := 8) S.nd rfl (.inr rfl)) (pgs_cons (pg_name (i := 9) S.nd rfl (.inl rfl)) pgs_nil))))
 (pss_cons (ps_setLc (i := 10) (own := [("_law_clock", 11)]) (g := gName 11) (tt := tYes) rfl S.nd rfl rfl (sw_true rfl rfl rfl (by decide +kernel)) (pi_tup (pe_tup (pa_cons pe_str (pa_cons pe_str pa_nil)))) (blkOk_by (own := [("_law_clock", 11)]) (N := N_law) (sc := defScope s_law) (by decide +kernel)) (fun _ _ _ _ _ => pg_name (i := 11) S.nd rfl (.inl rfl)) (fun _ _ _ _ _ => pts_nil) (fun _ _ _ _ _ => (pe_cB B_P pass0 hq hr (by omega) (by rfl) (pa_cons (pv 5) (pa_cons (pv 6) (pa_cons (pv 11) pa_nil))) (pk_cons (pv 8) pk_nil))))
 (pss_one (ps_for PassesOwn.never rfl (X19.pi_zip3 (k1 := .S) (k2 := .L) (k3 := .L) (by rfl) M.zip_ (pa_cons pe_str (pa_cons (pv 10) (pa_cons (pe_revL (pv 10)) pa_nil)))) (pg_tup (by rfl) (pgs_cons (pg_name (i := 11) S.nd rfl (.inl rfl)) (pgs_cons (pg_name (i := 12) S.nd rfl (.inl rfl)) (pgs_cons (pg_name (i := 13) S.nd rfl (.inl rfl)) pgs_nil))))
  (pss_cons (ps_set (i := 14) S.nd rfl (.inl rfl) (pe_lst (pa_cons (pv 12) (pa_cons (pv 13) (pa_cons pe_non (pa_cons (pe_tup pa_nil) (pa_cons (X15.pe_lstN pa_nil) (pa_cons (pe_slice X9.sl_tupA (pv 12) po_none (po_some pe_int)) (pa_cons (pe_callTy X15.call_list_ofN (by rfl) M.list_ (by decide +kernel) (pa_cons (pv 12) pa_nil)) (pa_cons pe_str (pa_cons pe_int pa_nil)))))))))))
 (pss_cons (ps_for PassesOwn.never rfl (pi_list (pv 3)) (pg_name (i := 15) S.nd rfl (.inl rfl))
  (pss_cons (ps_set (i := 16) S.nd rfl (.inl rfl) (pe_c C_l_spoilt pass0 hq hr (by omega) (by rfl) (pa_cons (pv 1) (pa_cons (pv 12) (pa_cons (pv 13) pa_nil)))))
 (pss_one (ps_expr (pe_bm PySem.F.plainAttrs_list PySem.F.slot_list_append PySem.F.type_list_append mt_append (pv 14) (pa_cons (pe_ifExp (pt_val (pv 15)) (pe_c C_l_spoilt pass0 hq hr (by omega) (by rfl) (pa_cons (pv 1) (pa_cons (pv 16) (pa_cons (pv 13) pa_nil)))) (pv 16)) pa_nil))))))
 (pss_one (ps_for PassesOwn.never rfl (pi_list (pe_op op_cat (pv 14) (pe_lst (pa_cons (pv 12) pa_nil)))) (pg_name (i := 17) S.nd rfl (.inl rfl))
  (pss_cons (ps_set (i := 18) S.nd rfl (.inl rfl) (pe_callB (X15.call_reprO hq (room200 hr)) (by rfl) M.repr_ (by decide +kernel) (pa_cons (pv 17) pa_nil)))
 (pss_one (ps_for PassesOwn.never rfl (pi_list (pe_lst (pa_cons (pe_tup (pa_cons (pv 6) (pa_cons (pv 8) pa_nil))) (pa_cons (pe_tup (pa_cons (pv 7) (pa_cons (pv 8) pa_nil))) (pa_cons (pe_tup (pa_cons (pv 6) (pa_cons (pv 9) pa_nil))) pa_nil))))) (pg_tup (by rfl) (pgs_cons (pg_name (i := 19) S.nd rfl (.inl rfl)) (pgs_cons (pg_name (i := 20) S.nd rfl (.inl rfl)) pgs_nil)))
  (pss_cons (ps_set (i := 21) S.nd rfl (.inl rfl) (pe_c C_l_due pass0 hq hr (by omega) (by rfl) (pa_cons (pv 5) (pa_cons (pv 19) (pa_cons (pv 20) (pa_cons (pv 11) (pa_cons (pv 17) pa_nil)))))))
 (pss_cons (ps_set (i := 22) S.nd rfl (.inl rfl) (pe_cB B_H pass0 hq hr (by omega) (by rfl) (pa_cons (pv 5) (pa_cons (pv 19) (pa_cons (pv 11) (pa_cons (pv 17) pa_nil)))) (pk_cons (pv 20) pk_nil)))
 (pss_one (ps_if (PW.pt (pw_or (pt_cmpR op_ne (pe_callB (X15.call_reprO hq (room200 hr)) (by rfl) M.repr_ (by decide +kernel) (pa_cons (pv 22) pa_nil)) (pe_callB (X15.call_reprO hq (room200 hr)) (by rfl) M.repr_ (by decide +kernel) (pa_cons (pv 21) pa_nil)) (nomark _)) (pw_or1 (pt_cmpR op_ne (pe_callB (X15.call_reprO hq (room200 hr)) (by rfl) M.repr_ (by decide +kernel) (pa_cons (pv 17) pa_nil)) (pv 18) (nomark _)))))
  (pss_one (ps_ret pe_bl))
  pss_nil)))))))))))))))))))
 (pss_one (ps_ret pe_bl)))), ?_⟩
    refine ⟨.ref a, rfl, a, ns, rfl, hs, hl, hb, fun d c H1 s1 nd nc dk => ?_⟩
    have big : 1000000 < sizeLine := by decide
    refine ⟨2, rfl, by decide, by decide, for_range (lo := 0) (n := 2) (fun i σ G => ∃ (t : Nat) (x2 x3 x4 x5 x6 x7 x8 x9 x10 x11 x12 x13 x14 x15 x16 x17 x18 x19 x20 x21 x22 : Option V),
      σ = [some (.ref a), some (.ref d), x2, x3, x4, x5, x6, x7, x8, x9, x10, x11, x12, x13, x14, x15, x16, x17, x18, x19, x20, x21, x22] ∧ Deck G d c t ∧ t ≤ 30000 * i) ?_ ?_ ?_⟩
    · exact ⟨0, _, _, _, _, _, _, _, _, _, _, _, _, _, _, _, _, _, _, _, _, _, rfl, dk, Nat.le_refl _⟩
    · rintro i σ G0 hi ⟨t, x2, x3, x4, x5, x6, x7, x8, x9, x10, x11, x12, x13, x14, x15, x16, x17, x18, x19, x20, x21, x22, rfl, dkt, lt⟩
      have hi2 : i < 2 := hi
      refine ⟨20, rfl, by decide, by decide, fun Tw nW => ?_⟩
      obtain ⟨W1, W2⟩ := dkt.free nW
      refine lc_range (lo := 0) (n := 20) (fun j X => ∃ (bs : List Bool) (t' : Nat), But d c G0 X ∧ Deck X d c t' ∧ t' ≤ t + j ∧ X Tw = some (.lst (bs.map V.bl)) ∧ bs.length = j) ?_ ?_ ?_
      · have s2 := same_new (o := .lst []) nW
        exact ⟨[], t, But.of s2, dkt.same s2, Nat.le_refl _, upd_same, rfl⟩
      · rintro j X hj ⟨bs, t', bX, dkX, ltX, eW, lbs⟩
        refine ⟨rfl, ?_⟩
        unfold tYes
        refine iteT ⟨.ref d, rfl, d, c, 3, t', rfl, by decide, by decide, dkX, by omega, fun r X2 r0 r1 b7 dk7 => ?_⟩
        refine ⟨rfl, _, b7 _ _ W1 W2 eW, by rw [List.length_map]; omega, bs ++ [decide (V.int r = V.int 0)], t' + 1, (bX.trans b7).mut nW, dk7.mut W1.symm W2.symm, by omega, ?_, by rw [List.length_append, lbs]; rfl⟩
        rw [upd_same, List.map_append]
        rfl
      rintro G1 ⟨bs, t1, b1, dk1, lt1, eW1, lbs⟩
      refine ⟨.int (0 + (i : Int)), rfl, rfl, _, rfl, ?_⟩
      refine ite_same ⟨.ref d, rfl, d, c, t1, rfl, dk1, by omega, fun v gs t2 G2 b2 dk2 l2 tn2 no gl g2 => ?_⟩
      obtain ⟨N, Ga, gvs, nr, rfl, eN, hg, hG, gal, lg⟩ := net_inv tn2
      refine ⟨.ref d, rfl, .ref N, rfl, d, c, t2, .ref N, gs, rfl, dk2, by omega, tn2, no, gl, fun u cs wl t3 G3 b3 dk3 l3 tl3 ok sm _ => ?_⟩
      obtain ⟨Y, _, _, _, rfl, _, _, _, _⟩ := lay_inv tl3
      have tn3 := tn2.keep (TK.but dk2 b3)
      refine ⟨.ref d, rfl, .ref N, rfl, d, c, t3, .ref N, gs, rfl, dk3, by omega, tn3, no, gl, fun u cs2 wl2 t4 G4 b4 dk4 l4 tz4 ok2 sm2 _ => ?_⟩
      obtain ⟨Z, _, _, _, rfl, _, _, _, _⟩ := lay_inv tz4
      have k34 := TK.but dk3 b4
      have tn4 := tn3.keep k34
      have tl4 := tl3.keep k34
      refine ⟨(by decide : (2 : Nat) ≤ sizeLine), fun q1 nq1 => ?_⟩
      generalize hQ1 : upd _ q1 _ = Q1
      have sq1 : Same G4 Q1 := hQ1 ▸ same_new nq1
      have eq1 : Q1 q1 = some _ := hQ1 ▸ upd_same
      have dkq1 := dk4.same sq1
      refine ⟨q1, _, rfl, .inl (.inl eq1), rfl, _, _, rfl, _, _, rfl, rfl, ?_⟩
      refine ⟨.ref d, rfl, d, c, t4, rfl, dkq1, by omega, fun oa own t5 G5 b5 dk5 l5 eo5 few => ?_⟩
      refine ⟨.ref d, rfl, d, c, t5, rfl, dk5, by omega, fun fa far t6 G6 b6 dk6 l6 ef6 few2 => ?_⟩
      refine ⟨(by decide : (2 : Nat) ≤ sizeLine), fun q2 nq2 => ?_⟩
      generalize hQ2 : upd _ q2 _ = Q2
      have sq2 : Same G6 Q2 := hQ2 ▸ same_new nq2
      have eq2 : Q2 q2 = some _ := hQ2 ▸ upd_same
      have dkq2 := dk6.same sq2
      refine ⟨q2, _, rfl, .inl (.inl eq2), rfl, _, _, rfl, _, _, rfl, rfl, ?_⟩
      have k46 := ((TK.same sq1).trans (TK.but dkq1 b5)).trans ((TK.but dk5 b6).trans (TK.same sq2))
      have tnQ := tn4.keep k46
      have tlQ := tl4.keep k46
      have tzQ := tz4.keep k46
      have eoQ := sq2 _ _ (TK.but dk5 b6 _ _ eo5)
      have efQ := sq2 _ _ ef6
      have ewQ : Q2 Tw = some (.lst (bs.map V.bl)) := sq2 _ _ (b6 _ _ W1 W2 (b5 _ _ W1 W2 (sq1 _ _ (b4 _ _ W1 W2 (b3 _ _ W1 W2 (b2 _ _ W1 W2 eW1))))))
      have odk : own.ok := ⟨few.1.1, Int.le_trans few.1.2 (by decide)⟩
      have fdk : far.ok := ⟨few2.1.1, Int.le_trans few2.1.2 (by decide)⟩
      have gl1 : gs.length ≤ 1000 := Nat.le_trans gl (by decide)
      have gsm : ∀ g ∈ gs, g.sm := sm.g
      refine ⟨(by decide : (2 : Nat) ≤ sizeLine), fun KM nKM => ?_⟩
      generalize hQ3 : upd _ KM _ = Q3
      have sq3 : Same Q2 Q3 := hQ3 ▸ same_new nKM
      have eq3 : Q3 KM = some (.tup [.str "k", .str "m"]) := hQ3 ▸ upd_same
      have dkq3 := dkq2.same sq3
      refine ⟨KM, rfl, ⟨_, .inl (.inl eq3)⟩, fun Gl nG => ?_⟩
      obtain ⟨Gl1, Gl2⟩ := dkq3.free nG
      refine lc_tup (K := K) (a := KM) (xs := [.str "k", .str "m"]) (fun j X => ∃ vs : List V, Same Q3 X ∧ X Gl = some (.lst vs) ∧ vs.length = j ∧ Paps X vs) ?_ ?_ ?_ ?_
      · exact ⟨[], same_new nG, upd_same, rfl, fun r hr => by cases hr⟩
      · rintro j X _ ⟨vs, sX, _⟩
        exact .inl (.inl (sX _ _ eq3))
      · rintro j v X hv ⟨vs, sX, eX, lvs, pp⟩
        obtain ⟨z, rfl⟩ : ∃ z : Str, v = .str z := by
          match j, hv with
          | 0, hv =>
            cases hv
            exact ⟨_, rfl⟩
          | 1, hv =>
            cases hv
            exact ⟨_, rfl⟩
        have hj : j < 2 := (List.getElem?_eq_some_iff.mp hv).1
        refine ⟨rfl, ?_⟩
        unfold tYes
        have s3X := sq3.trans sX
        refine iteT ⟨.ref N, rfl, .ref Y, rfl, .str z, rfl, .ref oa, rfl, rfl, rfl, N, Y, oa, z, gs, cs, wl, own, rfl, tnQ.same s3X, tlQ.same s3X, .inl (.inl (s3X _ _ eoQ)), ok, odk, gl1, fun R lp la T l X2 s2 eR elp ela so => ?_⟩
        have eX2 := s2 _ _ eX
        have kf := TK.lst (o := .lst (vs ++ [V.ref R])) (TK.same (Same.refl X2)) eX2
        refine ⟨vs, eX2, by rw [lvs]; omega, vs ++ [.ref R], same_mut (sX.trans s2) nG, upd_same, by rw [List.length_append, lvs]; rfl, fun r hr => ?_⟩
        rcases List.mem_append.mp hr with hr | hr
        · exact (pp.kt (TK.same s2)).kt kf r hr
        · rw [List.mem_singleton.mp hr]
          exact ⟨R, T, l, _, rfl, (Pap.mk ⟨lp, la, eR, elp, ela⟩).kt kf, slw_papS ok few gl so⟩
      rintro X3 ⟨rs, sX3, eG3, lrs, pp⟩
      refine ⟨.ref Gl, rfl, .ref Gl, rfl, Gl, _, rfl, .inl (.inl eG3), fun G' nG' => ?_⟩
      generalize hX4 : upd _ G' _ = X4
      have sx4 : Same X3 X4 := hX4 ▸ same_new nG'
      have eG' : X4 G' = some (.lst rs.reverse) := hX4 ▸ upd_same
      have dkx3 := dkq3.same sX3
      have s34 := (sq3.trans sX3).trans sx4
      have fG' := dkx3.free nG'
      have cx0 : Ctx X4 N Y Z oa fa Tw Gl G' d c gs cs cs2 wl wl2 own far bs rs t6 := ⟨tnQ.same s34, tlQ.same s34, tzQ.same s34, s34 _ _ eoQ, s34 _ _ efQ, s34 _ _ ewQ, sx4 _ _ eG3, eG', pp.kt (TK.same sx4), ⟨W1, W2⟩, ⟨Gl1, Gl2⟩, fG', dkx3.same sx4⟩
      have lrs2 : rs.length = 2 := lrs
      refine ⟨_, _, _, _, _, _, rfl, ⟨_, rfl, rfl⟩, ⟨Gl, rfl, .inl (.inl cx0.eg)⟩, ⟨G', rfl, .inl (.inl cx0.eh)⟩, for_it (X19.walk_zip3 (K := K) (k1 := .S) (k2 := .L) (k3 := .L) (a := .str "km") (b := .ref Gl) (c := .ref G') (xs := sgV "km") (ys := rs) (zs := rs.reverse) (n := 2) (by decide +kernel) lrs2.symm (by rw [List.length_reverse, lrs2]))
        (fun j σ X => ∃ (tt : Nat) (x11 x12 x13 x14 x15 x16 x17 x18 x19 x20 x21 x22 : Option V),
        σ = [some (.ref a), some (.ref d), some (.int (0 + (i : Int))), some (.ref Tw), x4, some (.ref N), some (.ref Y), some (.ref Z), some (.ref oa), some (.ref fa), some (.ref Gl), x11, x12, x13, x14, x15, x16, x17, x18, x19, x20, x21, x22] ∧ Ctx X N Y Z oa fa Tw Gl G' d c gs cs cs2 wl wl2 own far bs rs tt ∧ tt ≤ t6 + 1000 * j) ?_ ?_ ?_ ?_⟩
      · exact ⟨t6, _, _, _, _, _, _, _, _, _, _, _, _, rfl, cx0, by omega⟩
      · rintro j σ X _ ⟨tt, x11, x12, x13, x14, x15, x16, x17, x18, x19, x20, x21, x22, _, cx, _⟩
        exact ⟨⟨_, rfl, rfl⟩, ⟨Gl, rfl, .inl (.inl cx.eg)⟩, ⟨G', rfl, .inl (.inl cx.eh)⟩⟩
      · rintro j x σ X0 X hj ⟨tt, x11, x12, x13, x14, x15, x16, x17, x18, x19, x20, x21, x22, rfl, cx, ltt⟩ ⟨TT, u1, u2, u3, rfl, nTT, rfl, f1, f2, f3⟩
        have hj2 : j < 2 := hj
        obtain ⟨z, rfl, okz⟩ := km_at f1
        obtain ⟨R, T1, l1, L1, rfl, pR, pS⟩ := cx.pp u2 (List.mem_of_getElem? f2)
        obtain ⟨R2, T2, l2, L2, rfl, pR2, pS2⟩ := cx.pp u3 (List.mem_reverse.mp (List.mem_of_getElem? f3))
        generalize hXa : upd _ TT _ = Xa
        have sa : Same X0 Xa := hXa ▸ same_new nTT
        have ea : Xa TT = some _ := hXa ▸ upd_same
        have cxa := cx.same sa
        have pRa := pR.kt (TK.same sa)
        have pR2a := pR2.kt (TK.same sa)
        refine ⟨TT, _, rfl, .inl (.inl ea), rfl, _, _, rfl, _, _, rfl, _, _, rfl, rfl, ?_⟩
        -- things
        refine ⟨.ref R, rfl, .ref R2, rfl, Nat.zero_le _, fun e1 ne1 => ?_⟩
        generalize hXb : upd _ e1 _ = Xb
        have sb : Same Xa Xb := hXb ▸ same_new ne1
        have eb : Xb e1 = some (.tup []) := hXb ▸ upd_same
        refine ⟨Nat.zero_le _, fun e2 ne2 ns2 => ?_⟩
        generalize hXc : upd _ e2 _ = Xc
        have sc : Same Xb Xc := hXc ▸ same_new ne2
        have ec : Xc e2 = some (.lst []) := hXc ▸ upd_same
        have sac := sb.trans sc
        obtain ⟨lp, la, eR, elp, ela⟩ := pRa.ex
        refine ⟨.ref R, rfl, _, rfl, sl_toI (k := 2) rfl (sac _ _ eR) rfl fun p3 Xd sd ed => ?_⟩
        have sad := sac.trans sd
        refine ⟨.ref R, rfl, R, _, rfl, .inl (.inl (sad _ _ eR)), fun p4 np4 nsp4 => ?_⟩
        generalize hXe : upd _ p4 _ = Xe
        have se : Same Xd Xe := hXe ▸ same_new np4
        have ee : Xe p4 = some (.lst [.int T1, .ref lp, .ref la]) := hXe ▸ upd_same
        refine ⟨(by decide : (9 : Nat) ≤ sizeLine), fun Th nTh => ?_⟩
        generalize hXf : upd _ Th _ = Xf
        have sf : Same Xe Xf := hXf ▸ same_new nTh
        have ef : Xf Th = some (.lst [.ref R, .ref R2, .non, .ref e1, .ref e2, .ref p3, .ref p4, .str "", .int 0]) := hXf ▸ upd_same
        have saf := (sad.trans se).trans sf
        have cxf := cxa.same saf
        have dke := cxa.dk.same (sad.trans se)
        obtain ⟨Th1, Th2⟩ := dke.free nTh
        have nThO : ∀ {x : Addr} {o : HO}, Xe x = some o → x ≠ Th := fun h z => by
          rw [z, nTh] at h
          cases h
        obtain ⟨EE, hEE⟩ : ∃ EE : Addr → Prop, EE = fun x => Xa x ≠ none ∨ x = Th := ⟨_, rfl⟩
        have exf : ExE EE Xf := fun x e q => by
          rw [hEE] at e
          rcases e with e | rfl
          · exact e (same_none saf q)
          · rw [ef] at q
            cases q
        have Ed : EE d := by
          rw [hEE]
          exact .inl cxa.dk.here.1
        have Ec : EE c := by
          rw [hEE]
          exact .inl cxa.dk.here.2
        have ETh : EE Th := by
          rw [hEE]
          exact .inr rfl
        have nE : ∀ {x : Addr} {o : HO}, Xa x = none → Xe x = some o → ¬ EE x := fun h1 h2 e => by
          rw [hEE] at e
          rcases e with e | e
          · exact e h1
          · exact nThO h2 e
        obtain ⟨B, hB0, hB1, hB2, hB3, hB4⟩ : ∃ B : Int, 9999999 ≤ B ∧ (10 : Int) ^ 39 ≤ B ∧ B + 1000 < 10 ^ 41 ∧ B + 1000 + 1000 < 10 ^ 41 ∧ B + 2000 < 10 ^ 41 := ⟨10 ^ 39, by decide, by decide, by decide, by decide, by decide⟩
        have thgI : ∀ {m n : Nat} {o : Ob}, m ≤ 43 → n ≤ 9 → wt o ≤ 300000 → In B m n o → Thg B o := fun h1 h2 h3 h4 => ⟨(h4.up h2).mono (by omega) h1, h3⟩
        have w42 := pS.wt
        have w42b := pS2.wt
        have w3 := pS.wt3
        have pRf := pRa.kt (TK.same saf)
        have pR2f := pR2a.kt (TK.same saf)
        have sdf := se.trans sf
        have scf := sd.trans sdf
        have aob : AllE EE Xf [papO T1 l1 L1, papO T2 l2 L2, .non, .tup [], .lst [], .tup ([.int T1, natsO l1, intsO L1].take 2), .lst [.int T1, natsO l1, intsO L1], .str "", .int 0]
            [.ref R, .ref R2, .non, .ref e1, .ref e2, .ref p3, .ref p4, .str "", .int 0] := by
          have al3 : AllE EE Xf [.int T1, natsO l1, intsO L1] [.int T1, .ref lp, .ref la] := .cons (.int T1) (.cons (nats_ob (saf _ _ elp)) (.cons (ints_ob (saf _ _ ela)) .nil))
          exact .cons pRf.ob (.cons pR2f.ob (.cons .non (.cons (.mk (sc.trans scf _ _ eb) .nil) (.cons (.mkL (nE (same_none sb ne2) ((sd.trans se) _ _ ec)) ns2 (scf _ _ ec) .nil) (.cons (.mk (sdf _ _ ed) (al3.take 2)) (.cons (.mkL (nE (same_none sad np4) ee) nsp4 (sf _ _ ee) al3) (.cons (.str "") (.cons (.int 0) .nil))))))))
        have in3 := pS.in3 hB0
        have athg : ∀ o ∈ ([papO T1 l1 L1, papO T2 l2 L2, .non, .tup [], .lst [], .tup ([.int T1, natsO l1, intsO L1].take 2), .lst [.int T1, natsO l1, intsO L1], .str "", .int 0] : List Ob), Thg B o := fun o ho => by
          rcases List.mem_cons.mp ho with rfl | ho
          · exact thgI (by decide) (by decide) (by omega) (pS.inn hB0)
          rcases List.mem_cons.mp ho with rfl | ho
          · exact thgI (by decide) (by decide) (by omega) (pS2.inn hB0)
          rcases List.mem_cons.mp ho with rfl | ho
          · exact thgI (m := 41) (n := 0) (by decide) (by decide) (by rw [wt]; omega) True.intro
          rcases List.mem_cons.mp ho with rfl | ho
          · exact thgI (m := 41) (n := 1) (by decide) (by decide) (by rw [wt_tup, wtL]; omega) (.tup (Nat.zero_le _) fun x hx => by cases hx)
          rcases List.mem_cons.mp ho with rfl | ho
          · exact thgI (m := 41) (n := 1) (by decide) (by decide) (by rw [wt, wtL]; omega) (.lst (Nat.zero_le _) fun x hx => by cases hx)
          rcases List.mem_cons.mp ho with rfl | ho
          · refine thgI (m := 41) (n := 2) (by decide) (by decide) ?_ (.tup (by show 2 ≤ 41; decide) fun x hx => in3 x (List.mem_of_mem_take hx))
            rw [wt_tup]
            have := wtL_take [.int T1, natsO l1, intsO L1] 2
            omega
          rcases List.mem_cons.mp ho with rfl | ho
          · refine thgI (m := 41) (n := 2) (by decide) (by decide) ?_ (.lst (by show 3 ≤ 41; decide) in3)
            rw [wt]
            omega
          rcases List.mem_cons.mp ho with rfl | ho
          · exact thgI (m := 41) (n := 0) (by decide) (by decide) (by rw [wt]; omega) ⟨by decide +kernel, by decide +kernel⟩
          · rw [List.mem_singleton.mp ho]
            exact thgI (m := 41) (n := 0) (by decide) (by decide) (by rw [wt]; omega) ⟨by omega, by omega⟩
        have l9 : ([papO T1 l1 L1, papO T2 l2 L2, .non, .tup [], .lst [], .tup ([.int T1, natsO l1, intsO L1].take 2), .lst [.int T1, natsO l1, intsO L1], .str "", .int 0] : List Ob).length = 9 := rfl
        generalize ([papO T1 l1 L1, papO T2 l2 L2, .non, .tup [], .lst [], .tup ([.int T1, natsO l1, intsO L1].take 2), .lst [.int T1, natsO l1, intsO L1], .str "", .int 0] : List Ob) = os0 at *
        generalize ([V.ref R, .ref R2, .non, .ref e1, .ref e2, .ref p3, .ref p4, .str "", .int 0]) = vs0 at *
        have nTw : Tw ≠ Th := nThO ((cxa.same (sad.trans se)).ew)
        have nGl : Gl ≠ Th := nThO ((cxa.same (sad.trans se)).eg)
        have nG'T : G' ≠ Th := nThO ((cxa.same (sad.trans se)).eh)
        refine ⟨.ref Tw, rfl, Tw, rfl, ⟨_, .inl (.inl cxf.ew)⟩, for_it (walk_list (K := K) (a := Tw) (xs := bs.map V.bl)) (fun k σ W => ∃ (vs : List V) (os : List Ob) (t' : Nat) (x15 x16 : Option V),
          σ = [some (.ref a), some (.ref d), some (.int (0 + (i : Int))), some (.ref Tw), x4, some (.ref N), some (.ref Y), some (.ref Z), some (.ref oa), some (.ref fa), some (.ref Gl), some (.str z), some (.ref R), some (.ref R2), some (.ref Th), x15, x16, x17, x18, x19, x20, x21, x22] ∧
          Ctx W N Y Z oa fa Tw Gl G' d c gs cs cs2 wl wl2 own far bs rs t' ∧ t' ≤ tt + 40 * k ∧ TK Xf W ∧ ExE EE W ∧ W Th = some (.lst vs) ∧ AllE EE W os vs ∧ os.length = 9 + k ∧ ∀ o ∈ os, Thg B o) ?_ ?_ ?_ ?_⟩
        · exact ⟨vs0, os0, tt, _, _, rfl, cxf, by omega, TK.same (Same.refl _), exf, ef, aob, l9, athg⟩
        · rintro k σ W _ ⟨vs, os, t', y15, y16, _, cw, _⟩
          exact .inl (.inl cw.ew)
        · rintro k xb σ W W2 hk ⟨vs, os, t', y15, y16, rfl, cw, ltw, tkw, exw, eTh, al, los, hos⟩ ⟨rfl, exb⟩
          have hk20 : k < 20 := by
            have hk : k < (bs.map V.bl).length := hk
            rw [List.length_map, lbs] at hk
            exact hk
          obtain ⟨b, rfl⟩ : ∃ b : Bool, xb = .bl b := by
            rw [List.getElem?_map] at exb
            cases q : bs[k]? with
            | none =>
              rw [q] at exb
              cases exb
            | some b =>
              rw [q] at exb
              exact ⟨b, (Option.some.inj exb).symm⟩
          have pRw := pRf.kt tkw
          have pR2w := pR2f.kt tkw
          refine ⟨.ref d, rfl, .ref R, rfl, .ref R2, rfl, EE, d, c, papO T1 l1 L1, papO T2 l2 L2, .ref R, .ref R2, t', B, 41, 2, 2, rfl, exw, Ed, Ec, cw.dk, by omega, pRw.ob, pR2w.ob, by decide, pS.inn hB0, pS2.inn hB0, hB1, hB2, by decide, by decide, by omega, fun v1 o1 t1 W3 bw dkw lw ho1 in1 wt1 => ?_⟩
          have cw3 := cw.but bw dkw
          have ke3 := KE.but cw.dk bw Ed Ec
          have eTh3 := bw _ _ Th1 Th2 eTh
          have ex3 := exw.but bw dkw
          have al3 := al.keep ke3
          have tk3 := tkw.trans (TK.but cw.dk bw)
          refine ⟨.ref Th, rfl, .inl ⟨rfl, _, .inl (.inl eTh3)⟩, .bl b, rfl, b, rfl, ?_⟩
          have lv : vs.length = 9 + k := by rw [← al.1, los]
          have wt1' : wt o1 ≤ 127000 := by omega
          have fin : ∀ (v2 : V) (o2 : Ob) (t2 : Nat) (W4 : Hp), But d c W3 W4 → Deck W4 d c t2 → t2 ≤ t1 + 14 → ObE EE W4 o2 v2 → In (B + 2000) 43 8 o2 → wt o2 ≤ 297000 →
              ∃ (ws : List V) (os : List Ob) (t' : Nat), Ctx (upd W4 Th (.lst (vs ++ [v2]))) N Y Z oa fa Tw Gl G' d c gs cs cs2 wl wl2 own far bs rs t' ∧ t' ≤ tt + 40 * (k + 1) ∧ TK Xf (upd W4 Th (.lst (vs ++ [v2]))) ∧ ExE EE (upd W4 Th (.lst (vs ++ [v2]))) ∧ (upd W4 Th (.lst (vs ++ [v2]))) Th = some (.lst ws) ∧ AllE EE (upd W4 Th (.lst (vs ++ [v2]))) os ws ∧ os.length = 9 + (k + 1) ∧ ∀ o ∈ os, Thg B o := by
            intro v2 o2 t2 W4 bx dkx lx ho2 in2 wt2
            have cw4 := cw3.but bx dkx
            have ke4 := KE.but cw3.dk bx Ed Ec
            have eTh4 := bx _ _ Th1 Th2 eTh3
            have ex4 := ex3.but bx dkx
            have tk4 := tk3.trans (TK.but cw3.dk bx)
            have tku : TK W4 (upd W4 Th (.lst (vs ++ [v2]))) := TK.lst (TK.same (Same.refl W4)) eTh4
            have ku : KE EE W4 (upd W4 Th (.lst (vs ++ [v2]))) := ⟨fun p us e => tku p us e, fun p us n e => by
              rw [upd_ne (fun z => n (by rw [z]; exact ETh))]
              exact e, fun p us n e => by
              rw [upd_ne (fun z => n (by rw [z]; exact ETh))]
              exact e⟩
            refine ⟨vs ++ [v2], os ++ [o2], t2, cw4.grow eTh4 nTw nGl nG'T Th1 Th2, by omega, tk4.trans tku, fun x e q => ?_, upd_same, ((al3.keep ke4).append (.cons ho2 .nil)).keep ku, by rw [List.length_append, los]; rfl, fun o ho => ?_⟩
            · by_cases hxs : x = Th
              · rw [hxs, upd_same] at q
                cases q
              · rw [upd_ne hxs] at q
                exact ex4 x e q
            · rcases List.mem_append.mp ho with h | h
              · exact hos o h
              · rw [List.mem_singleton.mp h]
                exact ⟨in2.succ, by omega⟩
          cases b with
          | false =>
            refine iteF ⟨v1, rfl, Th, _, _, rfl, rfl, eTh3, by rw [lv]; omega, ?_⟩
            obtain ⟨ws, os', t', h1, h2, h3, h4, h5, h6, h7, h8⟩ := fin v1 o1 t1 W3 (But.refl d c W3) dkw (by omega) ho1 ((in1.up (by decide)).mono (by omega) (by decide)) (by omega)
            exact ⟨ws, os', t', _, _, rfl, h1, h2, h3, h4, h5, h6, h7, h8⟩
          | true =>
            refine iteT ⟨.ref d, rfl, v1, rfl, .ref R2, rfl, EE, d, c, o1, papO T2 l2 L2, v1, .ref R2, t1, B + 1000, 42, 5, 2, rfl, ex3, Ed, Ec, dkw, by omega, ho1, ((pR2w.kt (TK.but cw.dk bw))).ob, by decide, in1, (pS2.inn hB0).mono (by omega) (by decide), by omega, hB3, by decide, by decide, by omega, fun v2 o2 t2 W4 bx dkx lx ho2 in2 wt2 => ?_⟩
            refine ⟨Th, _, _, rfl, rfl, bx _ _ Th1 Th2 eTh3, by rw [lv]; omega, ?_⟩
            obtain ⟨ws, os', t', h1, h2, h3, h4, h5, h6, h7, h8⟩ := fin v2 o2 t2 W4 bx dkx (by omega) ho2 (in2.mono (by omega) (by decide)) (by omega)
            exact ⟨ws, os', t', _, _, rfl, h1, h2, h3, h4, h5, h6, h7, h8⟩
        · rintro σ W ⟨vs, os, t', y15, y16, rfl, cw, ltw, tkw, exw, eTh, al, los, hos⟩
          have lv : vs.length = 29 := by
            rw [← al.1, los, List.length_map, lbs]
          have pRw := pRf.kt tkw
          refine ⟨.ref Th, rfl, .ref R, rfl, (by decide : (1 : Nat) ≤ sizeLine), fun g1 ng1 => ?_⟩
          generalize hWa : upd _ g1 _ = Wa
          have swa : Same W Wa := hWa ▸ same_new ng1
          have eg1 : Wa g1 = some (.lst [.ref R]) := hWa ▸ upd_same
          refine ⟨Th, g1, _, _, rfl, rfl, swa _ _ eTh, eg1, by show vs.length + 1 ≤ _; rw [lv]; omega, fun It nIt => ?_⟩
          generalize hWb : upd _ It _ = Wb
          have swb : Same Wa Wb := hWb ▸ same_new nIt
          have eIt : Wb It = some (.lst (vs ++ [.ref R])) := hWb ▸ upd_same
          have swab := swa.trans swb
          have cb := cw.same swab
          have hall : AllO d c Wb (os ++ [papO T1 l1 L1]) (vs ++ [.ref R]) := allE_toR ((al.append (.cons pRw.ob .nil)).same swab) Ed Ec
          have hthg : ∀ o ∈ os ++ [papO T1 l1 L1], Thg B o := fun o ho => by
            rcases List.mem_append.mp ho with h | h
            · exact hos o h
            · rw [List.mem_singleton.mp h]
              exact thgI (by decide) (by decide) (by omega) (pS.inn hB0)
          generalize os ++ [papO T1 l1 L1] = allo at *
          generalize vs ++ [V.ref R] = allv at *
          refine ⟨It, rfl, ⟨_, .inl (.inl eIt)⟩, for_it (walk_list (K := K) (a := It) (xs := allv)) (fun k σ W2 => Same Wb W2 ∧ ∃ x17 x18 x19 x20 x21 x22 : Option V,
            σ = [some (.ref a), some (.ref d), some (.int (0 + (i : Int))), some (.ref Tw), x4, some (.ref N), some (.ref Y), some (.ref Z), some (.ref oa), some (.ref fa), some (.ref Gl), some (.str z), some (.ref R), some (.ref R2), some (.ref Th), y15, y16, x17, x18, x19, x20, x21, x22]) ?_ ?_ ?_ ?_⟩
          · exact ⟨Same.refl _, _, _, _, _, _, _, rfl⟩
          · rintro k σ W2 _ ⟨sw, _⟩
            exact .inl (.inl (sw _ _ eIt))
          · rintro k v σ W2 W3 hk ⟨sw, y17, y18, y19, y20, y21, y22, rfl⟩ ⟨rfl, ev⟩
            obtain ⟨o, eo'⟩ : ∃ o, allo[k]? = some o := ⟨allo[k]'(by rw [hall.1]; exact hk), List.getElem?_eq_getElem _⟩
            obtain ⟨inn, wto⟩ := hthg o (List.mem_of_getElem? eo')
            have hob := (hall.2 k o v eo' ev).same sw
            have ro := inn.ro hB4
            have cz := cb.same sw
            have fewp := inn.fewP (by decide)
            have und := inn.und hB4 (by decide)
            have lsz : (od o).shown.length ≤ sizeLine := by
              have := ro.ln
              omega
            have dsz : (od o).depth ≤ 150 := Nat.le_trans ro.dp (by decide)
            obtain ⟨shw, esh⟩ : ∃ shw, (od o).shown = shw := ⟨_, rfl⟩
            refine ⟨v, rfl, d, c, o, v, rfl, hob, ro.sh, dsz, lsz, ?_⟩
            rw [esh]
            refine ⟨.ref Y, rfl, .ref oa, rfl, (by decide : (2 : Nat) ≤ sizeLine), fun h1 nh1 => ?_⟩
            generalize hV1 : upd _ h1 _ = V1
            have sv1 : Same _ V1 := hV1 ▸ same_new nh1
            have eh1 : V1 h1 = some (.tup [.ref Y, .ref oa]) := hV1 ▸ upd_same
            refine ⟨.ref Z, rfl, .ref oa, rfl, (by decide : (2 : Nat) ≤ sizeLine), fun h2 nh2 => ?_⟩
            generalize hV2 : upd _ h2 _ = V2
            have sv2 : Same V1 V2 := hV2 ▸ same_new nh2
            have eh2 : V2 h2 = some (.tup [.ref Z, .ref oa]) := hV2 ▸ upd_same
            refine ⟨.ref Y, rfl, .ref fa, rfl, (by decide : (2 : Nat) ≤ sizeLine), fun h3 nh3 => ?_⟩
            generalize hV3 : upd _ h3 _ = V3
            have sv3 : Same V2 V3 := hV3 ▸ same_new nh3
            have eh3 : V3 h3 = some (.tup [.ref Y, .ref fa]) := hV3 ▸ upd_same
            refine ⟨(by decide : (3 : Nat) ≤ sizeLine), fun h4 nh4 => ?_⟩
            generalize hV4 : upd _ h4 _ = V4
            have sv4 : Same V3 V4 := hV4 ▸ same_new nh4
            have eh4 : V4 h4 = some (.lst [.ref h1, .ref h2, .ref h3]) := hV4 ▸ upd_same
            have sv34 := sv3.trans sv4
            have sv24 := sv2.trans sv34
            have sv14 := sv1.trans sv24
            have cv := cz.same sv14
            have hobv := hob.same sv14
            refine ⟨h4, rfl, ⟨_, .inl (.inl eh4)⟩, for_it (walk_list (K := K) (a := h4) (xs := [.ref h1, .ref h2, .ref h3])) (fun k2 σ U => Same V4 U ∧ ∃ x19 x20 x21 x22 : Option V,
              σ = [some (.ref a), some (.ref d), some (.int (0 + (i : Int))), some (.ref Tw), x4, some (.ref N), some (.ref Y), some (.ref Z), some (.ref oa), some (.ref fa), some (.ref Gl), some (.str z), some (.ref R), some (.ref R2), some (.ref Th), y15, y16, some v, some (.str shw), x19, x20, x21, x22]) ?_ ?_ ?_ ?_⟩
            · exact ⟨Same.refl _, _, _, _, _, rfl⟩
            · rintro k2 σ U _ ⟨su, _⟩
              exact .inl (.inl (su _ _ eh4))
            · rintro k2 xh σ U U2 hk2 ⟨su, z19, z20, z21, z22, rfl⟩ ⟨rfl, exh⟩
              obtain ⟨p, Lh, Ah, csh, wlh, ownh, rfl, ep, tlh, eoh, okh, odh⟩ : ∃ (p Lh Ah : Addr) (csh : List (Int × Int)) (wlh : List (List Way)) (ownh : Own), xh = .ref p ∧ U2 p = some (.tup [.ref Lh, .ref Ah]) ∧ TdR U2 (layT csh wlh) (.ref Lh) ∧ U2 Ah = some (.tup (ownV ownh)) ∧ Okl gs wlh ∧ ownh.ok := by
                match k2, exh with
                | 0, exh =>
                  cases exh
                  exact ⟨h1, Y, oa, cs, wl, own, rfl, su _ _ (sv24 _ _ eh1), cv.tl.same su, su _ _ cv.eo, ok, odk⟩
                | 1, exh =>
                  cases exh
                  exact ⟨h2, Z, oa, cs2, wl2, own, rfl, su _ _ (sv34 _ _ eh2), cv.tz.same su, su _ _ cv.eo, ok2, odk⟩
                | 2, exh =>
                  cases exh
                  exact ⟨h3, Y, fa, cs, wl, far, rfl, su _ _ (sv4 _ _ eh3), cv.tl.same su, su _ _ cv.ef, ok, fdk⟩
                | n + 3, exh => exact absurd exh (by simp)
              have tnu := cv.tn.same su
              have hobu := hobv.same su
              refine ⟨p, _, rfl, .inl (.inl ep), rfl, _, _, rfl, _, _, rfl, rfl, ?_⟩
              refine ⟨.ref N, rfl, .ref Lh, rfl, .ref Ah, rfl, .str z, rfl, v, rfl, d, c, .ref N, .ref Lh, v, Ah, gs, csh, wlh, ownh, z, o, rfl, tnu, tlh, .inl (.inl eoh), hobu, okh, odh, gl1, fewp, okz, gsm, und, fun b1 U3 s3 hb1 => ?_⟩
              refine ⟨.ref N, rfl, .ref Lh, rfl, .str z, rfl, v, rfl, .ref Ah, rfl, rfl, rfl, d, c, N, Lh, Ah, v, z, gs, csh, wlh, ownh, o, rfl, tnu.same s3, tlh.same s3, hobu.same s3, .inl (.inl (s3 _ _ eoh)), okh, odh, gl1, fewp, okz, gsm, fun b2 U4 s4 hb2 => ?_⟩
              have ebb : b2 = b1 := by
                rw [Bool.eq_iff_iff]
                exact hb2.trans hb1.symm
              subst ebb
              have rb := bl_ro b2
              have lb : (od (.bl b2)).shown.length ≤ sizeLine := by
                have := rb.ln
                rw [wt] at this
                omega
              have hbo : ∀ X, ObR d c X (.bl b2) (.bl b2) := fun X => .bl b2
              obtain ⟨shb, esb⟩ : ∃ shb, (od (.bl b2)).shown = shb := ⟨_, rfl⟩
              refine ⟨.bl b2, rfl, d, c, .bl b2, .bl b2, rfl, hbo _, rb.sh, Nat.le_trans rb.dp (by decide), lb, .bl b2, rfl, d, c, .bl b2, .bl b2, rfl, hbo _, rb.sh, Nat.le_trans rb.dp (by decide), lb, ?_⟩
              rw [esb]
              refine ⟨rfl, _, rfl, ?_⟩
              rw [decide_eq_true (show V.str shb = V.str shb from rfl)]
              refine iteF ⟨v, rfl, d, c, o, v, rfl, (hobu.same s3).same s4, ro.sh, dsz, lsz, ?_⟩
              rw [esh]
              refine ⟨.str shw, rfl, rfl, _, rfl, ?_⟩
              rw [decide_eq_true (show V.str shw = V.str shw from rfl)]
              exact iteF ⟨(su.trans s3).trans s4, _, _, _, _, rfl⟩
            · rintro σ U ⟨su, z19, z20, z21, z22, rfl⟩
              exact ⟨(sw.trans sv14).trans su, _, _, _, _, _, _, rfl⟩
          · rintro σ W2 ⟨sw, y17, y18, y19, y20, y21, y22, rfl⟩
            have lb20 : (bs.map V.bl).length = 20 := by rw [List.length_map, lbs]
            rw [lb20] at ltw
            exact ⟨t', _, _, _, _, _, _, _, _, _, _, _, _, rfl, cb.same sw, by omega⟩
      · rintro σ X ⟨tt, y11, y12, y13, y14, y15, y16, y17, y18, y19, y20, y21, y22, rfl, cx, ltt⟩
        have h2 : 1000 * 2 = 2000 := rfl
        exact ⟨tt, _, _, _, _, _, _, _, _, _, _, _, _, _, _, _, _, _, _, _, _, _, rfl, cx.dk, by omega⟩
    · rintro σ G ⟨t, x2, x3, x4, x5, x6, x7, x8, x9, x10, x11, x12, x13, x14, x15, x16, x17, x18, x19, x20, x21, x22, rfl, dkt, lt⟩
      exact q _
end
end K80

namespace K80
open PySem PySem.Spec PyProof.Rows L2 Kit
theorem vals_few {xs : List V} {its : Array Value} (h : Vals xs its.toList) (hl : xs.length ≤ 1000) : its.size ≤ sizeLine := by
  have e1 := Paired.length h
  have e2 : its.toList.length = its.size := Array.length_toList
  have e3 : (1000 : Nat) ≤ sizeLine := by decide
  omega
theorem all_mk {l : PySem.W.OpenLaw} {w : World} {K : PySem.W.Frag} {h : Heap} {mg : Str → Option Value} {fa : Addr} (X : K.In h) (G : h.Ns mainGlobals mg) (hfa : mg "law" = some (.ref fa))
    {f_feeds_of : Addr} {oc_feeds_of kV_feeds_of dc_feeds_of pm_feeds_of cd_feeds_of ct_feeds_of : Value} {od_feeds_of an_feeds_of : Option Addr} {sl_feeds_of : Array (Option Value)}
    (a_feeds_of : PySem.W.nsIn K mainGlobals "feeds_of" = some (some (.ref f_feeds_of)))
    (l_feeds_of : K.lookup f_feeds_of = some ⟨oc_feeds_of, od_feeds_of, .func (PySem.W.fnOf "feeds_of" "feeds_of" (defArgs s_feeds_of) (defBody s_feeds_of) (defScope s_feeds_of) .none kV_feeds_of dc_feeds_of pm_feeds_of an_feeds_of cd_feeds_of ct_feeds_of), sl_feeds_of⟩)
    (c_feeds_of : PySem.W.codeIn K cd_feeds_of "feeds_of" = true)
    (k_feeds_of : PySem.W.keepIn K (.ref f_feeds_of) = true)
    {f_brought : Addr} {oc_brought kV_brought dc_brought pm_brought cd_brought ct_brought : Value} {od_brought an_brought : Option Addr} {sl_brought : Array (Option Value)}
    (a_brought : PySem.W.nsIn K mainGlobals "brought" = some (some (.ref f_brought)))
    (l_brought : K.lookup f_brought = some ⟨oc_brought, od_brought, .func (PySem.W.fnOf "brought" "brought" (defArgs s_brought) (defBody s_brought) (defScope s_brought) .none kV_brought dc_brought pm_brought an_brought cd_brought ct_brought), sl_brought⟩)
    (c_brought : PySem.W.codeIn K cd_brought "brought" = true)
    (k_brought : PySem.W.keepIn K (.ref f_brought) = true)
    {f_own_delay : Addr} {oc_own_delay kV_own_delay dc_own_delay pm_own_delay cd_own_delay ct_own_delay : Value} {od_own_delay an_own_delay : Option Addr} {sl_own_delay : Array (Option Value)}
    (a_own_delay : PySem.W.nsIn K mainGlobals "own_delay" = some (some (.ref f_own_delay)))
    (l_own_delay : K.lookup f_own_delay = some ⟨oc_own_delay, od_own_delay, .func (PySem.W.fnOf "own_delay" "own_delay" (defArgs s_own_delay) (defBody s_own_delay) (defScope s_own_delay) .none kV_own_delay dc_own_delay pm_own_delay an_own_delay cd_own_delay ct_own_delay), sl_own_delay⟩)
    (c_own_delay : PySem.W.codeIn K cd_own_delay "own_delay" = true)
    (k_own_delay : PySem.W.keepIn K (.ref f_own_delay) = true)
    {f_arrivals_of : Addr} {oc_arrivals_of kV_arrivals_of dc_arrivals_of pm_arrivals_of cd_arrivals_of ct_arrivals_of : Value} {od_arrivals_of an_arrivals_of : Option Addr} {sl_arrivals_of : Array (Option Value)}
    (a_arrivals_of : PySem.W.nsIn K mainGlobals "arrivals_of" = some (some (.ref f_arrivals_of)))
    (l_arrivals_of : K.lookup f_arrivals_of = some ⟨oc_arrivals_of, od_arrivals_of, .func (PySem.W.fnOf "arrivals_of" "arrivals_of" (defArgs s_arrivals_of) (defBody s_arrivals_of) (defScope s_arrivals_of) .none kV_arrivals_of dc_arrivals_of pm_arrivals_of an_arrivals_of cd_arrivals_of ct_arrivals_of), sl_arrivals_of⟩)
    (c_arrivals_of : PySem.W.codeIn K cd_arrivals_of "arrivals_of" = true)
    (k_arrivals_of : PySem.W.keepIn K (.ref f_arrivals_of) = true)
    {f_path_to : Addr} {oc_path_to kV_path_to dc_path_to pm_path_to cd_path_to ct_path_to : Value} {od_path_to an_path_to : Option Addr} {sl_path_to : Array (Option Value)}
    (a_path_to : PySem.W.nsIn K mainGlobals "path_to" = some (some (.ref f_path_to)))
    (l_path_to : K.lookup f_path_to = some ⟨oc_path_to, od_path_to, .func (PySem.W.fnOf "path_to" "path_to" (defArgs s_path_to) (defBody s_path_to) (defScope s_path_to) .none kV_path_to dc_path_to pm_path_to an_path_to cd_path_to ct_path_to), sl_path_to⟩)
    (c_path_to : PySem.W.codeIn K cd_path_to "path_to" = true)
    (k_path_to : PySem.W.keepIn K (.ref f_path_to) = true)
    {f_slowest : Addr} {oc_slowest dc_slowest pm_slowest cd_slowest ct_slowest : Value} {od_slowest an_slowest : Option Addr} {sl_slowest : Array (Option Value)}
    (a_slowest : PySem.W.nsIn K mainGlobals "slowest" = some (some (.ref f_slowest)))
    {kd_slowest : Addr}
    (l_slowest : K.lookup f_slowest = some ⟨oc_slowest, od_slowest, .func (PySem.W.fnOf "slowest" "slowest" (defArgs s_slowest) (defBody s_slowest) (defScope s_slowest) .none (.ref kd_slowest) dc_slowest pm_slowest an_slowest cd_slowest ct_slowest), sl_slowest⟩)
    (c_slowest : PySem.W.codeIn K cd_slowest "slowest" = true)
    (k_slowest : PySem.W.keepIn K (.ref f_slowest) = true)
    {f_is_natural : Addr} {oc_is_natural kV_is_natural dc_is_natural pm_is_natural cd_is_natural ct_is_natural : Value} {od_is_natural an_is_natural : Option Addr} {sl_is_natural : Array (Option Value)}
    (a_is_natural : PySem.W.nsIn K mainGlobals "is_natural" = some (some (.ref f_is_natural)))
    (l_is_natural : K.lookup f_is_natural = some ⟨oc_is_natural, od_is_natural, .func (PySem.W.fnOf "is_natural" "is_natural" (defArgs s_is_natural) (defBody s_is_natural) (defScope s_is_natural) .none kV_is_natural dc_is_natural pm_is_natural an_is_natural cd_is_natural ct_is_natural), sl_is_natural⟩)
    (c_is_natural : PySem.W.codeIn K cd_is_natural "is_natural" = true)
    (k_is_natural : PySem.W.keepIn K (.ref f_is_natural) = true)
    {f_is_whole : Addr} {oc_is_whole kV_is_whole dc_is_whole pm_is_whole cd_is_whole ct_is_whole : Value} {od_is_whole an_is_whole : Option Addr} {sl_is_whole : Array (Option Value)}
    (a_is_whole : PySem.W.nsIn K mainGlobals "is_whole" = some (some (.ref f_is_whole)))
    (l_is_whole : K.lookup f_is_whole = some ⟨oc_is_whole, od_is_whole, .func (PySem.W.fnOf "is_whole" "is_whole" (defArgs s_is_whole) (defBody s_is_whole) (defScope s_is_whole) .none kV_is_whole dc_is_whole pm_is_whole an_is_whole cd_is_whole ct_is_whole), sl_is_whole⟩)
    (c_is_whole : PySem.W.codeIn K cd_is_whole "is_whole" = true)
    (k_is_whole : PySem.W.keepIn K (.ref f_is_whole) = true)
    {f_is_tuple : Addr} {oc_is_tuple kV_is_tuple dc_is_tuple pm_is_tuple cd_is_tuple ct_is_tuple : Value} {od_is_tuple an_is_tuple : Option Addr} {sl_is_tuple : Array (Option Value)}
    (a_is_tuple : PySem.W.nsIn K mainGlobals "is_tuple" = some (some (.ref f_is_tuple)))
    (l_is_tuple : K.lookup f_is_tuple = some ⟨oc_is_tuple, od_is_tuple, .func (PySem.W.fnOf "is_tuple" "is_tuple" (defArgs s_is_tuple) (defBody s_is_tuple) (defScope s_is_tuple) .none kV_is_tuple dc_is_tuple pm_is_tuple an_is_tuple cd_is_tuple ct_is_tuple), sl_is_tuple⟩)
    (c_is_tuple : PySem.W.codeIn K cd_is_tuple "is_tuple" = true)
    (k_is_tuple : PySem.W.keepIn K (.ref f_is_tuple) = true)
    {f_are_arrivals : Addr} {oc_are_arrivals kV_are_arrivals dc_are_arrivals pm_are_arrivals cd_are_arrivals ct_are_arrivals : Value} {od_are_arrivals an_are_arrivals : Option Addr} {sl_are_arrivals : Array (Option Value)}
    (a_are_arrivals : PySem.W.nsIn K mainGlobals "are_arrivals" = some (some (.ref f_are_arrivals)))
    (l_are_arrivals : K.lookup f_are_arrivals = some ⟨oc_are_arrivals, od_are_arrivals, .func (PySem.W.fnOf "are_arrivals" "are_arrivals" (defArgs s_are_arrivals) (defBody s_are_arrivals) (defScope s_are_arrivals) .none kV_are_arrivals dc_are_arrivals pm_are_arrivals an_are_arrivals cd_are_arrivals ct_are_arrivals), sl_are_arrivals⟩)
    (c_are_arrivals : PySem.W.codeIn K cd_are_arrivals "are_arrivals" = true)
    (k_are_arrivals : PySem.W.keepIn K (.ref f_are_arrivals) = true)
    {f_is_path : Addr} {oc_is_path kV_is_path dc_is_path pm_is_path cd_is_path ct_is_path : Value} {od_is_path an_is_path : Option Addr} {sl_is_path : Array (Option Value)}
    (a_is_path : PySem.W.nsIn K mainGlobals "is_path" = some (some (.ref f_is_path)))
    (l_is_path : K.lookup f_is_path = some ⟨oc_is_path, od_is_path, .func (PySem.W.fnOf "is_path" "is_path" (defArgs s_is_path) (defBody s_is_path) (defScope s_is_path) .none kV_is_path dc_is_path pm_is_path an_is_path cd_is_path ct_is_path), sl_is_path⟩)
    (c_is_path : PySem.W.codeIn K cd_is_path "is_path" = true)
    (k_is_path : PySem.W.keepIn K (.ref f_is_path) = true)
    {f_path_time : Addr} {oc_path_time kV_path_time dc_path_time pm_path_time cd_path_time ct_path_time : Value} {od_path_time an_path_time : Option Addr} {sl_path_time : Array (Option Value)}
    (a_path_time : PySem.W.nsIn K mainGlobals "path_time" = some (some (.ref f_path_time)))
    (l_path_time : K.lookup f_path_time = some ⟨oc_path_time, od_path_time, .func (PySem.W.fnOf "path_time" "path_time" (defArgs s_path_time) (defBody s_path_time) (defScope s_path_time) .none kV_path_time dc_path_time pm_path_time an_path_time cd_path_time ct_path_time), sl_path_time⟩)
    (c_path_time : PySem.W.codeIn K cd_path_time "path_time" = true)
    (k_path_time : PySem.W.keepIn K (.ref f_path_time) = true)
    {f_slowest_holds : Addr} {oc_slowest_holds dc_slowest_holds pm_slowest_holds cd_slowest_holds ct_slowest_holds : Value} {od_slowest_holds an_slowest_holds : Option Addr} {sl_slowest_holds : Array (Option Value)}
    (a_slowest_holds : PySem.W.nsIn K mainGlobals "slowest_holds" = some (some (.ref f_slowest_holds)))
    {kd_slowest_holds : Addr}
    (l_slowest_holds : K.lookup f_slowest_holds = some ⟨oc_slowest_holds, od_slowest_holds, .func (PySem.W.fnOf "slowest_holds" "slowest_holds" (defArgs s_slowest_holds) (defBody s_slowest_holds) (defScope s_slowest_holds) .none (.ref kd_slowest_holds) dc_slowest_holds pm_slowest_holds an_slowest_holds cd_slowest_holds ct_slowest_holds), sl_slowest_holds⟩)
    (c_slowest_holds : PySem.W.codeIn K cd_slowest_holds "slowest_holds" = true)
    (k_slowest_holds : PySem.W.keepIn K (.ref f_slowest_holds) = true)
    {f_l_deck : Addr} {oc_l_deck kV_l_deck dc_l_deck pm_l_deck cd_l_deck ct_l_deck : Value} {od_l_deck an_l_deck : Option Addr} {sl_l_deck : Array (Option Value)}
    (a_l_deck : PySem.W.nsIn K mainGlobals "_law_deck" = some (some (.ref f_l_deck)))
    (l_l_deck : K.lookup f_l_deck = some ⟨oc_l_deck, od_l_deck, .func (PySem.W.fnOf "_law_deck" "_law_deck" (defArgs s_l_deck) (defBody s_l_deck) (defScope s_l_deck) .none kV_l_deck dc_l_deck pm_l_deck an_l_deck cd_l_deck ct_l_deck), sl_l_deck⟩)
    (c_l_deck : PySem.W.codeIn K cd_l_deck "_law_deck" = true)
    (k_l_deck : PySem.W.keepIn K (.ref f_l_deck) = true)
    {f_l_draw : Addr} {oc_l_draw kV_l_draw dc_l_draw pm_l_draw cd_l_draw ct_l_draw : Value} {od_l_draw an_l_draw : Option Addr} {sl_l_draw : Array (Option Value)}
    (a_l_draw : PySem.W.nsIn K mainGlobals "_law_draw" = some (some (.ref f_l_draw)))
    (l_l_draw : K.lookup f_l_draw = some ⟨oc_l_draw, od_l_draw, .func (PySem.W.fnOf "_law_draw" "_law_draw" (defArgs s_l_draw) (defBody s_l_draw) (defScope s_l_draw) .none kV_l_draw dc_l_draw pm_l_draw an_l_draw cd_l_draw ct_l_draw), sl_l_draw⟩)
    (c_l_draw : PySem.W.codeIn K cd_l_draw "_law_draw" = true)
    (k_l_draw : PySem.W.keepIn K (.ref f_l_draw) = true)
    {f_l_pick : Addr} {oc_l_pick kV_l_pick dc_l_pick pm_l_pick cd_l_pick ct_l_pick : Value} {od_l_pick an_l_pick : Option Addr} {sl_l_pick : Array (Option Value)}
    (a_l_pick : PySem.W.nsIn K mainGlobals "_law_pick" = some (some (.ref f_l_pick)))
    (l_l_pick : K.lookup f_l_pick = some ⟨oc_l_pick, od_l_pick, .func (PySem.W.fnOf "_law_pick" "_law_pick" (defArgs s_l_pick) (defBody s_l_pick) (defScope s_l_pick) .none kV_l_pick dc_l_pick pm_l_pick an_l_pick cd_l_pick ct_l_pick), sl_l_pick⟩)
    (c_l_pick : PySem.W.codeIn K cd_l_pick "_law_pick" = true)
    (k_l_pick : PySem.W.keepIn K (.ref f_l_pick) = true)
    {f_l_net : Addr} {oc_l_net kV_l_net dc_l_net pm_l_net cd_l_net ct_l_net : Value} {od_l_net an_l_net : Option Addr} {sl_l_net : Array (Option Value)}
    (a_l_net : PySem.W.nsIn K mainGlobals "_law_net" = some (some (.ref f_l_net)))
    (l_l_net : K.lookup f_l_net = some ⟨oc_l_net, od_l_net, .func (PySem.W.fnOf "_law_net" "_law_net" (defArgs s_l_net) (defBody s_l_net) (defScope s_l_net) .none kV_l_net dc_l_net pm_l_net an_l_net cd_l_net ct_l_net), sl_l_net⟩)
    (c_l_net : PySem.W.codeIn K cd_l_net "_law_net" = true)
    (k_l_net : PySem.W.keepIn K (.ref f_l_net) = true)
    {f_l_feeds : Addr} {oc_l_feeds kV_l_feeds dc_l_feeds pm_l_feeds cd_l_feeds ct_l_feeds : Value} {od_l_feeds an_l_feeds : Option Addr} {sl_l_feeds : Array (Option Value)}
    (a_l_feeds : PySem.W.nsIn K mainGlobals "_law_feeds" = some (some (.ref f_l_feeds)))
    (l_l_feeds : K.lookup f_l_feeds = some ⟨oc_l_feeds, od_l_feeds, .func (PySem.W.fnOf "_law_feeds" "_law_feeds" (defArgs s_l_feeds) (defBody s_l_feeds) (defScope s_l_feeds) .none kV_l_feeds dc_l_feeds pm_l_feeds an_l_feeds cd_l_feeds ct_l_feeds), sl_l_feeds⟩)
    (c_l_feeds : PySem.W.codeIn K cd_l_feeds "_law_feeds" = true)
    (k_l_feeds : PySem.W.keepIn K (.ref f_l_feeds) = true)
    {f_l_way : Addr} {oc_l_way kV_l_way dc_l_way pm_l_way cd_l_way ct_l_way : Value} {od_l_way an_l_way : Option Addr} {sl_l_way : Array (Option Value)}
    (a_l_way : PySem.W.nsIn K mainGlobals "_law_way" = some (some (.ref f_l_way)))
    (l_l_way : K.lookup f_l_way = some ⟨oc_l_way, od_l_way, .func (PySem.W.fnOf "_law_way" "_law_way" (defArgs s_l_way) (defBody s_l_way) (defScope s_l_way) .none kV_l_way dc_l_way pm_l_way an_l_way cd_l_way ct_l_way), sl_l_way⟩)
    (c_l_way : PySem.W.codeIn K cd_l_way "_law_way" = true)
    (k_l_way : PySem.W.keepIn K (.ref f_l_way) = true)
    {f_l_there_and_back : Addr} {oc_l_there_and_back kV_l_there_and_back dc_l_there_and_back pm_l_there_and_back cd_l_there_and_back ct_l_there_and_back : Value} {od_l_there_and_back an_l_there_and_back : Option Addr} {sl_l_there_and_back : Array (Option Value)}
    (a_l_there_and_back : PySem.W.nsIn K mainGlobals "_law_there_and_back" = some (some (.ref f_l_there_and_back)))
    (l_l_there_and_back : K.lookup f_l_there_and_back = some ⟨oc_l_there_and_back, od_l_there_and_back, .func (PySem.W.fnOf "_law_there_and_back" "_law_there_and_back" (defArgs s_l_there_and_back) (defBody s_l_there_and_back) (defScope s_l_there_and_back) .none kV_l_there_and_back dc_l_there_and_back pm_l_there_and_back an_l_there_and_back cd_l_there_and_back ct_l_there_and_back), sl_l_there_and_back⟩)
    (c_l_there_and_back : PySem.W.codeIn K cd_l_there_and_back "_law_there_and_back" = true)
    (k_l_there_and_back : PySem.W.keepIn K (.ref f_l_there_and_back) = true)
    {f_l_laying : Addr} {oc_l_laying kV_l_laying dc_l_laying pm_l_laying cd_l_laying ct_l_laying : Value} {od_l_laying an_l_laying : Option Addr} {sl_l_laying : Array (Option Value)}
    (a_l_laying : PySem.W.nsIn K mainGlobals "_law_laying" = some (some (.ref f_l_laying)))
    (l_l_laying : K.lookup f_l_laying = some ⟨oc_l_laying, od_l_laying, .func (PySem.W.fnOf "_law_laying" "_law_laying" (defArgs s_l_laying) (defBody s_l_laying) (defScope s_l_laying) .none kV_l_laying dc_l_laying pm_l_laying an_l_laying cd_l_laying ct_l_laying), sl_l_laying⟩)
    (c_l_laying : PySem.W.codeIn K cd_l_laying "_law_laying" = true)
    (k_l_laying : PySem.W.keepIn K (.ref f_l_laying) = true)
    {f_l_delays : Addr} {oc_l_delays kV_l_delays dc_l_delays pm_l_delays cd_l_delays ct_l_delays : Value} {od_l_delays an_l_delays : Option Addr} {sl_l_delays : Array (Option Value)}
    (a_l_delays : PySem.W.nsIn K mainGlobals "_law_delays" = some (some (.ref f_l_delays)))
    (l_l_delays : K.lookup f_l_delays = some ⟨oc_l_delays, od_l_delays, .func (PySem.W.fnOf "_law_delays" "_law_delays" (defArgs s_l_delays) (defBody s_l_delays) (defScope s_l_delays) .none kV_l_delays dc_l_delays pm_l_delays an_l_delays cd_l_delays ct_l_delays), sl_l_delays⟩)
    (c_l_delays : PySem.W.codeIn K cd_l_delays "_law_delays" = true)
    (k_l_delays : PySem.W.keepIn K (.ref f_l_delays) = true)
    {f_l_moved : Addr} {oc_l_moved kV_l_moved dc_l_moved pm_l_moved cd_l_moved ct_l_moved : Value} {od_l_moved an_l_moved : Option Addr} {sl_l_moved : Array (Option Value)}
    (a_l_moved : PySem.W.nsIn K mainGlobals "_law_moved" = some (some (.ref f_l_moved)))
    (l_l_moved : K.lookup f_l_moved = some ⟨oc_l_moved, od_l_moved, .func (PySem.W.fnOf "_law_moved" "_law_moved" (defArgs s_l_moved) (defBody s_l_moved) (defScope s_l_moved) .none kV_l_moved dc_l_moved pm_l_moved an_l_moved cd_l_moved ct_l_moved), sl_l_moved⟩)
    (c_l_moved : PySem.W.codeIn K cd_l_moved "_law_moved" = true)
    (k_l_moved : PySem.W.keepIn K (.ref f_l_moved) = true)
    {f_l_bring : Addr} {oc_l_bring kV_l_bring dc_l_bring pm_l_bring cd_l_bring ct_l_bring : Value} {od_l_bring an_l_bring : Option Addr} {sl_l_bring : Array (Option Value)}
    (a_l_bring : PySem.W.nsIn K mainGlobals "_law_bring" = some (some (.ref f_l_bring)))
    (l_l_bring : K.lookup f_l_bring = some ⟨oc_l_bring, od_l_bring, .func (PySem.W.fnOf "_law_bring" "_law_bring" (defArgs s_l_bring) (defBody s_l_bring) (defScope s_l_bring) .none kV_l_bring dc_l_bring pm_l_bring an_l_bring cd_l_bring ct_l_bring), sl_l_bring⟩)
    (c_l_bring : PySem.W.codeIn K cd_l_bring "_law_bring" = true)
    (k_l_bring : PySem.W.keepIn K (.ref f_l_bring) = true)
    {f_l_time : Addr} {oc_l_time kV_l_time dc_l_time pm_l_time cd_l_time ct_l_time : Value} {od_l_time an_l_time : Option Addr} {sl_l_time : Array (Option Value)}
    (a_l_time : PySem.W.nsIn K mainGlobals "_law_time" = some (some (.ref f_l_time)))
    (l_l_time : K.lookup f_l_time = some ⟨oc_l_time, od_l_time, .func (PySem.W.fnOf "_law_time" "_law_time" (defArgs s_l_time) (defBody s_l_time) (defScope s_l_time) .none kV_l_time dc_l_time pm_l_time an_l_time cd_l_time ct_l_time), sl_l_time⟩)
    (c_l_time : PySem.W.codeIn K cd_l_time "_law_time" = true)
    (k_l_time : PySem.W.keepIn K (.ref f_l_time) = true)
    {f_l_path_time : Addr} {oc_l_path_time kV_l_path_time dc_l_path_time pm_l_path_time cd_l_path_time ct_l_path_time : Value} {od_l_path_time an_l_path_time : Option Addr} {sl_l_path_time : Array (Option Value)}
    (a_l_path_time : PySem.W.nsIn K mainGlobals "_law_path_time" = some (some (.ref f_l_path_time)))
    (l_l_path_time : K.lookup f_l_path_time = some ⟨oc_l_path_time, od_l_path_time, .func (PySem.W.fnOf "_law_path_time" "_law_path_time" (defArgs s_l_path_time) (defBody s_l_path_time) (defScope s_l_path_time) .none kV_l_path_time dc_l_path_time pm_l_path_time an_l_path_time cd_l_path_time ct_l_path_time), sl_l_path_time⟩)
    (c_l_path_time : PySem.W.codeIn K cd_l_path_time "_law_path_time" = true)
    (k_l_path_time : PySem.W.keepIn K (.ref f_l_path_time) = true)
    {f_l_whole : Addr} {oc_l_whole kV_l_whole dc_l_whole pm_l_whole cd_l_whole ct_l_whole : Value} {od_l_whole an_l_whole : Option Addr} {sl_l_whole : Array (Option Value)}
    (a_l_whole : PySem.W.nsIn K mainGlobals "_law_whole" = some (some (.ref f_l_whole)))
    (l_l_whole : K.lookup f_l_whole = some ⟨oc_l_whole, od_l_whole, .func (PySem.W.fnOf "_law_whole" "_law_whole" (defArgs s_l_whole) (defBody s_l_whole) (defScope s_l_whole) .none kV_l_whole dc_l_whole pm_l_whole an_l_whole cd_l_whole ct_l_whole), sl_l_whole⟩)
    (c_l_whole : PySem.W.codeIn K cd_l_whole "_law_whole" = true)
    (k_l_whole : PySem.W.keepIn K (.ref f_l_whole) = true)
    {f_l_due : Addr} {oc_l_due kV_l_due dc_l_due pm_l_due cd_l_due ct_l_due : Value} {od_l_due an_l_due : Option Addr} {sl_l_due : Array (Option Value)}
    (a_l_due : PySem.W.nsIn K mainGlobals "_law_due" = some (some (.ref f_l_due)))
    (l_l_due : K.lookup f_l_due = some ⟨oc_l_due, od_l_due, .func (PySem.W.fnOf "_law_due" "_law_due" (defArgs s_l_due) (defBody s_l_due) (defScope s_l_due) .none kV_l_due dc_l_due pm_l_due an_l_due cd_l_due ct_l_due), sl_l_due⟩)
    (c_l_due : PySem.W.codeIn K cd_l_due "_law_due" = true)
    (k_l_due : PySem.W.keepIn K (.ref f_l_due) = true)
    {f_l_off : Addr} {oc_l_off kV_l_off dc_l_off pm_l_off cd_l_off ct_l_off : Value} {od_l_off an_l_off : Option Addr} {sl_l_off : Array (Option Value)}
    (a_l_off : PySem.W.nsIn K mainGlobals "_law_off" = some (some (.ref f_l_off)))
    (l_l_off : K.lookup f_l_off = some ⟨oc_l_off, od_l_off, .func (PySem.W.fnOf "_law_off" "_law_off" (defArgs s_l_off) (defBody s_l_off) (defScope s_l_off) .none kV_l_off dc_l_off pm_l_off an_l_off cd_l_off ct_l_off), sl_l_off⟩)
    (c_l_off : PySem.W.codeIn K cd_l_off "_law_off" = true)
    (k_l_off : PySem.W.keepIn K (.ref f_l_off) = true)
    {f_l_spoilt : Addr} {oc_l_spoilt kV_l_spoilt dc_l_spoilt pm_l_spoilt cd_l_spoilt ct_l_spoilt : Value} {od_l_spoilt an_l_spoilt : Option Addr} {sl_l_spoilt : Array (Option Value)}
    (a_l_spoilt : PySem.W.nsIn K mainGlobals "_law_spoilt" = some (some (.ref f_l_spoilt)))
    (l_l_spoilt : K.lookup f_l_spoilt = some ⟨oc_l_spoilt, od_l_spoilt, .func (PySem.W.fnOf "_law_spoilt" "_law_spoilt" (defArgs s_l_spoilt) (defBody s_l_spoilt) (defScope s_l_spoilt) .none kV_l_spoilt dc_l_spoilt pm_l_spoilt an_l_spoilt cd_l_spoilt ct_l_spoilt), sl_l_spoilt⟩)
    (c_l_spoilt : PySem.W.codeIn K cd_l_spoilt "_law_spoilt" = true)
    (k_l_spoilt : PySem.W.keepIn K (.ref f_l_spoilt) = true)
    {f_l_row_net : Addr} {oc_l_row_net kV_l_row_net dc_l_row_net pm_l_row_net cd_l_row_net ct_l_row_net : Value} {od_l_row_net an_l_row_net : Option Addr} {sl_l_row_net : Array (Option Value)}
    (a_l_row_net : PySem.W.nsIn K mainGlobals "_law_row_net" = some (some (.ref f_l_row_net)))
    (l_l_row_net : K.lookup f_l_row_net = some ⟨oc_l_row_net, od_l_row_net, .func (PySem.W.fnOf "_law_row_net" "_law_row_net" (defArgs s_l_row_net) (defBody s_l_row_net) (defScope s_l_row_net) .none kV_l_row_net dc_l_row_net pm_l_row_net an_l_row_net cd_l_row_net ct_l_row_net), sl_l_row_net⟩)
    (c_l_row_net : PySem.W.codeIn K cd_l_row_net "_law_row_net" = true)
    (k_l_row_net : PySem.W.keepIn K (.ref f_l_row_net) = true)
    {f_law : Addr} {oc_law kV_law dc_law pm_law cd_law ct_law : Value} {od_law an_law : Option Addr} {sl_law : Array (Option Value)}
    (a_law : PySem.W.nsIn K mainGlobals "law" = some (some (.ref f_law)))
    (l_law : K.lookup f_law = some ⟨oc_law, od_law, .func (PySem.W.fnOf "law" "law" (defArgs s_law) (defBody s_law) (defScope s_law) .none kV_law dc_law pm_law an_law cd_law ct_law), sl_law⟩)
    (c_law : PySem.W.codeIn K cd_law "law" = true)
    (k_law : PySem.W.keepIn K (.ref f_law) = true)
    (z_repr : PySem.W.nsIn K mainGlobals "repr" = some none)
    (z_str : PySem.W.nsIn K mainGlobals "str" = some none)
    (z_all : PySem.W.nsIn K mainGlobals "all" = some none)
    (z_any : PySem.W.nsIn K mainGlobals "any" = some none)
    (z_isinstance : PySem.W.nsIn K mainGlobals "isinstance" = some none)
    (z_len : PySem.W.nsIn K mainGlobals "len" = some none)
    (z_list : PySem.W.nsIn K mainGlobals "list" = some none)
    (z_range : PySem.W.nsIn K mainGlobals "range" = some none)
    (z_enumerate : PySem.W.nsIn K mainGlobals "enumerate" = some none)
    (z_zip : PySem.W.nsIn K mainGlobals "zip" = some none)
    (z_max : PySem.W.nsIn K mainGlobals "max" = some none)
    (z_tuple : PySem.W.nsIn K mainGlobals "tuple" = some none)
    (z_int : PySem.W.nsIn K mainGlobals "int" = some none)
    (z_bool : PySem.W.nsIn K mainGlobals "bool" = some none)
    (z_divmod : PySem.W.nsIn K mainGlobals "divmod" = some none)
    {cF cD : Addr} {d2 d3 : Option Addr} {i2 i3 : Array Value} {n2 n3 : Nat} {s2 s3 : Array (Option Value)}
    (t_2 : PySem.W.nsIn K mainGlobals "FED" = some (some (.ref cF)))
    (t_2a : K.lookup cF = some ⟨.type "tuple", d2, .seq i2 n2, s2⟩)
    (t_2b : Vals [.str "not", .str "and", .str "or", .str "xor"] i2.toList)
    (t_3 : PySem.W.nsIn K mainGlobals "DELAYS" = some (some (.ref cD)))
    (t_3a : K.lookup cD = some ⟨.type "tuple", d3, .seq i3 n3, s3⟩)
    (t_3b : Vals [.int 1, .int 2, .int 3] i3.toList)
    (t_4 : PySem.W.nsIn K kd_slowest "delays" = some (some (.ref cD)))
    (t_5 : PySem.W.nsIn K kd_slowest_holds "delays" = some (some (.ref cD)))
    : ∃ fd : FuncData, (∀ (s : Shared) (v : Value), BindsTo s fd ⟨[v], []⟩ [("_law_script", v)]) ∧ ∀ base : Heap, K.In base → base.Ns mainGlobals mg → FnG l.prog w K mg base L2.CX0 60 fa fd ["_law_script"] (spLaw K) := by
  have e := hfa.symm.trans (PySem.W.mg_of X G a_law)
  cases e
  have D_feeds_of := def_mk (ps := ["gate"]) (st := s_feeds_of) X G a_feeds_of l_feeds_of c_feeds_of k_feeds_of (fun _ _ _ _ _ _ us hl => match us, hl with | [_], _ => rfl) (fun _ _ _ _ _ _ _ ws hl => match ws, hl with | [_], _ => rfl)
  have D_brought := def_mk (ps := ["arrivals", "gates", "ways", "g", "step"]) (st := s_brought) X G a_brought l_brought c_brought k_brought (fun _ _ _ _ _ _ us hl => match us, hl with | [_, _, _, _, _], _ => rfl) (fun _ _ _ _ _ _ _ ws hl => match ws, hl with | [_, _, _, _, _], _ => rfl)
  have D_own_delay := def_mk (ps := ["gate", "delays"]) (st := s_own_delay) X G a_own_delay l_own_delay c_own_delay k_own_delay (fun _ _ _ _ _ _ us hl => match us, hl with | [_, _], _ => rfl) (fun _ _ _ _ _ _ _ ws hl => match ws, hl with | [_, _], _ => rfl)
  have D_arrivals_of := def_mk (ps := ["gates", "ways", "delays"]) (st := s_arrivals_of) X G a_arrivals_of l_arrivals_of c_arrivals_of k_arrivals_of (fun _ _ _ _ _ _ us hl => match us, hl with | [_, _, _], _ => rfl) (fun _ _ _ _ _ _ _ ws hl => match ws, hl with | [_, _, _], _ => rfl)
  have D_path_to := def_mk (ps := ["box", "gates", "ways", "arrivals", "step"]) (st := s_path_to) X G a_path_to l_path_to c_path_to k_path_to (fun _ _ _ _ _ _ us hl => match us, hl with | [_, _, _, _, _], _ => rfl) (fun _ _ _ _ _ _ _ ws hl => match ws, hl with | [_, _, _, _, _], _ => rfl)
  have D_is_natural := def_mk (ps := ["thing"]) (st := s_is_natural) X G a_is_natural l_is_natural c_is_natural k_is_natural (fun _ _ _ _ _ _ us hl => match us, hl with | [_], _ => rfl) (fun _ _ _ _ _ _ _ ws hl => match ws, hl with | [_], _ => rfl)
  have D_is_whole := def_mk (ps := ["thing", "end"]) (st := s_is_whole) X G a_is_whole l_is_whole c_is_whole k_is_whole (fun _ _ _ _ _ _ us hl => match us, hl with | [_, _], _ => rfl) (fun _ _ _ _ _ _ _ ws hl => match ws, hl with | [_, _], _ => rfl)
  have D_is_tuple := def_mk (ps := ["thing", "many"]) (st := s_is_tuple) X G a_is_tuple l_is_tuple c_is_tuple k_is_tuple (fun _ _ _ _ _ _ us hl => match us, hl with | [_, _], _ => rfl) (fun _ _ _ _ _ _ _ ws hl => match ws, hl with | [_, _], _ => rfl)
  have D_are_arrivals := def_mk (ps := ["gates", "ways", "thing", "delays"]) (st := s_are_arrivals) X G a_are_arrivals l_are_arrivals c_are_arrivals k_are_arrivals (fun _ _ _ _ _ _ us hl => match us, hl with | [_, _, _, _], _ => rfl) (fun _ _ _ _ _ _ _ ws hl => match ws, hl with | [_, _, _, _], _ => rfl)
  have D_is_path := def_mk (ps := ["gates", "clock", "thing"]) (st := s_is_path) X G a_is_path l_is_path c_is_path k_is_path (fun _ _ _ _ _ _ us hl => match us, hl with | [_, _, _], _ => rfl) (fun _ _ _ _ _ _ _ ws hl => match ws, hl with | [_, _, _], _ => rfl)
  have D_path_time := def_mk (ps := ["gates", "ways", "path", "delays"]) (st := s_path_time) X G a_path_time l_path_time c_path_time k_path_time (fun _ _ _ _ _ _ us hl => match us, hl with | [_, _, _, _], _ => rfl) (fun _ _ _ _ _ _ _ ws hl => match ws, hl with | [_, _, _, _], _ => rfl)
  have D_l_deck := def_mk (ps := ["_law_script"]) (st := s_l_deck) X G a_l_deck l_l_deck c_l_deck k_l_deck (fun _ _ _ _ _ _ us hl => match us, hl with | [_], _ => rfl) (fun _ _ _ _ _ _ _ ws hl => match ws, hl with | [_], _ => rfl)
  have D_l_draw := def_mk (ps := ["_law_deck_here", "_law_sides"]) (st := s_l_draw) X G a_l_draw l_l_draw c_l_draw k_l_draw (fun _ _ _ _ _ _ us hl => match us, hl with | [_, _], _ => rfl) (fun _ _ _ _ _ _ _ ws hl => match ws, hl with | [_, _], _ => rfl)
  have D_l_pick := def_mk (ps := ["_law_deck_here", "_law_some"]) (st := s_l_pick) X G a_l_pick l_l_pick c_l_pick k_l_pick (fun _ _ _ _ _ _ us hl => match us, hl with | [_, _], _ => rfl) (fun _ _ _ _ _ _ _ ws hl => match ws, hl with | [_, _], _ => rfl)
  have D_l_net := def_mk (ps := ["_law_deck_here"]) (st := s_l_net) X G a_l_net l_l_net c_l_net k_l_net (fun _ _ _ _ _ _ us hl => match us, hl with | [_], _ => rfl) (fun _ _ _ _ _ _ _ ws hl => match ws, hl with | [_], _ => rfl)
  have D_l_feeds := def_mk (ps := ["_law_gate"]) (st := s_l_feeds) X G a_l_feeds l_l_feeds c_l_feeds k_l_feeds (fun _ _ _ _ _ _ us hl => match us, hl with | [_], _ => rfl) (fun _ _ _ _ _ _ _ ws hl => match ws, hl with | [_], _ => rfl)
  have D_l_way := def_mk (ps := ["_law_deck_here", "_law_first", "_law_last"]) (st := s_l_way) X G a_l_way l_l_way c_l_way k_l_way (fun _ _ _ _ _ _ us hl => match us, hl with | [_, _, _], _ => rfl) (fun _ _ _ _ _ _ _ ws hl => match ws, hl with | [_, _, _], _ => rfl)
  have D_l_there_and_back := def_mk (ps := ["_law_deck_here", "_law_cell"]) (st := s_l_there_and_back) X G a_l_there_and_back l_l_there_and_back c_l_there_and_back k_l_there_and_back (fun _ _ _ _ _ _ us hl => match us, hl with | [_, _], _ => rfl) (fun _ _ _ _ _ _ _ ws hl => match ws, hl with | [_, _], _ => rfl)
  have D_l_laying := def_mk (ps := ["_law_deck_here", "_law_net_here"]) (st := s_l_laying) X G a_l_laying l_l_laying c_l_laying k_l_laying (fun _ _ _ _ _ _ us hl => match us, hl with | [_, _], _ => rfl) (fun _ _ _ _ _ _ _ ws hl => match ws, hl with | [_, _], _ => rfl)
  have D_l_delays := def_mk (ps := ["_law_deck_here"]) (st := s_l_delays) X G a_l_delays l_l_delays c_l_delays k_l_delays (fun _ _ _ _ _ _ us hl => match us, hl with | [_], _ => rfl) (fun _ _ _ _ _ _ _ ws hl => match ws, hl with | [_], _ => rfl)
  have D_l_moved := def_mk (ps := ["_law_gate"]) (st := s_l_moved) X G a_l_moved l_l_moved c_l_moved k_l_moved (fun _ _ _ _ _ _ us hl => match us, hl with | [_], _ => rfl) (fun _ _ _ _ _ _ _ ws hl => match ws, hl with | [_], _ => rfl)
  have D_l_bring := def_mk (ps := ["_law_net_here", "_law_laying_here", "_law_said", "_law_own", "_law_k"]) (st := s_l_bring) X G a_l_bring l_l_bring c_l_bring k_l_bring (fun _ _ _ _ _ _ us hl => match us, hl with | [_, _, _, _, _], _ => rfl) (fun _ _ _ _ _ _ _ ws hl => match ws, hl with | [_, _, _, _, _], _ => rfl)
  have D_l_time := def_mk (ps := ["_law_net_here", "_law_laying_here", "_law_said", "_law_own", "_law_clock"]) (st := s_l_time) X G a_l_time l_l_time c_l_time k_l_time (fun _ _ _ _ _ _ us hl => match us, hl with | [_, _, _, _, _], _ => rfl) (fun _ _ _ _ _ _ _ ws hl => match ws, hl with | [_, _, _, _, _], _ => rfl)
  have D_l_path_time := def_mk (ps := ["_law_net_here", "_law_laying_here", "_law_path", "_law_own", "_law_clock"]) (st := s_l_path_time) X G a_l_path_time l_l_path_time c_l_path_time k_l_path_time (fun _ _ _ _ _ _ us hl => match us, hl with | [_, _, _, _, _], _ => rfl) (fun _ _ _ _ _ _ _ ws hl => match ws, hl with | [_, _, _, _, _], _ => rfl)
  have D_l_whole := def_mk (ps := ["_law_thing", "_law_top"]) (st := s_l_whole) X G a_l_whole l_l_whole c_l_whole k_l_whole (fun _ _ _ _ _ _ us hl => match us, hl with | [_, _], _ => rfl) (fun _ _ _ _ _ _ _ ws hl => match ws, hl with | [_, _], _ => rfl)
  have D_l_due := def_mk (ps := ["_law_net_here", "_law_laying_here", "_law_own", "_law_clock", "_law_thing"]) (st := s_l_due) X G a_l_due l_l_due c_l_due k_l_due (fun _ _ _ _ _ _ us hl => match us, hl with | [_, _, _, _, _], _ => rfl) (fun _ _ _ _ _ _ _ ws hl => match ws, hl with | [_, _, _, _, _], _ => rfl)
  have D_l_off := def_mk (ps := ["_law_deck_here", "_law_thing", "_law_other"]) (st := s_l_off) X G a_l_off l_l_off c_l_off k_l_off (fun _ _ _ _ _ _ us hl => match us, hl with | [_, _, _], _ => rfl) (fun _ _ _ _ _ _ _ ws hl => match ws, hl with | [_, _, _], _ => rfl)
  have D_l_spoilt := def_mk (ps := ["_law_deck_here", "_law_thing", "_law_other"]) (st := s_l_spoilt) X G a_l_spoilt l_l_spoilt c_l_spoilt k_l_spoilt (fun _ _ _ _ _ _ us hl => match us, hl with | [_, _, _], _ => rfl) (fun _ _ _ _ _ _ _ ws hl => match ws, hl with | [_, _, _], _ => rfl)
  have D_l_row_net := def_mk (ps := ["_law_deck_here"]) (st := s_l_row_net) X G a_l_row_net l_l_row_net c_l_row_net k_l_row_net (fun _ _ _ _ _ _ us hl => match us, hl with | [_], _ => rfl) (fun _ _ _ _ _ _ _ ws hl => match ws, hl with | [_], _ => rfl)
  have D_law := def_mk (ps := ["_law_script"]) (st := s_law) X G a_law l_law c_law k_law (fun _ _ _ _ _ _ us hl => match us, hl with | [_], _ => rfl) (fun _ _ _ _ _ _ _ ws hl => match ws, hl with | [_], _ => rfl)
  have M : Bi mg := ⟨PySem.W.mg_none_of X G z_repr, PySem.W.mg_none_of X G z_str, PySem.W.mg_none_of X G z_all, PySem.W.mg_none_of X G z_any, PySem.W.mg_none_of X G z_isinstance, PySem.W.mg_none_of X G z_len, PySem.W.mg_none_of X G z_list, PySem.W.mg_none_of X G z_range, PySem.W.mg_none_of X G z_enumerate, PySem.W.mg_none_of X G z_zip, PySem.W.mg_none_of X G z_max, PySem.W.mg_none_of X G z_tuple, PySem.W.mg_none_of X G z_int, PySem.W.mg_none_of X G z_bool, PySem.W.mg_none_of X G z_divmod⟩
  have T : Tp K mg cF cD := ⟨⟨_, PySem.W.mg_of X G t_2, rfl⟩, fun H => .inr ⟨_, i2, n2, t_2a, rfl, rfl, vals_few t_2b (by decide), t_2b⟩, ⟨_, PySem.W.mg_of X G t_3, rfl⟩, fun H => .inr ⟨_, i3, n3, t_3a, rfl, rfl, vals_few t_3b (by decide), t_3b⟩⟩
  have F_slowest : FunD K "slowest" "slowest" (defArgs s_slowest) (defBody s_slowest) (defScope s_slowest) [] [("delays", .ref cD)] f_slowest _ := ⟨⟨oc_slowest, od_slowest, .none, .ref kd_slowest, dc_slowest, pm_slowest, an_slowest, cd_slowest, ct_slowest, sl_slowest, rfl, l_slowest, c_slowest, .inl ⟨rfl, rfl⟩, .inr ⟨kd_slowest, rfl, fun q hq => by rw [List.mem_singleton.mp hq]; exact ⟨_, t_4, rfl⟩⟩⟩, k_slowest⟩
  have F_slowest_holds : FunD K "slowest_holds" "slowest_holds" (defArgs s_slowest_holds) (defBody s_slowest_holds) (defScope s_slowest_holds) [] [("delays", .ref cD)] f_slowest_holds _ := ⟨⟨oc_slowest_holds, od_slowest_holds, .none, .ref kd_slowest_holds, dc_slowest_holds, pm_slowest_holds, an_slowest_holds, cd_slowest_holds, ct_slowest_holds, sl_slowest_holds, rfl, l_slowest_holds, c_slowest_holds, .inl ⟨rfl, rfl⟩, .inr ⟨kd_slowest_holds, rfl, fun q hq => by rw [List.mem_singleton.mp hq]; exact ⟨_, t_5, rfl⟩⟩⟩, k_slowest_holds⟩
  refine ⟨PySem.W.fnOf "law" "law" (defArgs s_law) (defBody s_law) (defScope s_law) .none kV_law dc_law pm_law an_law cd_law ct_law, fun s v => .of_eq rfl, fun base _ _ => ?_⟩
  · have C_l_draw := ok_draw (P := l.prog) (w := w) (base := base) D_l_draw
    have C_l_deck := ok_deck (P := l.prog) (w := w) (base := base) D_l_deck M
    have C_l_pick := ok_pick D_l_pick M C_l_draw
    have C_feeds_of := ok_feeds (P := l.prog) (w := w) (base := base) D_feeds_of T
    have C_brought := ok_bro D_brought M C_feeds_of
    have C_own_delay := ok_own (P := l.prog) (w := w) (base := base) D_own_delay
    have C_arrivals_of := ok_arrs D_arrivals_of M T C_brought C_own_delay
    have C_path_to := ok_path D_path_to M T C_brought
    have Fs := ok_slow F_slowest M C_brought C_arrivals_of C_path_to
    obtain ⟨_, ⟨gP, hP⟩, _⟩ := slw_binds F_slowest
    have B_P : CalB l.prog w K mg base L2.CX0 4 "slowest" pSl (spSlow K) 3 ["delays"] gvP := ⟨_, _, gP, Fs, PySem.W.mg_of X G a_slowest, k_slowest, hP⟩
    have C_is_natural := ok_nat (P := l.prog) (w := w) (base := base) D_is_natural M
    have C_is_whole := ok_whole D_is_whole M C_is_natural
    have C_is_tuple := ok_tupM (P := l.prog) (w := w) (base := base) D_is_tuple M
    have C_are_arrivals := ok_arr D_are_arrivals M T C_is_natural C_is_tuple C_own_delay C_brought
    have C_is_path := ok_isp D_is_path M T C_is_whole C_feeds_of
    have C_path_time := ok_pt D_path_time M T C_own_delay C_feeds_of
    have Fh := ok_hold F_slowest_holds M C_is_natural C_is_tuple C_brought C_are_arrivals C_is_path C_path_time
    obtain ⟨gH, hH⟩ := sh_binds F_slowest_holds
    have B_H := (⟨_, _, gH, Fh, PySem.W.mg_of X G a_slowest_holds, k_slowest_holds, hH⟩ : CalB l.prog w K mg base L2.CX0 4 "slowest_holds" pSh (spHold K) 4 ["delays"] gvP)
    have C_l_feeds := ok_l_feeds (P := l.prog) (w := w) (base := base) D_l_feeds M
    have C_l_net := ok_l_net D_l_net M C_l_draw C_l_pick
    have C_l_way := ok_l_way D_l_way M C_l_draw
    have C_l_there_and_back := ok_l_back D_l_there_and_back M C_l_draw
    have C_l_delays := ok_l_del D_l_delays M C_l_draw
    have C_l_laying := ok_l_lay D_l_laying M C_l_draw C_l_feeds C_l_way C_l_there_and_back
    have C_l_moved := ok_l_moved (P := l.prog) (w := w) (base := base) D_l_moved M
    have C_l_bring := ok_l_bring D_l_bring M C_l_feeds C_l_moved
    have C_l_time := ok_l_time D_l_time M C_l_bring
    have C_l_path_time := ok_l_pt D_l_path_time M C_l_feeds C_l_bring C_l_moved
    have C_l_whole := ok_l_whole (P := l.prog) (w := w) (base := base) D_l_whole M
    have C_l_due := ok_due D_l_due M C_l_whole C_l_bring C_l_moved C_l_time C_l_path_time
    have C_l_off := ok_off D_l_off M C_l_draw
    have C_l_spoilt := spoils D_l_spoilt M C_l_draw C_l_off 5
    have C_l_row_net := ok_row D_l_row_net M C_l_draw
    exact ok_law D_law M C_l_deck C_l_draw C_l_net C_l_row_net C_l_laying C_l_delays C_l_spoilt C_l_due B_P B_H
end K80
open PySem PySem.W PyProof.Rows
set_option maxRecDepth 100000 in
set_option maxHeartbeats 0 in
theorem PySem.Challenge.cw_wiretongue_k80_whole_papers_of_slowest_w_holds : PySem.Challenge.rw_wiretongue_k80_whole_papers_of_slowest_w.Holds := by
  w_on; o_law; k_head; (case hw => w_witness2)
  k_fill
  refine Kit.walk_ofG (l := PySem.Challenge.rw_wiretongue_k80_whole_papers_of_slowest_w) (n := 63) (k := 60) (x := "_law_script") (CX := fun _ => L2.CX0) (sp := fun w => K80.spLaw _) rfl (by decide) rfl ⟨rfl, by decide, by decide⟩ (fun w h Y => PySem.W.kIn_of Y) ?F (fun _ _ a ns hl hb _ hS => ⟨a, ns, rfl, hS, hl, hb, fun _ => rfl⟩) (fun _ _ _ _ _ h => h)
  case F =>
    intro w mg fa h KX G hmg
    refine' K80.all_mk KX G hmg ?a_feeds_of ?l_feeds_of ?c_feeds_of ?k_feeds_of ?a_brought ?l_brought ?c_brought ?k_brought ?a_own_delay ?l_own_delay ?c_own_delay ?k_own_delay ?a_arrivals_of ?l_arrivals_of ?c_arrivals_of ?k_arrivals_of ?a_path_to ?l_path_to ?c_path_to ?k_path_to ?a_slowest ?l_slowest ?c_slowest ?k_slowest ?a_is_natural ?l_is_natural ?c_is_natural ?k_is_natural ?a_is_whole ?l_is_whole ?c_is_whole ?k_is_whole ?a_is_tuple ?l_is_tuple ?c_is_tuple ?k_is_tuple ?a_are_arrivals ?l_are_arrivals ?c_are_arrivals ?k_are_arrivals ?a_is_path ?l_is_path ?c_is_path ?k_is_path ?a_path_time ?l_path_time ?c_path_time ?k_path_time ?a_slowest_holds ?l_slowest_holds ?c_slowest_holds ?k_slowest_holds ?a_l_deck ?l_l_deck ?c_l_deck ?k_l_deck ?a_l_draw ?l_l_draw ?c_l_draw ?k_l_draw ?a_l_pick ?l_l_pick ?c_l_pick ?k_l_pick ?a_l_net ?l_l_net ?c_l_net ?k_l_net ?a_l_feeds ?l_l_feeds ?c_l_feeds ?k_l_feeds ?a_l_way ?l_l_way ?c_l_way ?k_l_way ?a_l_there_and_back ?l_l_there_and_back ?c_l_there_and_back ?k_l_there_and_back ?a_l_laying ?l_l_laying ?c_l_laying ?k_l_laying ?a_l_delays ?l_l_delays ?c_l_delays ?k_l_delays ?a_l_moved ?l_l_moved ?c_l_moved ?k_l_moved ?a_l_bring ?l_l_bring ?c_l_bring ?k_l_bring ?a_l_time ?l_l_time ?c_l_time ?k_l_time ?a_l_path_time ?l_l_path_time ?c_l_path_time ?k_l_path_time ?a_l_whole ?l_l_whole ?c_l_whole ?k_l_whole ?a_l_due ?l_l_due ?c_l_due ?k_l_due ?a_l_off ?l_l_off ?c_l_off ?k_l_off ?a_l_spoilt ?l_l_spoilt ?c_l_spoilt ?k_l_spoilt ?a_l_row_net ?l_l_row_net ?c_l_row_net ?k_l_row_net ?a_law ?l_law ?c_law ?k_law ?z_repr ?z_str ?z_all ?z_any ?z_isinstance ?z_len ?z_list ?z_range ?z_enumerate ?z_zip ?z_max ?z_tuple ?z_int ?z_bool ?z_divmod ?t_2 ?t_2a ?t_2b ?t_3 ?t_3a ?t_3b ?t_4 ?t_5
    (case a_feeds_of => k_is)
    (case l_feeds_of => k_is)
    (case c_feeds_of => k_is)
    (case k_feeds_of => k_is)
    (case a_brought => k_is)
    (case l_brought => k_is)
    (case c_brought => k_is)
    (case k_brought => k_is)
    (case a_own_delay => k_is)
    (case l_own_delay => k_is)
    (case c_own_delay => k_is)
    (case k_own_delay => k_is)
    (case a_arrivals_of => k_is)
    (case l_arrivals_of => k_is)
    (case c_arrivals_of => k_is)
    (case k_arrivals_of => k_is)
    (case a_path_to => k_is)
    (case l_path_to => k_is)
    (case c_path_to => k_is)
    (case k_path_to => k_is)
    (case a_slowest => k_is)
    (case l_slowest => k_is)
    (case c_slowest => k_is)
    (case k_slowest => k_is)
    (case a_is_natural => k_is)
    (case l_is_natural => k_is)
    (case c_is_natural => k_is)
    (case k_is_natural => k_is)
    (case a_is_whole => k_is)
    (case l_is_whole => k_is)
    (case c_is_whole => k_is)
    (case k_is_whole => k_is)
    (case a_is_tuple => k_is)
    (case l_is_tuple => k_is)
    (case c_is_tuple => k_is)
    (case k_is_tuple => k_is)
    (case a_are_arrivals => k_is)
    (case l_are_arrivals => k_is)
    (case c_are_arrivals => k_is)
    (case k_are_arrivals => k_is)
    (case a_is_path => k_is)
    (case l_is_path => k_is)
    (case c_is_path => k_is)
    (case k_is_path => k_is)
    (case a_path_time => k_is)
    (case l_path_time => k_is)
    (case c_path_time => k_is)
    (case k_path_time => k_is)
    (case a_slowest_holds => k_is)
    (case l_slowest_holds => k_is)
    (case c_slowest_holds => k_is)
    (case k_slowest_holds => k_is)
    (case a_l_deck => k_is)
    (case l_l_deck => k_is)
    (case c_l_deck => k_is)
    (case k_l_deck => k_is)
    (case a_l_draw => k_is)
    (case l_l_draw => k_is)
    (case c_l_draw => k_is)
    (case k_l_draw => k_is)
    (case a_l_pick => k_is)
    (case l_l_pick => k_is)
    (case c_l_pick => k_is)
    (case k_l_pick => k_is)
    (case a_l_net => k_is)
    (case l_l_net => k_is)
    (case c_l_net => k_is)
    (case k_l_net => k_is)
    (case a_l_feeds => k_is)
    (case l_l_feeds => k_is)
    (case c_l_feeds => k_is)
    (case k_l_feeds => k_is)
    (case a_l_way => k_is)
    (case l_l_way => k_is)
    (case c_l_way => k_is)
    (case k_l_way => k_is)
    (case a_l_there_and_back => k_is)
    (case l_l_there_and_back => k_is)
    (case c_l_there_and_back => k_is)
    (case k_l_there_and_back => k_is)
    (case a_l_laying => k_is)
    (case l_l_laying => k_is)
    (case c_l_laying => k_is)
    (case k_l_laying => k_is)
    (case a_l_delays => k_is)
    (case l_l_delays => k_is)
    (case c_l_delays => k_is)
    (case k_l_delays => k_is)
    (case a_l_moved => k_is)
    (case l_l_moved => k_is)
    (case c_l_moved => k_is)
    (case k_l_moved => k_is)
    (case a_l_bring => k_is)
    (case l_l_bring => k_is)
    (case c_l_bring => k_is)
    (case k_l_bring => k_is)
    (case a_l_time => k_is)
    (case l_l_time => k_is)
    (case c_l_time => k_is)
    (case k_l_time => k_is)
    (case a_l_path_time => k_is)
    (case l_l_path_time => k_is)
    (case c_l_path_time => k_is)
    (case k_l_path_time => k_is)
    (case a_l_whole => k_is)
    (case l_l_whole => k_is)
    (case c_l_whole => k_is)
    (case k_l_whole => k_is)
    (case a_l_due => k_is)
    (case l_l_due => k_is)
    (case c_l_due => k_is)
    (case k_l_due => k_is)
    (case a_l_off => k_is)
    (case l_l_off => k_is)
    (case c_l_off => k_is)
    (case k_l_off => k_is)
    (case a_l_spoilt => k_is)
    (case l_l_spoilt => k_is)
    (case c_l_spoilt => k_is)
    (case k_l_spoilt => k_is)
    (case a_l_row_net => k_is)
    (case l_l_row_net => k_is)
    (case c_l_row_net => k_is)
    (case k_l_row_net => k_is)
    (case a_law => k_is)
    (case l_law => k_is)
    (case c_law => k_is)
    (case k_law => k_is)
    (case z_repr => k_is)
    (case z_str => k_is)
    (case z_all => k_is)
    (case z_any => k_is)
    (case z_isinstance => k_is)
    (case z_len => k_is)
    (case z_list => k_is)
    (case z_range => k_is)
    (case z_enumerate => k_is)
    (case z_zip => k_is)
    (case z_max => k_is)
    (case z_tuple => k_is)
    (case z_int => k_is)
    (case z_bool => k_is)
    (case z_divmod => k_is)
    (case t_2 => k_is)
    (case t_2a => k_is)
    (case t_2b => (repeat (first | exact Paired.nil | refine Paired.cons ⟨_, rfl⟩ ?_)))
    (case t_3 => k_is)
    (case t_3a => k_is)
    (case t_3b => (repeat (first | exact Paired.nil | refine Paired.cons ⟨_, rfl⟩ ?_)))
    (case t_4 => k_is)
    (case t_5 => k_is)

