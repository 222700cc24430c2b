import PyProof.Rows.All
import Wide.All
import OpenK.AllK
import Wide.FinOn
import PyProof.ReprRoads
import HandS.ForMost
import HandS.ForExc
import HandS.IsInst
import HandS.Gcd
import HandS.Defaults
import HandS.MakeKw
import HandS.MakeKwOnly
import HandS.ExcInit
import HandS.ExcField
import HandS.Wide
import HandS.TupLe
import KE.KExcIs
import HandS.ExcIs
import HandS.DeepEq
import PySem.Challenge.RW_neverowing_k01_errors_of_the_package
set_option linter.all false
set_option maxRecDepth 100000
set_option maxHeartbeats 8000000
set_option exponentiation.threshold 20000
set_option Elab.async false
/-! Nv: what the laws of this program share. Part A: promises that know that no repr is under way; repr of plain data. -/
namespace Nv
open PySem PySem.Spec PyProof.Rows L2

/-! ### a promise kept where no repr is under way -/
structure FnG (P : Program) (w : World) (K : PySem.W.Frag) (mg : Str → Option Value) (base : Heap)
    (CX : CXT) (k : Nat) (f : Addr) (fd : FuncData) (ps : List Str) (sp : Sp) : Prop where
  len : ∀ vs H Q E, sp vs H Q E → vs.length = ps.length
  run : ∀ (A : Around) (outer : List Env) (s : Shared) (H : Hp) (args : Args) (us : List Value) (vs : List V)
    (Q : VK) (E : XK), Room k A → A.guards = some [] → Env0 P w K mg base A outer s H →
    BindsTo s fd args (ps.zip us) → Vals vs us → sp vs H Q E →
    codeAny (model P w) A (.call (.ref f) args) (CR CX outer P w H s Q E) s

section
variable {P : Program} {w : World} {K : PySem.W.Frag} {mg : Str → Option Value} {base : Heap} {CX : CXT}
  {k : Nat} {f : Addr} {fd : FuncData} {ps : List Str} {sp : Sp}

theorem FnG.of (F : FnOk P w K mg base CX k f fd ps sp) : FnG P w K mg base CX k f fd ps sp :=
  ⟨F.len, fun A o s H a us vs Q E r _ => F.run A o s H a us vs Q E r⟩

theorem FnG.mk_of {N : List Str} {x qual : Str} {st : Stmt} (F : Fun K x qual st f fd)
    (S : FnScope N ps (defScope st)) (len : ∀ vs H Q E, sp vs H Q E → vs.length = ps.length)
    (body : ∀ (cdv : Value) (A : Around) (outer : List Env) (s : Shared) (H : Hp) (vs : List V) (Q : VK) (E : XK),
      A.guards = some [] → Room k (A.deeper (envOfC qual (defScope st) s.heap.objs.size f cdv)) → sp vs H Q E →
      ∃ t, PSs (cxOf CX P w K mg base N qual (defScope st) f cdv A outer s H E) (defBody st) t ∧
        t { nx := fun _ H' => Q .non H', rt := Q } (start N vs) H) :
    FnG P w K mg base CX (k + 1) f fd ps sp := by
  obtain ⟨oc, od, kV, doc, pm, an, cdv, ct, osl, rfl, lk, hcd⟩ := F.ex
  refine ⟨len, fun A outer s H args us vs Q E room gd en bi rv q => ?_⟩
  have inS : K.In s.heap := en.mod.kin.keeps fun b o z => (en.bs b o z).1
  have noL : s.heap.NoLimit := en.mod.nolimit.keeps fun b o z => (en.bs b o z).1
  refine codeAny_call_function room.depth (inS _ _ lk) rfl S.co S.gen rfl (PySem.W.codeRec_of inS hcd) (bi _ _ _ _ ?_)
  refine wpAny_newFunctionEnv_cells S.kind (fun y hy => ?_) fun env he s1 ic => ?_
  · obtain ⟨n, v⟩ := y
    have mem := (List.of_mem_zip hy).1
    cases S.par n mem with
    | inl z => exact Or.inl z
    | inr z => exact Or.inr ⟨z, PySem.W.cellsFrom_some _ _ _ (Or.inl z)⟩
  · subst he
    refine ⟨noL.keeps ic.toInCall.keep, codeAny_func ?_⟩
    obtain ⟨t, ht, hq⟩ := body cdv A outer s H vs Q E gd (room.deeper _) q
    have J := inv_start (CX := CX) (E := E) S room.hd en (len _ _ _ _ q) rv ic
    have close : ∀ {σ' : L2.St} {H' : Hp} {v : V} {u : Value} {s' : Shared},
        Inv (cxOf CX P w K mg base N qual (defScope st) f cdv A outer s H E) [] σ' H' s' → RelV v u → Q v H' →
        CE outer P w H s Q u s' := fun I rel z => ⟨_, _, I.os, I.bare, I.base, I.hok, rel, z⟩
    refine wpAny_mono (ht.run [] s1 (start N vs) H _ J hq) (fun fl s' z => ?_) fun _ _ z => z
    cases fl with
    | ret u =>
      obtain ⟨v, σ', H', I, rel, z⟩ := z
      exact close I rel z
    | next =>
      obtain ⟨σ', H', I, z⟩ := z
      exact close (v := V.non) (u := Value.none) I rfl z
    | brk => exact False.elim z.choose_spec.choose_spec.2
    | cont => exact False.elim z.choose_spec.choose_spec.2
end

section
variable {X : Cx} {CX : CXT} {k : Nat} {f : Addr} {fd : FuncData} {ps : List Str} {sp : Sp} {dvs : List V}
  {ds : List Value} {E : XK} {x : Str} {p pos : Pos} {e : Expr} {es : List Expr} {t : TA}
/-- f(e, ..) of such a promise -/
theorem pe_callG (F : FnG X.prog X.w X.K X.mg X.base CX k f fd ps sp) (hr : Room k X.A) (gd : X.A.guards = some [])
    (hg : Gl X x) (hm : X.mg x = some (.ref f)) (hk : PySem.W.keepIn X.K (.ref f) = true)
    (hb : Binds X.K fd ps ds) (hd : Vals dvs ds) (hx : Passes CX X E) (ha : PA X (e :: es) t)
    (hdb : (x == ("__debug__" : Str)) = false := by decide)
    (he : starEach (e :: es) X.env = (false, eval e X.env) :: starEach es X.env := by rfl)
    (hpl : (backTo pos (starEach es X.env)).any (·.1) = false := by rfl) :
    PE X (.Call (.Name x p) (e :: es) [] pos) (tCall sp dvs E t) := by
  refine ⟨fun pins s σ H Q I h => wpAny_Call_Name_kw (ld_glob I hg hm ?_ hdb)⟩
  refine PySem.W.callWith_K (h₀ := X.base) I.ok.mod.kin hk
    (thn (ha.run pos pins s σ H _ I h) fun us s1 ⟨vs, H1, I1, r, q⟩ => ⟨I1.kIn, ?_⟩) he hpl
  have r2 : Vals (vs ++ dvs) (us ++ ds) := r.append hd
  have hl : (us ++ ds).length = ps.length := r2.length.symm.trans (F.len _ _ _ _ q)
  refine wpAny_call (codeAny_mono (F.run X.A X.stack s1 H1 ⟨us, []⟩ (us ++ ds) _ Q E hr gd I1.env0
    (hb s1 us I1.kIn hl) r2 q) fun r s' z => ?_)
  match r, z with
  | .error e, z => exact hx pins σ H1 s1 e s' I1 z
  | .ok (.ret u), z => exact I1.after z
  | .ok .next, z => exact False.elim z
  | .ok .brk, z => exact False.elim z
  | .ok .cont, z => exact False.elim z
end

/-! ### the law's own end, of such a promise; the address of sys.modules is taken -/
def Sys (K : PySem.W.Frag) (H : Hp) : Prop :=
  (∃ o, K.lookup sysModules = some o) ∨ ∃ o u, H sysModules = some (.frz o u)
theorem Sys.same {K : PySem.W.Frag} {H H' : Hp} (z : Sys K H) (k : Same H H') : Sys K H' := by
  rcases z with z | ⟨o, u, z⟩
  · exact Or.inl z
  · exact Or.inr ⟨o, u, k _ _ z⟩
theorem Sys.ne {X : Cx} {pins : List (Addr × Obj)} {σ : L2.St} {H : Hp} {s : Shared} (I : Inv X pins σ H s) (z : Sys X.K H)
    {a : Addr} {u : HO} (h : H a = some u) (nf : ∀ o v, u ≠ .frz o v) : a ≠ sysModules := fun e => by
  subst e
  rcases z with ⟨o, z⟩ | ⟨o, v, z⟩
  · have b := I.ok.mod.kin _ _ z
    rw [(I.bs _ _ b).2] at h
    exact nomatch h
  · rw [z] at h
    exact nf _ _ (Option.some.inj h).symm

theorem law_end {P : Program} {w : World} {K : PySem.W.Frag} {mg mb : Str → Option Value} {k : Nat} {fa a : Addr}
    {fd : FuncData} {x : Str} {sp : Sp} {s₁ : Shared} {vs : List Value} {ns : List Int}
    (KX : K.In s₁.heap) (hns : s₁.heap.Ns mainGlobals mg) (hb : s₁.heap.Ns builtinsNs mb)
    (hbb : ∀ x : Str, x ≠ "__name__" → mb x = bootBuiltins x) (hlim : s₁.heap.NoLimit) (hg : s₁.gens = #[])
    (ha : s₁.heap.get? a = some { cls := .type "list", data := .seq vs.toArray }) (hi : IntsAre vs ns)
    (hl : ns.length ≤ sizeLine) (hr : Room k callerA) (hsm : ∃ o, s₁.heap.get? sysModules = some o)
    (F : ∀ base : Heap, K.In base → base.Ns mainGlobals mg → FnG P w K mg base CX0 k fa fd [x] sp)
    (hbind : ∀ (s : Shared) (u : Value), BindsTo s fd ⟨[u], []⟩ [(x, u)])
    (hsp : ∀ H : Hp, Sys K H → SqL K H a (ns.map V.int) → sp [.ref a] H (fun v _ => v = .bl true) fun _ _ _ => False) :
    codeAny (model P w) callerA (.call (.ref fa) ⟨[.ref a], []⟩)
      (fun r s' => r = .ok (.ret (.bool true)) ∧ OldK s₁.heap s'.heap ∧ s'.os = s₁.os ∧ AllBare s'.gens) s₁ := by
  have rel := vals_ints hi
  have main : ∀ H : Hp, (∀ b, H b = none ∨ ∃ o u, H b = some (.frz o u)) → Sys K H → SqL K H a (ns.map V.int) →
      HOk P w H s₁.heap → (∀ b, H b ≠ none → b = a ∨ b = sysModules) → (∀ b, H b ≠ none → K.lookup b = none) →
      codeAny (model P w) callerA (.call (.ref fa) ⟨[.ref a], []⟩)
        (fun r s' => r = .ok (.ret (.bool true)) ∧ OldK s₁.heap s'.heap ∧ s'.os = s₁.os ∧ AllBare s'.gens) s₁ := by
    intro H only sys sq ok at1 noK
    have none_if : ∀ {b : Addr}, ¬ b = a → ¬ b = sysModules → H b = none := fun {b} h h' => by
      cases q : H b with
      | none => rfl
      | some u =>
        rcases at1 b (by rw [q]; exact fun z => nomatch z) with z | z
        · exact absurd z h
        · exact absurd z h'
    have down : ∀ {b : Addr} {o : Obj}, s₁.heap.get? b = some o → H b = none → (hidT s₁.heap H).get? b = some o :=
      fun z n => hidT_get z n
    have nsDown : ∀ {b : Addr} {m : Str → Option Value}, b ≠ sysModules → s₁.heap.Ns b m → (hidT s₁.heap H).Ns b m := fun {b m} ne z => by
      obtain ⟨o, es, ep, z1, z2, z3⟩ := z
      refine ⟨o, es, ep, down z1 (none_if (fun h => ?_) ne), z2, z3⟩
      subst h
      rw [ha] at z1
      obtain rfl := Option.some.inj z1
      exact absurd (show Data.seq vs.toArray _ = Data.dict es ep from z2) (fun q => nomatch q)
    have kinB : K.In (hidT s₁.heap H) := fun b o z => down (KX b o z) (by
      cases q : H b with
      | none => rfl
      | some u =>
        have y := noK b (by rw [q]; exact fun y => nomatch y)
        rw [y] at z
        exact absurd z (fun y => nomatch y))
    have md : Mod K mg (hidT s₁.heap H) :=
      ⟨kinB, nsDown (by decide) hns, ⟨mb, nsDown (by decide) hb, hbb⟩, by obtain ⟨mc, z1, z2⟩ := hlim; exact ⟨mc, nsDown (by decide) z1, z2⟩⟩
    have en : Env0 P w K mg (hidT s₁.heap H) callerA [] s₁ H :=
      ⟨rfl, md, fun b o z => of_hidT z, Nat.le_of_eq (hidT_size _ _), trivial,
        fun b z => absurd (show b ∈ ([] : List Addr) from z) (by simp), ok, .of_eq hg⟩
    refine codeAny_mono ((F _ kinB (nsDown (by decide) hns)).run callerA [] s₁ H ⟨[.ref a], []⟩ [.ref a] [.ref a] _ _ hr rfl en
      (hbind s₁ (.ref a)) (.cons rfl .nil) (hsp H sys sq)) fun r s' z => ?_
    match r, z with
    | .error _, z => exact False.elim z
    | .ok .next, z => exact False.elim z
    | .ok .brk, z => exact False.elim z
    | .ok .cont, z => exact False.elim z
    | .ok (.ret u), z =>
      obtain ⟨v, H', os, bare, un, ok', rv, q⟩ := z
      have q' : v = .bl true := q
      subst q'
      have hu : u = Value.bool true := rv
      subst hu
      refine ⟨rfl, OldK.of_keep fun b o z => ?_, os, bare⟩
      rcases only b with n | ⟨ob, xs, n⟩
      · exact un.keep b o z n (fun y => absurd (show b ∈ ([] : List Addr) from y) (by simp)) (by simp)
      · have y1 : s₁.heap.get? b = some ob := (ok b _ n).1
        have y2 : s'.heap.get? b = some ob := (ok' b _ (un.frzs b ob _ n)).1
        rw [z] at y1
        rw [y2, Option.some.inj y1]
  -- what stands at sys.modules' address
  obtain ⟨om, hom⟩ := hsm
  let fz : HO := .frz om (.ext fun h => h.get? sysModules = some om)
  have fzOk : ∀ H : Hp, ObjOk P w H s₁.heap sysModules fz := fun H =>
    ⟨hom, hom, ⟨om, hom⟩, fun h1 h2 z k => k _ z⟩
  let sz : HO := .frz { cls := .type "list", data := .seq vs.toArray } (.lst (ns.map V.int))
  have szOk : ∀ H : Hp, ObjOk P w H s₁.heap a sz := fun H =>
    ⟨ha, by rw [List.length_map]; exact hl, vs, _, rel, ha⟩
  let H : Hp := fun b => if b = a ∧ K.lookup a = none then some sz else if b = sysModules ∧ K.lookup sysModules = none then some fz else none
  have cs : ∀ b, (b = a ∧ K.lookup a = none ∧ H b = some sz) ∨ (b = sysModules ∧ K.lookup sysModules = none ∧ H b = some fz) ∨ H b = none := fun b => by
    by_cases h1 : b = a ∧ K.lookup a = none
    · exact Or.inl ⟨h1.1, h1.2, if_pos h1⟩
    · by_cases h2 : b = sysModules ∧ K.lookup sysModules = none
      · exact Or.inr (Or.inl ⟨h2.1, h2.2, (if_neg h1).trans (if_pos h2)⟩)
      · exact Or.inr (Or.inr ((if_neg h1).trans (if_neg h2)))
  refine main H (fun b => ?_) ?_ ?_ (fun b u z => ?_) (fun b z => ?_) (fun b z => ?_)
  · rcases cs b with ⟨_, _, h⟩ | ⟨_, _, h⟩ | h
    · exact Or.inr ⟨_, _, h⟩
    · exact Or.inr ⟨_, _, h⟩
    · exact Or.inl h
  · cases q : K.lookup sysModules with
    | some o => exact Or.inl ⟨o, q⟩
    | none =>
      rcases cs sysModules with ⟨_, _, h⟩ | ⟨_, _, h⟩ | h
      · exact Or.inr ⟨_, _, h⟩
      · exact Or.inr ⟨_, _, h⟩
      · exfalso
        by_cases h1 : sysModules = a ∧ K.lookup a = none
        · rw [show H sysModules = some sz from if_pos h1] at h
          exact nomatch h
        · rw [show H sysModules = some fz from (if_neg h1).trans (if_pos ⟨rfl, q⟩)] at h
          exact nomatch h
  · cases q : K.lookup a with
    | some o =>
      have z := KX a o q
      rw [ha] at z
      obtain rfl := Option.some.inj z
      exact Or.inr ⟨_, vs.toArray, _, q, rfl, rfl, rfl, by rw [List.size_toArray, hi.length]; exact hl, by simpa using rel⟩
    | none => exact Or.inl (Or.inr ⟨{ cls := .type "list", data := .seq vs.toArray }, if_pos ⟨rfl, q⟩⟩)
  · rcases cs b with ⟨e, _, h⟩ | ⟨e, _, h⟩ | h
    · rw [z] at h
      obtain rfl := Option.some.inj h
      rw [e]
      exact szOk H
    · rw [z] at h
      obtain rfl := Option.some.inj h
      rw [e]
      exact fzOk H
    · rw [z] at h
      exact nomatch h
  · rcases cs b with ⟨e, _, h⟩ | ⟨e, _, h⟩ | h
    · exact Or.inl e
    · exact Or.inr e
    · exact absurd h z
  · rcases cs b with ⟨e, l, h⟩ | ⟨e, l, h⟩ | h
    · rw [e]; exact l
    · rw [e]; exact l
    · exact absurd h z

theorem law_walk {l : PySem.W.OpenLaw} {n k : Nat} {q : Program} {loose : List Str} {XP : (Str → Option Value) → Heap → Prop}
    {YP : World → Heap → Prop} {d : DefRec} {K : Params → PySem.W.Frag} {sp : World → Sp} {x : Str}
    (hn : l.most = some n) (hn2 : n ≤ sizeLine) (hdf : d.params.defaults = []) (hr : Room k callerA)
    (him : importsNone q = true)
    (hY : ∀ (w : World) (h : Heap), YP w h → (K w.params).In h)
    (F : ∀ (w : World) (mg : Str → Option Value) (fa : Addr) (h : Heap), (K w.params).In h → h.Ns mainGlobals mg →
      mg d.name = some (.ref fa) → ∃ fd : FuncData, (∀ (s : Shared) (u : Value), BindsTo s fd ⟨[u], []⟩ [(x, u)]) ∧
        ∀ base : Heap, (K w.params).In base → base.Ns mainGlobals mg → FnG l.prog w (K w.params) mg base CX0 k fa fd [x] (sp w))
    (hsp : ∀ (w : World) (H : Hp) (a : Addr) (ns : List Int), ns.length ≤ n → Sys (K w.params) H → SqL (K w.params) H a (ns.map V.int) →
      sp w [.ref a] H (fun v _ => v = .bl true) fun _ _ _ => False) :
    PySem.W.WalkO q loose XP YP l.row.toRowW d [] (fun f vs => PySem.call f vs) := by
  refine Att.attach_call hn hdf fun w s₀ s₁ mg mb fa o pm cd doc a vs ns G Y ho hd hcd hmg hobj hints hlen hg => ?_
  have inK := hY w _ Y
  obtain ⟨fd, bi, run⟩ := F w mg fa _ inK G.T.g hmg
  have hsm : ∃ o, s₁.heap.get? sysModules = some o := by
    obtain ⟨mm, ⟨o, _, _, z, _⟩, _⟩ := (G.T.seer him).mods
    exact ⟨o, z⟩
  exact law_end inK G.T.g G.T.b G.T.builtins G.T.nolimit hg hobj hints (Nat.le_trans hlen hn2) hr hsm run bi
    fun H h1 h2 => hsp w H a ns hlen h1 h2
end Nv
/-! Nv, part B: data with dicts in it, and what repr says of it. -/
namespace Nv
open PySem PySem.Spec PyProof.Rows L2

def keyD : Key → PyData
  | .inl i => .int i
  | .inr x => .str x

mutual
inductive Dq (H : Hp) : V → PyData → Prop
  | non : Dq H .non .none
  | bl (b : Bool) : Dq H (.bl b) (.bool b)
  | int (i : Int) : Dq H (.int i) (.int i)
  | str (x : Str) : Dq H (.str x) (.str x)
  | lst {a : Addr} {xs : List V} {ds : List PyData} : H a = some (.lst xs) → DqAll H xs ds → Dq H (.ref a) (.list ds)
  | tup {a : Addr} {xs : List V} {ds : List PyData} : H a = some (.tup xs) → DqAll H xs ds → Dq H (.ref a) (.tuple ds)
  | dic {a : Addr} {kvs : List (Key × V)} {ds : List PyData} : H a = some (.dK kvs) → DqAll H (kvs.map (·.2)) ds →
      Dq H (.ref a) (.dict ((kvs.map fun p => keyD p.1).zip ds))
inductive DqAll (H : Hp) : List V → List PyData → Prop
  | nil : DqAll H [] []
  | cons {v : V} {vs : List V} {d : PyData} {ds : List PyData} : Dq H v d → DqAll H vs ds → DqAll H (v :: vs) (d :: ds)
end

mutual
theorem Dq.same {H H' : Hp} (k : Same H H') : ∀ {v : V} {d : PyData}, Dq H v d → Dq H' v d
  | _, _, .non => .non
  | _, _, .bl b => .bl b
  | _, _, .int i => .int i
  | _, _, .str x => .str x
  | _, _, .lst h t => .lst (k _ _ h) (DqAll.same k t)
  | _, _, .tup h t => .tup (k _ _ h) (DqAll.same k t)
  | _, _, .dic h t => .dic (k _ _ h) (DqAll.same k t)
theorem DqAll.same {H H' : Hp} (k : Same H H') : ∀ {vs : List V} {ds : List PyData}, DqAll H vs ds → DqAll H' vs ds
  | _, _, .nil => .nil
  | _, _, .cons a b => .cons (Dq.same k a) (DqAll.same k b)
end

theorem reads_keys {P : Program} {w : World} {h : Heap} : ∀ {es : List DictEntry} {vs : List (Key × Value)},
    Pairs (mixKind P w) es vs → ReadsAll h (es.map (·.key)) (vs.map fun p => keyD p.1) []
  | _, _, .nil => .nil
  | _, _, .cons (e := e) (kv := kv) h1 h2 t => by
    have tl := reads_keys (h := h) t
    have h1' : keyIs kv.1 e.key = true := h1
    rcases keyIs_shape h1' with ⟨i, tk, z1, z2⟩ | ⟨x, tk, z1, z2⟩
    · have hd : Reads h e.key (keyD kv.1) [] := by rw [z1, z2]; exact .int i tk
      exact ReadsAll.cons hd tl
    · have hd : Reads h e.key (keyD kv.1) [] := by rw [z1, z2]; exact .str x tk
      exact ReadsAll.cons hd tl
theorem pairs_vals {P : Program} {w : World} : ∀ {es : List DictEntry} {vs : List (Key × Value)},
    Pairs (mixKind P w) es vs → es.map (·.val) = vs.map (·.2)
  | _, _, .nil => rfl
  | _, _, .cons h1 h2 t => by
    rw [List.map_cons, List.map_cons, h2, pairs_vals t]
theorem kv_keys : ∀ {kvs : List (Key × V)} {vs : List (Key × Value)}, KV kvs vs →
    (kvs.map fun p => keyD p.1) = vs.map fun p => keyD p.1
  | _, _, .nil => rfl
  | _, _, .cons h t => by
    rw [List.map_cons, List.map_cons, kv_keys t, h.1]
theorem kv_vals : ∀ {kvs : List (Key × V)} {vs : List (Key × Value)}, KV kvs vs → Vals (kvs.map (·.2)) (vs.map (·.2))
  | _, _, .nil => .nil
  | _, _, .cons h t => .cons h.2 (kv_vals t)
theorem dqAll_len {H : Hp} : ∀ {vs : List V} {ds : List PyData}, DqAll H vs ds → vs.length = ds.length
  | _, _, .nil => rfl
  | _, _, .cons _ t => congrArg Nat.succ (dqAll_len t)
theorem map_fst_zip {α β : Type} : ∀ (xs : List α) (ys : List β), xs.length = ys.length → (xs.zip ys).map (·.1) = xs
  | [], [], _ => rfl
  | x :: xs, y :: ys, h => by
    rw [List.zip_cons_cons, List.map_cons, map_fst_zip xs ys (Nat.succ.inj h)]
theorem map_snd_zip {α β : Type} : ∀ (xs : List α) (ys : List β), xs.length = ys.length → (xs.zip ys).map (·.2) = ys
  | [], [], _ => rfl
  | x :: xs, y :: ys, h => by
    rw [List.zip_cons_cons, List.map_cons, map_snd_zip xs ys (Nat.succ.inj h)]

section
variable {X : Cx} {pins : List (Addr × Obj)} {σ : L2.St} {H : Hp} {s : Shared}
mutual
theorem Dq.reads (I : Inv X pins σ H s) (h1 : Sys X.K H) : ∀ {v : V} {d : PyData} {u : Value}, Dq H v d → RelV v u →
    ∃ as, Reads s.heap u d as ∧ sysModules ∉ as
  | _, _, _, .non, r => by
    cases r
    exact ⟨_, .none, by simp⟩
  | _, _, _, .bl b, r => by
    cases r
    exact ⟨_, .bool b, by simp⟩
  | _, _, _, .int i, r => by
    obtain ⟨t, rfl⟩ := r
    exact ⟨_, .int i t, by simp⟩
  | _, _, _, .str x, r => by
    obtain ⟨t, rfl⟩ := r
    exact ⟨_, .str x t, by simp⟩
  | _, _, _, .lst (a := a) hs ha, r => by
    cases r
    obtain ⟨_, its, n, rv, ho⟩ : _ ∧ _ := I.hok a _ hs
    obtain ⟨as, hr, na⟩ := DqAll.reads I h1 ha rv
    have ne : a ≠ sysModules := h1.ne I hs (fun _ _ z => nomatch z)
    refine ⟨_, Reads.list ho rfl rfl hr, fun z => ?_⟩
    rcases List.mem_cons.mp z with z | z
    · exact ne z.symm
    · exact na z
  | _, _, _, .tup (a := a) hs ha, r => by
    cases r
    obtain ⟨_, its, rv, o, ho, hc, n, hd⟩ : _ ∧ _ := I.hok a _ hs
    obtain ⟨as, hr, na⟩ := DqAll.reads I h1 ha rv
    exact ⟨_, Reads.tuple ho hc hd hr, na⟩
  | _, _, _, .dic (a := a) (kvs := kvs) (ds := ds) hs ha, r => by
    cases r
    obtain ⟨_, _, vs, rel, o, es, ep, ho, ex, hd, _, pr, _⟩ : _ ∧ _ := I.hok a _ hs
    obtain ⟨bs, hr, nb⟩ := DqAll.reads I h1 ha (kv_vals rel)
    have ne : a ≠ sysModules := h1.ne I hs (fun _ _ z => nomatch z)
    have ll : (kvs.map fun p => keyD p.1).length = ds.length := by
      rw [List.length_map, ← dqAll_len ha, List.length_map]
    have k1 : ReadsAll s.heap (es.toList.map (·.key)) (((kvs.map fun p => keyD p.1).zip ds).map (·.1)) [] := by
      rw [map_fst_zip _ _ ll, kv_keys rel]
      exact reads_keys pr
    have k2 : ReadsAll s.heap (es.toList.map (·.val)) (((kvs.map fun p => keyD p.1).zip ds).map (·.2)) bs := by
      rw [map_snd_zip _ _ ll, pairs_vals pr]
      exact hr
    refine ⟨_, Reads.dict ho ex.1 hd k1 k2, fun z => ?_⟩
    rcases List.mem_cons.mp z with z | z
    · exact ne z.symm
    · exact nb z
theorem DqAll.reads (I : Inv X pins σ H s) (h1 : Sys X.K H) : ∀ {vs : List V} {ds : List PyData} {us : List Value},
    DqAll H vs ds → Vals vs us → ∃ as, ReadsAll s.heap us ds as ∧ sysModules ∉ as
  | _, _, _, .nil, r => by
    cases r
    exact ⟨_, .nil, by simp⟩
  | _, _, _, .cons a b, r => by
    cases r with
    | cons r1 r2 =>
      obtain ⟨as, q1, n1⟩ := Dq.reads I h1 a r1
      obtain ⟨bs, q2, n2⟩ := DqAll.reads I h1 b r2
      exact ⟨_, .cons q1 q2, fun z => by
        rcases List.mem_append.mp z with z | z
        · exact n1 z
        · exact n2 z⟩
end
end

/-- repr(v), v a list, a tuple or a dict of plain data -/
def rRepr (K : PySem.W.Frag) : List V → Hp → VK → Prop := fun vs H Q => ∃ (a : Addr) (d : PyData), vs = [.ref a] ∧ Sys K H ∧ Dq H (.ref a) d ∧
  d.showable = true ∧ d.depth ≤ 30 ∧ d.shown.length ≤ sizeLine ∧ Q (.str d.shown) H
theorem call_reprD {X : Cx} {k : Nat} (hr : Room k X.A) (gd : X.A.guards = some []) : CallR X (.builtin "repr") (rRepr X.K) := by
  intro pins s σ H vs us Q I r h
  obtain ⟨a, d, rfl, h1, dq, sh, dp, sz, q⟩ := h
  obtain ⟨u, rfl, ru⟩ := vals1 r
  cases ru
  obtain ⟨as, rd, na⟩ := Dq.reads I h1 dq rfl
  have un := hr.un
  exact repr_of_reads' rd sh (fun _ => na) gd (by omega) (fun _ _ z => z) (fun h' u tk kp => ⟨.str d.shown, H, I.kept kp, ⟨u, rfl⟩, q⟩) sz
end Nv
/-! Nv, part C: instances made where what is raised is wished for at the slots; errors with a what; kinds. -/
namespace Nv
open PySem PySem.Spec PyProof.Rows L2

section
variable {X : Cx} {CX : CXT} {k n : Nat} {f C : Addr} {fd : FuncData} {ps ks : List Str} {sp : Sp} {E : L2.St → XK} {x : Str}
  {p pos : Pos} {e : Expr} {es : List Expr} {kws : List Keyword} {t tk : TA} {g : List Value → List Value → List Value}
  {gV : List V → List V → List V}
/-- C(e, .., k = v, ..); what is raised is wished for at the slots -/
def tMkS (C : Addr) (n m : Nat) (sp : Sp) (gV : List V → List V → List V) (E : L2.St → XK) (t tk : TA) : TE := fun σ H Q =>
  t σ H fun vs H1 => tk σ H1 fun zs H2 => vs.length = n ∧ zs.length = m ∧ ∀ x dx, H2 x = none → H2 dx = none → dx ≠ x →
    sp (gV (.ref x :: vs) zs) (upd (upd H2 dx (.own x)) x (.ins C dx [])) (fun v H3 => v = .non ∧ Q (.ref x) H3) (E σ)
theorem run_mkS {pins : List (Addr × Obj)} {σ : L2.St} {H : Hp} {s : Shared} {Q : VK} {us ws : List Value} {vs zs : List V}
    (M : Mk X.K C f) (F : FnOk X.prog X.w X.K X.mg X.base CX k f fd ps sp) (hr : Room (k + 1) X.A)
    (hb : KBn X.K fd ps (n + 1) ks g gV) (hx : PassesAt CX X σ (E σ)) (I : Inv X pins σ H s) (r : Vals vs us) (rz : Vals zs ws)
    (l1 : vs.length = n) (l2 : zs.length = ks.length)
    (h : ∀ x dx, H x = none → H dx = none → dx ≠ x → sp (gV (.ref x :: vs) zs) (upd (upd H dx (.own x)) x (.ins C dx []))
      (fun v H2 => v = .non ∧ Q (.ref x) H2) (E σ)) :
    wpAny (model X.prog X.w) X.A (call (.ref C) us (ks.zip ws)) (EP X pins σ Q) X.xe s := by
  have big := h (s.heap.objs.size + 1) s.heap.objs.size (I.hok.fresh (Nat.le_succ _)) (I.hok.fresh (Nat.le_refl _))
    (Nat.ne_of_lt (Nat.lt_succ_self _))
  have J := Inv.made (C := C) I
  have q1 : Vals (V.ref (s.heap.objs.size + 1) :: vs) (Value.ref (s.heap.objs.size + 1) :: us) := .cons rfl r
  have n1 : (Value.ref (s.heap.objs.size + 1) :: us).length = n + 1 := q1.length.symm.trans (congrArg Nat.succ l1)
  have n2 : ws.length = ks.length := rz.length.symm.trans l2
  refine wpAny_call (make_map (f := f) I.kIn M.makes M.init (beq_iff_eq.mp M.fn) (codeAny_mono
    (F.run _ X.stack _ _ ⟨Value.ref (s.heap.objs.size + 1) :: us, ks.zip ws⟩ (g (Value.ref (s.heap.objs.size + 1) :: us) ws) _ _ (E σ)
      (hr.make C us (ks.zip ws)) (J.env0.make C us (ks.zip ws)) (hb.to _ (Value.ref (s.heap.objs.size + 1) :: us) ws J.kIn n1 n2)
      (hb.rel q1 rz) big) fun r s' z => ?_))
  match r, z with
  | .error e, z => exact hx pins _ _ e s' J z
  | .ok .next, z => exact False.elim z
  | .ok .brk, z => exact False.elim z
  | .ok .cont, z => exact False.elim z
  | .ok (.ret u), z =>
    obtain ⟨v, H', I3, rv, ev, q3⟩ := J.after z
    subst ev
    exact ⟨rv, ⟨V.ref (s.heap.objs.size + 1), H', I3, rfl, q3⟩⟩
theorem pe_mkS (M : Mk X.K C f) (F : FnOk X.prog X.w X.K X.mg X.base CX k f fd ps sp) (hr : Room (k + 1) X.A) (hg : Gl X x)
    (hm : X.mg x = some (.ref C)) (hb : KBn X.K fd ps (n + 1) ks g gV) (hx : ∀ σ, PassesAt CX X σ (E σ))
    (ha : PA X (e :: es) t) (hkw : PK X kws tk) (hall : (backToKw pos (keywordEach kws X.env)).all (·.1.isSome) = true := by rfl)
    (hks : (backToKw pos (keywordEach kws X.env)).filterMap (·.1) = ks := by rfl) (hdb : (x == ("__debug__" : Str)) = false := by decide)
    (he : starEach (e :: es) X.env = (false, eval e X.env) :: starEach es X.env := by rfl)
    (hpl : ((backTo pos (starEach (e :: es) X.env)).any (·.1) || (backToKw pos (keywordEach kws X.env)).any (·.1.isNone)) = false := by rfl) :
    PE X (.Call (.Name x p) (e :: es) kws pos) (tMkS C n ks.length sp gV E t tk) := by
  refine ⟨fun pins s σ H Q I h => wpAny_Call_Name_kw (ld_glob I hg hm ?_ hdb)⟩
  refine PySem.W.callWith_KW (h₀ := X.base) I.ok.mod.kin M.kp hall
    (thn (ha.run pos pins s σ H _ I h) fun us s1 ⟨vs, H1, I1, r, q⟩ => ?_) hpl he
  refine thn (hkw.run pos pins s1 σ H1 _ I1 q) fun ws s2 ⟨zs, H2, I2, rz, l1, l2, q2⟩ => ⟨I2.kIn, ?_⟩
  rw [hks]
  exact run_mkS M F hr hb (hx σ) I2 r rz l1 l2 q2
theorem pe_mkS0 (M : Mk X.K C f) (F : FnOk X.prog X.w X.K X.mg X.base CX k f fd ps sp) (hr : Room (k + 1) X.A) (hg : Gl X x)
    (hm : X.mg x = some (.ref C)) (hb : KBn X.K fd ps 1 ks g gV) (hx : ∀ σ, PassesAt CX X σ (E σ)) (hkw : PK X kws tk)
    (hall : (backToKw pos (keywordEach kws X.env)).all (·.1.isSome) = true := by rfl)
    (hks : (backToKw pos (keywordEach kws X.env)).filterMap (·.1) = ks := by rfl) (hdb : (x == ("__debug__" : Str)) = false := by decide)
    (hpl : ((backTo pos (starEach [] X.env)).any (·.1) || (backToKw pos (keywordEach kws X.env)).any (·.1.isNone)) = false := by rfl) :
    PE X (.Call (.Name x p) [] kws pos) (tMkS C 0 ks.length sp gV E tNil tk) := by
  refine ⟨fun pins s σ H Q I h => wpAny_Call_Name_kw (ld_glob I hg hm ?_ hdb)⟩
  refine PySem.W.callWith_KW0 (h₀ := X.base) I.ok.mod.kin M.kp hall ?_ hpl
  refine thn (hkw.run pos pins s σ H _ I h) fun ws s2 ⟨zs, H2, I2, rz, l1, l2, q2⟩ => ⟨I2.kIn, ?_⟩
  rw [hks]
  exact run_mkS (us := []) (vs := []) M F hr hb (hx σ) I2 .nil rz rfl l2 q2
end

/-! ### kinds -/
def isI : V → Bool
  | .int _ => true
  | _ => false
/-- what isinstance of int and of bool say of x: is it an integer and no flag -/
structure KdOf (K : PySem.W.Frag) (H : Hp) (x : V) : Prop where
  ex : ∃ (t : Value) (b1 b2 : Bool), TyX K H x t ∧ PySem.W.kitOne K t (.type "int") = some b1 ∧
    PySem.W.kitOne K t (.type "bool") = some b2 ∧ (b1 && !b2) = isI x
theorem kd_non {K : PySem.W.Frag} {H : Hp} : KdOf K H .non :=
  ⟨_, false, false, .base .non, kit_ty (by decide +kernel), kit_ty (by decide +kernel), rfl⟩
theorem kd_bl {K : PySem.W.Frag} {H : Hp} (b : Bool) : KdOf K H (.bl b) :=
  ⟨_, true, true, .base (.bl b), kit_ty (by decide +kernel), kit_ty (by decide +kernel), rfl⟩
theorem kd_int {K : PySem.W.Frag} {H : Hp} (i : Int) : KdOf K H (.int i) :=
  ⟨_, true, false, .base (.int i), kit_ty (by decide +kernel), kit_ty (by decide +kernel), rfl⟩
theorem kd_str {K : PySem.W.Frag} {H : Hp} (x : Str) : KdOf K H (.str x) :=
  ⟨_, false, false, .base (.str x), kit_ty (by decide +kernel), kit_ty (by decide +kernel), rfl⟩
theorem kd_lst {K : PySem.W.Frag} {H : Hp} {a : Addr} {xs : List V} (h : H a = some (.lst xs)) : KdOf K H (.ref a) :=
  ⟨_, false, false, .base (.lst h), kit_ty (by decide +kernel), kit_ty (by decide +kernel), rfl⟩
theorem kd_tup {K : PySem.W.Frag} {H : Hp} {a : Addr} {xs : List V} (h : H a = some (.tup xs)) : KdOf K H (.ref a) :=
  ⟨_, false, false, .base (.tup h), kit_ty (by decide +kernel), kit_ty (by decide +kernel), rfl⟩
theorem kd_dK {K : PySem.W.Frag} {H : Hp} {a : Addr} {kvs : List (Key × V)} (h : H a = some (.dK kvs)) : KdOf K H (.ref a) :=
  ⟨_, false, false, .base (.dK h), kit_ty (by decide +kernel), kit_ty (by decide +kernel), rfl⟩
/-- what isinstance asks of an own class -/
structure IsC (K : PySem.W.Frag) (C : Addr) : Prop where
  cl : Cls K C
  ha : PySem.W.findIn K (.ref C) "__class__" = some (some (.builtin "object.__class__"))
  hn : PySem.W.specialIn K (.builtin "object.__class__") "__get__" = some (some (.builtin "getset_descriptor.__get__"))
  htk : PySem.W.takesIn K (.builtin "object.__class__") = some true
  hm : PySem.W.mroIn K C (.type "object") = some true
  ki : PySem.W.kitOne K (.ref C) (.type "int") = some false
  kb : PySem.W.kitOne K (.ref C) (.type "bool") = some false
theorem kd_ins {K : PySem.W.Frag} {H : Hp} {a C dx : Addr} {fs : List (Str × V)} (c : IsC K C) (h : H a = some (.ins C dx fs)) : KdOf K H (.ref a) :=
  ⟨_, false, false, .base (.ins h c.cl c.ha c.hn c.htk c.hm), c.ki, c.kb, rfl⟩
theorem TyOf.same {K : PySem.W.Frag} {H H' : Hp} {x : V} {t : Value} (k : Same H H') (h : TyOf K H x t) : TyOf K H' x t := by
  cases h with
  | non => exact .non
  | bl b => exact .bl b
  | int i => exact .int i
  | str y => exact .str y
  | flt y => exact .flt y
  | lst e => exact .lst (k _ _ e)
  | frz e => exact .frz (k _ _ e)
  | tup e => exact .tup (k _ _ e)
  | dK e => exact .dK (k _ _ e)
  | dT e => exact .dT (k _ _ e)
  | ins e cl ha hn htk hm => exact .ins (k _ _ e) cl ha hn htk hm
theorem TyX.same {K : PySem.W.Frag} {H H' : Hp} {x : V} {t : Value} (k : Same H H') (h : TyX K H x t) : TyX K H' x t := by
  cases h with
  | base h => exact .base (TyOf.same k h)
  | byt b => exact .byt b
  | set e => exact .set (k _ _ e)
  | kList e c => exact .kList e c
  | kTuple e c => exact .kTuple e c
  | kDict e c => exact .kDict e c
  | fTuple e => exact .fTuple (k _ _ e)
  | fDict e => exact .fDict (k _ _ e)
theorem KdOf.same {K : PySem.W.Frag} {H H' : Hp} {x : V} (k : Same H H') (h : KdOf K H x) : KdOf K H' x := by
  obtain ⟨t, b1, b2, a, b, c, d⟩ := h.ex
  exact ⟨t, b1, b2, TyX.same k a, b, c, d⟩

/-! ### errors with a what -/
def whatF (v : V) : List (Str × V) := [("what", v)]
/-- what the written part says of an own error class without an __init__ of its own -/
structure ExC (K : PySem.W.Frag) (mg : Str → Option Value) (x : Str) (C fI : Addr) : Prop where
  gC : mg x = some (.ref C)
  ox : OexC K C
  iC : PySem.W.findIn K (.ref C) "__init__" = some (some (.ref fI))
  tI : PySem.W.typeIn K (.ref fI) = some (.type "function")
  no : PySem.W.findIn K (.ref C) "what" = some none
  xf : XfC K C
  te : PySem.W.exmOne K (.ref C) (.ref C) = some true
/-- __init__(self, what) of the errors -/
def spExI (K : PySem.W.Frag) : Sp := fun vs H Q _ => ∃ (a C : Addr) (v : V), vs = [.ref a, v] ∧ OexC K C ∧
  PySem.W.findIn K (.ref C) "what" = some none ∧ H a = some (exo a C none) ∧
  ∀ dx, H dx = none → dx ≠ a → Q .non (upd (upd H dx (exd dx (whatF v))) a (exo a C (some dx)))
theorem heap_back {H : Hp} {a dx : Addr} {o1 o2 o3 o4 : HO} (ha : H a = none) (ne : dx ≠ a) :
    upd (L2.del (upd (upd (upd H a o1) dx o2) a o3) a) dx o4 = upd H dx o4 := by
  funext b
  by_cases h : b = dx
  · subst h
    rw [upd_same, upd_same]
  · rw [upd_ne h, upd_ne h]
    by_cases h2 : b = a
    · subst h2
      rw [L2.del_same, ha]
    · rw [L2.del_ne h2, upd_ne h2, upd_ne h, upd_ne h2]
theorem mk_err {K : PySem.W.Frag} {mg : Str → Option Value} {x : Str} {C fI : Addr} (T : ExC K mg x C fI) {te : TE} {σ : L2.St} {H : Hp} {Q : XK}
    (h : te σ H fun v H1 => ∀ d, H1 d = none → Q (.ref C) (some d) (upd H1 d (.xd (whatF v)))) (mono : ∀ {A B : V → Hp → Prop}, (∀ v H, A v H → B v H) → te σ H A → te σ H B) :
    tMkO C (spExI K) [] (tCons te tNil) σ H Q := by
  refine mono (fun v H1 q => ?_) h
  show [v].length ≤ 1000 ∧ _
  refine ⟨by show 1 ≤ 1000; decide, fun a ha => ⟨a, C, v, rfl, T.ox, T.no, upd_same, fun dx hdx ne => ⟨rfl, dx, whatF v, upd_same, ?_, ?_, ?_⟩⟩⟩
  · rw [upd_ne ne, upd_same]
  · rw [upd_ne ne] at hdx
    exact hdx
  · rw [upd_ne ne] at hdx
    rw [heap_back ha ne]
    exact q dx hdx
end Nv
/-! Nv, part D: the laws' own helpers: a cell, the generator's state, a draw; how what stands is carried over draws. -/
namespace Nv
open PySem PySem.Spec PyProof.Rows L2
/-- what the built-ins' names hold -/
structure Blt (mg : Str → Option Value) : Prop where
  len : mg "len" = none
  int : mg "int" = none
  bool : mg "bool" = none
  abs : mg "abs" = none
  isi : mg "isinstance" = none
  rep : mg "repr" = none
  rng : mg "range" = none
/-- a cell of the script -/
def spCel (K : PySem.W.Frag) : Sp := fun vs H Q _ => ∃ (a : Addr) (ns : List Int) (j : Nat),
  vs = [.ref a, .int (j : Int)] ∧ SqL K H a (ns.map V.int) ∧ Q (.int (ns.getD j 0)) H
/-- the generator's state -/
def spSta : Sp := fun vs H Q _ => ∃ (n : Int), vs = [.int n] ∧
  ∀ (p : Addr) (a b c : Int), H p = none → Q (.ref p) (upd H p (.lst [.int a, .int b, .int c]))
/-- a draw: some number below many -/
def spTak : Sp := fun vs H Q _ => ∃ (p : Addr) (a b c m : Int), vs = [.ref p, .int m] ∧ 0 < m ∧ m < 1073741824 ∧
  H p = some (.lst [.int a, .int b, .int c]) ∧
  ∀ (d a' b' c' : Int), 0 ≤ d → d < m → Q (.int d) (upd H p (.lst [.int a', .int b', .int c']))
theorem same_new {H : Hp} {p dx : Addr} {o1 o2 : HO} (hp : H p = none) (hd : H dx = none) : Same H (upd (upd H dx o1) p o2) := fun b o e => by
  rw [upd_ne (ne_of_none e hp), upd_ne (ne_of_none e hd)]
  exact e
theorem same_upd {H : Hp} {p : Addr} {o : HO} (hp : H p = none) : Same H (upd H p o) := fun b u e => by
  rw [upd_ne (ne_of_none e hp)]
  exact e

/-- a law's def: nothing is let out, no repr is under way -/
theorem FnG.mk0 {P : Program} {w : World} {K : PySem.W.Frag} {mg : Str → Option Value} {base : Heap} {k : Nat} {f : Addr} {fd : FuncData}
    {N ps : List Str} {sp : Sp} {x qual : Str} {st : Stmt} (F : Fun K x qual st f fd)
    (S : FnScope N ps (defScope st)) (len : ∀ vs H Q E, sp vs H Q E → vs.length = ps.length)
    (body : ∀ (cdv : Value) (A : Around) (outer : List Env) (s : Shared) (H : Hp) (vs : List V) (Q : VK) (E : XK),
      A.guards = some [] → Room k (A.deeper (envOfC qual (defScope st) s.heap.objs.size f cdv)) → sp vs H Q E →
      ∃ t, PSs (cxOf CX0 P w K mg base N qual (defScope st) f cdv A outer s H E).nox (defBody st) t ∧
        t { nx := fun _ H' => Q .non H', rt := Q } (start N vs) H) :
    FnG P w K mg base CX0 (k + 1) f fd ps sp :=
  FnG.mk_of F S len fun cdv A outer s H vs Q E gd hr q => by
    obtain ⟨t, h1, h2⟩ := body cdv A outer s H vs Q E gd hr q
    exact ⟨t, h1.nox, h2⟩

/-- G stands beside the generator's state at st -/
structure Dr (G : Hp) (st : Addr) (H : Hp) : Prop where
  same : Same G H
  free : G st = none
  at_ : ∃ a b c : Int, H st = some (.lst [.int a, .int b, .int c])
theorem Dr.mono {G : Hp} {st : Addr} {H H' : Hp} (d : Dr G st H) (k : Same H H') : Dr G st H' := by
  obtain ⟨a, b, c, h⟩ := d.at_
  exact ⟨d.same.trans k, d.free, a, b, c, k _ _ h⟩
theorem Dr.put {G : Hp} {st : Addr} {H : Hp} {a b c : Int} (d : Dr G st H) : Dr G st (upd H st (.lst [.int a, .int b, .int c])) :=
  ⟨fun x o e => by rw [upd_ne (ne_of_none e d.free)]; exact d.same x o e, d.free, a, b, c, upd_same⟩
/-- something new that is to stand -/
theorem Dr.new {G : Hp} {st : Addr} {H : Hp} {q : Addr} {o : HO} (d : Dr G st H) (n : H q = none) : Dr (upd G q o) st (upd H q o) := by
  obtain ⟨a, b, c, h⟩ := d.at_
  have ne : st ≠ q := ne_of_none h n
  refine ⟨fun x u e => ?_, ?_, a, b, c, ?_⟩
  · by_cases hx : x = q
    · subst hx
      rw [upd_same] at e ⊢
      exact e
    · rw [upd_ne hx] at e ⊢
      exact d.same x u e
  · rw [upd_ne ne]
    exact d.free
  · rw [upd_ne ne]
    exact h
theorem Dr.news {G : Hp} {st : Addr} {H : Hp} {q : Addr} {o : HO} (d : Dr G st H) (n : H q = none) : Same G (upd G q o) :=
  same_upd (d.same.free n)
theorem Dr.add {G : Hp} {st : Addr} {H : Hp} {q : Addr} {o : HO} (d : Dr G st H) (h : H q = some o) (ne : st ≠ q) : Dr (upd G q o) st H := by
  refine ⟨fun x u e => ?_, ?_, d.at_⟩
  · by_cases hx : x = q
    · subst hx
      rw [upd_same] at e
      rw [h]
      exact e
    · rw [upd_ne hx] at e
      exact d.same x u e
  · rw [upd_ne ne]
    exact d.free
theorem Dr.ne {G : Hp} {st : Addr} {H : Hp} {q : Addr} (d : Dr G st H) (n : H q = none) : st ≠ q := by
  obtain ⟨a, b, c, h⟩ := d.at_
  exact ne_of_none h n
theorem Dr.start {H : Hp} {st : Addr} {a b c : Int} (n : H st = none) : Dr H st (upd H st (.lst [.int a, .int b, .int c])) :=
  ⟨same_upd n, n, a, b, c, upd_same⟩
/-- a draw is read -/
theorem take_read {G : Hp} {st : Addr} {H : Hp} {m : Int} {Q : VK} {E : XK} (d : Dr G st H) (m0 : 0 < m) (m1 : m < 1073741824)
    (h : ∀ (z : Int) (H' : Hp), 0 ≤ z → z < m → Dr G st H' → Q (.int z) H') : spTak [.ref st, .int m] H Q E := by
  obtain ⟨a, b, c, e⟩ := d.at_
  exact ⟨st, a, b, c, m, rfl, m0, m1, e, fun z a' b' c' z0 z1 => h z _ z0 z1 d.put⟩
theorem atI_in {xs : List V} {z : Int} (z0 : 0 ≤ z) (z1 : z < (xs.length : Int)) : ∃ v, atI xs z = some v ∧ v ∈ xs := by
  have lt : z.toNat < xs.length := by omega
  refine ⟨xs[z.toNat], at_of (j := z.toNat) (by omega) (List.getElem?_eq_getElem lt), List.getElem_mem lt⟩
end Nv
/-! Nv, part E: from the facts of the written part to the words of parts C and D. -/
namespace Nv
open PySem PySem.Spec PyProof.Rows L2
theorem funD_mk {K : PySem.W.Frag} {x qual : Str} {st : Stmt} {f T : Addr} {o : Obj} {its : List Value} {n : Nat} {dvs : List V} {oc : Value} {od an : Option Addr} {osl : Array (Option Value)} {kV doc pm cdv ct : Value}
    (l : K.lookup f = some ⟨oc, od, .func (PySem.W.fnOf x qual (defArgs st) (defBody st) (defScope st) (.ref T) kV doc pm an cdv ct), osl⟩)
    (c : PySem.W.codeIn K cdv qual = true) (k : PySem.W.keepIn K (.ref f) = true) (lT : K.lookup T = some o) (oT : o.data = .seq its.toArray n) (r : Vals dvs its) (ne : dvs ≠ []) :
    FunD K x qual (defArgs st) (defBody st) (defScope st) dvs [] f (PySem.W.fnOf x qual (defArgs st) (defBody st) (defScope st) (.ref T) kV doc pm an cdv ct) :=
  ⟨⟨oc, od, _, kV, doc, pm, an, cdv, ct, osl, rfl, l, c, Or.inr ⟨ne, T, o, its, n, rfl, lT, oT, r⟩, Or.inl rfl⟩, k⟩
theorem exm_self {K : PySem.W.Frag} {S : Addr} (h1 : PySem.W.subIn K (.ref S) (.type "BaseException") = some true) (h2 : PySem.W.isClsIn K S = true)
    (h3 : PySem.W.typeIn K (.ref S) = some (.type "type")) (h4 : PySem.W.subIn K (.ref S) (.ref S) = some true) :
    PySem.W.exmOne K (.ref S) (.ref S) = some true := by
  have e1 : (PySem.W.subIn K (.ref S) (.type "BaseException") == some true) = true := by rw [h1] <;> rfl
  have e2 : ((PySem.W.clsIn K S).isSome && PySem.W.typeIn K (.ref S) == some (.type "type")) = true := by
    have z : (PySem.W.clsIn K S).isSome = true := h2
    rw [z, h3] <;> rfl
  unfold PySem.W.exmOne
  rw [if_pos e1]
  unfold PySem.W.kitCls
  exact (if_pos e2).trans h4
theorem kit_sub {K : PySem.W.Frag} {C : Addr} {T : String} {b : Bool} (h : PySem.W.subIn K (.ref C) (.type T) = some b) (m : PySem.W.kitMeta T = true) :
    PySem.W.kitOne K (.ref C) (.type T) = some b := by
  have z : ((Value.ref C) == (Value.type T)) = false := by rfl
  unfold PySem.W.kitOne
  rw [z]
  unfold PySem.W.kitCls
  exact (if_neg Bool.false_ne_true).trans ((if_pos m).trans h)
/-- the facts of an own error class over another one over ValueError -/
theorem exC_mk {K : PySem.W.Frag} {mg : Str → Option Value} {x : Str} {C fI : Addr} {nm q : Str} {N : Addr} {bs bm : List Value} {sn : List Str} {sub : List Value} {ab : Bool}
    {col : Option Bool} {dd : Option Addr} {m0 m1 m2 m3 m5 : Option Value} (gC : mg x = some (.ref C))
    (xL : K.lookup C = some (excClassObj nm q C N bs bm true sn sub ab col dd m0 m1 m2 m3 m5 "ValueError.__new__"))
    (rV : PySem.HandSPX.refsVE bm = true) (sa : PySem.W.findIn K (.ref C) "__setattr__" = some (some (.builtin "object.__setattr__")))
    (ga : PySem.W.findIn K (.ref C) "__getattribute__" = some (some (.builtin "BaseException.__getattribute__"))) (gg : PySem.W.findIn K (.ref C) "__getattr__" = some none)
    (no : PySem.W.findIn K (.ref C) "what" = some none) (iC : PySem.W.findIn K (.ref C) "__init__" = some (some (.ref fI)))
    (tI : PySem.W.typeIn K (.ref fI) = some (.type "function")) (kC : PySem.W.keepIn K (.ref C) = true) (eC : PySem.W.subIn K (.ref C) (.type "BaseException") = some true)
    (tC : PySem.W.typeIn K (.ref C) = some (.type "type")) (hC : PySem.W.hasDictIn K C = true) (cC : PySem.W.isClsIn K C = true)
    (sC : PySem.W.subIn K (.ref C) (.ref C) = some true) : ExC K mg x C fI :=
  ⟨gC, ⟨⟨nm, q, N, bs, bm, sn, sub, ab, col, dd, m0, m1, m2, m3, m5, xL, rV⟩, sa, eC, tC, kC⟩, iC, tI, no, ⟨ga, gg, eC, hC⟩, exm_self eC cC tC sC⟩
end Nv
/-! Nv, part F: operators that an own class defines. -/
namespace Nv
open PySem PySem.Spec PyProof.Rows L2

theorem int_add_no (a : Int) (t : Tok) (l : Addr) (C dx : Addr) :
    Meets (Builtin.«int.__add__» ⟨[.int a t, .ref l], []⟩) (fun _ R s => s.heap.get? l = some (PySem.W.instObj C dx) ∧ R (.ok (.ret Value.notImplemented)) s) :=
  .of_wp fun prog w A R s h => by
    obtain ⟨hp, g, d, tk, os⟩ := s
    obtain ⟨hl, h⟩ := h
    unfold PySem.W.instObj at hl
    wp_walk
    exact ⟨_, rfl, h⟩
theorem int_sub_no (a : Int) (t : Tok) (l : Addr) (C dx : Addr) :
    Meets (Builtin.«int.__sub__» ⟨[.int a t, .ref l], []⟩) (fun _ R s => s.heap.get? l = some (PySem.W.instObj C dx) ∧ R (.ok (.ret Value.notImplemented)) s) :=
  .of_wp fun prog w A R s h => by
    obtain ⟨hp, g, d, tk, os⟩ := s
    obtain ⟨hl, h⟩ := h
    unfold PySem.W.instObj at hl
    wp_walk
    exact ⟨_, rfl, h⟩
theorem int_mul_no (a : Int) (t : Tok) (l : Addr) (C dx : Addr) :
    Meets (Builtin.«int.__mul__» ⟨[.int a t, .ref l], []⟩) (fun _ R s => s.heap.get? l = some (PySem.W.instObj C dx) ∧ R (.ok (.ret Value.notImplemented)) s) :=
  .of_wp fun prog w A R s h => by
    obtain ⟨hp, g, d, tk, os⟩ := s
    obtain ⟨hl, h⟩ := h
    unfold PySem.W.instObj at hl
    wp_walk
    exact ⟨_, rfl, h⟩

section
open PySem.W
variable {prog : Program} {w : World} {A : Around} {E : Value → Shared → Prop} {s : Shared} {K : Frag} {x C L f g : Addr} {h₀ : Heap} {m : Str → Option Value} {ox : Obj} {od : Option Obj} {i : Int} {t : Tok}
/-- an int on the left of an own instance: int's own method declines, the reflected one answers -/
theorem int_left {op : Operator} {fo ro : Option Value} {Q : Value → Shared → Prop} (F : Fr h₀ L s.heap m) (X₀ : K.In h₀) (I : InstAt s.heap x ox C od) (hc : selfFirst K C = true)
    (hs : findIn K (.ref C) (PySem.dunder op.info.2) = some (some (.ref f))) (hr : findIn K (.ref C) (dunderR op.info.2) = some (some (.ref g))) (hg : isFn K (.ref g) = true)
    (h1 : findIn K (.type "int") (PySem.dunder op.info.2) = some fo) (h2 : findIn K (.type "int") (dunderR op.info.2) = some ro)
    (hl : ((fo.isSome && !isSeqSlot fo) || (ro.isSome && !isSeqSlot ro)) = true) (hsub : subIn K (.ref C) (.type "int") = some false)
    (no : ∀ Q' : Option Value → Shared → Prop, Q' none s → wpAny (model prog w) A (tryMethod (.int i t) (PySem.dunder op.info.2) (.ref x)) Q' E s)
    (h : wpAny (model prog w) A (call (.ref g) [.ref x, .int i t]) (PySem.W.CmpBack Q) E s) : wpAny (model prog w) A (binaryOp op (.int i t) (.ref x)) Q E s := by
  have X := X₀.keeps F.keep
  obtain ⟨cd, rest, hcd, hm⟩ := ksp_first hc
  rcases hi : op.info with ⟨sym, nm'⟩
  rw [hi] at hs hr h1 h2 no
  dsimp only at hs hr h1 h2 no
  have one := ksp_try X I hr hg h
  obtain ⟨hh, gg, d, tt, os⟩ := s
  have L1 : Looks (model prog w) hh (typeOf (.ref x)) (.ref C) := I.type
  have L2 : Looks (model prog w) hh (typeOf (.int i t)) (.type "int") := Looks.of_pure rfl
  have L3 : Looks (model prog w) hh (fillsNumberSlot (.ref C) nm') true := fills_K X hcd hm hs
  have L4 : Looks (model prog w) hh (fillsNumberSlot (.type "int") nm') ((fo.isSome && !isSeqSlot fo) || (ro.isSome && !isSeqSlot ro)) := ksp_fillsT X h1 h2
  rw [hl] at L4
  have L5 : Looks (model prog w) hh (isSubtype (.ref C) (.type "int")) false := looks_subIn X hsub
  have L7 : Looks (model prog w) hh (numberSlotInPython (.type "int") nm') false := Looks.of_pure rfl
  have hne : (Value.type "int" == Value.ref C) = false := Bool.eq_false_iff.mpr fun q => by cases beq_iff_eq.mp q
  simp only [binaryOp, hi]
  refine wpAny_holding (wpAny_bind ?_)
  unfold binaryOp1
  refine wpAny_bind (L2.at (wpAny_bind (L1.at (wpAny_bind (L4.at ?_)))))
  simp only [hne, Bool.false_eq_true, if_false]
  refine wpAny_bind (L3.at ?_)
  simp only [Bool.and_self, if_true]
  refine wpAny_bind (L5.at ?_)
  simp only [Bool.false_eq_true, if_false, pure_bind, Bool.not_false, Bool.and_self, if_true]
  refine wpAny_bind (L7.at ?_)
  simp only [Bool.false_eq_true, if_false, pure_bind, if_true]
  refine wpAny_bind (no _ ?_)
  refine wpAny_bind (wpAny_mono one (fun r s' hr' => ?_) fun _ _ e => e)
  obtain ⟨v, rfl, hq⟩ := hr'
  exact wpAny_bind (wpAny_rule (wpAny_pure (wpAny_pure hq)))
end

/-- what the written part says of an own class's operator -/
structure OpC (K : PySem.W.Frag) (C : Addr) (op : Operator) (f g : Addr) : Prop where
  first : PySem.W.selfFirst K C = true
  fd : PySem.W.findIn K (.ref C) (PySem.dunder op.info.2) = some (some (.ref f))
  fn : PySem.W.isFn K (.ref f) = true
  rd : PySem.W.findIn K (.ref C) (dunderR op.info.2) = some (some (.ref g))
  rn : PySem.W.isFn K (.ref g) = true
  sl : ∃ fo ro, PySem.W.findIn K (.type "int") (PySem.dunder op.info.2) = some fo ∧ PySem.W.findIn K (.type "int") (dunderR op.info.2) = some ro ∧
    ((fo.isSome && !isSeqSlot fo) || (ro.isSome && !isSeqSlot ro)) = true
  sub1 : PySem.W.subIn K (.type "int") (.ref C) = some false
  sub2 : PySem.W.subIn K (.ref C) (.type "int") = some false

theorem OpR.or {X : Cx} {f : Value → Value → Sem Value} {r1 r2 : R2} (a : OpR X f r1) (b : OpR X f r2) : OpR X f (fun x y H Q => r1 x y H Q ∨ r2 x y H Q) :=
  fun pins s σ H x y v u Q I rx ry h => h.elim (a pins s σ H x y v u Q I rx ry) (b pins s σ H x y v u Q I rx ry)
theorem UnR.or {X : Cx} {f : Value → Sem Value} {r1 r2 : V → Hp → VK → Prop} (a : UnR X f r1) (b : UnR X f r2) : UnR X f (fun x H Q => r1 x H Q ∨ r2 x H Q) :=
  fun pins s σ H x v Q I rx h => h.elim (a pins s σ H x v Q I rx) (b pins s σ H x v Q I rx)
section
variable {X : Cx} {CX : CXT} {k : Nat} {f g C : Addr} {fd : FuncData} {ps : List Str} {sp : Sp} {E : XK} {op : Operator}
theorem run_own {pins : List (Addr × Obj)} {σ : L2.St} {H : Hp} {s : Shared} {Q : VK} {us : List Value} {vs : List V}
    (F : FnOk X.prog X.w X.K X.mg X.base CX k f fd ps sp) (hr : Room k X.A) (hb : Binds X.K fd ps []) (hx : Passes CX X E)
    (I : Inv X pins σ H s) (r : Vals vs us) (h : sp vs H Q E) :
    wpAny (model X.prog X.w) X.A (call (.ref f) us) (PySem.W.CmpBack (EP X pins σ Q)) X.xe s := by
  refine wpAny_mono (run_fn F hr hb .nil hx I r (by rw [List.append_nil]; exact h)) (fun u s' z => ?_) fun _ _ z => z
  obtain ⟨v, H', I', rv, q⟩ := z
  have ne : u ≠ .notImplemented := fun e => by
    subst e
    cases v with
    | non => exact nomatch (show Value.notImplemented = Value.none from rv)
    | bl b => exact nomatch (show Value.notImplemented = Value.bool b from rv)
    | int i => obtain ⟨_, z⟩ := rv; exact nomatch z
    | str y => obtain ⟨_, z⟩ := rv; exact nomatch z
    | byt y => obtain ⟨_, z⟩ := rv; exact nomatch z
    | flt y => obtain ⟨_, z⟩ := rv; exact nomatch z
    | ref a => exact nomatch (show Value.notImplemented = Value.ref a from rv)
    | ty n => exact nomatch (show Value.notImplemented = Value.type n from rv)
  cases u <;> first | exact absurd rfl ne | exact ⟨v, H', I', rv, q⟩
/-- a op b, a an instance of the class at C, b one or an int: a's own method -/
def rOwn (C : Addr) (sp : Sp) (E : XK) : R2 := fun x y H Q => ∃ a dx fs, x = .ref a ∧ H a = some (.ins C dx fs) ∧
  ((∃ b dy gs, y = .ref b ∧ H b = some (.ins C dy gs)) ∨ ∃ j, y = .int j) ∧ sp [x, y] H Q E
theorem op_own (T : OpC X.K C op f g) (F : FnOk X.prog X.w X.K X.mg X.base CX k f fd ps sp) (hr : Room k X.A) (hb : Binds X.K fd ps []) (hx : Passes CX X E) :
    OpR X (binaryOp op) (rOwn C sp E) := by
  intro pins s σ H x y v u Q I rx ry h
  obtain ⟨a, dx, fs, rfl, ha, hy, q⟩ := h
  cases rx
  obtain ⟨mA, J, _⟩ := ins_get I.hok ha
  obtain ⟨od, J, _⟩ := J.look
  obtain ⟨m, hF⟩ := I.fr
  rcases hy with ⟨b, dy, gs, rfl, hb'⟩ | ⟨j, rfl⟩
  · cases ry
    obtain ⟨mB, J', _⟩ := ins_get I.hok hb'
    obtain ⟨od', J', _⟩ := J'.look
    exact PySem.W.binop_K hF I.ok.mod.kin J J'.type T.first T.fd T.fn (run_own (vs := [.ref a, .ref b]) F hr hb hx I (.cons rfl (.cons rfl .nil)) q)
  · obtain ⟨t, rfl⟩ := ry
    obtain ⟨fo, ro, h1, h2, _⟩ := T.sl
    exact PySem.W.ksp_binT (T := "int") hF I.ok.mod.kin J rfl T.first T.fd T.fn T.rd (Or.inr ⟨_, rfl⟩) h1 h2 T.sub1
      (run_own (vs := [.ref a, .int j]) F hr hb hx I (.cons rfl (.cons ⟨t, rfl⟩ .nil)) q)
/-- i op a, i an int: a's reflected method -/
def rRef (C : Addr) (sp : Sp) (E : XK) : R2 := fun x y H Q => ∃ i a dx fs, x = .int i ∧ y = .ref a ∧ H a = some (.ins C dx fs) ∧ sp [y, x] H Q E
theorem op_ref (T : OpC X.K C op f g) (F : FnOk X.prog X.w X.K X.mg X.base CX k g fd ps sp) (hr : Room k X.A) (hb : Binds X.K fd ps []) (hx : Passes CX X E)
    (no : ∀ (A : Around) (i : Int) (t : Tok) (l dx : Addr) (s : Shared) (E' : Value → Shared → Prop) (Q' : Option Value → Shared → Prop), s.heap.get? l = some (PySem.W.instObj C dx) → Q' none s →
      wpAny (model X.prog X.w) A (tryMethod (.int i t) (PySem.dunder op.info.2) (.ref l)) Q' E' s) :
    OpR X (binaryOp op) (rRef C sp E) := by
  intro pins s σ H x y v u Q I rx ry h
  obtain ⟨i, a, dx, fs, rfl, rfl, ha, q⟩ := h
  obtain ⟨t, rfl⟩ := rx
  cases ry
  obtain ⟨mA, J, _⟩ := ins_get I.hok ha
  have ob := J.obj
  obtain ⟨od, J, _⟩ := J.look
  obtain ⟨m, hF⟩ := I.fr
  obtain ⟨fo, ro, h1, h2, h3⟩ := T.sl
  exact int_left hF I.ok.mod.kin J T.first T.fd T.rd T.rn h1 h2 h3 T.sub2 (fun Q' z => no _ i t a dx s _ Q' ob z)
    (run_own (vs := [.ref a, .int i]) F hr hb hx I (.cons rfl (.cons ⟨t, rfl⟩ .nil)) q)
/-- - a -/
def rNegO (C : Addr) (sp : Sp) (E : XK) : V → Hp → VK → Prop := fun x H Q => ∃ a dx fs, x = .ref a ∧ H a = some (.ins C dx fs) ∧ sp [x] H Q E
theorem un_own (hs : PySem.W.findIn X.K (.ref C) "__neg__" = some (some (.ref f))) (hf : PySem.W.isFn X.K (.ref f) = true)
    (F : FnOk X.prog X.w X.K X.mg X.base CX k f fd ps sp) (hr : Room k X.A) (hb : Binds X.K fd ps []) (hx : Passes CX X E) : UnR X (unaryOp .USub) (rNegO C sp E) := by
  intro pins s σ H x v Q I rx h
  obtain ⟨a, dx, fs, rfl, ha, q⟩ := h
  cases rx
  obtain ⟨mA, J, _⟩ := ins_get I.hok ha
  obtain ⟨od, J, _⟩ := J.look
  obtain ⟨m, hF⟩ := I.fr
  exact PySem.W.ksp_neg hF I.ok.mod.kin J hs hf (run_fn (vs := [.ref a]) F hr hb .nil hx I (.cons rfl .nil) (by rw [List.append_nil]; exact q))
end
end Nv
/-! Nv, part G: an int on the left of an own instance: int's own method declines. -/
namespace Nv
open PySem PySem.Spec PyProof.Rows L2
theorem nb_add {prog : Program} {w : World} {A : Around} {i : Int} {t : Tok} {l : Addr} {s : Shared} {E' : Value → Shared → Prop} {Q' : Option Value → Shared → Prop}
    (hc : wpAny (model prog w) A (call (.builtin "int.__add__") [.int i t, .ref l]) (fun v s' => v = .notImplemented ∧ Q' none s') E' s) :
    wpAny (model prog w) A (tryMethod (.int i t) (PySem.dunder "add") (.ref l)) Q' E' s := by
  refine wpAny_tryMethod_declines (T := "int") (id := "int.__add__") ?_ ?_ ?_
  · exact typeIs_int s i t
  · exact F.slot_int_add
  · exact hc
theorem no_add {prog : Program} {w : World} {C : Addr} (A : Around) (i : Int) (t : Tok) (l dx : Addr) (s : Shared) (E' : Value → Shared → Prop) (Q' : Option Value → Shared → Prop)
    (h : s.heap.get? l = some (PySem.W.instObj C dx)) (q : Q' none s) : wpAny (model prog w) A (tryMethod (.int i t) (PySem.dunder Operator.Add.info.2) (.ref l)) Q' E' s := by
  refine nb_add ?_
  refine call_meets F.slot_int_add (typeIs_int s i t) F.entry_int_add (F.args_int_add_2 _ _) (int_add_no i t l C dx) ?_
  exact ⟨h, rfl, q⟩
theorem nb_sub {prog : Program} {w : World} {A : Around} {i : Int} {t : Tok} {l : Addr} {s : Shared} {E' : Value → Shared → Prop} {Q' : Option Value → Shared → Prop}
    (hc : wpAny (model prog w) A (call (.builtin "int.__sub__") [.int i t, .ref l]) (fun v s' => v = .notImplemented ∧ Q' none s') E' s) :
    wpAny (model prog w) A (tryMethod (.int i t) (PySem.dunder "sub") (.ref l)) Q' E' s := by
  refine wpAny_tryMethod_declines (T := "int") (id := "int.__sub__") ?_ ?_ ?_
  · exact typeIs_int s i t
  · exact F.slot_int_sub
  · exact hc
theorem no_sub {prog : Program} {w : World} {C : Addr} (A : Around) (i : Int) (t : Tok) (l dx : Addr) (s : Shared) (E' : Value → Shared → Prop) (Q' : Option Value → Shared → Prop)
    (h : s.heap.get? l = some (PySem.W.instObj C dx)) (q : Q' none s) : wpAny (model prog w) A (tryMethod (.int i t) (PySem.dunder Operator.Sub.info.2) (.ref l)) Q' E' s := by
  refine nb_sub ?_
  refine call_meets F.slot_int_sub (typeIs_int s i t) F.entry_int_sub (F.args_int_sub_2 _ _) (int_sub_no i t l C dx) ?_
  exact ⟨h, rfl, q⟩
theorem nb_mul {prog : Program} {w : World} {A : Around} {i : Int} {t : Tok} {l : Addr} {s : Shared} {E' : Value → Shared → Prop} {Q' : Option Value → Shared → Prop}
    (hc : wpAny (model prog w) A (call (.builtin "int.__mul__") [.int i t, .ref l]) (fun v s' => v = .notImplemented ∧ Q' none s') E' s) :
    wpAny (model prog w) A (tryMethod (.int i t) (PySem.dunder "mul") (.ref l)) Q' E' s := by
  refine wpAny_tryMethod_declines (T := "int") (id := "int.__mul__") ?_ ?_ ?_
  · exact typeIs_int s i t
  · exact F.slot_int_mul
  · exact hc
theorem no_mul {prog : Program} {w : World} {C : Addr} (A : Around) (i : Int) (t : Tok) (l dx : Addr) (s : Shared) (E' : Value → Shared → Prop) (Q' : Option Value → Shared → Prop)
    (h : s.heap.get? l = some (PySem.W.instObj C dx)) (q : Q' none s) : wpAny (model prog w) A (tryMethod (.int i t) (PySem.dunder Operator.Mult.info.2) (.ref l)) Q' E' s := by
  refine nb_mul ?_
  refine call_meets F.slot_int_mul (typeIs_int s i t) F.entry_int_mul (F.args_int_mul_2 _ _) (int_mul_no i t l C dx) ?_
  exact ⟨h, rfl, q⟩
end Nv
/-! Nv, part M: fractions in lowest terms; how long the search for a common divisor goes on. -/
namespace Nv
/-- the common divisor, with the sign of the bottom -/
def com (a b : Int) : Int := if b > 0 then ((Nat.gcd a.natAbs b.natAbs : Nat) : Int) else -((Nat.gcd a.natAbs b.natAbs : Nat) : Int)
theorem com_ne {a b : Int} (h : b ≠ 0) : com a b ≠ 0 := by
  have z : Nat.gcd a.natAbs b.natAbs ≠ 0 := fun e => h (Int.natAbs_eq_zero.mp (Nat.gcd_eq_zero_iff.mp e).2)
  unfold com
  split <;> omega
theorem com_le {a b : Int} (h : b ≠ 0) : (com a b).natAbs ≤ b.natAbs := by
  have z : Nat.gcd a.natAbs b.natAbs ≤ b.natAbs := Nat.gcd_le_right _ (Nat.pos_of_ne_zero fun e => h (Int.natAbs_eq_zero.mp e))
  unfold com
  split <;> omega
/-- t / b is n / d in lowest terms -/
structure RS (n d t b : Int) : Prop where
  pos : 0 < b
  cop : Nat.gcd t.natAbs b.natAbs = 1
  eq : t * d = n * b
  lt : t.natAbs ≤ n.natAbs
  lb : b.natAbs ≤ d.natAbs
theorem rs_com {a b : Int} (hb : b ≠ 0) : RS a b (a.fdiv (com a b)) (b.fdiv (com a b)) := by
  have cn := com_ne (a := a) hb
  obtain ⟨x, hx⟩ : ((Nat.gcd a.natAbs b.natAbs : Nat) : Int) ∣ a := Int.ofNat_dvd_left.mpr (Nat.gcd_dvd_left _ _)
  obtain ⟨y, hy⟩ : ((Nat.gcd a.natAbs b.natAbs : Nat) : Int) ∣ b := Int.ofNat_dvd_left.mpr (Nat.gcd_dvd_right _ _)
  generalize hg : Nat.gcd a.natAbs b.natAbs = g at hx hy
  have g0 : g ≠ 0 := fun e => hb (by rw [hy, e]; simp)
  have cop : Nat.gcd x.natAbs y.natAbs = 1 := by
    have e : Nat.gcd a.natAbs b.natAbs = g * Nat.gcd x.natAbs y.natAbs := by
      rw [hx, hy, Int.natAbs_mul, Int.natAbs_mul, Int.natAbs_natCast, Nat.gcd_mul_left]
    rw [hg] at e
    exact Nat.eq_of_mul_eq_mul_left (Nat.pos_of_ne_zero g0) (by rw [Nat.mul_one]; exact e.symm)
  have ax : a.natAbs = g * x.natAbs := by rw [hx, Int.natAbs_mul, Int.natAbs_natCast]
  have by' : b.natAbs = g * y.natAbs := by rw [hy, Int.natAbs_mul, Int.natAbs_natCast]
  have lx : x.natAbs ≤ a.natAbs := by rw [ax]; exact Nat.le_mul_of_pos_left _ (Nat.pos_of_ne_zero g0)
  have ly : y.natAbs ≤ b.natAbs := by rw [by']; exact Nat.le_mul_of_pos_left _ (Nat.pos_of_ne_zero g0)
  by_cases p : b > 0
  · have ec : com a b = (g : Int) := by unfold com; rw [if_pos p, hg]
    have e1 : a.fdiv (com a b) = x := by rw [ec]; rw (occs := [1]) [hx]; exact Int.mul_fdiv_cancel_left _ (by omega)
    have e2 : b.fdiv (com a b) = y := by rw [ec]; rw (occs := [1]) [hy]; exact Int.mul_fdiv_cancel_left _ (by omega)
    rw [e1, e2]
    have y0 : 0 < y := by
      rw [hy] at p
      exact Int.pos_of_mul_pos_right p (by omega)
    exact ⟨y0, cop, by rw [hx, hy]; grind, lx, ly⟩
  · have ec : com a b = -(g : Int) := by unfold com; rw [if_neg p, hg]
    have e1 : a.fdiv (com a b) = -x := by
      rw [ec, show a = (-(g : Int)) * (-x) by rw [hx]; grind]
      exact Int.mul_fdiv_cancel_left _ (by omega)
    have e2 : b.fdiv (com a b) = -y := by
      rw [ec, show b = (-(g : Int)) * (-y) by rw [hy]; grind]
      exact Int.mul_fdiv_cancel_left _ (by omega)
    rw [e1, e2]
    have y0 : 0 < -y := by
      have p' : 0 < (g : Int) * (-y) := by
        have : b < 0 := by omega
        rw [hy] at this
        grind
      exact Int.pos_of_mul_pos_right p' (by omega)
    exact ⟨y0, by rw [Int.natAbs_neg, Int.natAbs_neg]; exact cop, by rw [hx, hy]; grind, by rw [Int.natAbs_neg]; exact lx, by rw [Int.natAbs_neg]; exact ly⟩
theorem rs_of {n d t b : Int} (hd : d ≠ 0) (pos : 0 < b) (cop : Nat.gcd t.natAbs b.natAbs = 1) (eq : t * d = n * b) : RS n d t b := by
  have e : t.natAbs * d.natAbs = n.natAbs * b.natAbs := by rw [← Int.natAbs_mul, ← Int.natAbs_mul, eq]
  have d0 : 0 < d.natAbs := by omega
  have b0 : 0 < b.natAbs := by omega
  refine ⟨pos, cop, eq, ?_, ?_⟩
  · by_cases n0 : n.natAbs = 0
    · rw [n0, Nat.zero_mul] at e
      rcases Nat.mul_eq_zero.mp e with h | h <;> omega
    · refine Nat.le_of_dvd (by omega) (Nat.Coprime.dvd_of_dvd_mul_right (n := b.natAbs) cop ?_)
      exact ⟨d.natAbs, e.symm⟩
  · refine Nat.le_of_dvd d0 (Nat.Coprime.dvd_of_dvd_mul_left (m := t.natAbs) (Nat.Coprime.symm cop) ?_)
    exact ⟨n.natAbs, by rw [e, Nat.mul_comm]⟩
theorem bd_mul {a b : Int} {m n : Nat} (ha : a.natAbs < 2 ^ m) (hb : b.natAbs < 2 ^ n) : (a * b).natAbs < 2 ^ (m + n) := by
  rw [Int.natAbs_mul, Nat.pow_add]
  exact Nat.mul_lt_mul'' ha hb
theorem bd_add {a b : Int} {m : Nat} (ha : a.natAbs < 2 ^ m) (hb : b.natAbs < 2 ^ m) : (a + b).natAbs < 2 ^ (m + 1) := by
  have := Int.natAbs_add_le a b
  rw [Nat.pow_succ]
  omega
theorem bd_le {a : Nat} {m n : Nat} (h : a < 2 ^ m) (l : m ≤ n) : a < 2 ^ n := Nat.lt_of_lt_of_le h (Nat.pow_le_pow_right (by decide) l)

/-! ### Euclid's way in so many turns -/
def fibs : Nat → Nat × Nat
  | 0 => (0, 1)
  | n + 1 => ((fibs n).2, (fibs n).1 + (fibs n).2)
def fib (n : Nat) : Nat := (fibs n).1
theorem fib_add (n : Nat) : fib (n + 2) = fib n + fib (n + 1) := rfl
/-- k turns are enough from here -/
def Eu (k : Nat) (a b : Int) : Prop := b = 0 ∨ (b < a ∧ (b < fib (k + 1) ∨ a < fib (k + 2)))
theorem Eu.step {k : Nat} {a b : Int} (b0 : 0 < b) (h : Eu (k + 1) a b) : Eu k b (a % b) := by
  have r0 : 0 ≤ a % b := Int.emod_nonneg _ (by omega)
  have r1 : a % b < b := Int.emod_lt_of_pos _ b0
  rcases h with h | ⟨hl, h⟩
  · omega
  · refine Or.inr ⟨r1, ?_⟩
    by_cases c : b < fib (k + 2)
    · exact Or.inr c
    · refine Or.inl ?_
      rcases h with h | h
      · exact absurd h c
      · have e : fib (k + 3) = fib (k + 1) + fib (k + 2) := fib_add (k + 1)
        have q : a = b * (a / b) + a % b := by rw [Int.add_comm]; exact (Int.emod_add_mul_ediv a b).symm
        have q1 : 1 ≤ a / b := Int.le_ediv_of_mul_le b0 (by omega)
        have q2 : b ≤ b * (a / b) := by
          have := Int.mul_le_mul_of_nonneg_left q1 (Int.le_of_lt b0)
          omega
        have e' : (fib (k + 1 + 2) : Int) = fib (k + 1) + fib (k + 2) := by rw [show k + 1 + 2 = k + 3 from rfl, e]; omega
        omega
theorem Eu.zero {a b : Int} (b0 : 0 ≤ b) (h : Eu 0 a b) : b = 0 := by
  rcases h with h | ⟨hl, h⟩
  · exact h
  · have e1 : fib (0 + 1) = 1 := rfl
    have e2 : fib (0 + 2) = 1 := rfl
    rcases h with h | h <;> omega
theorem Eu.mono {k : Nat} {a b : Int} (h : b = 0) : Eu k a b := Or.inl h
end Nv
/-! Nv, part H: an own ==; a method by keyword alone; lists that grow beside the generator's state. -/
namespace Nv
open PySem PySem.Spec PyProof.Rows L2
section
variable {X : Cx} {CX : CXT} {k n : Nat} {f C : Addr} {fd : FuncData} {ps ks : List Str} {sp : Sp} {E : XK}
/-- a == y by the own method of a -/
def rEqO (K : PySem.W.Frag) (C : Addr) (sp : Sp) (E : XK) : R2 := fun x y H Q => ∃ a dx fs t, x = .ref a ∧ H a = some (.ins C dx fs) ∧ TyX K H y t ∧
  PySem.W.notFirst K C t = true ∧ sp [x, y] H Q E
theorem op_eqO (hs : PySem.W.findIn X.K (.ref C) "__eq__" = some (some (.ref f))) (hf : PySem.W.isFn X.K (.ref f) = true)
    (F : FnOk X.prog X.w X.K X.mg X.base CX k f fd ps sp) (hr : Room k X.A) (hb : Binds X.K fd ps []) (hx : Passes CX X E) :
    OpR X (compareOp .Eq) (rEqO X.K C sp E) := by
  intro pins s σ H x y v u Q I rx ry h
  obtain ⟨a, dx, fs, t, rfl, ha, ty, nf, q⟩ := h
  cases rx
  obtain ⟨mA, J, _⟩ := ins_get I.hok ha
  obtain ⟨od, J, _⟩ := J.look
  obtain ⟨m, hF⟩ := I.fr
  obtain ⟨Pz, Z, pz, _⟩ := kit_of I ry ty
  show wpAny (model X.prog X.w) X.A (richCompare .Eq (.ref a) u) (EP X pins σ Q) X.xe s
  exact PySem.W.cmp_K (op := .Eq) hr.units0 hF I.ok.mod.kin J (Z.ty _ _ I.kIn pz) nf hs hf
    (run_own (vs := [.ref a, y]) F hr hb hx I (.cons rfl (.cons ry .nil)) q)
variable {x m : Str} {p pos apos : Pos} {o : Expr} {kws : List Keyword} {ta : TE} {tk : TA} {g : List Value → List Value → List Value} {gV : List V → List V → List V}
/-- o.m(k = v, ..) -/
def tMethK (C : Addr) (m : Str) (nk : Nat) (sp : Sp) (gV : List V → List V → List V) (E : XK) (ta : TE) (tk : TA) : TE := fun σ H Q => ta σ H fun x H1 => ∃ a dx fs, x = .ref a ∧ H1 a = some (.ins C dx fs) ∧
  fs.lookup m = none ∧ tk σ H1 fun zs H2 => zs.length = nk ∧ sp (gV [x] zs) H2 Q E
theorem pe_methK0 {pl : Sem Bool} (he : PE X o ta) (c : Cls X.K C) (hm : Meth X.K C m f) (F : FnOk X.prog X.w X.K X.mg X.base CX k f fd ps sp) (hr : Room k X.A)
    (hb : KBn X.K fd ps 1 ks g gV) (hx : Passes CX X E) (hkw : PK X kws tk) (hall : (backToKw pos (keywordEach kws X.env)).all (·.1.isSome) = true := by rfl)
    (hks : (backToKw pos (keywordEach kws X.env)).filterMap (·.1) = ks := by rfl)
    (hpl : ((backTo pos (starEach [] X.env)).any (·.1) || (backToKw pos (keywordEach kws X.env)).any (·.1.isNone)) = false := by rfl)
    (ht : eval (.Call (.Attribute o m apos) [] kws pos) X.env = (do
      let ov ← eval o X.env
      standAt apos.atName
      let (f, first) ← holding [ov] (getMethod ov m pl)
      callWith pos f first (backTo pos (starEach [] X.env)) (backToKw pos (keywordEach kws X.env))) := by rfl) :
    PE X (.Call (.Attribute o m apos) [] kws pos) (tMethK C m ks.length sp gV E ta tk) := by
  refine ⟨fun pins s σ H Q I h => ?_⟩
  refine PySem.W.methodCall_KW (pl := pl) (thn (he.run pins s σ H _ I h) fun u s1 ⟨x, H1, I1, rx, a, dx, fs, ex, ea, l, q⟩ => ?_) ht
  subst ex
  obtain rfl : u = Value.ref a := rx
  refine getmeth_ok I1 ea c hm l ?_
  refine PySem.W.callWith_KW0 (first := [.ref a]) (h₀ := X.base) I.ok.mod.kin hm.kp hall ?_ hpl
  refine thn (hkw.run pos pins s1 σ H1 _ I1 q) fun ws s2 ⟨zs, H2, I2, rz, l2, q2⟩ => ⟨I2.kIn, ?_⟩
  rw [hks]
  exact run_fnN (us := [.ref a]) (vs := [.ref a]) F hr hb hx I2 (.cons rfl .nil) rz rfl l2 q2
end
theorem Dr.write {G : Hp} {st : Addr} {H : Hp} {q : Addr} {o o' : HO} (d : Dr (upd G q o) st H) : Dr (upd G q o') st (upd H q o') := by
  have ne : st ≠ q := fun e => by
    have z := d.free
    rw [e, upd_same] at z
    exact nomatch z
  obtain ⟨a, b, c, h⟩ := d.at_
  refine ⟨fun x u e => ?_, ?_, a, b, c, ?_⟩
  · by_cases hx : x = q
    · subst hx
      rw [upd_same] at e ⊢
      exact e
    · rw [upd_ne hx] at e ⊢
      exact d.same x u (by rw [upd_ne hx]; exact e)
  · have z := d.free
    rw [upd_ne ne] at z ⊢
    exact z
  · rw [upd_ne ne]
    exact h
/-- signs of fractions by those of the drawn numbers -/
theorem sgn {X Y D B : Int} (hB : 0 < B) (hD : D ≠ 0) (h : X * D = Y * B) :
    (X < 0 ↔ Y * (if D > 0 then 1 else -1) < 0) ∧ (X = 0 ↔ Y * (if D > 0 then 1 else -1) = 0) ∧ (0 < X ↔ 0 < Y * (if D > 0 then 1 else -1)) := by
  by_cases d : D > 0
  · rw [if_pos d]
    rcases Int.lt_trichotomy X 0 with x | x | x
    · have : X * D < 0 := Int.mul_neg_of_neg_of_pos x d
      have : Y < 0 := by
        apply Int.lt_of_not_ge
        intro z
        have := Int.mul_nonneg z (Int.le_of_lt hB)
        omega
      omega
    · subst x
      have : Y = 0 := by
        rw [Int.zero_mul] at h
        rcases Int.mul_eq_zero.mp h.symm with z | z <;> omega
      omega
    · have : 0 < X * D := Int.mul_pos x d
      have : 0 < Y := by
        apply Int.lt_of_not_ge
        intro z
        have := Int.mul_nonpos_of_nonpos_of_nonneg z (Int.le_of_lt hB)
        omega
      omega
  · rw [if_neg d]
    have dn : D < 0 := by omega
    rcases Int.lt_trichotomy X 0 with x | x | x
    · have : 0 < X * D := Int.mul_pos_of_neg_of_neg x dn
      have : 0 < Y := by
        apply Int.lt_of_not_ge
        intro z
        have := Int.mul_nonpos_of_nonpos_of_nonneg z (Int.le_of_lt hB)
        omega
      omega
    · subst x
      have : Y = 0 := by
        rw [Int.zero_mul] at h
        rcases Int.mul_eq_zero.mp h.symm with z | z <;> omega
      omega
    · have : X * D < 0 := Int.mul_neg_of_pos_of_neg x dn
      have : Y < 0 := by
        apply Int.lt_of_not_ge
        intro z
        have := Int.mul_nonneg z (Int.le_of_lt hB)
        omega
      omega
/-- fractions in lowest terms are equal if they are equal crosswise -/
theorem low_eq {t b t2 b2 : Int} (hb : 0 < b) (hb2 : 0 < b2) (c : Nat.gcd t.natAbs b.natAbs = 1) (c2 : Nat.gcd t2.natAbs b2.natAbs = 1) (h : t * b2 = t2 * b) : t = t2 ∧ b = b2 := by
  have e : t.natAbs * b2.natAbs = t2.natAbs * b.natAbs := by rw [← Int.natAbs_mul, ← Int.natAbs_mul, h]
  have d1 : b.natAbs ∣ b2.natAbs := Nat.Coprime.dvd_of_dvd_mul_left (m := t.natAbs) (Nat.Coprime.symm c) ⟨t2.natAbs, by rw [e, Nat.mul_comm]⟩
  have d2 : b2.natAbs ∣ b.natAbs := Nat.Coprime.dvd_of_dvd_mul_left (m := t2.natAbs) (Nat.Coprime.symm c2) ⟨t.natAbs, by rw [← e, Nat.mul_comm]⟩
  have eb : b.natAbs = b2.natAbs := Nat.dvd_antisymm d1 d2
  have eb' : b = b2 := by omega
  subst eb'
  exact ⟨Int.eq_of_mul_eq_mul_right (Int.ne_of_gt hb) h, rfl⟩
end Nv
/-! Nv, part X0: an own exception made with keywords. -/
namespace Nv
open PySem PySem.HandSPX PySem.Builtin PySem.Builtin.ObjectAttr
section
variable {M : Model} {A : Around} {E : Value → Shared → Prop} {h : Heap} {g : Array GenState} {d : Drawn} {t : Nat} {os : OsState}
variable {nm q : Str} {C N : Addr} {bs bm bmB : List Value} {hdct : Bool} {sn : List Str} {sub : List Value} {ab : Bool} {col : Option Bool} {dd : Option Addr} {k0 k1 k2 k3 k5 : Option Value} {B newId initId : String} {kw : List (Str × Value)}
theorem check_new_kw (F : ExcBaseFacts B newId initId bmB) (hT : ∀ X : String, bm.contains (.type X) = bmB.contains (.type X)) {rest : List Value} {Q : Unit → Shared → Prop}
    (hC : h.get? C = some (excClassObj nm q C N bs bm hdct sn sub ab col dd k0 k1 k2 k3 k5 newId)) (hq : Q () ⟨h, g, d, t, os⟩) : wpAny M A (checkBuiltinCall newId ⟨.ref C :: rest, kw⟩) Q E ⟨h, g, d, t, os⟩ := by
  have hcont : (Value.ref C :: bm).contains (.type B) = true := by rw [List.contains_cons, hT, F.hasB, Bool.or_true]
  have hstar := F.noStar
  simp only [checkBuiltinCall, F.newKind, F.newSplit, F.newRow]
  repeat (first | refine wpAny_loadPart_at hC ?_ | (refine wpAny_isSubtype_exc hC ?_; rw [hcont]) | refine wpAny_staticBase_exc hC ?_ | refine wpAny_madeBy_exc hC ?_ | simp only [bne_self_eq_false, Bool.false_eq_true, if_false] | wp_step)
  exact hq
theorem check_type_kw {rest : List Value} {Q : Unit → Shared → Prop} (hC : h.get? C = some (excClassObj nm q C N bs bm hdct sn sub ab col dd k0 k1 k2 k3 k5 newId))
    (hq : Q () ⟨h, g, d, t, os⟩) : wpAny M A (checkBuiltinCall "type.__call__" ⟨.ref C :: rest, kw⟩) Q E ⟨h, g, d, t, os⟩ := by
  have f3 := tc_sub
  have hT : (⟨h, g, d, t, os⟩ : Shared).TypeIs (.ref C) "type" := ⟨_, hC, rfl⟩
  simp only [checkBuiltinCall, tc_kind, tc_split]
  repeat (any_goals (first | assumption | with_reducible refine wpAny_loadPart_at hC ?_ | with_reducible refine wpAny_onRaise ?_ | with_reducible refine wpAny_map ?_ | wp_step))
end
section
variable {prog : Program} {w : World} {A : Around} {E : Value → Shared → Prop} {R : Result → Shared → Prop} {h : Heap} {g : Array GenState} {d : Drawn} {t : Nat} {os : OsState}
variable {nm q : Str} {C N : Addr} {bs bm bmB : List Value} {hdct : Bool} {sn : List Str} {sub : List Value} {ab : Bool} {col : Option Bool} {dd : Option Addr} {k0 k1 k2 k3 k5 : Option Value} {B newId initId : String} {kw : List (Str × Value)}
theorem new_kw (F : ExcBaseFacts B newId initId bmB) (hT : ∀ X : String, bm.contains (.type X) = bmB.contains (.type X)) {rest : List Value}
    (hC : h.get? C = some (excClassObj nm q C N bs bm hdct sn sub ab col dd k0 k1 k2 k3 k5 newId))
    (hq : R (.ok (.ret (.ref (h.objs.size + 1)))) ⟨(h.push { cls := .type "tuple", data := .seq rest.toArray }).push
      { cls := .ref C, data := .fields #[.ref h.objs.size, .none, .none, .none, .bool false, .none] }, g, d, t, os⟩) (hrest : rest.length ≤ sizeLine) :
    codeAny (model prog w) A (.builtin newId ⟨.ref C :: rest, kw⟩) R ⟨h, g, d, t, os⟩ := by
  have hends := F.ends
  have hcB : (Value.ref C :: bm).contains (.type B) = true := by rw [List.contains_cons, hT, F.hasB, Bool.or_true]
  have hcA : (Value.ref C :: bm).contains (.type "AttributeError") = false := by rw [List.contains_cons, hT, F.noAttr]; rfl
  have hcN : (Value.ref C :: bm).contains (.type "NameError") = false := by rw [List.contains_cons, hT, F.noName]; rfl
  refine codeAny_builtinAt F.entry ?_
  unfold Builtin.«BaseException.__new__»
  refine wpAt_bind ?_
  show wpAt _ _ _ (stack >>= _) _ _ _
  refine wpAt_bind (wpAt_stack fun p below => wpAt_of_wpAny ?_)
  wp_walk
  refine wpAt_of_wpAny ?_
  rw [F.owner]
  repeat (first | with_reducible refine wpAny_madeHere_exc F.canon hC ?_ | with_reducible refine wpAny_loadPart_at hC ?_ | (with_reducible refine wpAny_isSubtype_exc hC ?_; first | rw [hcB] | rw [hcA] | rw [hcN]) | wp_step)
  show R _ _
  rw [Heap.size_push]
  exact hq
theorem type_call_kw (F : ExcBaseFacts B newId initId bmB) (hT : ∀ X : String, bm.contains (.type X) = bmB.contains (.type X)) {rest : List Value} {fI : Addr} {Q : Fin → Shared → Prop}
    (hC : h.get? C = some (excClassObj nm q C N bs bm hdct sn sub ab col dd k0 k1 k2 k3 k5 newId))
    (hi : W.Looks (model prog w) h (typeLookup (.ref C) "__init__") (some (.ref fI))) (hb : ∀ self, W.Looks (model prog w) h (bindSpecial (.ref fI) self) (.ref fI, [self])) (hrest : rest.length ≤ sizeLine)
    (hq : codeAny (model prog w) A (.call (.ref fI) ⟨.ref (h.objs.size + 1) :: rest, kw⟩)
      (fun r s' => match r with | .ok (.ret v) => v = .none ∧ Q (.done (.ret (.ref (h.objs.size + 1)))) s' | .ok _ => False | .error e => E e s')
      ⟨(h.push (W.kdv_tup rest)).push (excO C h.objs.size), g, d, t, os⟩) :
    wpAny (model prog w) A (Builtin.«type.__call__» ⟨.ref C :: rest, kw⟩) Q E ⟨h, g, d, t, os⟩ := by
  repeat (first | with_reducible refine wpAny_loadPart_at hC ?_ | with_reducible refine wpAny_madeBy_exc hC ?_ | wp_step)
  refine codeAny_call_builtin_code (Code.quiet_builtin _ F.quiet) (check_new_kw F hT hC ?_)
  refine new_kw F hT hC ?_ hrest
  show wpAny _ _ _ _ _ _
  have k : ∀ b o, h.get? b = some o → ((h.push (W.kdv_tup rest)).push (excO C h.objs.size)).get? b = some o := fun b o e => Heap.get?_push_of_some _ (Heap.get?_push_of_some _ e)
  have hC₁ := k _ _ hC
  have hget : ((h.push (W.kdv_tup rest)).push (excO C h.objs.size)).get? (h.objs.size + 1) = some (excO C h.objs.size) := by heap_get
  have hcC : (Value.ref C :: bm).contains (.ref C) = true := by simp
  have i1 := hi.keeps k
  have b1 := (hb (.ref (h.objs.size + 1))).keeps k
  unfold isInstance
  repeat (first | with_reducible refine wpAny_loadPart_at hget ?_ | (with_reducible refine wpAny_isSubtype_exc hC₁ ?_; rw [hcC]) | wp_step)
  show wpAny _ _ (typeLookup (.ref C) _) _ _ _
  refine i1.at ?_
  refine wpAny_holding (wpAny_bind (b1.at ?_))
  refine wpAny_bind (wpAny_call (codeAny_mono hq fun r s' z => ?_))
  rcases r with e | (v | _ | _ | _) <;> first | exact z | exact z.elim | skip
  obtain ⟨rfl, z⟩ := z
  first
    | exact wpAny_pure (wpAny_pure z)
    | (wp_walk; exact z)
theorem call_kw (F : ExcBaseFacts B newId initId bmB) (hT : ∀ X : String, bm.contains (.type X) = bmB.contains (.type X)) {rest : List Value} {fI : Addr}
    (hC : h.get? C = some (excClassObj nm q C N bs bm hdct sn sub ab col dd k0 k1 k2 k3 k5 newId))
    (hi : W.Looks (model prog w) h (typeLookup (.ref C) "__init__") (some (.ref fI))) (hb : ∀ self, W.Looks (model prog w) h (bindSpecial (.ref fI) self) (.ref fI, [self])) (hrest : rest.length ≤ sizeLine)
    (hq : codeAny (model prog w) (A.under (.builtin "type.__call__" ⟨.ref C :: rest, kw⟩)) (.call (.ref fI) ⟨.ref (h.objs.size + 1) :: rest, kw⟩) (W.InitBack (h.objs.size + 1) R)
      ⟨(h.push (W.kdv_tup rest)).push (excO C h.objs.size), g, d, t, os⟩) :
    codeAny (model prog w) A (.call (.ref C) ⟨rest, kw⟩) R ⟨h, g, d, t, os⟩ := by
  have f1 := tc_lookup
  have f2 := tc_bind (.ref C)
  have hTy : (⟨h, g, d, t, os⟩ : Shared).TypeIs (.ref C) "type" := ⟨_, hC, rfl⟩
  refine codeAny_of_tree ?_
  show wpAny _ _ (callAny (.ref C) _) _ _ _
  repeat (any_goals (first | assumption | with_reducible refine wpAny_loadPart_at hC ?_ | wp_step))
  refine ⟨rfl, ?_⟩
  refine codeAny_call_builtin_at (Code.quiet_builtin _ (by decide +kernel)) entry_typeCall (check_type_kw hC (type_call_kw F hT hC hi hb hrest ?_))
  refine codeAny_mono hq fun r s' z => ?_
  rcases r with e | (v | _ | _ | _) <;> exact z
end
end Nv
/-! Nv, part X1: an own exception as a value: made and kept, its what, isinstance of it. -/
namespace Nv
open PySem PySem.Spec PyProof.Rows L2
section
variable {X : Cx} {CX : CXT} {k n : Nat} {f C : Addr} {fd : FuncData} {ps ks : List Str} {sp : Sp} {x : Str}
  {p pos : Pos} {e : Expr} {es : List Expr} {kws : List Keyword} {t tk : TA} {g : List Value → List Value → List Value}
  {gV : List V → List V → List V}
/-- C(e, .., k = v, ..), an own exception, kept as a value -/
def tMkE (C : Addr) (n m : Nat) (sp : Sp) (gV : List V → List V → List V) (t tk : TA) : TE := fun σ H Q =>
  t σ H fun vs H1 => tk σ H1 fun zs H2 => vs.length = n ∧ zs.length = m ∧ vs.length ≤ 1000 ∧ ∀ a, H2 a = none →
    sp (gV (.ref a :: vs) zs) (upd H2 a (exo a C none)) (fun v H3 => v = .non ∧ Q (.ref a) H3) (fun _ _ _ => False)
theorem run_mkE {pins : List (Addr × Obj)} {σ : L2.St} {H : Hp} {s : Shared} {Q : VK} {us ws : List Value} {vs zs : List V}
    (T : OexC X.K C) (iC : PySem.W.findIn X.K (.ref C) "__init__" = some (some (.ref f))) (tI : PySem.W.typeIn X.K (.ref f) = some (.type "function"))
    (F : FnOk X.prog X.w X.K X.mg X.base CX k f fd ps sp) (hr : Room (k + 1) X.A)
    (hb : KBn X.K fd ps (n + 1) ks g gV) (hx : Passes CX X (fun _ _ _ => False)) (I : Inv X pins σ H s) (r : Vals vs us) (rz : Vals zs ws)
    (l1 : vs.length = n) (l2 : zs.length = ks.length) (l3 : vs.length ≤ 1000)
    (h : ∀ a, H a = none → sp (gV (.ref a :: vs) zs) (upd H a (exo a C none)) (fun v H3 => v = .non ∧ Q (.ref a) H3) (fun _ _ _ => False)) :
    wpAny (model X.prog X.w) X.A (call (.ref C) us (ks.zip ws)) (EP X pins σ Q) X.xe s := by
  obtain ⟨nm, q, N, bs, bm, sn, sub, ab, col, dd, k0, k1, k2, k3, k5, hC, hbm⟩ := T.cls
  obtain ⟨hp, gg, dr, tt, os⟩ := s
  have hsz : hp.objs.size ≤ hp.objs.size + 1 := Nat.le_succ _
  have hn : H (hp.objs.size + 1) = none := I.hok.fresh hsz
  have hq := h (hp.objs.size + 1) hn
  have kk : ∀ b o, hp.get? b = some o → ((hp.push (PySem.W.kdv_tup us)).push (PySem.HandSPX.excO C hp.objs.size)).get? b = some o :=
    fun b o e => Heap.get?_push_of_some _ (Heap.get?_push_of_some _ e)
  have hget : ((hp.push (PySem.W.kdv_tup us)).push (PySem.HandSPX.excO C hp.objs.size)).get? (hp.objs.size + 1) = some (PySem.HandSPX.excO C hp.objs.size) := by heap_get
  have I2 : Inv X pins σ (upd H (hp.objs.size + 1) (exo (hp.objs.size + 1) C none)) ⟨(hp.push (PySem.W.kdv_tup us)).push (PySem.HandSPX.excO C hp.objs.size), gg, dr, tt, os⟩ :=
    I.laid (t' := tt) (a := hp.objs.size + 1) (o := exo (hp.objs.size + 1) C none) (h' := (hp.push (PySem.W.kdv_tup us)).push (PySem.HandSPX.excO C hp.objs.size)) kk hsz (exo_ok hget)
  have q1 : Vals (V.ref (hp.objs.size + 1) :: vs) (Value.ref (hp.objs.size + 1) :: us) := .cons rfl r
  have n1 : (Value.ref (hp.objs.size + 1) :: us).length = n + 1 := q1.length.symm.trans (congrArg Nat.succ l1)
  have n2 : ws.length = ks.length := rz.length.symm.trans l2
  have hus : us.length ≤ sizeLine := by
    rw [← Paired.length r, sizeLine_eq]
    omega
  refine wpAny_call (call_kw PySem.F.excBase_ValueError (fun Y => PySem.HandSPX.refsVE_contains Y bm hbm) (I.kIn _ _ hC) (PySem.W.looks_findIn I.kIn iC) (fun self => PySem.W.bind_fn I.kIn self tI) hus
    (codeAny_mono (F.run _ X.stack _ _ ⟨Value.ref (hp.objs.size + 1) :: us, ks.zip ws⟩ (g (Value.ref (hp.objs.size + 1) :: us) ws) _ _ (fun _ _ _ => False)
      (hr.make C us (ks.zip ws)) (I2.env0.make C us (ks.zip ws)) (hb.to _ (Value.ref (hp.objs.size + 1) :: us) ws I2.kIn n1 n2)
      (hb.rel q1 rz) hq) fun r s' z => ?_))
  match r, z with
  | .error e, z => exact hx pins _ _ _ e s' I2 z
  | .ok .next, z => exact False.elim z
  | .ok .brk, z => exact False.elim z
  | .ok .cont, z => exact False.elim z
  | .ok (.ret u), z =>
    obtain ⟨v, H', I3, rv, ev, q3⟩ := I2.after z
    subst ev
    exact ⟨rv, ⟨V.ref (hp.objs.size + 1), H', I3, rfl, q3⟩⟩
theorem pe_mkE (T : OexC X.K C) (iC : PySem.W.findIn X.K (.ref C) "__init__" = some (some (.ref f))) (tI : PySem.W.typeIn X.K (.ref f) = some (.type "function"))
    (F : FnOk X.prog X.w X.K X.mg X.base CX k f fd ps sp) (hr : Room (k + 1) X.A) (hg : Gl X x)
    (hm : X.mg x = some (.ref C)) (hb : KBn X.K fd ps (n + 1) ks g gV) (hx : Passes CX X (fun _ _ _ => False))
    (ha : PA X (e :: es) t) (hkw : PK X kws tk) (hall : (backToKw pos (keywordEach kws X.env)).all (·.1.isSome) = true := by rfl)
    (hks : (backToKw pos (keywordEach kws X.env)).filterMap (·.1) = ks := by rfl) (hdb : (x == ("__debug__" : Str)) = false := by decide)
    (he : starEach (e :: es) X.env = (false, eval e X.env) :: starEach es X.env := by rfl)
    (hpl : ((backTo pos (starEach (e :: es) X.env)).any (·.1) || (backToKw pos (keywordEach kws X.env)).any (·.1.isNone)) = false := by rfl) :
    PE X (.Call (.Name x p) (e :: es) kws pos) (tMkE C n ks.length sp gV t tk) := by
  refine ⟨fun pins s σ H Q I h => wpAny_Call_Name_kw (ld_glob I hg hm ?_ hdb)⟩
  refine PySem.W.callWith_KW (h₀ := X.base) I.ok.mod.kin T.kC hall
    (thn (ha.run pos pins s σ H _ I h) fun us s1 ⟨vs, H1, I1, r, q⟩ => ?_) hpl he
  refine thn (hkw.run pos pins s1 σ H1 _ I1 q) fun ws s2 ⟨zs, H2, I2, rz, l1, l2, l3, q2⟩ => ⟨I2.kIn, ?_⟩
  rw [hks]
  exact run_mkE T iC tI F hr hb hx I2 r rz l1 l2 l3 q2
theorem pe_mkE0 (T : OexC X.K C) (iC : PySem.W.findIn X.K (.ref C) "__init__" = some (some (.ref f))) (tI : PySem.W.typeIn X.K (.ref f) = some (.type "function"))
    (F : FnOk X.prog X.w X.K X.mg X.base CX k f fd ps sp) (hr : Room (k + 1) X.A) (hg : Gl X x)
    (hm : X.mg x = some (.ref C)) (hb : KBn X.K fd ps 1 ks g gV) (hx : Passes CX X (fun _ _ _ => False)) (hkw : PK X kws tk)
    (hall : (backToKw pos (keywordEach kws X.env)).all (·.1.isSome) = true := by rfl)
    (hks : (backToKw pos (keywordEach kws X.env)).filterMap (·.1) = ks := by rfl) (hdb : (x == ("__debug__" : Str)) = false := by decide)
    (hpl : ((backTo pos (starEach [] X.env)).any (·.1) || (backToKw pos (keywordEach kws X.env)).any (·.1.isNone)) = false := by rfl) :
    PE X (.Call (.Name x p) [] kws pos) (tMkE C 0 ks.length sp gV tNil tk) := by
  refine ⟨fun pins s σ H Q I h => wpAny_Call_Name_kw (ld_glob I hg hm ?_ hdb)⟩
  refine PySem.W.callWith_KW0 (h₀ := X.base) I.ok.mod.kin T.kC hall ?_ hpl
  refine thn (hkw.run pos pins s σ H _ I h) fun ws s2 ⟨zs, H2, I2, rz, l1, l2, l3, q2⟩ => ⟨I2.kIn, ?_⟩
  rw [hks]
  exact run_mkE (us := []) (vs := []) T iC tI F hr hb hx I2 .nil rz rfl l2 l3 q2
end

/-! ### such an error in the heap -/
def ErrAt (H : Hp) (a C : Addr) (v : V) : Prop := ∃ d, H a = some (exo a C (some d)) ∧ H d = some (exd d (whatF v))
theorem ErrAt.same {H H' : Hp} {a C : Addr} {v : V} (k : Same H H') (h : ErrAt H a C v) : ErrAt H' a C v := by
  obtain ⟨d, h1, h2⟩ := h
  exact ⟨d, k _ _ h1, k _ _ h2⟩
/-- the object at a, its dict's object, as InstAt wants them -/
theorem exo_inst {X : Cx} {pins : List (Addr × Obj)} {σ : L2.St} {H : Hp} {s : Shared} {a C d : Addr} {fs : List (Str × V)} (I : Inv X pins σ H s)
    (ha : H a = some (exo a C (some d))) (hd : H d = some (exd d fs)) :
    ∃ (ox od : Obj), PySem.W.InstAt s.heap a ox C (some od) ∧ ∀ name, ∃ u, PySem.W.lookIn name od = some u ∧ RelO (fs.lookup name) u := by
  obtain ⟨t1, ho⟩ := exo_at I.hok ha
  obtain ⟨mA, hns, rel⟩ := exd_at I.hok hd
  obtain ⟨od, hod, hl⟩ := lookIn_ns hns
  exact ⟨_, od, ⟨ho, rfl, rfl, hod⟩, fun name => ⟨_, hl name, rel name⟩⟩
/-- e.f, e such an error -/
def tEx (K : PySem.W.Frag) (f : Str) (te : TE) : TE := fun σ H Q => te σ H fun x H1 => ∃ (a C d : Addr) (fs : List (Str × V)) (v : V), x = .ref a ∧ XfC K C ∧
  PySem.W.findIn K (.ref C) f = some none ∧ H1 a = some (exo a C (some d)) ∧ H1 d = some (exd d fs) ∧ fs.lookup f = some v ∧ Q v H1
theorem pe_ex {X : Cx} {e : Expr} {te : TE} {pos : Pos} {n : Str} (he : PE X e te) (hb : attributeBase e n X.env (eval e X.env) = eval e X.env := by rfl) :
    PE X (.Attribute e n pos) (tEx X.K n te) := by
  refine ⟨fun pins s σ H Q I h => ?_⟩
  refine attr_of hb (thn (he.run pins s σ H _ I h) fun u s1 hh => ?_)
  obtain ⟨x, H1, I1, rx, a, C, d, fs, v, ex, T, hno, ha, hd, l, q⟩ := hh
  subst ex
  obtain rfl : u = Value.ref a := rx
  obtain ⟨ox, od, J, hl⟩ := exo_inst I1 ha hd
  obtain ⟨u1, hu, ru⟩ := hl n
  rw [l] at ru
  obtain ⟨u2, hu2, ru2⟩ := RelO.some_of (v := v) (o := u1) ru
  exact HandSPX.exc_get I1.kIn J T.ga T.gg T.exC (PySem.W.findObj_own T.hdC hno rfl (by rw [hu, hu2])) (handed_of ru2) ⟨v, H1, I1.tok _, ru2, q⟩
/-- isinstance(e, c), e such an error -/
def rIsX (K : PySem.W.Frag) : List V → Hp → VK → Prop := fun xs H Q => ∃ (a C d : Addr) (fs : List (Str × V)) (c : V) (cv : Value) (b : Bool), xs = [.ref a, c] ∧
  ClsV c cv ∧ L2.ExcC K C ∧ H a = some (exo a C (some d)) ∧ H d = some (exd d fs) ∧ PySem.W.kitOne K (.ref C) cv = some b ∧ Q (.bl b) H
theorem call_isX {X : Cx} : CallR X (.builtin "isinstance") (rIsX X.K) := by
  intro pins s σ H xs us Q I r h
  obtain ⟨a, C, d, fs, c, cv, b, rfl, k, T, ha, hd, e, q⟩ := h
  obtain ⟨u1, u2, rfl, r1, r2⟩ := vals2 r
  have e2 := k.eq r2
  subst e2
  obtain rfl : u1 = Value.ref a := r1
  obtain ⟨ox, od, J, _⟩ := exo_inst I ha hd
  have hcl : (PySem.W.clsIn X.K C).isSome = true := by
    obtain ⟨cd, hc, _⟩ := PySem.W.any_some T.hd
    rw [hc]; rfl
  exact PySem.W.kia_one (PySem.W.kitx_exc hcl T.hg T.hk T.hs T.ha T.hn T.ht T.hm) I.kIn J e (fun z => nomatch z) fun tk => ⟨.bl b, H, I.kept (t' := tk) fun _ _ z => z, rfl, q⟩
end Nv
/-! Nv, part X2: repr and == of a datum of any kind. -/
namespace Nv
open PySem PySem.Spec PyProof.Rows L2
/-- what repr says of x -/
inductive Rp (K : PySem.W.Frag) (H : Hp) : V → Str → Prop
  | non : Rp K H .non "None"
  | bl (b : Bool) : Rp K H (.bl b) (if b then "True" else "False")
  | int (i : Int) : i.natAbs.log2 < 1920 → Rp K H (.int i) (toString i)
  | str (x : Str) : (reprText x).length ≤ sizeLine → Rp K H (.str x) (reprText x)
  | ref {a : Addr} {d : PyData} : Dq H (.ref a) d → d.showable = true → d.depth ≤ 30 → d.shown.length ≤ sizeLine → Rp K H (.ref a) d.shown
theorem Rp.same {K : PySem.W.Frag} {H H' : Hp} {x : V} {t : Str} (k : Same H H') (h : Rp K H x t) : Rp K H' x t := by
  cases h with
  | non => exact .non
  | bl b => exact .bl b
  | int i h => exact .int i h
  | str y h => exact .str y h
  | ref h1 h2 h3 h4 => exact .ref (h1.same k) h2 h3 h4
def rReprA (K : PySem.W.Frag) : List V → Hp → VK → Prop := fun vs H Q => ∃ (x : V) (t : Str), vs = [x] ∧ Sys K H ∧ Rp K H x t ∧ Q (.str t) H
theorem call_reprA {X : Cx} {k : Nat} (hr : Room k X.A) (gd : X.A.guards = some []) : CallR X (.builtin "repr") (rReprA X.K) := by
  intro pins s σ H vs us Q I r h
  obtain ⟨x, t, rfl, sys, rp, q⟩ := h
  cases rp with
  | non =>
    obtain ⟨u, rfl, ru⟩ := vals1 r
    obtain rfl : u = Value.none := ru
    exact PySem.P.repr_of_none ⟨.str ("None" : Str), H, I.tok _, ⟨_, rfl⟩, q⟩
  | bl b =>
    obtain ⟨u, rfl, ru⟩ := vals1 r
    obtain rfl : u = Value.bool b := ru
    exact PySem.P.repr_of_bool ⟨.str (if b then "True" else "False"), H, I.tok _, ⟨_, rfl⟩, q⟩
  | int i hi =>
    obtain ⟨u, rfl, ru⟩ := vals1 r
    obtain ⟨tk, rfl⟩ := ru
    exact PySem.P.repr_of_int hi ⟨.str (Str.ofString (toString i)), H, I.tok _, ⟨_, rfl⟩, q⟩
  | str y hy =>
    obtain ⟨u, rfl, ru⟩ := vals1 r
    obtain ⟨tk, rfl⟩ := ru
    exact PySem.P.repr_of_str (hsz := hy) ⟨.str (reprText y), H, I.tok _, ⟨_, rfl⟩, q⟩
  | ref dq sh dp sz => exact call_reprD hr gd pins s σ H _ us Q I r ⟨_, _, rfl, sys, dq, sh, dp, sz, q⟩
/-- x == x -/
def EqS (K : PySem.W.Frag) (H : Hp) (x : V) : Prop := scal x x = true ∨ (∃ d, Dp K H x d ∧ SeqAt.shaped d = true ∧ PyData.eqv d d = true) ∨
  ∃ a ks, x = .ref a ∧ H a = some (.dK ks) ∧ ∀ p ∈ ks, ∃ u, valV ks p.1 = some u ∧ p.2 = u ∧ flatB p.2 = true
def rEqS (K : PySem.W.Frag) : R2 := fun x y H Q => x = y ∧ EqS K H x ∧ Q (.bl true) H
theorem op_eqS {X : Cx} (hu : X.A.units + 64 < cLine) : OpR X (compareOp .Eq) (rEqS X.K) := by
  intro pins s σ H x y v u Q I rx ry h
  obtain ⟨rfl, e, q⟩ := h
  rcases e with e | ⟨d, dp, sh, e⟩ | ⟨a, ks, rfl, ha, hk⟩
  · exact op_eq pins s σ H x x v u Q I rx ry ⟨e, by simpa using q⟩
  · exact op_eqD hu pins s σ H x x v u Q I rx ry ⟨d, d, dp, dp, sh, sh, by rw [e]; exact q⟩
  · refine op_eqV hu pins s σ H _ _ v u Q I rx ry ⟨1, by decide, .inr ⟨a, a, ks, ks, rfl, rfl, ha, ha, rfl, fun p hp => ?_⟩, q⟩
    obtain ⟨w, h1, h2, h3⟩ := hk p hp
    exact ⟨w, h1, .inl ⟨h2, h3⟩⟩
end Nv
namespace Nv
open PySem PySem.Spec PyProof.Rows L2
def top (i : Nat) : Stmt := PySem.Challenge.pw_neverowing_k01_errors_of_the_package.main.body.getD i (.Pass ⟨0, 0, 0, 0⟩)
abbrev sCell : Stmt := top 37
abbrev sState : Stmt := top 38
abbrev sTake : Stmt := top 39
section
variable {P : Program} {w : World} {K : PySem.W.Frag} {mg : Str → Option Value} {base : Heap}
theorem scCell : FnScope ["script", "at"] ["script", "at"] (defScope sCell) :=
  ⟨rfl, rfl, rfl, by decide +kernel, rfl, by decide +kernel, by decide +kernel⟩
theorem ok_cell {f : Addr} {fd : FuncData} (F : Fun K "_law_cell" "_law_cell" sCell f fd) (T : Blt mg) :
    FnOk P w K mg base CX0 1 f fd ["script", "at"] (spCel K) := by
  refine F.ok scCell (fun vs H Q E h => ?_) (fun cdv A outer s H vs Q E hr h => ?_)
  · obtain ⟨a, ns, j, rfl, _⟩ := h
    rfl
  · obtain ⟨a, ns, j, rfl, hs, q⟩ := h
    refine ⟨_, pss_cons (ps_if (pt_cmpR op_lt (pv 1) (pe_callB call_len_seq (by rfl) T.len PySem.boot_len (pa_cons (pv 0) pa_nil)) (nomark _))
      (pss_one (ps_ret (pe_callTy call_int1 (by rfl) T.int PyProof.Rows.boot_int (pa_cons (pe_ix ix_list (pv 0) (pv 1) (fun _ _ => rfl)) pa_nil)))) pss_nil)
      (pss_one (ps_ret pe_int)), ?_⟩
    refine ⟨_, rfl, _, rfl, a, _, rfl, .inl hs, _, _, rfl, rfl, _, rfl, ?_⟩
    refine ite2 (fun h => ?_) (fun h => ?_)
    · have lt : j < ns.length := by
        have := of_decide_eq_true h
        rw [List.length_map] at this
        omega
      refine ⟨_, rfl, _, rfl, a, _, _, _, rfl, rfl, hs, atI_nat (v := .int (ns.getD j 0)) ?_, .inl ⟨_, rfl, q⟩⟩
      rw [List.getElem?_map, List.getElem?_eq_getElem lt, List.getD_eq_getElem?_getD, List.getElem?_eq_getElem lt]
      rfl
    · have ge : ns.length ≤ j := by
        have := of_decide_eq_false (Bool.eq_false_iff.mpr h)
        rw [List.length_map] at this
        omega
      rw [List.getD_eq_getElem?_getD, List.getElem?_eq_none ge] at q
      exact q
theorem scState : FnScope ["cell"] ["cell"] (defScope sState) :=
  ⟨rfl, rfl, rfl, by decide +kernel, rfl, by decide +kernel, by decide +kernel⟩
theorem ok_state {f : Addr} {fd : FuncData} (F : Fun K "_law_state" "_law_state" sState f fd) (T : Blt mg) :
    FnOk P w K mg base CX0 1 f fd ["cell"] spSta := by
  refine F.ok scState (fun vs H Q E h => ?_) (fun cdv A outer s H vs Q E hr h => ?_)
  · obtain ⟨n, rfl, _⟩ := h
    rfl
  · obtain ⟨n, rfl, q⟩ := h
    refine ⟨_, pss_cons (ps_if (pt_cmpR op_ge (pe_callB call_abs (by rfl) T.abs PyProof.Rows.boot_abs (pa_cons (pv 0) pa_nil)) (pe_op op_pow pe_int pe_int) (nomark _))
      (pss_one (ps_ret (pe_lst (pa_cons (pe_callB call_abs (by rfl) T.abs PyProof.Rows.boot_abs (pa_cons (pv 0) pa_nil)) (pa_cons pe_int (pa_cons pe_int pa_nil)))))) pss_nil)
      (pss_one (ps_ret (pe_lst (pa_cons pe_int (pa_cons (pe_op op_mod (pe_callTy call_int1 (by rfl) T.int PyProof.Rows.boot_int (pa_cons (pv 0) pa_nil)) pe_int) (pa_cons pe_int pa_nil)))))), ?_⟩
    refine ⟨_, rfl, _, rfl, _, _, rfl, rfl, ⟨by decide, by decide, by decide⟩, _, _, rfl, rfl, _, rfl, ?_⟩
    refine ite2 (fun h => ?_) (fun h => ?_)
    · exact ⟨_, rfl, _, rfl, (by show 3 ≤ sizeLine; decide), fun p hp => q p _ _ _ hp⟩
    · exact ⟨_, rfl, .inl ⟨_, rfl, _, _, rfl, rfl, (by show (0 : Int) < 2147483563; decide), (by show 3 ≤ sizeLine; decide), fun p hp => q p _ _ _ hp⟩⟩
theorem scTake : FnScope ["state", "many", "digit", "mixed"] ["state", "many"] (defScope sTake) :=
  ⟨rfl, rfl, rfl, by decide +kernel, rfl, by decide +kernel, by decide +kernel⟩
theorem ok_take {f : Addr} {fd : FuncData} (F : Fun K "_law_take" "_law_take" sTake f fd) (T : Blt mg) :
    FnOk P w K mg base CX0 1 f fd ["state", "many"] spTak := by
  refine F.ok scTake (fun vs H Q E h => ?_) (fun cdv A outer s H vs Q E hr h => ?_)
  · obtain ⟨p, a, b, c, m, rfl, _⟩ := h
    rfl
  · obtain ⟨p, a, b, c, m, rfl, m0, m1, hp, q⟩ := h
    refine ⟨_, pss_cons (ps_if (pt_cmpR op_gt (pe_ix ix_list (pv 0) pe_int (fun _ _ => rfl)) pe_int (nomark _))
        (pss_cons (ps_set (i := 2) scTake.nd rfl (Or.inl rfl) (pe_op op_mod (pe_callTy call_int1 (by rfl) T.int PyProof.Rows.boot_int (pa_cons (pe_ix ix_list (pv 0) pe_int (fun _ _ => rfl)) pa_nil)) (pv 1)))
        (pss_cons (ps_asg (pe_op op_fdivN (pe_ix ix_list (pv 0) pe_int (fun _ _ => rfl)) (pv 1)) (pg_sub (pv 0) pe_int set_list))
        (pss_one (ps_ret (pv 2))))) pss_nil)
      (pss_cons (ps_asg (pe_op op_add (pe_ix ix_list (pv 0) pe_int (fun _ _ => rfl)) pe_int) (pg_sub (pv 0) pe_int set_list))
      (pss_cons (ps_set (i := 3) scTake.nd rfl (Or.inl rfl) (pe_op op_mod (pe_callTy call_int1 (by rfl) T.int PyProof.Rows.boot_int (pa_cons (pe_op op_mul (pe_op op_add (pe_op op_add (pe_ix ix_list (pv 0) pe_int (fun _ _ => rfl)) (pe_op op_mul pe_int (pe_ix ix_list (pv 0) pe_int (fun _ _ => rfl)))) pe_int) pe_int) pa_nil)) pe_int))
      (pss_cons (ps_set (i := 3) scTake.nd rfl (Or.inl rfl) (pe_op op_mod (pe_callTy call_int1 (by rfl) T.int PyProof.Rows.boot_int (pa_cons (pe_op op_mul (pv 3) (pe_op op_add (pe_op op_fdivN (pv 3) pe_int) pe_int)) pa_nil)) pe_int))
      (pss_one (ps_ret (pe_op op_mod (pe_callTy call_int1 (by rfl) T.int PyProof.Rows.boot_int (pa_cons (pe_op op_fdivN (pe_op op_mod (pe_op op_mul (pv 3) (pe_op op_add (pe_op op_fdivN (pv 3) pe_int) pe_int)) pe_int) pe_int) pa_nil)) (pv 1))))))), ?_⟩
    have at0 : atI [V.int a, V.int b, V.int c] 0 = some (.int a) := rfl
    refine ⟨_, rfl, p, _, _, _, rfl, rfl, SqL.of hp, at0, _, _, rfl, rfl, _, rfl, ?_⟩
    refine ite2 (fun h => ?_) (fun h => ?_)
    · refine ⟨_, rfl, p, _, _, _, rfl, rfl, SqL.of hp, at0, .inl ⟨_, rfl, _, rfl, _, _, rfl, rfl, m0, ?_⟩⟩
      refine ⟨_, rfl, p, _, _, _, rfl, rfl, SqL.of hp, at0, _, rfl, _, _, rfl, rfl, ⟨by omega, by omega⟩, _, rfl, p, _, _, _, rfl, rfl, hp, (by rfl), _, rfl, ?_⟩
      exact q _ _ _ _ (Int.emod_nonneg _ (by omega)) (Int.emod_lt_of_pos _ m0)
    · have h1 : (upd H p (.lst [.int a, .int b, .int (c + 1)])) p = some (.lst [.int a, .int b, .int (c + 1)]) := upd_same
      refine ⟨_, rfl, p, _, _, _, rfl, rfl, SqL.of hp, (by rfl), _, _, rfl, rfl, _, rfl, p, _, _, _, rfl, rfl, hp, (by rfl), ?_⟩
      refine ⟨_, rfl, p, _, _, _, rfl, rfl, SqL.of h1, (by rfl), _, rfl, p, _, _, _, rfl, rfl, SqL.of h1, (by rfl), _, _, rfl, rfl, .inl ⟨by decide, by decide⟩, _, _, rfl, rfl, _, _, rfl, rfl, _, _, rfl, rfl, .inr ⟨by decide, by decide⟩, .inl ⟨_, rfl, _, _, rfl, rfl, (by show (0 : Int) < 2147483647; decide), ?_⟩⟩
      generalize hx : ((b + 6151 * (c + 1) + 17) * 48271) % 2147483647 = x
      have x0 : 0 ≤ x := by rw [← hx]; exact Int.emod_nonneg _ (by decide)
      have x1 : x < 2147483647 := by rw [← hx]; exact Int.emod_lt_of_pos _ (by decide)
      refine ⟨_, rfl, _, rfl, _, _, rfl, rfl, ⟨by decide, by decide⟩, _, _, rfl, rfl, _, _, rfl, rfl, .inl ⟨by omega, by omega⟩, .inl ⟨_, rfl, _, _, rfl, rfl, (by show (0 : Int) < 2147483399; decide), ?_⟩⟩
      generalize hy : (x * (x.fdiv 1361 + 69621)) % 2147483399 = y
      have y0 : 0 ≤ y := by rw [← hy]; exact Int.emod_nonneg _ (by decide)
      have y1 : y < 2147483399 := by rw [← hy]; exact Int.emod_lt_of_pos _ (by decide)
      refine ⟨_, rfl, _, rfl, _, _, rfl, rfl, ⟨by decide, by decide⟩, _, _, rfl, rfl, _, _, rfl, rfl, .inl ⟨by omega, by omega⟩, _, _, rfl, rfl, (by show (0 : Int) < 2147483563; decide), _, _, rfl, rfl, ⟨by decide, by decide⟩, .inl ⟨_, rfl, _, rfl, _, _, rfl, rfl, m0, ?_⟩⟩
      exact q _ _ _ _ (Int.emod_nonneg _ (by omega)) (Int.emod_lt_of_pos _ m0)
end
end Nv
namespace Nv
open PySem PySem.Spec PyProof.Rows L2
abbrev sExI : Stmt := inClass (top 1) 0
abbrev sOne : Stmt := top 40
abbrev sStr : Stmt := top 41
theorem Dr.step {G : Hp} {st : Addr} {H : Hp} {q : Addr} {o : HO} (D : Dr G st H) (n : H q = none) : ∃ G', Same G G' ∧ G' q = some o ∧ Dr G' st (upd H q o) :=
  ⟨upd G q o, D.news n, upd_same, D.new n⟩
theorem sqT_same {K : PySem.W.Frag} {H H' : Hp} {a : Addr} {xs : List V} (e : Same H H') (h : SqT K H a xs) : SqT K H' a xs := by
  rcases h with (h | ⟨o, h⟩) | h
  · exact .inl (.inl (e _ _ h))
  · exact .inl (.inr ⟨o, e _ _ h⟩)
  · exact .inr h
theorem Sys.up {K : PySem.W.Frag} {H : Hp} {a : Addr} {o : HO} (z : Sys K H) (n : H a = none) : Sys K (upd H a o) := z.same (same_upd n)
/-- a thing: what repr says of it, and that it is equal to itself -/
def Th (K : PySem.W.Frag) (H : Hp) (v : V) : Prop := ∃ t, Rp K H v t ∧ EqS K H v
mutual
theorem dpSame {K : PySem.W.Frag} {H H' : Hp} (k : Same H H') : ∀ {v : V} {d : PyData}, Dp K H v d → Dp K H' v d
  | _, _, .non => .non
  | _, _, .bl b => .bl b
  | _, _, .int i => .int i
  | _, _, .str x => .str x
  | _, _, .lst h t => .lst (k.seq h) (dpAllSame k t)
  | _, _, .tup h t => .tup (sqT_same k h) (dpAllSame k t)
theorem dpAllSame {K : PySem.W.Frag} {H H' : Hp} (k : Same H H') : ∀ {vs : List V} {ds : List PyData}, DpAll K H vs ds → DpAll K H' vs ds
  | _, _, .nil => .nil
  | _, _, .cons a b => .cons (dpSame k a) (dpAllSame k b)
end
theorem EqS.same {K : PySem.W.Frag} {H H' : Hp} {x : V} (k : Same H H') (h : EqS K H x) : EqS K H' x := by
  rcases h with h | ⟨d, h, h2⟩ | ⟨a, ks, e, h, h2⟩
  · exact .inl h
  · exact .inr (.inl ⟨d, dpSame k h, h2⟩)
  · exact .inr (.inr ⟨a, ks, e, k _ _ h, h2⟩)
theorem Th.same {K : PySem.W.Frag} {H H' : Hp} {x : V} (k : Same H H') (h : Th K H x) : Th K H' x := by
  obtain ⟨t, h1, h2⟩ := h
  exact ⟨t, h1.same k, h2.same k⟩
theorem th_list {K : PySem.W.Frag} {H : Hp} {a : Addr} {d : PyData} (h : Dq H (.ref a) d) (h2 : Dp K H (.ref a) d)
    (q : (d.showable && (decide (d.depth ≤ 30) && (decide (d.shown.length ≤ sizeLine) && (SeqAt.shaped d && PyData.eqv d d)))) = true) : Th K H (.ref a) := by
  simp only [Bool.and_eq_true, decide_eq_true_eq] at q
  exact ⟨_, .ref h q.1 q.2.1 q.2.2.1, .inr (.inl ⟨d, h2, q.2.2.2.1, q.2.2.2.2⟩)⟩
section
variable {P : Program} {w : World} {K : PySem.W.Frag} {mg : Str → Option Value} {base : Heap}
theorem scExI : FnScope ["self", "what"] ["self", "what"] (defScope sExI) :=
  ⟨rfl, rfl, rfl, by decide +kernel, rfl, by decide +kernel, by decide +kernel⟩
theorem ok_exI {f : Addr} {fd : FuncData} (F : FunD K "__init__" "OweError.__init__" (defArgs sExI) (defBody sExI) (defScope sExI) [.non] [] f fd) :
    FnOk P w K mg base CX0 1 f fd ["self", "what"] (spExI K) := by
  refine F.ok scExI (fun vs H Q E h => ?_) (fun cdv A outer s H vs Q E hr h => ?_)
  · obtain ⟨a, C, v, rfl, _⟩ := h
    rfl
  · obtain ⟨a, C, v, rfl, ox, no, ha, q⟩ := h
    refine ⟨_, pss_one (ps_ost (pv 0) (pv 1)), ?_⟩
    exact ⟨_, rfl, _, rfl, a, C, rfl, ox, no, .inl ⟨ha, fun dx h1 h2 => q dx h1 h2⟩⟩

/-- _law_one_of(state, items) -/
def spOne : Sp := fun vs H Q _ => ∃ (st l : Addr) (G : Hp) (xs : List V), vs = [.ref st, .ref l] ∧ Dr G st H ∧ G l = some (.lst xs) ∧ xs ≠ [] ∧ xs.length < 1000 ∧
  ∀ v ∈ xs, ∀ H', Dr G st H' → Q v H'
theorem scOne : FnScope ["state", "items"] ["state", "items"] (defScope sOne) :=
  ⟨rfl, rfl, rfl, by decide +kernel, rfl, by decide +kernel, by decide +kernel⟩
theorem ok_one {f fT : Addr} {fd fdT : FuncData} (F : Fun K "_law_one_of" "_law_one_of" sOne f fd) (B : Blt mg) (FT : Fun K "_law_take" "_law_take" sTake fT fdT)
    (mT : mg "_law_take" = some (.ref fT)) (bT : Binds K fdT ["state", "many"] []) :
    FnOk P w K mg base CX0 2 f fd ["state", "items"] spOne := by
  have GT : FnOk P w K mg base CX0 1 fT fdT ["state", "many"] spTak := ok_take FT B
  refine F.ok scOne (fun vs H Q E h => ?_) (fun cdv A outer s H vs Q E hr h => ?_)
  · obtain ⟨st, l, G, xs, rfl, _⟩ := h
    rfl
  · obtain ⟨st, l, G, xs, rfl, D, hl, ne, lt, q⟩ := h
    refine ⟨_, pss_one (ps_ret (pe_ix ix_list (pv 1) (pe_call GT hr (by rfl) mT FT.kp bT .nil pass0 (pa_cons (pv 0) (pa_cons (pe_callB call_len_seq (by rfl) B.len PySem.boot_len (pa_cons (pv 1) pa_nil)) pa_nil))) (fun _ _ => rfl))), ?_⟩
    have pos : 0 < xs.length := List.length_pos_iff.mpr ne
    refine ⟨_, rfl, _, rfl, _, rfl, l, xs, rfl, .inl (SqL.of (D.same _ _ hl)), ?_⟩
    obtain ⟨a, b, c, e⟩ := D.at_
    refine ⟨st, a, b, c, (xs.length : Int), rfl, by omega, by omega, e, fun z a' b' c' z0 z1 => ?_⟩
    have D' := D.put (a := a') (b := b') (c := c')
    obtain ⟨v, e2, hv⟩ := atI_in z0 z1
    exact ⟨l, xs, z, v, rfl, rfl, SqL.of (D'.same _ _ hl), e2, q v hv _ D'⟩
end
end Nv
namespace Nv
open PySem PySem.Spec PyProof.Rows L2
section
variable {P : Program} {w : World} {K : PySem.W.Frag} {mg : Str → Option Value} {base : Heap}
/-- _law_strange(state) -/
def spStr (K : PySem.W.Frag) : Sp := fun vs H Q _ => ∃ (st : Addr) (G : Hp), vs = [.ref st] ∧ Dr G st H ∧
  ∀ v G' H', Same G G' → Dr G' st H' → Th K G' v → Q v H'
theorem scStr : FnScope ["state", "found"] ["state"] (defScope sStr) :=
  ⟨rfl, rfl, rfl, by decide +kernel, rfl, by decide +kernel, by decide +kernel⟩
theorem ok_str {f fO fT : Addr} {fd fdO fdT : FuncData} (F : Fun K "_law_strange" "_law_strange" sStr f fd) (B : Blt mg) (FT : Fun K "_law_take" "_law_take" sTake fT fdT)
    (mT : mg "_law_take" = some (.ref fT)) (bT : Binds K fdT ["state", "many"] []) (FO : Fun K "_law_one_of" "_law_one_of" sOne fO fdO)
    (mO : mg "_law_one_of" = some (.ref fO)) (bO : Binds K fdO ["state", "items"] []) :
    FnOk P w K mg base CX0 3 f fd ["state"] (spStr K) := by
  have GO : FnOk P w K mg base CX0 2 fO fdO ["state", "items"] spOne := ok_one FO B FT mT bT
  refine F.ok scStr (fun vs H Q E h => ?_) (fun cdv A outer s H vs Q E hr h => ?_)
  · obtain ⟨st, G, rfl, _⟩ := h
    rfl
  · obtain ⟨st, G, rfl, D, q⟩ := h
    refine ⟨_, pss_cons (ps_set (i := 1) scStr.nd rfl (Or.inl rfl) (pe_lst (pa_cons pe_non (pa_cons pe_bl (pa_cons pe_bl (pa_cons (pe_un un_neg pe_int) (pa_cons pe_str (pa_cons pe_str
          (pa_cons (pe_tup pa_nil) (pa_cons (pe_tup (pa_cons pe_int pa_nil)) (pa_cons (pe_lst (pa_cons pe_int pa_nil)) (pa_cons pe_dnewK pa_nil))))))))))))
      (pss_one (ps_ret (pe_call GO hr (by rfl) mO FO.kp bO .nil pass0 (pa_cons (pv 0) (pa_cons (pe_op op_cat (pv 1)
        (pe_lst (pa_cons (pe_disp (pps_cons pe_int pe_int pps_nil) (by rfl) (by rfl) (fun z => by cases z) (by decide))
          (pa_cons (pe_tup (pa_cons (pe_tup (pa_cons pe_bl pa_nil)) pa_nil))
          (pa_cons (pe_lst (pa_cons (pe_lst pa_nil) (pa_cons (pe_tup (pa_cons pe_non (pa_cons pe_str pa_nil))) pa_nil))) pa_nil))))) pa_nil))))), ?_⟩
    refine ⟨_, rfl, (by show 0 ≤ sizeLine; decide), fun a1 n1 => ?_⟩
    obtain ⟨g1, k1, f1, D1⟩ := D.step (o := .tup []) n1
    generalize upd H a1 (.tup []) = h1 at D1 ⊢
    refine ⟨(by show 1 ≤ sizeLine; decide), fun a2 n2 => ?_⟩
    obtain ⟨g2, k2, f2, D2⟩ := D1.step (o := .tup [.int 0]) n2
    generalize upd h1 a2 (.tup [.int 0]) = h2 at D2 ⊢
    refine ⟨(by show 1 ≤ sizeLine; decide), fun a3 n3 => ?_⟩
    obtain ⟨g3, k3, f3, D3⟩ := D2.step (o := .lst [.int 0]) n3
    generalize upd h2 a3 (.lst [.int 0]) = h3 at D3 ⊢
    refine fun a4 n4 => ?_
    obtain ⟨g4, k4, f4, D4⟩ := D3.step (o := .dK []) n4
    generalize upd h3 a4 (.dK []) = h4 at D4 ⊢
    refine ⟨(by show 10 ≤ sizeLine; decide), fun a5 n5 => ?_⟩
    obtain ⟨g5, k5, f5, D5⟩ := D4.step (o := .lst [.non, .bl true, .bl false, .int (-1), .str "0", .str "", .ref a1, .ref a2, .ref a3, .ref a4]) n5
    generalize upd h4 a5 (.lst [.non, .bl true, .bl false, .int (-1), .str "0", .str "", .ref a1, .ref a2, .ref a3, .ref a4]) = h5 at D5 ⊢
    refine ⟨_, rfl, _, rfl, fun a6 n6 => ⟨upd_same, [(.inl 0, .int 0)], rfl, by decide, ?_⟩⟩
    rw [upd_upd, show mergeK [] [((Sum.inl 0 : Key), V.int 0)] = [((Sum.inl 0 : Key), V.int 0)] from by decide +kernel]
    obtain ⟨g6, k6, f6, D6⟩ := D5.step (o := .dK [(.inl 0, .int 0)]) n6
    generalize upd h5 a6 (.dK [(.inl 0, .int 0)]) = h6 at D6 ⊢
    refine ⟨(by show 1 ≤ sizeLine; decide), fun a7 n7 => ?_⟩
    obtain ⟨g7, k7, f7, D7⟩ := D6.step (o := .tup [.bl true]) n7
    generalize upd h6 a7 (.tup [.bl true]) = h7 at D7 ⊢
    refine ⟨(by show 1 ≤ sizeLine; decide), fun a8 n8 => ?_⟩
    obtain ⟨g8, k8, f8, D8⟩ := D7.step (o := .tup [.ref a7]) n8
    generalize upd h7 a8 (.tup [.ref a7]) = h8 at D8 ⊢
    refine ⟨(by show 0 ≤ sizeLine; decide), fun a9 n9 => ?_⟩
    obtain ⟨g9, k9, f9, D9⟩ := D8.step (o := .lst []) n9
    generalize upd h8 a9 (.lst []) = h9 at D9 ⊢
    refine ⟨(by show 2 ≤ sizeLine; decide), fun b1 m1 => ?_⟩
    obtain ⟨g10, k10, f10, D10⟩ := D9.step (o := .tup [.non, .str "a"]) m1
    generalize upd h9 b1 (.tup [.non, .str "a"]) = h10 at D10 ⊢
    refine ⟨(by show 2 ≤ sizeLine; decide), fun b2 m2 => ?_⟩
    obtain ⟨g11, k11, f11, D11⟩ := D10.step (o := .lst [.ref a9, .ref b1]) m2
    generalize upd h10 b2 (.lst [.ref a9, .ref b1]) = h11 at D11 ⊢
    refine ⟨(by show 3 ≤ sizeLine; decide), fun b3 m3 => ?_⟩
    obtain ⟨g12, k12, f12, D12⟩ := D11.step (o := .lst [.ref a6, .ref a8, .ref b2]) m3
    generalize upd h11 b3 (.lst [.ref a6, .ref a8, .ref b2]) = h12 at D12 ⊢
    have c11 : Same g11 g12 := k12
    have c10 := k11.trans c11
    have c9 := k10.trans c10
    have c8 := k9.trans c9
    have c7 := k8.trans c8
    have c6 := k7.trans c7
    have c5 := k6.trans c6
    have c4 := k5.trans c5
    have c3 := k4.trans c4
    have c2 := k3.trans c3
    have c1 := k2.trans c2
    have c0 := k1.trans c1
    refine ⟨a5, b3, _, _, rfl, rfl, D12.same _ _ (c5 _ _ f5), D12.same _ _ f12, (by show 10 + 3 ≤ sizeLine; decide), fun b4 m4 => ?_⟩
    obtain ⟨g13, k13, f13, D13⟩ := D12.step (o := .lst ([.non, .bl true, .bl false, .int (-1), .str "0", .str "", .ref a1, .ref a2, .ref a3, .ref a4] ++ [.ref a6, .ref a8, .ref b2])) m4
    refine ⟨st, b4, g13, _, rfl, D13, f13, (fun z => by cases z), (by show 13 < 1000; decide), fun v hv H' D' => q v g13 H' (c0.trans k13) D' ?_⟩
    refine Th.same k13 ?_
    simp only [List.cons_append, List.nil_append, List.mem_cons, List.not_mem_nil, or_false] at hv
    rcases hv with rfl | rfl | rfl | rfl | rfl | rfl | rfl | rfl | rfl | rfl | rfl | rfl | rfl
    · exact ⟨_, .non, .inl rfl⟩
    · exact ⟨_, .bl true, .inl rfl⟩
    · exact ⟨_, .bl false, .inl rfl⟩
    · exact ⟨_, .int (-1) (by decide +kernel), .inl rfl⟩
    · exact ⟨_, .str "0" (by decide +kernel), .inl rfl⟩
    · exact ⟨_, .str "" (by decide +kernel), .inl rfl⟩
    · exact th_list (.tup (c1 _ _ f1) .nil) (.tup (SqT.of (c1 _ _ f1)) .nil) (by decide +kernel)
    · exact th_list (.tup (c2 _ _ f2) (.cons (.int 0) .nil)) (.tup (SqT.of (c2 _ _ f2)) (.cons (.int 0) .nil)) (by decide +kernel)
    · exact th_list (.lst (c3 _ _ f3) (.cons (.int 0) .nil)) (.lst (SqL.of (c3 _ _ f3)) (.cons (.int 0) .nil)) (by decide +kernel)
    · exact ⟨_, .ref (.dic (ds := []) (c4 _ _ f4) .nil) (by decide +kernel) (by decide +kernel) (by decide +kernel), .inr (.inr ⟨a4, [], rfl, c4 _ _ f4, fun p hp => nomatch hp⟩)⟩
    · refine ⟨_, .ref (.dic (ds := [.int 0]) (c6 _ _ f6) (.cons (.int 0) .nil)) (by decide +kernel) (by decide +kernel) (by decide +kernel), .inr (.inr ⟨a6, _, rfl, c6 _ _ f6, fun p hp => ?_⟩)⟩
      obtain rfl := List.mem_singleton.mp hp
      exact ⟨.int 0, rfl, rfl, rfl⟩
    · exact th_list (.tup (c8 _ _ f8) (.cons (.tup (c7 _ _ f7) (.cons (.bl true) .nil)) .nil)) (.tup (SqT.of (c8 _ _ f8)) (.cons (.tup (SqT.of (c7 _ _ f7)) (.cons (.bl true) .nil)) .nil)) (by decide +kernel)
    · exact th_list (.lst (c11 _ _ f11) (.cons (.lst (c9 _ _ f9) .nil) (.cons (.tup (c10 _ _ f10) (.cons .non (.cons (.str "a") .nil))) .nil)))
        (.lst (SqL.of (c11 _ _ f11)) (.cons (.lst (SqL.of (c9 _ _ f9)) .nil) (.cons (.tup (SqT.of (c10 _ _ f10)) (.cons .non (.cons (.str "a") .nil))) .nil))) (by decide +kernel)
end
end Nv
namespace Nv
open PySem PySem.Spec PyProof.Rows L2
/-- what the written part says of an own error class -/
structure ErC (K : PySem.W.Frag) (mg : Str → Option Value) (x : Str) (C fI : Addr) : Prop where
  gC : mg x = some (.ref C)
  ox : OexC K C
  iC : PySem.W.findIn K (.ref C) "__init__" = some (some (.ref fI))
  no : PySem.W.findIn K (.ref C) "what" = some none
  xf : XfC K C
  xc : L2.ExcC K C
/-- the heap behind the making of an error -/
theorem err_new {H : Hp} {a dx C : Addr} {v : V} (ha : H a = none) (hd : (upd H a (exo a C none)) dx = none) (ne : dx ≠ a) :
    Same H (upd (upd (upd H a (exo a C none)) dx (exd dx (whatF v))) a (exo a C (some dx))) ∧
    ErrAt (upd (upd (upd H a (exo a C none)) dx (exd dx (whatF v))) a (exo a C (some dx))) a C v := by
  refine ⟨fun b o e => ?_, dx, upd_same, by rw [upd_ne ne, upd_same]⟩
  rw [upd_ne ne] at hd
  have n1 : b ≠ a := ne_of_none e ha
  have n2 : b ≠ dx := ne_of_none e hd
  rw [upd_ne n1, upd_ne n2, upd_ne n1]
  exact e
/-- C(v), C(what=v), v the i-th slot -/
def tErrP (C : Addr) (i : Nat) : TE := fun σ H Q => ∃ v, σ[i]? = some (some v) ∧ ∀ a H2, Same H H2 → ErrAt H2 a C v → Q (.ref a) H2
/-- C() -/
def tErr0 (C : Addr) : TE := fun σ H Q => ∀ a H2, Same H H2 → ErrAt H2 a C .non → Q (.ref a) H2
section
variable {X : Cx} {x y nm : Str} {C fE : Addr} {fdE : FuncData} {i : Nat} {p p2 pos kp : Pos} {g : List Value → List Value → List Value}
theorem pe_errP (T : ErC X.K X.mg x C fE) (tI : PySem.W.typeIn X.K (.ref fE) = some (.type "function")) (FE : FnOk X.prog X.w X.K X.mg X.base CX0 1 fE fdE ["self", "what"] (spExI X.K))
    (hb : KBn X.K fdE ["self", "what"] 2 [] g (fun vs _ => vs)) (hr : Room 2 X.A) (hg : Gl X x) (hv : PE X (.Name y p2) (tVar i)) (hdb : (x == ("__debug__" : Str)) = false := by decide) :
    PE X (.Call (.Name x p) [.Name y p2] [] pos) (tErrP C i) := by
  refine ⟨fun pins s σ H Q I h => (pe_mkE (ks := []) T.ox T.iC tI FE hr hg T.gC hb pass0 (pa_cons hv pa_nil) pk_nil (hdb := hdb)).run pins s σ H Q I ?_⟩
  obtain ⟨v, e, h⟩ := h
  exact ⟨v, e, rfl, rfl, (by show 1 ≤ 1000; decide), fun a ha => ⟨a, C, v, rfl, T.ox, T.no, upd_same, fun dx hd ne => ⟨rfl, h a _ (err_new ha hd ne).1 (err_new ha hd ne).2⟩⟩⟩
theorem pe_errN (T : ErC X.K X.mg x C fE) (tI : PySem.W.typeIn X.K (.ref fE) = some (.type "function")) (FE : FnOk X.prog X.w X.K X.mg X.base CX0 1 fE fdE ["self", "what"] (spExI X.K))
    (hb : KBn X.K fdE ["self", "what"] 1 ["what"] g (fun vs zs => vs ++ zs)) (hr : Room 2 X.A) (hg : Gl X x) (hv : PE X (.Name y p2) (tVar i)) (hdb : (x == ("__debug__" : Str)) = false := by decide) :
    PE X (.Call (.Name x p) [] [⟨some "what", .Name y p2, kp⟩] pos) (tErrP C i) := by
  refine ⟨fun pins s σ H Q I h => (pe_mkE0 (ks := ["what"]) T.ox T.iC tI FE hr hg T.gC hb pass0 (pk_cons hv pk_nil) (hdb := hdb)).run pins s σ H Q I ?_⟩
  obtain ⟨v, e, h⟩ := h
  exact ⟨v, e, rfl, rfl, (by show 0 ≤ 1000; decide), fun a ha => ⟨a, C, v, rfl, T.ox, T.no, upd_same, fun dx hd ne => ⟨rfl, h a _ (err_new ha hd ne).1 (err_new ha hd ne).2⟩⟩⟩
theorem pe_err0 (T : ErC X.K X.mg x C fE) (tI : PySem.W.typeIn X.K (.ref fE) = some (.type "function")) (FE : FnOk X.prog X.w X.K X.mg X.base CX0 1 fE fdE ["self", "what"] (spExI X.K))
    (hb : KBn X.K fdE ["self", "what"] 1 [] g (fun vs _ => vs ++ [.non])) (hr : Room 2 X.A) (hg : Gl X x) (hdb : (x == ("__debug__" : Str)) = false := by decide) :
    PE X (.Call (.Name x p) [] [] pos) (tErr0 C) := by
  refine ⟨fun pins s σ H Q I h => (pe_mkE0 (ks := []) T.ox T.iC tI FE hr hg T.gC hb pass0 pk_nil (hdb := hdb)).run pins s σ H Q I ?_⟩
  exact ⟨rfl, rfl, (by show 0 ≤ 1000; decide), fun a ha => ⟨a, C, .non, rfl, T.ox, T.no, upd_same, fun dx hd ne => ⟨rfl, h a _ (err_new ha hd ne).1 (err_new ha hd ne).2⟩⟩⟩
/-! rows of errors -/
def Errs (H : Hp) (v : V) (as Cs : List Addr) : Prop := Paired (fun a C => ErrAt H a C v) as Cs
theorem Errs.same {H H' : Hp} {v : V} (k : Same H H') : ∀ {as Cs : List Addr}, Errs H v as Cs → Errs H' v as Cs
  | _, _, .nil => .nil
  | _, _, .cons a b => .cons (ErrAt.same k a) (Errs.same k b)
theorem Errs.append {H : Hp} {v : V} : ∀ {as Cs bs Ds : List Addr}, Errs H v as Cs → Errs H v bs Ds → Errs H v (as ++ bs) (Cs ++ Ds)
  | _, _, _, _, .nil, h => h
  | _, _, _, _, .cons a b, h => .cons a (Errs.append b h)
theorem Errs.length {H : Hp} {v : V} : ∀ {as Cs : List Addr}, Errs H v as Cs → as.length = Cs.length
  | _, _, .nil => rfl
  | _, _, .cons a b => congrArg Nat.succ (Errs.length b)
def tErrs (i : Nat) (Cs : List Addr) : TA := fun σ H Q => ∃ v, σ[i]? = some (some v) ∧ ∀ as H2, Same H H2 → Errs H2 v as Cs → Q (as.map V.ref) H2
def tErrs0 (Cs : List Addr) : TA := fun σ H Q => ∀ as H2, Same H H2 → Errs H2 .non as Cs → Q (as.map V.ref) H2
variable {e : Expr} {es : List Expr} {Cs : List Addr}
theorem pa_errs_nil : PA X [] (tErrs i []) := ⟨fun pos pins s σ H Q I h => by
  obtain ⟨v, e, h⟩ := h
  exact pa_nil.run pos pins s σ H Q I (h [] H (Same.refl H) .nil)⟩
theorem pa_errs (h1 : PE X e (tErrP C i)) (h2 : PA X es (tErrs i Cs)) (hs : starEach (e :: es) X.env = (false, eval e X.env) :: starEach es X.env := by rfl) : PA X (e :: es) (tErrs i (C :: Cs)) :=
  ⟨fun pos pins s σ H Q I h => (pa_cons h1 h2 hs).run pos pins s σ H Q I (by
    obtain ⟨v, e, h⟩ := h
    exact ⟨v, e, fun a H1 k1 r1 => ⟨v, e, fun as H2 k2 r2 => h (a :: as) H2 (k1.trans k2) (.cons (ErrAt.same k2 r1) r2)⟩⟩)⟩
theorem pa_errs0_nil : PA X [] (tErrs0 []) := ⟨fun pos pins s σ H Q I h => pa_nil.run pos pins s σ H Q I (h [] H (Same.refl H) .nil)⟩
theorem pa_errs0 (h1 : PE X e (tErr0 C)) (h2 : PA X es (tErrs0 Cs)) (hs : starEach (e :: es) X.env = (false, eval e X.env) :: starEach es X.env := by rfl) : PA X (e :: es) (tErrs0 (C :: Cs)) :=
  ⟨fun pos pins s σ H Q I h => (pa_cons h1 h2 hs).run pos pins s σ H Q I
    fun a H1 k1 r1 as H2 k2 r2 => h (a :: as) H2 (k1.trans k2) (.cons (ErrAt.same k2 r1) r2)⟩
/-! marks -/
def tMk1 (K : PySem.W.Frag) (D : Addr) : TS := fun E σ H => ∃ (a C d p : Addr) (fs : List (Str × V)) (xs : List V) (b : Bool), σ[0]? = some (some (.ref a)) ∧ σ[1]? = some (some (.ref p)) ∧
  L2.ExcC K C ∧ H a = some (exo a C (some d)) ∧ H d = some (exd d fs) ∧ H p = some (.lst xs) ∧ xs.length < sizeLine ∧ PySem.W.kitOne K (.ref C) (.ref D) = some b ∧ E.nx σ (upd H p (.lst (xs ++ [.bl b])))
def tMarks (K : PySem.W.Frag) (Cs : List Addr) : TS := fun E σ H => ∃ (a C d p : Addr) (fs : List (Str × V)) (xs : List V) (bs : List Bool), σ[0]? = some (some (.ref a)) ∧ σ[1]? = some (some (.ref p)) ∧
  L2.ExcC K C ∧ H a = some (exo a C (some d)) ∧ H d = some (exd d fs) ∧ H p = some (.lst xs) ∧ xs.length + Cs.length ≤ 1000 ∧
  Paired (fun D b => PySem.W.kitOne K (.ref C) (.ref D) = some b) Cs bs ∧ E.rt (.ref p) (upd H p (.lst (xs ++ bs.map V.bl)))
variable {st : Stmt} {rest : List Stmt} {t : TS} {D : Addr}
theorem pss_mark (h1 : PS X st t) (ht : ∀ E σ H, tMk1 X.K D E σ H → t E σ H) (h2 : PSs X rest (tMarks X.K Cs)) : PSs X (st :: rest) (tMarks X.K (D :: Cs)) :=
  ⟨fun pins s σ H E I h => (pss_cons h1 h2).run pins s σ H E I (ht _ _ _ (by
    obtain ⟨a, C, d, p, fs, xs, bs, e0, e1, xc, ha, hd, hp, hl, pr, q⟩ := h
    cases pr with
    | @cons _ b _ bs k pr =>
      have na : a ≠ p := fun z => by
        rw [z, hp] at ha
        cases ha
      have nd : d ≠ p := fun z => by
        rw [z, hp] at hd
        cases hd
      refine ⟨a, C, d, p, fs, xs, b, e0, e1, xc, ha, hd, hp, ?_, k, a, C, d, p, fs, xs ++ [.bl b], bs, e0, e1, xc, by rw [upd_ne na]; exact ha, by rw [upd_ne nd]; exact hd, upd_same, ?_, pr, ?_⟩
      · rw [sizeLine_eq]; rw [List.length_cons] at hl; omega
      · rw [List.length_append, List.length_singleton]; rw [List.length_cons] at hl; omega
      · rw [upd_upd, List.append_assoc]
        exact q))⟩
theorem pss_marks_end (h1 : PS X st (tRet (tVar 1))) : PSs X [st] (tMarks X.K []) :=
  ⟨fun pins s σ H E I h => (pss_one h1).run pins s σ H E I (by
    obtain ⟨a, C, d, p, fs, xs, bs, e0, e1, xc, ha, hd, hp, hl, pr, q⟩ := h
    cases pr
    refine ⟨_, e1, ?_⟩
    have z : upd H p (.lst (xs ++ ([] : List Bool).map V.bl)) = H := by
      rw [List.map_nil, List.append_nil]
      funext b
      by_cases hb : b = p
      · rw [hb, upd_same, hp]
      · rw [upd_ne hb]
    rw [z] at q
    exact q)⟩
end
end Nv
namespace Nv
open PySem PySem.Spec PyProof.Rows L2
abbrev sPla : Stmt := top 42
abbrev sNam : Stmt := top 43
abbrev sEmp : Stmt := top 44
abbrev sMrk : Stmt := top 45
abbrev sIsE : Stmt := top 46
/-- the error classes -/
structure TEn (K : PySem.W.Frag) (mg : Str → Option Value) (fE : Addr) (fdE : FuncData) (c0 c1 c2 c3 c4 c5 c6 c7 c8 c9 c10 c11 c12 c13 c14 c15 c16 c17 c18 c19 c20 c21 c22 c23 c24 c25 c26 c27 c28 c29 c30 c31 c32 c33 c34 : Addr) : Prop where
  B : Blt mg
  ve : mg "ValueError" = none
  FE : FunD K "__init__" "OweError.__init__" (defArgs sExI) (defBody sExI) (defScope sExI) [.non] [] fE fdE
  tI : PySem.W.typeIn K (.ref fE) = some (.type "function")
  bP : ∃ g, KBn K fdE ["self", "what"] 2 [] g (fun vs _ => vs)
  bN : ∃ g, KBn K fdE ["self", "what"] 1 ["what"] g (fun vs zs => vs ++ zs)
  b0 : ∃ g, KBn K fdE ["self", "what"] 1 [] g (fun vs _ => vs ++ [.non])
  e0 : ErC K mg "OweError" c0 fE
  e1 : ErC K mg "BadShare" c1 fE
  e2 : ErC K mg "BadWorld" c2 fE
  e3 : ErC K mg "NoStanding" c3 fE
  e4 : ErC K mg "NoAsk" c4 fE
  e5 : ErC K mg "NoAnswer" c5 fE
  e6 : ErC K mg "BadPrice" c6 fE
  e7 : ErC K mg "BadOrder" c7 fE
  e8 : ErC K mg "BadCount" c8 fE
  e9 : ErC K mg "TooMany" c9 fE
  e10 : ErC K mg "BadIncome" c10 fE
  e11 : ErC K mg "BadTable" c11 fE
  e12 : ErC K mg "BadWhole" c12 fE
  e13 : ErC K mg "BadLink" c13 fE
  e14 : ErC K mg "BadIncomes" c14 fE
  e15 : ErC K mg "BadPapers" c15 fE
  e16 : ErC K mg "BadRule" c16 fE
  e17 : ErC K mg "BadLot" c17 fE
  e18 : ErC K mg "BadGap" c18 fE
  e19 : ErC K mg "BadPlace" c19 fE
  e20 : ErC K mg "BadExchange" c20 fE
  e21 : ErC K mg "NoRoom" c21 fE
  e22 : ErC K mg "BadPair" c22 fE
  e23 : ErC K mg "BadSeats" c23 fE
  e24 : ErC K mg "BadWish" c24 fE
  e25 : ErC K mg "BadRecipes" c25 fE
  e26 : ErC K mg "BadValue" c26 fE
  e27 : ErC K mg "BadDiary" c27 fE
  e28 : ErC K mg "BadName" c28 fE
  e29 : ErC K mg "BadRow" c29 fE
  e30 : ErC K mg "NoTurn" c30 fE
  e31 : ErC K mg "Owing" c31 fE
  e32 : ErC K mg "NoSafe" c32 fE
  e33 : ErC K mg "BadDeed" c33 fE
  e34 : ErC K mg "BadText" c34 fE
section
variable {P : Program} {w : World} {K : PySem.W.Frag} {mg : Str → Option Value} {base : Heap} {fE c0 c1 c2 c3 c4 c5 c6 c7 c8 c9 c10 c11 c12 c13 c14 c15 c16 c17 c18 c19 c20 c21 c22 c23 c24 c25 c26 c27 c28 c29 c30 c31 c32 c33 c34 : Addr} {fdE : FuncData}
/-- _law_marks(error) -/
def spMrk (K : PySem.W.Frag) (Cs : List Addr) : Sp := fun vs H Q _ => ∃ (a C d : Addr) (fs : List (Str × V)) (bs : List Bool), vs = [.ref a] ∧ L2.ExcC K C ∧ H a = some (exo a C (some d)) ∧ H d = some (exd d fs) ∧
  Paired (fun D b => PySem.W.kitOne K (.ref C) (.ref D) = some b) Cs bs ∧ ∀ p H', Same H H' → H' p = some (.lst (bs.map V.bl)) → Q (.ref p) H'
theorem scMrk : FnScope ["error", "found"] ["error"] (defScope sMrk) :=
  ⟨rfl, rfl, rfl, by decide +kernel, rfl, by decide +kernel, by decide +kernel⟩
theorem ok_mrk {f : Addr} {fd : FuncData} (F : Fun K "_law_marks" "_law_marks" sMrk f fd) (T : TEn K mg fE fdE c0 c1 c2 c3 c4 c5 c6 c7 c8 c9 c10 c11 c12 c13 c14 c15 c16 c17 c18 c19 c20 c21 c22 c23 c24 c25 c26 c27 c28 c29 c30 c31 c32 c33 c34) :
    FnOk P w K mg base CX0 1 f fd ["error"] (spMrk K [c1, c2, c3, c4, c5, c6, c7, c8, c9, c10, c11, c12, c13, c14, c15, c16, c17, c18, c19, c20, c21, c22, c23, c24, c25, c26, c27, c28, c29, c30, c31, c32, c33, c34]) := by
  refine F.ok scMrk (fun vs H Q E h => ?_) (fun cdv A outer s H vs Q E hr h => ?_)
  · obtain ⟨a, C, d, fs, bs, rfl, _⟩ := h
    rfl
  · obtain ⟨a, C, d, fs, bs, rfl, xc, ha, hd, pr, q⟩ := h
    refine ⟨_, pss_cons (ps_set (i := 1) scMrk.nd rfl (Or.inl rfl) (pe_lst pa_nil))
      (pss_mark (D := c1) (ps_expr (pe_bm PySem.F.plainAttrs_list PySem.F.slot_list_append PySem.F.type_list_append mt_append (pv 1) (pa_cons (pe_callB call_isX (by rfl) T.B.isi PyProof.Rows.boot_isinstance (pa_cons (pv 0) (pa_cons (pe_glob (v := .ref c1) (by rfl) T.e1.gC rfl) pa_nil))) pa_nil))) (fun E σ H ⟨a, C, d, p, fs, xs, b, e0, e1, xc, ha, hd, hp, hl, k, q⟩ => ⟨_, e1, .inl ⟨rfl, xs, SqL.of hp⟩, _, e0, a, C, d, fs, _, _, b, rfl, .own _, xc, ha, hd, k, p, xs, _, rfl, rfl, hp, hl, q⟩)
      (pss_mark (D := c2) (ps_expr (pe_bm PySem.F.plainAttrs_list PySem.F.slot_list_append PySem.F.type_list_append mt_append (pv 1) (pa_cons (pe_callB call_isX (by rfl) T.B.isi PyProof.Rows.boot_isinstance (pa_cons (pv 0) (pa_cons (pe_glob (v := .ref c2) (by rfl) T.e2.gC rfl) pa_nil))) pa_nil))) (fun E σ H ⟨a, C, d, p, fs, xs, b, e0, e1, xc, ha, hd, hp, hl, k, q⟩ => ⟨_, e1, .inl ⟨rfl, xs, SqL.of hp⟩, _, e0, a, C, d, fs, _, _, b, rfl, .own _, xc, ha, hd, k, p, xs, _, rfl, rfl, hp, hl, q⟩)
      (pss_mark (D := c3) (ps_expr (pe_bm PySem.F.plainAttrs_list PySem.F.slot_list_append PySem.F.type_list_append mt_append (pv 1) (pa_cons (pe_callB call_isX (by rfl) T.B.isi PyProof.Rows.boot_isinstance (pa_cons (pv 0) (pa_cons (pe_glob (v := .ref c3) (by rfl) T.e3.gC rfl) pa_nil))) pa_nil))) (fun E σ H ⟨a, C, d, p, fs, xs, b, e0, e1, xc, ha, hd, hp, hl, k, q⟩ => ⟨_, e1, .inl ⟨rfl, xs, SqL.of hp⟩, _, e0, a, C, d, fs, _, _, b, rfl, .own _, xc, ha, hd, k, p, xs, _, rfl, rfl, hp, hl, q⟩)
      (pss_mark (D := c4) (ps_expr (pe_bm PySem.F.plainAttrs_list PySem.F.slot_list_append PySem.F.type_list_append mt_append (pv 1) (pa_cons (pe_callB call_isX (by rfl) T.B.isi PyProof.Rows.boot_isinstance (pa_cons (pv 0) (pa_cons (pe_glob (v := .ref c4) (by rfl) T.e4.gC rfl) pa_nil))) pa_nil))) (fun E σ H ⟨a, C, d, p, fs, xs, b, e0, e1, xc, ha, hd, hp, hl, k, q⟩ => ⟨_, e1, .inl ⟨rfl, xs, SqL.of hp⟩, _, e0, a, C, d, fs, _, _, b, rfl, .own _, xc, ha, hd, k, p, xs, _, rfl, rfl, hp, hl, q⟩)
      (pss_mark (D := c5) (ps_expr (pe_bm PySem.F.plainAttrs_list PySem.F.slot_list_append PySem.F.type_list_append mt_append (pv 1) (pa_cons (pe_callB call_isX (by rfl) T.B.isi PyProof.Rows.boot_isinstance (pa_cons (pv 0) (pa_cons (pe_glob (v := .ref c5) (by rfl) T.e5.gC rfl) pa_nil))) pa_nil))) (fun E σ H ⟨a, C, d, p, fs, xs, b, e0, e1, xc, ha, hd, hp, hl, k, q⟩ => ⟨_, e1, .inl ⟨rfl, xs, SqL.of hp⟩, _, e0, a, C, d, fs, _, _, b, rfl, .own _, xc, ha, hd, k, p, xs, _, rfl, rfl, hp, hl, q⟩)
      (pss_mark (D := c6) (ps_expr (pe_bm PySem.F.plainAttrs_list PySem.F.slot_list_append PySem.F.type_list_append mt_append (pv 1) (pa_cons (pe_callB call_isX (by rfl) T.B.isi PyProof.Rows.boot_isinstance (pa_cons (pv 0) (pa_cons (pe_glob (v := .ref c6) (by rfl) T.e6.gC rfl) pa_nil))) pa_nil))) (fun E σ H ⟨a, C, d, p, fs, xs, b, e0, e1, xc, ha, hd, hp, hl, k, q⟩ => ⟨_, e1, .inl ⟨rfl, xs, SqL.of hp⟩, _, e0, a, C, d, fs, _, _, b, rfl, .own _, xc, ha, hd, k, p, xs, _, rfl, rfl, hp, hl, q⟩)
      (pss_mark (D := c7) (ps_expr (pe_bm PySem.F.plainAttrs_list PySem.F.slot_list_append PySem.F.type_list_append mt_append (pv 1) (pa_cons (pe_callB call_isX (by rfl) T.B.isi PyProof.Rows.boot_isinstance (pa_cons (pv 0) (pa_cons (pe_glob (v := .ref c7) (by rfl) T.e7.gC rfl) pa_nil))) pa_nil))) (fun E σ H ⟨a, C, d, p, fs, xs, b, e0, e1, xc, ha, hd, hp, hl, k, q⟩ => ⟨_, e1, .inl ⟨rfl, xs, SqL.of hp⟩, _, e0, a, C, d, fs, _, _, b, rfl, .own _, xc, ha, hd, k, p, xs, _, rfl, rfl, hp, hl, q⟩)
      (pss_mark (D := c8) (ps_expr (pe_bm PySem.F.plainAttrs_list PySem.F.slot_list_append PySem.F.type_list_append mt_append (pv 1) (pa_cons (pe_callB call_isX (by rfl) T.B.isi PyProof.Rows.boot_isinstance (pa_cons (pv 0) (pa_cons (pe_glob (v := .ref c8) (by rfl) T.e8.gC rfl) pa_nil))) pa_nil))) (fun E σ H ⟨a, C, d, p, fs, xs, b, e0, e1, xc, ha, hd, hp, hl, k, q⟩ => ⟨_, e1, .inl ⟨rfl, xs, SqL.of hp⟩, _, e0, a, C, d, fs, _, _, b, rfl, .own _, xc, ha, hd, k, p, xs, _, rfl, rfl, hp, hl, q⟩)
      (pss_mark (D := c9) (ps_expr (pe_bm PySem.F.plainAttrs_list PySem.F.slot_list_append PySem.F.type_list_append mt_append (pv 1) (pa_cons (pe_callB call_isX (by rfl) T.B.isi PyProof.Rows.boot_isinstance (pa_cons (pv 0) (pa_cons (pe_glob (v := .ref c9) (by rfl) T.e9.gC rfl) pa_nil))) pa_nil))) (fun E σ H ⟨a, C, d, p, fs, xs, b, e0, e1, xc, ha, hd, hp, hl, k, q⟩ => ⟨_, e1, .inl ⟨rfl, xs, SqL.of hp⟩, _, e0, a, C, d, fs, _, _, b, rfl, .own _, xc, ha, hd, k, p, xs, _, rfl, rfl, hp, hl, q⟩)
      (pss_mark (D := c10) (ps_expr (pe_bm PySem.F.plainAttrs_list PySem.F.slot_list_append PySem.F.type_list_append mt_append (pv 1) (pa_cons (pe_callB call_isX (by rfl) T.B.isi PyProof.Rows.boot_isinstance (pa_cons (pv 0) (pa_cons (pe_glob (v := .ref c10) (by rfl) T.e10.gC rfl) pa_nil))) pa_nil))) (fun E σ H ⟨a, C, d, p, fs, xs, b, e0, e1, xc, ha, hd, hp, hl, k, q⟩ => ⟨_, e1, .inl ⟨rfl, xs, SqL.of hp⟩, _, e0, a, C, d, fs, _, _, b, rfl, .own _, xc, ha, hd, k, p, xs, _, rfl, rfl, hp, hl, q⟩)
      (pss_mark (D := c11) (ps_expr (pe_bm PySem.F.plainAttrs_list PySem.F.slot_list_append PySem.F.type_list_append mt_append (pv 1) (pa_cons (pe_callB call_isX (by rfl) T.B.isi PyProof.Rows.boot_isinstance (pa_cons (pv 0) (pa_cons (pe_glob (v := .ref c11) (by rfl) T.e11.gC rfl) pa_nil))) pa_nil))) (fun E σ H ⟨a, C, d, p, fs, xs, b, e0, e1, xc, ha, hd, hp, hl, k, q⟩ => ⟨_, e1, .inl ⟨rfl, xs, SqL.of hp⟩, _, e0, a, C, d, fs, _, _, b, rfl, .own _, xc, ha, hd, k, p, xs, _, rfl, rfl, hp, hl, q⟩)
      (pss_mark (D := c12) (ps_expr (pe_bm PySem.F.plainAttrs_list PySem.F.slot_list_append PySem.F.type_list_append mt_append (pv 1) (pa_cons (pe_callB call_isX (by rfl) T.B.isi PyProof.Rows.boot_isinstance (pa_cons (pv 0) (pa_cons (pe_glob (v := .ref c12) (by rfl) T.e12.gC rfl) pa_nil))) pa_nil))) (fun E σ H ⟨a, C, d, p, fs, xs, b, e0, e1, xc, ha, hd, hp, hl, k, q⟩ => ⟨_, e1, .inl ⟨rfl, xs, SqL.of hp⟩, _, e0, a, C, d, fs, _, _, b, rfl, .own _, xc, ha, hd, k, p, xs, _, rfl, rfl, hp, hl, q⟩)
      (pss_mark (D := c13) (ps_expr (pe_bm PySem.F.plainAttrs_list PySem.F.slot_list_append PySem.F.type_list_append mt_append (pv 1) (pa_cons (pe_callB call_isX (by rfl) T.B.isi PyProof.Rows.boot_isinstance (pa_cons (pv 0) (pa_cons (pe_glob (v := .ref c13) (by rfl) T.e13.gC rfl) pa_nil))) pa_nil))) (fun E σ H ⟨a, C, d, p, fs, xs, b, e0, e1, xc, ha, hd, hp, hl, k, q⟩ => ⟨_, e1, .inl ⟨rfl, xs, SqL.of hp⟩, _, e0, a, C, d, fs, _, _, b, rfl, .own _, xc, ha, hd, k, p, xs, _, rfl, rfl, hp, hl, q⟩)
      (pss_mark (D := c14) (ps_expr (pe_bm PySem.F.plainAttrs_list PySem.F.slot_list_append PySem.F.type_list_append mt_append (pv 1) (pa_cons (pe_callB call_isX (by rfl) T.B.isi PyProof.Rows.boot_isinstance (pa_cons (pv 0) (pa_cons (pe_glob (v := .ref c14) (by rfl) T.e14.gC rfl) pa_nil))) pa_nil))) (fun E σ H ⟨a, C, d, p, fs, xs, b, e0, e1, xc, ha, hd, hp, hl, k, q⟩ => ⟨_, e1, .inl ⟨rfl, xs, SqL.of hp⟩, _, e0, a, C, d, fs, _, _, b, rfl, .own _, xc, ha, hd, k, p, xs, _, rfl, rfl, hp, hl, q⟩)
      (pss_mark (D := c15) (ps_expr (pe_bm PySem.F.plainAttrs_list PySem.F.slot_list_append PySem.F.type_list_append mt_append (pv 1) (pa_cons (pe_callB call_isX (by rfl) T.B.isi PyProof.Rows.boot_isinstance (pa_cons (pv 0) (pa_cons (pe_glob (v := .ref c15) (by rfl) T.e15.gC rfl) pa_nil))) pa_nil))) (fun E σ H ⟨a, C, d, p, fs, xs, b, e0, e1, xc, ha, hd, hp, hl, k, q⟩ => ⟨_, e1, .inl ⟨rfl, xs, SqL.of hp⟩, _, e0, a, C, d, fs, _, _, b, rfl, .own _, xc, ha, hd, k, p, xs, _, rfl, rfl, hp, hl, q⟩)
      (pss_mark (D := c16) (ps_expr (pe_bm PySem.F.plainAttrs_list PySem.F.slot_list_append PySem.F.type_list_append mt_append (pv 1) (pa_cons (pe_callB call_isX (by rfl) T.B.isi PyProof.Rows.boot_isinstance (pa_cons (pv 0) (pa_cons (pe_glob (v := .ref c16) (by rfl) T.e16.gC rfl) pa_nil))) pa_nil))) (fun E σ H ⟨a, C, d, p, fs, xs, b, e0, e1, xc, ha, hd, hp, hl, k, q⟩ => ⟨_, e1, .inl ⟨rfl, xs, SqL.of hp⟩, _, e0, a, C, d, fs, _, _, b, rfl, .own _, xc, ha, hd, k, p, xs, _, rfl, rfl, hp, hl, q⟩)
      (pss_mark (D := c17) (ps_expr (pe_bm PySem.F.plainAttrs_list PySem.F.slot_list_append PySem.F.type_list_append mt_append (pv 1) (pa_cons (pe_callB call_isX (by rfl) T.B.isi PyProof.Rows.boot_isinstance (pa_cons (pv 0) (pa_cons (pe_glob (v := .ref c17) (by rfl) T.e17.gC rfl) pa_nil))) pa_nil))) (fun E σ H ⟨a, C, d, p, fs, xs, b, e0, e1, xc, ha, hd, hp, hl, k, q⟩ => ⟨_, e1, .inl ⟨rfl, xs, SqL.of hp⟩, _, e0, a, C, d, fs, _, _, b, rfl, .own _, xc, ha, hd, k, p, xs, _, rfl, rfl, hp, hl, q⟩)
      (pss_mark (D := c18) (ps_expr (pe_bm PySem.F.plainAttrs_list PySem.F.slot_list_append PySem.F.type_list_append mt_append (pv 1) (pa_cons (pe_callB call_isX (by rfl) T.B.isi PyProof.Rows.boot_isinstance (pa_cons (pv 0) (pa_cons (pe_glob (v := .ref c18) (by rfl) T.e18.gC rfl) pa_nil))) pa_nil))) (fun E σ H ⟨a, C, d, p, fs, xs, b, e0, e1, xc, ha, hd, hp, hl, k, q⟩ => ⟨_, e1, .inl ⟨rfl, xs, SqL.of hp⟩, _, e0, a, C, d, fs, _, _, b, rfl, .own _, xc, ha, hd, k, p, xs, _, rfl, rfl, hp, hl, q⟩)
      (pss_mark (D := c19) (ps_expr (pe_bm PySem.F.plainAttrs_list PySem.F.slot_list_append PySem.F.type_list_append mt_append (pv 1) (pa_cons (pe_callB call_isX (by rfl) T.B.isi PyProof.Rows.boot_isinstance (pa_cons (pv 0) (pa_cons (pe_glob (v := .ref c19) (by rfl) T.e19.gC rfl) pa_nil))) pa_nil))) (fun E σ H ⟨a, C, d, p, fs, xs, b, e0, e1, xc, ha, hd, hp, hl, k, q⟩ => ⟨_, e1, .inl ⟨rfl, xs, SqL.of hp⟩, _, e0, a, C, d, fs, _, _, b, rfl, .own _, xc, ha, hd, k, p, xs, _, rfl, rfl, hp, hl, q⟩)
      (pss_mark (D := c20) (ps_expr (pe_bm PySem.F.plainAttrs_list PySem.F.slot_list_append PySem.F.type_list_append mt_append (pv 1) (pa_cons (pe_callB call_isX (by rfl) T.B.isi PyProof.Rows.boot_isinstance (pa_cons (pv 0) (pa_cons (pe_glob (v := .ref c20) (by rfl) T.e20.gC rfl) pa_nil))) pa_nil))) (fun E σ H ⟨a, C, d, p, fs, xs, b, e0, e1, xc, ha, hd, hp, hl, k, q⟩ => ⟨_, e1, .inl ⟨rfl, xs, SqL.of hp⟩, _, e0, a, C, d, fs, _, _, b, rfl, .own _, xc, ha, hd, k, p, xs, _, rfl, rfl, hp, hl, q⟩)
      (pss_mark (D := c21) (ps_expr (pe_bm PySem.F.plainAttrs_list PySem.F.slot_list_append PySem.F.type_list_append mt_append (pv 1) (pa_cons (pe_callB call_isX (by rfl) T.B.isi PyProof.Rows.boot_isinstance (pa_cons (pv 0) (pa_cons (pe_glob (v := .ref c21) (by rfl) T.e21.gC rfl) pa_nil))) pa_nil))) (fun E σ H ⟨a, C, d, p, fs, xs, b, e0, e1, xc, ha, hd, hp, hl, k, q⟩ => ⟨_, e1, .inl ⟨rfl, xs, SqL.of hp⟩, _, e0, a, C, d, fs, _, _, b, rfl, .own _, xc, ha, hd, k, p, xs, _, rfl, rfl, hp, hl, q⟩)
      (pss_mark (D := c22) (ps_expr (pe_bm PySem.F.plainAttrs_list PySem.F.slot_list_append PySem.F.type_list_append mt_append (pv 1) (pa_cons (pe_callB call_isX (by rfl) T.B.isi PyProof.Rows.boot_isinstance (pa_cons (pv 0) (pa_cons (pe_glob (v := .ref c22) (by rfl) T.e22.gC rfl) pa_nil))) pa_nil))) (fun E σ H ⟨a, C, d, p, fs, xs, b, e0, e1, xc, ha, hd, hp, hl, k, q⟩ => ⟨_, e1, .inl ⟨rfl, xs, SqL.of hp⟩, _, e0, a, C, d, fs, _, _, b, rfl, .own _, xc, ha, hd, k, p, xs, _, rfl, rfl, hp, hl, q⟩)
      (pss_mark (D := c23) (ps_expr (pe_bm PySem.F.plainAttrs_list PySem.F.slot_list_append PySem.F.type_list_append mt_append (pv 1) (pa_cons (pe_callB call_isX (by rfl) T.B.isi PyProof.Rows.boot_isinstance (pa_cons (pv 0) (pa_cons (pe_glob (v := .ref c23) (by rfl) T.e23.gC rfl) pa_nil))) pa_nil))) (fun E σ H ⟨a, C, d, p, fs, xs, b, e0, e1, xc, ha, hd, hp, hl, k, q⟩ => ⟨_, e1, .inl ⟨rfl, xs, SqL.of hp⟩, _, e0, a, C, d, fs, _, _, b, rfl, .own _, xc, ha, hd, k, p, xs, _, rfl, rfl, hp, hl, q⟩)
      (pss_mark (D := c24) (ps_expr (pe_bm PySem.F.plainAttrs_list PySem.F.slot_list_append PySem.F.type_list_append mt_append (pv 1) (pa_cons (pe_callB call_isX (by rfl) T.B.isi PyProof.Rows.boot_isinstance (pa_cons (pv 0) (pa_cons (pe_glob (v := .ref c24) (by rfl) T.e24.gC rfl) pa_nil))) pa_nil))) (fun E σ H ⟨a, C, d, p, fs, xs, b, e0, e1, xc, ha, hd, hp, hl, k, q⟩ => ⟨_, e1, .inl ⟨rfl, xs, SqL.of hp⟩, _, e0, a, C, d, fs, _, _, b, rfl, .own _, xc, ha, hd, k, p, xs, _, rfl, rfl, hp, hl, q⟩)
      (pss_mark (D := c25) (ps_expr (pe_bm PySem.F.plainAttrs_list PySem.F.slot_list_append PySem.F.type_list_append mt_append (pv 1) (pa_cons (pe_callB call_isX (by rfl) T.B.isi PyProof.Rows.boot_isinstance (pa_cons (pv 0) (pa_cons (pe_glob (v := .ref c25) (by rfl) T.e25.gC rfl) pa_nil))) pa_nil))) (fun E σ H ⟨a, C, d, p, fs, xs, b, e0, e1, xc, ha, hd, hp, hl, k, q⟩ => ⟨_, e1, .inl ⟨rfl, xs, SqL.of hp⟩, _, e0, a, C, d, fs, _, _, b, rfl, .own _, xc, ha, hd, k, p, xs, _, rfl, rfl, hp, hl, q⟩)
      (pss_mark (D := c26) (ps_expr (pe_bm PySem.F.plainAttrs_list PySem.F.slot_list_append PySem.F.type_list_append mt_append (pv 1) (pa_cons (pe_callB call_isX (by rfl) T.B.isi PyProof.Rows.boot_isinstance (pa_cons (pv 0) (pa_cons (pe_glob (v := .ref c26) (by rfl) T.e26.gC rfl) pa_nil))) pa_nil))) (fun E σ H ⟨a, C, d, p, fs, xs, b, e0, e1, xc, ha, hd, hp, hl, k, q⟩ => ⟨_, e1, .inl ⟨rfl, xs, SqL.of hp⟩, _, e0, a, C, d, fs, _, _, b, rfl, .own _, xc, ha, hd, k, p, xs, _, rfl, rfl, hp, hl, q⟩)
      (pss_mark (D := c27) (ps_expr (pe_bm PySem.F.plainAttrs_list PySem.F.slot_list_append PySem.F.type_list_append mt_append (pv 1) (pa_cons (pe_callB call_isX (by rfl) T.B.isi PyProof.Rows.boot_isinstance (pa_cons (pv 0) (pa_cons (pe_glob (v := .ref c27) (by rfl) T.e27.gC rfl) pa_nil))) pa_nil))) (fun E σ H ⟨a, C, d, p, fs, xs, b, e0, e1, xc, ha, hd, hp, hl, k, q⟩ => ⟨_, e1, .inl ⟨rfl, xs, SqL.of hp⟩, _, e0, a, C, d, fs, _, _, b, rfl, .own _, xc, ha, hd, k, p, xs, _, rfl, rfl, hp, hl, q⟩)
      (pss_mark (D := c28) (ps_expr (pe_bm PySem.F.plainAttrs_list PySem.F.slot_list_append PySem.F.type_list_append mt_append (pv 1) (pa_cons (pe_callB call_isX (by rfl) T.B.isi PyProof.Rows.boot_isinstance (pa_cons (pv 0) (pa_cons (pe_glob (v := .ref c28) (by rfl) T.e28.gC rfl) pa_nil))) pa_nil))) (fun E σ H ⟨a, C, d, p, fs, xs, b, e0, e1, xc, ha, hd, hp, hl, k, q⟩ => ⟨_, e1, .inl ⟨rfl, xs, SqL.of hp⟩, _, e0, a, C, d, fs, _, _, b, rfl, .own _, xc, ha, hd, k, p, xs, _, rfl, rfl, hp, hl, q⟩)
      (pss_mark (D := c29) (ps_expr (pe_bm PySem.F.plainAttrs_list PySem.F.slot_list_append PySem.F.type_list_append mt_append (pv 1) (pa_cons (pe_callB call_isX (by rfl) T.B.isi PyProof.Rows.boot_isinstance (pa_cons (pv 0) (pa_cons (pe_glob (v := .ref c29) (by rfl) T.e29.gC rfl) pa_nil))) pa_nil))) (fun E σ H ⟨a, C, d, p, fs, xs, b, e0, e1, xc, ha, hd, hp, hl, k, q⟩ => ⟨_, e1, .inl ⟨rfl, xs, SqL.of hp⟩, _, e0, a, C, d, fs, _, _, b, rfl, .own _, xc, ha, hd, k, p, xs, _, rfl, rfl, hp, hl, q⟩)
      (pss_mark (D := c30) (ps_expr (pe_bm PySem.F.plainAttrs_list PySem.F.slot_list_append PySem.F.type_list_append mt_append (pv 1) (pa_cons (pe_callB call_isX (by rfl) T.B.isi PyProof.Rows.boot_isinstance (pa_cons (pv 0) (pa_cons (pe_glob (v := .ref c30) (by rfl) T.e30.gC rfl) pa_nil))) pa_nil))) (fun E σ H ⟨a, C, d, p, fs, xs, b, e0, e1, xc, ha, hd, hp, hl, k, q⟩ => ⟨_, e1, .inl ⟨rfl, xs, SqL.of hp⟩, _, e0, a, C, d, fs, _, _, b, rfl, .own _, xc, ha, hd, k, p, xs, _, rfl, rfl, hp, hl, q⟩)
      (pss_mark (D := c31) (ps_expr (pe_bm PySem.F.plainAttrs_list PySem.F.slot_list_append PySem.F.type_list_append mt_append (pv 1) (pa_cons (pe_callB call_isX (by rfl) T.B.isi PyProof.Rows.boot_isinstance (pa_cons (pv 0) (pa_cons (pe_glob (v := .ref c31) (by rfl) T.e31.gC rfl) pa_nil))) pa_nil))) (fun E σ H ⟨a, C, d, p, fs, xs, b, e0, e1, xc, ha, hd, hp, hl, k, q⟩ => ⟨_, e1, .inl ⟨rfl, xs, SqL.of hp⟩, _, e0, a, C, d, fs, _, _, b, rfl, .own _, xc, ha, hd, k, p, xs, _, rfl, rfl, hp, hl, q⟩)
      (pss_mark (D := c32) (ps_expr (pe_bm PySem.F.plainAttrs_list PySem.F.slot_list_append PySem.F.type_list_append mt_append (pv 1) (pa_cons (pe_callB call_isX (by rfl) T.B.isi PyProof.Rows.boot_isinstance (pa_cons (pv 0) (pa_cons (pe_glob (v := .ref c32) (by rfl) T.e32.gC rfl) pa_nil))) pa_nil))) (fun E σ H ⟨a, C, d, p, fs, xs, b, e0, e1, xc, ha, hd, hp, hl, k, q⟩ => ⟨_, e1, .inl ⟨rfl, xs, SqL.of hp⟩, _, e0, a, C, d, fs, _, _, b, rfl, .own _, xc, ha, hd, k, p, xs, _, rfl, rfl, hp, hl, q⟩)
      (pss_mark (D := c33) (ps_expr (pe_bm PySem.F.plainAttrs_list PySem.F.slot_list_append PySem.F.type_list_append mt_append (pv 1) (pa_cons (pe_callB call_isX (by rfl) T.B.isi PyProof.Rows.boot_isinstance (pa_cons (pv 0) (pa_cons (pe_glob (v := .ref c33) (by rfl) T.e33.gC rfl) pa_nil))) pa_nil))) (fun E σ H ⟨a, C, d, p, fs, xs, b, e0, e1, xc, ha, hd, hp, hl, k, q⟩ => ⟨_, e1, .inl ⟨rfl, xs, SqL.of hp⟩, _, e0, a, C, d, fs, _, _, b, rfl, .own _, xc, ha, hd, k, p, xs, _, rfl, rfl, hp, hl, q⟩)
      (pss_mark (D := c34) (ps_expr (pe_bm PySem.F.plainAttrs_list PySem.F.slot_list_append PySem.F.type_list_append mt_append (pv 1) (pa_cons (pe_callB call_isX (by rfl) T.B.isi PyProof.Rows.boot_isinstance (pa_cons (pv 0) (pa_cons (pe_glob (v := .ref c34) (by rfl) T.e34.gC rfl) pa_nil))) pa_nil))) (fun E σ H ⟨a, C, d, p, fs, xs, b, e0, e1, xc, ha, hd, hp, hl, k, q⟩ => ⟨_, e1, .inl ⟨rfl, xs, SqL.of hp⟩, _, e0, a, C, d, fs, _, _, b, rfl, .own _, xc, ha, hd, k, p, xs, _, rfl, rfl, hp, hl, q⟩)
      (pss_marks_end (ps_ret (pv 1))))))))))))))))))))))))))))))))))))), ?_⟩
    refine ⟨(by show 0 ≤ sizeLine; decide), fun p np => ?_⟩
    refine ⟨a, C, d, p, fs, [], bs, rfl, rfl, xc, same_upd np _ _ ha, same_upd np _ _ hd, upd_same, (by show 0 + 34 ≤ 1000; decide), pr, q p _ ?_ ?_⟩
    · rw [upd_upd]
      exact same_upd np
    · rw [upd_same, List.nil_append]
/-- what the classes must say -/
structure ErK (K : PySem.W.Frag) (c0 C : Addr) : Prop where
  xf : XfC K C
  no : PySem.W.findIn K (.ref C) "what" = some none
  xc : L2.ExcC K C
  k0 : PySem.W.kitOne K (.ref C) (.ref c0) = some true
  kv : PySem.W.kitOne K (.ref C) (.type "ValueError") = some true
/-- _law_is_error(error, thing) -/
def spIsE (K : PySem.W.Frag) (c0 : Addr) : Sp := fun vs H Q _ => ∃ (a C : Addr) (v : V), vs = [.ref a, v] ∧ Sys K H ∧ ErK K c0 C ∧ ErrAt H a C v ∧ Th K H v ∧ Q (.bl true) H
theorem scIsE : FnScope ["error", "thing"] ["error", "thing"] (defScope sIsE) :=
  ⟨rfl, rfl, rfl, by decide +kernel, rfl, by decide +kernel, by decide +kernel⟩
theorem ok_isE {f : Addr} {fd : FuncData} (F : Fun K "_law_is_error" "_law_is_error" sIsE f fd) (T : TEn K mg fE fdE c0 c1 c2 c3 c4 c5 c6 c7 c8 c9 c10 c11 c12 c13 c14 c15 c16 c17 c18 c19 c20 c21 c22 c23 c24 c25 c26 c27 c28 c29 c30 c31 c32 c33 c34) :
    FnG P w K mg base CX0 2 f fd ["error", "thing"] (spIsE K c0) := by
  refine FnG.mk0 F scIsE (fun vs H Q E h => ?_) (fun cdv A outer s H vs Q E gd hr h => ?_)
  · obtain ⟨a, C, v, rfl, _⟩ := h
    rfl
  · obtain ⟨a, C, v, rfl, sys, k, er, th, q⟩ := h
    refine ⟨_, pss_cons (ps_if (PW.pt (pw_or (pt_not (pt_val (pe_callB call_isX (by rfl) T.B.isi PyProof.Rows.boot_isinstance (pa_cons (pv 0) (pa_cons (pe_glob (v := .ref c0) (by rfl) T.e0.gC rfl) pa_nil)))))
        (pw_or1 (pt_not (pt_val (pe_callB call_isX (by rfl) T.B.isi PyProof.Rows.boot_isinstance (pa_cons (pv 0) (pa_cons (pe_bltn (v := .ty "ValueError") (by rfl) T.ve PyProof.Rows.Boot.«ValueError» rfl) pa_nil))))))))
        (pss_one (ps_ret pe_bl)) pss_nil)
      (pss_one (ps_ret (pe_and (pe_cmpR op_eq (pe_callB (call_reprA hr gd) (by rfl) T.B.rep (by decide +kernel) (pa_cons (pe_ex (pv 0)) pa_nil)) (pe_callB (call_reprA hr gd) (by rfl) T.B.rep (by decide +kernel) (pa_cons (pv 1) pa_nil)) (nomark _))
        (pe_one (pe_cmpR (op_eqS hr.units) (pe_ex (pv 0)) (pv 1) (nomark _)))))), ?_⟩
    obtain ⟨d, ha, hd⟩ := er
    obtain ⟨tx, rp, eqs⟩ := th
    refine ⟨_, rfl, a, C, d, _, .ref c0, _, true, rfl, .own _, k.xc, ha, hd, k.k0, true, rfl, ?_⟩
    refine iteF ⟨_, rfl, a, C, d, _, .ty "ValueError", _, true, rfl, .ty _, k.xc, ha, hd, k.kv, true, rfl, ?_⟩
    refine iteF ?_
    refine ⟨_, rfl, a, C, d, _, v, rfl, k.xf, k.no, ha, hd, rfl, v, tx, rfl, sys, rp, _, rfl, v, tx, rfl, sys, rp, rfl, ?_⟩
    refine ⟨true, by rw [decide_eq_true rfl], iteT ⟨_, rfl, a, C, d, _, v, rfl, k.xf, k.no, ha, hd, rfl, v, rfl, rfl, eqs, q⟩⟩
/-- _law_placed -/
def spPla (Cs : List Addr) : Sp := fun vs H Q _ => ∃ v : V, vs = [v] ∧ ∀ p as H', Same H H' → H' p = some (.lst (as.map V.ref)) → Errs H' v as Cs → Q (.ref p) H' 
theorem scPla : FnScope ["thing", "found"] ["thing"] (defScope sPla) :=
  ⟨rfl, rfl, rfl, by decide +kernel, rfl, by decide +kernel, by decide +kernel⟩
theorem okspPla {f : Addr} {fd : FuncData} (F : Fun K "_law_placed" "_law_placed" sPla f fd) (T : TEn K mg fE fdE c0 c1 c2 c3 c4 c5 c6 c7 c8 c9 c10 c11 c12 c13 c14 c15 c16 c17 c18 c19 c20 c21 c22 c23 c24 c25 c26 c27 c28 c29 c30 c31 c32 c33 c34) :
    FnOk P w K mg base CX0 3 f fd ["thing"] (spPla [c1, c2, c3, c4, c5, c6, c7, c8, c9, c10, c11, c12, c13, c14, c15, c16, c17, c18, c19, c20, c21, c22, c23, c24, c25, c26, c27, c28, c29, c30, c31, c32, c33, c34]) := by
  have GE : FnOk P w K mg base CX0 1 fE fdE ["self", "what"] (spExI K) := ok_exI T.FE
  obtain ⟨_, bk⟩ := T.bP
  refine F.ok scPla (fun vs H Q E h => ?_) (fun cdv A outer s H vs Q E hr h => ?_)
  · obtain ⟨v, rfl, _⟩ := h
    rfl
  · obtain ⟨v, rfl, q⟩ := h
    refine ⟨_, pss_cons (ps_set (i := 1) scPla.nd rfl (Or.inl rfl) (pe_lst (pa_errs (pe_errP T.e1 T.tI GE bk hr (by rfl) (pv 0)) (pa_errs (pe_errP T.e2 T.tI GE bk hr (by rfl) (pv 0)) (pa_errs (pe_errP T.e3 T.tI GE bk hr (by rfl) (pv 0)) (pa_errs (pe_errP T.e4 T.tI GE bk hr (by rfl) (pv 0)) (pa_errs (pe_errP T.e5 T.tI GE bk hr (by rfl) (pv 0)) (pa_errs (pe_errP T.e6 T.tI GE bk hr (by rfl) (pv 0)) pa_errs_nil))))))))
      (pss_cons (ps_set (i := 1) scPla.nd rfl (Or.inl rfl) (pe_op op_cat (pv 1) (pe_lst (pa_errs (pe_errP T.e7 T.tI GE bk hr (by rfl) (pv 0)) (pa_errs (pe_errP T.e8 T.tI GE bk hr (by rfl) (pv 0)) (pa_errs (pe_errP T.e9 T.tI GE bk hr (by rfl) (pv 0)) (pa_errs (pe_errP T.e10 T.tI GE bk hr (by rfl) (pv 0)) (pa_errs (pe_errP T.e11 T.tI GE bk hr (by rfl) (pv 0)) pa_errs_nil))))))))
      (pss_cons (ps_set (i := 1) scPla.nd rfl (Or.inl rfl) (pe_op op_cat (pv 1) (pe_lst (pa_errs (pe_errP T.e12 T.tI GE bk hr (by rfl) (pv 0)) (pa_errs (pe_errP T.e13 T.tI GE bk hr (by rfl) (pv 0)) (pa_errs (pe_errP T.e14 T.tI GE bk hr (by rfl) (pv 0)) (pa_errs (pe_errP T.e15 T.tI GE bk hr (by rfl) (pv 0)) (pa_errs (pe_errP T.e16 T.tI GE bk hr (by rfl) (pv 0)) pa_errs_nil))))))))
      (pss_cons (ps_set (i := 1) scPla.nd rfl (Or.inl rfl) (pe_op op_cat (pv 1) (pe_lst (pa_errs (pe_errP T.e17 T.tI GE bk hr (by rfl) (pv 0)) (pa_errs (pe_errP T.e18 T.tI GE bk hr (by rfl) (pv 0)) (pa_errs (pe_errP T.e19 T.tI GE bk hr (by rfl) (pv 0)) (pa_errs (pe_errP T.e20 T.tI GE bk hr (by rfl) (pv 0)) (pa_errs (pe_errP T.e21 T.tI GE bk hr (by rfl) (pv 0)) pa_errs_nil))))))))
      (pss_cons (ps_set (i := 1) scPla.nd rfl (Or.inl rfl) (pe_op op_cat (pv 1) (pe_lst (pa_errs (pe_errP T.e22 T.tI GE bk hr (by rfl) (pv 0)) (pa_errs (pe_errP T.e23 T.tI GE bk hr (by rfl) (pv 0)) (pa_errs (pe_errP T.e24 T.tI GE bk hr (by rfl) (pv 0)) (pa_errs (pe_errP T.e25 T.tI GE bk hr (by rfl) (pv 0)) (pa_errs (pe_errP T.e26 T.tI GE bk hr (by rfl) (pv 0)) pa_errs_nil))))))))
      (pss_cons (ps_set (i := 1) scPla.nd rfl (Or.inl rfl) (pe_op op_cat (pv 1) (pe_lst (pa_errs (pe_errP T.e27 T.tI GE bk hr (by rfl) (pv 0)) (pa_errs (pe_errP T.e28 T.tI GE bk hr (by rfl) (pv 0)) (pa_errs (pe_errP T.e29 T.tI GE bk hr (by rfl) (pv 0)) (pa_errs (pe_errP T.e30 T.tI GE bk hr (by rfl) (pv 0)) (pa_errs (pe_errP T.e31 T.tI GE bk hr (by rfl) (pv 0)) pa_errs_nil))))))))
      (pss_cons (ps_set (i := 1) scPla.nd rfl (Or.inl rfl) (pe_op op_cat (pv 1) (pe_lst (pa_errs (pe_errP T.e32 T.tI GE bk hr (by rfl) (pv 0)) (pa_errs (pe_errP T.e33 T.tI GE bk hr (by rfl) (pv 0)) (pa_errs (pe_errP T.e34 T.tI GE bk hr (by rfl) (pv 0)) pa_errs_nil))))))
      (pss_one (ps_ret (pv 1))))))))), ?_⟩
    refine ⟨_, rfl, fun a0 H0 k0 r0 => ⟨(by rw [List.length_map, r0.length]; show 6 ≤ sizeLine; decide), fun p0 n0 => ?_⟩⟩
    have s0 := k0.trans (same_upd (o := .lst (a0.map V.ref)) n0)
    replace r0 := r0.same (same_upd (o := .lst (a0.map V.ref)) n0)
    have f0 : (upd H0 p0 (.lst (a0.map V.ref))) p0 = some (.lst (a0.map V.ref)) := upd_same
    generalize upd H0 p0 (.lst (a0.map V.ref)) = H0x at s0 r0 f0 ⊢
    have S0 := s0
    have R0 := r0
    have F0 := f0
    generalize hA0 : a0 = A0 at R0 F0 ⊢
    generalize hP0 : p0 = P0 at F0 ⊢
    generalize hX0 : H0x = X0 at S0 R0 F0 ⊢
    refine ⟨_, rfl, _, rfl, fun a1 H1 k1 r1 => ⟨(by rw [List.length_map, r1.length]; show 5 ≤ sizeLine; decide), fun p1 n1 => ?_⟩⟩
    have s1 := k1.trans (same_upd (o := .lst (a1.map V.ref)) n1)
    replace r1 := r1.same (same_upd (o := .lst (a1.map V.ref)) n1)
    have f1 : (upd H1 p1 (.lst (a1.map V.ref))) p1 = some (.lst (a1.map V.ref)) := upd_same
    generalize upd H1 p1 (.lst (a1.map V.ref)) = H1x at s1 r1 f1 ⊢
    have l1 := R0.length
    have m1 := r1.length
    refine ⟨P0, p1, _, _, rfl, rfl, s1 _ _ F0, f1, (by rw [List.length_map, List.length_map, l1, m1]; show 6 + 5 ≤ sizeLine; decide), fun b1 y1 => ?_⟩
    rw [← List.map_append]
    have S1 := (S0.trans s1).trans (same_upd (o := .lst ((A0 ++ a1).map V.ref)) y1)
    have R1 := ((R0.same s1).append r1).same (same_upd (o := .lst ((A0 ++ a1).map V.ref)) y1)
    have F1 : (upd H1x b1 (.lst ((A0 ++ a1).map V.ref))) b1 = some (.lst ((A0 ++ a1).map V.ref)) := upd_same
    generalize upd H1x b1 (.lst ((A0 ++ a1).map V.ref)) = X1 at S1 R1 F1 ⊢
    generalize A0 ++ a1 = A1 at R1 F1 ⊢
    have hX1 : X1 = X1 := rfl
    generalize hP1 : b1 = P1 at F1 ⊢
    refine ⟨_, rfl, _, rfl, fun a2 H2 k2 r2 => ⟨(by rw [List.length_map, r2.length]; show 5 ≤ sizeLine; decide), fun p2 n2 => ?_⟩⟩
    have s2 := k2.trans (same_upd (o := .lst (a2.map V.ref)) n2)
    replace r2 := r2.same (same_upd (o := .lst (a2.map V.ref)) n2)
    have f2 : (upd H2 p2 (.lst (a2.map V.ref))) p2 = some (.lst (a2.map V.ref)) := upd_same
    generalize upd H2 p2 (.lst (a2.map V.ref)) = H2x at s2 r2 f2 ⊢
    have l2 := R1.length
    have m2 := r2.length
    refine ⟨P1, p2, _, _, rfl, rfl, s2 _ _ F1, f2, (by rw [List.length_map, List.length_map, l2, m2]; show 11 + 5 ≤ sizeLine; decide), fun b2 y2 => ?_⟩
    rw [← List.map_append]
    have S2 := (S1.trans s2).trans (same_upd (o := .lst ((A1 ++ a2).map V.ref)) y2)
    have R2 := ((R1.same s2).append r2).same (same_upd (o := .lst ((A1 ++ a2).map V.ref)) y2)
    have F2 : (upd H2x b2 (.lst ((A1 ++ a2).map V.ref))) b2 = some (.lst ((A1 ++ a2).map V.ref)) := upd_same
    generalize upd H2x b2 (.lst ((A1 ++ a2).map V.ref)) = X2 at S2 R2 F2 ⊢
    generalize A1 ++ a2 = A2 at R2 F2 ⊢
    have hX2 : X2 = X2 := rfl
    generalize hP2 : b2 = P2 at F2 ⊢
    refine ⟨_, rfl, _, rfl, fun a3 H3 k3 r3 => ⟨(by rw [List.length_map, r3.length]; show 5 ≤ sizeLine; decide), fun p3 n3 => ?_⟩⟩
    have s3 := k3.trans (same_upd (o := .lst (a3.map V.ref)) n3)
    replace r3 := r3.same (same_upd (o := .lst (a3.map V.ref)) n3)
    have f3 : (upd H3 p3 (.lst (a3.map V.ref))) p3 = some (.lst (a3.map V.ref)) := upd_same
    generalize upd H3 p3 (.lst (a3.map V.ref)) = H3x at s3 r3 f3 ⊢
    have l3 := R2.length
    have m3 := r3.length
    refine ⟨P2, p3, _, _, rfl, rfl, s3 _ _ F2, f3, (by rw [List.length_map, List.length_map, l3, m3]; show 16 + 5 ≤ sizeLine; decide), fun b3 y3 => ?_⟩
    rw [← List.map_append]
    have S3 := (S2.trans s3).trans (same_upd (o := .lst ((A2 ++ a3).map V.ref)) y3)
    have R3 := ((R2.same s3).append r3).same (same_upd (o := .lst ((A2 ++ a3).map V.ref)) y3)
    have F3 : (upd H3x b3 (.lst ((A2 ++ a3).map V.ref))) b3 = some (.lst ((A2 ++ a3).map V.ref)) := upd_same
    generalize upd H3x b3 (.lst ((A2 ++ a3).map V.ref)) = X3 at S3 R3 F3 ⊢
    generalize A2 ++ a3 = A3 at R3 F3 ⊢
    have hX3 : X3 = X3 := rfl
    generalize hP3 : b3 = P3 at F3 ⊢
    refine ⟨_, rfl, _, rfl, fun a4 H4 k4 r4 => ⟨(by rw [List.length_map, r4.length]; show 5 ≤ sizeLine; decide), fun p4 n4 => ?_⟩⟩
    have s4 := k4.trans (same_upd (o := .lst (a4.map V.ref)) n4)
    replace r4 := r4.same (same_upd (o := .lst (a4.map V.ref)) n4)
    have f4 : (upd H4 p4 (.lst (a4.map V.ref))) p4 = some (.lst (a4.map V.ref)) := upd_same
    generalize upd H4 p4 (.lst (a4.map V.ref)) = H4x at s4 r4 f4 ⊢
    have l4 := R3.length
    have m4 := r4.length
    refine ⟨P3, p4, _, _, rfl, rfl, s4 _ _ F3, f4, (by rw [List.length_map, List.length_map, l4, m4]; show 21 + 5 ≤ sizeLine; decide), fun b4 y4 => ?_⟩
    rw [← List.map_append]
    have S4 := (S3.trans s4).trans (same_upd (o := .lst ((A3 ++ a4).map V.ref)) y4)
    have R4 := ((R3.same s4).append r4).same (same_upd (o := .lst ((A3 ++ a4).map V.ref)) y4)
    have F4 : (upd H4x b4 (.lst ((A3 ++ a4).map V.ref))) b4 = some (.lst ((A3 ++ a4).map V.ref)) := upd_same
    generalize upd H4x b4 (.lst ((A3 ++ a4).map V.ref)) = X4 at S4 R4 F4 ⊢
    generalize A3 ++ a4 = A4 at R4 F4 ⊢
    have hX4 : X4 = X4 := rfl
    generalize hP4 : b4 = P4 at F4 ⊢
    refine ⟨_, rfl, _, rfl, fun a5 H5 k5 r5 => ⟨(by rw [List.length_map, r5.length]; show 5 ≤ sizeLine; decide), fun p5 n5 => ?_⟩⟩
    have s5 := k5.trans (same_upd (o := .lst (a5.map V.ref)) n5)
    replace r5 := r5.same (same_upd (o := .lst (a5.map V.ref)) n5)
    have f5 : (upd H5 p5 (.lst (a5.map V.ref))) p5 = some (.lst (a5.map V.ref)) := upd_same
    generalize upd H5 p5 (.lst (a5.map V.ref)) = H5x at s5 r5 f5 ⊢
    have l5 := R4.length
    have m5 := r5.length
    refine ⟨P4, p5, _, _, rfl, rfl, s5 _ _ F4, f5, (by rw [List.length_map, List.length_map, l5, m5]; show 26 + 5 ≤ sizeLine; decide), fun b5 y5 => ?_⟩
    rw [← List.map_append]
    have S5 := (S4.trans s5).trans (same_upd (o := .lst ((A4 ++ a5).map V.ref)) y5)
    have R5 := ((R4.same s5).append r5).same (same_upd (o := .lst ((A4 ++ a5).map V.ref)) y5)
    have F5 : (upd H5x b5 (.lst ((A4 ++ a5).map V.ref))) b5 = some (.lst ((A4 ++ a5).map V.ref)) := upd_same
    generalize upd H5x b5 (.lst ((A4 ++ a5).map V.ref)) = X5 at S5 R5 F5 ⊢
    generalize A4 ++ a5 = A5 at R5 F5 ⊢
    have hX5 : X5 = X5 := rfl
    generalize hP5 : b5 = P5 at F5 ⊢
    refine ⟨_, rfl, _, rfl, fun a6 H6 k6 r6 => ⟨(by rw [List.length_map, r6.length]; show 3 ≤ sizeLine; decide), fun p6 n6 => ?_⟩⟩
    have s6 := k6.trans (same_upd (o := .lst (a6.map V.ref)) n6)
    replace r6 := r6.same (same_upd (o := .lst (a6.map V.ref)) n6)
    have f6 : (upd H6 p6 (.lst (a6.map V.ref))) p6 = some (.lst (a6.map V.ref)) := upd_same
    generalize upd H6 p6 (.lst (a6.map V.ref)) = H6x at s6 r6 f6 ⊢
    have l6 := R5.length
    have m6 := r6.length
    refine ⟨P5, p6, _, _, rfl, rfl, s6 _ _ F5, f6, (by rw [List.length_map, List.length_map, l6, m6]; show 31 + 3 ≤ sizeLine; decide), fun b6 y6 => ?_⟩
    rw [← List.map_append]
    have S6 := (S5.trans s6).trans (same_upd (o := .lst ((A5 ++ a6).map V.ref)) y6)
    have R6 := ((R5.same s6).append r6).same (same_upd (o := .lst ((A5 ++ a6).map V.ref)) y6)
    have F6 : (upd H6x b6 (.lst ((A5 ++ a6).map V.ref))) b6 = some (.lst ((A5 ++ a6).map V.ref)) := upd_same
    generalize upd H6x b6 (.lst ((A5 ++ a6).map V.ref)) = X6 at S6 R6 F6 ⊢
    generalize A5 ++ a6 = A6 at R6 F6 ⊢
    have hX6 : X6 = X6 := rfl
    generalize hP6 : b6 = P6 at F6 ⊢
    exact ⟨_, rfl, q P6 A6 X6 S6 F6 R6⟩
/-- _law_named -/
def spNam (Cs : List Addr) : Sp := fun vs H Q _ => ∃ v : V, vs = [v] ∧ ∀ p as H', Same H H' → H' p = some (.lst (as.map V.ref)) → Errs H' v as Cs → Q (.ref p) H' 
theorem scNam : FnScope ["thing", "found"] ["thing"] (defScope sNam) :=
  ⟨rfl, rfl, rfl, by decide +kernel, rfl, by decide +kernel, by decide +kernel⟩
theorem okspNam {f : Addr} {fd : FuncData} (F : Fun K "_law_named" "_law_named" sNam f fd) (T : TEn K mg fE fdE c0 c1 c2 c3 c4 c5 c6 c7 c8 c9 c10 c11 c12 c13 c14 c15 c16 c17 c18 c19 c20 c21 c22 c23 c24 c25 c26 c27 c28 c29 c30 c31 c32 c33 c34) :
    FnOk P w K mg base CX0 3 f fd ["thing"] (spNam [c1, c2, c3, c4, c5, c6, c7, c8, c9, c10, c11, c12, c13, c14, c15, c16, c17, c18, c19, c20, c21, c22, c23, c24, c25, c26, c27, c28, c29, c30, c31, c32, c33, c34]) := by
  have GE : FnOk P w K mg base CX0 1 fE fdE ["self", "what"] (spExI K) := ok_exI T.FE
  obtain ⟨_, bk⟩ := T.bN
  refine F.ok scNam (fun vs H Q E h => ?_) (fun cdv A outer s H vs Q E hr h => ?_)
  · obtain ⟨v, rfl, _⟩ := h
    rfl
  · obtain ⟨v, rfl, q⟩ := h
    refine ⟨_, pss_cons (ps_set (i := 1) scNam.nd rfl (Or.inl rfl) (pe_lst (pa_errs (pe_errN T.e1 T.tI GE bk hr (by rfl) (pv 0)) (pa_errs (pe_errN T.e2 T.tI GE bk hr (by rfl) (pv 0)) (pa_errs (pe_errN T.e3 T.tI GE bk hr (by rfl) (pv 0)) (pa_errs (pe_errN T.e4 T.tI GE bk hr (by rfl) (pv 0)) (pa_errs (pe_errN T.e5 T.tI GE bk hr (by rfl) (pv 0)) (pa_errs (pe_errN T.e6 T.tI GE bk hr (by rfl) (pv 0)) pa_errs_nil))))))))
      (pss_cons (ps_set (i := 1) scNam.nd rfl (Or.inl rfl) (pe_op op_cat (pv 1) (pe_lst (pa_errs (pe_errN T.e7 T.tI GE bk hr (by rfl) (pv 0)) (pa_errs (pe_errN T.e8 T.tI GE bk hr (by rfl) (pv 0)) (pa_errs (pe_errN T.e9 T.tI GE bk hr (by rfl) (pv 0)) (pa_errs (pe_errN T.e10 T.tI GE bk hr (by rfl) (pv 0)) (pa_errs (pe_errN T.e11 T.tI GE bk hr (by rfl) (pv 0)) pa_errs_nil))))))))
      (pss_cons (ps_set (i := 1) scNam.nd rfl (Or.inl rfl) (pe_op op_cat (pv 1) (pe_lst (pa_errs (pe_errN T.e12 T.tI GE bk hr (by rfl) (pv 0)) (pa_errs (pe_errN T.e13 T.tI GE bk hr (by rfl) (pv 0)) (pa_errs (pe_errN T.e14 T.tI GE bk hr (by rfl) (pv 0)) (pa_errs (pe_errN T.e15 T.tI GE bk hr (by rfl) (pv 0)) (pa_errs (pe_errN T.e16 T.tI GE bk hr (by rfl) (pv 0)) pa_errs_nil))))))))
      (pss_cons (ps_set (i := 1) scNam.nd rfl (Or.inl rfl) (pe_op op_cat (pv 1) (pe_lst (pa_errs (pe_errN T.e17 T.tI GE bk hr (by rfl) (pv 0)) (pa_errs (pe_errN T.e18 T.tI GE bk hr (by rfl) (pv 0)) (pa_errs (pe_errN T.e19 T.tI GE bk hr (by rfl) (pv 0)) (pa_errs (pe_errN T.e20 T.tI GE bk hr (by rfl) (pv 0)) (pa_errs (pe_errN T.e21 T.tI GE bk hr (by rfl) (pv 0)) pa_errs_nil))))))))
      (pss_cons (ps_set (i := 1) scNam.nd rfl (Or.inl rfl) (pe_op op_cat (pv 1) (pe_lst (pa_errs (pe_errN T.e22 T.tI GE bk hr (by rfl) (pv 0)) (pa_errs (pe_errN T.e23 T.tI GE bk hr (by rfl) (pv 0)) (pa_errs (pe_errN T.e24 T.tI GE bk hr (by rfl) (pv 0)) (pa_errs (pe_errN T.e25 T.tI GE bk hr (by rfl) (pv 0)) (pa_errs (pe_errN T.e26 T.tI GE bk hr (by rfl) (pv 0)) pa_errs_nil))))))))
      (pss_cons (ps_set (i := 1) scNam.nd rfl (Or.inl rfl) (pe_op op_cat (pv 1) (pe_lst (pa_errs (pe_errN T.e27 T.tI GE bk hr (by rfl) (pv 0)) (pa_errs (pe_errN T.e28 T.tI GE bk hr (by rfl) (pv 0)) (pa_errs (pe_errN T.e29 T.tI GE bk hr (by rfl) (pv 0)) (pa_errs (pe_errN T.e30 T.tI GE bk hr (by rfl) (pv 0)) (pa_errs (pe_errN T.e31 T.tI GE bk hr (by rfl) (pv 0)) pa_errs_nil))))))))
      (pss_cons (ps_set (i := 1) scNam.nd rfl (Or.inl rfl) (pe_op op_cat (pv 1) (pe_lst (pa_errs (pe_errN T.e32 T.tI GE bk hr (by rfl) (pv 0)) (pa_errs (pe_errN T.e33 T.tI GE bk hr (by rfl) (pv 0)) (pa_errs (pe_errN T.e34 T.tI GE bk hr (by rfl) (pv 0)) pa_errs_nil))))))
      (pss_one (ps_ret (pv 1))))))))), ?_⟩
    refine ⟨_, rfl, fun a0 H0 k0 r0 => ⟨(by rw [List.length_map, r0.length]; show 6 ≤ sizeLine; decide), fun p0 n0 => ?_⟩⟩
    have s0 := k0.trans (same_upd (o := .lst (a0.map V.ref)) n0)
    replace r0 := r0.same (same_upd (o := .lst (a0.map V.ref)) n0)
    have f0 : (upd H0 p0 (.lst (a0.map V.ref))) p0 = some (.lst (a0.map V.ref)) := upd_same
    generalize upd H0 p0 (.lst (a0.map V.ref)) = H0x at s0 r0 f0 ⊢
    have S0 := s0
    have R0 := r0
    have F0 := f0
    generalize hA0 : a0 = A0 at R0 F0 ⊢
    generalize hP0 : p0 = P0 at F0 ⊢
    generalize hX0 : H0x = X0 at S0 R0 F0 ⊢
    refine ⟨_, rfl, _, rfl, fun a1 H1 k1 r1 => ⟨(by rw [List.length_map, r1.length]; show 5 ≤ sizeLine; decide), fun p1 n1 => ?_⟩⟩
    have s1 := k1.trans (same_upd (o := .lst (a1.map V.ref)) n1)
    replace r1 := r1.same (same_upd (o := .lst (a1.map V.ref)) n1)
    have f1 : (upd H1 p1 (.lst (a1.map V.ref))) p1 = some (.lst (a1.map V.ref)) := upd_same
    generalize upd H1 p1 (.lst (a1.map V.ref)) = H1x at s1 r1 f1 ⊢
    have l1 := R0.length
    have m1 := r1.length
    refine ⟨P0, p1, _, _, rfl, rfl, s1 _ _ F0, f1, (by rw [List.length_map, List.length_map, l1, m1]; show 6 + 5 ≤ sizeLine; decide), fun b1 y1 => ?_⟩
    rw [← List.map_append]
    have S1 := (S0.trans s1).trans (same_upd (o := .lst ((A0 ++ a1).map V.ref)) y1)
    have R1 := ((R0.same s1).append r1).same (same_upd (o := .lst ((A0 ++ a1).map V.ref)) y1)
    have F1 : (upd H1x b1 (.lst ((A0 ++ a1).map V.ref))) b1 = some (.lst ((A0 ++ a1).map V.ref)) := upd_same
    generalize upd H1x b1 (.lst ((A0 ++ a1).map V.ref)) = X1 at S1 R1 F1 ⊢
    generalize A0 ++ a1 = A1 at R1 F1 ⊢
    have hX1 : X1 = X1 := rfl
    generalize hP1 : b1 = P1 at F1 ⊢
    refine ⟨_, rfl, _, rfl, fun a2 H2 k2 r2 => ⟨(by rw [List.length_map, r2.length]; show 5 ≤ sizeLine; decide), fun p2 n2 => ?_⟩⟩
    have s2 := k2.trans (same_upd (o := .lst (a2.map V.ref)) n2)
    replace r2 := r2.same (same_upd (o := .lst (a2.map V.ref)) n2)
    have f2 : (upd H2 p2 (.lst (a2.map V.ref))) p2 = some (.lst (a2.map V.ref)) := upd_same
    generalize upd H2 p2 (.lst (a2.map V.ref)) = H2x at s2 r2 f2 ⊢
    have l2 := R1.length
    have m2 := r2.length
    refine ⟨P1, p2, _, _, rfl, rfl, s2 _ _ F1, f2, (by rw [List.length_map, List.length_map, l2, m2]; show 11 + 5 ≤ sizeLine; decide), fun b2 y2 => ?_⟩
    rw [← List.map_append]
    have S2 := (S1.trans s2).trans (same_upd (o := .lst ((A1 ++ a2).map V.ref)) y2)
    have R2 := ((R1.same s2).append r2).same (same_upd (o := .lst ((A1 ++ a2).map V.ref)) y2)
    have F2 : (upd H2x b2 (.lst ((A1 ++ a2).map V.ref))) b2 = some (.lst ((A1 ++ a2).map V.ref)) := upd_same
    generalize upd H2x b2 (.lst ((A1 ++ a2).map V.ref)) = X2 at S2 R2 F2 ⊢
    generalize A1 ++ a2 = A2 at R2 F2 ⊢
    have hX2 : X2 = X2 := rfl
    generalize hP2 : b2 = P2 at F2 ⊢
    refine ⟨_, rfl, _, rfl, fun a3 H3 k3 r3 => ⟨(by rw [List.length_map, r3.length]; show 5 ≤ sizeLine; decide), fun p3 n3 => ?_⟩⟩
    have s3 := k3.trans (same_upd (o := .lst (a3.map V.ref)) n3)
    replace r3 := r3.same (same_upd (o := .lst (a3.map V.ref)) n3)
    have f3 : (upd H3 p3 (.lst (a3.map V.ref))) p3 = some (.lst (a3.map V.ref)) := upd_same
    generalize upd H3 p3 (.lst (a3.map V.ref)) = H3x at s3 r3 f3 ⊢
    have l3 := R2.length
    have m3 := r3.length
    refine ⟨P2, p3, _, _, rfl, rfl, s3 _ _ F2, f3, (by rw [List.length_map, List.length_map, l3, m3]; show 16 + 5 ≤ sizeLine; decide), fun b3 y3 => ?_⟩
    rw [← List.map_append]
    have S3 := (S2.trans s3).trans (same_upd (o := .lst ((A2 ++ a3).map V.ref)) y3)
    have R3 := ((R2.same s3).append r3).same (same_upd (o := .lst ((A2 ++ a3).map V.ref)) y3)
    have F3 : (upd H3x b3 (.lst ((A2 ++ a3).map V.ref))) b3 = some (.lst ((A2 ++ a3).map V.ref)) := upd_same
    generalize upd H3x b3 (.lst ((A2 ++ a3).map V.ref)) = X3 at S3 R3 F3 ⊢
    generalize A2 ++ a3 = A3 at R3 F3 ⊢
    have hX3 : X3 = X3 := rfl
    generalize hP3 : b3 = P3 at F3 ⊢
    refine ⟨_, rfl, _, rfl, fun a4 H4 k4 r4 => ⟨(by rw [List.length_map, r4.length]; show 5 ≤ sizeLine; decide), fun p4 n4 => ?_⟩⟩
    have s4 := k4.trans (same_upd (o := .lst (a4.map V.ref)) n4)
    replace r4 := r4.same (same_upd (o := .lst (a4.map V.ref)) n4)
    have f4 : (upd H4 p4 (.lst (a4.map V.ref))) p4 = some (.lst (a4.map V.ref)) := upd_same
    generalize upd H4 p4 (.lst (a4.map V.ref)) = H4x at s4 r4 f4 ⊢
    have l4 := R3.length
    have m4 := r4.length
    refine ⟨P3, p4, _, _, rfl, rfl, s4 _ _ F3, f4, (by rw [List.length_map, List.length_map, l4, m4]; show 21 + 5 ≤ sizeLine; decide), fun b4 y4 => ?_⟩
    rw [← List.map_append]
    have S4 := (S3.trans s4).trans (same_upd (o := .lst ((A3 ++ a4).map V.ref)) y4)
    have R4 := ((R3.same s4).append r4).same (same_upd (o := .lst ((A3 ++ a4).map V.ref)) y4)
    have F4 : (upd H4x b4 (.lst ((A3 ++ a4).map V.ref))) b4 = some (.lst ((A3 ++ a4).map V.ref)) := upd_same
    generalize upd H4x b4 (.lst ((A3 ++ a4).map V.ref)) = X4 at S4 R4 F4 ⊢
    generalize A3 ++ a4 = A4 at R4 F4 ⊢
    have hX4 : X4 = X4 := rfl
    generalize hP4 : b4 = P4 at F4 ⊢
    refine ⟨_, rfl, _, rfl, fun a5 H5 k5 r5 => ⟨(by rw [List.length_map, r5.length]; show 5 ≤ sizeLine; decide), fun p5 n5 => ?_⟩⟩
    have s5 := k5.trans (same_upd (o := .lst (a5.map V.ref)) n5)
    replace r5 := r5.same (same_upd (o := .lst (a5.map V.ref)) n5)
    have f5 : (upd H5 p5 (.lst (a5.map V.ref))) p5 = some (.lst (a5.map V.ref)) := upd_same
    generalize upd H5 p5 (.lst (a5.map V.ref)) = H5x at s5 r5 f5 ⊢
    have l5 := R4.length
    have m5 := r5.length
    refine ⟨P4, p5, _, _, rfl, rfl, s5 _ _ F4, f5, (by rw [List.length_map, List.length_map, l5, m5]; show 26 + 5 ≤ sizeLine; decide), fun b5 y5 => ?_⟩
    rw [← List.map_append]
    have S5 := (S4.trans s5).trans (same_upd (o := .lst ((A4 ++ a5).map V.ref)) y5)
    have R5 := ((R4.same s5).append r5).same (same_upd (o := .lst ((A4 ++ a5).map V.ref)) y5)
    have F5 : (upd H5x b5 (.lst ((A4 ++ a5).map V.ref))) b5 = some (.lst ((A4 ++ a5).map V.ref)) := upd_same
    generalize upd H5x b5 (.lst ((A4 ++ a5).map V.ref)) = X5 at S5 R5 F5 ⊢
    generalize A4 ++ a5 = A5 at R5 F5 ⊢
    have hX5 : X5 = X5 := rfl
    generalize hP5 : b5 = P5 at F5 ⊢
    refine ⟨_, rfl, _, rfl, fun a6 H6 k6 r6 => ⟨(by rw [List.length_map, r6.length]; show 3 ≤ sizeLine; decide), fun p6 n6 => ?_⟩⟩
    have s6 := k6.trans (same_upd (o := .lst (a6.map V.ref)) n6)
    replace r6 := r6.same (same_upd (o := .lst (a6.map V.ref)) n6)
    have f6 : (upd H6 p6 (.lst (a6.map V.ref))) p6 = some (.lst (a6.map V.ref)) := upd_same
    generalize upd H6 p6 (.lst (a6.map V.ref)) = H6x at s6 r6 f6 ⊢
    have l6 := R5.length
    have m6 := r6.length
    refine ⟨P5, p6, _, _, rfl, rfl, s6 _ _ F5, f6, (by rw [List.length_map, List.length_map, l6, m6]; show 31 + 3 ≤ sizeLine; decide), fun b6 y6 => ?_⟩
    rw [← List.map_append]
    have S6 := (S5.trans s6).trans (same_upd (o := .lst ((A5 ++ a6).map V.ref)) y6)
    have R6 := ((R5.same s6).append r6).same (same_upd (o := .lst ((A5 ++ a6).map V.ref)) y6)
    have F6 : (upd H6x b6 (.lst ((A5 ++ a6).map V.ref))) b6 = some (.lst ((A5 ++ a6).map V.ref)) := upd_same
    generalize upd H6x b6 (.lst ((A5 ++ a6).map V.ref)) = X6 at S6 R6 F6 ⊢
    generalize A5 ++ a6 = A6 at R6 F6 ⊢
    have hX6 : X6 = X6 := rfl
    generalize hP6 : b6 = P6 at F6 ⊢
    exact ⟨_, rfl, q P6 A6 X6 S6 F6 R6⟩
/-- _law_empty -/
def spEmp (Cs : List Addr) : Sp := fun vs H Q _ => vs = [] ∧ ∀ p as H', Same H H' → H' p = some (.lst (as.map V.ref)) → Errs H' .non as Cs → Q (.ref p) H' 
theorem scEmp : FnScope ["found"] [] (defScope sEmp) :=
  ⟨rfl, rfl, rfl, by decide +kernel, rfl, by decide +kernel, by decide +kernel⟩
theorem okspEmp {f : Addr} {fd : FuncData} (F : Fun K "_law_empty" "_law_empty" sEmp f fd) (T : TEn K mg fE fdE c0 c1 c2 c3 c4 c5 c6 c7 c8 c9 c10 c11 c12 c13 c14 c15 c16 c17 c18 c19 c20 c21 c22 c23 c24 c25 c26 c27 c28 c29 c30 c31 c32 c33 c34) :
    FnOk P w K mg base CX0 3 f fd [] (spEmp [c1, c2, c3, c4, c5, c6, c7, c8, c9, c10, c11, c12, c13, c14, c15, c16, c17, c18, c19, c20, c21, c22, c23, c24, c25, c26, c27, c28, c29, c30, c31, c32, c33, c34]) := by
  have GE : FnOk P w K mg base CX0 1 fE fdE ["self", "what"] (spExI K) := ok_exI T.FE
  obtain ⟨_, bk⟩ := T.b0
  refine F.ok scEmp (fun vs H Q E h => ?_) (fun cdv A outer s H vs Q E hr h => ?_)
  · obtain ⟨rfl, _⟩ := h
    rfl
  · obtain ⟨rfl, q⟩ := h
    refine ⟨_, pss_cons (ps_set (i := 0) scEmp.nd rfl (Or.inl rfl) (pe_lst (pa_errs0 (pe_err0 T.e1 T.tI GE bk hr (by rfl)) (pa_errs0 (pe_err0 T.e2 T.tI GE bk hr (by rfl)) (pa_errs0 (pe_err0 T.e3 T.tI GE bk hr (by rfl)) (pa_errs0 (pe_err0 T.e4 T.tI GE bk hr (by rfl)) (pa_errs0 (pe_err0 T.e5 T.tI GE bk hr (by rfl)) (pa_errs0 (pe_err0 T.e6 T.tI GE bk hr (by rfl)) (pa_errs0 (pe_err0 T.e7 T.tI GE bk hr (by rfl)) (pa_errs0 (pe_err0 T.e8 T.tI GE bk hr (by rfl)) pa_errs0_nil))))))))))
      (pss_cons (ps_set (i := 0) scEmp.nd rfl (Or.inl rfl) (pe_op op_cat (pv 0) (pe_lst (pa_errs0 (pe_err0 T.e9 T.tI GE bk hr (by rfl)) (pa_errs0 (pe_err0 T.e10 T.tI GE bk hr (by rfl)) (pa_errs0 (pe_err0 T.e11 T.tI GE bk hr (by rfl)) (pa_errs0 (pe_err0 T.e12 T.tI GE bk hr (by rfl)) (pa_errs0 (pe_err0 T.e13 T.tI GE bk hr (by rfl)) (pa_errs0 (pe_err0 T.e14 T.tI GE bk hr (by rfl)) (pa_errs0 (pe_err0 T.e15 T.tI GE bk hr (by rfl)) (pa_errs0 (pe_err0 T.e16 T.tI GE bk hr (by rfl)) pa_errs0_nil)))))))))))
      (pss_cons (ps_set (i := 0) scEmp.nd rfl (Or.inl rfl) (pe_op op_cat (pv 0) (pe_lst (pa_errs0 (pe_err0 T.e17 T.tI GE bk hr (by rfl)) (pa_errs0 (pe_err0 T.e18 T.tI GE bk hr (by rfl)) (pa_errs0 (pe_err0 T.e19 T.tI GE bk hr (by rfl)) (pa_errs0 (pe_err0 T.e20 T.tI GE bk hr (by rfl)) (pa_errs0 (pe_err0 T.e21 T.tI GE bk hr (by rfl)) (pa_errs0 (pe_err0 T.e22 T.tI GE bk hr (by rfl)) (pa_errs0 (pe_err0 T.e23 T.tI GE bk hr (by rfl)) (pa_errs0 (pe_err0 T.e24 T.tI GE bk hr (by rfl)) (pa_errs0 (pe_err0 T.e25 T.tI GE bk hr (by rfl)) pa_errs0_nil))))))))))))
      (pss_one (ps_ret (pe_op op_cat (pv 0) (pe_lst (pa_errs0 (pe_err0 T.e26 T.tI GE bk hr (by rfl)) (pa_errs0 (pe_err0 T.e27 T.tI GE bk hr (by rfl)) (pa_errs0 (pe_err0 T.e28 T.tI GE bk hr (by rfl)) (pa_errs0 (pe_err0 T.e29 T.tI GE bk hr (by rfl)) (pa_errs0 (pe_err0 T.e30 T.tI GE bk hr (by rfl)) (pa_errs0 (pe_err0 T.e31 T.tI GE bk hr (by rfl)) (pa_errs0 (pe_err0 T.e32 T.tI GE bk hr (by rfl)) (pa_errs0 (pe_err0 T.e33 T.tI GE bk hr (by rfl)) (pa_errs0 (pe_err0 T.e34 T.tI GE bk hr (by rfl)) pa_errs0_nil))))))))))))))), ?_⟩
    refine fun a0 H0 k0 r0 => ⟨(by rw [List.length_map, r0.length]; show 8 ≤ sizeLine; decide), fun p0 n0 => ?_⟩
    have s0 := k0.trans (same_upd (o := .lst (a0.map V.ref)) n0)
    replace r0 := r0.same (same_upd (o := .lst (a0.map V.ref)) n0)
    have f0 : (upd H0 p0 (.lst (a0.map V.ref))) p0 = some (.lst (a0.map V.ref)) := upd_same
    generalize upd H0 p0 (.lst (a0.map V.ref)) = H0x at s0 r0 f0 ⊢
    have S0 := s0
    have R0 := r0
    have F0 := f0
    generalize hA0 : a0 = A0 at R0 F0 ⊢
    generalize hP0 : p0 = P0 at F0 ⊢
    generalize hX0 : H0x = X0 at S0 R0 F0 ⊢
    refine ⟨_, rfl, fun a1 H1 k1 r1 => ⟨(by rw [List.length_map, r1.length]; show 8 ≤ sizeLine; decide), fun p1 n1 => ?_⟩⟩
    have s1 := k1.trans (same_upd (o := .lst (a1.map V.ref)) n1)
    replace r1 := r1.same (same_upd (o := .lst (a1.map V.ref)) n1)
    have f1 : (upd H1 p1 (.lst (a1.map V.ref))) p1 = some (.lst (a1.map V.ref)) := upd_same
    generalize upd H1 p1 (.lst (a1.map V.ref)) = H1x at s1 r1 f1 ⊢
    have l1 := R0.length
    have m1 := r1.length
    refine ⟨P0, p1, _, _, rfl, rfl, s1 _ _ F0, f1, (by rw [List.length_map, List.length_map, l1, m1]; show 8 + 8 ≤ sizeLine; decide), fun b1 y1 => ?_⟩
    rw [← List.map_append]
    have S1 := (S0.trans s1).trans (same_upd (o := .lst ((A0 ++ a1).map V.ref)) y1)
    have R1 := ((R0.same s1).append r1).same (same_upd (o := .lst ((A0 ++ a1).map V.ref)) y1)
    have F1 : (upd H1x b1 (.lst ((A0 ++ a1).map V.ref))) b1 = some (.lst ((A0 ++ a1).map V.ref)) := upd_same
    generalize upd H1x b1 (.lst ((A0 ++ a1).map V.ref)) = X1 at S1 R1 F1 ⊢
    generalize A0 ++ a1 = A1 at R1 F1 ⊢
    have hX1 : X1 = X1 := rfl
    generalize hP1 : b1 = P1 at F1 ⊢
    refine ⟨_, rfl, fun a2 H2 k2 r2 => ⟨(by rw [List.length_map, r2.length]; show 9 ≤ sizeLine; decide), fun p2 n2 => ?_⟩⟩
    have s2 := k2.trans (same_upd (o := .lst (a2.map V.ref)) n2)
    replace r2 := r2.same (same_upd (o := .lst (a2.map V.ref)) n2)
    have f2 : (upd H2 p2 (.lst (a2.map V.ref))) p2 = some (.lst (a2.map V.ref)) := upd_same
    generalize upd H2 p2 (.lst (a2.map V.ref)) = H2x at s2 r2 f2 ⊢
    have l2 := R1.length
    have m2 := r2.length
    refine ⟨P1, p2, _, _, rfl, rfl, s2 _ _ F1, f2, (by rw [List.length_map, List.length_map, l2, m2]; show 16 + 9 ≤ sizeLine; decide), fun b2 y2 => ?_⟩
    rw [← List.map_append]
    have S2 := (S1.trans s2).trans (same_upd (o := .lst ((A1 ++ a2).map V.ref)) y2)
    have R2 := ((R1.same s2).append r2).same (same_upd (o := .lst ((A1 ++ a2).map V.ref)) y2)
    have F2 : (upd H2x b2 (.lst ((A1 ++ a2).map V.ref))) b2 = some (.lst ((A1 ++ a2).map V.ref)) := upd_same
    generalize upd H2x b2 (.lst ((A1 ++ a2).map V.ref)) = X2 at S2 R2 F2 ⊢
    generalize A1 ++ a2 = A2 at R2 F2 ⊢
    have hX2 : X2 = X2 := rfl
    generalize hP2 : b2 = P2 at F2 ⊢
    refine ⟨_, rfl, fun a3 H3 k3 r3 => ⟨(by rw [List.length_map, r3.length]; show 9 ≤ sizeLine; decide), fun p3 n3 => ?_⟩⟩
    have s3 := k3.trans (same_upd (o := .lst (a3.map V.ref)) n3)
    replace r3 := r3.same (same_upd (o := .lst (a3.map V.ref)) n3)
    have f3 : (upd H3 p3 (.lst (a3.map V.ref))) p3 = some (.lst (a3.map V.ref)) := upd_same
    generalize upd H3 p3 (.lst (a3.map V.ref)) = H3x at s3 r3 f3 ⊢
    have l3 := R2.length
    have m3 := r3.length
    refine ⟨P2, p3, _, _, rfl, rfl, s3 _ _ F2, f3, (by rw [List.length_map, List.length_map, l3, m3]; show 25 + 9 ≤ sizeLine; decide), fun b3 y3 => ?_⟩
    rw [← List.map_append]
    have S3 := (S2.trans s3).trans (same_upd (o := .lst ((A2 ++ a3).map V.ref)) y3)
    have R3 := ((R2.same s3).append r3).same (same_upd (o := .lst ((A2 ++ a3).map V.ref)) y3)
    have F3 : (upd H3x b3 (.lst ((A2 ++ a3).map V.ref))) b3 = some (.lst ((A2 ++ a3).map V.ref)) := upd_same
    generalize upd H3x b3 (.lst ((A2 ++ a3).map V.ref)) = X3 at S3 R3 F3 ⊢
    generalize A2 ++ a3 = A3 at R3 F3 ⊢
    have hX3 : X3 = X3 := rfl
    generalize hP3 : b3 = P3 at F3 ⊢
    exact q P3 A3 X3 S3 F3 R3
end
end Nv
namespace Nv
open PySem PySem.Spec PyProof.Rows L2
abbrev sLaw : Stmt := top 47
def due (n : Nat) : List Bool := (List.range 34).map fun j => decide (j = n)
/-- all that the law's def calls -/
structure TLw (K : PySem.W.Frag) (mg : Str → Option Value) (fE : Addr) (fdE : FuncData) (c0 c1 c2 c3 c4 c5 c6 c7 c8 c9 c10 c11 c12 c13 c14 c15 c16 c17 c18 c19 c20 c21 c22 c23 c24 c25 c26 c27 c28 c29 c30 c31 c32 c33 c34 fC fSt fT fO fSr fP fN fEm fM fI : Addr) (fdC fdSt fdT fdO fdSr fdP fdN fdEm fdM fdI : FuncData) : Prop where
  T : TEn K mg fE fdE c0 c1 c2 c3 c4 c5 c6 c7 c8 c9 c10 c11 c12 c13 c14 c15 c16 c17 c18 c19 c20 c21 c22 c23 c24 c25 c26 c27 c28 c29 c30 c31 c32 c33 c34
  FC : Fun K "_law_cell" "_law_cell" sCell fC fdC
  mC : mg "_law_cell" = some (.ref fC)
  bC : Binds K fdC ["script", "at"] []
  FSt : Fun K "_law_state" "_law_state" sState fSt fdSt
  mSt : mg "_law_state" = some (.ref fSt)
  bSt : Binds K fdSt ["cell"] []
  FT : Fun K "_law_take" "_law_take" sTake fT fdT
  mT : mg "_law_take" = some (.ref fT)
  bT : Binds K fdT ["state", "many"] []
  FO : Fun K "_law_one_of" "_law_one_of" sOne fO fdO
  mO : mg "_law_one_of" = some (.ref fO)
  bO : Binds K fdO ["state", "items"] []
  FSr : Fun K "_law_strange" "_law_strange" sStr fSr fdSr
  mSr : mg "_law_strange" = some (.ref fSr)
  bSr : Binds K fdSr ["state"] []
  FP : Fun K "_law_placed" "_law_placed" sPla fP fdP
  mP : mg "_law_placed" = some (.ref fP)
  bP : Binds K fdP ["thing"] []
  FN : Fun K "_law_named" "_law_named" sNam fN fdN
  mN : mg "_law_named" = some (.ref fN)
  bN : Binds K fdN ["thing"] []
  FEm : Fun K "_law_empty" "_law_empty" sEmp fEm fdEm
  mEm : mg "_law_empty" = some (.ref fEm)
  bEm : Binds K fdEm [] []
  FM : Fun K "_law_marks" "_law_marks" sMrk fM fdM
  mM : mg "_law_marks" = some (.ref fM)
  bM : Binds K fdM ["error"] []
  FI : Fun K "_law_is_error" "_law_is_error" sIsE fI fdI
  mI : mg "_law_is_error" = some (.ref fI)
  bI : Binds K fdI ["error", "thing"] []
  kE : ∀ C ∈ c0 :: [c1, c2, c3, c4, c5, c6, c7, c8, c9, c10, c11, c12, c13, c14, c15, c16, c17, c18, c19, c20, c21, c22, c23, c24, c25, c26, c27, c28, c29, c30, c31, c32, c33, c34], ErK K c0 C
  kM : ∀ n C, [c1, c2, c3, c4, c5, c6, c7, c8, c9, c10, c11, c12, c13, c14, c15, c16, c17, c18, c19, c20, c21, c22, c23, c24, c25, c26, c27, c28, c29, c30, c31, c32, c33, c34][n]? = some C → Paired (fun D b => PySem.W.kitOne K (.ref C) (.ref D) = some b) [c1, c2, c3, c4, c5, c6, c7, c8, c9, c10, c11, c12, c13, c14, c15, c16, c17, c18, c19, c20, c21, c22, c23, c24, c25, c26, c27, c28, c29, c30, c31, c32, c33, c34] (due n)
  k0 : Paired (fun D b => PySem.W.kitOne K (.ref c0) (.ref D) = some b) [c1, c2, c3, c4, c5, c6, c7, c8, c9, c10, c11, c12, c13, c14, c15, c16, c17, c18, c19, c20, c21, c22, c23, c24, c25, c26, c27, c28, c29, c30, c31, c32, c33, c34] (due 34)
theorem dp_bools {K : PySem.W.Frag} {H : Hp} : ∀ bs : List Bool, DpAll K H (bs.map V.bl) (bs.map PyData.bool)
  | [] => .nil
  | b :: bs => .cons (.bl b) (dp_bools bs)
def dueD (n : Nat) : PyData := .list ((due n).map PyData.bool)
theorem due_ok : ∀ n : Fin 34, (SeqAt.shaped (dueD n.val) && PyData.eqv (dueD n.val) (dueD n.val)) = true := by decide +kernel
theorem due_no : inV (.bl true) ((due 34).map V.bl) = false := by decide +kernel
def spLaw (K : PySem.W.Frag) : Sp := fun vs H Q _ => ∃ (a : Addr) (ns : List Int), vs = [.ref a] ∧ ns.length ≤ 63 ∧ Sys K H ∧
  SqL K H a (ns.map V.int) ∧ ∀ H', Q (.bl true) H'
theorem errs_at {H : Hp} {v : V} : ∀ {as Cs : List Addr} (k : Nat), Errs H v as Cs → k < Cs.length → ∃ a C, (as.map V.ref)[k]? = some (.ref a) ∧ Cs[k]? = some C ∧ ErrAt H a C v
  | _, _, 0, .cons a b, h => ⟨_, _, rfl, rfl, a⟩
  | _, _, k + 1, .cons a b, h => errs_at (Cs := _) k b (Nat.lt_of_succ_lt_succ h)
section
variable {P : Program} {w : World} {K : PySem.W.Frag} {mg : Str → Option Value} {base : Heap} {fE c0 c1 c2 c3 c4 c5 c6 c7 c8 c9 c10 c11 c12 c13 c14 c15 c16 c17 c18 c19 c20 c21 c22 c23 c24 c25 c26 c27 c28 c29 c30 c31 c32 c33 c34 fC fSt fT fO fSr fP fN fEm fM fI : Addr} {fdE fdC fdSt fdT fdO fdSr fdP fdN fdEm fdM fdI : FuncData}
theorem scLaw : FnScope ["script", "state", "turn", "thing", "placed", "named", "empty", "at", "due", "number"] ["script"] (defScope sLaw) :=
  ⟨rfl, rfl, rfl, by decide +kernel, rfl, by decide +kernel, by decide +kernel⟩
theorem ok_law {f : Addr} {fd : FuncData} (F : Fun K "law" "law" sLaw f fd) (L : TLw K mg fE fdE c0 c1 c2 c3 c4 c5 c6 c7 c8 c9 c10 c11 c12 c13 c14 c15 c16 c17 c18 c19 c20 c21 c22 c23 c24 c25 c26 c27 c28 c29 c30 c31 c32 c33 c34 fC fSt fT fO fSr fP fN fEm fM fI fdC fdSt fdT fdO fdSr fdP fdN fdEm fdM fdI) :
    FnG P w K mg base CX0 6 f fd ["script"] (spLaw K) := by
  have T := L.T
  have GE : FnOk P w K mg base CX0 1 fE fdE ["self", "what"] (spExI K) := ok_exI T.FE
  have GC : FnOk P w K mg base CX0 1 fC fdC ["script", "at"] (spCel K) := ok_cell L.FC T.B
  have GSt : FnOk P w K mg base CX0 1 fSt fdSt ["cell"] spSta := ok_state L.FSt T.B
  have GSr : FnOk P w K mg base CX0 3 fSr fdSr ["state"] (spStr K) := ok_str L.FSr T.B L.FT L.mT L.bT L.FO L.mO L.bO
  have GP := okspPla (P := P) (w := w) (base := base) L.FP T
  have GN := okspNam (P := P) (w := w) (base := base) L.FN T
  have GEm := okspEmp (P := P) (w := w) (base := base) L.FEm T
  have GM := ok_mrk (P := P) (w := w) (base := base) L.FM T
  have GI := ok_isE (P := P) (w := w) (base := base) L.FI T
  obtain ⟨_, bkP⟩ := T.bP
  obtain ⟨_, bkN⟩ := T.bN
  obtain ⟨_, bk0⟩ := T.b0
  refine FnG.mk0 F scLaw (fun vs H Q E h => ?_) (fun cdv A outer s H vs Q E gd hr h => ?_)
  · obtain ⟨a, ns, rfl, _⟩ := h
    rfl
  · obtain ⟨a, ns, rfl, hl, sys, hs, q⟩ := h
    have hr1 : Room 1 _ := hr.mono (by decide)
    have hr2 : Room 2 _ := hr.mono (by decide)
    have hr3 : Room 3 _ := hr.mono (by decide)
    refine ⟨_, pss_cons (ps_set (i := 1) scLaw.nd rfl (Or.inl rfl) (pe_call GSt hr1 (by rfl) L.mSt L.FSt.kp L.bSt .nil pass0 (pa_cons (pe_call GC hr1 (by rfl) L.mC L.FC.kp L.bC .nil pass0 (pa_cons (pv 0) (pa_cons pe_int pa_nil))) pa_nil)))
      (pss_cons (ps_for PassesOwn.never rfl (pi_range1 (by rfl) T.B.rng (pa_cons pe_int pa_nil)) (pg_name (i := 2) scLaw.nd rfl (Or.inl rfl))
        (pss_cons (ps_set (i := 3) scLaw.nd rfl (Or.inl rfl) (pe_call GSr hr3 (by rfl) L.mSr L.FSr.kp L.bSr .nil pass0 (pa_cons (pv 1) pa_nil)))
        (pss_cons (ps_set (i := 4) scLaw.nd rfl (Or.inl rfl) (pe_call GP hr3 (by rfl) L.mP L.FP.kp L.bP .nil pass0 (pa_cons (pv 3) pa_nil)))
        (pss_cons (ps_set (i := 5) scLaw.nd rfl (Or.inl rfl) (pe_call GN hr3 (by rfl) L.mN L.FN.kp L.bN .nil pass0 (pa_cons (pv 3) pa_nil)))
        (pss_cons (ps_set (i := 6) scLaw.nd rfl (Or.inl rfl) (pe_call0 GEm hr3 (by rfl) L.mEm L.FEm.kp L.bEm .nil pass0))
        (pss_cons (ps_for PassesOwn.never rfl (pi_range1 (by rfl) T.B.rng (pa_cons (pe_callB call_len_seq (by rfl) T.B.len PySem.boot_len (pa_cons (pv 4) pa_nil)) pa_nil)) (pg_name (i := 7) scLaw.nd rfl (Or.inr rfl))
          (pss_cons (ps_if (PW.pt (pw_or (pt_not (pt_val (pe_callG GI hr2 gd (by rfl) L.mI L.FI.kp L.bI .nil pass0 (pa_cons (pe_ix ix_list (pv 4) (pv 7) (fun _ _ => rfl)) (pa_cons (pv 3) pa_nil))))) (pw_or1 (pt_not (pt_val (pe_callG GI hr2 gd (by rfl) L.mI L.FI.kp L.bI .nil pass0 (pa_cons (pe_ix ix_list (pv 5) (pv 7) (fun _ _ => rfl)) (pa_cons (pv 3) pa_nil)))))))) (pss_one (ps_ret pe_bl)) pss_nil)
          (pss_cons (ps_if (pt_not (pt_val (pe_callG GI hr2 gd (by rfl) L.mI L.FI.kp L.bI .nil pass0 (pa_cons (pe_ix ix_list (pv 6) (pv 7) (fun _ _ => rfl)) (pa_cons pe_non pa_nil))))) (pss_one (ps_ret pe_bl)) pss_nil)
          (pss_cons (ps_setLc (i := 8) (own := [("number", 9)]) (g := gName 9) (tt := tYes) (by rfl) scLaw.nd rfl rfl (sw_true rfl rfl rfl (by decide +kernel)) (pi_range1 (by rfl) T.B.rng (pa_cons (pe_callB call_len_seq (by rfl) T.B.len PySem.boot_len (pa_cons (pv 4) pa_nil)) pa_nil))
            (blkOk_by (N := ["script", "state", "turn", "thing", "placed", "named", "empty", "at", "due", "number"]) (sc := defScope sLaw) (by decide +kernel)) (fun _ _ _ _ _ => pg_name (i := 9) scLaw.nd rfl (Or.inl rfl)) (fun _ _ _ _ _ => pts_nil) (fun _ _ _ _ _ => pe_cmpR op_eq (pv 9) (pv 7) (nomark _)))
          (pss_one (ps_if (PW.pt (pw_or (pt_cmpR (op_neD hr.units) (pe_call GM hr1 (by rfl) L.mM L.FM.kp L.bM .nil pass0 (pa_cons (pe_ix ix_list (pv 4) (pv 7) (fun _ _ => rfl)) pa_nil)) (pv 8) (nomark _)) (pw_or (pt_cmpR (op_neD hr.units) (pe_call GM hr1 (by rfl) L.mM L.FM.kp L.bM .nil pass0 (pa_cons (pe_ix ix_list (pv 5) (pv 7) (fun _ _ => rfl)) pa_nil)) (pv 8) (nomark _)) (pw_or1 (pt_cmpR (op_neD hr.units) (pe_call GM hr1 (by rfl) L.mM L.FM.kp L.bM .nil pass0 (pa_cons (pe_ix ix_list (pv 6) (pv 7) (fun _ _ => rfl)) pa_nil)) (pv 8) (nomark _)))))) (pss_one (ps_ret pe_bl)) pss_nil))))))
        (pss_cons (ps_if (PW.pt (pw_or (pt_not (pt_val (pe_callG GI hr2 gd (by rfl) L.mI L.FI.kp L.bI .nil pass0 (pa_cons (pe_errP T.e0 T.tI GE bkP hr2 (by rfl) (pv 3)) (pa_cons (pv 3) pa_nil))))) (pw_or1 (pt_not (pt_val (pe_callG GI hr2 gd (by rfl) L.mI L.FI.kp L.bI .nil pass0 (pa_cons (pe_errN T.e0 T.tI GE bkN hr2 (by rfl) (pv 3)) (pa_cons (pv 3) pa_nil)))))))) (pss_one (ps_ret pe_bl)) pss_nil)
        (pss_one (ps_if (pt_cmpR op_in_seq pe_bl (pe_call GM hr1 (by rfl) L.mM L.FM.kp L.bM .nil pass0 (pa_cons (pe_errP T.e0 T.tI GE bkP hr2 (by rfl) (pv 3)) pa_nil)) (by with_unfolding_all rfl)) (pss_one (ps_ret pe_bl)) pss_nil)))))))))
      (pss_one (ps_ret (pe_callG GI hr2 gd (by rfl) L.mI L.FI.kp L.bI .nil pass0 (pa_cons (pe_err0 T.e0 T.tI GE bk0 hr2 (by rfl)) (pa_cons pe_non pa_nil)))))), ?_⟩
    refine ⟨_, rfl, a, ns, 0, rfl, hs, _, rfl, fun st x y z nst => ?_⟩
    have D0 : Dr H st _ := Dr.start (a := x) (b := y) (c := z) nst
    generalize upd H st (.lst [.int x, .int y, .int z]) = H0 at D0 ⊢
    refine ⟨3, rfl, by decide, by decide, ?_⟩
    refine for_range (lo := 0) (fun i σ H1 => ∃ v2 v3 v4 v5 v6 v7 v8 v9 : Option V, σ = [some (.ref a), some (.ref st), v2, v3, v4, v5, v6, v7, v8, v9] ∧ Dr H st H1)
      ⟨_, _, _, _, _, _, _, _, rfl, D0⟩ ?_ ?_
    · rintro i σ H1 hi ⟨v2, v3, v4, v5, v6, v7, v8, v9, rfl, D1⟩
      refine ⟨_, rfl, st, H, rfl, D1, fun v G H2 kG D2 th => ?_⟩
      refine ⟨_, rfl, v, rfl, fun p1 as1 H3 k3 f1 r1 => ?_⟩
      refine ⟨_, rfl, v, rfl, fun p2 as2 H4 k4 f2 r2 => ?_⟩
      refine ⟨rfl, fun p3 as3 H5 k5 f3 r3 => ?_⟩
      replace f1 := k5 _ _ (k4 _ _ f1)
      replace r1 := (r1.same k4).same k5
      replace f2 := k5 _ _ f2
      replace r2 := r2.same k5
      have D5 := ((D2.mono k3).mono k4).mono k5
      have th5 : Th K H5 v := th.same D5.same
      have sys5 : Sys K H5 := (sys.same kG).same D5.same
      have DH : Dr H st H5 := ⟨kG.trans D5.same, D1.free, D5.at_⟩
      refine ⟨_, rfl, p1, _, rfl, .inl (SqL.of f1), 34, ?_, by decide, by decide, ?_⟩
      · rw [List.length_map, r1.length]
        rfl
      refine for_range (lo := 0) (n := 34) (fun k σ H' => ∃ u7 u8 u9 : Option V, σ = [some (.ref a), some (.ref st), some (.int (0 + (i : Int))), some v, some (.ref p1), some (.ref p2), some (.ref p3), u7, u8, u9] ∧ Same H5 H')
        ⟨_, _, _, rfl, Same.refl H5⟩ ?_ ?_
      · rintro k σ H6 hk ⟨u7, u8, u9, rfl, k6⟩
        rw [Int.zero_add]
        obtain ⟨a1, C1, x1, y1, z1⟩ := errs_at k r1 hk
        obtain ⟨a2, C2, x2, y2, z2⟩ := errs_at k r2 hk
        obtain ⟨a3, C3, x3, y3, z3⟩ := errs_at k r3 hk
        obtain rfl : C1 = C2 := Option.some.inj (y1.symm.trans y2)
        obtain rfl : C1 = C3 := Option.some.inj (y1.symm.trans y3)
        have kc : ErK K c0 C1 := L.kE C1 (List.mem_cons_of_mem _ (List.mem_of_getElem? y1))
        have pr := L.kM k C1 y1
        have sys6 := sys5.same k6
        refine ⟨_, rfl, _, rfl, p1, _, k, .ref a1, rfl, rfl, SqL.of (k6 _ _ f1), atI_nat x1, v, rfl, a1, C1, v, rfl, sys6, kc, ErrAt.same k6 z1, th5.same k6, true, rfl, ?_⟩
        refine iteF ⟨_, rfl, _, rfl, p2, _, k, .ref a2, rfl, rfl, SqL.of (k6 _ _ f2), atI_nat x2, v, rfl, a2, C1, v, rfl, sys6, kc, ErrAt.same k6 z2, th5.same k6, true, rfl, ?_⟩
        refine iteF ?_
        refine ⟨_, rfl, _, rfl, p3, _, k, .ref a3, rfl, rfl, SqL.of (k6 _ _ f3), atI_nat x3, a3, C1, .non, rfl, sys6, kc, ErrAt.same k6 z3, ⟨_, .non, .inl rfl⟩, true, rfl, ?_⟩
        refine iteF ?_
        refine ⟨_, rfl, p1, _, rfl, .inl (SqL.of (k6 _ _ f1)), 34, ?_, by decide, by decide, fun D nD => ?_⟩
        · rw [List.length_map, r1.length]
          rfl
        refine lc_range (lo := 0) (n := 34) (fun j H' => Same H6 H' ∧ H' D = some (.lst (((List.range j).map fun i => decide (i = k)).map V.bl))) ⟨same_upd nD, upd_same⟩ ?_ ?_
        · rintro j H7 hj ⟨k7, e7⟩
          refine ⟨rfl, ?_⟩
          refine iteT (B := Same H6 H7 ∧ H7 D = some (.lst (((List.range (j + 1)).map fun i => decide (i = k)).map V.bl))) ⟨_, rfl, _, rfl, rfl, _, e7, ?_, ?_, ?_⟩
          · rw [List.length_map, List.length_map, List.length_range, sizeLine_eq]
            omega
          · intro x o e
            have ne : x ≠ D := ne_of_none e nD
            rw [upd_ne ne]
            exact k7 _ _ e
          · rw [upd_same, List.range_succ, List.map_append, List.map_append, Int.zero_add]
            congr 3
            simp only [List.map_cons, List.map_nil, V.int.injEq, Int.natCast_inj]
        · rintro H7 ⟨k7, e7⟩
          have dk := due_ok ⟨k, hk⟩
          simp only [Bool.and_eq_true] at dk
          obtain ⟨d1, g1, g2⟩ := ErrAt.same (k6.trans k7) z1
          obtain ⟨d2, g3, g4⟩ := ErrAt.same (k6.trans k7) z2
          obtain ⟨d3, g5, g6⟩ := ErrAt.same (k6.trans k7) z3
          refine ⟨_, rfl, _, rfl, p1, _, k, .ref a1, rfl, rfl, SqL.of (k7 _ _ (k6 _ _ f1)), atI_nat x1, a1, C1, d1, _, due k, rfl, kc.xc, g1, g2, pr, fun m1 H8 k8 e8 => ?_⟩
          refine ⟨_, rfl, dueD k, dueD k, .lst (SqL.of e8) (dp_bools _), .lst (SqL.of (k8 _ _ e7)) (dp_bools _), dk.1, dk.1, false, by rw [dk.2]; rfl, ?_⟩
          refine iteF ⟨_, rfl, _, rfl, p2, _, k, .ref a2, rfl, rfl, SqL.of (k8 _ _ (k7 _ _ (k6 _ _ f2))), atI_nat x2, a2, C1, d2, _, due k, rfl, kc.xc, k8 _ _ g3, k8 _ _ g4, pr, fun m2 H9 k9 e9 => ?_⟩
          refine ⟨_, rfl, dueD k, dueD k, .lst (SqL.of e9) (dp_bools _), .lst (SqL.of (k9 _ _ (k8 _ _ e7))) (dp_bools _), dk.1, dk.1, false, by rw [dk.2]; rfl, ?_⟩
          refine iteF ⟨_, rfl, _, rfl, p3, _, k, .ref a3, rfl, rfl, SqL.of (k9 _ _ (k8 _ _ (k7 _ _ (k6 _ _ f3)))), atI_nat x3, a3, C1, d3, _, due k, rfl, kc.xc, k9 _ _ (k8 _ _ g5), k9 _ _ (k8 _ _ g6), pr, fun m3 H10 k10 e10 => ?_⟩
          refine ⟨_, rfl, dueD k, dueD k, .lst (SqL.of e10) (dp_bools _), .lst (SqL.of (k10 _ _ (k9 _ _ (k8 _ _ e7)))) (dp_bools _), dk.1, dk.1, false, by rw [dk.2]; rfl, ?_⟩
          refine iteF ?_
          exact ⟨_, _, _, rfl, (((k6.trans k7).trans k8).trans k9).trans k10⟩
      · rintro σ H6 ⟨u7, u8, u9, rfl, k6⟩
        have sys6 := sys5.same k6
        have th6 := th5.same k6
        have kz := L.kE c0 (List.mem_cons_self ..)
        refine ⟨v, rfl, fun e1 H7 k7 r7 => ?_⟩
        refine ⟨v, rfl, e1, c0, v, rfl, sys6.same k7, kz, r7, th6.same k7, true, rfl, ?_⟩
        refine iteF ⟨v, rfl, fun e2 H8 k8 r8 => ?_⟩
        refine ⟨v, rfl, e2, c0, v, rfl, (sys6.same k7).same k8, kz, r8, (th6.same k7).same k8, true, rfl, ?_⟩
        refine iteF ?_
        refine ⟨v, rfl, fun e3 H9 k9 r9 => ?_⟩
        obtain ⟨d3, g5, g6⟩ := r9
        refine ⟨e3, c0, d3, _, due 34, rfl, kz.xc, g5, g6, L.k0, fun m H10 k10 f10 => ?_⟩
        refine ⟨m, _, rfl, .inl (SqL.of f10), rfl, by decide +kernel, false, by rw [due_no]; rfl, ?_⟩
        refine iteF ?_
        exact ⟨_, _, _, _, _, _, _, _, rfl, DH.mono ((((k6.trans k7).trans k8).trans k9).trans k10)⟩
    · rintro σ H1 ⟨v2, v3, v4, v5, v6, v7, v8, v9, rfl, D1⟩
      refine fun e H2 k2 er => ⟨e, c0, .non, rfl, (sys.same D1.same).same k2, L.kE c0 (List.mem_cons_self ..), er, ⟨_, .non, .inl rfl⟩, q H2⟩

end
end Nv
namespace Nv
open PySem PySem.Spec PyProof.Rows L2
/-- what the written part says of an error class -/
structure ClF (K : PySem.W.Frag) (C fE : Addr) (nm : Str) (bm : List Value) : Prop where
  ob : ∃ q N bs sn sub ab col dd m0 m1 m2 m3 m5, K.lookup C = some (excClassObj nm q C N bs bm true sn sub ab col dd m0 m1 m2 m3 m5 "ValueError.__new__")
  sa : PySem.W.findIn K (.ref C) "__setattr__" = some (some (.builtin "object.__setattr__"))
  ga : PySem.W.findIn K (.ref C) "__getattribute__" = some (some (.builtin "BaseException.__getattribute__"))
  gg : PySem.W.findIn K (.ref C) "__getattr__" = some none
  no : PySem.W.findIn K (.ref C) "what" = some none
  iC : PySem.W.findIn K (.ref C) "__init__" = some (some (.ref fE))
  kC : PySem.W.keepIn K (.ref C) = true
  tC : PySem.W.typeIn K (.ref C) = some (.type "type")
  ha : PySem.W.findIn K (.ref C) "__class__" = some (some (.builtin "object.__class__"))
section
variable {K : PySem.W.Frag} {C D c0 fE : Addr} {nm nm2 x : Str} {bm bm2 : List Value} {mg : Str → Option Value}
theorem ClF.cls (f : ClF K C fE nm bm) : ∃ cd, PySem.W.clsIn K C = some cd ∧ cd.name = nm ∧ cd.mro = .ref C :: bm ∧ cd.hasDict = true := by
  obtain ⟨q, N, bs, sn, sub, ab, col, dd, m0, m1, m2, m3, m5, h⟩ := f.ob
  refine ⟨{ name := nm, bases := bs, mro := .ref C :: bm, ns := N, qualname := q, hasDict := true, slotNames := sn, subclasses := sub, abstract := ab, collection := col, hasDel := false }, ?_, rfl, rfl, rfl⟩
  unfold PySem.W.clsIn
  rw [h] <;> rfl
theorem ClF.ne (f : ClF K C fE nm bm) (g : ClF K D fE nm2 bm2) (h : nm ≠ nm2) : C ≠ D := fun e => by
  obtain ⟨cd, h1, h2, _⟩ := f.cls
  obtain ⟨cd2, h3, h4, _⟩ := g.cls
  rw [e, h3] at h1
  cases h1
  exact h (h2.symm.trans h4)
theorem ClF.sub (f : ClF K C fE nm bm) (v : Value) : PySem.W.subIn K (.ref C) v = some ((Value.ref C :: bm).contains v) := by
  obtain ⟨cd, h1, h2, h3, _⟩ := f.cls
  show PySem.W.mroIn K C v = _
  unfold PySem.W.mroIn
  rw [h1, Option.bind_some, h3]
  rfl
theorem ClF.hd (f : ClF K C fE nm bm) : PySem.W.hasDictIn K C = true := by
  obtain ⟨cd, h1, h2, h3, h4⟩ := f.cls
  unfold PySem.W.hasDictIn
  rw [h1]
  exact h4
theorem ClF.is (f : ClF K C fE nm bm) : PySem.W.isClsIn K C = true := by
  obtain ⟨cd, h1, _⟩ := f.cls
  unfold PySem.W.isClsIn
  rw [h1]
  rfl
theorem ClF.subT (f : ClF K C fE nm bm) (r : PySem.HandSPX.refsVE bm = true) (T : String) (h : PySem.HandSPX.veTail.contains (.type T) = true) : PySem.W.subIn K (.ref C) (.type T) = some true := by
  rw [f.sub, List.contains_cons, PySem.HandSPX.refsVE_contains T bm r, h, Bool.or_true]
theorem ClF.erC (f : ClF K C fE nm bm) (r : PySem.HandSPX.refsVE bm = true) (g : mg x = some (.ref C)) (hn : PySem.W.specialIn K (.builtin "object.__class__") "__get__" = some (some (.builtin "getset_descriptor.__get__")))
    (ht : PySem.W.takesIn K (.builtin "object.__class__") = some true) : ErC K mg x C fE := by
  have e1 := f.subT r "BaseException" (by decide +kernel)
  have e2 : PySem.W.mroIn K C (.type "object") = some true := f.subT r "object" (by decide +kernel)
  obtain ⟨q, N, bs, sn, sub, ab, col, dd, m0, m1, m2, m3, m5, h⟩ := f.ob
  exact ⟨g, ⟨⟨nm, q, N, bs, bm, sn, sub, ab, col, dd, m0, m1, m2, m3, m5, h, r⟩, f.sa, e1, f.tC, f.kC⟩, f.iC, f.no, ⟨f.ga, f.gg, e1, f.hd⟩, ⟨f.ga, f.gg, e1, f.hd, f.ha, hn, ht, e2⟩⟩
theorem kit_self : PySem.W.kitOne K (.ref C) (.ref C) = some true := by
  unfold PySem.W.kitOne
  rw [if_pos (by simp)]
theorem kit_ref (f : ClF K C fE nm bm) (g : ClF K D fE nm2 bm2) (ne : C ≠ D) : PySem.W.kitOne K (.ref C) (.ref D) = some (bm.contains (.ref D)) := by
  have z : ((Value.ref C) == (Value.ref D)) = false := by simpa using ne
  have z' : ((Value.ref D) == (Value.ref C)) = false := by simpa using fun e => ne e.symm
  have e2 : ((PySem.W.clsIn K D).isSome && PySem.W.typeIn K (.ref D) == some (.type "type")) = true := by
    have z : (PySem.W.clsIn K D).isSome = true := g.is
    rw [z, g.tC] <;> rfl
  have e3 := f.sub (.ref D)
  rw [List.contains_cons, z', Bool.false_or] at e3
  unfold PySem.W.kitOne
  rw [z]
  unfold PySem.W.kitCls
  exact (if_neg Bool.false_ne_true).trans ((if_pos e2).trans e3)
theorem ve_no : PySem.HandSPX.veTail.contains (.ref D) = false := rfl
theorem row_no (ne : c0 ≠ D) : (Value.ref c0 :: PySem.HandSPX.veTail).contains (.ref D) = false := by
  have z' : ((Value.ref D) == (Value.ref c0)) = false := by simpa using fun e => ne e.symm
  rw [List.contains_cons, z', ve_no]
  rfl
theorem row_yes : (Value.ref c0 :: PySem.HandSPX.veTail).contains (.ref c0) = true := by
  rw [List.contains_cons]
  simp
theorem ClF.erK (f : ClF K C fE nm bm) (r : PySem.HandSPX.refsVE bm = true) (e : ErC K mg x C fE) (k0 : PySem.W.kitOne K (.ref C) (.ref c0) = some true) : ErK K c0 C :=
  ⟨e.xf, e.no, e.xc, k0, kit_sub (f.subT r "ValueError" (by decide +kernel)) (by decide +kernel)⟩
end
/-- rows of classes over the one at c0 -/
def Rw (K : PySem.W.Frag) (c0 fE : Addr) (Cs : List Addr) (ns : List Str) : Prop := Paired (fun C nm => ClF K C fE nm (.ref c0 :: PySem.HandSPX.veTail)) Cs ns
section
variable {K : PySem.W.Frag} {C D c0 fE : Addr} {nm nm2 x : Str} {bm bm2 : List Value} {mg : Str → Option Value}
theorem Rw.at {Cs : List Addr} {ns : List Str} (h : Rw K c0 fE Cs ns) : ∀ {n : Nat} {C : Addr}, Cs[n]? = some C → ∃ nm, ns[n]? = some nm ∧ ClF K C fE nm (.ref c0 :: PySem.HandSPX.veTail) := by
  induction h with
  | nil => intro n C e; cases e
  | cons a t ih =>
    intro n C e
    cases n with
    | zero => cases e; exact ⟨_, rfl, a⟩
    | succ n => exact ih e
/-- the row of C's marks, from the k-th class on -/
theorem Rw.marks {Cs : List Addr} {ns : List Str} (h : Rw K c0 fE Cs ns) (f : ClF K C fE nm (.ref c0 :: PySem.HandSPX.veTail)) (z0 : ∀ y ∈ ns, ("OweError" : Str) ≠ y) (fo : ClF K c0 fE "OweError" PySem.HandSPX.veTail) (n : Nat) :
    ∀ k, (∀ j y, ns[j]? = some y → (y = nm ↔ j + k = n)) → (∀ j D, Cs[j]? = some D → j + k = n → D = C) →
      Paired (fun D b => PySem.W.kitOne K (.ref C) (.ref D) = some b) Cs ((List.range Cs.length).map fun j => decide (j + k = n)) := by
  induction h with
  | nil => intro k _ _; exact .nil
  | @cons D y Ds ys a t ih =>
    intro k h1 h2
    rw [List.length_cons, List.range_succ_eq_map, List.map_cons, List.map_map]
    refine .cons ?_ ?_
    · by_cases e : 0 + k = n
      · rw [decide_eq_true e, h2 0 D rfl e]
        exact kit_self
      · rw [decide_eq_false e]
        have ne : nm ≠ y := fun q => e ((h1 0 y rfl).mp q.symm)
        rw [kit_ref f a (f.ne a ne), row_no (fo.ne a (z0 y (List.mem_cons_self ..)))]
    · have := ih (fun y hy => z0 y (List.mem_cons_of_mem _ hy)) (k + 1) (fun j y hy => by rw [h1 (j + 1) y hy]; omega) (fun j D hD e => h2 (j + 1) D hD (by omega))
      have e : ((fun j => decide (j + k = n)) ∘ Nat.succ) = fun j => decide (j + (k + 1) = n) := by
        funext j
        simp only [Function.comp, Nat.succ_eq_add_one]
        congr 1
        rw [Nat.add_right_comm, Nat.add_assoc]
      rw [e]
      exact this
theorem Rw.none {Cs : List Addr} {ns : List Str} (h : Rw K c0 fE Cs ns) (z0 : ∀ y ∈ ns, ("OweError" : Str) ≠ y) (fo : ClF K c0 fE "OweError" PySem.HandSPX.veTail) :
    Paired (fun D b => PySem.W.kitOne K (.ref c0) (.ref D) = some b) Cs (Cs.map fun _ => false) := by
  induction h with
  | nil => exact .nil
  | @cons D y Ds ys a t ih =>
    refine .cons ?_ (ih fun y hy => z0 y (List.mem_cons_of_mem _ hy))
    rw [kit_ref fo a (fo.ne a (z0 y (List.mem_cons_self ..))), ve_no]
end
end Nv
namespace Nv
open PySem PySem.Spec PyProof.Rows L2
def erNames : List Str := ("BadShare" : Str) :: ("BadWorld" : Str) :: ("NoStanding" : Str) :: ("NoAsk" : Str) :: ("NoAnswer" : Str) :: ("BadPrice" : Str) :: ("BadOrder" : Str) :: ("BadCount" : Str) :: ("TooMany" : Str) :: ("BadIncome" : Str) :: ("BadTable" : Str) :: ("BadWhole" : Str) :: ("BadLink" : Str) :: ("BadIncomes" : Str) :: ("BadPapers" : Str) :: ("BadRule" : Str) :: ("BadLot" : Str) :: ("BadGap" : Str) :: ("BadPlace" : Str) :: ("BadExchange" : Str) :: ("NoRoom" : Str) :: ("BadPair" : Str) :: ("BadSeats" : Str) :: ("BadWish" : Str) :: ("BadRecipes" : Str) :: ("BadValue" : Str) :: ("BadDiary" : Str) :: ("BadName" : Str) :: ("BadRow" : Str) :: ("NoTurn" : Str) :: ("Owing" : Str) :: ("NoSafe" : Str) :: ("BadDeed" : Str) :: ("BadText" : Str) :: []
theorem er_no : ∀ y ∈ erNames, ("OweError" : Str) ≠ y := by decide +kernel
theorem er_nd : erNames.Nodup := by decide +kernel
theorem nd_inj : ∀ {ns : List Str}, ns.Nodup → ∀ {i j : Nat} {y : Str}, ns[i]? = some y → ns[j]? = some y → i = j
  | [], _, i, j, y, h, _ => by cases h
  | x :: ns, d, 0, 0, y, _, _ => rfl
  | x :: ns, d, 0, j + 1, y, h, h2 => by
    cases h
    exact absurd (List.mem_of_getElem? (l := ns) h2) (List.nodup_cons.mp d).1
  | x :: ns, d, i + 1, 0, y, h2, h => by
    cases h
    exact absurd (List.mem_of_getElem? (l := ns) h2) (List.nodup_cons.mp d).1
  | x :: ns, d, i + 1, j + 1, y, h, h2 => by rw [nd_inj (List.nodup_cons.mp d).2 h h2]

theorem all_mk {P : Program} {w : World} {K : PySem.W.Frag} {h : Heap} {mg : Str → Option Value} {fa fE TE c0 c1 c2 c3 c4 c5 c6 c7 c8 c9 c10 c11 c12 c13 c14 c15 c16 c17 c18 c19 c20 c21 c22 c23 c24 c25 c26 c27 c28 c29 c30 c31 c32 c33 c34 fC fSt fT fO fSr fP fN fEm fM fI fW : Addr} (X : K.In h) (G : h.Ns mainGlobals mg) (hfa : mg "law" = some (.ref fa))
    {odE anE odC anC odSt anSt odT anT odO anO odSr anSr odP anP odN anN odEm anEm odM anM odI anI odW anW : Option Addr} {slE slC slSt slT slO slSr slP slN slEm slM slI slW : Array (Option Value)}
    {ocE kVE dcE pmE cdE ctE ocC kVC dcC pmC cdC ctC ocSt kVSt dcSt pmSt cdSt ctSt ocT kVT dcT pmT cdT ctT ocO kVO dcO pmO cdO ctO ocSr kVSr dcSr pmSr cdSr ctSr ocP kVP dcP pmP cdP ctP ocN kVN dcN pmN cdN ctN ocEm kVEm dcEm pmEm cdEm ctEm ocM kVM dcM pmM cdM ctM ocI kVI dcI pmI cdI ctI ocW kVW dcW pmW cdW ctW : Value} {oE : Obj} {nE : Nat}
    (z1 : PySem.W.nsIn K mainGlobals "len" = some none)
    (z2 : PySem.W.nsIn K mainGlobals "int" = some none)
    (z3 : PySem.W.nsIn K mainGlobals "bool" = some none)
    (z4 : PySem.W.nsIn K mainGlobals "abs" = some none)
    (z5 : PySem.W.nsIn K mainGlobals "isinstance" = some none)
    (z6 : PySem.W.nsIn K mainGlobals "repr" = some none)
    (z7 : PySem.W.nsIn K mainGlobals "range" = some none)
    (zV : PySem.W.nsIn K mainGlobals "ValueError" = some none)
    (a0 : PySem.W.nsIn K mainGlobals "OweError" = some (some (.ref c0)))
    (i0 : PySem.W.findIn K (.ref c0) "__init__" = some (some (.ref fE)))
    (tE : PySem.W.typeIn K (.ref fE) = some (.type "function"))
    (lE : K.lookup fE = some ⟨ocE, odE, .func (PySem.W.fnOf "__init__" "OweError.__init__" (defArgs sExI) (defBody sExI) (defScope sExI) (.ref TE) kVE dcE pmE anE cdE ctE), slE⟩)
    (cE : PySem.W.codeIn K cdE "OweError.__init__" = true)
    (kE : PySem.W.keepIn K (.ref fE) = true)
    (tlE : K.lookup TE = some oE)
    (tdE : oE.data = .seq [Value.none].toArray nE)
    (hn : PySem.W.specialIn K (.builtin "object.__class__") "__get__" = some (some (.builtin "getset_descriptor.__get__")))
    (ht : PySem.W.takesIn K (.builtin "object.__class__") = some true)
    (f0 : ClF K c0 fE "OweError" PySem.HandSPX.veTail)
    (a1 : PySem.W.nsIn K mainGlobals "BadShare" = some (some (.ref c1)))
    (f1 : ClF K c1 fE "BadShare" (.ref c0 :: PySem.HandSPX.veTail))
    (a2 : PySem.W.nsIn K mainGlobals "BadWorld" = some (some (.ref c2)))
    (f2 : ClF K c2 fE "BadWorld" (.ref c0 :: PySem.HandSPX.veTail))
    (a3 : PySem.W.nsIn K mainGlobals "NoStanding" = some (some (.ref c3)))
    (f3 : ClF K c3 fE "NoStanding" (.ref c0 :: PySem.HandSPX.veTail))
    (a4 : PySem.W.nsIn K mainGlobals "NoAsk" = some (some (.ref c4)))
    (f4 : ClF K c4 fE "NoAsk" (.ref c0 :: PySem.HandSPX.veTail))
    (a5 : PySem.W.nsIn K mainGlobals "NoAnswer" = some (some (.ref c5)))
    (f5 : ClF K c5 fE "NoAnswer" (.ref c0 :: PySem.HandSPX.veTail))
    (a6 : PySem.W.nsIn K mainGlobals "BadPrice" = some (some (.ref c6)))
    (f6 : ClF K c6 fE "BadPrice" (.ref c0 :: PySem.HandSPX.veTail))
    (a7 : PySem.W.nsIn K mainGlobals "BadOrder" = some (some (.ref c7)))
    (f7 : ClF K c7 fE "BadOrder" (.ref c0 :: PySem.HandSPX.veTail))
    (a8 : PySem.W.nsIn K mainGlobals "BadCount" = some (some (.ref c8)))
    (f8 : ClF K c8 fE "BadCount" (.ref c0 :: PySem.HandSPX.veTail))
    (a9 : PySem.W.nsIn K mainGlobals "TooMany" = some (some (.ref c9)))
    (f9 : ClF K c9 fE "TooMany" (.ref c0 :: PySem.HandSPX.veTail))
    (a10 : PySem.W.nsIn K mainGlobals "BadIncome" = some (some (.ref c10)))
    (f10 : ClF K c10 fE "BadIncome" (.ref c0 :: PySem.HandSPX.veTail))
    (a11 : PySem.W.nsIn K mainGlobals "BadTable" = some (some (.ref c11)))
    (f11 : ClF K c11 fE "BadTable" (.ref c0 :: PySem.HandSPX.veTail))
    (a12 : PySem.W.nsIn K mainGlobals "BadWhole" = some (some (.ref c12)))
    (f12 : ClF K c12 fE "BadWhole" (.ref c0 :: PySem.HandSPX.veTail))
    (a13 : PySem.W.nsIn K mainGlobals "BadLink" = some (some (.ref c13)))
    (f13 : ClF K c13 fE "BadLink" (.ref c0 :: PySem.HandSPX.veTail))
    (a14 : PySem.W.nsIn K mainGlobals "BadIncomes" = some (some (.ref c14)))
    (f14 : ClF K c14 fE "BadIncomes" (.ref c0 :: PySem.HandSPX.veTail))
    (a15 : PySem.W.nsIn K mainGlobals "BadPapers" = some (some (.ref c15)))
    (f15 : ClF K c15 fE "BadPapers" (.ref c0 :: PySem.HandSPX.veTail))
    (a16 : PySem.W.nsIn K mainGlobals "BadRule" = some (some (.ref c16)))
    (f16 : ClF K c16 fE "BadRule" (.ref c0 :: PySem.HandSPX.veTail))
    (a17 : PySem.W.nsIn K mainGlobals "BadLot" = some (some (.ref c17)))
    (f17 : ClF K c17 fE "BadLot" (.ref c0 :: PySem.HandSPX.veTail))
    (a18 : PySem.W.nsIn K mainGlobals "BadGap" = some (some (.ref c18)))
    (f18 : ClF K c18 fE "BadGap" (.ref c0 :: PySem.HandSPX.veTail))
    (a19 : PySem.W.nsIn K mainGlobals "BadPlace" = some (some (.ref c19)))
    (f19 : ClF K c19 fE "BadPlace" (.ref c0 :: PySem.HandSPX.veTail))
    (a20 : PySem.W.nsIn K mainGlobals "BadExchange" = some (some (.ref c20)))
    (f20 : ClF K c20 fE "BadExchange" (.ref c0 :: PySem.HandSPX.veTail))
    (a21 : PySem.W.nsIn K mainGlobals "NoRoom" = some (some (.ref c21)))
    (f21 : ClF K c21 fE "NoRoom" (.ref c0 :: PySem.HandSPX.veTail))
    (a22 : PySem.W.nsIn K mainGlobals "BadPair" = some (some (.ref c22)))
    (f22 : ClF K c22 fE "BadPair" (.ref c0 :: PySem.HandSPX.veTail))
    (a23 : PySem.W.nsIn K mainGlobals "BadSeats" = some (some (.ref c23)))
    (f23 : ClF K c23 fE "BadSeats" (.ref c0 :: PySem.HandSPX.veTail))
    (a24 : PySem.W.nsIn K mainGlobals "BadWish" = some (some (.ref c24)))
    (f24 : ClF K c24 fE "BadWish" (.ref c0 :: PySem.HandSPX.veTail))
    (a25 : PySem.W.nsIn K mainGlobals "BadRecipes" = some (some (.ref c25)))
    (f25 : ClF K c25 fE "BadRecipes" (.ref c0 :: PySem.HandSPX.veTail))
    (a26 : PySem.W.nsIn K mainGlobals "BadValue" = some (some (.ref c26)))
    (f26 : ClF K c26 fE "BadValue" (.ref c0 :: PySem.HandSPX.veTail))
    (a27 : PySem.W.nsIn K mainGlobals "BadDiary" = some (some (.ref c27)))
    (f27 : ClF K c27 fE "BadDiary" (.ref c0 :: PySem.HandSPX.veTail))
    (a28 : PySem.W.nsIn K mainGlobals "BadName" = some (some (.ref c28)))
    (f28 : ClF K c28 fE "BadName" (.ref c0 :: PySem.HandSPX.veTail))
    (a29 : PySem.W.nsIn K mainGlobals "BadRow" = some (some (.ref c29)))
    (f29 : ClF K c29 fE "BadRow" (.ref c0 :: PySem.HandSPX.veTail))
    (a30 : PySem.W.nsIn K mainGlobals "NoTurn" = some (some (.ref c30)))
    (f30 : ClF K c30 fE "NoTurn" (.ref c0 :: PySem.HandSPX.veTail))
    (a31 : PySem.W.nsIn K mainGlobals "Owing" = some (some (.ref c31)))
    (f31 : ClF K c31 fE "Owing" (.ref c0 :: PySem.HandSPX.veTail))
    (a32 : PySem.W.nsIn K mainGlobals "NoSafe" = some (some (.ref c32)))
    (f32 : ClF K c32 fE "NoSafe" (.ref c0 :: PySem.HandSPX.veTail))
    (a33 : PySem.W.nsIn K mainGlobals "BadDeed" = some (some (.ref c33)))
    (f33 : ClF K c33 fE "BadDeed" (.ref c0 :: PySem.HandSPX.veTail))
    (a34 : PySem.W.nsIn K mainGlobals "BadText" = some (some (.ref c34)))
    (f34 : ClF K c34 fE "BadText" (.ref c0 :: PySem.HandSPX.veTail))
    (aC : PySem.W.nsIn K mainGlobals "_law_cell" = some (some (.ref fC)))
    (lC : K.lookup fC = some ⟨ocC, odC, .func (PySem.W.fnOf "_law_cell" "_law_cell" (defArgs sCell) (defBody sCell) (defScope sCell) .none kVC dcC pmC anC cdC ctC), slC⟩)
    (ccC : PySem.W.codeIn K cdC "_law_cell" = true)
    (kkC : PySem.W.keepIn K (.ref fC) = true)
    (aSt : PySem.W.nsIn K mainGlobals "_law_state" = some (some (.ref fSt)))
    (lSt : K.lookup fSt = some ⟨ocSt, odSt, .func (PySem.W.fnOf "_law_state" "_law_state" (defArgs sState) (defBody sState) (defScope sState) .none kVSt dcSt pmSt anSt cdSt ctSt), slSt⟩)
    (ccSt : PySem.W.codeIn K cdSt "_law_state" = true)
    (kkSt : PySem.W.keepIn K (.ref fSt) = true)
    (aT : PySem.W.nsIn K mainGlobals "_law_take" = some (some (.ref fT)))
    (lT : K.lookup fT = some ⟨ocT, odT, .func (PySem.W.fnOf "_law_take" "_law_take" (defArgs sTake) (defBody sTake) (defScope sTake) .none kVT dcT pmT anT cdT ctT), slT⟩)
    (ccT : PySem.W.codeIn K cdT "_law_take" = true)
    (kkT : PySem.W.keepIn K (.ref fT) = true)
    (aO : PySem.W.nsIn K mainGlobals "_law_one_of" = some (some (.ref fO)))
    (lO : K.lookup fO = some ⟨ocO, odO, .func (PySem.W.fnOf "_law_one_of" "_law_one_of" (defArgs sOne) (defBody sOne) (defScope sOne) .none kVO dcO pmO anO cdO ctO), slO⟩)
    (ccO : PySem.W.codeIn K cdO "_law_one_of" = true)
    (kkO : PySem.W.keepIn K (.ref fO) = true)
    (aSr : PySem.W.nsIn K mainGlobals "_law_strange" = some (some (.ref fSr)))
    (lSr : K.lookup fSr = some ⟨ocSr, odSr, .func (PySem.W.fnOf "_law_strange" "_law_strange" (defArgs sStr) (defBody sStr) (defScope sStr) .none kVSr dcSr pmSr anSr cdSr ctSr), slSr⟩)
    (ccSr : PySem.W.codeIn K cdSr "_law_strange" = true)
    (kkSr : PySem.W.keepIn K (.ref fSr) = true)
    (aP : PySem.W.nsIn K mainGlobals "_law_placed" = some (some (.ref fP)))
    (lP : K.lookup fP = some ⟨ocP, odP, .func (PySem.W.fnOf "_law_placed" "_law_placed" (defArgs sPla) (defBody sPla) (defScope sPla) .none kVP dcP pmP anP cdP ctP), slP⟩)
    (ccP : PySem.W.codeIn K cdP "_law_placed" = true)
    (kkP : PySem.W.keepIn K (.ref fP) = true)
    (aN : PySem.W.nsIn K mainGlobals "_law_named" = some (some (.ref fN)))
    (lN : K.lookup fN = some ⟨ocN, odN, .func (PySem.W.fnOf "_law_named" "_law_named" (defArgs sNam) (defBody sNam) (defScope sNam) .none kVN dcN pmN anN cdN ctN), slN⟩)
    (ccN : PySem.W.codeIn K cdN "_law_named" = true)
    (kkN : PySem.W.keepIn K (.ref fN) = true)
    (aEm : PySem.W.nsIn K mainGlobals "_law_empty" = some (some (.ref fEm)))
    (lEm : K.lookup fEm = some ⟨ocEm, odEm, .func (PySem.W.fnOf "_law_empty" "_law_empty" (defArgs sEmp) (defBody sEmp) (defScope sEmp) .none kVEm dcEm pmEm anEm cdEm ctEm), slEm⟩)
    (ccEm : PySem.W.codeIn K cdEm "_law_empty" = true)
    (kkEm : PySem.W.keepIn K (.ref fEm) = true)
    (aM : PySem.W.nsIn K mainGlobals "_law_marks" = some (some (.ref fM)))
    (lM : K.lookup fM = some ⟨ocM, odM, .func (PySem.W.fnOf "_law_marks" "_law_marks" (defArgs sMrk) (defBody sMrk) (defScope sMrk) .none kVM dcM pmM anM cdM ctM), slM⟩)
    (ccM : PySem.W.codeIn K cdM "_law_marks" = true)
    (kkM : PySem.W.keepIn K (.ref fM) = true)
    (aI : PySem.W.nsIn K mainGlobals "_law_is_error" = some (some (.ref fI)))
    (lI : K.lookup fI = some ⟨ocI, odI, .func (PySem.W.fnOf "_law_is_error" "_law_is_error" (defArgs sIsE) (defBody sIsE) (defScope sIsE) .none kVI dcI pmI anI cdI ctI), slI⟩)
    (ccI : PySem.W.codeIn K cdI "_law_is_error" = true)
    (kkI : PySem.W.keepIn K (.ref fI) = true)
    (aW : PySem.W.nsIn K mainGlobals "law" = some (some (.ref fW)))
    (lW : K.lookup fW = some ⟨ocW, odW, .func (PySem.W.fnOf "law" "law" (defArgs sLaw) (defBody sLaw) (defScope sLaw) .none kVW dcW pmW anW cdW ctW), slW⟩)
    (ccW : PySem.W.codeIn K cdW "law" = true)
    (kkW : PySem.W.keepIn K (.ref fW) = true) :
    ∃ fd : FuncData, (∀ (s : Shared) (v : Value), BindsTo s fd ⟨[v], []⟩ [("script", v)]) ∧ ∀ base : Heap, K.In base → base.Ns mainGlobals mg → FnG P w K mg base CX0 6 fa fd ["script"] (spLaw K) := by
  have e := hfa.symm.trans (PySem.W.mg_of X G aW)
  cases e
  have B : Blt mg := ⟨PySem.W.mg_none_of X G z1, PySem.W.mg_none_of X G z2, PySem.W.mg_none_of X G z3, PySem.W.mg_none_of X G z4, PySem.W.mg_none_of X G z5, PySem.W.mg_none_of X G z6, PySem.W.mg_none_of X G z7⟩
  have FE := funD_mk (st := sExI) (dvs := [.non]) lE cE kE tlE tdE (.cons rfl .nil) (by simp)
  obtain ⟨_, bP⟩ := FE.kbindsD (ps := ["self", "what"]) 2 [] (fun us _ _ => us) (by simp) (fun a _ _ => a)
    (fun T kV doc pm an cdv ct us its ws h1 h2 h3 => match us, its, ws, h1, h2, h3 with | [_, _], [_], [], _, _, _ => ⟨_, rfl, rfl⟩)
  obtain ⟨_, bN⟩ := FE.kbindsD (ps := ["self", "what"]) 1 ["what"] (fun us _ ws => us ++ ws) (by simp) (fun a _ b => a.append b)
    (fun T kV doc pm an cdv ct us its ws h1 h2 h3 => match us, its, ws, h1, h2, h3 with | [_], [_], [_], _, _, _ => ⟨_, rfl, rfl⟩)
  obtain ⟨_, b0⟩ := FE.kbindsD (ps := ["self", "what"]) 1 [] (fun us ds _ => us ++ ds) (by simp) (fun a b _ => a.append b)
    (fun T kV doc pm an cdv ct us its ws h1 h2 h3 => match us, its, ws, h1, h2, h3 with | [_], [_], [], _, _, _ => ⟨_, rfl, rfl⟩)
  have E0 := f0.erC (x := "OweError") (by decide +kernel) (PySem.W.mg_of X G a0) hn ht
  have rV : PySem.HandSPX.refsVE (.ref c0 :: PySem.HandSPX.veTail) = true := rfl
  have E1 := f1.erC (x := "BadShare") rV (PySem.W.mg_of X G a1) hn ht
  have E2 := f2.erC (x := "BadWorld") rV (PySem.W.mg_of X G a2) hn ht
  have E3 := f3.erC (x := "NoStanding") rV (PySem.W.mg_of X G a3) hn ht
  have E4 := f4.erC (x := "NoAsk") rV (PySem.W.mg_of X G a4) hn ht
  have E5 := f5.erC (x := "NoAnswer") rV (PySem.W.mg_of X G a5) hn ht
  have E6 := f6.erC (x := "BadPrice") rV (PySem.W.mg_of X G a6) hn ht
  have E7 := f7.erC (x := "BadOrder") rV (PySem.W.mg_of X G a7) hn ht
  have E8 := f8.erC (x := "BadCount") rV (PySem.W.mg_of X G a8) hn ht
  have E9 := f9.erC (x := "TooMany") rV (PySem.W.mg_of X G a9) hn ht
  have E10 := f10.erC (x := "BadIncome") rV (PySem.W.mg_of X G a10) hn ht
  have E11 := f11.erC (x := "BadTable") rV (PySem.W.mg_of X G a11) hn ht
  have E12 := f12.erC (x := "BadWhole") rV (PySem.W.mg_of X G a12) hn ht
  have E13 := f13.erC (x := "BadLink") rV (PySem.W.mg_of X G a13) hn ht
  have E14 := f14.erC (x := "BadIncomes") rV (PySem.W.mg_of X G a14) hn ht
  have E15 := f15.erC (x := "BadPapers") rV (PySem.W.mg_of X G a15) hn ht
  have E16 := f16.erC (x := "BadRule") rV (PySem.W.mg_of X G a16) hn ht
  have E17 := f17.erC (x := "BadLot") rV (PySem.W.mg_of X G a17) hn ht
  have E18 := f18.erC (x := "BadGap") rV (PySem.W.mg_of X G a18) hn ht
  have E19 := f19.erC (x := "BadPlace") rV (PySem.W.mg_of X G a19) hn ht
  have E20 := f20.erC (x := "BadExchange") rV (PySem.W.mg_of X G a20) hn ht
  have E21 := f21.erC (x := "NoRoom") rV (PySem.W.mg_of X G a21) hn ht
  have E22 := f22.erC (x := "BadPair") rV (PySem.W.mg_of X G a22) hn ht
  have E23 := f23.erC (x := "BadSeats") rV (PySem.W.mg_of X G a23) hn ht
  have E24 := f24.erC (x := "BadWish") rV (PySem.W.mg_of X G a24) hn ht
  have E25 := f25.erC (x := "BadRecipes") rV (PySem.W.mg_of X G a25) hn ht
  have E26 := f26.erC (x := "BadValue") rV (PySem.W.mg_of X G a26) hn ht
  have E27 := f27.erC (x := "BadDiary") rV (PySem.W.mg_of X G a27) hn ht
  have E28 := f28.erC (x := "BadName") rV (PySem.W.mg_of X G a28) hn ht
  have E29 := f29.erC (x := "BadRow") rV (PySem.W.mg_of X G a29) hn ht
  have E30 := f30.erC (x := "NoTurn") rV (PySem.W.mg_of X G a30) hn ht
  have E31 := f31.erC (x := "Owing") rV (PySem.W.mg_of X G a31) hn ht
  have E32 := f32.erC (x := "NoSafe") rV (PySem.W.mg_of X G a32) hn ht
  have E33 := f33.erC (x := "BadDeed") rV (PySem.W.mg_of X G a33) hn ht
  have E34 := f34.erC (x := "BadText") rV (PySem.W.mg_of X G a34) hn ht
  have T : TEn K mg fE _ c0 c1 c2 c3 c4 c5 c6 c7 c8 c9 c10 c11 c12 c13 c14 c15 c16 c17 c18 c19 c20 c21 c22 c23 c24 c25 c26 c27 c28 c29 c30 c31 c32 c33 c34 := ⟨B, PySem.W.mg_none_of X G zV, FE, tE, ⟨_, bP⟩, ⟨_, bN⟩, ⟨_, b0⟩, E0, E1, E2, E3, E4, E5, E6, E7, E8, E9, E10, E11, E12, E13, E14, E15, E16, E17, E18, E19, E20, E21, E22, E23, E24, E25, E26, E27, E28, E29, E30, E31, E32, E33, E34⟩
  have R : Rw K c0 fE [c1, c2, c3, c4, c5, c6, c7, c8, c9, c10, c11, c12, c13, c14, c15, c16, c17, c18, c19, c20, c21, c22, c23, c24, c25, c26, c27, c28, c29, c30, c31, c32, c33, c34] erNames := .cons f1 (.cons f2 (.cons f3 (.cons f4 (.cons f5 (.cons f6 (.cons f7 (.cons f8 (.cons f9 (.cons f10 (.cons f11 (.cons f12 (.cons f13 (.cons f14 (.cons f15 (.cons f16 (.cons f17 (.cons f18 (.cons f19 (.cons f20 (.cons f21 (.cons f22 (.cons f23 (.cons f24 (.cons f25 (.cons f26 (.cons f27 (.cons f28 (.cons f29 (.cons f30 (.cons f31 (.cons f32 (.cons f33 (.cons f34 (.nil))))))))))))))))))))))))))))))))))
  have FC := fun_mk (st := sCell) lC ccC kkC
  have FSt := fun_mk (st := sState) lSt ccSt kkSt
  have FT := fun_mk (st := sTake) lT ccT kkT
  have FO := fun_mk (st := sOne) lO ccO kkO
  have FSr := fun_mk (st := sStr) lSr ccSr kkSr
  have FP := fun_mk (st := sPla) lP ccP kkP
  have FN := fun_mk (st := sNam) lN ccN kkN
  have FEm := fun_mk (st := sEmp) lEm ccEm kkEm
  have FM := fun_mk (st := sMrk) lM ccM kkM
  have FI := fun_mk (st := sIsE) lI ccI kkI
  have FW := fun_mk (st := sLaw) lW ccW kkW
  have bC := FC.binds (ps := ["script", "at"]) fun _ _ _ _ _ _ us hl => match us, hl with | [_, _], _ => rfl
  have bSt := FSt.binds (ps := ["cell"]) fun _ _ _ _ _ _ us hl => match us, hl with | [_], _ => rfl
  have bT := FT.binds (ps := ["state", "many"]) fun _ _ _ _ _ _ us hl => match us, hl with | [_, _], _ => rfl
  have bO := FO.binds (ps := ["state", "items"]) fun _ _ _ _ _ _ us hl => match us, hl with | [_, _], _ => rfl
  have bSr := FSr.binds (ps := ["state"]) fun _ _ _ _ _ _ us hl => match us, hl with | [_], _ => rfl
  have bP := FP.binds (ps := ["thing"]) fun _ _ _ _ _ _ us hl => match us, hl with | [_], _ => rfl
  have bN := FN.binds (ps := ["thing"]) fun _ _ _ _ _ _ us hl => match us, hl with | [_], _ => rfl
  have bEm := FEm.binds (ps := []) fun _ _ _ _ _ _ us hl => match us, hl with | [], _ => rfl
  have bM := FM.binds (ps := ["error"]) fun _ _ _ _ _ _ us hl => match us, hl with | [_], _ => rfl
  have bI := FI.binds (ps := ["error", "thing"]) fun _ _ _ _ _ _ us hl => match us, hl with | [_, _], _ => rfl
  have kA : ∀ C ∈ c0 :: [c1, c2, c3, c4, c5, c6, c7, c8, c9, c10, c11, c12, c13, c14, c15, c16, c17, c18, c19, c20, c21, c22, c23, c24, c25, c26, c27, c28, c29, c30, c31, c32, c33, c34], ErK K c0 C := by
    intro C hC
    rcases List.mem_cons.mp hC with rfl | hC
    · exact f0.erK (by decide +kernel) E0 kit_self
    · obtain ⟨n, hn2⟩ := List.getElem?_of_mem hC
      obtain ⟨nm, hy, f⟩ := R.at hn2
      exact f.erK rV (f.erC (mg := fun _ => some (.ref C)) (x := "") rV rfl hn ht) ((kit_ref f f0 (f.ne f0 (er_no _ (List.mem_of_getElem? hy)).symm)).trans (by rw [row_yes]))
  have kM : ∀ n C, [c1, c2, c3, c4, c5, c6, c7, c8, c9, c10, c11, c12, c13, c14, c15, c16, c17, c18, c19, c20, c21, c22, c23, c24, c25, c26, c27, c28, c29, c30, c31, c32, c33, c34][n]? = some C → Paired (fun D b => PySem.W.kitOne K (.ref C) (.ref D) = some b) [c1, c2, c3, c4, c5, c6, c7, c8, c9, c10, c11, c12, c13, c14, c15, c16, c17, c18, c19, c20, c21, c22, c23, c24, c25, c26, c27, c28, c29, c30, c31, c32, c33, c34] (due n) := by
    intro n C hC
    obtain ⟨nm, hy, f⟩ := R.at hC
    exact R.marks f er_no f0 n 0 (fun j y hj => ⟨fun e => nd_inj er_nd (e ▸ hj) hy, fun e => by rw [Nat.add_zero] at e; rw [e, hy] at hj; exact (Option.some.inj hj).symm⟩)
      (fun j D hj e => by rw [Nat.add_zero] at e; rw [e, hC] at hj; exact (Option.some.inj hj).symm)
  have k0 : Paired (fun D b => PySem.W.kitOne K (.ref c0) (.ref D) = some b) [c1, c2, c3, c4, c5, c6, c7, c8, c9, c10, c11, c12, c13, c14, c15, c16, c17, c18, c19, c20, c21, c22, c23, c24, c25, c26, c27, c28, c29, c30, c31, c32, c33, c34] (due 34) := by
    rw [show due 34 = List.replicate 34 false from by decide +kernel]
    exact R.none er_no f0
  exact ⟨PySem.W.fnOf "law" "law" (defArgs sLaw) (defBody sLaw) (defScope sLaw) .none kVW dcW pmW anW cdW ctW, fun s v => .of_eq rfl, fun base _ _ => ok_law FW ⟨T, FC, PySem.W.mg_of X G aC, bC, FSt, PySem.W.mg_of X G aSt, bSt, FT, PySem.W.mg_of X G aT, bT, FO, PySem.W.mg_of X G aO, bO, FSr, PySem.W.mg_of X G aSr, bSr, FP, PySem.W.mg_of X G aP, bP, FN, PySem.W.mg_of X G aN, bN, FEm, PySem.W.mg_of X G aEm, bEm, FM, PySem.W.mg_of X G aM, bM, FI, PySem.W.mg_of X G aI, bI, kA, kM, k0⟩⟩
theorem walk {l : PySem.W.OpenLaw} {q : Program} {loose : List Str} {XP : (Str → Option Value) → Heap → Prop} {YP : World → Heap → Prop} {d : DefRec} {K : Params → PySem.W.Frag}
    (hn : l.most = some 63) (hdf : d.params.defaults = []) (him : importsNone q = true) (hY : ∀ (w : World) (h : Heap), YP w h → (K w.params).In h)
    (F : ∀ (w : World) (mg : Str → Option Value) (fa : Addr) (h : Heap), (K w.params).In h → h.Ns mainGlobals mg → mg d.name = some (.ref fa) →
      ∃ fd : FuncData, (∀ (s : Shared) (u : Value), BindsTo s fd ⟨[u], []⟩ [("script", u)]) ∧ ∀ base : Heap, (K w.params).In base → base.Ns mainGlobals mg →
        FnG l.prog w (K w.params) mg base CX0 6 fa fd ["script"] (spLaw (K w.params))) :
    PySem.W.WalkO q loose XP YP l.row.toRowW d [] (fun f vs => PySem.call f vs) :=
  law_walk (n := 63) (k := 6) (x := "script") (sp := fun w => spLaw (K w.params)) hn (by decide) hdf ⟨rfl, by decide, by decide⟩ him hY F
    (fun w H a ns hl hy hS => ⟨a, ns, rfl, hl, hy, hS, fun _ => rfl⟩)
end Nv
open PySem PySem.W PyProof.Rows
set_option maxRecDepth 100000 in
set_option maxHeartbeats 0 in
theorem PySem.Challenge.cw_neverowing_k01_errors_of_the_package_holds : PySem.Challenge.rw_neverowing_k01_errors_of_the_package.Holds := by
  w_on; o_law; k_head; (case hw => w_witness2)
  k_fill
  refine Nv.walk (l := PySem.Challenge.rw_neverowing_k01_errors_of_the_package) rfl rfl (by decide +kernel) (fun w h Y => PySem.W.kIn_of Y) ?F
  case F =>
    intro w mg fa h KX G hmg
    refine' Nv.all_mk KX G hmg ?z1 ?z2 ?z3 ?z4 ?z5 ?z6 ?z7 ?zV ?a0 ?i0 ?tE ?lE ?cE ?kE ?tlE ?tdE ?hn ?ht ?f0 ?a1 ?f1 ?a2 ?f2 ?a3 ?f3 ?a4 ?f4 ?a5 ?f5 ?a6 ?f6 ?a7 ?f7 ?a8 ?f8 ?a9 ?f9 ?a10 ?f10 ?a11 ?f11 ?a12 ?f12 ?a13 ?f13 ?a14 ?f14 ?a15 ?f15 ?a16 ?f16 ?a17 ?f17 ?a18 ?f18 ?a19 ?f19 ?a20 ?f20 ?a21 ?f21 ?a22 ?f22 ?a23 ?f23 ?a24 ?f24 ?a25 ?f25 ?a26 ?f26 ?a27 ?f27 ?a28 ?f28 ?a29 ?f29 ?a30 ?f30 ?a31 ?f31 ?a32 ?f32 ?a33 ?f33 ?a34 ?f34 ?aC ?lC ?ccC ?kkC ?aSt ?lSt ?ccSt ?kkSt ?aT ?lT ?ccT ?kkT ?aO ?lO ?ccO ?kkO ?aSr ?lSr ?ccSr ?kkSr ?aP ?lP ?ccP ?kkP ?aN ?lN ?ccN ?kkN ?aEm ?lEm ?ccEm ?kkEm ?aM ?lM ?ccM ?kkM ?aI ?lI ?ccI ?kkI ?aW ?lW ?ccW ?kkW
    (case z1 => k_is)
    (case z2 => k_is)
    (case z3 => k_is)
    (case z4 => k_is)
    (case z5 => k_is)
    (case z6 => k_is)
    (case z7 => k_is)
    (case zV => k_is)
    (case a0 => k_is)
    (case i0 => k_is)
    (case tE => k_is)
    (case lE => k_is)
    (case cE => k_is)
    (case kE => k_is)
    (case tlE => k_is)
    (case tdE => rfl)
    (case hn => k_is)
    (case ht => k_is)
    (case f0 => exact ⟨⟨_, _, _, _, _, _, _, _, _, _, _, _, _, by k_is⟩, by k_is, by k_is, by k_is, by k_is, by k_is, by k_is, by k_is, by k_is⟩)
    (case a1 => k_is)
    (case f1 => exact ⟨⟨_, _, _, _, _, _, _, _, _, _, _, _, _, by k_is⟩, by k_is, by k_is, by k_is, by k_is, by k_is, by k_is, by k_is, by k_is⟩)
    (case a2 => k_is)
    (case f2 => exact ⟨⟨_, _, _, _, _, _, _, _, _, _, _, _, _, by k_is⟩, by k_is, by k_is, by k_is, by k_is, by k_is, by k_is, by k_is, by k_is⟩)
    (case a3 => k_is)
    (case f3 => exact ⟨⟨_, _, _, _, _, _, _, _, _, _, _, _, _, by k_is⟩, by k_is, by k_is, by k_is, by k_is, by k_is, by k_is, by k_is, by k_is⟩)
    (case a4 => k_is)
    (case f4 => exact ⟨⟨_, _, _, _, _, _, _, _, _, _, _, _, _, by k_is⟩, by k_is, by k_is, by k_is, by k_is, by k_is, by k_is, by k_is, by k_is⟩)
    (case a5 => k_is)
    (case f5 => exact ⟨⟨_, _, _, _, _, _, _, _, _, _, _, _, _, by k_is⟩, by k_is, by k_is, by k_is, by k_is, by k_is, by k_is, by k_is, by k_is⟩)
    (case a6 => k_is)
    (case f6 => exact ⟨⟨_, _, _, _, _, _, _, _, _, _, _, _, _, by k_is⟩, by k_is, by k_is, by k_is, by k_is, by k_is, by k_is, by k_is, by k_is⟩)
    (case a7 => k_is)
    (case f7 => exact ⟨⟨_, _, _, _, _, _, _, _, _, _, _, _, _, by k_is⟩, by k_is, by k_is, by k_is, by k_is, by k_is, by k_is, by k_is, by k_is⟩)
    (case a8 => k_is)
    (case f8 => exact ⟨⟨_, _, _, _, _, _, _, _, _, _, _, _, _, by k_is⟩, by k_is, by k_is, by k_is, by k_is, by k_is, by k_is, by k_is, by k_is⟩)
    (case a9 => k_is)
    (case f9 => exact ⟨⟨_, _, _, _, _, _, _, _, _, _, _, _, _, by k_is⟩, by k_is, by k_is, by k_is, by k_is, by k_is, by k_is, by k_is, by k_is⟩)
    (case a10 => k_is)
    (case f10 => exact ⟨⟨_, _, _, _, _, _, _, _, _, _, _, _, _, by k_is⟩, by k_is, by k_is, by k_is, by k_is, by k_is, by k_is, by k_is, by k_is⟩)
    (case a11 => k_is)
    (case f11 => exact ⟨⟨_, _, _, _, _, _, _, _, _, _, _, _, _, by k_is⟩, by k_is, by k_is, by k_is, by k_is, by k_is, by k_is, by k_is, by k_is⟩)
    (case a12 => k_is)
    (case f12 => exact ⟨⟨_, _, _, _, _, _, _, _, _, _, _, _, _, by k_is⟩, by k_is, by k_is, by k_is, by k_is, by k_is, by k_is, by k_is, by k_is⟩)
    (case a13 => k_is)
    (case f13 => exact ⟨⟨_, _, _, _, _, _, _, _, _, _, _, _, _, by k_is⟩, by k_is, by k_is, by k_is, by k_is, by k_is, by k_is, by k_is, by k_is⟩)
    (case a14 => k_is)
    (case f14 => exact ⟨⟨_, _, _, _, _, _, _, _, _, _, _, _, _, by k_is⟩, by k_is, by k_is, by k_is, by k_is, by k_is, by k_is, by k_is, by k_is⟩)
    (case a15 => k_is)
    (case f15 => exact ⟨⟨_, _, _, _, _, _, _, _, _, _, _, _, _, by k_is⟩, by k_is, by k_is, by k_is, by k_is, by k_is, by k_is, by k_is, by k_is⟩)
    (case a16 => k_is)
    (case f16 => exact ⟨⟨_, _, _, _, _, _, _, _, _, _, _, _, _, by k_is⟩, by k_is, by k_is, by k_is, by k_is, by k_is, by k_is, by k_is, by k_is⟩)
    (case a17 => k_is)
    (case f17 => exact ⟨⟨_, _, _, _, _, _, _, _, _, _, _, _, _, by k_is⟩, by k_is, by k_is, by k_is, by k_is, by k_is, by k_is, by k_is, by k_is⟩)
    (case a18 => k_is)
    (case f18 => exact ⟨⟨_, _, _, _, _, _, _, _, _, _, _, _, _, by k_is⟩, by k_is, by k_is, by k_is, by k_is, by k_is, by k_is, by k_is, by k_is⟩)
    (case a19 => k_is)
    (case f19 => exact ⟨⟨_, _, _, _, _, _, _, _, _, _, _, _, _, by k_is⟩, by k_is, by k_is, by k_is, by k_is, by k_is, by k_is, by k_is, by k_is⟩)
    (case a20 => k_is)
    (case f20 => exact ⟨⟨_, _, _, _, _, _, _, _, _, _, _, _, _, by k_is⟩, by k_is, by k_is, by k_is, by k_is, by k_is, by k_is, by k_is, by k_is⟩)
    (case a21 => k_is)
    (case f21 => exact ⟨⟨_, _, _, _, _, _, _, _, _, _, _, _, _, by k_is⟩, by k_is, by k_is, by k_is, by k_is, by k_is, by k_is, by k_is, by k_is⟩)
    (case a22 => k_is)
    (case f22 => exact ⟨⟨_, _, _, _, _, _, _, _, _, _, _, _, _, by k_is⟩, by k_is, by k_is, by k_is, by k_is, by k_is, by k_is, by k_is, by k_is⟩)
    (case a23 => k_is)
    (case f23 => exact ⟨⟨_, _, _, _, _, _, _, _, _, _, _, _, _, by k_is⟩, by k_is, by k_is, by k_is, by k_is, by k_is, by k_is, by k_is, by k_is⟩)
    (case a24 => k_is)
    (case f24 => exact ⟨⟨_, _, _, _, _, _, _, _, _, _, _, _, _, by k_is⟩, by k_is, by k_is, by k_is, by k_is, by k_is, by k_is, by k_is, by k_is⟩)
    (case a25 => k_is)
    (case f25 => exact ⟨⟨_, _, _, _, _, _, _, _, _, _, _, _, _, by k_is⟩, by k_is, by k_is, by k_is, by k_is, by k_is, by k_is, by k_is, by k_is⟩)
    (case a26 => k_is)
    (case f26 => exact ⟨⟨_, _, _, _, _, _, _, _, _, _, _, _, _, by k_is⟩, by k_is, by k_is, by k_is, by k_is, by k_is, by k_is, by k_is, by k_is⟩)
    (case a27 => k_is)
    (case f27 => exact ⟨⟨_, _, _, _, _, _, _, _, _, _, _, _, _, by k_is⟩, by k_is, by k_is, by k_is, by k_is, by k_is, by k_is, by k_is, by k_is⟩)
    (case a28 => k_is)
    (case f28 => exact ⟨⟨_, _, _, _, _, _, _, _, _, _, _, _, _, by k_is⟩, by k_is, by k_is, by k_is, by k_is, by k_is, by k_is, by k_is, by k_is⟩)
    (case a29 => k_is)
    (case f29 => exact ⟨⟨_, _, _, _, _, _, _, _, _, _, _, _, _, by k_is⟩, by k_is, by k_is, by k_is, by k_is, by k_is, by k_is, by k_is, by k_is⟩)
    (case a30 => k_is)
    (case f30 => exact ⟨⟨_, _, _, _, _, _, _, _, _, _, _, _, _, by k_is⟩, by k_is, by k_is, by k_is, by k_is, by k_is, by k_is, by k_is, by k_is⟩)
    (case a31 => k_is)
    (case f31 => exact ⟨⟨_, _, _, _, _, _, _, _, _, _, _, _, _, by k_is⟩, by k_is, by k_is, by k_is, by k_is, by k_is, by k_is, by k_is, by k_is⟩)
    (case a32 => k_is)
    (case f32 => exact ⟨⟨_, _, _, _, _, _, _, _, _, _, _, _, _, by k_is⟩, by k_is, by k_is, by k_is, by k_is, by k_is, by k_is, by k_is, by k_is⟩)
    (case a33 => k_is)
    (case f33 => exact ⟨⟨_, _, _, _, _, _, _, _, _, _, _, _, _, by k_is⟩, by k_is, by k_is, by k_is, by k_is, by k_is, by k_is, by k_is, by k_is⟩)
    (case a34 => k_is)
    (case f34 => exact ⟨⟨_, _, _, _, _, _, _, _, _, _, _, _, _, by k_is⟩, by k_is, by k_is, by k_is, by k_is, by k_is, by k_is, by k_is, by k_is⟩)
    (case aC => k_is)
    (case lC => k_is)
    (case ccC => k_is)
    (case kkC => k_is)
    (case aSt => k_is)
    (case lSt => k_is)
    (case ccSt => k_is)
    (case kkSt => k_is)
    (case aT => k_is)
    (case lT => k_is)
    (case ccT => k_is)
    (case kkT => k_is)
    (case aO => k_is)
    (case lO => k_is)
    (case ccO => k_is)
    (case kkO => k_is)
    (case aSr => k_is)
    (case lSr => k_is)
    (case ccSr => k_is)
    (case kkSr => k_is)
    (case aP => k_is)
    (case lP => k_is)
    (case ccP => k_is)
    (case kkP => k_is)
    (case aN => k_is)
    (case lN => k_is)
    (case ccN => k_is)
    (case kkN => k_is)
    (case aEm => k_is)
    (case lEm => k_is)
    (case ccEm => k_is)
    (case kkEm => k_is)
    (case aM => k_is)
    (case lM => k_is)
    (case ccM => k_is)
    (case kkM => k_is)
    (case aI => k_is)
    (case lI => k_is)
    (case ccI => k_is)
    (case kkI => k_is)
    (case aW => k_is)
    (case lW => k_is)
    (case ccW => k_is)
    (case kkW => k_is)
