import PyProof.Rows.All
import Wide.All
import OpenK.AllK
import Wide.FinOn
import PyProof.ReprRoads
import HandS.ForMost
import HandS.ForExc
import HandS.IsInst
import HandS.Gcd
import HandS.Defaults
import HandS.MakeKw
import HandS.MakeKwOnly
import HandS.ExcInit
import HandS.ExcField
import HandS.Wide
import HandS.TupLe
import PySem.Challenge.RW_neverowing_k02_shares_are_fractions
set_option linter.all false
set_option maxRecDepth 100000
set_option maxHeartbeats 8000000
set_option exponentiation.threshold 20000
set_option Elab.async false
/-! Nv: what the laws of this program share. Part A: promises that know that no repr is under way; repr of plain data. -/
namespace Nv
open PySem PySem.Spec PyProof.Rows L2

/-! ### a promise kept where no repr is under way -/
structure FnG (P : Program) (w : World) (K : PySem.W.Frag) (mg : Str → Option Value) (base : Heap)
    (CX : CXT) (k : Nat) (f : Addr) (fd : FuncData) (ps : List Str) (sp : Sp) : Prop where
  len : ∀ vs H Q E, sp vs H Q E → vs.length = ps.length
  run : ∀ (A : Around) (outer : List Env) (s : Shared) (H : Hp) (args : Args) (us : List Value) (vs : List V)
    (Q : VK) (E : XK), Room k A → A.guards = some [] → Env0 P w K mg base A outer s H →
    BindsTo s fd args (ps.zip us) → Vals vs us → sp vs H Q E →
    codeAny (model P w) A (.call (.ref f) args) (CR CX outer P w H s Q E) s

section
variable {P : Program} {w : World} {K : PySem.W.Frag} {mg : Str → Option Value} {base : Heap} {CX : CXT}
  {k : Nat} {f : Addr} {fd : FuncData} {ps : List Str} {sp : Sp}

theorem FnG.of (F : FnOk P w K mg base CX k f fd ps sp) : FnG P w K mg base CX k f fd ps sp :=
  ⟨F.len, fun A o s H a us vs Q E r _ => F.run A o s H a us vs Q E r⟩

theorem FnG.mk_of {N : List Str} {x qual : Str} {st : Stmt} (F : Fun K x qual st f fd)
    (S : FnScope N ps (defScope st)) (len : ∀ vs H Q E, sp vs H Q E → vs.length = ps.length)
    (body : ∀ (cdv : Value) (A : Around) (outer : List Env) (s : Shared) (H : Hp) (vs : List V) (Q : VK) (E : XK),
      A.guards = some [] → Room k (A.deeper (envOfC qual (defScope st) s.heap.objs.size f cdv)) → sp vs H Q E →
      ∃ t, PSs (cxOf CX P w K mg base N qual (defScope st) f cdv A outer s H E) (defBody st) t ∧
        t { nx := fun _ H' => Q .non H', rt := Q } (start N vs) H) :
    FnG P w K mg base CX (k + 1) f fd ps sp := by
  obtain ⟨oc, od, kV, doc, pm, an, cdv, ct, osl, rfl, lk, hcd⟩ := F.ex
  refine ⟨len, fun A outer s H args us vs Q E room gd en bi rv q => ?_⟩
  have inS : K.In s.heap := en.mod.kin.keeps fun b o z => (en.bs b o z).1
  have noL : s.heap.NoLimit := en.mod.nolimit.keeps fun b o z => (en.bs b o z).1
  refine codeAny_call_function room.depth (inS _ _ lk) rfl S.co S.gen rfl (PySem.W.codeRec_of inS hcd) (bi _ _ _ _ ?_)
  refine wpAny_newFunctionEnv_cells S.kind (fun y hy => ?_) fun env he s1 ic => ?_
  · obtain ⟨n, v⟩ := y
    have mem := (List.of_mem_zip hy).1
    cases S.par n mem with
    | inl z => exact Or.inl z
    | inr z => exact Or.inr ⟨z, PySem.W.cellsFrom_some _ _ _ (Or.inl z)⟩
  · subst he
    refine ⟨noL.keeps ic.toInCall.keep, codeAny_func ?_⟩
    obtain ⟨t, ht, hq⟩ := body cdv A outer s H vs Q E gd (room.deeper _) q
    have J := inv_start (CX := CX) (E := E) S room.hd en (len _ _ _ _ q) rv ic
    have close : ∀ {σ' : L2.St} {H' : Hp} {v : V} {u : Value} {s' : Shared},
        Inv (cxOf CX P w K mg base N qual (defScope st) f cdv A outer s H E) [] σ' H' s' → RelV v u → Q v H' →
        CE outer P w H s Q u s' := fun I rel z => ⟨_, _, I.os, I.bare, I.base, I.hok, rel, z⟩
    refine wpAny_mono (ht.run [] s1 (start N vs) H _ J hq) (fun fl s' z => ?_) fun _ _ z => z
    cases fl with
    | ret u =>
      obtain ⟨v, σ', H', I, rel, z⟩ := z
      exact close I rel z
    | next =>
      obtain ⟨σ', H', I, z⟩ := z
      exact close (v := V.non) (u := Value.none) I rfl z
    | brk => exact False.elim z.choose_spec.choose_spec.2
    | cont => exact False.elim z.choose_spec.choose_spec.2
end

section
variable {X : Cx} {CX : CXT} {k : Nat} {f : Addr} {fd : FuncData} {ps : List Str} {sp : Sp} {dvs : List V}
  {ds : List Value} {E : XK} {x : Str} {p pos : Pos} {e : Expr} {es : List Expr} {t : TA}
/-- f(e, ..) of such a promise -/
theorem pe_callG (F : FnG X.prog X.w X.K X.mg X.base CX k f fd ps sp) (hr : Room k X.A) (gd : X.A.guards = some [])
    (hg : Gl X x) (hm : X.mg x = some (.ref f)) (hk : PySem.W.keepIn X.K (.ref f) = true)
    (hb : Binds X.K fd ps ds) (hd : Vals dvs ds) (hx : Passes CX X E) (ha : PA X (e :: es) t)
    (hdb : (x == ("__debug__" : Str)) = false := by decide)
    (he : starEach (e :: es) X.env = (false, eval e X.env) :: starEach es X.env := by rfl)
    (hpl : (backTo pos (starEach es X.env)).any (·.1) = false := by rfl) :
    PE X (.Call (.Name x p) (e :: es) [] pos) (tCall sp dvs E t) := by
  refine ⟨fun pins s σ H Q I h => wpAny_Call_Name_kw (ld_glob I hg hm ?_ hdb)⟩
  refine PySem.W.callWith_K (h₀ := X.base) I.ok.mod.kin hk
    (thn (ha.run pos pins s σ H _ I h) fun us s1 ⟨vs, H1, I1, r, q⟩ => ⟨I1.kIn, ?_⟩) he hpl
  have r2 : Vals (vs ++ dvs) (us ++ ds) := r.append hd
  have hl : (us ++ ds).length = ps.length := r2.length.symm.trans (F.len _ _ _ _ q)
  refine wpAny_call (codeAny_mono (F.run X.A X.stack s1 H1 ⟨us, []⟩ (us ++ ds) _ Q E hr gd I1.env0
    (hb s1 us I1.kIn hl) r2 q) fun r s' z => ?_)
  match r, z with
  | .error e, z => exact hx pins σ H1 s1 e s' I1 z
  | .ok (.ret u), z => exact I1.after z
  | .ok .next, z => exact False.elim z
  | .ok .brk, z => exact False.elim z
  | .ok .cont, z => exact False.elim z
end

/-! ### the law's own end, of such a promise; the address of sys.modules is taken -/
def Sys (K : PySem.W.Frag) (H : Hp) : Prop :=
  (∃ o, K.lookup sysModules = some o) ∨ ∃ o u, H sysModules = some (.frz o u)
theorem Sys.same {K : PySem.W.Frag} {H H' : Hp} (z : Sys K H) (k : Same H H') : Sys K H' := by
  rcases z with z | ⟨o, u, z⟩
  · exact Or.inl z
  · exact Or.inr ⟨o, u, k _ _ z⟩
theorem Sys.ne {X : Cx} {pins : List (Addr × Obj)} {σ : L2.St} {H : Hp} {s : Shared} (I : Inv X pins σ H s) (z : Sys X.K H)
    {a : Addr} {u : HO} (h : H a = some u) (nf : ∀ o v, u ≠ .frz o v) : a ≠ sysModules := fun e => by
  subst e
  rcases z with ⟨o, z⟩ | ⟨o, v, z⟩
  · have b := I.ok.mod.kin _ _ z
    rw [(I.bs _ _ b).2] at h
    exact nomatch h
  · rw [z] at h
    exact nf _ _ (Option.some.inj h).symm

theorem law_end {P : Program} {w : World} {K : PySem.W.Frag} {mg mb : Str → Option Value} {k : Nat} {fa a : Addr}
    {fd : FuncData} {x : Str} {sp : Sp} {s₁ : Shared} {vs : List Value} {ns : List Int}
    (KX : K.In s₁.heap) (hns : s₁.heap.Ns mainGlobals mg) (hb : s₁.heap.Ns builtinsNs mb)
    (hbb : ∀ x : Str, x ≠ "__name__" → mb x = bootBuiltins x) (hlim : s₁.heap.NoLimit) (hg : s₁.gens = #[])
    (ha : s₁.heap.get? a = some { cls := .type "list", data := .seq vs.toArray }) (hi : IntsAre vs ns)
    (hl : ns.length ≤ sizeLine) (hr : Room k callerA) (hsm : ∃ o, s₁.heap.get? sysModules = some o)
    (F : ∀ base : Heap, K.In base → base.Ns mainGlobals mg → FnG P w K mg base CX0 k fa fd [x] sp)
    (hbind : ∀ (s : Shared) (u : Value), BindsTo s fd ⟨[u], []⟩ [(x, u)])
    (hsp : ∀ H : Hp, Sys K H → SqL K H a (ns.map V.int) → sp [.ref a] H (fun v _ => v = .bl true) fun _ _ _ => False) :
    codeAny (model P w) callerA (.call (.ref fa) ⟨[.ref a], []⟩)
      (fun r s' => r = .ok (.ret (.bool true)) ∧ OldK s₁.heap s'.heap ∧ s'.os = s₁.os ∧ AllBare s'.gens) s₁ := by
  have rel := vals_ints hi
  have main : ∀ H : Hp, (∀ b, H b = none ∨ ∃ o u, H b = some (.frz o u)) → Sys K H → SqL K H a (ns.map V.int) →
      HOk P w H s₁.heap → (∀ b, H b ≠ none → b = a ∨ b = sysModules) → (∀ b, H b ≠ none → K.lookup b = none) →
      codeAny (model P w) callerA (.call (.ref fa) ⟨[.ref a], []⟩)
        (fun r s' => r = .ok (.ret (.bool true)) ∧ OldK s₁.heap s'.heap ∧ s'.os = s₁.os ∧ AllBare s'.gens) s₁ := by
    intro H only sys sq ok at1 noK
    have none_if : ∀ {b : Addr}, ¬ b = a → ¬ b = sysModules → H b = none := fun {b} h h' => by
      cases q : H b with
      | none => rfl
      | some u =>
        rcases at1 b (by rw [q]; exact fun z => nomatch z) with z | z
        · exact absurd z h
        · exact absurd z h'
    have down : ∀ {b : Addr} {o : Obj}, s₁.heap.get? b = some o → H b = none → (hidT s₁.heap H).get? b = some o :=
      fun z n => hidT_get z n
    have nsDown : ∀ {b : Addr} {m : Str → Option Value}, b ≠ sysModules → s₁.heap.Ns b m → (hidT s₁.heap H).Ns b m := fun {b m} ne z => by
      obtain ⟨o, es, ep, z1, z2, z3⟩ := z
      refine ⟨o, es, ep, down z1 (none_if (fun h => ?_) ne), z2, z3⟩
      subst h
      rw [ha] at z1
      obtain rfl := Option.some.inj z1
      exact absurd (show Data.seq vs.toArray _ = Data.dict es ep from z2) (fun q => nomatch q)
    have kinB : K.In (hidT s₁.heap H) := fun b o z => down (KX b o z) (by
      cases q : H b with
      | none => rfl
      | some u =>
        have y := noK b (by rw [q]; exact fun y => nomatch y)
        rw [y] at z
        exact absurd z (fun y => nomatch y))
    have md : Mod K mg (hidT s₁.heap H) :=
      ⟨kinB, nsDown (by decide) hns, ⟨mb, nsDown (by decide) hb, hbb⟩, by obtain ⟨mc, z1, z2⟩ := hlim; exact ⟨mc, nsDown (by decide) z1, z2⟩⟩
    have en : Env0 P w K mg (hidT s₁.heap H) callerA [] s₁ H :=
      ⟨rfl, md, fun b o z => of_hidT z, Nat.le_of_eq (hidT_size _ _), trivial,
        fun b z => absurd (show b ∈ ([] : List Addr) from z) (by simp), ok, .of_eq hg⟩
    refine codeAny_mono ((F _ kinB (nsDown (by decide) hns)).run callerA [] s₁ H ⟨[.ref a], []⟩ [.ref a] [.ref a] _ _ hr rfl en
      (hbind s₁ (.ref a)) (.cons rfl .nil) (hsp H sys sq)) fun r s' z => ?_
    match r, z with
    | .error _, z => exact False.elim z
    | .ok .next, z => exact False.elim z
    | .ok .brk, z => exact False.elim z
    | .ok .cont, z => exact False.elim z
    | .ok (.ret u), z =>
      obtain ⟨v, H', os, bare, un, ok', rv, q⟩ := z
      have q' : v = .bl true := q
      subst q'
      have hu : u = Value.bool true := rv
      subst hu
      refine ⟨rfl, OldK.of_keep fun b o z => ?_, os, bare⟩
      rcases only b with n | ⟨ob, xs, n⟩
      · exact un.keep b o z n (fun y => absurd (show b ∈ ([] : List Addr) from y) (by simp)) (by simp)
      · have y1 : s₁.heap.get? b = some ob := (ok b _ n).1
        have y2 : s'.heap.get? b = some ob := (ok' b _ (un.frzs b ob _ n)).1
        rw [z] at y1
        rw [y2, Option.some.inj y1]
  -- what stands at sys.modules' address
  obtain ⟨om, hom⟩ := hsm
  let fz : HO := .frz om (.ext fun h => h.get? sysModules = some om)
  have fzOk : ∀ H : Hp, ObjOk P w H s₁.heap sysModules fz := fun H =>
    ⟨hom, hom, ⟨om, hom⟩, fun h1 h2 z k => k _ z⟩
  let sz : HO := .frz { cls := .type "list", data := .seq vs.toArray } (.lst (ns.map V.int))
  have szOk : ∀ H : Hp, ObjOk P w H s₁.heap a sz := fun H =>
    ⟨ha, by rw [List.length_map]; exact hl, vs, _, rel, ha⟩
  let H : Hp := fun b => if b = a ∧ K.lookup a = none then some sz else if b = sysModules ∧ K.lookup sysModules = none then some fz else none
  have cs : ∀ b, (b = a ∧ K.lookup a = none ∧ H b = some sz) ∨ (b = sysModules ∧ K.lookup sysModules = none ∧ H b = some fz) ∨ H b = none := fun b => by
    by_cases h1 : b = a ∧ K.lookup a = none
    · exact Or.inl ⟨h1.1, h1.2, if_pos h1⟩
    · by_cases h2 : b = sysModules ∧ K.lookup sysModules = none
      · exact Or.inr (Or.inl ⟨h2.1, h2.2, (if_neg h1).trans (if_pos h2)⟩)
      · exact Or.inr (Or.inr ((if_neg h1).trans (if_neg h2)))
  refine main H (fun b => ?_) ?_ ?_ (fun b u z => ?_) (fun b z => ?_) (fun b z => ?_)
  · rcases cs b with ⟨_, _, h⟩ | ⟨_, _, h⟩ | h
    · exact Or.inr ⟨_, _, h⟩
    · exact Or.inr ⟨_, _, h⟩
    · exact Or.inl h
  · cases q : K.lookup sysModules with
    | some o => exact Or.inl ⟨o, q⟩
    | none =>
      rcases cs sysModules with ⟨_, _, h⟩ | ⟨_, _, h⟩ | h
      · exact Or.inr ⟨_, _, h⟩
      · exact Or.inr ⟨_, _, h⟩
      · exfalso
        by_cases h1 : sysModules = a ∧ K.lookup a = none
        · rw [show H sysModules = some sz from if_pos h1] at h
          exact nomatch h
        · rw [show H sysModules = some fz from (if_neg h1).trans (if_pos ⟨rfl, q⟩)] at h
          exact nomatch h
  · cases q : K.lookup a with
    | some o =>
      have z := KX a o q
      rw [ha] at z
      obtain rfl := Option.some.inj z
      exact Or.inr ⟨_, vs.toArray, _, q, rfl, rfl, rfl, by rw [List.size_toArray, hi.length]; exact hl, by simpa using rel⟩
    | none => exact Or.inl (Or.inr ⟨{ cls := .type "list", data := .seq vs.toArray }, if_pos ⟨rfl, q⟩⟩)
  · rcases cs b with ⟨e, _, h⟩ | ⟨e, _, h⟩ | h
    · rw [z] at h
      obtain rfl := Option.some.inj h
      rw [e]
      exact szOk H
    · rw [z] at h
      obtain rfl := Option.some.inj h
      rw [e]
      exact fzOk H
    · rw [z] at h
      exact nomatch h
  · rcases cs b with ⟨e, _, h⟩ | ⟨e, _, h⟩ | h
    · exact Or.inl e
    · exact Or.inr e
    · exact absurd h z
  · rcases cs b with ⟨e, l, h⟩ | ⟨e, l, h⟩ | h
    · rw [e]; exact l
    · rw [e]; exact l
    · exact absurd h z

theorem law_walk {l : PySem.W.OpenLaw} {n k : Nat} {q : Program} {loose : List Str} {XP : (Str → Option Value) → Heap → Prop}
    {YP : World → Heap → Prop} {d : DefRec} {K : Params → PySem.W.Frag} {sp : World → Sp} {x : Str}
    (hn : l.most = some n) (hn2 : n ≤ sizeLine) (hdf : d.params.defaults = []) (hr : Room k callerA)
    (him : importsNone q = true)
    (hY : ∀ (w : World) (h : Heap), YP w h → (K w.params).In h)
    (F : ∀ (w : World) (mg : Str → Option Value) (fa : Addr) (h : Heap), (K w.params).In h → h.Ns mainGlobals mg →
      mg d.name = some (.ref fa) → ∃ fd : FuncData, (∀ (s : Shared) (u : Value), BindsTo s fd ⟨[u], []⟩ [(x, u)]) ∧
        ∀ base : Heap, (K w.params).In base → base.Ns mainGlobals mg → FnG l.prog w (K w.params) mg base CX0 k fa fd [x] (sp w))
    (hsp : ∀ (w : World) (H : Hp) (a : Addr) (ns : List Int), ns.length ≤ n → Sys (K w.params) H → SqL (K w.params) H a (ns.map V.int) →
      sp w [.ref a] H (fun v _ => v = .bl true) fun _ _ _ => False) :
    PySem.W.WalkO q loose XP YP l.row.toRowW d [] (fun f vs => PySem.call f vs) := by
  refine Att.attach_call hn hdf fun w s₀ s₁ mg mb fa o pm cd doc a vs ns G Y ho hd hcd hmg hobj hints hlen hg => ?_
  have inK := hY w _ Y
  obtain ⟨fd, bi, run⟩ := F w mg fa _ inK G.T.g hmg
  have hsm : ∃ o, s₁.heap.get? sysModules = some o := by
    obtain ⟨mm, ⟨o, _, _, z, _⟩, _⟩ := (G.T.seer him).mods
    exact ⟨o, z⟩
  exact law_end inK G.T.g G.T.b G.T.builtins G.T.nolimit hg hobj hints (Nat.le_trans hlen hn2) hr hsm run bi
    fun H h1 h2 => hsp w H a ns hlen h1 h2
end Nv
/-! Nv, part B: data with dicts in it, and what repr says of it. -/
namespace Nv
open PySem PySem.Spec PyProof.Rows L2

def keyD : Key → PyData
  | .inl i => .int i
  | .inr x => .str x

mutual
inductive Dq (H : Hp) : V → PyData → Prop
  | non : Dq H .non .none
  | bl (b : Bool) : Dq H (.bl b) (.bool b)
  | int (i : Int) : Dq H (.int i) (.int i)
  | str (x : Str) : Dq H (.str x) (.str x)
  | lst {a : Addr} {xs : List V} {ds : List PyData} : H a = some (.lst xs) → DqAll H xs ds → Dq H (.ref a) (.list ds)
  | tup {a : Addr} {xs : List V} {ds : List PyData} : H a = some (.tup xs) → DqAll H xs ds → Dq H (.ref a) (.tuple ds)
  | dic {a : Addr} {kvs : List (Key × V)} {ds : List PyData} : H a = some (.dK kvs) → DqAll H (kvs.map (·.2)) ds →
      Dq H (.ref a) (.dict ((kvs.map fun p => keyD p.1).zip ds))
inductive DqAll (H : Hp) : List V → List PyData → Prop
  | nil : DqAll H [] []
  | cons {v : V} {vs : List V} {d : PyData} {ds : List PyData} : Dq H v d → DqAll H vs ds → DqAll H (v :: vs) (d :: ds)
end

mutual
theorem Dq.same {H H' : Hp} (k : Same H H') : ∀ {v : V} {d : PyData}, Dq H v d → Dq H' v d
  | _, _, .non => .non
  | _, _, .bl b => .bl b
  | _, _, .int i => .int i
  | _, _, .str x => .str x
  | _, _, .lst h t => .lst (k _ _ h) (DqAll.same k t)
  | _, _, .tup h t => .tup (k _ _ h) (DqAll.same k t)
  | _, _, .dic h t => .dic (k _ _ h) (DqAll.same k t)
theorem DqAll.same {H H' : Hp} (k : Same H H') : ∀ {vs : List V} {ds : List PyData}, DqAll H vs ds → DqAll H' vs ds
  | _, _, .nil => .nil
  | _, _, .cons a b => .cons (Dq.same k a) (DqAll.same k b)
end

theorem reads_keys {P : Program} {w : World} {h : Heap} : ∀ {es : List DictEntry} {vs : List (Key × Value)},
    Pairs (mixKind P w) es vs → ReadsAll h (es.map (·.key)) (vs.map fun p => keyD p.1) []
  | _, _, .nil => .nil
  | _, _, .cons (e := e) (kv := kv) h1 h2 t => by
    have tl := reads_keys (h := h) t
    have h1' : keyIs kv.1 e.key = true := h1
    rcases keyIs_shape h1' with ⟨i, tk, z1, z2⟩ | ⟨x, tk, z1, z2⟩
    · have hd : Reads h e.key (keyD kv.1) [] := by rw [z1, z2]; exact .int i tk
      exact ReadsAll.cons hd tl
    · have hd : Reads h e.key (keyD kv.1) [] := by rw [z1, z2]; exact .str x tk
      exact ReadsAll.cons hd tl
theorem pairs_vals {P : Program} {w : World} : ∀ {es : List DictEntry} {vs : List (Key × Value)},
    Pairs (mixKind P w) es vs → es.map (·.val) = vs.map (·.2)
  | _, _, .nil => rfl
  | _, _, .cons h1 h2 t => by
    rw [List.map_cons, List.map_cons, h2, pairs_vals t]
theorem kv_keys : ∀ {kvs : List (Key × V)} {vs : List (Key × Value)}, KV kvs vs →
    (kvs.map fun p => keyD p.1) = vs.map fun p => keyD p.1
  | _, _, .nil => rfl
  | _, _, .cons h t => by
    rw [List.map_cons, List.map_cons, kv_keys t, h.1]
theorem kv_vals : ∀ {kvs : List (Key × V)} {vs : List (Key × Value)}, KV kvs vs → Vals (kvs.map (·.2)) (vs.map (·.2))
  | _, _, .nil => .nil
  | _, _, .cons h t => .cons h.2 (kv_vals t)
theorem dqAll_len {H : Hp} : ∀ {vs : List V} {ds : List PyData}, DqAll H vs ds → vs.length = ds.length
  | _, _, .nil => rfl
  | _, _, .cons _ t => congrArg Nat.succ (dqAll_len t)
theorem map_fst_zip {α β : Type} : ∀ (xs : List α) (ys : List β), xs.length = ys.length → (xs.zip ys).map (·.1) = xs
  | [], [], _ => rfl
  | x :: xs, y :: ys, h => by
    rw [List.zip_cons_cons, List.map_cons, map_fst_zip xs ys (Nat.succ.inj h)]
theorem map_snd_zip {α β : Type} : ∀ (xs : List α) (ys : List β), xs.length = ys.length → (xs.zip ys).map (·.2) = ys
  | [], [], _ => rfl
  | x :: xs, y :: ys, h => by
    rw [List.zip_cons_cons, List.map_cons, map_snd_zip xs ys (Nat.succ.inj h)]

section
variable {X : Cx} {pins : List (Addr × Obj)} {σ : L2.St} {H : Hp} {s : Shared}
mutual
theorem Dq.reads (I : Inv X pins σ H s) (h1 : Sys X.K H) : ∀ {v : V} {d : PyData} {u : Value}, Dq H v d → RelV v u →
    ∃ as, Reads s.heap u d as ∧ sysModules ∉ as
  | _, _, _, .non, r => by
    cases r
    exact ⟨_, .none, by simp⟩
  | _, _, _, .bl b, r => by
    cases r
    exact ⟨_, .bool b, by simp⟩
  | _, _, _, .int i, r => by
    obtain ⟨t, rfl⟩ := r
    exact ⟨_, .int i t, by simp⟩
  | _, _, _, .str x, r => by
    obtain ⟨t, rfl⟩ := r
    exact ⟨_, .str x t, by simp⟩
  | _, _, _, .lst (a := a) hs ha, r => by
    cases r
    obtain ⟨_, its, n, rv, ho⟩ : _ ∧ _ := I.hok a _ hs
    obtain ⟨as, hr, na⟩ := DqAll.reads I h1 ha rv
    have ne : a ≠ sysModules := h1.ne I hs (fun _ _ z => nomatch z)
    refine ⟨_, Reads.list ho rfl rfl hr, fun z => ?_⟩
    rcases List.mem_cons.mp z with z | z
    · exact ne z.symm
    · exact na z
  | _, _, _, .tup (a := a) hs ha, r => by
    cases r
    obtain ⟨_, its, rv, o, ho, hc, n, hd⟩ : _ ∧ _ := I.hok a _ hs
    obtain ⟨as, hr, na⟩ := DqAll.reads I h1 ha rv
    exact ⟨_, Reads.tuple ho hc hd hr, na⟩
  | _, _, _, .dic (a := a) (kvs := kvs) (ds := ds) hs ha, r => by
    cases r
    obtain ⟨_, _, vs, rel, o, es, ep, ho, ex, hd, _, pr, _⟩ : _ ∧ _ := I.hok a _ hs
    obtain ⟨bs, hr, nb⟩ := DqAll.reads I h1 ha (kv_vals rel)
    have ne : a ≠ sysModules := h1.ne I hs (fun _ _ z => nomatch z)
    have ll : (kvs.map fun p => keyD p.1).length = ds.length := by
      rw [List.length_map, ← dqAll_len ha, List.length_map]
    have k1 : ReadsAll s.heap (es.toList.map (·.key)) (((kvs.map fun p => keyD p.1).zip ds).map (·.1)) [] := by
      rw [map_fst_zip _ _ ll, kv_keys rel]
      exact reads_keys pr
    have k2 : ReadsAll s.heap (es.toList.map (·.val)) (((kvs.map fun p => keyD p.1).zip ds).map (·.2)) bs := by
      rw [map_snd_zip _ _ ll, pairs_vals pr]
      exact hr
    refine ⟨_, Reads.dict ho ex.1 hd k1 k2, fun z => ?_⟩
    rcases List.mem_cons.mp z with z | z
    · exact ne z.symm
    · exact nb z
theorem DqAll.reads (I : Inv X pins σ H s) (h1 : Sys X.K H) : ∀ {vs : List V} {ds : List PyData} {us : List Value},
    DqAll H vs ds → Vals vs us → ∃ as, ReadsAll s.heap us ds as ∧ sysModules ∉ as
  | _, _, _, .nil, r => by
    cases r
    exact ⟨_, .nil, by simp⟩
  | _, _, _, .cons a b, r => by
    cases r with
    | cons r1 r2 =>
      obtain ⟨as, q1, n1⟩ := Dq.reads I h1 a r1
      obtain ⟨bs, q2, n2⟩ := DqAll.reads I h1 b r2
      exact ⟨_, .cons q1 q2, fun z => by
        rcases List.mem_append.mp z with z | z
        · exact n1 z
        · exact n2 z⟩
end
end

/-- repr(v), v a list, a tuple or a dict of plain data -/
def rRepr (K : PySem.W.Frag) : List V → Hp → VK → Prop := fun vs H Q => ∃ (a : Addr) (d : PyData), vs = [.ref a] ∧ Sys K H ∧ Dq H (.ref a) d ∧
  d.showable = true ∧ d.depth ≤ 30 ∧ d.shown.length ≤ sizeLine ∧ Q (.str d.shown) H
theorem call_reprD {X : Cx} {k : Nat} (hr : Room k X.A) (gd : X.A.guards = some []) : CallR X (.builtin "repr") (rRepr X.K) := by
  intro pins s σ H vs us Q I r h
  obtain ⟨a, d, rfl, h1, dq, sh, dp, sz, q⟩ := h
  obtain ⟨u, rfl, ru⟩ := vals1 r
  cases ru
  obtain ⟨as, rd, na⟩ := Dq.reads I h1 dq rfl
  have un := hr.un
  exact repr_of_reads' rd sh (fun _ => na) gd (by omega) (fun _ _ z => z) (fun h' u tk kp => ⟨.str d.shown, H, I.kept kp, ⟨u, rfl⟩, q⟩) sz
end Nv
/-! Nv, part C: instances made where what is raised is wished for at the slots; errors with a what; kinds. -/
namespace Nv
open PySem PySem.Spec PyProof.Rows L2

section
variable {X : Cx} {CX : CXT} {k n : Nat} {f C : Addr} {fd : FuncData} {ps ks : List Str} {sp : Sp} {E : L2.St → XK} {x : Str}
  {p pos : Pos} {e : Expr} {es : List Expr} {kws : List Keyword} {t tk : TA} {g : List Value → List Value → List Value}
  {gV : List V → List V → List V}
/-- C(e, .., k = v, ..); what is raised is wished for at the slots -/
def tMkS (C : Addr) (n m : Nat) (sp : Sp) (gV : List V → List V → List V) (E : L2.St → XK) (t tk : TA) : TE := fun σ H Q =>
  t σ H fun vs H1 => tk σ H1 fun zs H2 => vs.length = n ∧ zs.length = m ∧ ∀ x dx, H2 x = none → H2 dx = none → dx ≠ x →
    sp (gV (.ref x :: vs) zs) (upd (upd H2 dx (.own x)) x (.ins C dx [])) (fun v H3 => v = .non ∧ Q (.ref x) H3) (E σ)
theorem run_mkS {pins : List (Addr × Obj)} {σ : L2.St} {H : Hp} {s : Shared} {Q : VK} {us ws : List Value} {vs zs : List V}
    (M : Mk X.K C f) (F : FnOk X.prog X.w X.K X.mg X.base CX k f fd ps sp) (hr : Room (k + 1) X.A)
    (hb : KBn X.K fd ps (n + 1) ks g gV) (hx : PassesAt CX X σ (E σ)) (I : Inv X pins σ H s) (r : Vals vs us) (rz : Vals zs ws)
    (l1 : vs.length = n) (l2 : zs.length = ks.length)
    (h : ∀ x dx, H x = none → H dx = none → dx ≠ x → sp (gV (.ref x :: vs) zs) (upd (upd H dx (.own x)) x (.ins C dx []))
      (fun v H2 => v = .non ∧ Q (.ref x) H2) (E σ)) :
    wpAny (model X.prog X.w) X.A (call (.ref C) us (ks.zip ws)) (EP X pins σ Q) X.xe s := by
  have big := h (s.heap.objs.size + 1) s.heap.objs.size (I.hok.fresh (Nat.le_succ _)) (I.hok.fresh (Nat.le_refl _))
    (Nat.ne_of_lt (Nat.lt_succ_self _))
  have J := Inv.made (C := C) I
  have q1 : Vals (V.ref (s.heap.objs.size + 1) :: vs) (Value.ref (s.heap.objs.size + 1) :: us) := .cons rfl r
  have n1 : (Value.ref (s.heap.objs.size + 1) :: us).length = n + 1 := q1.length.symm.trans (congrArg Nat.succ l1)
  have n2 : ws.length = ks.length := rz.length.symm.trans l2
  refine wpAny_call (make_map (f := f) I.kIn M.makes M.init (beq_iff_eq.mp M.fn) (codeAny_mono
    (F.run _ X.stack _ _ ⟨Value.ref (s.heap.objs.size + 1) :: us, ks.zip ws⟩ (g (Value.ref (s.heap.objs.size + 1) :: us) ws) _ _ (E σ)
      (hr.make C us (ks.zip ws)) (J.env0.make C us (ks.zip ws)) (hb.to _ (Value.ref (s.heap.objs.size + 1) :: us) ws J.kIn n1 n2)
      (hb.rel q1 rz) big) fun r s' z => ?_))
  match r, z with
  | .error e, z => exact hx pins _ _ e s' J z
  | .ok .next, z => exact False.elim z
  | .ok .brk, z => exact False.elim z
  | .ok .cont, z => exact False.elim z
  | .ok (.ret u), z =>
    obtain ⟨v, H', I3, rv, ev, q3⟩ := J.after z
    subst ev
    exact ⟨rv, ⟨V.ref (s.heap.objs.size + 1), H', I3, rfl, q3⟩⟩
theorem pe_mkS (M : Mk X.K C f) (F : FnOk X.prog X.w X.K X.mg X.base CX k f fd ps sp) (hr : Room (k + 1) X.A) (hg : Gl X x)
    (hm : X.mg x = some (.ref C)) (hb : KBn X.K fd ps (n + 1) ks g gV) (hx : ∀ σ, PassesAt CX X σ (E σ))
    (ha : PA X (e :: es) t) (hkw : PK X kws tk) (hall : (backToKw pos (keywordEach kws X.env)).all (·.1.isSome) = true := by rfl)
    (hks : (backToKw pos (keywordEach kws X.env)).filterMap (·.1) = ks := by rfl) (hdb : (x == ("__debug__" : Str)) = false := by decide)
    (he : starEach (e :: es) X.env = (false, eval e X.env) :: starEach es X.env := by rfl)
    (hpl : ((backTo pos (starEach (e :: es) X.env)).any (·.1) || (backToKw pos (keywordEach kws X.env)).any (·.1.isNone)) = false := by rfl) :
    PE X (.Call (.Name x p) (e :: es) kws pos) (tMkS C n ks.length sp gV E t tk) := by
  refine ⟨fun pins s σ H Q I h => wpAny_Call_Name_kw (ld_glob I hg hm ?_ hdb)⟩
  refine PySem.W.callWith_KW (h₀ := X.base) I.ok.mod.kin M.kp hall
    (thn (ha.run pos pins s σ H _ I h) fun us s1 ⟨vs, H1, I1, r, q⟩ => ?_) hpl he
  refine thn (hkw.run pos pins s1 σ H1 _ I1 q) fun ws s2 ⟨zs, H2, I2, rz, l1, l2, q2⟩ => ⟨I2.kIn, ?_⟩
  rw [hks]
  exact run_mkS M F hr hb (hx σ) I2 r rz l1 l2 q2
theorem pe_mkS0 (M : Mk X.K C f) (F : FnOk X.prog X.w X.K X.mg X.base CX k f fd ps sp) (hr : Room (k + 1) X.A) (hg : Gl X x)
    (hm : X.mg x = some (.ref C)) (hb : KBn X.K fd ps 1 ks g gV) (hx : ∀ σ, PassesAt CX X σ (E σ)) (hkw : PK X kws tk)
    (hall : (backToKw pos (keywordEach kws X.env)).all (·.1.isSome) = true := by rfl)
    (hks : (backToKw pos (keywordEach kws X.env)).filterMap (·.1) = ks := by rfl) (hdb : (x == ("__debug__" : Str)) = false := by decide)
    (hpl : ((backTo pos (starEach [] X.env)).any (·.1) || (backToKw pos (keywordEach kws X.env)).any (·.1.isNone)) = false := by rfl) :
    PE X (.Call (.Name x p) [] kws pos) (tMkS C 0 ks.length sp gV E tNil tk) := by
  refine ⟨fun pins s σ H Q I h => wpAny_Call_Name_kw (ld_glob I hg hm ?_ hdb)⟩
  refine PySem.W.callWith_KW0 (h₀ := X.base) I.ok.mod.kin M.kp hall ?_ hpl
  refine thn (hkw.run pos pins s σ H _ I h) fun ws s2 ⟨zs, H2, I2, rz, l1, l2, q2⟩ => ⟨I2.kIn, ?_⟩
  rw [hks]
  exact run_mkS (us := []) (vs := []) M F hr hb (hx σ) I2 .nil rz rfl l2 q2
end

/-! ### kinds -/
def isI : V → Bool
  | .int _ => true
  | _ => false
/-- what isinstance of int and of bool say of x: is it an integer and no flag -/
structure KdOf (K : PySem.W.Frag) (H : Hp) (x : V) : Prop where
  ex : ∃ (t : Value) (b1 b2 : Bool), TyX K H x t ∧ PySem.W.kitOne K t (.type "int") = some b1 ∧
    PySem.W.kitOne K t (.type "bool") = some b2 ∧ (b1 && !b2) = isI x
theorem kd_non {K : PySem.W.Frag} {H : Hp} : KdOf K H .non :=
  ⟨_, false, false, .base .non, kit_ty (by decide +kernel), kit_ty (by decide +kernel), rfl⟩
theorem kd_bl {K : PySem.W.Frag} {H : Hp} (b : Bool) : KdOf K H (.bl b) :=
  ⟨_, true, true, .base (.bl b), kit_ty (by decide +kernel), kit_ty (by decide +kernel), rfl⟩
theorem kd_int {K : PySem.W.Frag} {H : Hp} (i : Int) : KdOf K H (.int i) :=
  ⟨_, true, false, .base (.int i), kit_ty (by decide +kernel), kit_ty (by decide +kernel), rfl⟩
theorem kd_str {K : PySem.W.Frag} {H : Hp} (x : Str) : KdOf K H (.str x) :=
  ⟨_, false, false, .base (.str x), kit_ty (by decide +kernel), kit_ty (by decide +kernel), rfl⟩
theorem kd_lst {K : PySem.W.Frag} {H : Hp} {a : Addr} {xs : List V} (h : H a = some (.lst xs)) : KdOf K H (.ref a) :=
  ⟨_, false, false, .base (.lst h), kit_ty (by decide +kernel), kit_ty (by decide +kernel), rfl⟩
theorem kd_tup {K : PySem.W.Frag} {H : Hp} {a : Addr} {xs : List V} (h : H a = some (.tup xs)) : KdOf K H (.ref a) :=
  ⟨_, false, false, .base (.tup h), kit_ty (by decide +kernel), kit_ty (by decide +kernel), rfl⟩
theorem kd_dK {K : PySem.W.Frag} {H : Hp} {a : Addr} {kvs : List (Key × V)} (h : H a = some (.dK kvs)) : KdOf K H (.ref a) :=
  ⟨_, false, false, .base (.dK h), kit_ty (by decide +kernel), kit_ty (by decide +kernel), rfl⟩
/-- what isinstance asks of an own class -/
structure IsC (K : PySem.W.Frag) (C : Addr) : Prop where
  cl : Cls K C
  ha : PySem.W.findIn K (.ref C) "__class__" = some (some (.builtin "object.__class__"))
  hn : PySem.W.specialIn K (.builtin "object.__class__") "__get__" = some (some (.builtin "getset_descriptor.__get__"))
  htk : PySem.W.takesIn K (.builtin "object.__class__") = some true
  hm : PySem.W.mroIn K C (.type "object") = some true
  ki : PySem.W.kitOne K (.ref C) (.type "int") = some false
  kb : PySem.W.kitOne K (.ref C) (.type "bool") = some false
theorem kd_ins {K : PySem.W.Frag} {H : Hp} {a C dx : Addr} {fs : List (Str × V)} (c : IsC K C) (h : H a = some (.ins C dx fs)) : KdOf K H (.ref a) :=
  ⟨_, false, false, .base (.ins h c.cl c.ha c.hn c.htk c.hm), c.ki, c.kb, rfl⟩
theorem TyOf.same {K : PySem.W.Frag} {H H' : Hp} {x : V} {t : Value} (k : Same H H') (h : TyOf K H x t) : TyOf K H' x t := by
  cases h with
  | non => exact .non
  | bl b => exact .bl b
  | int i => exact .int i
  | str y => exact .str y
  | flt y => exact .flt y
  | lst e => exact .lst (k _ _ e)
  | frz e => exact .frz (k _ _ e)
  | tup e => exact .tup (k _ _ e)
  | dK e => exact .dK (k _ _ e)
  | dT e => exact .dT (k _ _ e)
  | ins e cl ha hn htk hm => exact .ins (k _ _ e) cl ha hn htk hm
theorem TyX.same {K : PySem.W.Frag} {H H' : Hp} {x : V} {t : Value} (k : Same H H') (h : TyX K H x t) : TyX K H' x t := by
  cases h with
  | base h => exact .base (TyOf.same k h)
  | byt b => exact .byt b
  | set e => exact .set (k _ _ e)
  | kList e c => exact .kList e c
  | kTuple e c => exact .kTuple e c
  | kDict e c => exact .kDict e c
  | fTuple e => exact .fTuple (k _ _ e)
  | fDict e => exact .fDict (k _ _ e)
theorem KdOf.same {K : PySem.W.Frag} {H H' : Hp} {x : V} (k : Same H H') (h : KdOf K H x) : KdOf K H' x := by
  obtain ⟨t, b1, b2, a, b, c, d⟩ := h.ex
  exact ⟨t, b1, b2, TyX.same k a, b, c, d⟩

/-! ### errors with a what -/
def whatF (v : V) : List (Str × V) := [("what", v)]
/-- what the written part says of an own error class without an __init__ of its own -/
structure ExC (K : PySem.W.Frag) (mg : Str → Option Value) (x : Str) (C fI : Addr) : Prop where
  gC : mg x = some (.ref C)
  ox : OexC K C
  iC : PySem.W.findIn K (.ref C) "__init__" = some (some (.ref fI))
  tI : PySem.W.typeIn K (.ref fI) = some (.type "function")
  no : PySem.W.findIn K (.ref C) "what" = some none
  xf : XfC K C
  te : PySem.W.exmOne K (.ref C) (.ref C) = some true
/-- __init__(self, what) of the errors -/
def spExI (K : PySem.W.Frag) : Sp := fun vs H Q _ => ∃ (a C : Addr) (v : V), vs = [.ref a, v] ∧ OexC K C ∧
  PySem.W.findIn K (.ref C) "what" = some none ∧ H a = some (exo a C none) ∧
  ∀ dx, H dx = none → dx ≠ a → Q .non (upd (upd H dx (exd dx (whatF v))) a (exo a C (some dx)))
theorem heap_back {H : Hp} {a dx : Addr} {o1 o2 o3 o4 : HO} (ha : H a = none) (ne : dx ≠ a) :
    upd (L2.del (upd (upd (upd H a o1) dx o2) a o3) a) dx o4 = upd H dx o4 := by
  funext b
  by_cases h : b = dx
  · subst h
    rw [upd_same, upd_same]
  · rw [upd_ne h, upd_ne h]
    by_cases h2 : b = a
    · subst h2
      rw [L2.del_same, ha]
    · rw [L2.del_ne h2, upd_ne h2, upd_ne h, upd_ne h2]
theorem mk_err {K : PySem.W.Frag} {mg : Str → Option Value} {x : Str} {C fI : Addr} (T : ExC K mg x C fI) {te : TE} {σ : L2.St} {H : Hp} {Q : XK}
    (h : te σ H fun v H1 => ∀ d, H1 d = none → Q (.ref C) (some d) (upd H1 d (.xd (whatF v)))) (mono : ∀ {A B : V → Hp → Prop}, (∀ v H, A v H → B v H) → te σ H A → te σ H B) :
    tMkO C (spExI K) [] (tCons te tNil) σ H Q := by
  refine mono (fun v H1 q => ?_) h
  show [v].length ≤ 1000 ∧ _
  refine ⟨by show 1 ≤ 1000; decide, fun a ha => ⟨a, C, v, rfl, T.ox, T.no, upd_same, fun dx hdx ne => ⟨rfl, dx, whatF v, upd_same, ?_, ?_, ?_⟩⟩⟩
  · rw [upd_ne ne, upd_same]
  · rw [upd_ne ne] at hdx
    exact hdx
  · rw [upd_ne ne] at hdx
    rw [heap_back ha ne]
    exact q dx hdx
end Nv
/-! Nv, part D: the laws' own helpers: a cell, the generator's state, a draw; how what stands is carried over draws. -/
namespace Nv
open PySem PySem.Spec PyProof.Rows L2
/-- what the built-ins' names hold -/
structure Blt (mg : Str → Option Value) : Prop where
  len : mg "len" = none
  int : mg "int" = none
  bool : mg "bool" = none
  abs : mg "abs" = none
  isi : mg "isinstance" = none
  rep : mg "repr" = none
  rng : mg "range" = none
/-- a cell of the script -/
def spCel (K : PySem.W.Frag) : Sp := fun vs H Q _ => ∃ (a : Addr) (ns : List Int) (j : Nat),
  vs = [.ref a, .int (j : Int)] ∧ SqL K H a (ns.map V.int) ∧ Q (.int (ns.getD j 0)) H
/-- the generator's state -/
def spSta : Sp := fun vs H Q _ => ∃ (n : Int), vs = [.int n] ∧
  ∀ (p : Addr) (a b c : Int), H p = none → Q (.ref p) (upd H p (.lst [.int a, .int b, .int c]))
/-- a draw: some number below many -/
def spTak : Sp := fun vs H Q _ => ∃ (p : Addr) (a b c m : Int), vs = [.ref p, .int m] ∧ 0 < m ∧ m < 1073741824 ∧
  H p = some (.lst [.int a, .int b, .int c]) ∧
  ∀ (d a' b' c' : Int), 0 ≤ d → d < m → Q (.int d) (upd H p (.lst [.int a', .int b', .int c']))
theorem same_new {H : Hp} {p dx : Addr} {o1 o2 : HO} (hp : H p = none) (hd : H dx = none) : Same H (upd (upd H dx o1) p o2) := fun b o e => by
  rw [upd_ne (ne_of_none e hp), upd_ne (ne_of_none e hd)]
  exact e
theorem same_upd {H : Hp} {p : Addr} {o : HO} (hp : H p = none) : Same H (upd H p o) := fun b u e => by
  rw [upd_ne (ne_of_none e hp)]
  exact e

/-- a law's def: nothing is let out, no repr is under way -/
theorem FnG.mk0 {P : Program} {w : World} {K : PySem.W.Frag} {mg : Str → Option Value} {base : Heap} {k : Nat} {f : Addr} {fd : FuncData}
    {N ps : List Str} {sp : Sp} {x qual : Str} {st : Stmt} (F : Fun K x qual st f fd)
    (S : FnScope N ps (defScope st)) (len : ∀ vs H Q E, sp vs H Q E → vs.length = ps.length)
    (body : ∀ (cdv : Value) (A : Around) (outer : List Env) (s : Shared) (H : Hp) (vs : List V) (Q : VK) (E : XK),
      A.guards = some [] → Room k (A.deeper (envOfC qual (defScope st) s.heap.objs.size f cdv)) → sp vs H Q E →
      ∃ t, PSs (cxOf CX0 P w K mg base N qual (defScope st) f cdv A outer s H E).nox (defBody st) t ∧
        t { nx := fun _ H' => Q .non H', rt := Q } (start N vs) H) :
    FnG P w K mg base CX0 (k + 1) f fd ps sp :=
  FnG.mk_of F S len fun cdv A outer s H vs Q E gd hr q => by
    obtain ⟨t, h1, h2⟩ := body cdv A outer s H vs Q E gd hr q
    exact ⟨t, h1.nox, h2⟩

/-- G stands beside the generator's state at st -/
structure Dr (G : Hp) (st : Addr) (H : Hp) : Prop where
  same : Same G H
  free : G st = none
  at_ : ∃ a b c : Int, H st = some (.lst [.int a, .int b, .int c])
theorem Dr.mono {G : Hp} {st : Addr} {H H' : Hp} (d : Dr G st H) (k : Same H H') : Dr G st H' := by
  obtain ⟨a, b, c, h⟩ := d.at_
  exact ⟨d.same.trans k, d.free, a, b, c, k _ _ h⟩
theorem Dr.put {G : Hp} {st : Addr} {H : Hp} {a b c : Int} (d : Dr G st H) : Dr G st (upd H st (.lst [.int a, .int b, .int c])) :=
  ⟨fun x o e => by rw [upd_ne (ne_of_none e d.free)]; exact d.same x o e, d.free, a, b, c, upd_same⟩
/-- something new that is to stand -/
theorem Dr.new {G : Hp} {st : Addr} {H : Hp} {q : Addr} {o : HO} (d : Dr G st H) (n : H q = none) : Dr (upd G q o) st (upd H q o) := by
  obtain ⟨a, b, c, h⟩ := d.at_
  have ne : st ≠ q := ne_of_none h n
  refine ⟨fun x u e => ?_, ?_, a, b, c, ?_⟩
  · by_cases hx : x = q
    · subst hx
      rw [upd_same] at e ⊢
      exact e
    · rw [upd_ne hx] at e ⊢
      exact d.same x u e
  · rw [upd_ne ne]
    exact d.free
  · rw [upd_ne ne]
    exact h
theorem Dr.news {G : Hp} {st : Addr} {H : Hp} {q : Addr} {o : HO} (d : Dr G st H) (n : H q = none) : Same G (upd G q o) :=
  same_upd (d.same.free n)
theorem Dr.add {G : Hp} {st : Addr} {H : Hp} {q : Addr} {o : HO} (d : Dr G st H) (h : H q = some o) (ne : st ≠ q) : Dr (upd G q o) st H := by
  refine ⟨fun x u e => ?_, ?_, d.at_⟩
  · by_cases hx : x = q
    · subst hx
      rw [upd_same] at e
      rw [h]
      exact e
    · rw [upd_ne hx] at e
      exact d.same x u e
  · rw [upd_ne ne]
    exact d.free
theorem Dr.ne {G : Hp} {st : Addr} {H : Hp} {q : Addr} (d : Dr G st H) (n : H q = none) : st ≠ q := by
  obtain ⟨a, b, c, h⟩ := d.at_
  exact ne_of_none h n
theorem Dr.start {H : Hp} {st : Addr} {a b c : Int} (n : H st = none) : Dr H st (upd H st (.lst [.int a, .int b, .int c])) :=
  ⟨same_upd n, n, a, b, c, upd_same⟩
/-- a draw is read -/
theorem take_read {G : Hp} {st : Addr} {H : Hp} {m : Int} {Q : VK} {E : XK} (d : Dr G st H) (m0 : 0 < m) (m1 : m < 1073741824)
    (h : ∀ (z : Int) (H' : Hp), 0 ≤ z → z < m → Dr G st H' → Q (.int z) H') : spTak [.ref st, .int m] H Q E := by
  obtain ⟨a, b, c, e⟩ := d.at_
  exact ⟨st, a, b, c, m, rfl, m0, m1, e, fun z a' b' c' z0 z1 => h z _ z0 z1 d.put⟩
theorem atI_in {xs : List V} {z : Int} (z0 : 0 ≤ z) (z1 : z < (xs.length : Int)) : ∃ v, atI xs z = some v ∧ v ∈ xs := by
  have lt : z.toNat < xs.length := by omega
  refine ⟨xs[z.toNat], at_of (j := z.toNat) (by omega) (List.getElem?_eq_getElem lt), List.getElem_mem lt⟩
end Nv
/-! Nv, part E: from the facts of the written part to the words of parts C and D. -/
namespace Nv
open PySem PySem.Spec PyProof.Rows L2
theorem funD_mk {K : PySem.W.Frag} {x qual : Str} {st : Stmt} {f T : Addr} {o : Obj} {its : List Value} {n : Nat} {dvs : List V} {oc : Value} {od an : Option Addr} {osl : Array (Option Value)} {kV doc pm cdv ct : Value}
    (l : K.lookup f = some ⟨oc, od, .func (PySem.W.fnOf x qual (defArgs st) (defBody st) (defScope st) (.ref T) kV doc pm an cdv ct), osl⟩)
    (c : PySem.W.codeIn K cdv qual = true) (k : PySem.W.keepIn K (.ref f) = true) (lT : K.lookup T = some o) (oT : o.data = .seq its.toArray n) (r : Vals dvs its) (ne : dvs ≠ []) :
    FunD K x qual (defArgs st) (defBody st) (defScope st) dvs [] f (PySem.W.fnOf x qual (defArgs st) (defBody st) (defScope st) (.ref T) kV doc pm an cdv ct) :=
  ⟨⟨oc, od, _, kV, doc, pm, an, cdv, ct, osl, rfl, l, c, Or.inr ⟨ne, T, o, its, n, rfl, lT, oT, r⟩, Or.inl rfl⟩, k⟩
theorem exm_self {K : PySem.W.Frag} {S : Addr} (h1 : PySem.W.subIn K (.ref S) (.type "BaseException") = some true) (h2 : PySem.W.isClsIn K S = true)
    (h3 : PySem.W.typeIn K (.ref S) = some (.type "type")) (h4 : PySem.W.subIn K (.ref S) (.ref S) = some true) :
    PySem.W.exmOne K (.ref S) (.ref S) = some true := by
  have e1 : (PySem.W.subIn K (.ref S) (.type "BaseException") == some true) = true := by rw [h1] <;> rfl
  have e2 : ((PySem.W.clsIn K S).isSome && PySem.W.typeIn K (.ref S) == some (.type "type")) = true := by
    have z : (PySem.W.clsIn K S).isSome = true := h2
    rw [z, h3] <;> rfl
  unfold PySem.W.exmOne
  rw [if_pos e1]
  unfold PySem.W.kitCls
  exact (if_pos e2).trans h4
theorem kit_sub {K : PySem.W.Frag} {C : Addr} {T : String} {b : Bool} (h : PySem.W.subIn K (.ref C) (.type T) = some b) (m : PySem.W.kitMeta T = true) :
    PySem.W.kitOne K (.ref C) (.type T) = some b := by
  have z : ((Value.ref C) == (Value.type T)) = false := by rfl
  unfold PySem.W.kitOne
  rw [z]
  unfold PySem.W.kitCls
  exact (if_neg Bool.false_ne_true).trans ((if_pos m).trans h)
/-- the facts of an own error class over another one over ValueError -/
theorem exC_mk {K : PySem.W.Frag} {mg : Str → Option Value} {x : Str} {C fI : Addr} {nm q : Str} {N : Addr} {bs bm : List Value} {sn : List Str} {sub : List Value} {ab : Bool}
    {col : Option Bool} {dd : Option Addr} {m0 m1 m2 m3 m5 : Option Value} (gC : mg x = some (.ref C))
    (xL : K.lookup C = some (excClassObj nm q C N bs bm true sn sub ab col dd m0 m1 m2 m3 m5 "ValueError.__new__"))
    (rV : PySem.HandSPX.refsVE bm = true) (sa : PySem.W.findIn K (.ref C) "__setattr__" = some (some (.builtin "object.__setattr__")))
    (ga : PySem.W.findIn K (.ref C) "__getattribute__" = some (some (.builtin "BaseException.__getattribute__"))) (gg : PySem.W.findIn K (.ref C) "__getattr__" = some none)
    (no : PySem.W.findIn K (.ref C) "what" = some none) (iC : PySem.W.findIn K (.ref C) "__init__" = some (some (.ref fI)))
    (tI : PySem.W.typeIn K (.ref fI) = some (.type "function")) (kC : PySem.W.keepIn K (.ref C) = true) (eC : PySem.W.subIn K (.ref C) (.type "BaseException") = some true)
    (tC : PySem.W.typeIn K (.ref C) = some (.type "type")) (hC : PySem.W.hasDictIn K C = true) (cC : PySem.W.isClsIn K C = true)
    (sC : PySem.W.subIn K (.ref C) (.ref C) = some true) : ExC K mg x C fI :=
  ⟨gC, ⟨⟨nm, q, N, bs, bm, sn, sub, ab, col, dd, m0, m1, m2, m3, m5, xL, rV⟩, sa, eC, tC, kC⟩, iC, tI, no, ⟨ga, gg, eC, hC⟩, exm_self eC cC tC sC⟩
end Nv
/-! Nv, part F: operators that an own class defines. -/
namespace Nv
open PySem PySem.Spec PyProof.Rows L2

theorem int_add_no (a : Int) (t : Tok) (l : Addr) (C dx : Addr) :
    Meets (Builtin.«int.__add__» ⟨[.int a t, .ref l], []⟩) (fun _ R s => s.heap.get? l = some (PySem.W.instObj C dx) ∧ R (.ok (.ret Value.notImplemented)) s) :=
  .of_wp fun prog w A R s h => by
    obtain ⟨hp, g, d, tk, os⟩ := s
    obtain ⟨hl, h⟩ := h
    unfold PySem.W.instObj at hl
    wp_walk
    exact ⟨_, rfl, h⟩
theorem int_sub_no (a : Int) (t : Tok) (l : Addr) (C dx : Addr) :
    Meets (Builtin.«int.__sub__» ⟨[.int a t, .ref l], []⟩) (fun _ R s => s.heap.get? l = some (PySem.W.instObj C dx) ∧ R (.ok (.ret Value.notImplemented)) s) :=
  .of_wp fun prog w A R s h => by
    obtain ⟨hp, g, d, tk, os⟩ := s
    obtain ⟨hl, h⟩ := h
    unfold PySem.W.instObj at hl
    wp_walk
    exact ⟨_, rfl, h⟩
theorem int_mul_no (a : Int) (t : Tok) (l : Addr) (C dx : Addr) :
    Meets (Builtin.«int.__mul__» ⟨[.int a t, .ref l], []⟩) (fun _ R s => s.heap.get? l = some (PySem.W.instObj C dx) ∧ R (.ok (.ret Value.notImplemented)) s) :=
  .of_wp fun prog w A R s h => by
    obtain ⟨hp, g, d, tk, os⟩ := s
    obtain ⟨hl, h⟩ := h
    unfold PySem.W.instObj at hl
    wp_walk
    exact ⟨_, rfl, h⟩

section
open PySem.W
variable {prog : Program} {w : World} {A : Around} {E : Value → Shared → Prop} {s : Shared} {K : Frag} {x C L f g : Addr} {h₀ : Heap} {m : Str → Option Value} {ox : Obj} {od : Option Obj} {i : Int} {t : Tok}
/-- an int on the left of an own instance: int's own method declines, the reflected one answers -/
theorem int_left {op : Operator} {fo ro : Option Value} {Q : Value → Shared → Prop} (F : Fr h₀ L s.heap m) (X₀ : K.In h₀) (I : InstAt s.heap x ox C od) (hc : selfFirst K C = true)
    (hs : findIn K (.ref C) (PySem.dunder op.info.2) = some (some (.ref f))) (hr : findIn K (.ref C) (dunderR op.info.2) = some (some (.ref g))) (hg : isFn K (.ref g) = true)
    (h1 : findIn K (.type "int") (PySem.dunder op.info.2) = some fo) (h2 : findIn K (.type "int") (dunderR op.info.2) = some ro)
    (hl : ((fo.isSome && !isSeqSlot fo) || (ro.isSome && !isSeqSlot ro)) = true) (hsub : subIn K (.ref C) (.type "int") = some false)
    (no : ∀ Q' : Option Value → Shared → Prop, Q' none s → wpAny (model prog w) A (tryMethod (.int i t) (PySem.dunder op.info.2) (.ref x)) Q' E s)
    (h : wpAny (model prog w) A (call (.ref g) [.ref x, .int i t]) (PySem.W.CmpBack Q) E s) : wpAny (model prog w) A (binaryOp op (.int i t) (.ref x)) Q E s := by
  have X := X₀.keeps F.keep
  obtain ⟨cd, rest, hcd, hm⟩ := ksp_first hc
  rcases hi : op.info with ⟨sym, nm'⟩
  rw [hi] at hs hr h1 h2 no
  dsimp only at hs hr h1 h2 no
  have one := ksp_try X I hr hg h
  obtain ⟨hh, gg, d, tt, os⟩ := s
  have L1 : Looks (model prog w) hh (typeOf (.ref x)) (.ref C) := I.type
  have L2 : Looks (model prog w) hh (typeOf (.int i t)) (.type "int") := Looks.of_pure rfl
  have L3 : Looks (model prog w) hh (fillsNumberSlot (.ref C) nm') true := fills_K X hcd hm hs
  have L4 : Looks (model prog w) hh (fillsNumberSlot (.type "int") nm') ((fo.isSome && !isSeqSlot fo) || (ro.isSome && !isSeqSlot ro)) := ksp_fillsT X h1 h2
  rw [hl] at L4
  have L5 : Looks (model prog w) hh (isSubtype (.ref C) (.type "int")) false := looks_subIn X hsub
  have L7 : Looks (model prog w) hh (numberSlotInPython (.type "int") nm') false := Looks.of_pure rfl
  have hne : (Value.type "int" == Value.ref C) = false := Bool.eq_false_iff.mpr fun q => by cases beq_iff_eq.mp q
  simp only [binaryOp, hi]
  refine wpAny_holding (wpAny_bind ?_)
  unfold binaryOp1
  refine wpAny_bind (L2.at (wpAny_bind (L1.at (wpAny_bind (L4.at ?_)))))
  simp only [hne, Bool.false_eq_true, if_false]
  refine wpAny_bind (L3.at ?_)
  simp only [Bool.and_self, if_true]
  refine wpAny_bind (L5.at ?_)
  simp only [Bool.false_eq_true, if_false, pure_bind, Bool.not_false, Bool.and_self, if_true]
  refine wpAny_bind (L7.at ?_)
  simp only [Bool.false_eq_true, if_false, pure_bind, if_true]
  refine wpAny_bind (no _ ?_)
  refine wpAny_bind (wpAny_mono one (fun r s' hr' => ?_) fun _ _ e => e)
  obtain ⟨v, rfl, hq⟩ := hr'
  exact wpAny_bind (wpAny_rule (wpAny_pure (wpAny_pure hq)))
end

/-- what the written part says of an own class's operator -/
structure OpC (K : PySem.W.Frag) (C : Addr) (op : Operator) (f g : Addr) : Prop where
  first : PySem.W.selfFirst K C = true
  fd : PySem.W.findIn K (.ref C) (PySem.dunder op.info.2) = some (some (.ref f))
  fn : PySem.W.isFn K (.ref f) = true
  rd : PySem.W.findIn K (.ref C) (dunderR op.info.2) = some (some (.ref g))
  rn : PySem.W.isFn K (.ref g) = true
  sl : ∃ fo ro, PySem.W.findIn K (.type "int") (PySem.dunder op.info.2) = some fo ∧ PySem.W.findIn K (.type "int") (dunderR op.info.2) = some ro ∧
    ((fo.isSome && !isSeqSlot fo) || (ro.isSome && !isSeqSlot ro)) = true
  sub1 : PySem.W.subIn K (.type "int") (.ref C) = some false
  sub2 : PySem.W.subIn K (.ref C) (.type "int") = some false

theorem OpR.or {X : Cx} {f : Value → Value → Sem Value} {r1 r2 : R2} (a : OpR X f r1) (b : OpR X f r2) : OpR X f (fun x y H Q => r1 x y H Q ∨ r2 x y H Q) :=
  fun pins s σ H x y v u Q I rx ry h => h.elim (a pins s σ H x y v u Q I rx ry) (b pins s σ H x y v u Q I rx ry)
theorem UnR.or {X : Cx} {f : Value → Sem Value} {r1 r2 : V → Hp → VK → Prop} (a : UnR X f r1) (b : UnR X f r2) : UnR X f (fun x H Q => r1 x H Q ∨ r2 x H Q) :=
  fun pins s σ H x v Q I rx h => h.elim (a pins s σ H x v Q I rx) (b pins s σ H x v Q I rx)
section
variable {X : Cx} {CX : CXT} {k : Nat} {f g C : Addr} {fd : FuncData} {ps : List Str} {sp : Sp} {E : XK} {op : Operator}
theorem run_own {pins : List (Addr × Obj)} {σ : L2.St} {H : Hp} {s : Shared} {Q : VK} {us : List Value} {vs : List V}
    (F : FnOk X.prog X.w X.K X.mg X.base CX k f fd ps sp) (hr : Room k X.A) (hb : Binds X.K fd ps []) (hx : Passes CX X E)
    (I : Inv X pins σ H s) (r : Vals vs us) (h : sp vs H Q E) :
    wpAny (model X.prog X.w) X.A (call (.ref f) us) (PySem.W.CmpBack (EP X pins σ Q)) X.xe s := by
  refine wpAny_mono (run_fn F hr hb .nil hx I r (by rw [List.append_nil]; exact h)) (fun u s' z => ?_) fun _ _ z => z
  obtain ⟨v, H', I', rv, q⟩ := z
  have ne : u ≠ .notImplemented := fun e => by
    subst e
    cases v with
    | non => exact nomatch (show Value.notImplemented = Value.none from rv)
    | bl b => exact nomatch (show Value.notImplemented = Value.bool b from rv)
    | int i => obtain ⟨_, z⟩ := rv; exact nomatch z
    | str y => obtain ⟨_, z⟩ := rv; exact nomatch z
    | byt y => obtain ⟨_, z⟩ := rv; exact nomatch z
    | flt y => obtain ⟨_, z⟩ := rv; exact nomatch z
    | ref a => exact nomatch (show Value.notImplemented = Value.ref a from rv)
    | ty n => exact nomatch (show Value.notImplemented = Value.type n from rv)
  cases u <;> first | exact absurd rfl ne | exact ⟨v, H', I', rv, q⟩
/-- a op b, a an instance of the class at C, b one or an int: a's own method -/
def rOwn (C : Addr) (sp : Sp) (E : XK) : R2 := fun x y H Q => ∃ a dx fs, x = .ref a ∧ H a = some (.ins C dx fs) ∧
  ((∃ b dy gs, y = .ref b ∧ H b = some (.ins C dy gs)) ∨ ∃ j, y = .int j) ∧ sp [x, y] H Q E
theorem op_own (T : OpC X.K C op f g) (F : FnOk X.prog X.w X.K X.mg X.base CX k f fd ps sp) (hr : Room k X.A) (hb : Binds X.K fd ps []) (hx : Passes CX X E) :
    OpR X (binaryOp op) (rOwn C sp E) := by
  intro pins s σ H x y v u Q I rx ry h
  obtain ⟨a, dx, fs, rfl, ha, hy, q⟩ := h
  cases rx
  obtain ⟨mA, J, _⟩ := ins_get I.hok ha
  obtain ⟨od, J, _⟩ := J.look
  obtain ⟨m, hF⟩ := I.fr
  rcases hy with ⟨b, dy, gs, rfl, hb'⟩ | ⟨j, rfl⟩
  · cases ry
    obtain ⟨mB, J', _⟩ := ins_get I.hok hb'
    obtain ⟨od', J', _⟩ := J'.look
    exact PySem.W.binop_K hF I.ok.mod.kin J J'.type T.first T.fd T.fn (run_own (vs := [.ref a, .ref b]) F hr hb hx I (.cons rfl (.cons rfl .nil)) q)
  · obtain ⟨t, rfl⟩ := ry
    obtain ⟨fo, ro, h1, h2, _⟩ := T.sl
    exact PySem.W.ksp_binT (T := "int") hF I.ok.mod.kin J rfl T.first T.fd T.fn T.rd (Or.inr ⟨_, rfl⟩) h1 h2 T.sub1
      (run_own (vs := [.ref a, .int j]) F hr hb hx I (.cons rfl (.cons ⟨t, rfl⟩ .nil)) q)
/-- i op a, i an int: a's reflected method -/
def rRef (C : Addr) (sp : Sp) (E : XK) : R2 := fun x y H Q => ∃ i a dx fs, x = .int i ∧ y = .ref a ∧ H a = some (.ins C dx fs) ∧ sp [y, x] H Q E
theorem op_ref (T : OpC X.K C op f g) (F : FnOk X.prog X.w X.K X.mg X.base CX k g fd ps sp) (hr : Room k X.A) (hb : Binds X.K fd ps []) (hx : Passes CX X E)
    (no : ∀ (A : Around) (i : Int) (t : Tok) (l dx : Addr) (s : Shared) (E' : Value → Shared → Prop) (Q' : Option Value → Shared → Prop), s.heap.get? l = some (PySem.W.instObj C dx) → Q' none s →
      wpAny (model X.prog X.w) A (tryMethod (.int i t) (PySem.dunder op.info.2) (.ref l)) Q' E' s) :
    OpR X (binaryOp op) (rRef C sp E) := by
  intro pins s σ H x y v u Q I rx ry h
  obtain ⟨i, a, dx, fs, rfl, rfl, ha, q⟩ := h
  obtain ⟨t, rfl⟩ := rx
  cases ry
  obtain ⟨mA, J, _⟩ := ins_get I.hok ha
  have ob := J.obj
  obtain ⟨od, J, _⟩ := J.look
  obtain ⟨m, hF⟩ := I.fr
  obtain ⟨fo, ro, h1, h2, h3⟩ := T.sl
  exact int_left hF I.ok.mod.kin J T.first T.fd T.rd T.rn h1 h2 h3 T.sub2 (fun Q' z => no _ i t a dx s _ Q' ob z)
    (run_own (vs := [.ref a, .int i]) F hr hb hx I (.cons rfl (.cons ⟨t, rfl⟩ .nil)) q)
/-- - a -/
def rNegO (C : Addr) (sp : Sp) (E : XK) : V → Hp → VK → Prop := fun x H Q => ∃ a dx fs, x = .ref a ∧ H a = some (.ins C dx fs) ∧ sp [x] H Q E
theorem un_own (hs : PySem.W.findIn X.K (.ref C) "__neg__" = some (some (.ref f))) (hf : PySem.W.isFn X.K (.ref f) = true)
    (F : FnOk X.prog X.w X.K X.mg X.base CX k f fd ps sp) (hr : Room k X.A) (hb : Binds X.K fd ps []) (hx : Passes CX X E) : UnR X (unaryOp .USub) (rNegO C sp E) := by
  intro pins s σ H x v Q I rx h
  obtain ⟨a, dx, fs, rfl, ha, q⟩ := h
  cases rx
  obtain ⟨mA, J, _⟩ := ins_get I.hok ha
  obtain ⟨od, J, _⟩ := J.look
  obtain ⟨m, hF⟩ := I.fr
  exact PySem.W.ksp_neg hF I.ok.mod.kin J hs hf (run_fn (vs := [.ref a]) F hr hb .nil hx I (.cons rfl .nil) (by rw [List.append_nil]; exact q))
end
end Nv
/-! Nv, part G: an int on the left of an own instance: int's own method declines. -/
namespace Nv
open PySem PySem.Spec PyProof.Rows L2
theorem nb_add {prog : Program} {w : World} {A : Around} {i : Int} {t : Tok} {l : Addr} {s : Shared} {E' : Value → Shared → Prop} {Q' : Option Value → Shared → Prop}
    (hc : wpAny (model prog w) A (call (.builtin "int.__add__") [.int i t, .ref l]) (fun v s' => v = .notImplemented ∧ Q' none s') E' s) :
    wpAny (model prog w) A (tryMethod (.int i t) (PySem.dunder "add") (.ref l)) Q' E' s := by
  refine wpAny_tryMethod_declines (T := "int") (id := "int.__add__") ?_ ?_ ?_
  · exact typeIs_int s i t
  · exact F.slot_int_add
  · exact hc
theorem no_add {prog : Program} {w : World} {C : Addr} (A : Around) (i : Int) (t : Tok) (l dx : Addr) (s : Shared) (E' : Value → Shared → Prop) (Q' : Option Value → Shared → Prop)
    (h : s.heap.get? l = some (PySem.W.instObj C dx)) (q : Q' none s) : wpAny (model prog w) A (tryMethod (.int i t) (PySem.dunder Operator.Add.info.2) (.ref l)) Q' E' s := by
  refine nb_add ?_
  refine call_meets F.slot_int_add (typeIs_int s i t) F.entry_int_add (F.args_int_add_2 _ _) (int_add_no i t l C dx) ?_
  exact ⟨h, rfl, q⟩
theorem nb_sub {prog : Program} {w : World} {A : Around} {i : Int} {t : Tok} {l : Addr} {s : Shared} {E' : Value → Shared → Prop} {Q' : Option Value → Shared → Prop}
    (hc : wpAny (model prog w) A (call (.builtin "int.__sub__") [.int i t, .ref l]) (fun v s' => v = .notImplemented ∧ Q' none s') E' s) :
    wpAny (model prog w) A (tryMethod (.int i t) (PySem.dunder "sub") (.ref l)) Q' E' s := by
  refine wpAny_tryMethod_declines (T := "int") (id := "int.__sub__") ?_ ?_ ?_
  · exact typeIs_int s i t
  · exact F.slot_int_sub
  · exact hc
theorem no_sub {prog : Program} {w : World} {C : Addr} (A : Around) (i : Int) (t : Tok) (l dx : Addr) (s : Shared) (E' : Value → Shared → Prop) (Q' : Option Value → Shared → Prop)
    (h : s.heap.get? l = some (PySem.W.instObj C dx)) (q : Q' none s) : wpAny (model prog w) A (tryMethod (.int i t) (PySem.dunder Operator.Sub.info.2) (.ref l)) Q' E' s := by
  refine nb_sub ?_
  refine call_meets F.slot_int_sub (typeIs_int s i t) F.entry_int_sub (F.args_int_sub_2 _ _) (int_sub_no i t l C dx) ?_
  exact ⟨h, rfl, q⟩
theorem nb_mul {prog : Program} {w : World} {A : Around} {i : Int} {t : Tok} {l : Addr} {s : Shared} {E' : Value → Shared → Prop} {Q' : Option Value → Shared → Prop}
    (hc : wpAny (model prog w) A (call (.builtin "int.__mul__") [.int i t, .ref l]) (fun v s' => v = .notImplemented ∧ Q' none s') E' s) :
    wpAny (model prog w) A (tryMethod (.int i t) (PySem.dunder "mul") (.ref l)) Q' E' s := by
  refine wpAny_tryMethod_declines (T := "int") (id := "int.__mul__") ?_ ?_ ?_
  · exact typeIs_int s i t
  · exact F.slot_int_mul
  · exact hc
theorem no_mul {prog : Program} {w : World} {C : Addr} (A : Around) (i : Int) (t : Tok) (l dx : Addr) (s : Shared) (E' : Value → Shared → Prop) (Q' : Option Value → Shared → Prop)
    (h : s.heap.get? l = some (PySem.W.instObj C dx)) (q : Q' none s) : wpAny (model prog w) A (tryMethod (.int i t) (PySem.dunder Operator.Mult.info.2) (.ref l)) Q' E' s := by
  refine nb_mul ?_
  refine call_meets F.slot_int_mul (typeIs_int s i t) F.entry_int_mul (F.args_int_mul_2 _ _) (int_mul_no i t l C dx) ?_
  exact ⟨h, rfl, q⟩
end Nv
/-! Nv, part M: fractions in lowest terms; how long the search for a common divisor goes on. -/
namespace Nv
/-- the common divisor, with the sign of the bottom -/
def com (a b : Int) : Int := if b > 0 then ((Nat.gcd a.natAbs b.natAbs : Nat) : Int) else -((Nat.gcd a.natAbs b.natAbs : Nat) : Int)
theorem com_ne {a b : Int} (h : b ≠ 0) : com a b ≠ 0 := by
  have z : Nat.gcd a.natAbs b.natAbs ≠ 0 := fun e => h (Int.natAbs_eq_zero.mp (Nat.gcd_eq_zero_iff.mp e).2)
  unfold com
  split <;> omega
theorem com_le {a b : Int} (h : b ≠ 0) : (com a b).natAbs ≤ b.natAbs := by
  have z : Nat.gcd a.natAbs b.natAbs ≤ b.natAbs := Nat.gcd_le_right _ (Nat.pos_of_ne_zero fun e => h (Int.natAbs_eq_zero.mp e))
  unfold com
  split <;> omega
/-- t / b is n / d in lowest terms -/
structure RS (n d t b : Int) : Prop where
  pos : 0 < b
  cop : Nat.gcd t.natAbs b.natAbs = 1
  eq : t * d = n * b
  lt : t.natAbs ≤ n.natAbs
  lb : b.natAbs ≤ d.natAbs
theorem rs_com {a b : Int} (hb : b ≠ 0) : RS a b (a.fdiv (com a b)) (b.fdiv (com a b)) := by
  have cn := com_ne (a := a) hb
  obtain ⟨x, hx⟩ : ((Nat.gcd a.natAbs b.natAbs : Nat) : Int) ∣ a := Int.ofNat_dvd_left.mpr (Nat.gcd_dvd_left _ _)
  obtain ⟨y, hy⟩ : ((Nat.gcd a.natAbs b.natAbs : Nat) : Int) ∣ b := Int.ofNat_dvd_left.mpr (Nat.gcd_dvd_right _ _)
  generalize hg : Nat.gcd a.natAbs b.natAbs = g at hx hy
  have g0 : g ≠ 0 := fun e => hb (by rw [hy, e]; simp)
  have cop : Nat.gcd x.natAbs y.natAbs = 1 := by
    have e : Nat.gcd a.natAbs b.natAbs = g * Nat.gcd x.natAbs y.natAbs := by
      rw [hx, hy, Int.natAbs_mul, Int.natAbs_mul, Int.natAbs_natCast, Nat.gcd_mul_left]
    rw [hg] at e
    exact Nat.eq_of_mul_eq_mul_left (Nat.pos_of_ne_zero g0) (by rw [Nat.mul_one]; exact e.symm)
  have ax : a.natAbs = g * x.natAbs := by rw [hx, Int.natAbs_mul, Int.natAbs_natCast]
  have by' : b.natAbs = g * y.natAbs := by rw [hy, Int.natAbs_mul, Int.natAbs_natCast]
  have lx : x.natAbs ≤ a.natAbs := by rw [ax]; exact Nat.le_mul_of_pos_left _ (Nat.pos_of_ne_zero g0)
  have ly : y.natAbs ≤ b.natAbs := by rw [by']; exact Nat.le_mul_of_pos_left _ (Nat.pos_of_ne_zero g0)
  by_cases p : b > 0
  · have ec : com a b = (g : Int) := by unfold com; rw [if_pos p, hg]
    have e1 : a.fdiv (com a b) = x := by rw [ec]; rw (occs := [1]) [hx]; exact Int.mul_fdiv_cancel_left _ (by omega)
    have e2 : b.fdiv (com a b) = y := by rw [ec]; rw (occs := [1]) [hy]; exact Int.mul_fdiv_cancel_left _ (by omega)
    rw [e1, e2]
    have y0 : 0 < y := by
      rw [hy] at p
      exact Int.pos_of_mul_pos_right p (by omega)
    exact ⟨y0, cop, by rw [hx, hy]; grind, lx, ly⟩
  · have ec : com a b = -(g : Int) := by unfold com; rw [if_neg p, hg]
    have e1 : a.fdiv (com a b) = -x := by
      rw [ec, show a = (-(g : Int)) * (-x) by rw [hx]; grind]
      exact Int.mul_fdiv_cancel_left _ (by omega)
    have e2 : b.fdiv (com a b) = -y := by
      rw [ec, show b = (-(g : Int)) * (-y) by rw [hy]; grind]
      exact Int.mul_fdiv_cancel_left _ (by omega)
    rw [e1, e2]
    have y0 : 0 < -y := by
      have p' : 0 < (g : Int) * (-y) := by
        have : b < 0 := by omega
        rw [hy] at this
        grind
      exact Int.pos_of_mul_pos_right p' (by omega)
    exact ⟨y0, by rw [Int.natAbs_neg, Int.natAbs_neg]; exact cop, by rw [hx, hy]; grind, by rw [Int.natAbs_neg]; exact lx, by rw [Int.natAbs_neg]; exact ly⟩
theorem rs_of {n d t b : Int} (hd : d ≠ 0) (pos : 0 < b) (cop : Nat.gcd t.natAbs b.natAbs = 1) (eq : t * d = n * b) : RS n d t b := by
  have e : t.natAbs * d.natAbs = n.natAbs * b.natAbs := by rw [← Int.natAbs_mul, ← Int.natAbs_mul, eq]
  have d0 : 0 < d.natAbs := by omega
  have b0 : 0 < b.natAbs := by omega
  refine ⟨pos, cop, eq, ?_, ?_⟩
  · by_cases n0 : n.natAbs = 0
    · rw [n0, Nat.zero_mul] at e
      rcases Nat.mul_eq_zero.mp e with h | h <;> omega
    · refine Nat.le_of_dvd (by omega) (Nat.Coprime.dvd_of_dvd_mul_right (n := b.natAbs) cop ?_)
      exact ⟨d.natAbs, e.symm⟩
  · refine Nat.le_of_dvd d0 (Nat.Coprime.dvd_of_dvd_mul_left (m := t.natAbs) (Nat.Coprime.symm cop) ?_)
    exact ⟨n.natAbs, by rw [e, Nat.mul_comm]⟩
theorem bd_mul {a b : Int} {m n : Nat} (ha : a.natAbs < 2 ^ m) (hb : b.natAbs < 2 ^ n) : (a * b).natAbs < 2 ^ (m + n) := by
  rw [Int.natAbs_mul, Nat.pow_add]
  exact Nat.mul_lt_mul'' ha hb
theorem bd_add {a b : Int} {m : Nat} (ha : a.natAbs < 2 ^ m) (hb : b.natAbs < 2 ^ m) : (a + b).natAbs < 2 ^ (m + 1) := by
  have := Int.natAbs_add_le a b
  rw [Nat.pow_succ]
  omega
theorem bd_le {a : Nat} {m n : Nat} (h : a < 2 ^ m) (l : m ≤ n) : a < 2 ^ n := Nat.lt_of_lt_of_le h (Nat.pow_le_pow_right (by decide) l)

/-! ### Euclid's way in so many turns -/
def fibs : Nat → Nat × Nat
  | 0 => (0, 1)
  | n + 1 => ((fibs n).2, (fibs n).1 + (fibs n).2)
def fib (n : Nat) : Nat := (fibs n).1
theorem fib_add (n : Nat) : fib (n + 2) = fib n + fib (n + 1) := rfl
/-- k turns are enough from here -/
def Eu (k : Nat) (a b : Int) : Prop := b = 0 ∨ (b < a ∧ (b < fib (k + 1) ∨ a < fib (k + 2)))
theorem Eu.step {k : Nat} {a b : Int} (b0 : 0 < b) (h : Eu (k + 1) a b) : Eu k b (a % b) := by
  have r0 : 0 ≤ a % b := Int.emod_nonneg _ (by omega)
  have r1 : a % b < b := Int.emod_lt_of_pos _ b0
  rcases h with h | ⟨hl, h⟩
  · omega
  · refine Or.inr ⟨r1, ?_⟩
    by_cases c : b < fib (k + 2)
    · exact Or.inr c
    · refine Or.inl ?_
      rcases h with h | h
      · exact absurd h c
      · have e : fib (k + 3) = fib (k + 1) + fib (k + 2) := fib_add (k + 1)
        have q : a = b * (a / b) + a % b := by rw [Int.add_comm]; exact (Int.emod_add_mul_ediv a b).symm
        have q1 : 1 ≤ a / b := Int.le_ediv_of_mul_le b0 (by omega)
        have q2 : b ≤ b * (a / b) := by
          have := Int.mul_le_mul_of_nonneg_left q1 (Int.le_of_lt b0)
          omega
        have e' : (fib (k + 1 + 2) : Int) = fib (k + 1) + fib (k + 2) := by rw [show k + 1 + 2 = k + 3 from rfl, e]; omega
        omega
theorem Eu.zero {a b : Int} (b0 : 0 ≤ b) (h : Eu 0 a b) : b = 0 := by
  rcases h with h | ⟨hl, h⟩
  · exact h
  · have e1 : fib (0 + 1) = 1 := rfl
    have e2 : fib (0 + 2) = 1 := rfl
    rcases h with h | h <;> omega
theorem Eu.mono {k : Nat} {a b : Int} (h : b = 0) : Eu k a b := Or.inl h
end Nv
/-! Nv, part H: an own ==; a method by keyword alone; lists that grow beside the generator's state. -/
namespace Nv
open PySem PySem.Spec PyProof.Rows L2
section
variable {X : Cx} {CX : CXT} {k n : Nat} {f C : Addr} {fd : FuncData} {ps ks : List Str} {sp : Sp} {E : XK}
/-- a == y by the own method of a -/
def rEqO (K : PySem.W.Frag) (C : Addr) (sp : Sp) (E : XK) : R2 := fun x y H Q => ∃ a dx fs t, x = .ref a ∧ H a = some (.ins C dx fs) ∧ TyX K H y t ∧
  PySem.W.notFirst K C t = true ∧ sp [x, y] H Q E
theorem op_eqO (hs : PySem.W.findIn X.K (.ref C) "__eq__" = some (some (.ref f))) (hf : PySem.W.isFn X.K (.ref f) = true)
    (F : FnOk X.prog X.w X.K X.mg X.base CX k f fd ps sp) (hr : Room k X.A) (hb : Binds X.K fd ps []) (hx : Passes CX X E) :
    OpR X (compareOp .Eq) (rEqO X.K C sp E) := by
  intro pins s σ H x y v u Q I rx ry h
  obtain ⟨a, dx, fs, t, rfl, ha, ty, nf, q⟩ := h
  cases rx
  obtain ⟨mA, J, _⟩ := ins_get I.hok ha
  obtain ⟨od, J, _⟩ := J.look
  obtain ⟨m, hF⟩ := I.fr
  obtain ⟨Pz, Z, pz, _⟩ := kit_of I ry ty
  show wpAny (model X.prog X.w) X.A (richCompare .Eq (.ref a) u) (EP X pins σ Q) X.xe s
  exact PySem.W.cmp_K (op := .Eq) hr.units0 hF I.ok.mod.kin J (Z.ty _ _ I.kIn pz) nf hs hf
    (run_own (vs := [.ref a, y]) F hr hb hx I (.cons rfl (.cons ry .nil)) q)
variable {x m : Str} {p pos apos : Pos} {o : Expr} {kws : List Keyword} {ta : TE} {tk : TA} {g : List Value → List Value → List Value} {gV : List V → List V → List V}
/-- o.m(k = v, ..) -/
def tMethK (C : Addr) (m : Str) (nk : Nat) (sp : Sp) (gV : List V → List V → List V) (E : XK) (ta : TE) (tk : TA) : TE := fun σ H Q => ta σ H fun x H1 => ∃ a dx fs, x = .ref a ∧ H1 a = some (.ins C dx fs) ∧
  fs.lookup m = none ∧ tk σ H1 fun zs H2 => zs.length = nk ∧ sp (gV [x] zs) H2 Q E
theorem pe_methK0 {pl : Sem Bool} (he : PE X o ta) (c : Cls X.K C) (hm : Meth X.K C m f) (F : FnOk X.prog X.w X.K X.mg X.base CX k f fd ps sp) (hr : Room k X.A)
    (hb : KBn X.K fd ps 1 ks g gV) (hx : Passes CX X E) (hkw : PK X kws tk) (hall : (backToKw pos (keywordEach kws X.env)).all (·.1.isSome) = true := by rfl)
    (hks : (backToKw pos (keywordEach kws X.env)).filterMap (·.1) = ks := by rfl)
    (hpl : ((backTo pos (starEach [] X.env)).any (·.1) || (backToKw pos (keywordEach kws X.env)).any (·.1.isNone)) = false := by rfl)
    (ht : eval (.Call (.Attribute o m apos) [] kws pos) X.env = (do
      let ov ← eval o X.env
      standAt apos.atName
      let (f, first) ← holding [ov] (getMethod ov m pl)
      callWith pos f first (backTo pos (starEach [] X.env)) (backToKw pos (keywordEach kws X.env))) := by rfl) :
    PE X (.Call (.Attribute o m apos) [] kws pos) (tMethK C m ks.length sp gV E ta tk) := by
  refine ⟨fun pins s σ H Q I h => ?_⟩
  refine PySem.W.methodCall_KW (pl := pl) (thn (he.run pins s σ H _ I h) fun u s1 ⟨x, H1, I1, rx, a, dx, fs, ex, ea, l, q⟩ => ?_) ht
  subst ex
  obtain rfl : u = Value.ref a := rx
  refine getmeth_ok I1 ea c hm l ?_
  refine PySem.W.callWith_KW0 (first := [.ref a]) (h₀ := X.base) I.ok.mod.kin hm.kp hall ?_ hpl
  refine thn (hkw.run pos pins s1 σ H1 _ I1 q) fun ws s2 ⟨zs, H2, I2, rz, l2, q2⟩ => ⟨I2.kIn, ?_⟩
  rw [hks]
  exact run_fnN (us := [.ref a]) (vs := [.ref a]) F hr hb hx I2 (.cons rfl .nil) rz rfl l2 q2
end
theorem Dr.write {G : Hp} {st : Addr} {H : Hp} {q : Addr} {o o' : HO} (d : Dr (upd G q o) st H) : Dr (upd G q o') st (upd H q o') := by
  have ne : st ≠ q := fun e => by
    have z := d.free
    rw [e, upd_same] at z
    exact nomatch z
  obtain ⟨a, b, c, h⟩ := d.at_
  refine ⟨fun x u e => ?_, ?_, a, b, c, ?_⟩
  · by_cases hx : x = q
    · subst hx
      rw [upd_same] at e ⊢
      exact e
    · rw [upd_ne hx] at e ⊢
      exact d.same x u (by rw [upd_ne hx]; exact e)
  · have z := d.free
    rw [upd_ne ne] at z ⊢
    exact z
  · rw [upd_ne ne]
    exact h
/-- signs of fractions by those of the drawn numbers -/
theorem sgn {X Y D B : Int} (hB : 0 < B) (hD : D ≠ 0) (h : X * D = Y * B) :
    (X < 0 ↔ Y * (if D > 0 then 1 else -1) < 0) ∧ (X = 0 ↔ Y * (if D > 0 then 1 else -1) = 0) ∧ (0 < X ↔ 0 < Y * (if D > 0 then 1 else -1)) := by
  by_cases d : D > 0
  · rw [if_pos d]
    rcases Int.lt_trichotomy X 0 with x | x | x
    · have : X * D < 0 := Int.mul_neg_of_neg_of_pos x d
      have : Y < 0 := by
        apply Int.lt_of_not_ge
        intro z
        have := Int.mul_nonneg z (Int.le_of_lt hB)
        omega
      omega
    · subst x
      have : Y = 0 := by
        rw [Int.zero_mul] at h
        rcases Int.mul_eq_zero.mp h.symm with z | z <;> omega
      omega
    · have : 0 < X * D := Int.mul_pos x d
      have : 0 < Y := by
        apply Int.lt_of_not_ge
        intro z
        have := Int.mul_nonpos_of_nonpos_of_nonneg z (Int.le_of_lt hB)
        omega
      omega
  · rw [if_neg d]
    have dn : D < 0 := by omega
    rcases Int.lt_trichotomy X 0 with x | x | x
    · have : 0 < X * D := Int.mul_pos_of_neg_of_neg x dn
      have : 0 < Y := by
        apply Int.lt_of_not_ge
        intro z
        have := Int.mul_nonpos_of_nonpos_of_nonneg z (Int.le_of_lt hB)
        omega
      omega
    · subst x
      have : Y = 0 := by
        rw [Int.zero_mul] at h
        rcases Int.mul_eq_zero.mp h.symm with z | z <;> omega
      omega
    · have : X * D < 0 := Int.mul_neg_of_pos_of_neg x dn
      have : Y < 0 := by
        apply Int.lt_of_not_ge
        intro z
        have := Int.mul_nonneg z (Int.le_of_lt hB)
        omega
      omega
/-- fractions in lowest terms are equal if they are equal crosswise -/
theorem low_eq {t b t2 b2 : Int} (hb : 0 < b) (hb2 : 0 < b2) (c : Nat.gcd t.natAbs b.natAbs = 1) (c2 : Nat.gcd t2.natAbs b2.natAbs = 1) (h : t * b2 = t2 * b) : t = t2 ∧ b = b2 := by
  have e : t.natAbs * b2.natAbs = t2.natAbs * b.natAbs := by rw [← Int.natAbs_mul, ← Int.natAbs_mul, h]
  have d1 : b.natAbs ∣ b2.natAbs := Nat.Coprime.dvd_of_dvd_mul_left (m := t.natAbs) (Nat.Coprime.symm c) ⟨t2.natAbs, by rw [e, Nat.mul_comm]⟩
  have d2 : b2.natAbs ∣ b.natAbs := Nat.Coprime.dvd_of_dvd_mul_left (m := t2.natAbs) (Nat.Coprime.symm c2) ⟨t.natAbs, by rw [← e, Nat.mul_comm]⟩
  have eb : b.natAbs = b2.natAbs := Nat.dvd_antisymm d1 d2
  have eb' : b = b2 := by omega
  subst eb'
  exact ⟨Int.eq_of_mul_eq_mul_right (Int.ne_of_gt hb) h, rfl⟩
end Nv
namespace Nv
open PySem PySem.Spec PyProof.Rows L2
def top (i : Nat) : Stmt := PySem.Challenge.pw_neverowing_k02_shares_are_fractions.main.body.getD i (.Pass ⟨0, 0, 0, 0⟩)
abbrev sCell : Stmt := top 11
abbrev sState : Stmt := top 12
abbrev sTake : Stmt := top 13
section
variable {P : Program} {w : World} {K : PySem.W.Frag} {mg : Str → Option Value} {base : Heap}
theorem scCell : FnScope ["script", "at"] ["script", "at"] (defScope sCell) :=
  ⟨rfl, rfl, rfl, by decide +kernel, rfl, by decide +kernel, by decide +kernel⟩
theorem ok_cell {f : Addr} {fd : FuncData} (F : Fun K "_law_cell" "_law_cell" sCell f fd) (T : Blt mg) :
    FnOk P w K mg base CX0 1 f fd ["script", "at"] (spCel K) := by
  refine F.ok scCell (fun vs H Q E h => ?_) (fun cdv A outer s H vs Q E hr h => ?_)
  · obtain ⟨a, ns, j, rfl, _⟩ := h
    rfl
  · obtain ⟨a, ns, j, rfl, hs, q⟩ := h
    refine ⟨_, pss_cons (ps_if (pt_cmpR op_lt (pv 1) (pe_callB call_len_seq (by rfl) T.len PySem.boot_len (pa_cons (pv 0) pa_nil)) (nomark _))
      (pss_one (ps_ret (pe_callTy call_int1 (by rfl) T.int PyProof.Rows.boot_int (pa_cons (pe_ix ix_list (pv 0) (pv 1) (fun _ _ => rfl)) pa_nil)))) pss_nil)
      (pss_one (ps_ret pe_int)), ?_⟩
    refine ⟨_, rfl, _, rfl, a, _, rfl, .inl hs, _, _, rfl, rfl, _, rfl, ?_⟩
    refine ite2 (fun h => ?_) (fun h => ?_)
    · have lt : j < ns.length := by
        have := of_decide_eq_true h
        rw [List.length_map] at this
        omega
      refine ⟨_, rfl, _, rfl, a, _, _, _, rfl, rfl, hs, atI_nat (v := .int (ns.getD j 0)) ?_, .inl ⟨_, rfl, q⟩⟩
      rw [List.getElem?_map, List.getElem?_eq_getElem lt, List.getD_eq_getElem?_getD, List.getElem?_eq_getElem lt]
      rfl
    · have ge : ns.length ≤ j := by
        have := of_decide_eq_false (Bool.eq_false_iff.mpr h)
        rw [List.length_map] at this
        omega
      rw [List.getD_eq_getElem?_getD, List.getElem?_eq_none ge] at q
      exact q
theorem scState : FnScope ["cell"] ["cell"] (defScope sState) :=
  ⟨rfl, rfl, rfl, by decide +kernel, rfl, by decide +kernel, by decide +kernel⟩
theorem ok_state {f : Addr} {fd : FuncData} (F : Fun K "_law_state" "_law_state" sState f fd) (T : Blt mg) :
    FnOk P w K mg base CX0 1 f fd ["cell"] spSta := by
  refine F.ok scState (fun vs H Q E h => ?_) (fun cdv A outer s H vs Q E hr h => ?_)
  · obtain ⟨n, rfl, _⟩ := h
    rfl
  · obtain ⟨n, rfl, q⟩ := h
    refine ⟨_, pss_cons (ps_if (pt_cmpR op_ge (pe_callB call_abs (by rfl) T.abs PyProof.Rows.boot_abs (pa_cons (pv 0) pa_nil)) (pe_op op_pow pe_int pe_int) (nomark _))
      (pss_one (ps_ret (pe_lst (pa_cons (pe_callB call_abs (by rfl) T.abs PyProof.Rows.boot_abs (pa_cons (pv 0) pa_nil)) (pa_cons pe_int (pa_cons pe_int pa_nil)))))) pss_nil)
      (pss_one (ps_ret (pe_lst (pa_cons pe_int (pa_cons (pe_op op_mod (pe_callTy call_int1 (by rfl) T.int PyProof.Rows.boot_int (pa_cons (pv 0) pa_nil)) pe_int) (pa_cons pe_int pa_nil)))))), ?_⟩
    refine ⟨_, rfl, _, rfl, _, _, rfl, rfl, ⟨by decide, by decide, by decide⟩, _, _, rfl, rfl, _, rfl, ?_⟩
    refine ite2 (fun h => ?_) (fun h => ?_)
    · exact ⟨_, rfl, _, rfl, (by show 3 ≤ sizeLine; decide), fun p hp => q p _ _ _ hp⟩
    · exact ⟨_, rfl, .inl ⟨_, rfl, _, _, rfl, rfl, (by show (0 : Int) < 2147483563; decide), (by show 3 ≤ sizeLine; decide), fun p hp => q p _ _ _ hp⟩⟩
/-- a draw: some number below many, many of any size in use here -/
def spTakW : Sp := fun vs H Q _ => ∃ (p : Addr) (a b c m : Int), vs = [.ref p, .int m] ∧ 0 < m ∧ m.natAbs < 2 ^ 200 ∧
  H p = some (.lst [.int a, .int b, .int c]) ∧
  ∀ (d a' b' c' : Int), 0 ≤ d → d < m → Q (.int d) (upd H p (.lst [.int a', .int b', .int c']))
theorem scTake : FnScope ["state", "many", "digit", "mixed"] ["state", "many"] (defScope sTake) :=
  ⟨rfl, rfl, rfl, by decide +kernel, rfl, by decide +kernel, by decide +kernel⟩
theorem ok_take {f : Addr} {fd : FuncData} (F : Fun K "_law_take" "_law_take" sTake f fd) (T : Blt mg) :
    FnOk P w K mg base CX0 1 f fd ["state", "many"] spTakW := by
  refine F.ok scTake (fun vs H Q E h => ?_) (fun cdv A outer s H vs Q E hr h => ?_)
  · obtain ⟨p, a, b, c, m, rfl, _⟩ := h
    rfl
  · obtain ⟨p, a, b, c, m, rfl, m0, m1, hp, q⟩ := h
    refine ⟨_, pss_cons (ps_if (pt_cmpR op_gt (pe_ix ix_list (pv 0) pe_int (fun _ _ => rfl)) pe_int (nomark _))
        (pss_cons (ps_set (i := 2) scTake.nd rfl (Or.inl rfl) (pe_op op_mod (pe_callTy call_int1 (by rfl) T.int PyProof.Rows.boot_int (pa_cons (pe_ix ix_list (pv 0) pe_int (fun _ _ => rfl)) pa_nil)) (pv 1)))
        (pss_cons (ps_asg (pe_op op_fdivW (pe_ix ix_list (pv 0) pe_int (fun _ _ => rfl)) (pv 1)) (pg_sub (pv 0) pe_int set_list))
        (pss_one (ps_ret (pv 2))))) pss_nil)
      (pss_cons (ps_asg (pe_op op_add (pe_ix ix_list (pv 0) pe_int (fun _ _ => rfl)) pe_int) (pg_sub (pv 0) pe_int set_list))
      (pss_cons (ps_set (i := 3) scTake.nd rfl (Or.inl rfl) (pe_op op_mod (pe_callTy call_int1 (by rfl) T.int PyProof.Rows.boot_int (pa_cons (pe_op op_mul (pe_op op_add (pe_op op_add (pe_ix ix_list (pv 0) pe_int (fun _ _ => rfl)) (pe_op op_mul pe_int (pe_ix ix_list (pv 0) pe_int (fun _ _ => rfl)))) pe_int) pe_int) pa_nil)) pe_int))
      (pss_cons (ps_set (i := 3) scTake.nd rfl (Or.inl rfl) (pe_op op_mod (pe_callTy call_int1 (by rfl) T.int PyProof.Rows.boot_int (pa_cons (pe_op op_mul (pv 3) (pe_op op_add (pe_op op_fdivN (pv 3) pe_int) pe_int)) pa_nil)) pe_int))
      (pss_one (ps_ret (pe_op op_mod (pe_callTy call_int1 (by rfl) T.int PyProof.Rows.boot_int (pa_cons (pe_op op_fdivN (pe_op op_mod (pe_op op_mul (pv 3) (pe_op op_add (pe_op op_fdivN (pv 3) pe_int) pe_int)) pe_int) pe_int) pa_nil)) (pv 1))))))), ?_⟩
    have at0 : atI [V.int a, V.int b, V.int c] 0 = some (.int a) := rfl
    refine ⟨_, rfl, p, _, _, _, rfl, rfl, SqL.of hp, at0, _, _, rfl, rfl, _, rfl, ?_⟩
    refine ite2 (fun h => ?_) (fun h => ?_)
    · refine ⟨_, rfl, p, _, _, _, rfl, rfl, SqL.of hp, at0, .inl ⟨_, rfl, _, rfl, _, _, rfl, rfl, m0, ?_⟩⟩
      refine ⟨_, rfl, p, _, _, _, rfl, rfl, SqL.of hp, at0, _, rfl, _, _, rfl, rfl, wide_div m0 m1 (by decide) (by decide), _, rfl, p, _, _, _, rfl, rfl, hp, (by rfl), _, rfl, ?_⟩
      exact q _ _ _ _ (Int.emod_nonneg _ (by omega)) (Int.emod_lt_of_pos _ m0)
    · have h1 : (upd H p (.lst [.int a, .int b, .int (c + 1)])) p = some (.lst [.int a, .int b, .int (c + 1)]) := upd_same
      refine ⟨_, rfl, p, _, _, _, rfl, rfl, SqL.of hp, (by rfl), _, _, rfl, rfl, _, rfl, p, _, _, _, rfl, rfl, hp, (by rfl), ?_⟩
      refine ⟨_, rfl, p, _, _, _, rfl, rfl, SqL.of h1, (by rfl), _, rfl, p, _, _, _, rfl, rfl, SqL.of h1, (by rfl), _, _, rfl, rfl, .inl ⟨by decide, by decide⟩, _, _, rfl, rfl, _, _, rfl, rfl, _, _, rfl, rfl, .inr ⟨by decide, by decide⟩, .inl ⟨_, rfl, _, _, rfl, rfl, (by show (0 : Int) < 2147483647; decide), ?_⟩⟩
      generalize hx : ((b + 6151 * (c + 1) + 17) * 48271) % 2147483647 = x
      have x0 : 0 ≤ x := by rw [← hx]; exact Int.emod_nonneg _ (by decide)
      have x1 : x < 2147483647 := by rw [← hx]; exact Int.emod_lt_of_pos _ (by decide)
      refine ⟨_, rfl, _, rfl, _, _, rfl, rfl, ⟨by decide, by decide⟩, _, _, rfl, rfl, _, _, rfl, rfl, .inl ⟨by omega, by omega⟩, .inl ⟨_, rfl, _, _, rfl, rfl, (by show (0 : Int) < 2147483399; decide), ?_⟩⟩
      generalize hy : (x * (x.fdiv 1361 + 69621)) % 2147483399 = y
      have y0 : 0 ≤ y := by rw [← hy]; exact Int.emod_nonneg _ (by decide)
      have y1 : y < 2147483399 := by rw [← hy]; exact Int.emod_lt_of_pos _ (by decide)
      refine ⟨_, rfl, _, rfl, _, _, rfl, rfl, ⟨by decide, by decide⟩, _, _, rfl, rfl, _, _, rfl, rfl, .inl ⟨by omega, by omega⟩, _, _, rfl, rfl, (by show (0 : Int) < 2147483563; decide), _, _, rfl, rfl, ⟨by decide, by decide⟩, .inl ⟨_, rfl, _, rfl, _, _, rfl, rfl, m0, ?_⟩⟩
      exact q _ _ _ _ (Int.emod_nonneg _ (by omega)) (Int.emod_lt_of_pos _ m0)
end
end Nv
namespace Nv
open PySem PySem.Spec PyProof.Rows L2
abbrev sIsI : Stmt := top 5
abbrev sExI : Stmt := inClass (top 2) 0
abbrev sShI : Stmt := inClass (top 7) 0
abbrev sLIs : Stmt := top 14
abbrev sNum : Stmt := top 15
section
variable {P : Program} {w : World} {K : PySem.W.Frag} {mg : Str → Option Value} {base : Heap}
/-- is_integer(value) -/
def spIsI (K : PySem.W.Frag) : Sp := fun vs H Q _ => ∃ x : V, vs = [x] ∧ KdOf K H x ∧ Q (.bl (isI x)) H
theorem scIsI : FnScope ["value"] ["value"] (defScope sIsI) :=
  ⟨rfl, rfl, rfl, by decide +kernel, rfl, by decide +kernel, by decide +kernel⟩
theorem ok_isI {f : Addr} {fd : FuncData} (F : Fun K "is_integer" "is_integer" sIsI f fd) (T : Blt mg) :
    FnOk P w K mg base CX0 1 f fd ["value"] (spIsI K) := by
  refine F.ok scIsI (fun vs H Q E h => ?_) (fun cdv A outer s H vs Q E hr h => ?_)
  · obtain ⟨x, rfl, _⟩ := h
    rfl
  · obtain ⟨x, rfl, kd, q⟩ := h
    obtain ⟨t, b1, b2, ty, k1, k2, e⟩ := kd.ex
    refine ⟨_, pss_one (ps_ret (pe_and (pe_callB call_isi (by rfl) T.isi PyProof.Rows.boot_isinstance (pa_cons (pv 0) (pa_cons (pe_bltn (v := .ty "int") (by rfl) T.int PyProof.Rows.boot_int rfl) pa_nil)))
      (pe_one (pe_not (pe_callB call_isi (by rfl) T.isi PyProof.Rows.boot_isinstance (pa_cons (pv 0) (pa_cons (pe_bltn (v := .ty "bool") (by rfl) T.bool PyProof.Rows.boot_bool rfl) pa_nil))))))), ?_⟩
    refine ⟨_, rfl, x, _, t, _, b1, rfl, .ty "int", ty, k1, b1, rfl, ?_⟩
    cases b1 with
    | false =>
      refine iteF ?_
      rw [← e] at q
      exact q
    | true =>
      refine iteT ⟨_, rfl, x, _, t, _, b2, rfl, .ty "bool", ty, k2, b2, rfl, ?_⟩
      rw [← e] at q
      exact q
theorem scExI : FnScope ["self", "what"] ["self", "what"] (defScope sExI) :=
  ⟨rfl, rfl, rfl, by decide +kernel, rfl, by decide +kernel, by decide +kernel⟩
theorem ok_exI {f : Addr} {fd : FuncData} (F : FunD K "__init__" "OweError.__init__" (defArgs sExI) (defBody sExI) (defScope sExI) [.non] [] f fd) :
    FnOk P w K mg base CX0 1 f fd ["self", "what"] (spExI K) := by
  refine F.ok scExI (fun vs H Q E h => ?_) (fun cdv A outer s H vs Q E hr h => ?_)
  · obtain ⟨a, C, v, rfl, _⟩ := h
    rfl
  · obtain ⟨a, C, v, rfl, ox, no, ha, q⟩ := h
    refine ⟨_, pss_one (ps_ost (pv 0) (pv 1)), ?_⟩
    exact ⟨_, rfl, _, rfl, a, C, rfl, ox, no, .inl ⟨ha, fun dx h1 h2 => q dx h1 h2⟩⟩
theorem scLIs : FnScope ["value"] ["value"] (defScope sLIs) :=
  ⟨rfl, rfl, rfl, by decide +kernel, rfl, by decide +kernel, by decide +kernel⟩
theorem ok_lis {f : Addr} {fd : FuncData} (F : Fun K "_law_is_int" "_law_is_int" sLIs f fd) (T : Blt mg) :
    FnOk P w K mg base CX0 1 f fd ["value"] (spIsI K) := by
  refine F.ok scLIs (fun vs H Q E h => ?_) (fun cdv A outer s H vs Q E hr h => ?_)
  · obtain ⟨x, rfl, _⟩ := h
    rfl
  · obtain ⟨x, rfl, kd, q⟩ := h
    obtain ⟨t, b1, b2, ty, k1, k2, e⟩ := kd.ex
    refine ⟨_, pss_one (ps_ret (pe_and (pe_callB call_isi (by rfl) T.isi PyProof.Rows.boot_isinstance (pa_cons (pv 0) (pa_cons (pe_bltn (v := .ty "int") (by rfl) T.int PyProof.Rows.boot_int rfl) pa_nil)))
      (pe_one (pe_not (pe_callB call_isi (by rfl) T.isi PyProof.Rows.boot_isinstance (pa_cons (pv 0) (pa_cons (pe_bltn (v := .ty "bool") (by rfl) T.bool PyProof.Rows.boot_bool rfl) pa_nil))))))), ?_⟩
    refine ⟨_, rfl, x, _, t, _, b1, rfl, .ty "int", ty, k1, b1, rfl, ?_⟩
    cases b1 with
    | false =>
      refine iteF ?_
      rw [← e] at q
      exact q
    | true =>
      refine iteT ⟨_, rfl, x, _, t, _, b2, rfl, .ty "bool", ty, k2, b2, rfl, ?_⟩
      rw [← e] at q
      exact q
/-- a number of some width -/
def spNum : Sp := fun vs H Q _ => ∃ (st : Addr) (G : Hp), vs = [.ref st] ∧ Dr G st H ∧
  ∀ (n : Int) (H' : Hp), n.natAbs ≤ 10 ^ 40 → Dr G st H' → Q (.int n) H'
theorem scNum : FnScope ["state", "wide"] ["state"] (defScope sNum) :=
  ⟨rfl, rfl, rfl, by decide +kernel, rfl, by decide +kernel, by decide +kernel⟩
theorem wides {z : V} (h : z ∈ [V.int 9, V.int 9, V.int 60, V.int (10 ^ (12 : Int).toNat), V.int (10 ^ (40 : Int).toNat)]) :
    ∃ n : Int, z = .int n ∧ 0 < n ∧ n ≤ 10000000000000000000000000000000000000000 := by
  simp only [List.mem_cons, List.not_mem_nil, or_false] at h
  rcases h with rfl | rfl | rfl | rfl | rfl
  · exact ⟨_, rfl, by decide, by decide⟩
  · exact ⟨_, rfl, by decide, by decide⟩
  · exact ⟨_, rfl, by decide, by decide⟩
  · exact ⟨_, rfl, by decide, by decide⟩
  · exact ⟨_, rfl, by decide, by decide⟩
theorem ok_num {f fT : Addr} {fd fdT : FuncData} (F : Fun K "_law_number" "_law_number" sNum f fd) (T : Blt mg)
    (FT : Fun K "_law_take" "_law_take" sTake fT fdT) (mT : mg "_law_take" = some (.ref fT)) (bT : Binds K fdT ["state", "many"] []) :
    FnOk P w K mg base CX0 2 f fd ["state"] spNum := by
  have GT : FnOk P w K mg base CX0 1 fT fdT ["state", "many"] spTakW := ok_take FT T
  refine F.ok scNum (fun vs H Q E h => ?_) (fun cdv A outer s H vs Q E hr h => ?_)
  · obtain ⟨st, G, rfl, _⟩ := h
    rfl
  · obtain ⟨st, G, rfl, D, q⟩ := h
    refine ⟨_, pss_cons (ps_set (i := 1) scNum.nd rfl (Or.inl rfl) (pe_ix ix_list (pe_lst (pa_cons pe_int (pa_cons pe_int (pa_cons pe_int (pa_cons (pe_op op_pow pe_int pe_int) (pa_cons (pe_op op_pow pe_int pe_int) pa_nil))))))
        (pe_call GT hr (by rfl) mT FT.kp bT .nil pass0 (pa_cons (pv 0) (pa_cons pe_int pa_nil))) (fun _ _ => rfl)))
      (pss_one (ps_ret (pe_op op_sub (pe_call GT hr (by rfl) mT FT.kp bT .nil pass0 (pa_cons (pv 0) (pa_cons (pe_op op_add (pe_op op_mul pe_int (pv 1)) pe_int) pa_nil))) (pv 1)))), ?_⟩
    refine ⟨_, _, rfl, rfl, ⟨by decide, by decide, by decide⟩, _, _, rfl, rfl, ⟨by decide, by decide, by decide⟩, (by show 5 ≤ sizeLine; decide), fun p np => ?_⟩
    have nst := D.ne np
    have gp : ∀ o, (upd H p o) p = some o := fun o => upd_same
    have D1 := D.new (o := .lst [.int 9, .int 9, .int 60, .int (10 ^ (12 : Int).toNat), .int (10 ^ (40 : Int).toNat)]) np
    have f1 : (upd G p (.lst [.int 9, .int 9, .int 60, .int (10 ^ (12 : Int).toNat), .int (10 ^ (40 : Int).toNat)])) p = some (.lst [.int 9, .int 9, .int 60, .int (10 ^ (12 : Int).toNat), .int (10 ^ (40 : Int).toNat)]) := upd_same
    have s1 := D.news (o := .lst [.int 9, .int 9, .int 60, .int (10 ^ (12 : Int).toNat), .int (10 ^ (40 : Int).toNat)]) np
    generalize upd G p (.lst [.int 9, .int 9, .int 60, .int (10 ^ (12 : Int).toNat), .int (10 ^ (40 : Int).toNat)]) = G1 at D1 f1 s1
    generalize upd H p (.lst [.int 9, .int 9, .int 60, .int (10 ^ (12 : Int).toNat), .int (10 ^ (40 : Int).toNat)]) = H1 at D1 ⊢
    obtain ⟨a, b, c, e⟩ := D1.at_
    refine ⟨_, rfl, st, a, b, c, 5, rfl, by decide, by decide, e, fun z a' b' c' z0 z1 => ?_⟩
    replace D1 := D1.put (a := a') (b := b') (c := c')
    generalize upd _ st (.lst [.int a', .int b', .int c']) = H2 at D1 ⊢
    obtain ⟨v, hv, mem⟩ := atI_in (xs := [V.int 9, V.int 9, V.int 60, V.int (10 ^ (12 : Int).toNat), V.int (10 ^ (40 : Int).toNat)]) z0 z1
    obtain ⟨n, rfl, n0, n1⟩ := wides mem
    refine ⟨p, _, _, _, rfl, rfl, SqL.of (D1.same _ _ f1), hv, ?_⟩
    obtain ⟨a, b, c, e⟩ := D1.at_
    refine ⟨_, rfl, _, rfl, _, _, rfl, rfl, .inl ⟨by decide, by decide⟩, _, _, rfl, rfl, st, a, b, c, 2 * n + 1, rfl, by omega, by omega, e, fun d a' b' c' d0 d1 => ?_⟩
    replace D1 := D1.put (a := a') (b := b') (c := c')
    refine ⟨_, rfl, _, _, rfl, rfl, ?_⟩
    exact q _ _ (by omega) ⟨s1.trans D1.same, D.free, D1.at_⟩
end
end Nv
namespace Nv
open PySem PySem.Spec PyProof.Rows L2
abbrev sOpd : Stmt := top 8
abbrev sTrm : Stmt := top 9
def CDivA (i j : Int) : Prop := j ≠ 0 ∧ j.natAbs < 2 ^ 8000
theorem op_fdivA {X : Cx} : OpR X (binaryOp .FloorDiv) (rI CDivA fun i j => .int (i.fdiv j)) := opI fun i j _ _ _ _ _ hc q =>
  floordiv_int hc.1 q (.inl (PyProof.noPylong_of_log2 (Nat.lt_of_lt_of_le (PySem.Flt.log2_lt_of (by decide) hc.2) (by decide))))
theorem nTB : ¬ (("top" : Str) = "bottom") := by decide +kernel
def shF (t b : Int) : List (Str × V) := putF "bottom" (.int b) (putF "top" (.int t) [])
theorem shF_bottom (t b : Int) : (shF t b).lookup ("bottom" : Str) = some (.int b) := by unfold shF; rw [lookup_putF, if_pos rfl]
theorem shF_top (t b : Int) : (shF t b).lookup ("top" : Str) = some (.int t) := by unfold shF; rw [lookup_putF, if_neg nTB, lookup_putF, if_pos rfl]
theorem shF_no (t b : Int) {m : Str} (h1 : ¬ m = "top") (h2 : ¬ m = "bottom") : (shF t b).lookup m = none := by
  unfold shF
  rw [lookup_putF, if_neg h2, lookup_putF, if_neg h1]
  rfl
/-- a share t / b stands at p -/
def ShAt (C : Addr) (H : Hp) (p : Addr) (t b : Int) : Prop := ∃ dx, H p = some (.ins C dx (shF t b))
theorem ShAt.same {C : Addr} {H H' : Hp} {p : Addr} {t b : Int} (h : ShAt C H p t b) (k : Same H H') : ShAt C H' p t b := by
  obtain ⟨dx, e⟩ := h
  exact ⟨dx, k _ _ e⟩
/-- what a share can be added to: t / b -/
def Opd (C : Addr) (H : Hp) (y : V) (t b : Int) : Prop := (y = .int t ∧ b = 1) ∨ ∃ q, y = .ref q ∧ ShAt C H q t b
theorem Opd.same {C : Addr} {H H' : Hp} {y : V} {t b : Int} (h : Opd C H y t b) (k : Same H H') : Opd C H' y t b := by
  rcases h with h | ⟨q, e, h⟩
  · exact Or.inl h
  · exact Or.inr ⟨q, e, h.same k⟩
/-- what isinstance of the class at C says of x -/
structure KdS (K : PySem.W.Frag) (C : Addr) (H : Hp) (x : V) (b : Bool) : Prop where
  ex : ∃ t, TyX K H x t ∧ PySem.W.kitOne K t (.ref C) = some b ∧ PySem.W.notFirst K C t = true
/-- the built-in types are none of the class at C -/
structure NoT (K : PySem.W.Frag) (C : Addr) : Prop where
  some_ : ∀ T : String, T ∈ ["int", "NoneType", "str", "tuple", "bool"] → PySem.W.subIn K (.type T) (.ref C) = some false
  cls : PySem.W.isClsIn K C = true
  typ : PySem.W.typeIn K (.ref C) = some (.type "type")
theorem kit_no {K : PySem.W.Frag} {C : Addr} {T : String} {b : Bool} (h : PySem.W.subIn K (.type T) (.ref C) = some b) (h2 : PySem.W.isClsIn K C = true)
    (h3 : PySem.W.typeIn K (.ref C) = some (.type "type")) : PySem.W.kitOne K (.type T) (.ref C) = some b := by
  have z : ((Value.type T) == (Value.ref C)) = false := by rfl
  have e2 : ((PySem.W.clsIn K C).isSome && PySem.W.typeIn K (.ref C) == some (.type "type")) = true := by
    have z : (PySem.W.clsIn K C).isSome = true := h2
    rw [z, h3] <;> rfl
  unfold PySem.W.kitOne
  rw [z]
  unfold PySem.W.kitCls
  exact (if_neg Bool.false_ne_true).trans ((if_pos e2).trans h)
theorem NoT.kd {K : PySem.W.Frag} {C : Addr} {H : Hp} {x : V} {T : String} (n : NoT K C) (m : T ∈ ["int", "NoneType", "str", "tuple", "bool"]) (t : TyX K H x (.type T)) : KdS K C H x false :=
  ⟨_, t, kit_no (n.some_ T m) n.cls n.typ, by unfold PySem.W.notFirst; rw [n.some_ T m]; simp⟩
theorem kds_ins {K : PySem.W.Frag} {C : Addr} {H : Hp} {p dx : Addr} {fs : List (Str × V)} (c : IsC K C) (h : H p = some (.ins C dx fs)) : KdS K C H (.ref p) true :=
  ⟨_, .base (.ins h c.cl c.ha c.hn c.htk c.hm), by unfold PySem.W.kitOne; rw [if_pos (by simp)], by unfold PySem.W.notFirst; simp⟩
section
variable {P : Program} {w : World} {K : PySem.W.Frag} {mg : Str → Option Value} {base : Heap}
structure TSh (K : PySem.W.Frag) (mg : Str → Option Value) (C fI fE CB : Addr) (fdI fdE : FuncData) : Prop where
  cl : Cls K C
  nT : NoAttr K C "top"
  nB : NoAttr K C "bottom"
  mgI : mg "is_integer" = some (.ref fI)
  FI : Fun K "is_integer" "is_integer" sIsI fI fdI
  bI : Binds K fdI ["value"] []
  FE : FunD K "__init__" "OweError.__init__" (defArgs sExI) (defBody sExI) (defScope sExI) [.non] [] fE fdE
  bE : Binds K fdE ["self", "what"] []
  xB : ExC K mg "BadShare" CB fE
  mgG : mg "gcd" = some (.builtin "math.gcd")
  mgS : mg "Share" = some (.ref C)
  isC : IsC K C
  noT : NoT K C
def spShI (K : PySem.W.Frag) (C CB : Addr) : Sp := fun vs H Q E => ∃ (p dx : Addr) (x y : V), vs = [.ref p, x, y] ∧
  H p = some (.ins C dx []) ∧ KdOf K H x ∧ KdOf K H y ∧
  (isI x = false → ∀ d, H d = none → E (.ref CB) (some d) (upd H d (.xd (whatF (.str "top"))))) ∧
  (isI x = true → (isI y = false ∨ y = .int 0) → ∀ d, H d = none → E (.ref CB) (some d) (upd H d (.xd (whatF (.str "bottom"))))) ∧
  (∀ a b, x = .int a → y = .int b → b ≠ 0 → b.natAbs < 2 ^ 8000 ∧
    Q .non (upd H p (.ins C dx (shF (a.fdiv (com a b)) (b.fdiv (com a b))))))
theorem scShI : FnScope ["self", "top", "bottom", "common"] ["self", "top", "bottom"] (defScope sShI) :=
  ⟨rfl, rfl, rfl, by decide +kernel, rfl, by decide +kernel, by decide +kernel⟩
theorem isI_int {x : V} (h : isI x = true) : ∃ i, x = .int i := by
  cases x with
  | int i => exact ⟨i, rfl⟩
  | _ => cases h
theorem ok_shI {f C fI fE CB : Addr} {fd fdI fdE : FuncData}
    (F : FunD K "__init__" "Share.__init__" (defArgs sShI) (defBody sShI) (defScope sShI) [.int 1] [] f fd) (T : Blt mg) (S : TSh K mg C fI fE CB fdI fdE) :
    FnOk P w K mg base (L2.CX P w) 3 f fd ["self", "top", "bottom"] (spShI K C CB) := by
  have GI : FnOk P w K mg base CX0 1 fI fdI ["value"] (spIsI K) := ok_isI S.FI T
  have GE : FnOk P w K mg base CX0 1 fE fdE ["self", "what"] (spExI K) := ok_exI S.FE
  refine F.ok scShI (fun vs H Q E h => ?_) (fun cdv A outer s H vs Q E hr h => ?_)
  · obtain ⟨p, dx, x, y, rfl, _⟩ := h
    rfl
  · obtain ⟨p, dx, x, y, rfl, hp, kx, ky, q1, q2, q3⟩ := h
    have hr1 : Room 1 _ := hr.mono (by decide)
    refine ⟨_, pss_cons (ps_if (pt_not (pt_val (pe_call GI hr1 (by rfl) S.mgI S.FI.kp S.bI .nil pass0 (pa_cons (pv 1) pa_nil))))
        (pss_one (ps_raise rfl (takes_of rfl rfl rfl rfl) (pmk_oex S.xB.ox S.xB.iC S.xB.tI GE hr S.bE .nil pass0 (by rfl) S.xB.gC (pa_cons pe_str pa_nil)))) pss_nil)
      (pss_cons (ps_if (PW.pt (pw_or (pt_not (pt_val (pe_call GI hr1 (by rfl) S.mgI S.FI.kp S.bI .nil pass0 (pa_cons (pv 2) pa_nil)))) (pw_or1 (pt_cmpR op_eq (pv 2) pe_int (nomark _)))))
        (pss_one (ps_raise rfl (takes_of rfl rfl rfl rfl) (pmk_oex S.xB.ox S.xB.iC S.xB.tI GE hr S.bE .nil pass0 (by rfl) S.xB.gC (pa_cons pe_str pa_nil)))) pss_nil)
      (pss_cons (ps_set (i := 3) scShI.nd rfl (Or.inl rfl) (pe_ifExp (pt_cmpR op_gt (pv 2) pe_int (nomark _))
        (pe_callBfun cr_gcd (by rfl) S.mgG (pa_cons (pv 1) (pa_cons (pv 2) pa_nil))) (pe_un un_neg (pe_callBfun cr_gcd (by rfl) S.mgG (pa_cons (pv 1) (pa_cons (pv 2) pa_nil))))))
      (pss_cons (ps_fld (pv 0) (pe_op op_fdivA (pv 1) (pv 3)) rfl)
      (pss_one (ps_fld (pv 0) (pe_op op_fdivA (pv 2) (pv 3)) rfl))))), ?_⟩
    refine ⟨_, rfl, x, rfl, kx, isI x, rfl, ?_⟩
    cases hx : isI x with
    | false => exact iteT (mk_err S.xB (te := tC (.str "top")) (q1 hx) (fun f q => f _ _ q))
    | true =>
      refine iteF ⟨_, rfl, y, rfl, ky, isI y, rfl, ?_⟩
      cases hy : isI y with
      | false => exact iteT (iteT (mk_err S.xB (te := tC (.str "bottom")) (q2 hx (.inl hy)) (fun f q => f _ _ q)))
      | true =>
        obtain ⟨a, rfl⟩ := isI_int hx
        obtain ⟨b, rfl⟩ := isI_int hy
        refine iteF ⟨_, rfl, rfl, _, rfl, ?_⟩
        refine ite2 (fun h => ?_) (fun h => ?_)
        · have hb := of_decide_eq_true h
          exact mk_err S.xB (te := tC (.str "bottom")) (q2 hx (.inr hb)) (fun f q => f _ _ q)
        · have hb : b ≠ 0 := fun z => h (decide_eq_true (congrArg V.int z))
          obtain ⟨sz, q⟩ := q3 a b rfl rfl hb
          have cn := com_ne (a := a) hb
          have cl := com_le (a := a) hb
          have lt : (com a b).natAbs < 2 ^ 8000 := Nat.lt_of_le_of_lt cl sz
          refine ⟨_, rfl, _, _, rfl, rfl, _, rfl, ?_⟩
          have rest : ∀ v : V, v = .int (com a b) → tSeq (sFld K (tVar 0) (tOp (rI CDivA fun i j => .int (i.fdiv j)) (tVar 1) (tVar 3)) "top")
              (sFld K (tVar 0) (tOp (rI CDivA fun i j => .int (i.fdiv j)) (tVar 2) (tVar 3)) "bottom") { nx := fun _ H' => Q .non H', rt := Q }
              [some (.ref p), some (.int a), some (.int b), some v] H := by
            rintro v rfl
            refine ⟨_, rfl, _, rfl, _, _, rfl, rfl, ⟨cn, lt⟩, _, rfl, p, C, dx, _, rfl, hp, S.cl, S.nT, (by show 0 < 1000; decide), ?_⟩
            refine ⟨_, rfl, _, rfl, _, _, rfl, rfl, ⟨cn, lt⟩, _, rfl, p, C, dx, _, rfl, upd_same, S.cl, S.nB, (by show 1 < 1000; decide), ?_⟩
            rw [upd_upd]
            exact q
          refine ite2 (fun h2 => ?_) (fun h2 => ?_)
          · have c1 : b > 0 := of_decide_eq_true h2
            refine ⟨_, rfl, _, rfl, a, b, rfl, rest _ ?_⟩
            unfold com
            rw [if_pos c1]
          · have c1 : ¬ b > 0 := fun z => h2 (decide_eq_true z)
            refine ⟨_, rfl, _, rfl, a, b, rfl, _, rfl, rest _ ?_⟩
            unfold com
            rw [if_neg c1]
/-- is_operand(value) -/
def spOpd (K : PySem.W.Frag) (C : Addr) : Sp := fun vs H Q _ => ∃ (x : V) (b : Bool), vs = [x] ∧ KdS K C H x b ∧ KdOf K H x ∧ Q (.bl (b || isI x)) H
theorem scOpd : FnScope ["value"] ["value"] (defScope sOpd) :=
  ⟨rfl, rfl, rfl, by decide +kernel, rfl, by decide +kernel, by decide +kernel⟩
theorem ok_opd {f C fI fE CB : Addr} {fd fdI fdE : FuncData} (F : Fun K "is_operand" "is_operand" sOpd f fd) (T : Blt mg) (S : TSh K mg C fI fE CB fdI fdE) :
    FnOk P w K mg base CX0 2 f fd ["value"] (spOpd K C) := by
  have GI : FnOk P w K mg base CX0 1 fI fdI ["value"] (spIsI K) := ok_isI S.FI T
  refine F.ok scOpd (fun vs H Q E h => ?_) (fun cdv A outer s H vs Q E hr h => ?_)
  · obtain ⟨x, b, rfl, _⟩ := h
    rfl
  · obtain ⟨x, b, rfl, ks, kd, q⟩ := h
    obtain ⟨t, ty, k1, _⟩ := ks.ex
    refine ⟨_, pss_one (ps_ret (pe_or (pe_callB call_isi (by rfl) T.isi PyProof.Rows.boot_isinstance (pa_cons (pv 0) (pa_cons (pe_glob (v := .ref C) (by rfl) S.mgS rfl) pa_nil)))
      (pe_one (pe_call GI hr (by rfl) S.mgI S.FI.kp S.bI .nil pass0 (pa_cons (pv 0) pa_nil))))), ?_⟩
    refine ⟨_, rfl, x, _, t, _, b, rfl, .own C, ty, k1, b, rfl, ?_⟩
    cases b with
    | true => exact iteT q
    | false => exact iteF ⟨_, rfl, x, rfl, kd, q⟩
/-- terms_of(value) -/
def spTrm (C : Addr) : Sp := fun vs H Q _ => ∃ (y : V) (t b : Int), vs = [y] ∧ Opd C H y t b ∧ ∀ p, H p = none → Q (.ref p) (upd H p (.tup [.int t, .int b]))
theorem scTrm : FnScope ["value"] ["value"] (defScope sTrm) :=
  ⟨rfl, rfl, rfl, by decide +kernel, rfl, by decide +kernel, by decide +kernel⟩
theorem ok_trm {f C fI fE CB : Addr} {fd fdI fdE : FuncData} (F : Fun K "terms_of" "terms_of" sTrm f fd) (T : Blt mg) (S : TSh K mg C fI fE CB fdI fdE) :
    FnOk P w K mg base CX0 1 f fd ["value"] (spTrm C) := by
  refine F.ok scTrm (fun vs H Q E h => ?_) (fun cdv A outer s H vs Q E hr h => ?_)
  · obtain ⟨y, t, b, rfl, _⟩ := h
    rfl
  · obtain ⟨y, t, b, rfl, o, q⟩ := h
    refine ⟨_, pss_cons (ps_if (pt_val (pe_callB call_isi (by rfl) T.isi PyProof.Rows.boot_isinstance (pa_cons (pv 0) (pa_cons (pe_glob (v := .ref C) (by rfl) S.mgS rfl) pa_nil))))
      (pss_one (ps_ret (pe_tup (pa_cons (pe_fld (pv 0) rfl) (pa_cons (pe_fld (pv 0) rfl) pa_nil))))) pss_nil)
      (pss_one (ps_ret (pe_tup (pa_cons (pv 0) (pa_cons pe_int pa_nil))))), ?_⟩
    rcases o with ⟨rfl, rfl⟩ | ⟨p, rfl, dx, e⟩
    · obtain ⟨t', ty, k1, _⟩ := (S.noT.kd (T := "int") (by simp) (.base (.int t)) : KdS K C H (.int t) false).ex
      refine ⟨_, rfl, _, _, t', _, false, rfl, .own C, ty, k1, false, rfl, iteF ?_⟩
      exact ⟨_, rfl, (by show 2 ≤ sizeLine; decide), fun p hp => q p hp⟩
    · obtain ⟨t', ty, k1, _⟩ := (kds_ins S.isC e).ex
      refine ⟨_, rfl, _, _, t', _, true, rfl, .own C, ty, k1, true, rfl, iteT ?_⟩
      exact ⟨_, rfl, p, C, dx, _, _, rfl, e, S.cl, S.nT, shF_top _ _, _, rfl, p, C, dx, _, _, rfl, e, S.cl, S.nB, shF_bottom _ _, (by show 2 ≤ sizeLine; decide), fun p hp => q p hp⟩
end
end Nv
namespace Nv
open PySem PySem.Spec PyProof.Rows L2
abbrev sAdd : Stmt := inClass (top 7) 1
abbrev sRadd : Stmt := inClass (top 7) 2
abbrev sSub : Stmt := inClass (top 7) 3
abbrev sRsub : Stmt := inClass (top 7) 4
abbrev sMul : Stmt := inClass (top 7) 5
abbrev sRmul : Stmt := inClass (top 7) 6
abbrev sNeg : Stmt := inClass (top 7) 7
abbrev sEq : Stmt := inClass (top 7) 8
abbrev sBel : Stmt := inClass (top 7) 9
section
variable {P : Program} {w : World} {K : PySem.W.Frag} {mg : Str → Option Value} {base : Heap}
/-- Share(a, b) of good numbers -/
theorem sh_new {p dx C CB : Addr} {a b : Int} {H : Hp} {Q : VK} {E : XK} (hb : b ≠ 0) (sz : b.natAbs < 2 ^ 8000) (hp : H p = none) (hd : H dx = none) (ne : dx ≠ p)
    (h : ∀ H' t u, Same H H' → ShAt C H' p t u → RS a b t u → Q .non H') :
    spShI K C CB [.ref p, .int a, .int b] (upd (upd H dx (.own p)) p (.ins C dx [])) Q E := by
  refine ⟨p, dx, _, _, rfl, upd_same, kd_int a, kd_int b, (fun e => nomatch e), fun _ e => ?_, fun a' b' ex ey hb' => ⟨?_, ?_⟩⟩
  · rcases e with e | e
    · exact nomatch e
    · exact absurd (V.int.inj e) hb
  · rw [← V.int.inj ey]
    exact sz
  · obtain rfl := V.int.inj ex
    obtain rfl := V.int.inj ey
    refine h _ _ _ (fun c o e => ?_) ⟨dx, upd_same⟩ (rs_com hb)
    rw [upd_upd, upd_ne (ne_of_none e hp), upd_ne (ne_of_none e hd)]
    exact e
/-- the bounds that all numbers here keep -/
def Bd (t b : Int) : Prop := t.natAbs < 2 ^ 1000 ∧ b.natAbs < 2 ^ 1000 ∧ 0 < b
/-- self op other: a new share of f over the product of the bottoms -/
def spBin (C : Addr) (f : Int → Int → Int → Int → Int) : Sp := fun vs H Q _ => ∃ (p : Addr) (y : V) (t b t2 b2 : Int), vs = [.ref p, y] ∧
  ShAt C H p t b ∧ Opd C H y t2 b2 ∧ Bd t b ∧ Bd t2 b2 ∧
  ∀ r H' n u, Same H H' → ShAt C H' r n u → RS (f t b t2 b2) (b * b2) n u → Q (.ref r) H'
def fAdd (t b t2 b2 : Int) : Int := t * b2 + t2 * b
def fSub (t b t2 b2 : Int) : Int := t * b2 - t2 * b
def fRsub (t b t2 b2 : Int) : Int := t2 * b - t * b2
def fMul (t b t2 b2 : Int) : Int := t * t2
def spNeg (C : Addr) : Sp := fun vs H Q _ => ∃ (p : Addr) (t b : Int), vs = [.ref p] ∧ ShAt C H p t b ∧ Bd t b ∧
  ∀ r H' n u, Same H H' → ShAt C H' r n u → RS (-t) b n u → Q (.ref r) H'
/-- what the methods' texts call -/
structure TMe (K : PySem.W.Frag) (mg : Str → Option Value) (C fI fE CB fS fO fTr : Addr) (fdI fdE fdS fdO fdTr : FuncData) : Prop where
  B : Blt mg
  S : TSh K mg C fI fE CB fdI fdE
  M : Mk K C fS
  FS : FunD K "__init__" "Share.__init__" (defArgs sShI) (defBody sShI) (defScope sShI) [.int 1] [] fS fdS
  bS : Binds K fdS ["self", "top", "bottom"] []
  FO : Fun K "is_operand" "is_operand" sOpd fO fdO
  mO : mg "is_operand" = some (.ref fO)
  bO : Binds K fdO ["value"] []
  FTr : Fun K "terms_of" "terms_of" sTrm fTr fdTr
  mTr : mg "terms_of" = some (.ref fTr)
  bTr : Binds K fdTr ["value"] []
variable {C fI fE CB fS fO fTr : Addr} {fdI fdE fdS fdO fdTr : FuncData}
theorem opd_kinds (S : TSh K mg C fI fE CB fdI fdE) {H : Hp} {y : V} {t b : Int} (o : Opd C H y t b) : ∃ k, KdS K C H y k ∧ KdOf K H y ∧ (k || isI y) = true := by
  rcases o with ⟨rfl, rfl⟩ | ⟨p, rfl, dx, e⟩
  · exact ⟨false, S.noT.kd (T := "int") (by simp) (.base (.int t)), kd_int t, rfl⟩
  · exact ⟨true, kds_ins S.isC e, kd_ins S.isC e, rfl⟩
theorem opd_own {H : Hp} {y : V} {t b : Int} (o : Opd C H y t b) : (∃ b dy gs, y = .ref b ∧ H b = some (.ins C dy gs)) ∨ ∃ j, y = .int j := by
  rcases o with ⟨rfl, rfl⟩ | ⟨p, rfl, dx, e⟩
  · exact Or.inr ⟨t, rfl⟩
  · exact Or.inl ⟨p, dx, _, rfl, e⟩
theorem bd_w {a b : Int} (ha : a.natAbs < 2 ^ 1000) (hb : b.natAbs < 2 ^ 1000) : CMulW a b := wide_mul ha hb (by decide) (by decide) (by decide)
theorem bd_p {a b : Int} (ha : a.natAbs < 2 ^ 1000) (hb : b.natAbs < 2 ^ 1000) : (a * b).natAbs < 2 ^ 8000 := bd_le (bd_mul ha hb) (by decide)
theorem pos_ne {a b : Int} (ha : 0 < a) (hb : 0 < b) : a * b ≠ 0 := Int.ne_of_gt (Int.mul_pos ha hb)
theorem scAdd : FnScope ["self", "other", "top", "bottom"] ["self", "other"] (defScope sAdd) :=
  ⟨rfl, rfl, rfl, by decide +kernel, rfl, by decide +kernel, by decide +kernel⟩
theorem ok_add {f : Addr} {fd : FuncData} (F : Fun K "__add__" "Share.__add__" sAdd f fd) (T : TMe K mg C fI fE CB fS fO fTr fdI fdE fdS fdO fdTr) :
    FnOk P w K mg base CX0 5 f fd ["self", "other"] (spBin C fAdd) := by
  have GS : FnOk P w K mg base (L2.CX P w) 3 fS fdS ["self", "top", "bottom"] (spShI K C CB) := ok_shI T.FS T.B T.S
  have GO : FnOk P w K mg base CX0 2 fO fdO ["value"] (spOpd K C) := ok_opd T.FO T.B T.S
  have GT : FnOk P w K mg base CX0 1 fTr fdTr ["value"] (spTrm C) := ok_trm T.FTr T.B T.S
  refine F.ok scAdd (fun vs H Q E h => ?_) (fun cdv A outer s H vs Q E hr h => ?_)
  · obtain ⟨p, y, t, b, t2, b2, rfl, _⟩ := h
    rfl
  · obtain ⟨p, y, t, b, t2, b2, rfl, sp, o, bd, bd2, q⟩ := h
    obtain ⟨dx, e⟩ := id sp
    obtain ⟨k, ks, kd, kt⟩ := opd_kinds T.S o
    refine ⟨_, pss_cons (ps_if (pt_not (pt_val (pe_call GO (hr.mono (by decide)) (by rfl) T.mO T.FO.kp T.bO .nil pass0 (pa_cons (pv 1) pa_nil)))) (pss_one ps_never) pss_nil)
      (pss_cons (ps_asg (pe_call GT (hr.mono (by decide)) (by rfl) T.mTr T.FTr.kp T.bTr .nil pass0 (pa_cons (pv 1) pa_nil)) (pg_tup (by rfl) (pgs_cons (pg_name (i := 2) scAdd.nd rfl (Or.inl rfl)) (pgs_cons (pg_name (i := 3) scAdd.nd rfl (Or.inl rfl)) pgs_nil))))
      (pss_one (ps_ret (pe_make T.M GS hr (by rfl) T.S.mgS T.bS .nil passL (pa_cons (pe_op op_add (pe_op op_mulW (pe_fld (pv 0) rfl) (pv 3)) (pe_op op_mulW (pv 2) (pe_fld (pv 0) rfl))) (pa_cons (pe_op op_mulW (pe_fld (pv 0) rfl) (pv 3)) pa_nil)))))), ?_⟩
    refine ⟨_, rfl, y, k, rfl, ks, kd, _, rfl, ?_⟩
    rw [kt]
    refine iteF ⟨_, rfl, y, t2, b2, rfl, o, fun a na => ⟨a, _, rfl, SqT.of upd_same, rfl, _, _, rfl, _, _, rfl, rfl, ?_⟩⟩
    have e' : (upd H a (.tup [.int t2, .int b2])) p = some (.ins C dx (shF t b)) := by rw [upd_ne (ne_of_none e na)]; exact e
    refine ⟨_, rfl, p, C, dx, _, _, rfl, e', T.S.cl, T.S.nT, shF_top _ _, _, rfl, _, _, rfl, rfl, bd_w bd.1 bd2.2.1, ?_⟩
    refine ⟨_, rfl, _, rfl, p, C, dx, _, _, rfl, e', T.S.cl, T.S.nB, shF_bottom _ _, _, _, rfl, rfl, bd_w bd2.1 bd.2.1, _, _, rfl, rfl, ?_⟩
    refine ⟨_, rfl, p, C, dx, _, _, rfl, e', T.S.cl, T.S.nB, shF_bottom _ _, _, rfl, _, _, rfl, rfl, bd_w bd.2.1 bd2.2.1, ?_⟩
    exact fun x d nx nd ne => sh_new (pos_ne bd.2.2 bd2.2.2) (bd_p bd.2.1 bd2.2.1) nx nd ne fun H' n u sm sh rs => ⟨rfl, q x H' n u ((same_upd na).trans sm) sh rs⟩
theorem scMul : FnScope ["self", "other", "top", "bottom"] ["self", "other"] (defScope sMul) :=
  ⟨rfl, rfl, rfl, by decide +kernel, rfl, by decide +kernel, by decide +kernel⟩
theorem ok_mul {f : Addr} {fd : FuncData} (F : Fun K "__mul__" "Share.__mul__" sMul f fd) (T : TMe K mg C fI fE CB fS fO fTr fdI fdE fdS fdO fdTr) :
    FnOk P w K mg base CX0 5 f fd ["self", "other"] (spBin C fMul) := by
  have GS : FnOk P w K mg base (L2.CX P w) 3 fS fdS ["self", "top", "bottom"] (spShI K C CB) := ok_shI T.FS T.B T.S
  have GO : FnOk P w K mg base CX0 2 fO fdO ["value"] (spOpd K C) := ok_opd T.FO T.B T.S
  have GT : FnOk P w K mg base CX0 1 fTr fdTr ["value"] (spTrm C) := ok_trm T.FTr T.B T.S
  refine F.ok scMul (fun vs H Q E h => ?_) (fun cdv A outer s H vs Q E hr h => ?_)
  · obtain ⟨p, y, t, b, t2, b2, rfl, _⟩ := h
    rfl
  · obtain ⟨p, y, t, b, t2, b2, rfl, sp, o, bd, bd2, q⟩ := h
    obtain ⟨dx, e⟩ := id sp
    obtain ⟨k, ks, kd, kt⟩ := opd_kinds T.S o
    refine ⟨_, pss_cons (ps_if (pt_not (pt_val (pe_call GO (hr.mono (by decide)) (by rfl) T.mO T.FO.kp T.bO .nil pass0 (pa_cons (pv 1) pa_nil)))) (pss_one ps_never) pss_nil)
      (pss_cons (ps_asg (pe_call GT (hr.mono (by decide)) (by rfl) T.mTr T.FTr.kp T.bTr .nil pass0 (pa_cons (pv 1) pa_nil)) (pg_tup (by rfl) (pgs_cons (pg_name (i := 2) scMul.nd rfl (Or.inl rfl)) (pgs_cons (pg_name (i := 3) scMul.nd rfl (Or.inl rfl)) pgs_nil))))
      (pss_one (ps_ret (pe_make T.M GS hr (by rfl) T.S.mgS T.bS .nil passL (pa_cons (pe_op op_mulW (pe_fld (pv 0) rfl) (pv 2)) (pa_cons (pe_op op_mulW (pe_fld (pv 0) rfl) (pv 3)) pa_nil)))))), ?_⟩
    refine ⟨_, rfl, y, k, rfl, ks, kd, _, rfl, ?_⟩
    rw [kt]
    refine iteF ⟨_, rfl, y, t2, b2, rfl, o, fun a na => ⟨a, _, rfl, SqT.of upd_same, rfl, _, _, rfl, _, _, rfl, rfl, ?_⟩⟩
    have e' : (upd H a (.tup [.int t2, .int b2])) p = some (.ins C dx (shF t b)) := by rw [upd_ne (ne_of_none e na)]; exact e
    refine ⟨_, rfl, p, C, dx, _, _, rfl, e', T.S.cl, T.S.nT, shF_top _ _, _, rfl, _, _, rfl, rfl, bd_w bd.1 bd2.1, ?_⟩
    refine ⟨_, rfl, p, C, dx, _, _, rfl, e', T.S.cl, T.S.nB, shF_bottom _ _, _, rfl, _, _, rfl, rfl, bd_w bd.2.1 bd2.2.1, ?_⟩
    exact fun x d nx nd ne => sh_new (pos_ne bd.2.2 bd2.2.2) (bd_p bd.2.1 bd2.2.1) nx nd ne fun H' n u sm sh rs => ⟨rfl, q x H' n u ((same_upd na).trans sm) sh rs⟩
theorem scNeg : FnScope ["self"] ["self"] (defScope sNeg) := ⟨rfl, rfl, rfl, by decide +kernel, rfl, by decide +kernel, by decide +kernel⟩
theorem ok_neg {f : Addr} {fd : FuncData} (F : Fun K "__neg__" "Share.__neg__" sNeg f fd) (T : TMe K mg C fI fE CB fS fO fTr fdI fdE fdS fdO fdTr) :
    FnOk P w K mg base CX0 5 f fd ["self"] (spNeg C) := by
  have GS : FnOk P w K mg base (L2.CX P w) 3 fS fdS ["self", "top", "bottom"] (spShI K C CB) := ok_shI T.FS T.B T.S
  refine F.ok scNeg (fun vs H Q E h => ?_) (fun cdv A outer s H vs Q E hr h => ?_)
  · obtain ⟨p, t, b, rfl, _⟩ := h
    rfl
  · obtain ⟨p, t, b, rfl, ⟨dx, e⟩, bd, q⟩ := h
    refine ⟨_, pss_one (ps_ret (pe_make T.M GS hr (by rfl) T.S.mgS T.bS .nil passL (pa_cons (pe_un un_neg (pe_fld (pv 0) rfl)) (pa_cons (pe_fld (pv 0) rfl) pa_nil)))), ?_⟩
    refine ⟨_, rfl, p, C, dx, _, _, rfl, e, T.S.cl, T.S.nT, shF_top _ _, _, rfl, _, rfl, p, C, dx, _, _, rfl, e, T.S.cl, T.S.nB, shF_bottom _ _, ?_⟩
    exact fun x d nx nd ne => sh_new (Int.ne_of_gt bd.2.2) (bd_le bd.2.1 (by decide)) nx nd ne fun H' n u sm sh rs => ⟨rfl, q x H' n u sm sh rs⟩
/-- == -/
def spEqS (K : PySem.W.Frag) (C : Addr) : Sp := fun vs H Q _ => ∃ (p : Addr) (y : V) (t b : Int) (k : Bool), vs = [.ref p, y] ∧ ShAt C H p t b ∧ KdS K C H y k ∧
  (k = true → ∃ q t2 b2, y = .ref q ∧ ShAt C H q t2 b2 ∧ Q (.bl (decide (t = t2) && decide (b = b2))) H) ∧ (k = false → Q (.bl false) H)
theorem scEq : FnScope ["self", "other"] ["self", "other"] (defScope sEq) := ⟨rfl, rfl, rfl, by decide +kernel, rfl, by decide +kernel, by decide +kernel⟩
theorem dec_int' {i j : Int} : decide (V.int i = V.int j) = decide (i = j) := by
  rw [Bool.eq_iff_iff]
  simp
theorem ok_eq {f : Addr} {fd : FuncData} (F : Fun K "__eq__" "Share.__eq__" sEq f fd) (T : Blt mg) (S : TSh K mg C fI fE CB fdI fdE) :
    FnOk P w K mg base CX0 1 f fd ["self", "other"] (spEqS K C) := by
  refine F.ok scEq (fun vs H Q E h => ?_) (fun cdv A outer s H vs Q E hr h => ?_)
  · obtain ⟨p, y, t, b, k, rfl, _⟩ := h
    rfl
  · obtain ⟨p, y, t, b, k, rfl, ⟨dx, e⟩, ks, q1, q2⟩ := h
    obtain ⟨ty, h1, h2, _⟩ := ks.ex
    refine ⟨_, pss_one (ps_ret (pe_and (pe_callB call_isi (by rfl) T.isi PyProof.Rows.boot_isinstance (pa_cons (pv 1) (pa_cons (pe_glob (v := .ref C) (by rfl) S.mgS rfl) pa_nil)))
      (pe_and (pe_cmpR op_eq (pe_fld (pv 0) rfl) (pe_fld (pv 1) rfl) (nomark _)) (pe_one (pe_cmpR op_eq (pe_fld (pv 0) rfl) (pe_fld (pv 1) rfl) (nomark _)))))), ?_⟩
    refine ⟨_, rfl, y, _, ty, _, k, rfl, .own C, h1, h2, k, rfl, ?_⟩
    cases k with
    | false => exact iteF (q2 rfl)
    | true =>
      obtain ⟨q, t2, b2, rfl, ⟨dy, e2⟩, qq⟩ := q1 rfl
      refine iteT ⟨_, rfl, p, C, dx, _, _, rfl, e, S.cl, S.nT, shF_top _ _, _, rfl, q, C, dy, _, _, rfl, e2, S.cl, S.nT, shF_top _ _, rfl, _, rfl, ?_⟩
      rw [dec_int']
      cases h : decide (t = t2) with
      | false =>
        rw [h] at qq
        exact iteF qq
      | true =>
        rw [h] at qq
        refine iteT ⟨_, rfl, p, C, dx, _, _, rfl, e, S.cl, S.nB, shF_bottom _ _, _, rfl, q, C, dy, _, _, rfl, e2, S.cl, S.nB, shF_bottom _ _, rfl, ?_⟩
        rw [dec_int']
        exact qq
/-- below -/
def spBel (C : Addr) : Sp := fun vs H Q _ => ∃ (p : Addr) (y : V) (t b t2 b2 : Int), vs = [.ref p, y] ∧ ShAt C H p t b ∧ Opd C H y t2 b2 ∧ Bd t b ∧ Bd t2 b2 ∧
  ∀ H', Same H H' → Q (.bl (decide (t * b2 < t2 * b))) H'
theorem scBel : FnScope ["self", "x", "top", "bottom"] ["self", "x"] (defScope sBel) := ⟨rfl, rfl, rfl, by decide +kernel, rfl, by decide +kernel, by decide +kernel⟩
theorem ok_bel {f : Addr} {fd : FuncData} (F : Fun K "below" "Share.below" sBel f fd) (T : TMe K mg C fI fE CB fS fO fTr fdI fdE fdS fdO fdTr) :
    FnOk P w K mg base CX0 2 f fd ["self", "x"] (spBel C) := by
  have GT : FnOk P w K mg base CX0 1 fTr fdTr ["value"] (spTrm C) := ok_trm T.FTr T.B T.S
  refine F.ok scBel (fun vs H Q E h => ?_) (fun cdv A outer s H vs Q E hr h => ?_)
  · obtain ⟨p, y, t, b, t2, b2, rfl, _⟩ := h
    rfl
  · obtain ⟨p, y, t, b, t2, b2, rfl, ⟨dx, e⟩, o, bd, bd2, q⟩ := h
    refine ⟨_, pss_cons (ps_asg (pe_call GT hr (by rfl) T.mTr T.FTr.kp T.bTr .nil pass0 (pa_cons (pv 1) pa_nil)) (pg_tup (by rfl) (pgs_cons (pg_name (i := 2) scBel.nd rfl (Or.inl rfl)) (pgs_cons (pg_name (i := 3) scBel.nd rfl (Or.inl rfl)) pgs_nil))))
      (pss_one (ps_ret (pe_cmpR op_lt (pe_op op_mulW (pe_fld (pv 0) rfl) (pv 3)) (pe_op op_mulW (pv 2) (pe_fld (pv 0) rfl)) (nomark _)))), ?_⟩
    refine ⟨_, rfl, y, t2, b2, rfl, o, fun a na => ⟨a, _, rfl, SqT.of upd_same, rfl, _, _, rfl, _, _, rfl, rfl, ?_⟩⟩
    have e' : (upd H a (.tup [.int t2, .int b2])) p = some (.ins C dx (shF t b)) := by rw [upd_ne (ne_of_none e na)]; exact e
    refine ⟨_, rfl, p, C, dx, _, _, rfl, e', T.S.cl, T.S.nT, shF_top _ _, _, rfl, _, _, rfl, rfl, bd_w bd.1 bd2.2.1, ?_⟩
    exact ⟨_, rfl, _, rfl, p, C, dx, _, _, rfl, e', T.S.cl, T.S.nB, shF_bottom _ _, _, _, rfl, rfl, bd_w bd2.1 bd.2.1, _, _, rfl, rfl, q _ (same_upd na)⟩
end
end Nv
namespace Nv
open PySem PySem.Spec PyProof.Rows L2
section
variable {P : Program} {w : World} {K : PySem.W.Frag} {mg : Str → Option Value} {base : Heap}
/-- the operators' methods -/
structure TOp (K : PySem.W.Frag) (mg : Str → Option Value) (C fI fE CB fS fO fTr fA fRA fSu fRS fMu fRM fN : Addr) (fdI fdE fdS fdO fdTr fdA fdM fdN : FuncData) : Prop where
  T : TMe K mg C fI fE CB fS fO fTr fdI fdE fdS fdO fdTr
  FA : Fun K "__add__" "Share.__add__" sAdd fA fdA
  bA : Binds K fdA ["self", "other"] []
  FM : Fun K "__mul__" "Share.__mul__" sMul fMu fdM
  bM : Binds K fdM ["self", "other"] []
  FN : Fun K "__neg__" "Share.__neg__" sNeg fN fdN
  bN : Binds K fdN ["self"] []
  oA : OpC K C .Add fA fRA
  oS : OpC K C .Sub fSu fRS
  oM : OpC K C .Mult fMu fRM
  nN : PySem.W.findIn K (.ref C) "__neg__" = some (some (.ref fN))
  iN : PySem.W.isFn K (.ref fN) = true
variable {C fI fE CB fS fO fTr fA fRA fSu fRS fMu fRM fN : Addr} {fdI fdE fdS fdO fdTr fdA fdM fdN : FuncData}
theorem scRadd : FnScope ["self", "other"] ["self", "other"] (defScope sRadd) := ⟨rfl, rfl, rfl, by decide +kernel, rfl, by decide +kernel, by decide +kernel⟩
theorem ok_radd {f : Addr} {fd : FuncData} (F : Fun K "__radd__" "Share.__radd__" sRadd f fd) (O : TOp K mg C fI fE CB fS fO fTr fA fRA fSu fRS fMu fRM fN fdI fdE fdS fdO fdTr fdA fdM fdN) :
    FnOk P w K mg base CX0 6 f fd ["self", "other"] (spBin C fAdd) := by
  have GA : FnOk P w K mg base CX0 5 fA fdA ["self", "other"] (spBin C fAdd) := ok_add O.FA O.T
  refine F.ok scRadd (fun vs H Q E h => ?_) (fun cdv A outer s H vs Q E hr h => ?_)
  · obtain ⟨p, y, t, b, t2, b2, rfl, _⟩ := h
    rfl
  · obtain ⟨p, y, t, b, t2, b2, rfl, sp, o, bd, bd2, q⟩ := h
    obtain ⟨dx, e⟩ := id sp
    refine ⟨_, pss_one (ps_ret (pe_op (op_own O.oA GA hr O.bA pass0) (pv 0) (pv 1))), ?_⟩
    exact ⟨_, rfl, _, rfl, p, dx, _, rfl, e, opd_own o, p, y, t, b, t2, b2, rfl, sp, o, bd, bd2, q⟩
theorem scRmul : FnScope ["self", "other"] ["self", "other"] (defScope sRmul) := ⟨rfl, rfl, rfl, by decide +kernel, rfl, by decide +kernel, by decide +kernel⟩
theorem ok_rmul {f : Addr} {fd : FuncData} (F : Fun K "__rmul__" "Share.__rmul__" sRmul f fd) (O : TOp K mg C fI fE CB fS fO fTr fA fRA fSu fRS fMu fRM fN fdI fdE fdS fdO fdTr fdA fdM fdN) :
    FnOk P w K mg base CX0 6 f fd ["self", "other"] (spBin C fMul) := by
  have GM : FnOk P w K mg base CX0 5 fMu fdM ["self", "other"] (spBin C fMul) := ok_mul O.FM O.T
  refine F.ok scRmul (fun vs H Q E h => ?_) (fun cdv A outer s H vs Q E hr h => ?_)
  · obtain ⟨p, y, t, b, t2, b2, rfl, _⟩ := h
    rfl
  · obtain ⟨p, y, t, b, t2, b2, rfl, sp, o, bd, bd2, q⟩ := h
    obtain ⟨dx, e⟩ := id sp
    refine ⟨_, pss_one (ps_ret (pe_op (op_own O.oM GM hr O.bM pass0) (pv 0) (pv 1))), ?_⟩
    exact ⟨_, rfl, _, rfl, p, dx, _, rfl, e, opd_own o, p, y, t, b, t2, b2, rfl, sp, o, bd, bd2, q⟩
theorem rs_bd {n d t u : Int} (rs : RS n d t u) (h : Bd n d) : Bd t u := ⟨Nat.lt_of_le_of_lt rs.lt h.1, Nat.lt_of_le_of_lt rs.lb h.2.1, rs.pos⟩
theorem bd_neg {t b : Int} (h : Bd t b) : Bd (-t) b := ⟨by rw [Int.natAbs_neg]; exact h.1, h.2⟩
theorem scSub : FnScope ["self", "other"] ["self", "other"] (defScope sSub) := ⟨rfl, rfl, rfl, by decide +kernel, rfl, by decide +kernel, by decide +kernel⟩
theorem ok_sub {f : Addr} {fd : FuncData} (F : Fun K "__sub__" "Share.__sub__" sSub f fd) (O : TOp K mg C fI fE CB fS fO fTr fA fRA fSu fRS fMu fRM fN fdI fdE fdS fdO fdTr fdA fdM fdN) :
    FnOk P w K mg base CX0 6 f fd ["self", "other"] (spBin C fSub) := by
  have GA : FnOk P w K mg base CX0 5 fA fdA ["self", "other"] (spBin C fAdd) := ok_add O.FA O.T
  have GN : FnOk P w K mg base CX0 5 fN fdN ["self"] (spNeg C) := ok_neg O.FN O.T
  have GO : FnOk P w K mg base CX0 2 fO fdO ["value"] (spOpd K C) := ok_opd O.T.FO O.T.B O.T.S
  refine F.ok scSub (fun vs H Q E h => ?_) (fun cdv A outer s H vs Q E hr h => ?_)
  · obtain ⟨p, y, t, b, t2, b2, rfl, _⟩ := h
    rfl
  · obtain ⟨p, y, t, b, t2, b2, rfl, sp, o, bd, bd2, q⟩ := h
    obtain ⟨dx, e⟩ := id sp
    obtain ⟨k, ks, kd, kt⟩ := opd_kinds O.T.S o
    refine ⟨_, pss_cons (ps_if (pt_not (pt_val (pe_call GO (hr.mono (by decide)) (by rfl) O.T.mO O.T.FO.kp O.T.bO .nil pass0 (pa_cons (pv 1) pa_nil)))) (pss_one ps_never) pss_nil)
      (pss_one (ps_ret (pe_op (op_own O.oA GA hr O.bA pass0) (pv 0) (pe_un (UnR.or un_neg (un_own O.nN O.iN GN hr O.bN pass0)) (pv 1))))), ?_⟩
    refine ⟨_, rfl, y, k, rfl, ks, kd, _, rfl, ?_⟩
    rw [kt]
    refine iteF ⟨_, rfl, _, rfl, ?_⟩
    rcases o with ⟨rfl, rfl⟩ | ⟨q2, rfl, sp2⟩
    · refine .inl ⟨t2, rfl, p, dx, _, rfl, e, .inr ⟨_, rfl⟩, p, _, t, b, -t2, 1, rfl, sp, .inl ⟨rfl, rfl⟩, bd, bd_neg bd2, fun r H' n u sm sh rs => q r H' n u sm sh ?_⟩
      refine rs_of (pos_ne bd.2.2 bd2.2.2) rs.pos rs.cop ?_
      have := rs.eq
      unfold fAdd at this
      unfold fSub
      grind
    · obtain ⟨dy, e2⟩ := id sp2
      refine .inr ⟨q2, dy, _, rfl, e2, q2, t2, b2, rfl, sp2, bd2, fun r H1 n u sm sh rs => ?_⟩
      refine ⟨p, dx, _, rfl, sm _ _ e, opd_own (.inr ⟨r, rfl, sh⟩), p, _, t, b, n, u, rfl, sp.same sm, .inr ⟨r, rfl, sh⟩, bd, rs_bd rs (bd_neg bd2), fun r' H' n' u' sm' sh' rs' => q r' H' n' u' (sm.trans sm') sh' ?_⟩
      refine rs_of (pos_ne bd.2.2 bd2.2.2) rs'.pos rs'.cop ?_
      have h1 := rs.eq
      have h2 := rs'.eq
      have u0 : u ≠ 0 := Int.ne_of_gt rs.pos
      unfold fAdd at h2
      unfold fSub
      apply Int.eq_of_mul_eq_mul_right u0
      grind
theorem scRsub : FnScope ["self", "other"] ["self", "other"] (defScope sRsub) := ⟨rfl, rfl, rfl, by decide +kernel, rfl, by decide +kernel, by decide +kernel⟩
theorem ok_rsub {f : Addr} {fd : FuncData} (F : Fun K "__rsub__" "Share.__rsub__" sRsub f fd) (O : TOp K mg C fI fE CB fS fO fTr fA fRA fSu fRS fMu fRM fN fdI fdE fdS fdO fdTr fdA fdM fdN) :
    FnOk P w K mg base CX0 6 f fd ["self", "other"] (spBin C fRsub) := by
  have GA : FnOk P w K mg base CX0 5 fA fdA ["self", "other"] (spBin C fAdd) := ok_add O.FA O.T
  have GN : FnOk P w K mg base CX0 5 fN fdN ["self"] (spNeg C) := ok_neg O.FN O.T
  refine F.ok scRsub (fun vs H Q E h => ?_) (fun cdv A outer s H vs Q E hr h => ?_)
  · obtain ⟨p, y, t, b, t2, b2, rfl, _⟩ := h
    rfl
  · obtain ⟨p, y, t, b, t2, b2, rfl, sp, o, bd, bd2, q⟩ := h
    obtain ⟨dx, e⟩ := id sp
    refine ⟨_, pss_one (ps_ret (pe_op (op_own O.oA GA hr O.bA pass0) (pe_un (un_own O.nN O.iN GN hr O.bN pass0) (pv 0)) (pv 1))), ?_⟩
    refine ⟨_, rfl, p, dx, _, rfl, e, p, t, b, rfl, sp, bd, fun r H1 n u sm sh rs => ⟨_, rfl, ?_⟩⟩
    obtain ⟨dy, e2⟩ := id sh
    refine ⟨r, dy, _, rfl, e2, opd_own (o.same sm), r, y, n, u, t2, b2, rfl, sh, o.same sm, rs_bd rs (bd_neg bd), bd2, fun r' H' n' u' sm' sh' rs' => q r' H' n' u' (sm.trans sm') sh' ?_⟩
    refine rs_of (pos_ne bd.2.2 bd2.2.2) rs'.pos rs'.cop ?_
    have h1 := rs.eq
    have h2 := rs'.eq
    have u0 : u ≠ 0 := Int.ne_of_gt rs.pos
    unfold fAdd at h2
    unfold fRsub
    apply Int.eq_of_mul_eq_mul_right u0
    grind
end
end Nv
namespace Nv
open PySem PySem.Spec PyProof.Rows L2
abbrev sIsh : Stmt := top 16
section
variable {P : Program} {w : World} {K : PySem.W.Frag} {mg : Str → Option Value} {base : Heap}
theorem fib400 : (10 : Nat) ^ 80 < fib 400 := by decide +kernel
theorem gcd_turn (x y : Nat) : Nat.gcd y (x % y) = Nat.gcd x y := by
  rw [Nat.gcd_comm y, ← Nat.gcd_rec, Nat.gcd_comm]
/-- _law_is_share: it is one -/
def spIsh (C : Addr) : Sp := fun vs H Q _ => ∃ (r : Addr) (n d t u : Int), vs = [.ref r, .int n, .int d] ∧ ShAt C H r t u ∧ 0 < u ∧
  Nat.gcd t.natAbs u.natAbs = 1 ∧ t * d = n * u ∧ u.natAbs ≤ 10 ^ 80 ∧ t.natAbs < 2 ^ 1000 ∧ n.natAbs < 2 ^ 1000 ∧ d.natAbs < 2 ^ 1000 ∧ Q (.bl true) H
theorem scIsh : FnScope ["value", "top", "bottom", "one", "other", "turn", "rest"] ["value", "top", "bottom"] (defScope sIsh) :=
  ⟨rfl, rfl, rfl, by decide +kernel, rfl, by decide +kernel, by decide +kernel⟩
theorem ok_ish {f C fI fE CB fL : Addr} {fd fdI fdE fdL : FuncData} (F : Fun K "_law_is_share" "_law_is_share" sIsh f fd) (T : Blt mg) (S : TSh K mg C fI fE CB fdI fdE)
    (FL : Fun K "_law_is_int" "_law_is_int" sLIs fL fdL) (mL : mg "_law_is_int" = some (.ref fL)) (bL : Binds K fdL ["value"] []) :
    FnOk P w K mg base CX0 2 f fd ["value", "top", "bottom"] (spIsh C) := by
  have GL : FnOk P w K mg base CX0 1 fL fdL ["value"] (spIsI K) := ok_lis FL T
  refine F.ok scIsh (fun vs H Q E h => ?_) (fun cdv A outer s H vs Q E hr h => ?_)
  · obtain ⟨r, n, d, t, u, rfl, _⟩ := h
    rfl
  · obtain ⟨r, n, d, t, u, rfl, ⟨dx, e⟩, u0, cop, eq, ul, tl, nl, dl, q⟩ := h
    refine ⟨_, pss_cons (ps_if (PW.pt (pw_or (pt_not (pt_val (pe_callB call_isi (by rfl) T.isi PyProof.Rows.boot_isinstance (pa_cons (pv 0) (pa_cons (pe_glob (v := .ref C) (by rfl) S.mgS rfl) pa_nil)))))
          (pw_or (pt_not (pt_val (pe_call GL hr (by rfl) mL FL.kp bL .nil pass0 (pa_cons (pe_fld (pv 0) rfl) pa_nil)))) (pw_or1 (pt_not (pt_val (pe_call GL hr (by rfl) mL FL.kp bL .nil pass0 (pa_cons (pe_fld (pv 0) rfl) pa_nil))))))))
        (pss_one (ps_ret pe_bl)) pss_nil)
      (pss_cons (ps_if (PW.pt (pw_or (pt_cmpR op_lt (pe_fld (pv 0) rfl) pe_int (nomark _)) (pw_or1 (pt_cmpR op_ne (pe_op op_mulW (pe_fld (pv 0) rfl) (pv 2)) (pe_op op_mulW (pv 1) (pe_fld (pv 0) rfl)) (nomark _)))))
        (pss_one (ps_ret pe_bl)) pss_nil)
      (pss_cons (ps_set (i := 3) scIsh.nd rfl (Or.inl rfl) (pe_callB call_abs (by rfl) T.abs PyProof.Rows.boot_abs (pa_cons (pe_fld (pv 0) rfl) pa_nil)))
      (pss_cons (ps_set (i := 4) scIsh.nd rfl (Or.inl rfl) (pe_fld (pv 0) rfl))
      (pss_cons (ps_for PassesOwn.never rfl (pi_range1 (by rfl) T.rng (pa_cons pe_int pa_nil)) (pg_name (i := 5) scIsh.nd rfl (Or.inl rfl))
        (pss_one (ps_if (pt_cmpR op_gt (pv 4) pe_int (nomark _))
          (pss_cons (ps_set (i := 6) scIsh.nd rfl (Or.inl rfl) (pe_op op_mod (pe_callTy call_int1 (by rfl) T.int PyProof.Rows.boot_int (pa_cons (pv 3) pa_nil)) (pe_callTy call_int1 (by rfl) T.int PyProof.Rows.boot_int (pa_cons (pv 4) pa_nil))))
          (pss_cons (ps_set (i := 3) scIsh.nd rfl (Or.inl rfl) (pv 4)) (pss_one (ps_set (i := 4) scIsh.nd rfl (Or.inl rfl) (pv 6))))) pss_nil)))
      (pss_one (ps_ret (pe_cmpR op_eq (pv 3) pe_int (nomark _)))))))), ?_⟩
    obtain ⟨ty, k1, k2, _⟩ := (kds_ins S.isC e).ex
    refine ⟨_, rfl, _, _, ty, _, true, rfl, .own C, k1, k2, true, rfl, iteF ?_⟩
    refine ⟨_, rfl, r, C, dx, _, _, rfl, e, S.cl, S.nT, shF_top _ _, _, rfl, kd_int t, true, rfl, iteF ?_⟩
    refine ⟨_, rfl, r, C, dx, _, _, rfl, e, S.cl, S.nB, shF_bottom _ _, _, rfl, kd_int u, true, rfl, iteF ?_⟩
    refine ⟨_, rfl, r, C, dx, _, _, rfl, e, S.cl, S.nB, shF_bottom _ _, _, _, rfl, rfl, _, rfl, ?_⟩
    refine ite2 (fun h => absurd (of_decide_eq_true h) (by omega)) (fun _ => ?_)
    have ub : u.natAbs < 2 ^ 1000 := Nat.lt_of_le_of_lt ul (by decide)
    refine ⟨_, rfl, r, C, dx, _, _, rfl, e, S.cl, S.nT, shF_top _ _, _, rfl, _, _, rfl, rfl, bd_w tl dl, _, rfl, _, rfl, r, C, dx, _, _, rfl, e, S.cl, S.nB, shF_bottom _ _, _, _, rfl, rfl, bd_w nl ub, rfl, _, rfl, ?_⟩
    refine iteNS (congrArg V.int eq) ?_
    refine ⟨_, rfl, r, C, dx, _, _, rfl, e, S.cl, S.nT, shF_top _ _, _, rfl, _, rfl, r, C, dx, _, _, rfl, e, S.cl, S.nB, shF_bottom _ _, ?_⟩
    refine ⟨400, rfl, by decide, by decide, for_range (lo := 0) (n := 400) (fun i σ H' => H' = H ∧ ∃ (x y : Nat) (v5 v6 : Option V), σ = [some (.ref r), some (.int n), some (.int d), some (.int (x : Int)), some (.int (y : Int)), v5, v6] ∧
      Nat.gcd x y = 1 ∧ (i = 0 → (y : Int) = u) ∧ (0 < i → Eu (400 - i) (x : Int) (y : Int))) ?_ ?_ ?_⟩
    · refine ⟨rfl, t.natAbs, u.natAbs, none, none, ?_, cop, fun _ => by omega, fun z => absurd z (Nat.lt_irrefl 0)⟩
      have e1 : (if t < 0 then -t else t) = (t.natAbs : Int) := by split <;> omega
      have e2 : u = (u.natAbs : Int) := by omega
      show [some (V.ref r), some (V.int n), some (V.int d), some (V.int (if t < 0 then -t else t)), some (V.int u), none, none] = _
      rw [e1, ← e2]
    · rintro i σ H' hi ⟨rfl, x, y, v5, v6, rfl, g1, i0, i1⟩
      refine ⟨_, rfl, _, _, rfl, rfl, _, rfl, ?_⟩
      refine ite2 (fun h => ?_) (fun h => ?_)
      · have y0 : (0 : Int) < y := of_decide_eq_true h
        refine ⟨_, rfl, .inl ⟨_, rfl, _, rfl, .inl ⟨_, rfl, _, _, rfl, rfl, y0, _, rfl, _, rfl, ?_⟩⟩⟩
        refine ⟨rfl, y, x % y, _, _, rfl, by rw [gcd_turn]; exact g1, fun z => absurd z (Nat.succ_ne_zero i), fun _ => ?_⟩
        have cast : ((x % y : Nat) : Int) = (x : Int) % (y : Int) := Int.natCast_emod x y
        rw [cast]
        by_cases iz : i = 0
        · subst iz
          have yu := i0 rfl
          have r1 : (x : Int) % (y : Int) < y := Int.emod_lt_of_pos _ y0
          refine Or.inr ⟨r1, Or.inl ?_⟩
          have f4 := fib400
          have : (u.natAbs : Int) ≤ ((10 ^ 80 : Nat) : Int) := by exact_mod_cast ul
          have h4 : ((10 ^ 80 : Nat) : Int) < (fib 400 : Int) := by exact_mod_cast f4
          show (x : Int) % (y : Int) < (fib 400 : Int)
          omega
        · have := i1 (Nat.pos_of_ne_zero iz)
          rw [show 400 - i = (400 - (i + 1)) + 1 by omega] at this
          exact Eu.step y0 this
      · have y0 : y = 0 := by
          have : ¬ (0 : Int) < y := fun z => h (decide_eq_true z)
          omega
        refine ⟨rfl, x, y, _, _, rfl, g1, fun z => absurd z (Nat.succ_ne_zero i), fun _ => Or.inl (by omega)⟩
    · rintro σ H' ⟨rfl, x, y, v5, v6, rfl, g1, _, i1⟩
      have y0 : (y : Int) = 0 := Eu.zero (by omega) (i1 (by decide))
      have y1 : y = 0 := by omega
      subst y1
      rw [Nat.gcd_zero_right] at g1
      subst g1
      refine ⟨_, rfl, rfl, ?_⟩
      show Q (.bl (decide (V.int ((1 : Nat) : Int) = V.int 1))) _
      rw [decide_eq_true (show V.int ((1 : Nat) : Int) = V.int 1 from rfl)]
      exact q
end
end Nv
namespace Nv
open PySem PySem.Spec PyProof.Rows L2
abbrev sSums : Stmt := top 17
section
variable {P : Program} {w : World} {K : PySem.W.Frag} {mg : Str → Option Value} {base : Heap}
/-- all that _law_sums calls -/
structure TSu (K : PySem.W.Frag) (mg : Str → Option Value) (C fI fE CB fS fO fTr fA fRA fSu fRS fMu fRM fN fL fIs : Addr) (fdI fdE fdS fdO fdTr fdA fdM fdN fdRA fdSu fdRS fdRM fdL fdIs : FuncData) : Prop where
  O : TOp K mg C fI fE CB fS fO fTr fA fRA fSu fRS fMu fRM fN fdI fdE fdS fdO fdTr fdA fdM fdN
  FRA : Fun K "__radd__" "Share.__radd__" sRadd fRA fdRA
  bRA : Binds K fdRA ["self", "other"] []
  FSu : Fun K "__sub__" "Share.__sub__" sSub fSu fdSu
  bSu : Binds K fdSu ["self", "other"] []
  FRS : Fun K "__rsub__" "Share.__rsub__" sRsub fRS fdRS
  bRS : Binds K fdRS ["self", "other"] []
  FRM : Fun K "__rmul__" "Share.__rmul__" sRmul fRM fdRM
  bRM : Binds K fdRM ["self", "other"] []
  FL : Fun K "_law_is_int" "_law_is_int" sLIs fL fdL
  mL : mg "_law_is_int" = some (.ref fL)
  bL : Binds K fdL ["value"] []
  FIs : Fun K "_law_is_share" "_law_is_share" sIsh fIs fdIs
  mIs : mg "_law_is_share" = some (.ref fIs)
  bIs : Binds K fdIs ["value", "top", "bottom"] []
variable {C fI fE CB fS fO fTr fA fRA fSu fRS fMu fRM fN fL fIs : Addr} {fdI fdE fdS fdO fdTr fdA fdM fdN fdRA fdSu fdRS fdRM fdL fdIs : FuncData}
/-- a drawn number -/
def Nb (n : Int) : Prop := n.natAbs ≤ 10 ^ 40
/-- t / b is a / d in lowest terms, a and d drawn -/
structure Rep (t b a d : Int) : Prop where
  pos : 0 < b
  d0 : d ≠ 0
  eq : t * d = a * b
  tl : t.natAbs ≤ a.natAbs
  bl : b.natAbs ≤ d.natAbs
  na : Nb a
  nd : Nb d
theorem Rep.bd {t b a d : Int} (r : Rep t b a d) : Bd t b :=
  ⟨Nat.lt_of_le_of_lt (Nat.le_trans r.tl r.na) (by decide), Nat.lt_of_le_of_lt (Nat.le_trans r.bl r.nd) (by decide), r.pos⟩
theorem nb_w {a b : Int} (ha : Nb a) (hb : Nb b) : CMulW a b := bd_w (Nat.lt_of_le_of_lt ha (by decide)) (Nat.lt_of_le_of_lt hb (by decide))
theorem nbm {a b : Int} (ha : Nb a) (hb : Nb b) : (a * b).natAbs ≤ 10 ^ 80 := by
  rw [Int.natAbs_mul]
  exact Nat.le_trans (Nat.mul_le_mul ha hb) (by decide)
theorem lt_1000 {n : Nat} (h : n ≤ 10 ^ 80 + 10 ^ 80) : n < 2 ^ 1000 := Nat.lt_of_le_of_lt h (by decide +kernel)
/-- the shape of what is handed to _law_is_share -/
structure Ish (n u N D : Int) : Prop where
  a : 0 < u
  b : Nat.gcd n.natAbs u.natAbs = 1
  c : n * D = N * u
  d : u.natAbs ≤ 10 ^ 80
  e : n.natAbs < 2 ^ 1000
  f : N.natAbs < 2 ^ 1000
  g : D.natAbs < 2 ^ 1000
theorem ish {n u N D X bb : Int} (u0 : 0 < u) (cop : Nat.gcd n.natAbs u.natAbs = 1) (bn : bb ≠ 0)
    (e1 : n * bb = X * u) (e2 : X * D = N * bb) (D0 : D.natAbs ≤ 10 ^ 80) (Dn : D ≠ 0) (N0 : N.natAbs ≤ 10 ^ 80 + 10 ^ 80) : Ish n u N D := by
  have eq : n * D = N * u := by
    apply Int.eq_of_mul_eq_mul_right bn
    grind
  have rs := rs_of Dn u0 cop eq
  exact ⟨u0, cop, eq, Nat.le_trans rs.lb D0, lt_1000 (Nat.le_trans rs.lt N0), lt_1000 N0, lt_1000 (Nat.le_trans D0 (Nat.le_add_left _ _))⟩
/-- _law_sums -/
def spSums (C : Addr) : Sp := fun vs H Q _ => ∃ (p o1 o2 : Addr) (y : V) (t b t2 b2 a d a2 d2 : Int), vs = [.ref p, y, .ref o1, .ref o2] ∧ ShAt C H p t b ∧ Opd C H y t2 b2 ∧
  H o1 = some (.tup [.int a, .int d]) ∧ H o2 = some (.tup [.int a2, .int d2]) ∧ Rep t b a d ∧ Rep t2 b2 a2 d2 ∧ ∀ H', Same H H' → Q (.bl true) H'
theorem scSums : FnScope ["share", "other", "one", "two", "sums", "less", "product"] ["share", "other", "one", "two"] (defScope sSums) :=
  ⟨rfl, rfl, rfl, by decide +kernel, rfl, by decide +kernel, by decide +kernel⟩
theorem sum_nb {a b c d : Int} (ha : Nb a) (hb : Nb b) (hc : Nb c) (hd : Nb d) : (a * b + c * d).natAbs ≤ 10 ^ 80 + 10 ^ 80 :=
  Nat.le_trans (Int.natAbs_add_le _ _) (Nat.add_le_add (nbm ha hb) (nbm hc hd))
theorem sub_nb {a b c d : Int} (ha : Nb a) (hb : Nb b) (hc : Nb c) (hd : Nb d) : (a * b - c * d).natAbs ≤ 10 ^ 80 + 10 ^ 80 :=
  Nat.le_trans (Int.natAbs_sub_le _ _) (Nat.add_le_add (nbm ha hb) (nbm hc hd))
/-- other op share, other a share or an int -/
theorem rev_op {fo fr : Int → Int → Int → Int → Int} (hf : ∀ t b t2 b2, fo t2 b2 t b = fr t b t2 b2) {H : Hp} {p : Addr} {y : V} {t b t2 b2 : Int} {Q : VK}
    (sp : ShAt C H p t b) (o : Opd C H y t2 b2) (bd : Bd t b) (bd2 : Bd t2 b2)
    (h : ∀ r H' n u, Same H H' → ShAt C H' r n u → 0 < u → Nat.gcd n.natAbs u.natAbs = 1 → n * (b * b2) = fr t b t2 b2 * u → Q (.ref r) H') :
    rOwn C (spBin C fo) E0 y (.ref p) H Q ∨ rRef C (spBin C fr) E0 y (.ref p) H Q := by
  obtain ⟨dx, e⟩ := id sp
  rcases o with ⟨rfl, rfl⟩ | ⟨q, rfl, sp2⟩
  · exact Or.inr ⟨t2, p, dx, _, rfl, rfl, e, p, _, t, b, t2, 1, rfl, sp, .inl ⟨rfl, rfl⟩, bd, bd2, fun r H' n u sm sh rs => h r H' n u sm sh rs.pos rs.cop rs.eq⟩
  · obtain ⟨dy, e2⟩ := id sp2
    refine Or.inl ⟨q, dy, _, rfl, e2, .inl ⟨p, dx, _, rfl, e⟩, q, _, t2, b2, t, b, rfl, sp2, .inr ⟨p, rfl, sp⟩, bd2, bd, fun r H' n u sm sh rs => h r H' n u sm sh rs.pos rs.cop ?_⟩
    rw [Int.mul_comm b b2, ← hf]
    exact rs.eq
theorem ok_sums {f : Addr} {fd : FuncData} (F : Fun K "_law_sums" "_law_sums" sSums f fd) (T : TSu K mg C fI fE CB fS fO fTr fA fRA fSu fRS fMu fRM fN fL fIs fdI fdE fdS fdO fdTr fdA fdM fdN fdRA fdSu fdRS fdRM fdL fdIs) :
    FnOk P w K mg base CX0 7 f fd ["share", "other", "one", "two"] (spSums C) := by
  have GA : FnOk P w K mg base CX0 5 fA fdA ["self", "other"] (spBin C fAdd) := ok_add T.O.FA T.O.T
  have GM : FnOk P w K mg base CX0 5 fMu fdM ["self", "other"] (spBin C fMul) := ok_mul T.O.FM T.O.T
  have GRA : FnOk P w K mg base CX0 6 fRA fdRA ["self", "other"] (spBin C fAdd) := ok_radd T.FRA T.O
  have GSu : FnOk P w K mg base CX0 6 fSu fdSu ["self", "other"] (spBin C fSub) := ok_sub T.FSu T.O
  have GRS : FnOk P w K mg base CX0 6 fRS fdRS ["self", "other"] (spBin C fRsub) := ok_rsub T.FRS T.O
  have GRM : FnOk P w K mg base CX0 6 fRM fdRM ["self", "other"] (spBin C fMul) := ok_rmul T.FRM T.O
  have GI : FnOk P w K mg base CX0 2 fIs fdIs ["value", "top", "bottom"] (spIsh C) := ok_ish T.FIs T.O.T.B T.O.T.S T.FL T.mL T.bL
  refine F.ok scSums (fun vs H Q E h => ?_) (fun cdv A outer s H vs Q E hr h => ?_)
  · obtain ⟨p, o1, o2, y, t, b, t2, b2, a, d, a2, d2, rfl, _⟩ := h
    rfl
  · obtain ⟨p, o1, o2, y, t, b, t2, b2, a, d, a2, d2, rfl, sp, o, t1, t2', r1, r2, q⟩ := h
    have hr5 : Room 5 _ := hr.mono (by decide)
    have hr2 : Room 2 _ := hr.mono (by decide)
    refine ⟨_, pss_cons (ps_set (i := 4) scSums.nd rfl (Or.inl rfl) (pe_tup (pa_cons (pe_op op_add (pe_op op_mulW (pe_ix ix_tup (pv 2) pe_int (fun _ _ => rfl)) (pe_ix ix_tup (pv 3) pe_int (fun _ _ => rfl))) (pe_op op_mulW (pe_ix ix_tup (pv 3) pe_int (fun _ _ => rfl)) (pe_ix ix_tup (pv 2) pe_int (fun _ _ => rfl))))
          (pa_cons (pe_op op_mulW (pe_ix ix_tup (pv 2) pe_int (fun _ _ => rfl)) (pe_ix ix_tup (pv 3) pe_int (fun _ _ => rfl))) pa_nil))))
      (pss_cons (ps_set (i := 5) scSums.nd rfl (Or.inl rfl) (pe_tup (pa_cons (pe_op op_sub (pe_op op_mulW (pe_ix ix_tup (pv 2) pe_int (fun _ _ => rfl)) (pe_ix ix_tup (pv 3) pe_int (fun _ _ => rfl))) (pe_op op_mulW (pe_ix ix_tup (pv 3) pe_int (fun _ _ => rfl)) (pe_ix ix_tup (pv 2) pe_int (fun _ _ => rfl))))
          (pa_cons (pe_op op_mulW (pe_ix ix_tup (pv 2) pe_int (fun _ _ => rfl)) (pe_ix ix_tup (pv 3) pe_int (fun _ _ => rfl))) pa_nil))))
      (pss_cons (ps_if (PW.pt (pw_or (pt_not (pt_val (pe_call GI hr2 (by rfl) T.mIs T.FIs.kp T.bIs .nil pass0 (pa_cons (pe_op (op_own T.O.oA GA hr5 T.O.bA pass0) (pv 0) (pv 1)) (pa_cons (pe_ix ix_tup (pv 4) pe_int (fun _ _ => rfl)) (pa_cons (pe_ix ix_tup (pv 4) pe_int (fun _ _ => rfl)) pa_nil))))))
          (pw_or1 (pt_not (pt_val (pe_call GI hr2 (by rfl) T.mIs T.FIs.kp T.bIs .nil pass0 (pa_cons (pe_op (op_own T.O.oS GSu hr T.bSu pass0) (pv 0) (pv 1)) (pa_cons (pe_ix ix_tup (pv 5) pe_int (fun _ _ => rfl)) (pa_cons (pe_ix ix_tup (pv 5) pe_int (fun _ _ => rfl)) pa_nil)))))))))
        (pss_one (ps_ret pe_bl)) pss_nil)
      (pss_cons (ps_if (PW.pt (pw_or (pt_not (pt_val (pe_call GI hr2 (by rfl) T.mIs T.FIs.kp T.bIs .nil pass0 (pa_cons (pe_op (OpR.or (op_own T.O.oA GA hr5 T.O.bA pass0) (op_ref T.O.oA GRA hr T.bRA pass0 no_add)) (pv 1) (pv 0)) (pa_cons (pe_ix ix_tup (pv 4) pe_int (fun _ _ => rfl)) (pa_cons (pe_ix ix_tup (pv 4) pe_int (fun _ _ => rfl)) pa_nil))))))
          (pw_or1 (pt_not (pt_val (pe_call GI hr2 (by rfl) T.mIs T.FIs.kp T.bIs .nil pass0 (pa_cons (pe_op (OpR.or (op_own T.O.oS GSu hr T.bSu pass0) (op_ref T.O.oS GRS hr T.bRS pass0 no_sub)) (pv 1) (pv 0)) (pa_cons (pe_un un_neg (pe_ix ix_tup (pv 5) pe_int (fun _ _ => rfl))) (pa_cons (pe_ix ix_tup (pv 5) pe_int (fun _ _ => rfl)) pa_nil)))))))))
        (pss_one (ps_ret pe_bl)) pss_nil)
      (pss_cons (ps_set (i := 6) scSums.nd rfl (Or.inl rfl) (pe_tup (pa_cons (pe_op op_mulW (pe_ix ix_tup (pv 2) pe_int (fun _ _ => rfl)) (pe_ix ix_tup (pv 3) pe_int (fun _ _ => rfl))) (pa_cons (pe_op op_mulW (pe_ix ix_tup (pv 2) pe_int (fun _ _ => rfl)) (pe_ix ix_tup (pv 3) pe_int (fun _ _ => rfl))) pa_nil))))
      (pss_cons (ps_if (pt_not (pt_val (pe_call GI hr2 (by rfl) T.mIs T.FIs.kp T.bIs .nil pass0 (pa_cons (pe_op (op_own T.O.oM GM hr5 T.O.bM pass0) (pv 0) (pv 1)) (pa_cons (pe_ix ix_tup (pv 6) pe_int (fun _ _ => rfl)) (pa_cons (pe_ix ix_tup (pv 6) pe_int (fun _ _ => rfl)) pa_nil))))))
        (pss_one (ps_ret pe_bl)) pss_nil)
      (pss_one (ps_ret (pe_call GI hr2 (by rfl) T.mIs T.FIs.kp T.bIs .nil pass0 (pa_cons (pe_op (OpR.or (op_own T.O.oM GM hr5 T.O.bM pass0) (op_ref T.O.oM GRM hr T.bRM pass0 no_mul)) (pv 1) (pv 0)) (pa_cons (pe_ix ix_tup (pv 6) pe_int (fun _ _ => rfl)) (pa_cons (pe_ix ix_tup (pv 6) pe_int (fun _ _ => rfl)) pa_nil))))))))))), ?_⟩
    have i0 : ∀ x y : Int, atI [V.int x, V.int y] 0 = some (.int x) := fun _ _ => rfl
    have i1 : ∀ x y : Int, atI [V.int x, V.int y] 1 = some (.int y) := fun _ _ => rfl
    have bd := r1.bd
    have bd2 := r2.bd
    have D0 : d * d2 ≠ 0 := Int.mul_ne_zero r1.d0 r2.d0
    have bb : b * b2 ≠ 0 := pos_ne bd.2.2 bd2.2.2
    have bb' : b2 * b ≠ 0 := pos_ne bd2.2.2 bd.2.2
    have h1 := r1.eq
    have h2 := r2.eq
    -- sums, less
    refine ⟨_, rfl, o1, _, _, _, rfl, rfl, SqT.of t1, i0 _ _, _, rfl, o2, _, _, _, rfl, rfl, SqT.of t2', i1 _ _, _, _, rfl, rfl, nb_w r1.na r2.nd, ?_⟩
    refine ⟨_, rfl, o2, _, _, _, rfl, rfl, SqT.of t2', i0 _ _, _, rfl, o1, _, _, _, rfl, rfl, SqT.of t1, i1 _ _, _, _, rfl, rfl, nb_w r2.na r1.nd, _, _, rfl, rfl, ?_⟩
    refine ⟨_, rfl, o1, _, _, _, rfl, rfl, SqT.of t1, i1 _ _, _, rfl, o2, _, _, _, rfl, rfl, SqT.of t2', i1 _ _, _, _, rfl, rfl, nb_w r1.nd r2.nd, (by show 2 ≤ sizeLine; decide), fun s1 n1 => ?_⟩
    have k1 : Same H (upd H s1 (.tup [.int (a * d2 + a2 * d), .int (d * d2)])) := same_upd n1
    have g1 : (upd H s1 (.tup [.int (a * d2 + a2 * d), .int (d * d2)])) s1 = some (.tup [.int (a * d2 + a2 * d), .int (d * d2)]) := upd_same
    generalize upd H s1 (.tup [.int (a * d2 + a2 * d), .int (d * d2)]) = H1 at k1 g1 ⊢
    refine ⟨_, rfl, o1, _, _, _, rfl, rfl, SqT.of (k1 _ _ t1), i0 _ _, _, rfl, o2, _, _, _, rfl, rfl, SqT.of (k1 _ _ t2'), i1 _ _, _, _, rfl, rfl, nb_w r1.na r2.nd, ?_⟩
    refine ⟨_, rfl, o2, _, _, _, rfl, rfl, SqT.of (k1 _ _ t2'), i0 _ _, _, rfl, o1, _, _, _, rfl, rfl, SqT.of (k1 _ _ t1), i1 _ _, _, _, rfl, rfl, nb_w r2.na r1.nd, _, _, rfl, rfl, ?_⟩
    refine ⟨_, rfl, o1, _, _, _, rfl, rfl, SqT.of (k1 _ _ t1), i1 _ _, _, rfl, o2, _, _, _, rfl, rfl, SqT.of (k1 _ _ t2'), i1 _ _, _, _, rfl, rfl, nb_w r1.nd r2.nd, (by show 2 ≤ sizeLine; decide), fun s2 n2 => ?_⟩
    have k2 : Same H1 (upd H1 s2 (.tup [.int (a * d2 - a2 * d), .int (d * d2)])) := same_upd n2
    have g2 : (upd H1 s2 (.tup [.int (a * d2 - a2 * d), .int (d * d2)])) s2 = some (.tup [.int (a * d2 - a2 * d), .int (d * d2)]) := upd_same
    generalize upd H1 s2 (.tup [.int (a * d2 - a2 * d), .int (d * d2)]) = H2 at k2 g2 ⊢
    replace g1 := k2 _ _ g1
    replace k1 := k1.trans k2
    have nS := sum_nb r1.na r2.nd r2.na r1.nd
    have nL := sub_nb r1.na r2.nd r2.na r1.nd
    have nD := nbm r1.nd r2.nd
    -- share + other
    obtain ⟨dx, e⟩ := id (sp.same k1)
    refine ⟨_, rfl, _, rfl, p, dx, _, rfl, e, opd_own (o.same k1), p, y, t, b, t2, b2, rfl, sp.same k1, o.same k1, bd, bd2, fun r H3 n u k3 sh rs => ?_⟩
    have z : Ish n u (a * d2 + a2 * d) (d * d2) := ish rs.pos rs.cop bb rs.eq (by unfold fAdd; grind) nD D0 nS
    refine ⟨_, rfl, s1, _, _, _, rfl, rfl, SqT.of (k3 _ _ g1), i0 _ _, _, rfl, s1, _, _, _, rfl, rfl, SqT.of (k3 _ _ g1), i1 _ _, r, _, _, n, u, rfl, sh, z.a, z.b, z.c, z.d, z.e, z.f, z.g, true, rfl, iteF ?_⟩
    replace g1 := k3 _ _ g1
    replace g2 := k3 _ _ g2
    replace k1 := k1.trans k3
    clear e z sh rs k3
    -- share - other
    obtain ⟨dx, e⟩ := id (sp.same k1)
    refine ⟨_, rfl, _, rfl, p, dx, _, rfl, e, opd_own (o.same k1), p, y, t, b, t2, b2, rfl, sp.same k1, o.same k1, bd, bd2, fun r H4 n u k3 sh rs => ?_⟩
    have z : Ish n u (a * d2 - a2 * d) (d * d2) := ish rs.pos rs.cop bb rs.eq (by unfold fSub; grind) nD D0 nL
    refine ⟨_, rfl, s2, _, _, _, rfl, rfl, SqT.of (k3 _ _ g2), i0 _ _, _, rfl, s2, _, _, _, rfl, rfl, SqT.of (k3 _ _ g2), i1 _ _, r, _, _, n, u, rfl, sh, z.a, z.b, z.c, z.d, z.e, z.f, z.g, true, rfl, iteF ?_⟩
    replace g1 := k3 _ _ g1
    replace g2 := k3 _ _ g2
    replace k1 := k1.trans k3
    clear e z sh rs k3
    -- other + share
    refine ⟨_, rfl, _, rfl, rev_op (fun t b t2 b2 => by unfold fAdd; grind) (sp.same k1) (o.same k1) bd bd2 fun r H5 n u k3 sh u0 cop eq => ?_⟩
    have z : Ish n u (a * d2 + a2 * d) (d * d2) := ish u0 cop bb eq (by unfold fAdd; grind) nD D0 nS
    refine ⟨_, rfl, s1, _, _, _, rfl, rfl, SqT.of (k3 _ _ g1), i0 _ _, _, rfl, s1, _, _, _, rfl, rfl, SqT.of (k3 _ _ g1), i1 _ _, r, _, _, n, u, rfl, sh, z.a, z.b, z.c, z.d, z.e, z.f, z.g, true, rfl, iteF ?_⟩
    replace g1 := k3 _ _ g1
    replace g2 := k3 _ _ g2
    replace k1 := k1.trans k3
    clear z sh k3 eq u0 cop
    -- other - share
    refine ⟨_, rfl, _, rfl, rev_op (fun t b t2 b2 => by unfold fSub fRsub; grind) (sp.same k1) (o.same k1) bd bd2 fun r H6 n u k3 sh u0 cop eq => ?_⟩
    have z : Ish n u (-(a * d2 - a2 * d)) (d * d2) := ish u0 cop bb eq (by unfold fRsub; grind) nD D0 (by rw [Int.natAbs_neg]; exact nL)
    refine ⟨_, rfl, s2, _, _, _, rfl, rfl, SqT.of (k3 _ _ g2), i0 _ _, _, rfl, _, rfl, s2, _, _, _, rfl, rfl, SqT.of (k3 _ _ g2), i1 _ _, r, _, _, n, u, rfl, sh, z.a, z.b, z.c, z.d, z.e, z.f, z.g, true, rfl, iteF ?_⟩
    replace k1 := k1.trans k3
    clear z sh k3 eq u0 cop g1 g2
    -- product
    refine ⟨_, rfl, o1, _, _, _, rfl, rfl, SqT.of (k1 _ _ t1), i0 _ _, _, rfl, o2, _, _, _, rfl, rfl, SqT.of (k1 _ _ t2'), i0 _ _, _, _, rfl, rfl, nb_w r1.na r2.na, ?_⟩
    refine ⟨_, rfl, o1, _, _, _, rfl, rfl, SqT.of (k1 _ _ t1), i1 _ _, _, rfl, o2, _, _, _, rfl, rfl, SqT.of (k1 _ _ t2'), i1 _ _, _, _, rfl, rfl, nb_w r1.nd r2.nd, (by show 2 ≤ sizeLine; decide), fun s3 n3 => ?_⟩
    have k3 : Same H6 (upd H6 s3 (.tup [.int (a * a2), .int (d * d2)])) := same_upd n3
    have g3 : (upd H6 s3 (.tup [.int (a * a2), .int (d * d2)])) s3 = some (.tup [.int (a * a2), .int (d * d2)]) := upd_same
    generalize upd H6 s3 (.tup [.int (a * a2), .int (d * d2)]) = H7 at k3 g3 ⊢
    replace k1 := k1.trans k3
    clear k3
    have nP : (a * a2).natAbs ≤ 10 ^ 80 + 10 ^ 80 := Nat.le_trans (nbm r1.na r2.na) (Nat.le_add_left _ _)
    -- share * other
    obtain ⟨dx, e⟩ := id (sp.same k1)
    refine ⟨_, rfl, _, rfl, p, dx, _, rfl, e, opd_own (o.same k1), p, y, t, b, t2, b2, rfl, sp.same k1, o.same k1, bd, bd2, fun r H8 n u k3 sh rs => ?_⟩
    have z : Ish n u (a * a2) (d * d2) := ish rs.pos rs.cop bb rs.eq (by unfold fMul; grind) nD D0 nP
    refine ⟨_, rfl, s3, _, _, _, rfl, rfl, SqT.of (k3 _ _ g3), i0 _ _, _, rfl, s3, _, _, _, rfl, rfl, SqT.of (k3 _ _ g3), i1 _ _, r, _, _, n, u, rfl, sh, z.a, z.b, z.c, z.d, z.e, z.f, z.g, true, rfl, iteF ?_⟩
    replace g3 := k3 _ _ g3
    replace k1 := k1.trans k3
    clear e z sh rs k3
    -- other * share
    refine ⟨_, rfl, _, rfl, rev_op (fun t b t2 b2 => by unfold fMul; grind) (sp.same k1) (o.same k1) bd bd2 fun r H9 n u k3 sh u0 cop eq => ?_⟩
    have z : Ish n u (a * a2) (d * d2) := ish u0 cop bb eq (by unfold fMul; grind) nD D0 nP
    exact ⟨_, rfl, s3, _, _, _, rfl, rfl, SqT.of (k3 _ _ g3), i0 _ _, _, rfl, s3, _, _, _, rfl, rfl, SqT.of (k3 _ _ g3), i1 _ _, r, _, _, n, u, rfl, sh, z.a, z.b, z.c, z.d, z.e, z.f, z.g, q _ (k1.trans k3)⟩
end
end Nv
namespace Nv
open PySem PySem.Spec PyProof.Rows L2
abbrev sLaw : Stmt := top 18
/-- all that the law's def calls -/
structure TLaw (K : PySem.W.Frag) (mg : Str → Option Value) (C fI fE CB fS fO fTr fA fRA fSu fRS fMu fRM fN fL fIs fC fSt fT fNu fSm fEq fBe : Addr) (fdI fdE fdS fdO fdTr fdA fdM fdN fdRA fdSu fdRS fdRM fdL fdIs fdC fdSt fdT fdNu fdSm fdEq fdBe : FuncData) : Prop where
  U : TSu K mg C fI fE CB fS fO fTr fA fRA fSu fRS fMu fRM fN fL fIs fdI fdE fdS fdO fdTr fdA fdM fdN fdRA fdSu fdRS fdRM fdL fdIs
  FC : Fun K "_law_cell" "_law_cell" sCell fC fdC
  mC : mg "_law_cell" = some (.ref fC)
  bC : Binds K fdC ["script", "at"] []
  FSt : Fun K "_law_state" "_law_state" sState fSt fdSt
  mSt : mg "_law_state" = some (.ref fSt)
  bSt : Binds K fdSt ["cell"] []
  FT : Fun K "_law_take" "_law_take" sTake fT fdT
  mT : mg "_law_take" = some (.ref fT)
  bT : Binds K fdT ["state", "many"] []
  FNu : Fun K "_law_number" "_law_number" sNum fNu fdNu
  mNu : mg "_law_number" = some (.ref fNu)
  bNu : Binds K fdNu ["state"] []
  FSm : Fun K "_law_sums" "_law_sums" sSums fSm fdSm
  mSm : mg "_law_sums" = some (.ref fSm)
  bSm : Binds K fdSm ["share", "other", "one", "two"] []
  FEq : Fun K "__eq__" "Share.__eq__" sEq fEq fdEq
  bEq : Binds K fdEq ["self", "other"] []
  eqC : PySem.W.findIn K (.ref C) "__eq__" = some (some (.ref fEq))
  eqF : PySem.W.isFn K (.ref fEq) = true
  FBe : Fun K "below" "Share.below" sBel fBe fdBe
  bBe : Binds K fdBe ["self", "x"] []
  mBe : Meth K C "below" fBe
  bS1 : ∃ ds, Vals [V.int 1] ds ∧ Binds K fdS ["self", "top", "bottom"] ds
  bSK : KBn K fdS ["self", "top", "bottom"] 1 ["top", "bottom"] (fun us ws => us ++ ws) (fun vs zs => vs ++ zs)
  bBK : KBn K fdBe ["self", "x"] 1 ["x"] (fun us ws => us ++ ws) (fun vs zs => vs ++ zs)
def spLaw (K : PySem.W.Frag) : Sp := fun vs H Q _ => ∃ (a : Addr) (ns : List Int), vs = [.ref a] ∧ ns.length ≤ 63 ∧
  SqL K H a (ns.map V.int) ∧ ∀ H', Q (.bl true) H'
/-- what stands behind a turn -/
structure Fin (C : Addr) (H : Hp) (tp bt p q2 : Addr) (a a2 c d d2 t b t2 b2 : Int) : Prop where
  h4 : H tp = some (.lst [.int a, .int a2, .int c])
  h5 : H bt = some (.lst [.int d, .int d2])
  s1 : ShAt C H p t b
  s2 : ShAt C H q2 t2 b2
  r1 : RS a d t b
  r2 : RS a2 d2 t2 b2
  na : Nb a
  na2 : Nb a2
  nc : Nb c
  nd : Nb d
  nd2 : Nb d2
  d0 : d ≠ 0
  d20 : d2 ≠ 0
theorem Fin.same {C : Addr} {H H' : Hp} {tp bt p q2 : Addr} {a a2 c d d2 t b t2 b2 : Int} (f : Fin C H tp bt p q2 a a2 c d d2 t b t2 b2) (k : Same H H') : Fin C H' tp bt p q2 a a2 c d d2 t b t2 b2 :=
  ⟨k _ _ f.h4, k _ _ f.h5, f.s1.same k, f.s2.same k, f.r1, f.r2, f.na, f.na2, f.nc, f.nd, f.nd2, f.d0, f.d20⟩
theorem rep_of {a d t b : Int} (r : RS a d t b) (na : Nb a) (nd : Nb d) (d0 : d ≠ 0) : Rep t b a d := ⟨r.pos, d0, r.eq, r.lt, r.lb, na, nd⟩
theorem rep_one {c : Int} (nc : Nb c) : Rep c 1 c 1 := ⟨by decide, by decide, rfl, Nat.le_refl _, Nat.le_refl _, nc, by show (1 : Nat) ≤ 10 ^ 40; decide⟩
theorem nb_b {n : Int} (h : Nb n) : n.natAbs < 2 ^ 1000 := Nat.lt_of_le_of_lt h (by decide)
theorem iteNT {c A B : Prop} [Decidable c] (hc : ¬ c) (h : A) : if (!decide c) = true then A else B := by
  rw [decide_eq_false hc]
  exact iteT h
theorem bel_no (t b : Int) : (shF t b).lookup ("below" : Str) = none := shF_no t b (by decide +kernel) (by decide +kernel)
theorem eq_fact {a d t b a2 d2 t2 b2 Z : Int} (r : RS a d t b) (r2 : RS a2 d2 t2 b2) (h : t * b2 - t2 * b = 0 ↔ Z = 0) :
    (decide (t = t2) && decide (b = b2)) = decide (V.int Z = V.int 0) := by
  rw [dec_int', Bool.eq_iff_iff, Bool.and_eq_true, decide_eq_true_eq, decide_eq_true_eq, decide_eq_true_eq, ← h]
  constructor
  · rintro ⟨rfl, rfl⟩
    omega
  · intro z
    exact low_eq r.pos r2.pos r.cop r2.cop (by omega)
theorem ish_rs {a d t b : Int} (r : RS a d t b) (na : Nb a) (nd : Nb d) : Ish t b a d :=
  ⟨r.pos, r.cop, r.eq, Nat.le_trans r.lb (Nat.le_trans nd (by decide)), Nat.lt_of_le_of_lt r.lt (nb_b na), nb_b na, nb_b nd⟩
section
variable {P : Program} {w : World} {K : PySem.W.Frag} {mg : Str → Option Value} {base : Heap}
variable {C fI fE CB fS fO fTr fA fRA fSu fRS fMu fRM fN fL fIs fC fSt fT fNu fSm fEq fBe : Addr} {fdI fdE fdS fdO fdTr fdA fdM fdN fdRA fdSu fdRS fdRM fdL fdIs fdC fdSt fdT fdNu fdSm fdEq fdBe : FuncData}
theorem scLaw : FnScope ["script", "at", "state", "turn", "tops", "bottoms", "number", "share", "other", "one", "two", "sign", "apart", "strange"] ["script"] (defScope sLaw) :=
  ⟨rfl, rfl, rfl, by decide +kernel, rfl, by decide +kernel, by decide +kernel⟩
theorem ok_law {f : Addr} {fd : FuncData} (F : Fun K "law" "law" sLaw f fd)
    (T : TLaw K mg C fI fE CB fS fO fTr fA fRA fSu fRS fMu fRM fN fL fIs fC fSt fT fNu fSm fEq fBe fdI fdE fdS fdO fdTr fdA fdM fdN fdRA fdSu fdRS fdRM fdL fdIs fdC fdSt fdT fdNu fdSm fdEq fdBe) :
    FnOk P w K mg base CX0 9 f fd ["script"] (spLaw K) := by
  have GS : FnOk P w K mg base (L2.CX P w) 3 fS fdS ["self", "top", "bottom"] (spShI K C CB) := ok_shI T.U.O.T.FS T.U.O.T.B T.U.O.T.S
  have GC : FnOk P w K mg base CX0 1 fC fdC ["script", "at"] (spCel K) := ok_cell T.FC T.U.O.T.B
  have GSt : FnOk P w K mg base CX0 1 fSt fdSt ["cell"] spSta := ok_state T.FSt T.U.O.T.B
  have GNu : FnOk P w K mg base CX0 2 fNu fdNu ["state"] spNum := ok_num T.FNu T.U.O.T.B T.FT T.mT T.bT
  have GN : FnOk P w K mg base CX0 5 fN fdN ["self"] (spNeg C) := ok_neg T.U.O.FN T.U.O.T
  have GI : FnOk P w K mg base CX0 2 fIs fdIs ["value", "top", "bottom"] (spIsh C) := ok_ish T.U.FIs T.U.O.T.B T.U.O.T.S T.U.FL T.U.mL T.U.bL
  have GSm : FnOk P w K mg base CX0 7 fSm fdSm ["share", "other", "one", "two"] (spSums C) := ok_sums T.FSm T.U
  have GEq : FnOk P w K mg base CX0 1 fEq fdEq ["self", "other"] (spEqS K C) := ok_eq T.FEq T.U.O.T.B T.U.O.T.S
  have GBe : FnOk P w K mg base CX0 2 fBe fdBe ["self", "x"] (spBel C) := ok_bel T.FBe T.U.O.T
  have B := T.U.O.T.B
  have S := T.U.O.T.S
  have M := T.U.O.T.M
  obtain ⟨dsS, rS, bS1⟩ := T.bS1
  refine F.ok scLaw (fun vs H Q E h => ?_) (fun cdv A outer s H vs Q E hr h => ?_)
  · obtain ⟨a, ns, rfl, _⟩ := h
    rfl
  · obtain ⟨a, ns, rfl, hl, hs, q⟩ := h
    have hr1 : Room 1 _ := hr.mono (by decide)
    have hr2 : Room 2 _ := hr.mono (by decide)
    have hr4 : Room 4 _ := hr.mono (by decide)
    have hr5 : Room 5 _ := hr.mono (by decide)
    have hr7 : Room 7 _ := hr.mono (by decide)
    refine ⟨_, pss_cons (ps_for PassesOwn.never rfl (pi_range1 (by rfl) B.rng (pa_cons (pe_op op_add pe_int (pe_callB call_len_seq (by rfl) B.len PySem.boot_len (pa_cons (pe_slice sl_list (pv 0) po_none (po_some pe_int)) pa_nil))) pa_nil)) (pg_name (i := 1) scLaw.nd rfl (Or.inl rfl))
        (pss_cons (ps_set (i := 2) scLaw.nd rfl (Or.inr rfl) (pe_call GSt hr1 (by rfl) T.mSt T.FSt.kp T.bSt .nil pass0 (pa_cons (pe_call GC hr1 (by rfl) T.mC T.FC.kp T.bC .nil pass0 (pa_cons (pv 0) (pa_cons (pv 1) pa_nil))) pa_nil)))
        (pss_cons (ps_setLc (i := 4) (own := [("turn", 3)]) (g := gName 3) (tt := tYes) rfl scLaw.nd rfl rfl (sw_true rfl rfl rfl (by decide +kernel)) (pi_range1 (by rfl) B.rng (pa_cons pe_int pa_nil))
            (blkOk_by (N := ["script", "at", "state", "turn", "tops", "bottoms", "number", "share", "other", "one", "two", "sign", "apart", "strange"]) (sc := defScope sLaw) (by decide +kernel))
            (fun _ _ _ _ _ => pg_name (i := 3) scLaw.nd rfl (Or.inl rfl)) (fun _ _ _ _ _ => pts_nil)
            (fun _ _ _ _ _ => pe_call GNu hr2 (by rfl) T.mNu T.FNu.kp T.bNu .nil pass0 (pa_cons (pv 2) pa_nil)))
        (pss_cons (ps_set (i := 5) scLaw.nd rfl (Or.inl rfl) (pe_lst pa_nil))
        (pss_cons (ps_for PassesOwn.never rfl (pi_range1 (by rfl) B.rng (pa_cons pe_int pa_nil)) (pg_name (i := 3) scLaw.nd rfl (Or.inl rfl))
          (pss_cons (ps_set (i := 6) scLaw.nd rfl (Or.inl rfl) (pe_call GNu hr2 (by rfl) T.mNu T.FNu.kp T.bNu .nil pass0 (pa_cons (pv 2) pa_nil)))
          (pss_one (ps_expr (pe_bm PySem.F.plainAttrs_list PySem.F.slot_list_append PySem.F.type_list_append mt_append (pv 5) (pa_cons (pe_ifExp (pt_cmpR op_ne (pv 6) pe_int (nomark _)) (pv 6) pe_int) pa_nil))))))
        (pss_cons (ps_set (i := 7) scLaw.nd rfl (Or.inl rfl) (pe_make M GS hr4 (by rfl) S.mgS T.U.O.T.bS .nil passL (pa_cons (pe_ix ix_list (pv 4) pe_int (fun _ _ => rfl)) (pa_cons (pe_ix ix_list (pv 5) pe_int (fun _ _ => rfl)) pa_nil))))
        (pss_cons (ps_set (i := 8) scLaw.nd rfl (Or.inl rfl) (pe_makeK0 M GS hr4 (by rfl) S.mgS T.bSK passL (pk_cons (pe_ix ix_list (pv 4) pe_int (fun _ _ => rfl)) (pk_cons (pe_ix ix_list (pv 5) pe_int (fun _ _ => rfl)) pk_nil))))
        (pss_cons (ps_set (i := 9) scLaw.nd rfl (Or.inl rfl) (pe_tup (pa_cons (pe_ix ix_list (pv 4) pe_int (fun _ _ => rfl)) (pa_cons (pe_ix ix_list (pv 5) pe_int (fun _ _ => rfl)) pa_nil))))
        (pss_cons (ps_set (i := 10) scLaw.nd rfl (Or.inl rfl) (pe_tup (pa_cons (pe_ix ix_list (pv 4) pe_int (fun _ _ => rfl)) (pa_cons (pe_ix ix_list (pv 5) pe_int (fun _ _ => rfl)) pa_nil))))
        (pss_cons (ps_if (PW.pt (pw_or (pt_not (pt_val (pe_call GI hr2 (by rfl) T.U.mIs T.U.FIs.kp T.U.bIs .nil pass0 (pa_cons (pv 7) (pa_cons (pe_ix ix_tup (pv 9) pe_int (fun _ _ => rfl)) (pa_cons (pe_ix ix_tup (pv 9) pe_int (fun _ _ => rfl)) pa_nil))))))
            (pw_or1 (pt_not (pt_val (pe_call GI hr2 (by rfl) T.U.mIs T.U.FIs.kp T.U.bIs .nil pass0 (pa_cons (pe_un (un_own T.U.O.nN T.U.O.iN GN hr5 T.U.O.bN pass0) (pv 7)) (pa_cons (pe_un un_neg (pe_ix ix_tup (pv 9) pe_int (fun _ _ => rfl))) (pa_cons (pe_ix ix_tup (pv 9) pe_int (fun _ _ => rfl)) pa_nil)))))))))
          (pss_one (ps_ret pe_bl)) pss_nil)
        (pss_cons (ps_if (PW.pt (pw_or (pt_not (pt_val (pe_call GSm hr7 (by rfl) T.mSm T.FSm.kp T.bSm .nil pass0 (pa_cons (pv 7) (pa_cons (pv 8) (pa_cons (pv 9) (pa_cons (pv 10) pa_nil)))))))
            (pw_or1 (pt_not (pt_val (pe_call GSm hr7 (by rfl) T.mSm T.FSm.kp T.bSm .nil pass0 (pa_cons (pv 7) (pa_cons (pe_ix ix_list (pv 4) pe_int (fun _ _ => rfl)) (pa_cons (pv 9) (pa_cons (pe_tup (pa_cons (pe_ix ix_list (pv 4) pe_int (fun _ _ => rfl)) (pa_cons pe_int pa_nil))) pa_nil))))))))))
          (pss_one (ps_ret pe_bl)) pss_nil)
        (pss_cons (ps_if (pt_not (pt_val (pe_call GI hr2 (by rfl) T.U.mIs T.U.FIs.kp T.U.bIs .nil pass0 (pa_cons (pe_make M GS hr4 (by rfl) S.mgS bS1 rS passL (pa_cons (pe_ix ix_list (pv 4) pe_int (fun _ _ => rfl)) pa_nil)) (pa_cons (pe_ix ix_list (pv 4) pe_int (fun _ _ => rfl)) (pa_cons pe_int pa_nil))))))
          (pss_one (ps_ret pe_bl)) pss_nil)
        (pss_cons (ps_set (i := 11) scLaw.nd rfl (Or.inl rfl) (pe_ifExp (pt_cmpR op_gt (pe_op op_mulW (pe_ix ix_list (pv 5) pe_int (fun _ _ => rfl)) (pe_ix ix_list (pv 5) pe_int (fun _ _ => rfl))) pe_int (nomark _)) pe_int (pe_un un_neg pe_int)))
        (pss_cons (ps_set (i := 12) scLaw.nd rfl (Or.inl rfl) (pe_op op_mulW (pe_op op_sub (pe_op op_mulW (pe_ix ix_tup (pv 9) pe_int (fun _ _ => rfl)) (pe_ix ix_tup (pv 10) pe_int (fun _ _ => rfl))) (pe_op op_mulW (pe_ix ix_tup (pv 10) pe_int (fun _ _ => rfl)) (pe_ix ix_tup (pv 9) pe_int (fun _ _ => rfl)))) (pv 11)))
        (pss_cons (ps_if (PW.pt (pw_or (pt_cmpR op_ne (pe_cmpR (op_eqO T.eqC T.eqF GEq hr1 T.bEq pass0) (pv 7) (pv 8) (nomark _)) (pe_cmpR op_eq (pv 12) pe_int (nomark _)) (nomark _))
            (pw_or (pt_cmpR op_ne (pe_meth (pv 7) S.cl T.mBe GBe hr2 T.bBe .nil pass0 (pa_cons (pv 8) pa_nil)) (pe_cmpR op_lt (pv 12) pe_int (nomark _)) (nomark _))
            (pw_or1 (pt_cmpR op_ne (pe_meth (pv 8) S.cl T.mBe GBe hr2 T.bBe .nil pass0 (pa_cons (pv 7) pa_nil)) (pe_cmpR op_gt (pv 12) pe_int (nomark _)) (nomark _))))))
          (pss_one (ps_ret pe_bl)) pss_nil)
        (pss_cons (ps_set (i := 11) scLaw.nd rfl (Or.inl rfl) (pe_ifExp (pt_cmpR op_gt (pe_ix ix_list (pv 5) pe_int (fun _ _ => rfl)) pe_int (nomark _)) pe_int (pe_un un_neg pe_int)))
        (pss_cons (ps_if (pt_cmpR op_ne (pe_meth (pv 7) S.cl T.mBe GBe hr2 T.bBe .nil pass0 (pa_cons (pe_ix ix_list (pv 4) pe_int (fun _ _ => rfl)) pa_nil))
            (pe_cmpR op_lt (pe_op op_mulW (pe_op op_sub (pe_ix ix_tup (pv 9) pe_int (fun _ _ => rfl)) (pe_op op_mulW (pe_ix ix_list (pv 4) pe_int (fun _ _ => rfl)) (pe_ix ix_tup (pv 9) pe_int (fun _ _ => rfl)))) (pv 11)) pe_int (nomark _)) (nomark _))
          (pss_one (ps_ret pe_bl)) pss_nil)
        (pss_one (ps_for PassesOwn.never rfl (pi_list (pe_lst (pa_cons (pe_ix ix_list (pv 4) pe_int (fun _ _ => rfl)) (pa_cons pe_non (pa_cons pe_str (pa_cons (pe_tup (pa_cons (pe_ix ix_tup (pv 9) pe_int (fun _ _ => rfl)) (pa_cons (pe_ix ix_tup (pv 9) pe_int (fun _ _ => rfl)) pa_nil))) (pa_cons pe_bl pa_nil))))))) (pg_name (i := 13) scLaw.nd rfl (Or.inl rfl))
          (pss_one (ps_if (pt_cmpR (op_eqO T.eqC T.eqF GEq hr1 T.bEq pass0) (pv 7) (pv 13) (nomark _)) (pss_one (ps_ret pe_bl)) pss_nil)))))))))))))))))))))
      (pss_cons (ps_if (pt_cmpR op_ne (pe_methK0 (pv 7) S.cl T.mBe GBe hr2 T.bBK pass0 (pk_cons (pv 8) pk_nil)) (pe_meth (pv 7) S.cl T.mBe GBe hr2 T.bBe .nil pass0 (pa_cons (pv 8) pa_nil)) (nomark _)) (pss_one (ps_ret pe_bl)) pss_nil)
      (pss_one (ps_ret (pe_and (pe_cmpR (op_eqO T.eqC T.eqF GEq hr1 T.bEq pass0) (pe_make M GS hr4 (by rfl) S.mgS T.U.O.T.bS .nil passL (pa_cons (pe_op op_mulW (pe_ix ix_list (pv 4) pe_int (fun _ _ => rfl)) pe_int) (pa_cons (pe_op op_mulW (pe_ix ix_list (pv 5) pe_int (fun _ _ => rfl)) pe_int) pa_nil))) (pv 7) (nomark _))
        (pe_one (pe_cmpR op_is_bl (pe_meth (pv 7) S.cl T.mBe GBe hr2 T.bBe .nil pass0 (pa_cons (pv 7) pa_nil)) pe_bl (nomark _))))))), ?_⟩
    have lb : (1 : Int) + ((cutV (ns.map V.int) none (some 3)).length : Int) < 2 ^ 62 := by
      have := cutV_length (ns.map V.int) none (some 3)
      rw [List.length_map] at this
      omega
    have i0 : ∀ x y : Int, atI [V.int x, V.int y] 0 = some (.int x) := fun _ _ => rfl
    have i1 : ∀ x y : Int, atI [V.int x, V.int y] 1 = some (.int y) := fun _ _ => rfl
    have j0 : ∀ x y z : Int, atI [V.int x, V.int y, V.int z] 0 = some (.int x) := fun _ _ _ => rfl
    have j1 : ∀ x y z : Int, atI [V.int x, V.int y, V.int z] 1 = some (.int y) := fun _ _ _ => rfl
    have j2 : ∀ x y z : Int, atI [V.int x, V.int y, V.int z] 2 = some (.int z) := fun _ _ _ => rfl
    refine ⟨_, rfl, _, rfl, a, _, rfl, hs, fun k0 nk0 => ⟨_, _, rfl, .inl (SqL.of upd_same), _, _, rfl, rfl, _, rfl, by omega, lb, ?_⟩⟩
    refine for_range (lo := 0) (fun i σ H1 => ∃ v1 v2 v3 v4 v5 v6 v7 v8 v9 v10 v11 v12 v13 : Option V, σ = [some (.ref a), v1, v2, v3, v4, v5, v6, v7, v8, v9, v10, v11, v12, v13] ∧ Same H H1 ∧
        (0 < i → ∃ tp bt p q2 a a2 c d d2 t b t2 b2, v4 = some (.ref tp) ∧ v5 = some (.ref bt) ∧ v7 = some (.ref p) ∧ v8 = some (.ref q2) ∧ Fin C H1 tp bt p q2 a a2 c d d2 t b t2 b2))
      ⟨_, _, _, _, _, _, _, _, _, _, _, _, _, rfl, same_upd nk0, fun z => absurd z (Nat.lt_irrefl 0)⟩ ?_ ?_
    · rintro i σ H1 hi ⟨v1, v2, v3, v4, v5, v6, v7, v8, v9, v10, v11, v12, v13, rfl, sm, _⟩
      refine ⟨_, rfl, _, rfl, a, ns, i, by rw [Int.zero_add]; rfl, sm.seq hs, _, rfl, fun st x y z nst => ?_⟩
      have D0 := Dr.start (a := x) (b := y) (c := z) nst
      generalize upd H1 st (.lst [.int x, .int y, .int z]) = H2 at D0 ⊢
      -- tops
      refine ⟨3, rfl, by decide, by decide, fun tp ntp => lc_range (lo := 0) (n := 3) (fun i H' => ∃ ms : List Int, ms.length = i ∧ (∀ n ∈ ms, Nb n) ∧ Dr (upd H1 tp (.lst (ms.map V.int))) st H')
        ⟨[], rfl, (fun n h => nomatch h), D0.new ntp⟩ ?_ ?_⟩
      · rintro k H3 hk ⟨ms, ml, mn, D⟩
        refine ⟨rfl, ?_⟩
        refine ⟨_, rfl, st, _, rfl, D, fun n H4 hn D4 => ⟨_, D4.same _ _ upd_same, ?_, ms ++ [n], ?_, ?_, ?_⟩⟩
        · rw [List.length_map]
          exact small1000 (by omega)
        · rw [List.length_append, ml]
          rfl
        · intro m hm
          rcases List.mem_append.mp hm with hm | hm
          · exact mn m hm
          · rw [List.mem_singleton.mp hm]
            exact hn
        · have z := D4.write (o' := .lst (ms.map V.int ++ [.int n]))
          rw [List.map_append]
          exact z
      rintro H3 ⟨ms, ml, mn, D⟩
      obtain ⟨ta, ta2, tc, rfl⟩ : ∃ a b c, ms = [a, b, c] := by
        match ms, ml with
        | [a, b, c], _ => exact ⟨a, b, c, rfl⟩
      have na : Nb ta := mn _ (by simp)
      have na2 : Nb ta2 := mn _ (by simp)
      have nc : Nb tc := mn _ (by simp)
      have gt : H1 tp = none := D0.same.free ntp
      have sG : Same H1 (upd H1 tp (.lst [.int ta, .int ta2, .int tc])) := same_upd gt
      have f4 : (upd H1 tp (.lst [.int ta, .int ta2, .int tc])) tp = some (.lst [.int ta, .int ta2, .int tc]) := upd_same
      replace D : Dr (upd H1 tp (.lst [.int ta, .int ta2, .int tc])) st H3 := D
      generalize upd H1 tp (.lst [.int ta, .int ta2, .int tc]) = G1 at D sG f4
      -- bottoms
      refine ⟨Nat.zero_le _, fun bt nbt => ?_⟩
      have gb : G1 bt = none := D.same.free nbt
      refine ⟨2, rfl, by decide, by decide, for_range (lo := 0) (n := 2) (fun k σ H' => ∃ (ms : List Int) (w3 w6 : Option V), σ = [some (.ref a), some (.int (0 + (i : Int))), some (.ref st), w3, some (.ref tp), some (.ref bt), w6, v7, v8, v9, v10, v11, v12, v13] ∧
        ms.length = k ∧ (∀ n ∈ ms, Nb n ∧ n ≠ 0) ∧ Dr (upd G1 bt (.lst (ms.map V.int))) st H') ⟨[], _, _, rfl, rfl, (fun n h => nomatch h), D.new nbt⟩ ?_ ?_⟩
      · rintro k σ H4 hk ⟨ms, w3, w6, rfl, ml, mn, D⟩
        refine ⟨_, rfl, st, _, rfl, D, fun n H5 hn D5 => ?_⟩
        have fin : ∀ m : Int, Nb m ∧ m ≠ 0 → ∃ (ms' : List Int) (u3 u6 : Option V), [some (V.ref a), some (.int (0 + (i : Int))), some (.ref st), some (.int (0 + (k : Int))), some (.ref tp), some (.ref bt), some (.int n), v7, v8, v9, v10, v11, v12, v13] =
            [some (.ref a), some (.int (0 + (i : Int))), some (.ref st), u3, some (.ref tp), some (.ref bt), u6, v7, v8, v9, v10, v11, v12, v13] ∧
            ms'.length = k + 1 ∧ (∀ n ∈ ms', Nb n ∧ n ≠ 0) ∧ Dr (upd G1 bt (.lst (ms'.map V.int))) st (upd H5 bt (.lst (ms.map V.int ++ [.int m]))) := fun m hm => by
          refine ⟨ms ++ [m], _, _, rfl, by rw [List.length_append, ml]; rfl, fun z hz => ?_, ?_⟩
          · rcases List.mem_append.mp hz with hz | hz
            · exact mn z hz
            · rw [List.mem_singleton.mp hz]
              exact hm
          · have z := D5.write (o' := .lst (ms.map V.int ++ [.int m]))
            rw [List.map_append]
            exact z
        have ls : (ms.map V.int).length < sizeLine := by
          rw [List.length_map]
          exact small1000 (by omega)
        refine ⟨_, rfl, .inl ⟨rfl, _, SqL.of (D5.same _ _ upd_same)⟩, _, rfl, rfl, _, rfl, ?_⟩
        by_cases n0 : n = 0
        · refine iteNS (congrArg V.int n0) ?_
          exact ⟨bt, _, _, rfl, rfl, D5.same _ _ upd_same, ls, fin 1 ⟨by show (1 : Nat) ≤ 10 ^ 40; decide, by decide⟩⟩
        · refine iteNT (fun z => n0 (V.int.inj z)) ?_
          exact ⟨_, rfl, bt, _, _, rfl, rfl, D5.same _ _ upd_same, ls, fin n ⟨hn, n0⟩⟩
      rintro σ H4 ⟨ms, w3, w6, rfl, ml, mn, D⟩
      obtain ⟨d, d2, rfl⟩ : ∃ a b, ms = [a, b] := by
        match ms, ml with
        | [a, b], _ => exact ⟨a, b, rfl⟩
      obtain ⟨nd, d0⟩ := mn d (by simp)
      obtain ⟨nd2, d20⟩ := mn d2 (by simp)
      have k4 : Same H H4 := (sm.trans sG).trans ((same_upd gb).trans D.same)
      have e4 : H4 tp = some (.lst [.int ta, .int ta2, .int tc]) := D.same _ _ (same_upd gb _ _ f4)
      have e5 : H4 bt = some (.lst [.int d, .int d2]) := D.same _ _ upd_same
      clear D f4 sG gb gt D0 mn ml
      -- share, other
      refine ⟨_, rfl, tp, _, _, _, rfl, rfl, SqL.of e4, j0 _ _ _, _, rfl, bt, _, _, _, rfl, rfl, SqL.of e5, i0 _ _, fun p dxp np ndx ne => sh_new d0 (bd_le (nb_b nd) (by decide)) np ndx ne fun H5 t b k5 sp rp => ⟨rfl, ?_⟩⟩
      refine ⟨_, rfl, tp, _, _, _, rfl, rfl, SqL.of (k5 _ _ e4), j1 _ _ _, _, rfl, bt, _, _, _, rfl, rfl, SqL.of (k5 _ _ e5), i1 _ _, rfl, rfl, fun q2 dxq nq ndx ne => sh_new d20 (bd_le (nb_b nd2) (by decide)) nq ndx ne fun H6 t2 b2 k6 sq rq => ⟨rfl, ?_⟩⟩
      have f : Fin C H6 tp bt p q2 ta ta2 tc d d2 t b t2 b2 := ⟨k6 _ _ (k5 _ _ e4), k6 _ _ (k5 _ _ e5), sp.same k6, sq, rp, rq, na, na2, nc, nd, nd2, d0, d20⟩
      have kH : Same H H6 := (k4.trans k5).trans k6
      clear e4 e5 k4 k5 k6 sp sq
      -- one, two
      refine ⟨_, rfl, tp, _, _, _, rfl, rfl, SqL.of f.h4, j0 _ _ _, _, rfl, bt, _, _, _, rfl, rfl, SqL.of f.h5, i0 _ _, (by show 2 ≤ sizeLine; decide), fun o1 no1 => ?_⟩
      have g1 : (upd H6 o1 (.tup [.int ta, .int d])) o1 = some (.tup [.int ta, .int d]) := upd_same
      replace f := f.same (same_upd (o := .tup [.int ta, .int d]) no1)
      replace kH := kH.trans (same_upd (o := .tup [.int ta, .int d]) no1)
      generalize upd H6 o1 (.tup [.int ta, .int d]) = H7 at f g1 kH ⊢
      refine ⟨_, rfl, tp, _, _, _, rfl, rfl, SqL.of f.h4, j1 _ _ _, _, rfl, bt, _, _, _, rfl, rfl, SqL.of f.h5, i1 _ _, (by show 2 ≤ sizeLine; decide), fun o2 no2 => ?_⟩
      have g2 : (upd H7 o2 (.tup [.int ta2, .int d2])) o2 = some (.tup [.int ta2, .int d2]) := upd_same
      replace g1 := same_upd (o := .tup [.int ta2, .int d2]) no2 _ _ g1
      replace f := f.same (same_upd (o := .tup [.int ta2, .int d2]) no2)
      replace kH := kH.trans (same_upd (o := .tup [.int ta2, .int d2]) no2)
      generalize upd H7 o2 (.tup [.int ta2, .int d2]) = H8 at f g1 g2 kH ⊢
      have bd : Bd t b := (rep_of rp na nd d0).bd
      have bd2 : Bd t2 b2 := (rep_of rq na2 nd2 d20).bd
      have h1 := rp.eq
      have h2 := rq.eq
      -- is share, is - share
      have z := ish_rs rp na nd
      refine ⟨_, rfl, _, rfl, o1, _, _, _, rfl, rfl, SqT.of g1, i0 _ _, _, rfl, o1, _, _, _, rfl, rfl, SqT.of g1, i1 _ _, p, _, _, t, b, rfl, f.s1, z.a, z.b, z.c, z.d, z.e, z.f, z.g, true, rfl, iteF ?_⟩
      clear z
      obtain ⟨dx, e⟩ := id f.s1
      refine ⟨_, rfl, p, dx, _, rfl, e, p, t, b, rfl, f.s1, bd, fun r H9 n u k9 sr rr => ?_⟩
      have z : Ish n u (-ta) d := ish (bb := b) rr.pos rr.cop (Int.ne_of_gt bd.2.2) rr.eq (by grind) (Nat.le_trans nd (by decide)) d0 (by rw [Int.natAbs_neg]; exact Nat.le_trans na (by decide))
      replace g1 := k9 _ _ g1
      replace g2 := k9 _ _ g2
      replace f := f.same k9
      replace kH := kH.trans k9
      refine ⟨_, rfl, o1, _, _, _, rfl, rfl, SqT.of g1, i0 _ _, _, rfl, _, rfl, o1, _, _, _, rfl, rfl, SqT.of g1, i1 _ _, r, _, _, n, u, rfl, sr, z.a, z.b, z.c, z.d, z.e, z.f, z.g, true, rfl, iteF ?_⟩
      clear z e k9 sr rr
      -- sums
      refine ⟨_, rfl, _, rfl, _, rfl, _, rfl, p, o1, o2, .ref q2, t, b, t2, b2, ta, d, ta2, d2, rfl, f.s1, .inr ⟨q2, rfl, f.s2⟩, g1, g2, rep_of rp na nd d0, rep_of rq na2 nd2 d20, fun H10 k10 => ⟨true, rfl, iteF ?_⟩⟩
      replace g1 := k10 _ _ g1
      replace g2 := k10 _ _ g2
      replace f := f.same k10
      replace kH := kH.trans k10
      refine ⟨_, rfl, _, rfl, tp, _, _, _, rfl, rfl, SqL.of f.h4, j2 _ _ _, _, rfl, _, rfl, tp, _, _, _, rfl, rfl, SqL.of f.h4, j2 _ _ _, (by show 2 ≤ sizeLine; decide), fun o3 no3 => ?_⟩
      have k11 : Same H10 (upd H10 o3 (.tup [.int tc, .int 1])) := same_upd no3
      refine ⟨p, o1, o3, .int tc, t, b, tc, 1, ta, d, tc, 1, rfl, f.s1.same k11, .inl ⟨rfl, rfl⟩, k11 _ _ g1, upd_same, rep_of rp na nd d0, rep_one nc, fun H12 k12 => ⟨true, rfl, iteF ?_⟩⟩
      replace k11 := k11.trans k12
      replace g1 := k11 _ _ g1
      replace g2 := k11 _ _ g2
      replace f := f.same k11
      replace kH := kH.trans k11
      clear k10 k11 k12
      -- a share of one number
      refine ⟨_, rfl, tp, _, _, _, rfl, rfl, SqL.of f.h4, j2 _ _ _, fun r dxr nr ndx ne => sh_new (b := 1) (by decide) (by decide) nr ndx ne fun H13 n u k13 sr rr => ⟨rfl, ?_⟩⟩
      replace g1 := k13 _ _ g1
      replace g2 := k13 _ _ g2
      replace f := f.same k13
      replace kH := kH.trans k13
      have z := ish_rs rr nc (show (1 : Nat) ≤ 10 ^ 40 by decide)
      refine ⟨_, rfl, tp, _, _, _, rfl, rfl, SqL.of f.h4, j2 _ _ _, r, _, _, n, u, rfl, sr, z.a, z.b, z.c, z.d, z.e, z.f, z.g, true, rfl, iteF ?_⟩
      clear z k13 sr rr
      -- the sign
      have D0 : d * d2 ≠ 0 := Int.mul_ne_zero d0 d20
      have sg := sgn (X := t * b2 - t2 * b) (Y := ta * d2 - ta2 * d) (D := d * d2) (B := b * b2) (Int.mul_pos bd.2.2 bd2.2.2) D0 (by grind)
      have sg1 := sgn (X := t - tc * b) (Y := ta - tc * d) (D := d) (B := b) bd.2.2 d0 (by grind)
      refine ⟨_, rfl, bt, _, _, _, rfl, rfl, SqL.of f.h5, i0 _ _, _, rfl, bt, _, _, _, rfl, rfl, SqL.of f.h5, i1 _ _, _, _, rfl, rfl, nb_w nd nd2, _, _, rfl, rfl, _, rfl, ?_⟩
      refine ite2 (fun hs1 => ?_) (fun hs1 => ?_)
      case' refine_1 => rw [if_pos (show d * d2 > 0 from of_decide_eq_true hs1)] at sg
      case' refine_2 =>
        rw [if_neg (show ¬ d * d2 > 0 from fun z => hs1 (decide_eq_true z))] at sg
        refine ⟨_, rfl, ?_⟩
      all_goals
        obtain ⟨sa, sb, sc⟩ := sg
        refine ⟨_, rfl, o1, _, _, _, rfl, rfl, SqT.of g1, i0 _ _, _, rfl, o2, _, _, _, rfl, rfl, SqT.of g2, i1 _ _, _, _, rfl, rfl, nb_w na nd2, ?_⟩
        refine ⟨_, rfl, o2, _, _, _, rfl, rfl, SqT.of g2, i0 _ _, _, rfl, o1, _, _, _, rfl, rfl, SqT.of g1, i1 _ _, _, _, rfl, rfl, nb_w na2 nd, _, _, rfl, rfl, _, rfl, _, _, rfl, rfl, bd_w (lt_1000 (sub_nb na nd2 na2 nd)) (by decide), ?_⟩
        obtain ⟨dx, e⟩ := id f.s1
        obtain ⟨dy, e2⟩ := id f.s2
        have kq := kds_ins S.isC e2
        obtain ⟨ty, tyx, _, nf⟩ := kq.ex
        refine ⟨_, rfl, _, rfl, p, dx, _, ty, rfl, e, tyx, nf, p, .ref q2, t, b, true, rfl, f.s1, kq, (fun _ => ⟨q2, t2, b2, rfl, f.s2, ?_⟩), (fun z => nomatch z)⟩
        refine ⟨_, rfl, rfl, rfl, _, rfl, iteNS (congrArg V.bl (eq_fact rp rq sb)) ?_⟩
        refine ⟨_, rfl, p, dx, _, rfl, e, bel_no _ _, _, rfl, p, .ref q2, t, b, t2, b2, rfl, f.s1, .inr ⟨q2, rfl, f.s2⟩, bd, bd2, fun H14 k14 => ?_⟩
        refine ⟨_, rfl, _, _, rfl, rfl, rfl, _, rfl, iteNS (congrArg V.bl (decide_eq_decide.mpr (by omega))) ?_⟩
        replace e := k14 _ _ e
        replace e2 := k14 _ _ e2
        replace g1 := k14 _ _ g1
        replace f := f.same k14
        replace kH := kH.trans k14
        refine ⟨_, rfl, q2, dy, _, rfl, e2, bel_no _ _, _, rfl, q2, .ref p, t2, b2, t, b, rfl, f.s2, .inr ⟨p, rfl, f.s1⟩, bd2, bd, fun H15 k15 => ?_⟩
        refine ⟨_, rfl, _, _, rfl, rfl, rfl, _, rfl, iteNS (congrArg V.bl (decide_eq_decide.mpr (by omega))) ?_⟩
        replace e := k15 _ _ e
        replace g1 := k15 _ _ g1
        replace f := f.same k15
        replace kH := kH.trans k15
        clear sa sb sc kq tyx nf e2 k14 k15
        refine ⟨_, rfl, bt, _, _, _, rfl, rfl, SqL.of f.h5, i0 _ _, _, _, rfl, rfl, _, rfl, ?_⟩
        refine ite2 (fun hs2 => ?_) (fun hs2 => ?_)
        case' refine_1 => rw [if_pos (show d > 0 from of_decide_eq_true hs2)] at sg1
        case' refine_2 =>
          rw [if_neg (show ¬ d > 0 from fun z => hs2 (decide_eq_true z))] at sg1
          refine ⟨_, rfl, ?_⟩
        all_goals
          obtain ⟨sa, _, _⟩ := sg1
          refine ⟨_, rfl, p, dx, _, rfl, e, bel_no _ _, _, rfl, tp, _, _, _, rfl, rfl, SqL.of f.h4, j2 _ _ _, p, .int tc, t, b, tc, 1, rfl, f.s1, .inl ⟨rfl, rfl⟩, bd, (rep_one nc).bd, fun H16 k16 => ?_⟩
          replace e := k16 _ _ e
          replace g1 := k16 _ _ g1
          replace f := f.same k16
          replace kH := kH.trans k16
          have nX : (ta - tc * d).natAbs < 2 ^ 1000 := by
            have q1 := Int.natAbs_sub_le ta (tc * d)
            have q2 := nbm nc nd
            have q3 : ta.natAbs ≤ 10 ^ 80 := Nat.le_trans na (by decide)
            exact lt_1000 (by omega)
          refine ⟨_, rfl, o1, _, _, _, rfl, rfl, SqT.of g1, i0 _ _, _, rfl, tp, _, _, _, rfl, rfl, SqL.of f.h4, j2 _ _ _, _, rfl, o1, _, _, _, rfl, rfl, SqT.of g1, i1 _ _, _, _, rfl, rfl, nb_w nc nd, _, _, rfl, rfl, _, rfl, _, _, rfl, rfl, bd_w nX (by decide), _, _, rfl, rfl, rfl, _, rfl, iteNS (congrArg V.bl (decide_eq_decide.mpr (by omega))) ?_⟩
          -- strange values
          refine ⟨_, rfl, tp, _, _, _, rfl, rfl, SqL.of f.h4, j0 _ _ _, _, rfl, o1, _, _, _, rfl, rfl, SqT.of g1, i0 _ _, _, rfl, o1, _, _, _, rfl, rfl, SqT.of g1, i1 _ _, (by show 2 ≤ sizeLine; decide), fun o4 no4 => ?_⟩
          have g4 : (upd H16 o4 (.tup [.int ta, .int d])) o4 = some (.tup [.int ta, .int d]) := upd_same
          replace e := same_upd (o := .tup [.int ta, .int d]) no4 _ _ e
          replace f := f.same (same_upd (o := .tup [.int ta, .int d]) no4)
          replace kH := kH.trans (same_upd (o := .tup [.int ta, .int d]) no4)
          generalize upd H16 o4 (.tup [.int ta, .int d]) = H17 at e f kH g4 ⊢
          refine ⟨(by show 5 ≤ sizeLine; decide), fun ls nls => ?_⟩
          replace e := same_upd (o := .lst [.int ta, .non, .str "1", .ref o4, .bl true]) nls _ _ e
          replace g4 := same_upd (o := .lst [.int ta, .non, .str "1", .ref o4, .bl true]) nls _ _ g4
          replace f := f.same (same_upd (o := .lst [.int ta, .non, .str "1", .ref o4, .bl true]) nls)
          replace kH := kH.trans (same_upd (o := .lst [.int ta, .non, .str "1", .ref o4, .bl true]) nls)
          have g5 : (upd H17 ls (.lst [.int ta, .non, .str "1", .ref o4, .bl true])) ls = some (.lst [.int ta, .non, .str "1", .ref o4, .bl true]) := upd_same
          generalize upd H17 ls (.lst [.int ta, .non, .str "1", .ref o4, .bl true]) = H18 at e f kH g4 g5 ⊢
          refine ⟨ls, rfl, ⟨_, SqL.of g5⟩, for_list (K := K) (a := ls) (xs := [.int ta, .non, .str "1", .ref o4, .bl true]) (fun k σ H' => H' = H18 ∧ ∃ w1 w2 w3 w6 w9 w10 w11 w12 w13 : Option V,
            σ = [some (.ref a), w1, w2, w3, some (.ref tp), some (.ref bt), w6, some (.ref p), some (.ref q2), w9, w10, w11, w12, w13]) ⟨rfl, _, _, _, _, _, _, _, _, _, rfl⟩ (fun k σ H' _ h => by rw [h.1]; exact SqL.of g5) ?_ ?_⟩
          · rintro k y σ H' hk ⟨rfl, w1, w2, w3, w6, w9, w10, w11, w12, w13, rfl⟩
            have my : y ∈ [V.int ta, .non, .str "1", .ref o4, .bl true] := List.mem_of_getElem? hk
            have kd : KdS K C H' y false := by
              simp only [List.mem_cons, List.not_mem_nil, or_false] at my
              rcases my with rfl | rfl | rfl | rfl | rfl
              · exact S.noT.kd (T := "int") (by simp) (.base (.int ta))
              · exact S.noT.kd (T := "NoneType") (by simp) (.base .non)
              · exact S.noT.kd (T := "str") (by simp) (.base (.str _))
              · exact S.noT.kd (T := "tuple") (by simp) (.base (.tup g4))
              · exact S.noT.kd (T := "bool") (by simp) (.base (.bl true))
            obtain ⟨ty, tyx, _, nf⟩ := kd.ex
            exact ⟨_, rfl, _, rfl, p, dx, _, ty, rfl, e, tyx, nf, p, y, t, b, false, rfl, f.s1, kd, (fun z => nomatch z), fun _ => ⟨false, rfl, iteF ⟨rfl, _, _, _, _, _, _, _, _, _, rfl⟩⟩⟩
          · rintro σ H' ⟨rfl, w1, w2, w3, w6, w9, w10, w11, w12, w13, rfl⟩
            exact ⟨_, _, _, _, _, _, _, _, _, _, _, _, _, rfl, kH, fun _ => ⟨tp, bt, p, q2, ta, ta2, tc, d, d2, t, b, t2, b2, rfl, rfl, rfl, rfl, f⟩⟩
    · rintro σ H1 ⟨v1, v2, v3, v4, v5, v6, v7, v8, v9, v10, v11, v12, v13, rfl, sm, fin⟩
      obtain ⟨tp, bt, p, q2, ta, a2, c, d, d2, t, b, t2, b2, rfl, rfl, rfl, rfl, f⟩ := fin (by omega)
      have bd := (rep_of f.r1 f.na f.nd f.d0).bd
      have bd2 := (rep_of f.r2 f.na2 f.nd2 f.d20).bd
      obtain ⟨dx, e⟩ := id f.s1
      refine ⟨_, rfl, p, dx, _, rfl, e, bel_no _ _, _, rfl, rfl, p, .ref q2, t, b, t2, b2, rfl, f.s1, .inr ⟨q2, rfl, f.s2⟩, bd, bd2, fun H2 k2 => ?_⟩
      replace f := f.same k2
      replace e := k2 _ _ e
      refine ⟨_, rfl, p, dx, _, rfl, e, bel_no _ _, _, rfl, p, .ref q2, t, b, t2, b2, rfl, f.s1, .inr ⟨q2, rfl, f.s2⟩, bd, bd2, fun H3 k3 => ?_⟩
      replace f := f.same k3
      replace e := k3 _ _ e
      refine ⟨rfl, _, rfl, iteNS rfl ?_⟩
      -- six times
      have six : ∀ {n : Int}, Nb n → (n * 6).natAbs < 2 ^ 8000 := fun {n} h => bd_le (bd_mul (m := 1000) (n := 3) (nb_b h) (by decide)) (by decide)
      refine ⟨_, rfl, tp, _, _, _, rfl, rfl, SqL.of f.h4, j0 _ _ _, _, _, rfl, rfl, bd_w (nb_b f.na) (by decide), _, rfl, bt, _, _, _, rfl, rfl, SqL.of f.h5, i0 _ _, _, _, rfl, rfl, bd_w (nb_b f.nd) (by decide), ?_⟩
      refine fun r dxr nr ndx ne => sh_new (by have := f.d0; omega) (six f.nd) nr ndx ne fun H4 n u k4 sr rr => ⟨rfl, _, rfl, ?_⟩
      replace f := f.same k4
      obtain ⟨dr, er⟩ := id sr
      obtain ⟨dx, e⟩ := id f.s1
      have kp := kds_ins S.isC e
      obtain ⟨ty, tyx, _, nf⟩ := kp.ex
      refine ⟨r, dr, _, ty, rfl, er, tyx, nf, r, .ref p, n, u, true, rfl, sr, kp, (fun _ => ⟨p, t, b, rfl, f.s1, ?_⟩), (fun z => nomatch z)⟩
      have same : n = t ∧ u = b := by
        refine low_eq rr.pos f.r1.pos rr.cop f.r1.cop ?_
        have q1 := rr.eq
        have q2 := f.r1.eq
        have d0 := f.d0
        apply Int.eq_of_mul_eq_mul_right d0
        grind
      have yes : (decide (n = t) && decide (u = b)) = true := by rw [decide_eq_true same.1, decide_eq_true same.2]; rfl
      refine ⟨_, rfl, ?_⟩
      rw [yes]
      refine iteT ?_
      refine ⟨_, rfl, p, dx, _, rfl, e, bel_no _ _, _, rfl, p, .ref p, t, b, t, b, rfl, f.s1, .inr ⟨p, rfl, f.s1⟩, bd, bd, fun H5 k5 => ?_⟩
      refine ⟨_, _, rfl, rfl, ?_⟩
      have no : decide (t * b < t * b) = false := decide_eq_false (Int.lt_irrefl _)
      rw [no]
      exact q _
end
end Nv
namespace Nv
open PySem PySem.Spec PyProof.Rows L2
theorem fun_kb {K : PySem.W.Frag} {x qual : Str} {st : Stmt} {f : Addr} {fd : FuncData} {ps ks : List Str} {n : Nat} (F : Fun K x qual st f fd)
    (h : ∀ (kV doc pm : Value) (an : Option Addr) (cdv ct : Value) (us ws : List Value), us.length = n → ws.length = ks.length →
      bindArgs (PySem.W.fnOf x qual (defArgs st) (defBody st) (defScope st) .none kV doc pm an cdv ct) ⟨us, ks.zip ws⟩ = pure (ps.zip (us ++ ws))) :
    KBn K fd ps n ks (fun us ws => us ++ ws) (fun vs zs => vs ++ zs) := by
  obtain ⟨oc, od, kV, doc, pm, an, cdv, ct, osl, rfl, lk, hcd⟩ := F.ex
  exact ⟨fun s us ws _ l1 l2 => .of_eq (h kV doc pm an cdv ct us ws l1 l2), fun r1 r2 => r1.append r2⟩

theorem all_mk {P : Program} {w : World} {K : PySem.W.Frag} {h : Heap} {mg : Str → Option Value} {fa C CB fE fS TE TS fI fO fTr fA fRA fSu fRS fMu fRM fN fEq fBe fC fSt fT fL fNu fIs fSm fW : Addr} (X : K.In h) (G : h.Ns mainGlobals mg) (hfa : mg "law" = some (.ref fa))
    {odE anE odS anS odI anI odO anO odTr anTr odA anA odRA anRA odSu anSu odRS anRS odMu anMu odRM anRM odN anN odEq anEq odBe anBe odC_ anC_ odSt anSt odT anT odL anL odNu anNu odIs anIs odSm anSm odW anW : Option Addr} {slE slS slI slO slTr slA slRA slSu slRS slMu slRM slN slEq slBe slC_ slSt slT slL slNu slIs slSm slW : Array (Option Value)}
    {ocE kVE dcE pmE cdE ctE ocS kVS dcS pmS cdS ctS ocI kVI dcI pmI cdI ctI ocO kVO dcO pmO cdO ctO ocTr kVTr dcTr pmTr cdTr ctTr ocA kVA dcA pmA cdA ctA ocRA kVRA dcRA pmRA cdRA ctRA ocSu kVSu dcSu pmSu cdSu ctSu ocRS kVRS dcRS pmRS cdRS ctRS ocMu kVMu dcMu pmMu cdMu ctMu ocRM kVRM dcRM pmRM cdRM ctRM ocN kVN dcN pmN cdN ctN ocEq kVEq dcEq pmEq cdEq ctEq ocBe kVBe dcBe pmBe cdBe ctBe ocC_ kVC_ dcC_ pmC_ cdC_ ctC_ ocSt kVSt dcSt pmSt cdSt ctSt ocT kVT dcT pmT cdT ctT ocL kVL dcL pmL cdL ctL ocNu kVNu dcNu pmNu cdNu ctNu ocIs kVIs dcIs pmIs cdIs ctIs ocSm kVSm dcSm pmSm cdSm ctSm ocW kVW dcW pmW cdW ctW : Value}
    {nm q : Str} {N : Addr} {bs bm : List Value} {sn : List Str} {sub : List Value} {ab : Bool} {col : Option Bool} {dd : Option Addr} {m0 m1 m2 m3 m5 : Option Value}
    {oE oS : Obj} {nE nS : Nat} {tkS : Tok} {foA roA foS roS foM roM : Option Value}
    (z1 : PySem.W.nsIn K mainGlobals "len" = some none)
    (z2 : PySem.W.nsIn K mainGlobals "int" = some none)
    (z3 : PySem.W.nsIn K mainGlobals "bool" = some none)
    (z4 : PySem.W.nsIn K mainGlobals "abs" = some none)
    (z5 : PySem.W.nsIn K mainGlobals "isinstance" = some none)
    (z6 : PySem.W.nsIn K mainGlobals "repr" = some none)
    (z7 : PySem.W.nsIn K mainGlobals "range" = some none)
    (z8 : PySem.W.nsIn K mainGlobals "gcd" = some (some (.builtin "math.gcd")))
    (aB : PySem.W.nsIn K mainGlobals "BadShare" = some (some (.ref CB)))
    (xL : K.lookup CB = some (excClassObj nm q CB N bs bm true sn sub ab col dd m0 m1 m2 m3 m5 "ValueError.__new__"))
    (rV : PySem.HandSPX.refsVE bm = true)
    (sB : PySem.W.findIn K (.ref CB) "__setattr__" = some (some (.builtin "object.__setattr__")))
    (gB : PySem.W.findIn K (.ref CB) "__getattribute__" = some (some (.builtin "BaseException.__getattribute__")))
    (ggB : PySem.W.findIn K (.ref CB) "__getattr__" = some none)
    (nB : PySem.W.findIn K (.ref CB) "what" = some none)
    (iB : PySem.W.findIn K (.ref CB) "__init__" = some (some (.ref fE)))
    (tE : PySem.W.typeIn K (.ref fE) = some (.type "function"))
    (kB : PySem.W.keepIn K (.ref CB) = true)
    (eB : PySem.W.subIn K (.ref CB) (.type "BaseException") = some true)
    (tB : PySem.W.typeIn K (.ref CB) = some (.type "type"))
    (hB : PySem.W.hasDictIn K CB = true)
    (cB : PySem.W.isClsIn K CB = true)
    (ssB : PySem.W.subIn K (.ref CB) (.ref CB) = some true)
    (lE : K.lookup fE = some ⟨ocE, odE, .func (PySem.W.fnOf "__init__" "OweError.__init__" (defArgs sExI) (defBody sExI) (defScope sExI) (.ref TE) kVE dcE pmE anE cdE ctE), slE⟩)
    (cE : PySem.W.codeIn K cdE "OweError.__init__" = true)
    (kE : PySem.W.keepIn K (.ref fE) = true)
    (tlE : K.lookup TE = some oE)
    (tdE : oE.data = .seq [Value.none].toArray nE)
    (aC : PySem.W.nsIn K mainGlobals "Share" = some (some (.ref C)))
    (aS : PySem.W.findIn K (.ref C) "__init__" = some (some (.ref fS)))
    (iS : PySem.W.isFn K (.ref fS) = true)
    (lS : K.lookup fS = some ⟨ocS, odS, .func (PySem.W.fnOf "__init__" "Share.__init__" (defArgs sShI) (defBody sShI) (defScope sShI) (.ref TS) kVS dcS pmS anS cdS ctS), slS⟩)
    (cS : PySem.W.codeIn K cdS "Share.__init__" = true)
    (kS : PySem.W.keepIn K (.ref fS) = true)
    (tlS : K.lookup TS = some oS)
    (tdS : oS.data = .seq [Value.int 1 tkS].toArray nS)
    (pg : PySem.W.plainGet K C Str.empty = true)
    (hd : PySem.W.hasDictIn K C = true)
    (po : PySem.W.plainOver K C = true)
    (sa : PySem.W.findIn K (.ref C) "__setattr__" = some (some (.builtin "object.__setattr__")))
    (mk : PySem.W.makesIn K C = true)
    (kc : PySem.W.keepIn K (.ref C) = true)
    (nT : PySem.W.findIn K (.ref C) "top" = some none)
    (nBo : PySem.W.findIn K (.ref C) "bottom" = some none)
    (hc1 : PySem.W.findIn K (.ref C) "__class__" = some (some (.builtin "object.__class__")))
    (hc2 : PySem.W.specialIn K (.builtin "object.__class__") "__get__" = some (some (.builtin "getset_descriptor.__get__")))
    (hc3 : PySem.W.takesIn K (.builtin "object.__class__") = some true)
    (hc4 : PySem.W.mroIn K C (.type "object") = some true)
    (ki : PySem.W.subIn K (.ref C) (.type "int") = some false)
    (kb : PySem.W.subIn K (.ref C) (.type "bool") = some false)
    (no1 : PySem.W.subIn K (.type "int") (.ref C) = some false)
    (no2 : PySem.W.subIn K (.type "NoneType") (.ref C) = some false)
    (no3 : PySem.W.subIn K (.type "str") (.ref C) = some false)
    (no4 : PySem.W.subIn K (.type "tuple") (.ref C) = some false)
    (no5 : PySem.W.subIn K (.type "bool") (.ref C) = some false)
    (cC : PySem.W.isClsIn K C = true)
    (tC : PySem.W.typeIn K (.ref C) = some (.type "type"))
    (sf : PySem.W.selfFirst K C = true)
    (aI : PySem.W.nsIn K mainGlobals "is_integer" = some (some (.ref fI)))
    (lI : K.lookup fI = some ⟨ocI, odI, .func (PySem.W.fnOf "is_integer" "is_integer" (defArgs sIsI) (defBody sIsI) (defScope sIsI) .none kVI dcI pmI anI cdI ctI), slI⟩)
    (cI : PySem.W.codeIn K cdI "is_integer" = true)
    (kI : PySem.W.keepIn K (.ref fI) = true)
    (aO : PySem.W.nsIn K mainGlobals "is_operand" = some (some (.ref fO)))
    (lO : K.lookup fO = some ⟨ocO, odO, .func (PySem.W.fnOf "is_operand" "is_operand" (defArgs sOpd) (defBody sOpd) (defScope sOpd) .none kVO dcO pmO anO cdO ctO), slO⟩)
    (cO : PySem.W.codeIn K cdO "is_operand" = true)
    (kO : PySem.W.keepIn K (.ref fO) = true)
    (aTr : PySem.W.nsIn K mainGlobals "terms_of" = some (some (.ref fTr)))
    (lTr : K.lookup fTr = some ⟨ocTr, odTr, .func (PySem.W.fnOf "terms_of" "terms_of" (defArgs sTrm) (defBody sTrm) (defScope sTrm) .none kVTr dcTr pmTr anTr cdTr ctTr), slTr⟩)
    (cTr : PySem.W.codeIn K cdTr "terms_of" = true)
    (kTr : PySem.W.keepIn K (.ref fTr) = true)
    (aA : PySem.W.findIn K (.ref C) "__add__" = some (some (.ref fA)))
    (iA : PySem.W.isFn K (.ref fA) = true)
    (lA : K.lookup fA = some ⟨ocA, odA, .func (PySem.W.fnOf "__add__" "Share.__add__" (defArgs sAdd) (defBody sAdd) (defScope sAdd) .none kVA dcA pmA anA cdA ctA), slA⟩)
    (cA : PySem.W.codeIn K cdA "Share.__add__" = true)
    (kA : PySem.W.keepIn K (.ref fA) = true)
    (aRA : PySem.W.findIn K (.ref C) "__radd__" = some (some (.ref fRA)))
    (iRA : PySem.W.isFn K (.ref fRA) = true)
    (lRA : K.lookup fRA = some ⟨ocRA, odRA, .func (PySem.W.fnOf "__radd__" "Share.__radd__" (defArgs sRadd) (defBody sRadd) (defScope sRadd) .none kVRA dcRA pmRA anRA cdRA ctRA), slRA⟩)
    (cRA : PySem.W.codeIn K cdRA "Share.__radd__" = true)
    (kRA : PySem.W.keepIn K (.ref fRA) = true)
    (aSu : PySem.W.findIn K (.ref C) "__sub__" = some (some (.ref fSu)))
    (iSu : PySem.W.isFn K (.ref fSu) = true)
    (lSu : K.lookup fSu = some ⟨ocSu, odSu, .func (PySem.W.fnOf "__sub__" "Share.__sub__" (defArgs sSub) (defBody sSub) (defScope sSub) .none kVSu dcSu pmSu anSu cdSu ctSu), slSu⟩)
    (cSu : PySem.W.codeIn K cdSu "Share.__sub__" = true)
    (kSu : PySem.W.keepIn K (.ref fSu) = true)
    (aRS : PySem.W.findIn K (.ref C) "__rsub__" = some (some (.ref fRS)))
    (iRS : PySem.W.isFn K (.ref fRS) = true)
    (lRS : K.lookup fRS = some ⟨ocRS, odRS, .func (PySem.W.fnOf "__rsub__" "Share.__rsub__" (defArgs sRsub) (defBody sRsub) (defScope sRsub) .none kVRS dcRS pmRS anRS cdRS ctRS), slRS⟩)
    (cRS : PySem.W.codeIn K cdRS "Share.__rsub__" = true)
    (kRS : PySem.W.keepIn K (.ref fRS) = true)
    (aMu : PySem.W.findIn K (.ref C) "__mul__" = some (some (.ref fMu)))
    (iMu : PySem.W.isFn K (.ref fMu) = true)
    (lMu : K.lookup fMu = some ⟨ocMu, odMu, .func (PySem.W.fnOf "__mul__" "Share.__mul__" (defArgs sMul) (defBody sMul) (defScope sMul) .none kVMu dcMu pmMu anMu cdMu ctMu), slMu⟩)
    (cMu : PySem.W.codeIn K cdMu "Share.__mul__" = true)
    (kMu : PySem.W.keepIn K (.ref fMu) = true)
    (aRM : PySem.W.findIn K (.ref C) "__rmul__" = some (some (.ref fRM)))
    (iRM : PySem.W.isFn K (.ref fRM) = true)
    (lRM : K.lookup fRM = some ⟨ocRM, odRM, .func (PySem.W.fnOf "__rmul__" "Share.__rmul__" (defArgs sRmul) (defBody sRmul) (defScope sRmul) .none kVRM dcRM pmRM anRM cdRM ctRM), slRM⟩)
    (cRM : PySem.W.codeIn K cdRM "Share.__rmul__" = true)
    (kRM : PySem.W.keepIn K (.ref fRM) = true)
    (aN : PySem.W.findIn K (.ref C) "__neg__" = some (some (.ref fN)))
    (iN : PySem.W.isFn K (.ref fN) = true)
    (lN : K.lookup fN = some ⟨ocN, odN, .func (PySem.W.fnOf "__neg__" "Share.__neg__" (defArgs sNeg) (defBody sNeg) (defScope sNeg) .none kVN dcN pmN anN cdN ctN), slN⟩)
    (cN : PySem.W.codeIn K cdN "Share.__neg__" = true)
    (kN : PySem.W.keepIn K (.ref fN) = true)
    (aEq : PySem.W.findIn K (.ref C) "__eq__" = some (some (.ref fEq)))
    (iEq : PySem.W.isFn K (.ref fEq) = true)
    (lEq : K.lookup fEq = some ⟨ocEq, odEq, .func (PySem.W.fnOf "__eq__" "Share.__eq__" (defArgs sEq) (defBody sEq) (defScope sEq) .none kVEq dcEq pmEq anEq cdEq ctEq), slEq⟩)
    (cEq : PySem.W.codeIn K cdEq "Share.__eq__" = true)
    (kEq : PySem.W.keepIn K (.ref fEq) = true)
    (aBe : PySem.W.findIn K (.ref C) "below" = some (some (.ref fBe)))
    (iBe : PySem.W.isFn K (.ref fBe) = true)
    (lBe : K.lookup fBe = some ⟨ocBe, odBe, .func (PySem.W.fnOf "below" "Share.below" (defArgs sBel) (defBody sBel) (defScope sBel) .none kVBe dcBe pmBe anBe cdBe ctBe), slBe⟩)
    (cBe : PySem.W.codeIn K cdBe "Share.below" = true)
    (kBe : PySem.W.keepIn K (.ref fBe) = true)
    (aC_ : PySem.W.nsIn K mainGlobals "_law_cell" = some (some (.ref fC)))
    (lC_ : K.lookup fC = some ⟨ocC_, odC_, .func (PySem.W.fnOf "_law_cell" "_law_cell" (defArgs sCell) (defBody sCell) (defScope sCell) .none kVC_ dcC_ pmC_ anC_ cdC_ ctC_), slC_⟩)
    (cC_ : PySem.W.codeIn K cdC_ "_law_cell" = true)
    (kC_ : PySem.W.keepIn K (.ref fC) = true)
    (aSt : PySem.W.nsIn K mainGlobals "_law_state" = some (some (.ref fSt)))
    (lSt : K.lookup fSt = some ⟨ocSt, odSt, .func (PySem.W.fnOf "_law_state" "_law_state" (defArgs sState) (defBody sState) (defScope sState) .none kVSt dcSt pmSt anSt cdSt ctSt), slSt⟩)
    (cSt : PySem.W.codeIn K cdSt "_law_state" = true)
    (kSt : PySem.W.keepIn K (.ref fSt) = true)
    (aT : PySem.W.nsIn K mainGlobals "_law_take" = some (some (.ref fT)))
    (lT : K.lookup fT = some ⟨ocT, odT, .func (PySem.W.fnOf "_law_take" "_law_take" (defArgs sTake) (defBody sTake) (defScope sTake) .none kVT dcT pmT anT cdT ctT), slT⟩)
    (cT : PySem.W.codeIn K cdT "_law_take" = true)
    (kT : PySem.W.keepIn K (.ref fT) = true)
    (aL : PySem.W.nsIn K mainGlobals "_law_is_int" = some (some (.ref fL)))
    (lL : K.lookup fL = some ⟨ocL, odL, .func (PySem.W.fnOf "_law_is_int" "_law_is_int" (defArgs sLIs) (defBody sLIs) (defScope sLIs) .none kVL dcL pmL anL cdL ctL), slL⟩)
    (cL : PySem.W.codeIn K cdL "_law_is_int" = true)
    (kL : PySem.W.keepIn K (.ref fL) = true)
    (aNu : PySem.W.nsIn K mainGlobals "_law_number" = some (some (.ref fNu)))
    (lNu : K.lookup fNu = some ⟨ocNu, odNu, .func (PySem.W.fnOf "_law_number" "_law_number" (defArgs sNum) (defBody sNum) (defScope sNum) .none kVNu dcNu pmNu anNu cdNu ctNu), slNu⟩)
    (cNu : PySem.W.codeIn K cdNu "_law_number" = true)
    (kNu : PySem.W.keepIn K (.ref fNu) = true)
    (aIs : PySem.W.nsIn K mainGlobals "_law_is_share" = some (some (.ref fIs)))
    (lIs : K.lookup fIs = some ⟨ocIs, odIs, .func (PySem.W.fnOf "_law_is_share" "_law_is_share" (defArgs sIsh) (defBody sIsh) (defScope sIsh) .none kVIs dcIs pmIs anIs cdIs ctIs), slIs⟩)
    (cIs : PySem.W.codeIn K cdIs "_law_is_share" = true)
    (kIs : PySem.W.keepIn K (.ref fIs) = true)
    (aSm : PySem.W.nsIn K mainGlobals "_law_sums" = some (some (.ref fSm)))
    (lSm : K.lookup fSm = some ⟨ocSm, odSm, .func (PySem.W.fnOf "_law_sums" "_law_sums" (defArgs sSums) (defBody sSums) (defScope sSums) .none kVSm dcSm pmSm anSm cdSm ctSm), slSm⟩)
    (cSm : PySem.W.codeIn K cdSm "_law_sums" = true)
    (kSm : PySem.W.keepIn K (.ref fSm) = true)
    (aW : PySem.W.nsIn K mainGlobals "law" = some (some (.ref fW)))
    (lW : K.lookup fW = some ⟨ocW, odW, .func (PySem.W.fnOf "law" "law" (defArgs sLaw) (defBody sLaw) (defScope sLaw) .none kVW dcW pmW anW cdW ctW), slW⟩)
    (cW : PySem.W.codeIn K cdW "law" = true)
    (kW : PySem.W.keepIn K (.ref fW) = true)
    (p1A : PySem.W.findIn K (.ref C) (PySem.dunder Operator.Add.info.2) = some (some (.ref fA)))
    (p2A : PySem.W.findIn K (.ref C) (dunderR Operator.Add.info.2) = some (some (.ref fRA)))
    (p3A : PySem.W.findIn K (.type "int") (PySem.dunder Operator.Add.info.2) = some foA)
    (p4A : PySem.W.findIn K (.type "int") (dunderR Operator.Add.info.2) = some roA)
    (p5A : ((foA.isSome && !isSeqSlot foA) || (roA.isSome && !isSeqSlot roA)) = true)
    (p1S : PySem.W.findIn K (.ref C) (PySem.dunder Operator.Sub.info.2) = some (some (.ref fSu)))
    (p2S : PySem.W.findIn K (.ref C) (dunderR Operator.Sub.info.2) = some (some (.ref fRS)))
    (p3S : PySem.W.findIn K (.type "int") (PySem.dunder Operator.Sub.info.2) = some foS)
    (p4S : PySem.W.findIn K (.type "int") (dunderR Operator.Sub.info.2) = some roS)
    (p5S : ((foS.isSome && !isSeqSlot foS) || (roS.isSome && !isSeqSlot roS)) = true)
    (p1M : PySem.W.findIn K (.ref C) (PySem.dunder Operator.Mult.info.2) = some (some (.ref fMu)))
    (p2M : PySem.W.findIn K (.ref C) (dunderR Operator.Mult.info.2) = some (some (.ref fRM)))
    (p3M : PySem.W.findIn K (.type "int") (PySem.dunder Operator.Mult.info.2) = some foM)
    (p4M : PySem.W.findIn K (.type "int") (dunderR Operator.Mult.info.2) = some roM)
    (p5M : ((foM.isSome && !isSeqSlot foM) || (roM.isSome && !isSeqSlot roM)) = true) :
    ∃ fd : FuncData, (∀ (s : Shared) (v : Value), BindsTo s fd ⟨[v], []⟩ [("script", v)]) ∧ ∀ base : Heap, K.In base → base.Ns mainGlobals mg → FnG P w K mg base CX0 9 fa fd ["script"] (spLaw K) := by
  have e := hfa.symm.trans (PySem.W.mg_of X G aW)
  cases e
  have B : Blt mg := ⟨PySem.W.mg_none_of X G z1, PySem.W.mg_none_of X G z2, PySem.W.mg_none_of X G z3, PySem.W.mg_none_of X G z4, PySem.W.mg_none_of X G z5, PySem.W.mg_none_of X G z6, PySem.W.mg_none_of X G z7⟩
  have FE := funD_mk (st := sExI) (dvs := [.non]) lE cE kE tlE tdE (.cons rfl .nil) (by simp)
  have FS := funD_mk (st := sShI) (dvs := [.int 1]) lS cS kS tlS tdS (.cons ⟨_, rfl⟩ .nil) (by simp)
  have FI := fun_mk (st := sIsI) lI cI kI
  have FO := fun_mk (st := sOpd) lO cO kO
  have FTr := fun_mk (st := sTrm) lTr cTr kTr
  have FA := fun_mk (st := sAdd) lA cA kA
  have FRA := fun_mk (st := sRadd) lRA cRA kRA
  have FSu := fun_mk (st := sSub) lSu cSu kSu
  have FRS := fun_mk (st := sRsub) lRS cRS kRS
  have FMu := fun_mk (st := sMul) lMu cMu kMu
  have FRM := fun_mk (st := sRmul) lRM cRM kRM
  have FN := fun_mk (st := sNeg) lN cN kN
  have FEq := fun_mk (st := sEq) lEq cEq kEq
  have FBe := fun_mk (st := sBel) lBe cBe kBe
  have FC_ := fun_mk (st := sCell) lC_ cC_ kC_
  have FSt := fun_mk (st := sState) lSt cSt kSt
  have FT := fun_mk (st := sTake) lT cT kT
  have FL := fun_mk (st := sLIs) lL cL kL
  have FNu := fun_mk (st := sNum) lNu cNu kNu
  have FIs := fun_mk (st := sIsh) lIs cIs kIs
  have FSm := fun_mk (st := sSums) lSm cSm kSm
  have FW := fun_mk (st := sLaw) lW cW kW
  have bI := FI.binds (ps := ["value"]) fun _ _ _ _ _ _ us hl => match us, hl with | [_], _ => rfl
  have bO := FO.binds (ps := ["value"]) fun _ _ _ _ _ _ us hl => match us, hl with | [_], _ => rfl
  have bTr := FTr.binds (ps := ["value"]) fun _ _ _ _ _ _ us hl => match us, hl with | [_], _ => rfl
  have bA := FA.binds (ps := ["self", "other"]) fun _ _ _ _ _ _ us hl => match us, hl with | [_, _], _ => rfl
  have bRA := FRA.binds (ps := ["self", "other"]) fun _ _ _ _ _ _ us hl => match us, hl with | [_, _], _ => rfl
  have bSu := FSu.binds (ps := ["self", "other"]) fun _ _ _ _ _ _ us hl => match us, hl with | [_, _], _ => rfl
  have bRS := FRS.binds (ps := ["self", "other"]) fun _ _ _ _ _ _ us hl => match us, hl with | [_, _], _ => rfl
  have bMu := FMu.binds (ps := ["self", "other"]) fun _ _ _ _ _ _ us hl => match us, hl with | [_, _], _ => rfl
  have bRM := FRM.binds (ps := ["self", "other"]) fun _ _ _ _ _ _ us hl => match us, hl with | [_, _], _ => rfl
  have bN := FN.binds (ps := ["self"]) fun _ _ _ _ _ _ us hl => match us, hl with | [_], _ => rfl
  have bEq := FEq.binds (ps := ["self", "other"]) fun _ _ _ _ _ _ us hl => match us, hl with | [_, _], _ => rfl
  have bBe := FBe.binds (ps := ["self", "x"]) fun _ _ _ _ _ _ us hl => match us, hl with | [_, _], _ => rfl
  have bC_ := FC_.binds (ps := ["script", "at"]) fun _ _ _ _ _ _ us hl => match us, hl with | [_, _], _ => rfl
  have bSt := FSt.binds (ps := ["cell"]) fun _ _ _ _ _ _ us hl => match us, hl with | [_], _ => rfl
  have bT := FT.binds (ps := ["state", "many"]) fun _ _ _ _ _ _ us hl => match us, hl with | [_, _], _ => rfl
  have bL := FL.binds (ps := ["value"]) fun _ _ _ _ _ _ us hl => match us, hl with | [_], _ => rfl
  have bNu := FNu.binds (ps := ["state"]) fun _ _ _ _ _ _ us hl => match us, hl with | [_], _ => rfl
  have bIs := FIs.binds (ps := ["value", "top", "bottom"]) fun _ _ _ _ _ _ us hl => match us, hl with | [_, _, _], _ => rfl
  have bSm := FSm.binds (ps := ["share", "other", "one", "two"]) fun _ _ _ _ _ _ us hl => match us, hl with | [_, _, _, _], _ => rfl
  have cl : Cls K C := ⟨pg, hd, po, sa⟩
  have xB : ExC K mg "BadShare" CB fE := exC_mk (PySem.W.mg_of X G aB) xL rV sB gB ggB nB iB tE kB eB tB hB cB ssB
  obtain ⟨dsE, rE, bE⟩ := FE.binds1 (ps := ["self", "what"]) 2 1 (by simp) rfl
    (fun T kV doc pm an cdv ct us its h1 h2 => match us, its, h1, h2 with | [_, _], [_], _, _ => ⟨_, rfl, rfl⟩)
  obtain ⟨dsS, rS, bS⟩ := FS.binds1 (ps := ["self", "top", "bottom"]) 3 1 (by simp) rfl
    (fun T kV doc pm an cdv ct us its h1 h2 => match us, its, h1, h2 with | [_, _, _], [_], _, _ => ⟨_, rfl, rfl⟩)
  have bS1 := FS.binds1 (ps := ["self", "top", "bottom"]) 2 0 (by simp) rfl
    (fun T kV doc pm an cdv ct us its h1 h2 => match us, its, h1, h2 with | [_, _], [_], _, _ => ⟨_, rfl, rfl⟩)
  obtain ⟨_, bSK⟩ := FS.kbindsD (ps := ["self", "top", "bottom"]) 1 ["top", "bottom"] (fun us _ ws => us ++ ws) (by simp) (fun a _ b => a.append b)
    (fun T kV doc pm an cdv ct us its ws h1 h2 h3 => match us, its, ws, h1, h2, h3 with | [_], [_], [_, _], _, _, _ => ⟨_, rfl, rfl⟩)
  have bBK := fun_kb (ps := ["self", "x"]) (ks := ["x"]) (n := 1) FBe fun _ _ _ _ _ _ us ws h1 h2 => match us, ws, h1, h2 with | [_], [_], _, _ => rfl
  cases rE
  cases rS
  have isC : IsC K C := ⟨cl, hc1, hc2, hc3, hc4, kit_sub ki (by decide +kernel), kit_sub kb (by decide +kernel)⟩
  have noT : NoT K C := ⟨fun T hT => by
    simp only [List.mem_cons, List.not_mem_nil, or_false] at hT
    rcases hT with rfl | rfl | rfl | rfl | rfl
    · exact no1
    · exact no2
    · exact no3
    · exact no4
    · exact no5, cC, tC⟩
  have S : TSh K mg C fI fE CB _ _ := ⟨cl, nT, nBo, PySem.W.mg_of X G aI, FI, bI, FE, bE, xB, PySem.W.mg_of X G z8, PySem.W.mg_of X G aC, isC, noT⟩
  have TM : TMe K mg C fI fE CB fS fO fTr _ _ _ _ _ := ⟨B, S, ⟨mk, aS, iS, kc⟩, FS, bS, FO, PySem.W.mg_of X G aO, bO, FTr, PySem.W.mg_of X G aTr, bTr⟩
  have oA : OpC K C .Add fA fRA := ⟨sf, p1A, iA, p2A, iRA, ⟨_, _, p3A, p4A, p5A⟩, no1, ki⟩
  have oS : OpC K C .Sub fSu fRS := ⟨sf, p1S, iSu, p2S, iRS, ⟨_, _, p3S, p4S, p5S⟩, no1, ki⟩
  have oM : OpC K C .Mult fMu fRM := ⟨sf, p1M, iMu, p2M, iRM, ⟨_, _, p3M, p4M, p5M⟩, no1, ki⟩
  have TO : TOp K mg C fI fE CB fS fO fTr fA fRA fSu fRS fMu fRM fN _ _ _ _ _ _ _ _ := ⟨TM, FA, bA, FMu, bMu, FN, bN, oA, oS, oM, aN, iN⟩
  have TU : TSu K mg C fI fE CB fS fO fTr fA fRA fSu fRS fMu fRM fN fL fIs _ _ _ _ _ _ _ _ _ _ _ _ _ _ := ⟨TO, FRA, bRA, FSu, bSu, FRS, bRS, FRM, bRM, FL, PySem.W.mg_of X G aL, bL, FIs, PySem.W.mg_of X G aIs, bIs⟩
  have TL : TLaw K mg C fI fE CB fS fO fTr fA fRA fSu fRS fMu fRM fN fL fIs fC fSt fT fNu fSm fEq fBe _ _ _ _ _ _ _ _ _ _ _ _ _ _ _ _ _ _ _ _ _ :=
    ⟨TU, FC_, PySem.W.mg_of X G aC_, bC_, FSt, PySem.W.mg_of X G aSt, bSt, FT, PySem.W.mg_of X G aT, bT, FNu, PySem.W.mg_of X G aNu, bNu, FSm, PySem.W.mg_of X G aSm, bSm, FEq, bEq, aEq, iEq, FBe, bBe, ⟨aBe, iBe, kBe⟩, bS1, bSK, bBK⟩
  exact ⟨PySem.W.fnOf "law" "law" (defArgs sLaw) (defBody sLaw) (defScope sLaw) .none kVW dcW pmW anW cdW ctW, fun s v => .of_eq rfl, fun base _ _ => FnG.of (ok_law FW TL)⟩
theorem walk {l : PySem.W.OpenLaw} {q : Program} {loose : List Str} {XP : (Str → Option Value) → Heap → Prop} {YP : World → Heap → Prop} {d : DefRec} {K : Params → PySem.W.Frag}
    (hn : l.most = some 63) (hdf : d.params.defaults = []) (him : importsNone q = true) (hY : ∀ (w : World) (h : Heap), YP w h → (K w.params).In h)
    (F : ∀ (w : World) (mg : Str → Option Value) (fa : Addr) (h : Heap), (K w.params).In h → h.Ns mainGlobals mg → mg d.name = some (.ref fa) →
      ∃ fd : FuncData, (∀ (s : Shared) (u : Value), BindsTo s fd ⟨[u], []⟩ [("script", u)]) ∧ ∀ base : Heap, (K w.params).In base → base.Ns mainGlobals mg →
        FnG l.prog w (K w.params) mg base CX0 9 fa fd ["script"] (spLaw (K w.params))) :
    PySem.W.WalkO q loose XP YP l.row.toRowW d [] (fun f vs => PySem.call f vs) :=
  law_walk (n := 63) (k := 9) (x := "script") (sp := fun w => spLaw (K w.params)) hn (by decide) hdf ⟨rfl, by decide, by decide⟩ him hY F
    (fun w H a ns hl _ hS => ⟨a, ns, rfl, hl, hS, fun _ => rfl⟩)
end Nv
open PySem PySem.W PyProof.Rows
set_option maxRecDepth 100000 in
set_option maxHeartbeats 0 in
theorem PySem.Challenge.cw_neverowing_k02_shares_are_fractions_holds : PySem.Challenge.rw_neverowing_k02_shares_are_fractions.Holds := by
  w_on; o_law; k_head; (case hw => w_witness2)
  k_fill
  refine Nv.walk (l := PySem.Challenge.rw_neverowing_k02_shares_are_fractions) rfl rfl (by decide +kernel) (fun w h Y => PySem.W.kIn_of Y) ?F
  case F =>
    intro w mg fa h KX G hmg
    refine' Nv.all_mk KX G hmg ?z1 ?z2 ?z3 ?z4 ?z5 ?z6 ?z7 ?z8 ?aB ?xL ?rV ?sB ?gB ?ggB ?nB ?iB ?tE ?kB ?eB ?tB ?hB ?cB ?ssB ?lE ?cE ?kE ?tlE ?tdE ?aC ?aS ?iS ?lS ?cS ?kS ?tlS ?tdS ?pg ?hd ?po ?sa ?mk ?kc ?nT ?nBo ?hc1 ?hc2 ?hc3 ?hc4 ?ki ?kb ?no1 ?no2 ?no3 ?no4 ?no5 ?cC ?tC ?sf ?aI ?lI ?cI ?kI ?aO ?lO ?cO ?kO ?aTr ?lTr ?cTr ?kTr ?aA ?iA ?lA ?cA ?kA ?aRA ?iRA ?lRA ?cRA ?kRA ?aSu ?iSu ?lSu ?cSu ?kSu ?aRS ?iRS ?lRS ?cRS ?kRS ?aMu ?iMu ?lMu ?cMu ?kMu ?aRM ?iRM ?lRM ?cRM ?kRM ?aN ?iN ?lN ?cN ?kN ?aEq ?iEq ?lEq ?cEq ?kEq ?aBe ?iBe ?lBe ?cBe ?kBe ?aC_ ?lC_ ?cC_ ?kC_ ?aSt ?lSt ?cSt ?kSt ?aT ?lT ?cT ?kT ?aL ?lL ?cL ?kL ?aNu ?lNu ?cNu ?kNu ?aIs ?lIs ?cIs ?kIs ?aSm ?lSm ?cSm ?kSm ?aW ?lW ?cW ?kW ?p1A ?p2A ?p3A ?p4A ?p5A ?p1S ?p2S ?p3S ?p4S ?p5S ?p1M ?p2M ?p3M ?p4M ?p5M
    (case z1 => k_is); (case z2 => k_is); (case z3 => k_is); (case z4 => k_is); (case z5 => k_is); (case z6 => k_is)
    (case z7 => k_is); (case z8 => k_is); (case aB => k_is); (case xL => k_is); (case rV => first | rfl | decide +kernel); (case sB => k_is)
    (case gB => k_is); (case ggB => k_is); (case nB => k_is); (case iB => k_is); (case tE => k_is); (case kB => k_is)
    (case eB => k_is); (case tB => k_is); (case hB => k_is); (case cB => k_is); (case ssB => first | rfl | k_is); (case lE => k_is)
    (case cE => k_is); (case kE => k_is); (case tlE => k_is); (case tdE => rfl); (case aC => k_is); (case aS => k_is)
    (case iS => k_is); (case lS => k_is); (case cS => k_is); (case kS => k_is); (case tlS => k_is); (case tdS => rfl)
    (case pg => k_is); (case hd => k_is); (case po => k_is); (case sa => k_is); (case mk => k_is); (case kc => k_is)
    (case nT => k_is); (case nBo => k_is); (case hc1 => k_is); (case hc2 => k_is); (case hc3 => k_is); (case hc4 => k_is)
    (case ki => k_is); (case kb => k_is); (case no1 => k_is); (case no2 => k_is); (case no3 => k_is); (case no4 => k_is)
    (case no5 => k_is); (case cC => k_is); (case tC => k_is); (case sf => k_is); (case aI => k_is); (case lI => k_is)
    (case cI => k_is); (case kI => k_is); (case aO => k_is); (case lO => k_is); (case cO => k_is); (case kO => k_is)
    (case aTr => k_is); (case lTr => k_is); (case cTr => k_is); (case kTr => k_is); (case aA => k_is); (case iA => k_is)
    (case lA => k_is); (case cA => k_is); (case kA => k_is); (case aRA => k_is); (case iRA => k_is); (case lRA => k_is)
    (case cRA => k_is); (case kRA => k_is); (case aSu => k_is); (case iSu => k_is); (case lSu => k_is); (case cSu => k_is)
    (case kSu => k_is); (case aRS => k_is); (case iRS => k_is); (case lRS => k_is); (case cRS => k_is); (case kRS => k_is)
    (case aMu => k_is); (case iMu => k_is); (case lMu => k_is); (case cMu => k_is); (case kMu => k_is); (case aRM => k_is)
    (case iRM => k_is); (case lRM => k_is); (case cRM => k_is); (case kRM => k_is); (case aN => k_is); (case iN => k_is)
    (case lN => k_is); (case cN => k_is); (case kN => k_is); (case aEq => k_is); (case iEq => k_is); (case lEq => k_is)
    (case cEq => k_is); (case kEq => k_is); (case aBe => k_is); (case iBe => k_is); (case lBe => k_is); (case cBe => k_is)
    (case kBe => k_is); (case aC_ => k_is); (case lC_ => k_is); (case cC_ => k_is); (case kC_ => k_is); (case aSt => k_is)
    (case lSt => k_is); (case cSt => k_is); (case kSt => k_is); (case aT => k_is); (case lT => k_is); (case cT => k_is)
    (case kT => k_is); (case aL => k_is); (case lL => k_is); (case cL => k_is); (case kL => k_is); (case aNu => k_is)
    (case lNu => k_is); (case cNu => k_is); (case kNu => k_is); (case aIs => k_is); (case lIs => k_is); (case cIs => k_is)
    (case kIs => k_is); (case aSm => k_is); (case lSm => k_is); (case cSm => k_is); (case kSm => k_is); (case aW => k_is)
    (case lW => k_is); (case cW => k_is); (case kW => k_is); (case p1A => k_is); (case p2A => k_is); (case p3A => k_is)
    (case p4A => k_is); (case p5A => first | rfl | decide +kernel); (case p1S => k_is); (case p2S => k_is); (case p3S => k_is); (case p4S => k_is)
    (case p5S => first | rfl | decide +kernel); (case p1M => k_is); (case p2M => k_is); (case p3M => k_is); (case p4M => k_is); (case p5M => first | rfl | decide +kernel)
