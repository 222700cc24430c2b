import PyProof.Rows.All
import Wide.All
import OpenK.AllK
import Wide.FinOn
import PyProof.ReprRoads
import HandS.ForMost
import HandS.ForExc
import HandS.IsInst
import HandS.Gcd
import HandS.Defaults
import HandS.MakeKw
import HandS.MakeKwOnly
import HandS.ExcInit
import HandS.ExcField
import HandS.Wide
import PySem.Challenge.RW_neverowing_k03_shares_are_refused
set_option linter.all false
set_option maxRecDepth 100000
set_option maxHeartbeats 8000000
set_option Elab.async false
/-! Nv: what the laws of this program share. Part A: promises that know that no repr is under way; repr of plain data. -/
namespace Nv
open PySem PySem.Spec PyProof.Rows L2

/-! ### a promise kept where no repr is under way -/
structure FnG (P : Program) (w : World) (K : PySem.W.Frag) (mg : Str → Option Value) (base : Heap)
    (CX : CXT) (k : Nat) (f : Addr) (fd : FuncData) (ps : List Str) (sp : Sp) : Prop where
  len : ∀ vs H Q E, sp vs H Q E → vs.length = ps.length
  run : ∀ (A : Around) (outer : List Env) (s : Shared) (H : Hp) (args : Args) (us : List Value) (vs : List V)
    (Q : VK) (E : XK), Room k A → A.guards = some [] → Env0 P w K mg base A outer s H →
    BindsTo s fd args (ps.zip us) → Vals vs us → sp vs H Q E →
    codeAny (model P w) A (.call (.ref f) args) (CR CX outer P w H s Q E) s

section
variable {P : Program} {w : World} {K : PySem.W.Frag} {mg : Str → Option Value} {base : Heap} {CX : CXT}
  {k : Nat} {f : Addr} {fd : FuncData} {ps : List Str} {sp : Sp}

theorem FnG.of (F : FnOk P w K mg base CX k f fd ps sp) : FnG P w K mg base CX k f fd ps sp :=
  ⟨F.len, fun A o s H a us vs Q E r _ => F.run A o s H a us vs Q E r⟩

theorem FnG.mk_of {N : List Str} {x qual : Str} {st : Stmt} (F : Fun K x qual st f fd)
    (S : FnScope N ps (defScope st)) (len : ∀ vs H Q E, sp vs H Q E → vs.length = ps.length)
    (body : ∀ (cdv : Value) (A : Around) (outer : List Env) (s : Shared) (H : Hp) (vs : List V) (Q : VK) (E : XK),
      A.guards = some [] → Room k (A.deeper (envOfC qual (defScope st) s.heap.objs.size f cdv)) → sp vs H Q E →
      ∃ t, PSs (cxOf CX P w K mg base N qual (defScope st) f cdv A outer s H E) (defBody st) t ∧
        t { nx := fun _ H' => Q .non H', rt := Q } (start N vs) H) :
    FnG P w K mg base CX (k + 1) f fd ps sp := by
  obtain ⟨oc, od, kV, doc, pm, an, cdv, ct, osl, rfl, lk, hcd⟩ := F.ex
  refine ⟨len, fun A outer s H args us vs Q E room gd en bi rv q => ?_⟩
  have inS : K.In s.heap := en.mod.kin.keeps fun b o z => (en.bs b o z).1
  have noL : s.heap.NoLimit := en.mod.nolimit.keeps fun b o z => (en.bs b o z).1
  refine codeAny_call_function room.depth (inS _ _ lk) rfl S.co S.gen rfl (PySem.W.codeRec_of inS hcd) (bi _ _ _ _ ?_)
  refine wpAny_newFunctionEnv_cells S.kind (fun y hy => ?_) fun env he s1 ic => ?_
  · obtain ⟨n, v⟩ := y
    have mem := (List.of_mem_zip hy).1
    cases S.par n mem with
    | inl z => exact Or.inl z
    | inr z => exact Or.inr ⟨z, PySem.W.cellsFrom_some _ _ _ (Or.inl z)⟩
  · subst he
    refine ⟨noL.keeps ic.toInCall.keep, codeAny_func ?_⟩
    obtain ⟨t, ht, hq⟩ := body cdv A outer s H vs Q E gd (room.deeper _) q
    have J := inv_start (CX := CX) (E := E) S room.hd en (len _ _ _ _ q) rv ic
    have close : ∀ {σ' : L2.St} {H' : Hp} {v : V} {u : Value} {s' : Shared},
        Inv (cxOf CX P w K mg base N qual (defScope st) f cdv A outer s H E) [] σ' H' s' → RelV v u → Q v H' →
        CE outer P w H s Q u s' := fun I rel z => ⟨_, _, I.os, I.bare, I.base, I.hok, rel, z⟩
    refine wpAny_mono (ht.run [] s1 (start N vs) H _ J hq) (fun fl s' z => ?_) fun _ _ z => z
    cases fl with
    | ret u =>
      obtain ⟨v, σ', H', I, rel, z⟩ := z
      exact close I rel z
    | next =>
      obtain ⟨σ', H', I, z⟩ := z
      exact close (v := V.non) (u := Value.none) I rfl z
    | brk => exact False.elim z.choose_spec.choose_spec.2
    | cont => exact False.elim z.choose_spec.choose_spec.2
end

section
variable {X : Cx} {CX : CXT} {k : Nat} {f : Addr} {fd : FuncData} {ps : List Str} {sp : Sp} {dvs : List V}
  {ds : List Value} {E : XK} {x : Str} {p pos : Pos} {e : Expr} {es : List Expr} {t : TA}
/-- f(e, ..) of such a promise -/
theorem pe_callG (F : FnG X.prog X.w X.K X.mg X.base CX k f fd ps sp) (hr : Room k X.A) (gd : X.A.guards = some [])
    (hg : Gl X x) (hm : X.mg x = some (.ref f)) (hk : PySem.W.keepIn X.K (.ref f) = true)
    (hb : Binds X.K fd ps ds) (hd : Vals dvs ds) (hx : Passes CX X E) (ha : PA X (e :: es) t)
    (hdb : (x == ("__debug__" : Str)) = false := by decide)
    (he : starEach (e :: es) X.env = (false, eval e X.env) :: starEach es X.env := by rfl)
    (hpl : (backTo pos (starEach es X.env)).any (·.1) = false := by rfl) :
    PE X (.Call (.Name x p) (e :: es) [] pos) (tCall sp dvs E t) := by
  refine ⟨fun pins s σ H Q I h => wpAny_Call_Name_kw (ld_glob I hg hm ?_ hdb)⟩
  refine PySem.W.callWith_K (h₀ := X.base) I.ok.mod.kin hk
    (thn (ha.run pos pins s σ H _ I h) fun us s1 ⟨vs, H1, I1, r, q⟩ => ⟨I1.kIn, ?_⟩) he hpl
  have r2 : Vals (vs ++ dvs) (us ++ ds) := r.append hd
  have hl : (us ++ ds).length = ps.length := r2.length.symm.trans (F.len _ _ _ _ q)
  refine wpAny_call (codeAny_mono (F.run X.A X.stack s1 H1 ⟨us, []⟩ (us ++ ds) _ Q E hr gd I1.env0
    (hb s1 us I1.kIn hl) r2 q) fun r s' z => ?_)
  match r, z with
  | .error e, z => exact hx pins σ H1 s1 e s' I1 z
  | .ok (.ret u), z => exact I1.after z
  | .ok .next, z => exact False.elim z
  | .ok .brk, z => exact False.elim z
  | .ok .cont, z => exact False.elim z
end

/-! ### the law's own end, of such a promise; the address of sys.modules is taken -/
def Sys (K : PySem.W.Frag) (H : Hp) : Prop :=
  (∃ o, K.lookup sysModules = some o) ∨ ∃ o u, H sysModules = some (.frz o u)
theorem Sys.same {K : PySem.W.Frag} {H H' : Hp} (z : Sys K H) (k : Same H H') : Sys K H' := by
  rcases z with z | ⟨o, u, z⟩
  · exact Or.inl z
  · exact Or.inr ⟨o, u, k _ _ z⟩
theorem Sys.ne {X : Cx} {pins : List (Addr × Obj)} {σ : L2.St} {H : Hp} {s : Shared} (I : Inv X pins σ H s) (z : Sys X.K H)
    {a : Addr} {u : HO} (h : H a = some u) (nf : ∀ o v, u ≠ .frz o v) : a ≠ sysModules := fun e => by
  subst e
  rcases z with ⟨o, z⟩ | ⟨o, v, z⟩
  · have b := I.ok.mod.kin _ _ z
    rw [(I.bs _ _ b).2] at h
    exact nomatch h
  · rw [z] at h
    exact nf _ _ (Option.some.inj h).symm

theorem law_end {P : Program} {w : World} {K : PySem.W.Frag} {mg mb : Str → Option Value} {k : Nat} {fa a : Addr}
    {fd : FuncData} {x : Str} {sp : Sp} {s₁ : Shared} {vs : List Value} {ns : List Int}
    (KX : K.In s₁.heap) (hns : s₁.heap.Ns mainGlobals mg) (hb : s₁.heap.Ns builtinsNs mb)
    (hbb : ∀ x : Str, x ≠ "__name__" → mb x = bootBuiltins x) (hlim : s₁.heap.NoLimit) (hg : s₁.gens = #[])
    (ha : s₁.heap.get? a = some { cls := .type "list", data := .seq vs.toArray }) (hi : IntsAre vs ns)
    (hl : ns.length ≤ sizeLine) (hr : Room k callerA) (hsm : ∃ o, s₁.heap.get? sysModules = some o)
    (F : ∀ base : Heap, K.In base → base.Ns mainGlobals mg → FnG P w K mg base CX0 k fa fd [x] sp)
    (hbind : ∀ (s : Shared) (u : Value), BindsTo s fd ⟨[u], []⟩ [(x, u)])
    (hsp : ∀ H : Hp, Sys K H → SqL K H a (ns.map V.int) → sp [.ref a] H (fun v _ => v = .bl true) fun _ _ _ => False) :
    codeAny (model P w) callerA (.call (.ref fa) ⟨[.ref a], []⟩)
      (fun r s' => r = .ok (.ret (.bool true)) ∧ OldK s₁.heap s'.heap ∧ s'.os = s₁.os ∧ AllBare s'.gens) s₁ := by
  have rel := vals_ints hi
  have main : ∀ H : Hp, (∀ b, H b = none ∨ ∃ o u, H b = some (.frz o u)) → Sys K H → SqL K H a (ns.map V.int) →
      HOk P w H s₁.heap → (∀ b, H b ≠ none → b = a ∨ b = sysModules) → (∀ b, H b ≠ none → K.lookup b = none) →
      codeAny (model P w) callerA (.call (.ref fa) ⟨[.ref a], []⟩)
        (fun r s' => r = .ok (.ret (.bool true)) ∧ OldK s₁.heap s'.heap ∧ s'.os = s₁.os ∧ AllBare s'.gens) s₁ := by
    intro H only sys sq ok at1 noK
    have none_if : ∀ {b : Addr}, ¬ b = a → ¬ b = sysModules → H b = none := fun {b} h h' => by
      cases q : H b with
      | none => rfl
      | some u =>
        rcases at1 b (by rw [q]; exact fun z => nomatch z) with z | z
        · exact absurd z h
        · exact absurd z h'
    have down : ∀ {b : Addr} {o : Obj}, s₁.heap.get? b = some o → H b = none → (hidT s₁.heap H).get? b = some o :=
      fun z n => hidT_get z n
    have nsDown : ∀ {b : Addr} {m : Str → Option Value}, b ≠ sysModules → s₁.heap.Ns b m → (hidT s₁.heap H).Ns b m := fun {b m} ne z => by
      obtain ⟨o, es, ep, z1, z2, z3⟩ := z
      refine ⟨o, es, ep, down z1 (none_if (fun h => ?_) ne), z2, z3⟩
      subst h
      rw [ha] at z1
      obtain rfl := Option.some.inj z1
      exact absurd (show Data.seq vs.toArray _ = Data.dict es ep from z2) (fun q => nomatch q)
    have kinB : K.In (hidT s₁.heap H) := fun b o z => down (KX b o z) (by
      cases q : H b with
      | none => rfl
      | some u =>
        have y := noK b (by rw [q]; exact fun y => nomatch y)
        rw [y] at z
        exact absurd z (fun y => nomatch y))
    have md : Mod K mg (hidT s₁.heap H) :=
      ⟨kinB, nsDown (by decide) hns, ⟨mb, nsDown (by decide) hb, hbb⟩, by obtain ⟨mc, z1, z2⟩ := hlim; exact ⟨mc, nsDown (by decide) z1, z2⟩⟩
    have en : Env0 P w K mg (hidT s₁.heap H) callerA [] s₁ H :=
      ⟨rfl, md, fun b o z => of_hidT z, Nat.le_of_eq (hidT_size _ _), trivial,
        fun b z => absurd (show b ∈ ([] : List Addr) from z) (by simp), ok, .of_eq hg⟩
    refine codeAny_mono ((F _ kinB (nsDown (by decide) hns)).run callerA [] s₁ H ⟨[.ref a], []⟩ [.ref a] [.ref a] _ _ hr rfl en
      (hbind s₁ (.ref a)) (.cons rfl .nil) (hsp H sys sq)) fun r s' z => ?_
    match r, z with
    | .error _, z => exact False.elim z
    | .ok .next, z => exact False.elim z
    | .ok .brk, z => exact False.elim z
    | .ok .cont, z => exact False.elim z
    | .ok (.ret u), z =>
      obtain ⟨v, H', os, bare, un, ok', rv, q⟩ := z
      have q' : v = .bl true := q
      subst q'
      have hu : u = Value.bool true := rv
      subst hu
      refine ⟨rfl, OldK.of_keep fun b o z => ?_, os, bare⟩
      rcases only b with n | ⟨ob, xs, n⟩
      · exact un.keep b o z n (fun y => absurd (show b ∈ ([] : List Addr) from y) (by simp)) (by simp)
      · have y1 : s₁.heap.get? b = some ob := (ok b _ n).1
        have y2 : s'.heap.get? b = some ob := (ok' b _ (un.frzs b ob _ n)).1
        rw [z] at y1
        rw [y2, Option.some.inj y1]
  -- what stands at sys.modules' address
  obtain ⟨om, hom⟩ := hsm
  let fz : HO := .frz om (.ext fun h => h.get? sysModules = some om)
  have fzOk : ∀ H : Hp, ObjOk P w H s₁.heap sysModules fz := fun H =>
    ⟨hom, hom, ⟨om, hom⟩, fun h1 h2 z k => k _ z⟩
  let sz : HO := .frz { cls := .type "list", data := .seq vs.toArray } (.lst (ns.map V.int))
  have szOk : ∀ H : Hp, ObjOk P w H s₁.heap a sz := fun H =>
    ⟨ha, by rw [List.length_map]; exact hl, vs, _, rel, ha⟩
  let H : Hp := fun b => if b = a ∧ K.lookup a = none then some sz else if b = sysModules ∧ K.lookup sysModules = none then some fz else none
  have cs : ∀ b, (b = a ∧ K.lookup a = none ∧ H b = some sz) ∨ (b = sysModules ∧ K.lookup sysModules = none ∧ H b = some fz) ∨ H b = none := fun b => by
    by_cases h1 : b = a ∧ K.lookup a = none
    · exact Or.inl ⟨h1.1, h1.2, if_pos h1⟩
    · by_cases h2 : b = sysModules ∧ K.lookup sysModules = none
      · exact Or.inr (Or.inl ⟨h2.1, h2.2, (if_neg h1).trans (if_pos h2)⟩)
      · exact Or.inr (Or.inr ((if_neg h1).trans (if_neg h2)))
  refine main H (fun b => ?_) ?_ ?_ (fun b u z => ?_) (fun b z => ?_) (fun b z => ?_)
  · rcases cs b with ⟨_, _, h⟩ | ⟨_, _, h⟩ | h
    · exact Or.inr ⟨_, _, h⟩
    · exact Or.inr ⟨_, _, h⟩
    · exact Or.inl h
  · cases q : K.lookup sysModules with
    | some o => exact Or.inl ⟨o, q⟩
    | none =>
      rcases cs sysModules with ⟨_, _, h⟩ | ⟨_, _, h⟩ | h
      · exact Or.inr ⟨_, _, h⟩
      · exact Or.inr ⟨_, _, h⟩
      · exfalso
        by_cases h1 : sysModules = a ∧ K.lookup a = none
        · rw [show H sysModules = some sz from if_pos h1] at h
          exact nomatch h
        · rw [show H sysModules = some fz from (if_neg h1).trans (if_pos ⟨rfl, q⟩)] at h
          exact nomatch h
  · cases q : K.lookup a with
    | some o =>
      have z := KX a o q
      rw [ha] at z
      obtain rfl := Option.some.inj z
      exact Or.inr ⟨_, vs.toArray, _, q, rfl, rfl, rfl, by rw [List.size_toArray, hi.length]; exact hl, by simpa using rel⟩
    | none => exact Or.inl (Or.inr ⟨{ cls := .type "list", data := .seq vs.toArray }, if_pos ⟨rfl, q⟩⟩)
  · rcases cs b with ⟨e, _, h⟩ | ⟨e, _, h⟩ | h
    · rw [z] at h
      obtain rfl := Option.some.inj h
      rw [e]
      exact szOk H
    · rw [z] at h
      obtain rfl := Option.some.inj h
      rw [e]
      exact fzOk H
    · rw [z] at h
      exact nomatch h
  · rcases cs b with ⟨e, _, h⟩ | ⟨e, _, h⟩ | h
    · exact Or.inl e
    · exact Or.inr e
    · exact absurd h z
  · rcases cs b with ⟨e, l, h⟩ | ⟨e, l, h⟩ | h
    · rw [e]; exact l
    · rw [e]; exact l
    · exact absurd h z

theorem law_walk {l : PySem.W.OpenLaw} {n k : Nat} {q : Program} {loose : List Str} {XP : (Str → Option Value) → Heap → Prop}
    {YP : World → Heap → Prop} {d : DefRec} {K : Params → PySem.W.Frag} {sp : World → Sp} {x : Str}
    (hn : l.most = some n) (hn2 : n ≤ sizeLine) (hdf : d.params.defaults = []) (hr : Room k callerA)
    (him : importsNone q = true)
    (hY : ∀ (w : World) (h : Heap), YP w h → (K w.params).In h)
    (F : ∀ (w : World) (mg : Str → Option Value) (fa : Addr) (h : Heap), (K w.params).In h → h.Ns mainGlobals mg →
      mg d.name = some (.ref fa) → ∃ fd : FuncData, (∀ (s : Shared) (u : Value), BindsTo s fd ⟨[u], []⟩ [(x, u)]) ∧
        ∀ base : Heap, (K w.params).In base → base.Ns mainGlobals mg → FnG l.prog w (K w.params) mg base CX0 k fa fd [x] (sp w))
    (hsp : ∀ (w : World) (H : Hp) (a : Addr) (ns : List Int), ns.length ≤ n → Sys (K w.params) H → SqL (K w.params) H a (ns.map V.int) →
      sp w [.ref a] H (fun v _ => v = .bl true) fun _ _ _ => False) :
    PySem.W.WalkO q loose XP YP l.row.toRowW d [] (fun f vs => PySem.call f vs) := by
  refine Att.attach_call hn hdf fun w s₀ s₁ mg mb fa o pm cd doc a vs ns G Y ho hd hcd hmg hobj hints hlen hg => ?_
  have inK := hY w _ Y
  obtain ⟨fd, bi, run⟩ := F w mg fa _ inK G.T.g hmg
  have hsm : ∃ o, s₁.heap.get? sysModules = some o := by
    obtain ⟨mm, ⟨o, _, _, z, _⟩, _⟩ := (G.T.seer him).mods
    exact ⟨o, z⟩
  exact law_end inK G.T.g G.T.b G.T.builtins G.T.nolimit hg hobj hints (Nat.le_trans hlen hn2) hr hsm run bi
    fun H h1 h2 => hsp w H a ns hlen h1 h2
end Nv
/-! Nv, part B: data with dicts in it, and what repr says of it. -/
namespace Nv
open PySem PySem.Spec PyProof.Rows L2

def keyD : Key → PyData
  | .inl i => .int i
  | .inr x => .str x

mutual
inductive Dq (H : Hp) : V → PyData → Prop
  | non : Dq H .non .none
  | bl (b : Bool) : Dq H (.bl b) (.bool b)
  | int (i : Int) : Dq H (.int i) (.int i)
  | str (x : Str) : Dq H (.str x) (.str x)
  | lst {a : Addr} {xs : List V} {ds : List PyData} : H a = some (.lst xs) → DqAll H xs ds → Dq H (.ref a) (.list ds)
  | tup {a : Addr} {xs : List V} {ds : List PyData} : H a = some (.tup xs) → DqAll H xs ds → Dq H (.ref a) (.tuple ds)
  | dic {a : Addr} {kvs : List (Key × V)} {ds : List PyData} : H a = some (.dK kvs) → DqAll H (kvs.map (·.2)) ds →
      Dq H (.ref a) (.dict ((kvs.map fun p => keyD p.1).zip ds))
inductive DqAll (H : Hp) : List V → List PyData → Prop
  | nil : DqAll H [] []
  | cons {v : V} {vs : List V} {d : PyData} {ds : List PyData} : Dq H v d → DqAll H vs ds → DqAll H (v :: vs) (d :: ds)
end

mutual
theorem Dq.same {H H' : Hp} (k : Same H H') : ∀ {v : V} {d : PyData}, Dq H v d → Dq H' v d
  | _, _, .non => .non
  | _, _, .bl b => .bl b
  | _, _, .int i => .int i
  | _, _, .str x => .str x
  | _, _, .lst h t => .lst (k _ _ h) (DqAll.same k t)
  | _, _, .tup h t => .tup (k _ _ h) (DqAll.same k t)
  | _, _, .dic h t => .dic (k _ _ h) (DqAll.same k t)
theorem DqAll.same {H H' : Hp} (k : Same H H') : ∀ {vs : List V} {ds : List PyData}, DqAll H vs ds → DqAll H' vs ds
  | _, _, .nil => .nil
  | _, _, .cons a b => .cons (Dq.same k a) (DqAll.same k b)
end

theorem reads_keys {P : Program} {w : World} {h : Heap} : ∀ {es : List DictEntry} {vs : List (Key × Value)},
    Pairs (mixKind P w) es vs → ReadsAll h (es.map (·.key)) (vs.map fun p => keyD p.1) []
  | _, _, .nil => .nil
  | _, _, .cons (e := e) (kv := kv) h1 h2 t => by
    have tl := reads_keys (h := h) t
    have h1' : keyIs kv.1 e.key = true := h1
    rcases keyIs_shape h1' with ⟨i, tk, z1, z2⟩ | ⟨x, tk, z1, z2⟩
    · have hd : Reads h e.key (keyD kv.1) [] := by rw [z1, z2]; exact .int i tk
      exact ReadsAll.cons hd tl
    · have hd : Reads h e.key (keyD kv.1) [] := by rw [z1, z2]; exact .str x tk
      exact ReadsAll.cons hd tl
theorem pairs_vals {P : Program} {w : World} : ∀ {es : List DictEntry} {vs : List (Key × Value)},
    Pairs (mixKind P w) es vs → es.map (·.val) = vs.map (·.2)
  | _, _, .nil => rfl
  | _, _, .cons h1 h2 t => by
    rw [List.map_cons, List.map_cons, h2, pairs_vals t]
theorem kv_keys : ∀ {kvs : List (Key × V)} {vs : List (Key × Value)}, KV kvs vs →
    (kvs.map fun p => keyD p.1) = vs.map fun p => keyD p.1
  | _, _, .nil => rfl
  | _, _, .cons h t => by
    rw [List.map_cons, List.map_cons, kv_keys t, h.1]
theorem kv_vals : ∀ {kvs : List (Key × V)} {vs : List (Key × Value)}, KV kvs vs → Vals (kvs.map (·.2)) (vs.map (·.2))
  | _, _, .nil => .nil
  | _, _, .cons h t => .cons h.2 (kv_vals t)
theorem dqAll_len {H : Hp} : ∀ {vs : List V} {ds : List PyData}, DqAll H vs ds → vs.length = ds.length
  | _, _, .nil => rfl
  | _, _, .cons _ t => congrArg Nat.succ (dqAll_len t)
theorem map_fst_zip {α β : Type} : ∀ (xs : List α) (ys : List β), xs.length = ys.length → (xs.zip ys).map (·.1) = xs
  | [], [], _ => rfl
  | x :: xs, y :: ys, h => by
    rw [List.zip_cons_cons, List.map_cons, map_fst_zip xs ys (Nat.succ.inj h)]
theorem map_snd_zip {α β : Type} : ∀ (xs : List α) (ys : List β), xs.length = ys.length → (xs.zip ys).map (·.2) = ys
  | [], [], _ => rfl
  | x :: xs, y :: ys, h => by
    rw [List.zip_cons_cons, List.map_cons, map_snd_zip xs ys (Nat.succ.inj h)]

section
variable {X : Cx} {pins : List (Addr × Obj)} {σ : L2.St} {H : Hp} {s : Shared}
mutual
theorem Dq.reads (I : Inv X pins σ H s) (h1 : Sys X.K H) : ∀ {v : V} {d : PyData} {u : Value}, Dq H v d → RelV v u →
    ∃ as, Reads s.heap u d as ∧ sysModules ∉ as
  | _, _, _, .non, r => by
    cases r
    exact ⟨_, .none, by simp⟩
  | _, _, _, .bl b, r => by
    cases r
    exact ⟨_, .bool b, by simp⟩
  | _, _, _, .int i, r => by
    obtain ⟨t, rfl⟩ := r
    exact ⟨_, .int i t, by simp⟩
  | _, _, _, .str x, r => by
    obtain ⟨t, rfl⟩ := r
    exact ⟨_, .str x t, by simp⟩
  | _, _, _, .lst (a := a) hs ha, r => by
    cases r
    obtain ⟨_, its, n, rv, ho⟩ : _ ∧ _ := I.hok a _ hs
    obtain ⟨as, hr, na⟩ := DqAll.reads I h1 ha rv
    have ne : a ≠ sysModules := h1.ne I hs (fun _ _ z => nomatch z)
    refine ⟨_, Reads.list ho rfl rfl hr, fun z => ?_⟩
    rcases List.mem_cons.mp z with z | z
    · exact ne z.symm
    · exact na z
  | _, _, _, .tup (a := a) hs ha, r => by
    cases r
    obtain ⟨_, its, rv, o, ho, hc, n, hd⟩ : _ ∧ _ := I.hok a _ hs
    obtain ⟨as, hr, na⟩ := DqAll.reads I h1 ha rv
    exact ⟨_, Reads.tuple ho hc hd hr, na⟩
  | _, _, _, .dic (a := a) (kvs := kvs) (ds := ds) hs ha, r => by
    cases r
    obtain ⟨_, _, vs, rel, o, es, ep, ho, ex, hd, _, pr, _⟩ : _ ∧ _ := I.hok a _ hs
    obtain ⟨bs, hr, nb⟩ := DqAll.reads I h1 ha (kv_vals rel)
    have ne : a ≠ sysModules := h1.ne I hs (fun _ _ z => nomatch z)
    have ll : (kvs.map fun p => keyD p.1).length = ds.length := by
      rw [List.length_map, ← dqAll_len ha, List.length_map]
    have k1 : ReadsAll s.heap (es.toList.map (·.key)) (((kvs.map fun p => keyD p.1).zip ds).map (·.1)) [] := by
      rw [map_fst_zip _ _ ll, kv_keys rel]
      exact reads_keys pr
    have k2 : ReadsAll s.heap (es.toList.map (·.val)) (((kvs.map fun p => keyD p.1).zip ds).map (·.2)) bs := by
      rw [map_snd_zip _ _ ll, pairs_vals pr]
      exact hr
    refine ⟨_, Reads.dict ho ex.1 hd k1 k2, fun z => ?_⟩
    rcases List.mem_cons.mp z with z | z
    · exact ne z.symm
    · exact nb z
theorem DqAll.reads (I : Inv X pins σ H s) (h1 : Sys X.K H) : ∀ {vs : List V} {ds : List PyData} {us : List Value},
    DqAll H vs ds → Vals vs us → ∃ as, ReadsAll s.heap us ds as ∧ sysModules ∉ as
  | _, _, _, .nil, r => by
    cases r
    exact ⟨_, .nil, by simp⟩
  | _, _, _, .cons a b, r => by
    cases r with
    | cons r1 r2 =>
      obtain ⟨as, q1, n1⟩ := Dq.reads I h1 a r1
      obtain ⟨bs, q2, n2⟩ := DqAll.reads I h1 b r2
      exact ⟨_, .cons q1 q2, fun z => by
        rcases List.mem_append.mp z with z | z
        · exact n1 z
        · exact n2 z⟩
end
end

/-- repr(v), v a list, a tuple or a dict of plain data -/
def rRepr (K : PySem.W.Frag) : List V → Hp → VK → Prop := fun vs H Q => ∃ (a : Addr) (d : PyData), vs = [.ref a] ∧ Sys K H ∧ Dq H (.ref a) d ∧
  d.showable = true ∧ d.depth ≤ 30 ∧ d.shown.length ≤ sizeLine ∧ Q (.str d.shown) H
theorem call_reprD {X : Cx} {k : Nat} (hr : Room k X.A) (gd : X.A.guards = some []) : CallR X (.builtin "repr") (rRepr X.K) := by
  intro pins s σ H vs us Q I r h
  obtain ⟨a, d, rfl, h1, dq, sh, dp, sz, q⟩ := h
  obtain ⟨u, rfl, ru⟩ := vals1 r
  cases ru
  obtain ⟨as, rd, na⟩ := Dq.reads I h1 dq rfl
  have un := hr.un
  exact repr_of_reads' rd sh (fun _ => na) gd (by omega) (fun _ _ z => z) (fun h' u tk kp => ⟨.str d.shown, H, I.kept kp, ⟨u, rfl⟩, q⟩) sz
end Nv
/-! Nv, part C: instances made where what is raised is wished for at the slots; errors with a what; kinds. -/
namespace Nv
open PySem PySem.Spec PyProof.Rows L2

section
variable {X : Cx} {CX : CXT} {k n : Nat} {f C : Addr} {fd : FuncData} {ps ks : List Str} {sp : Sp} {E : L2.St → XK} {x : Str}
  {p pos : Pos} {e : Expr} {es : List Expr} {kws : List Keyword} {t tk : TA} {g : List Value → List Value → List Value}
  {gV : List V → List V → List V}
/-- C(e, .., k = v, ..); what is raised is wished for at the slots -/
def tMkS (C : Addr) (n m : Nat) (sp : Sp) (gV : List V → List V → List V) (E : L2.St → XK) (t tk : TA) : TE := fun σ H Q =>
  t σ H fun vs H1 => tk σ H1 fun zs H2 => vs.length = n ∧ zs.length = m ∧ ∀ x dx, H2 x = none → H2 dx = none → dx ≠ x →
    sp (gV (.ref x :: vs) zs) (upd (upd H2 dx (.own x)) x (.ins C dx [])) (fun v H3 => v = .non ∧ Q (.ref x) H3) (E σ)
theorem run_mkS {pins : List (Addr × Obj)} {σ : L2.St} {H : Hp} {s : Shared} {Q : VK} {us ws : List Value} {vs zs : List V}
    (M : Mk X.K C f) (F : FnOk X.prog X.w X.K X.mg X.base CX k f fd ps sp) (hr : Room (k + 1) X.A)
    (hb : KBn X.K fd ps (n + 1) ks g gV) (hx : PassesAt CX X σ (E σ)) (I : Inv X pins σ H s) (r : Vals vs us) (rz : Vals zs ws)
    (l1 : vs.length = n) (l2 : zs.length = ks.length)
    (h : ∀ x dx, H x = none → H dx = none → dx ≠ x → sp (gV (.ref x :: vs) zs) (upd (upd H dx (.own x)) x (.ins C dx []))
      (fun v H2 => v = .non ∧ Q (.ref x) H2) (E σ)) :
    wpAny (model X.prog X.w) X.A (call (.ref C) us (ks.zip ws)) (EP X pins σ Q) X.xe s := by
  have big := h (s.heap.objs.size + 1) s.heap.objs.size (I.hok.fresh (Nat.le_succ _)) (I.hok.fresh (Nat.le_refl _))
    (Nat.ne_of_lt (Nat.lt_succ_self _))
  have J := Inv.made (C := C) I
  have q1 : Vals (V.ref (s.heap.objs.size + 1) :: vs) (Value.ref (s.heap.objs.size + 1) :: us) := .cons rfl r
  have n1 : (Value.ref (s.heap.objs.size + 1) :: us).length = n + 1 := q1.length.symm.trans (congrArg Nat.succ l1)
  have n2 : ws.length = ks.length := rz.length.symm.trans l2
  refine wpAny_call (make_map (f := f) I.kIn M.makes M.init (beq_iff_eq.mp M.fn) (codeAny_mono
    (F.run _ X.stack _ _ ⟨Value.ref (s.heap.objs.size + 1) :: us, ks.zip ws⟩ (g (Value.ref (s.heap.objs.size + 1) :: us) ws) _ _ (E σ)
      (hr.make C us (ks.zip ws)) (J.env0.make C us (ks.zip ws)) (hb.to _ (Value.ref (s.heap.objs.size + 1) :: us) ws J.kIn n1 n2)
      (hb.rel q1 rz) big) fun r s' z => ?_))
  match r, z with
  | .error e, z => exact hx pins _ _ e s' J z
  | .ok .next, z => exact False.elim z
  | .ok .brk, z => exact False.elim z
  | .ok .cont, z => exact False.elim z
  | .ok (.ret u), z =>
    obtain ⟨v, H', I3, rv, ev, q3⟩ := J.after z
    subst ev
    exact ⟨rv, ⟨V.ref (s.heap.objs.size + 1), H', I3, rfl, q3⟩⟩
theorem pe_mkS (M : Mk X.K C f) (F : FnOk X.prog X.w X.K X.mg X.base CX k f fd ps sp) (hr : Room (k + 1) X.A) (hg : Gl X x)
    (hm : X.mg x = some (.ref C)) (hb : KBn X.K fd ps (n + 1) ks g gV) (hx : ∀ σ, PassesAt CX X σ (E σ))
    (ha : PA X (e :: es) t) (hkw : PK X kws tk) (hall : (backToKw pos (keywordEach kws X.env)).all (·.1.isSome) = true := by rfl)
    (hks : (backToKw pos (keywordEach kws X.env)).filterMap (·.1) = ks := by rfl) (hdb : (x == ("__debug__" : Str)) = false := by decide)
    (he : starEach (e :: es) X.env = (false, eval e X.env) :: starEach es X.env := by rfl)
    (hpl : ((backTo pos (starEach (e :: es) X.env)).any (·.1) || (backToKw pos (keywordEach kws X.env)).any (·.1.isNone)) = false := by rfl) :
    PE X (.Call (.Name x p) (e :: es) kws pos) (tMkS C n ks.length sp gV E t tk) := by
  refine ⟨fun pins s σ H Q I h => wpAny_Call_Name_kw (ld_glob I hg hm ?_ hdb)⟩
  refine PySem.W.callWith_KW (h₀ := X.base) I.ok.mod.kin M.kp hall
    (thn (ha.run pos pins s σ H _ I h) fun us s1 ⟨vs, H1, I1, r, q⟩ => ?_) hpl he
  refine thn (hkw.run pos pins s1 σ H1 _ I1 q) fun ws s2 ⟨zs, H2, I2, rz, l1, l2, q2⟩ => ⟨I2.kIn, ?_⟩
  rw [hks]
  exact run_mkS M F hr hb (hx σ) I2 r rz l1 l2 q2
theorem pe_mkS0 (M : Mk X.K C f) (F : FnOk X.prog X.w X.K X.mg X.base CX k f fd ps sp) (hr : Room (k + 1) X.A) (hg : Gl X x)
    (hm : X.mg x = some (.ref C)) (hb : KBn X.K fd ps 1 ks g gV) (hx : ∀ σ, PassesAt CX X σ (E σ)) (hkw : PK X kws tk)
    (hall : (backToKw pos (keywordEach kws X.env)).all (·.1.isSome) = true := by rfl)
    (hks : (backToKw pos (keywordEach kws X.env)).filterMap (·.1) = ks := by rfl) (hdb : (x == ("__debug__" : Str)) = false := by decide)
    (hpl : ((backTo pos (starEach [] X.env)).any (·.1) || (backToKw pos (keywordEach kws X.env)).any (·.1.isNone)) = false := by rfl) :
    PE X (.Call (.Name x p) [] kws pos) (tMkS C 0 ks.length sp gV E tNil tk) := by
  refine ⟨fun pins s σ H Q I h => wpAny_Call_Name_kw (ld_glob I hg hm ?_ hdb)⟩
  refine PySem.W.callWith_KW0 (h₀ := X.base) I.ok.mod.kin M.kp hall ?_ hpl
  refine thn (hkw.run pos pins s σ H _ I h) fun ws s2 ⟨zs, H2, I2, rz, l1, l2, q2⟩ => ⟨I2.kIn, ?_⟩
  rw [hks]
  exact run_mkS (us := []) (vs := []) M F hr hb (hx σ) I2 .nil rz rfl l2 q2
end

/-! ### kinds -/
def isI : V → Bool
  | .int _ => true
  | _ => false
/-- what isinstance of int and of bool say of x: is it an integer and no flag -/
structure KdOf (K : PySem.W.Frag) (H : Hp) (x : V) : Prop where
  ex : ∃ (t : Value) (b1 b2 : Bool), TyX K H x t ∧ PySem.W.kitOne K t (.type "int") = some b1 ∧
    PySem.W.kitOne K t (.type "bool") = some b2 ∧ (b1 && !b2) = isI x
theorem kd_non {K : PySem.W.Frag} {H : Hp} : KdOf K H .non :=
  ⟨_, false, false, .base .non, kit_ty (by decide +kernel), kit_ty (by decide +kernel), rfl⟩
theorem kd_bl {K : PySem.W.Frag} {H : Hp} (b : Bool) : KdOf K H (.bl b) :=
  ⟨_, true, true, .base (.bl b), kit_ty (by decide +kernel), kit_ty (by decide +kernel), rfl⟩
theorem kd_int {K : PySem.W.Frag} {H : Hp} (i : Int) : KdOf K H (.int i) :=
  ⟨_, true, false, .base (.int i), kit_ty (by decide +kernel), kit_ty (by decide +kernel), rfl⟩
theorem kd_str {K : PySem.W.Frag} {H : Hp} (x : Str) : KdOf K H (.str x) :=
  ⟨_, false, false, .base (.str x), kit_ty (by decide +kernel), kit_ty (by decide +kernel), rfl⟩
theorem kd_lst {K : PySem.W.Frag} {H : Hp} {a : Addr} {xs : List V} (h : H a = some (.lst xs)) : KdOf K H (.ref a) :=
  ⟨_, false, false, .base (.lst h), kit_ty (by decide +kernel), kit_ty (by decide +kernel), rfl⟩
theorem kd_tup {K : PySem.W.Frag} {H : Hp} {a : Addr} {xs : List V} (h : H a = some (.tup xs)) : KdOf K H (.ref a) :=
  ⟨_, false, false, .base (.tup h), kit_ty (by decide +kernel), kit_ty (by decide +kernel), rfl⟩
theorem kd_dK {K : PySem.W.Frag} {H : Hp} {a : Addr} {kvs : List (Key × V)} (h : H a = some (.dK kvs)) : KdOf K H (.ref a) :=
  ⟨_, false, false, .base (.dK h), kit_ty (by decide +kernel), kit_ty (by decide +kernel), rfl⟩
/-- what isinstance asks of an own class -/
structure IsC (K : PySem.W.Frag) (C : Addr) : Prop where
  cl : Cls K C
  ha : PySem.W.findIn K (.ref C) "__class__" = some (some (.builtin "object.__class__"))
  hn : PySem.W.specialIn K (.builtin "object.__class__") "__get__" = some (some (.builtin "getset_descriptor.__get__"))
  htk : PySem.W.takesIn K (.builtin "object.__class__") = some true
  hm : PySem.W.mroIn K C (.type "object") = some true
  ki : PySem.W.kitOne K (.ref C) (.type "int") = some false
  kb : PySem.W.kitOne K (.ref C) (.type "bool") = some false
theorem kd_ins {K : PySem.W.Frag} {H : Hp} {a C dx : Addr} {fs : List (Str × V)} (c : IsC K C) (h : H a = some (.ins C dx fs)) : KdOf K H (.ref a) :=
  ⟨_, false, false, .base (.ins h c.cl c.ha c.hn c.htk c.hm), c.ki, c.kb, rfl⟩
theorem TyOf.same {K : PySem.W.Frag} {H H' : Hp} {x : V} {t : Value} (k : Same H H') (h : TyOf K H x t) : TyOf K H' x t := by
  cases h with
  | non => exact .non
  | bl b => exact .bl b
  | int i => exact .int i
  | str y => exact .str y
  | flt y => exact .flt y
  | lst e => exact .lst (k _ _ e)
  | frz e => exact .frz (k _ _ e)
  | tup e => exact .tup (k _ _ e)
  | dK e => exact .dK (k _ _ e)
  | dT e => exact .dT (k _ _ e)
  | ins e cl ha hn htk hm => exact .ins (k _ _ e) cl ha hn htk hm
theorem TyX.same {K : PySem.W.Frag} {H H' : Hp} {x : V} {t : Value} (k : Same H H') (h : TyX K H x t) : TyX K H' x t := by
  cases h with
  | base h => exact .base (TyOf.same k h)
  | byt b => exact .byt b
  | set e => exact .set (k _ _ e)
  | kList e c => exact .kList e c
  | kTuple e c => exact .kTuple e c
  | kDict e c => exact .kDict e c
  | fTuple e => exact .fTuple (k _ _ e)
  | fDict e => exact .fDict (k _ _ e)
theorem KdOf.same {K : PySem.W.Frag} {H H' : Hp} {x : V} (k : Same H H') (h : KdOf K H x) : KdOf K H' x := by
  obtain ⟨t, b1, b2, a, b, c, d⟩ := h.ex
  exact ⟨t, b1, b2, TyX.same k a, b, c, d⟩

/-! ### errors with a what -/
def whatF (v : V) : List (Str × V) := [("what", v)]
/-- what the written part says of an own error class without an __init__ of its own -/
structure ExC (K : PySem.W.Frag) (mg : Str → Option Value) (x : Str) (C fI : Addr) : Prop where
  gC : mg x = some (.ref C)
  ox : OexC K C
  iC : PySem.W.findIn K (.ref C) "__init__" = some (some (.ref fI))
  tI : PySem.W.typeIn K (.ref fI) = some (.type "function")
  no : PySem.W.findIn K (.ref C) "what" = some none
  xf : XfC K C
  te : PySem.W.exmOne K (.ref C) (.ref C) = some true
/-- __init__(self, what) of the errors -/
def spExI (K : PySem.W.Frag) : Sp := fun vs H Q _ => ∃ (a C : Addr) (v : V), vs = [.ref a, v] ∧ OexC K C ∧
  PySem.W.findIn K (.ref C) "what" = some none ∧ H a = some (exo a C none) ∧
  ∀ dx, H dx = none → dx ≠ a → Q .non (upd (upd H dx (exd dx (whatF v))) a (exo a C (some dx)))
theorem heap_back {H : Hp} {a dx : Addr} {o1 o2 o3 o4 : HO} (ha : H a = none) (ne : dx ≠ a) :
    upd (L2.del (upd (upd (upd H a o1) dx o2) a o3) a) dx o4 = upd H dx o4 := by
  funext b
  by_cases h : b = dx
  · subst h
    rw [upd_same, upd_same]
  · rw [upd_ne h, upd_ne h]
    by_cases h2 : b = a
    · subst h2
      rw [L2.del_same, ha]
    · rw [L2.del_ne h2, upd_ne h2, upd_ne h, upd_ne h2]
theorem mk_err {K : PySem.W.Frag} {mg : Str → Option Value} {x : Str} {C fI : Addr} (T : ExC K mg x C fI) {te : TE} {σ : L2.St} {H : Hp} {Q : XK}
    (h : te σ H fun v H1 => ∀ d, H1 d = none → Q (.ref C) (some d) (upd H1 d (.xd (whatF v)))) (mono : ∀ {A B : V → Hp → Prop}, (∀ v H, A v H → B v H) → te σ H A → te σ H B) :
    tMkO C (spExI K) [] (tCons te tNil) σ H Q := by
  refine mono (fun v H1 q => ?_) h
  show [v].length ≤ 1000 ∧ _
  refine ⟨by show 1 ≤ 1000; decide, fun a ha => ⟨a, C, v, rfl, T.ox, T.no, upd_same, fun dx hdx ne => ⟨rfl, dx, whatF v, upd_same, ?_, ?_, ?_⟩⟩⟩
  · rw [upd_ne ne, upd_same]
  · rw [upd_ne ne] at hdx
    exact hdx
  · rw [upd_ne ne] at hdx
    rw [heap_back ha ne]
    exact q dx hdx
end Nv
/-! Nv, part D: the laws' own helpers: a cell, the generator's state, a draw; how what stands is carried over draws. -/
namespace Nv
open PySem PySem.Spec PyProof.Rows L2
/-- what the built-ins' names hold -/
structure Blt (mg : Str → Option Value) : Prop where
  len : mg "len" = none
  int : mg "int" = none
  bool : mg "bool" = none
  abs : mg "abs" = none
  isi : mg "isinstance" = none
  rep : mg "repr" = none
  rng : mg "range" = none
/-- a cell of the script -/
def spCel (K : PySem.W.Frag) : Sp := fun vs H Q _ => ∃ (a : Addr) (ns : List Int) (j : Nat),
  vs = [.ref a, .int (j : Int)] ∧ SqL K H a (ns.map V.int) ∧ Q (.int (ns.getD j 0)) H
/-- the generator's state -/
def spSta : Sp := fun vs H Q _ => ∃ (n : Int), vs = [.int n] ∧
  ∀ (p : Addr) (a b c : Int), H p = none → Q (.ref p) (upd H p (.lst [.int a, .int b, .int c]))
/-- a draw: some number below many -/
def spTak : Sp := fun vs H Q _ => ∃ (p : Addr) (a b c m : Int), vs = [.ref p, .int m] ∧ 0 < m ∧ m < 1073741824 ∧
  H p = some (.lst [.int a, .int b, .int c]) ∧
  ∀ (d a' b' c' : Int), 0 ≤ d → d < m → Q (.int d) (upd H p (.lst [.int a', .int b', .int c']))
theorem same_new {H : Hp} {p dx : Addr} {o1 o2 : HO} (hp : H p = none) (hd : H dx = none) : Same H (upd (upd H dx o1) p o2) := fun b o e => by
  rw [upd_ne (ne_of_none e hp), upd_ne (ne_of_none e hd)]
  exact e
theorem same_upd {H : Hp} {p : Addr} {o : HO} (hp : H p = none) : Same H (upd H p o) := fun b u e => by
  rw [upd_ne (ne_of_none e hp)]
  exact e

/-- a law's def: nothing is let out, no repr is under way -/
theorem FnG.mk0 {P : Program} {w : World} {K : PySem.W.Frag} {mg : Str → Option Value} {base : Heap} {k : Nat} {f : Addr} {fd : FuncData}
    {N ps : List Str} {sp : Sp} {x qual : Str} {st : Stmt} (F : Fun K x qual st f fd)
    (S : FnScope N ps (defScope st)) (len : ∀ vs H Q E, sp vs H Q E → vs.length = ps.length)
    (body : ∀ (cdv : Value) (A : Around) (outer : List Env) (s : Shared) (H : Hp) (vs : List V) (Q : VK) (E : XK),
      A.guards = some [] → Room k (A.deeper (envOfC qual (defScope st) s.heap.objs.size f cdv)) → sp vs H Q E →
      ∃ t, PSs (cxOf CX0 P w K mg base N qual (defScope st) f cdv A outer s H E).nox (defBody st) t ∧
        t { nx := fun _ H' => Q .non H', rt := Q } (start N vs) H) :
    FnG P w K mg base CX0 (k + 1) f fd ps sp :=
  FnG.mk_of F S len fun cdv A outer s H vs Q E gd hr q => by
    obtain ⟨t, h1, h2⟩ := body cdv A outer s H vs Q E gd hr q
    exact ⟨t, h1.nox, h2⟩

/-- G stands beside the generator's state at st -/
structure Dr (G : Hp) (st : Addr) (H : Hp) : Prop where
  same : Same G H
  free : G st = none
  at_ : ∃ a b c : Int, H st = some (.lst [.int a, .int b, .int c])
theorem Dr.mono {G : Hp} {st : Addr} {H H' : Hp} (d : Dr G st H) (k : Same H H') : Dr G st H' := by
  obtain ⟨a, b, c, h⟩ := d.at_
  exact ⟨d.same.trans k, d.free, a, b, c, k _ _ h⟩
theorem Dr.put {G : Hp} {st : Addr} {H : Hp} {a b c : Int} (d : Dr G st H) : Dr G st (upd H st (.lst [.int a, .int b, .int c])) :=
  ⟨fun x o e => by rw [upd_ne (ne_of_none e d.free)]; exact d.same x o e, d.free, a, b, c, upd_same⟩
/-- something new that is to stand -/
theorem Dr.new {G : Hp} {st : Addr} {H : Hp} {q : Addr} {o : HO} (d : Dr G st H) (n : H q = none) : Dr (upd G q o) st (upd H q o) := by
  obtain ⟨a, b, c, h⟩ := d.at_
  have ne : st ≠ q := ne_of_none h n
  refine ⟨fun x u e => ?_, ?_, a, b, c, ?_⟩
  · by_cases hx : x = q
    · subst hx
      rw [upd_same] at e ⊢
      exact e
    · rw [upd_ne hx] at e ⊢
      exact d.same x u e
  · rw [upd_ne ne]
    exact d.free
  · rw [upd_ne ne]
    exact h
theorem Dr.news {G : Hp} {st : Addr} {H : Hp} {q : Addr} {o : HO} (d : Dr G st H) (n : H q = none) : Same G (upd G q o) :=
  same_upd (d.same.free n)
theorem Dr.add {G : Hp} {st : Addr} {H : Hp} {q : Addr} {o : HO} (d : Dr G st H) (h : H q = some o) (ne : st ≠ q) : Dr (upd G q o) st H := by
  refine ⟨fun x u e => ?_, ?_, d.at_⟩
  · by_cases hx : x = q
    · subst hx
      rw [upd_same] at e
      rw [h]
      exact e
    · rw [upd_ne hx] at e
      exact d.same x u e
  · rw [upd_ne ne]
    exact d.free
theorem Dr.ne {G : Hp} {st : Addr} {H : Hp} {q : Addr} (d : Dr G st H) (n : H q = none) : st ≠ q := by
  obtain ⟨a, b, c, h⟩ := d.at_
  exact ne_of_none h n
theorem Dr.start {H : Hp} {st : Addr} {a b c : Int} (n : H st = none) : Dr H st (upd H st (.lst [.int a, .int b, .int c])) :=
  ⟨same_upd n, n, a, b, c, upd_same⟩
/-- a draw is read -/
theorem take_read {G : Hp} {st : Addr} {H : Hp} {m : Int} {Q : VK} {E : XK} (d : Dr G st H) (m0 : 0 < m) (m1 : m < 1073741824)
    (h : ∀ (z : Int) (H' : Hp), 0 ≤ z → z < m → Dr G st H' → Q (.int z) H') : spTak [.ref st, .int m] H Q E := by
  obtain ⟨a, b, c, e⟩ := d.at_
  exact ⟨st, a, b, c, m, rfl, m0, m1, e, fun z a' b' c' z0 z1 => h z _ z0 z1 d.put⟩
theorem atI_in {xs : List V} {z : Int} (z0 : 0 ≤ z) (z1 : z < (xs.length : Int)) : ∃ v, atI xs z = some v ∧ v ∈ xs := by
  have lt : z.toNat < xs.length := by omega
  refine ⟨xs[z.toNat], at_of (j := z.toNat) (by omega) (List.getElem?_eq_getElem lt), List.getElem_mem lt⟩
end Nv
namespace Nv
open PySem PySem.Spec PyProof.Rows L2
def top (i : Nat) : Stmt := PySem.Challenge.pw_neverowing_k03_shares_are_refused.main.body.getD i (.Pass ⟨0, 0, 0, 0⟩)
abbrev sCell : Stmt := top 12
abbrev sState : Stmt := top 13
abbrev sTake : Stmt := top 14
section
variable {P : Program} {w : World} {K : PySem.W.Frag} {mg : Str → Option Value} {base : Heap}
theorem scCell : FnScope ["script", "at"] ["script", "at"] (defScope sCell) :=
  ⟨rfl, rfl, rfl, by decide +kernel, rfl, by decide +kernel, by decide +kernel⟩
theorem ok_cell {f : Addr} {fd : FuncData} (F : Fun K "_law_cell" "_law_cell" sCell f fd) (T : Blt mg) :
    FnOk P w K mg base CX0 1 f fd ["script", "at"] (spCel K) := by
  refine F.ok scCell (fun vs H Q E h => ?_) (fun cdv A outer s H vs Q E hr h => ?_)
  · obtain ⟨a, ns, j, rfl, _⟩ := h
    rfl
  · obtain ⟨a, ns, j, rfl, hs, q⟩ := h
    refine ⟨_, pss_cons (ps_if (pt_cmpR op_lt (pv 1) (pe_callB call_len_seq (by rfl) T.len PySem.boot_len (pa_cons (pv 0) pa_nil)) (nomark _))
      (pss_one (ps_ret (pe_callTy call_int1 (by rfl) T.int PyProof.Rows.boot_int (pa_cons (pe_ix ix_list (pv 0) (pv 1) (fun _ _ => rfl)) pa_nil)))) pss_nil)
      (pss_one (ps_ret pe_int)), ?_⟩
    refine ⟨_, rfl, _, rfl, a, _, rfl, .inl hs, _, _, rfl, rfl, _, rfl, ?_⟩
    refine ite2 (fun h => ?_) (fun h => ?_)
    · have lt : j < ns.length := by
        have := of_decide_eq_true h
        rw [List.length_map] at this
        omega
      refine ⟨_, rfl, _, rfl, a, _, _, _, rfl, rfl, hs, atI_nat (v := .int (ns.getD j 0)) ?_, .inl ⟨_, rfl, q⟩⟩
      rw [List.getElem?_map, List.getElem?_eq_getElem lt, List.getD_eq_getElem?_getD, List.getElem?_eq_getElem lt]
      rfl
    · have ge : ns.length ≤ j := by
        have := of_decide_eq_false (Bool.eq_false_iff.mpr h)
        rw [List.length_map] at this
        omega
      rw [List.getD_eq_getElem?_getD, List.getElem?_eq_none ge] at q
      exact q
theorem scState : FnScope ["cell"] ["cell"] (defScope sState) :=
  ⟨rfl, rfl, rfl, by decide +kernel, rfl, by decide +kernel, by decide +kernel⟩
theorem ok_state {f : Addr} {fd : FuncData} (F : Fun K "_law_state" "_law_state" sState f fd) (T : Blt mg) :
    FnOk P w K mg base CX0 1 f fd ["cell"] spSta := by
  refine F.ok scState (fun vs H Q E h => ?_) (fun cdv A outer s H vs Q E hr h => ?_)
  · obtain ⟨n, rfl, _⟩ := h
    rfl
  · obtain ⟨n, rfl, q⟩ := h
    refine ⟨_, pss_cons (ps_if (pt_cmpR op_ge (pe_callB call_abs (by rfl) T.abs PyProof.Rows.boot_abs (pa_cons (pv 0) pa_nil)) (pe_op op_pow pe_int pe_int) (nomark _))
      (pss_one (ps_ret (pe_lst (pa_cons (pe_callB call_abs (by rfl) T.abs PyProof.Rows.boot_abs (pa_cons (pv 0) pa_nil)) (pa_cons pe_int (pa_cons pe_int pa_nil)))))) pss_nil)
      (pss_one (ps_ret (pe_lst (pa_cons pe_int (pa_cons (pe_op op_mod (pe_callTy call_int1 (by rfl) T.int PyProof.Rows.boot_int (pa_cons (pv 0) pa_nil)) pe_int) (pa_cons pe_int pa_nil)))))), ?_⟩
    refine ⟨_, rfl, _, rfl, _, _, rfl, rfl, ⟨by decide, by decide, by decide⟩, _, _, rfl, rfl, _, rfl, ?_⟩
    refine ite2 (fun h => ?_) (fun h => ?_)
    · exact ⟨_, rfl, _, rfl, (by show 3 ≤ sizeLine; decide), fun p hp => q p _ _ _ hp⟩
    · exact ⟨_, rfl, .inl ⟨_, rfl, _, _, rfl, rfl, (by show (0 : Int) < 2147483563; decide), (by show 3 ≤ sizeLine; decide), fun p hp => q p _ _ _ hp⟩⟩
theorem scTake : FnScope ["state", "many", "digit", "mixed"] ["state", "many"] (defScope sTake) :=
  ⟨rfl, rfl, rfl, by decide +kernel, rfl, by decide +kernel, by decide +kernel⟩
theorem ok_take {f : Addr} {fd : FuncData} (F : Fun K "_law_take" "_law_take" sTake f fd) (T : Blt mg) :
    FnOk P w K mg base CX0 1 f fd ["state", "many"] spTak := by
  refine F.ok scTake (fun vs H Q E h => ?_) (fun cdv A outer s H vs Q E hr h => ?_)
  · obtain ⟨p, a, b, c, m, rfl, _⟩ := h
    rfl
  · obtain ⟨p, a, b, c, m, rfl, m0, m1, hp, q⟩ := h
    refine ⟨_, pss_cons (ps_if (pt_cmpR op_gt (pe_ix ix_list (pv 0) pe_int (fun _ _ => rfl)) pe_int (nomark _))
        (pss_cons (ps_set (i := 2) scTake.nd rfl (Or.inl rfl) (pe_op op_mod (pe_callTy call_int1 (by rfl) T.int PyProof.Rows.boot_int (pa_cons (pe_ix ix_list (pv 0) pe_int (fun _ _ => rfl)) pa_nil)) (pv 1)))
        (pss_cons (ps_asg (pe_op op_fdivN (pe_ix ix_list (pv 0) pe_int (fun _ _ => rfl)) (pv 1)) (pg_sub (pv 0) pe_int set_list))
        (pss_one (ps_ret (pv 2))))) pss_nil)
      (pss_cons (ps_asg (pe_op op_add (pe_ix ix_list (pv 0) pe_int (fun _ _ => rfl)) pe_int) (pg_sub (pv 0) pe_int set_list))
      (pss_cons (ps_set (i := 3) scTake.nd rfl (Or.inl rfl) (pe_op op_mod (pe_callTy call_int1 (by rfl) T.int PyProof.Rows.boot_int (pa_cons (pe_op op_mul (pe_op op_add (pe_op op_add (pe_ix ix_list (pv 0) pe_int (fun _ _ => rfl)) (pe_op op_mul pe_int (pe_ix ix_list (pv 0) pe_int (fun _ _ => rfl)))) pe_int) pe_int) pa_nil)) pe_int))
      (pss_cons (ps_set (i := 3) scTake.nd rfl (Or.inl rfl) (pe_op op_mod (pe_callTy call_int1 (by rfl) T.int PyProof.Rows.boot_int (pa_cons (pe_op op_mul (pv 3) (pe_op op_add (pe_op op_fdivN (pv 3) pe_int) pe_int)) pa_nil)) pe_int))
      (pss_one (ps_ret (pe_op op_mod (pe_callTy call_int1 (by rfl) T.int PyProof.Rows.boot_int (pa_cons (pe_op op_fdivN (pe_op op_mod (pe_op op_mul (pv 3) (pe_op op_add (pe_op op_fdivN (pv 3) pe_int) pe_int)) pe_int) pe_int) pa_nil)) (pv 1))))))), ?_⟩
    have at0 : atI [V.int a, V.int b, V.int c] 0 = some (.int a) := rfl
    refine ⟨_, rfl, p, _, _, _, rfl, rfl, SqL.of hp, at0, _, _, rfl, rfl, _, rfl, ?_⟩
    refine ite2 (fun h => ?_) (fun h => ?_)
    · refine ⟨_, rfl, p, _, _, _, rfl, rfl, SqL.of hp, at0, .inl ⟨_, rfl, _, rfl, _, _, rfl, rfl, m0, ?_⟩⟩
      refine ⟨_, rfl, p, _, _, _, rfl, rfl, SqL.of hp, at0, _, rfl, _, _, rfl, rfl, ⟨by omega, by omega⟩, _, rfl, p, _, _, _, rfl, rfl, hp, (by rfl), _, rfl, ?_⟩
      exact q _ _ _ _ (Int.emod_nonneg _ (by omega)) (Int.emod_lt_of_pos _ m0)
    · have h1 : (upd H p (.lst [.int a, .int b, .int (c + 1)])) p = some (.lst [.int a, .int b, .int (c + 1)]) := upd_same
      refine ⟨_, rfl, p, _, _, _, rfl, rfl, SqL.of hp, (by rfl), _, _, rfl, rfl, _, rfl, p, _, _, _, rfl, rfl, hp, (by rfl), ?_⟩
      refine ⟨_, rfl, p, _, _, _, rfl, rfl, SqL.of h1, (by rfl), _, rfl, p, _, _, _, rfl, rfl, SqL.of h1, (by rfl), _, _, rfl, rfl, .inl ⟨by decide, by decide⟩, _, _, rfl, rfl, _, _, rfl, rfl, _, _, rfl, rfl, .inr ⟨by decide, by decide⟩, .inl ⟨_, rfl, _, _, rfl, rfl, (by show (0 : Int) < 2147483647; decide), ?_⟩⟩
      generalize hx : ((b + 6151 * (c + 1) + 17) * 48271) % 2147483647 = x
      have x0 : 0 ≤ x := by rw [← hx]; exact Int.emod_nonneg _ (by decide)
      have x1 : x < 2147483647 := by rw [← hx]; exact Int.emod_lt_of_pos _ (by decide)
      refine ⟨_, rfl, _, rfl, _, _, rfl, rfl, ⟨by decide, by decide⟩, _, _, rfl, rfl, _, _, rfl, rfl, .inl ⟨by omega, by omega⟩, .inl ⟨_, rfl, _, _, rfl, rfl, (by show (0 : Int) < 2147483399; decide), ?_⟩⟩
      generalize hy : (x * (x.fdiv 1361 + 69621)) % 2147483399 = y
      have y0 : 0 ≤ y := by rw [← hy]; exact Int.emod_nonneg _ (by decide)
      have y1 : y < 2147483399 := by rw [← hy]; exact Int.emod_lt_of_pos _ (by decide)
      refine ⟨_, rfl, _, rfl, _, _, rfl, rfl, ⟨by decide, by decide⟩, _, _, rfl, rfl, _, _, rfl, rfl, .inl ⟨by omega, by omega⟩, _, _, rfl, rfl, (by show (0 : Int) < 2147483563; decide), _, _, rfl, rfl, ⟨by decide, by decide⟩, .inl ⟨_, rfl, _, rfl, _, _, rfl, rfl, m0, ?_⟩⟩
      exact q _ _ _ _ (Int.emod_nonneg _ (by omega)) (Int.emod_lt_of_pos _ m0)
end
end Nv
namespace Nv
open PySem PySem.Spec PyProof.Rows L2
abbrev sIsI : Stmt := top 6
abbrev sExI : Stmt := inClass (top 3) 0
abbrev sShI : Stmt := inClass (top 8) 0
section
variable {P : Program} {w : World} {K : PySem.W.Frag} {mg : Str → Option Value} {base : Heap}
/-- is_integer(value) -/
def spIsI (K : PySem.W.Frag) : Sp := fun vs H Q _ => ∃ x : V, vs = [x] ∧ KdOf K H x ∧ Q (.bl (isI x)) H
theorem scIsI : FnScope ["value"] ["value"] (defScope sIsI) :=
  ⟨rfl, rfl, rfl, by decide +kernel, rfl, by decide +kernel, by decide +kernel⟩
theorem ok_isI {f : Addr} {fd : FuncData} (F : Fun K "is_integer" "is_integer" sIsI f fd) (T : Blt mg) :
    FnOk P w K mg base CX0 1 f fd ["value"] (spIsI K) := by
  refine F.ok scIsI (fun vs H Q E h => ?_) (fun cdv A outer s H vs Q E hr h => ?_)
  · obtain ⟨x, rfl, _⟩ := h
    rfl
  · obtain ⟨x, rfl, kd, q⟩ := h
    obtain ⟨t, b1, b2, ty, k1, k2, e⟩ := kd.ex
    refine ⟨_, pss_one (ps_ret (pe_and (pe_callB call_isi (by rfl) T.isi PyProof.Rows.boot_isinstance (pa_cons (pv 0) (pa_cons (pe_bltn (v := .ty "int") (by rfl) T.int PyProof.Rows.boot_int rfl) pa_nil)))
      (pe_one (pe_not (pe_callB call_isi (by rfl) T.isi PyProof.Rows.boot_isinstance (pa_cons (pv 0) (pa_cons (pe_bltn (v := .ty "bool") (by rfl) T.bool PyProof.Rows.boot_bool rfl) pa_nil))))))), ?_⟩
    refine ⟨_, rfl, x, _, t, _, b1, rfl, .ty "int", ty, k1, b1, rfl, ?_⟩
    cases b1 with
    | false =>
      refine iteF ?_
      rw [← e] at q
      exact q
    | true =>
      refine iteT ⟨_, rfl, x, _, t, _, b2, rfl, .ty "bool", ty, k2, b2, rfl, ?_⟩
      rw [← e] at q
      exact q
theorem scExI : FnScope ["self", "what"] ["self", "what"] (defScope sExI) :=
  ⟨rfl, rfl, rfl, by decide +kernel, rfl, by decide +kernel, by decide +kernel⟩
theorem ok_exI {f : Addr} {fd : FuncData} (F : FunD K "__init__" "OweError.__init__" (defArgs sExI) (defBody sExI) (defScope sExI) [.non] [] f fd) :
    FnOk P w K mg base CX0 1 f fd ["self", "what"] (spExI K) := by
  refine F.ok scExI (fun vs H Q E h => ?_) (fun cdv A outer s H vs Q E hr h => ?_)
  · obtain ⟨a, C, v, rfl, _⟩ := h
    rfl
  · obtain ⟨a, C, v, rfl, ox, no, ha, q⟩ := h
    refine ⟨_, pss_one (ps_ost (pv 0) (pv 1)), ?_⟩
    exact ⟨_, rfl, _, rfl, a, C, rfl, ox, no, .inl ⟨ha, fun dx h1 h2 => q dx h1 h2⟩⟩
/-- what the errors' __init__ and the classes give -/
structure TSh (K : PySem.W.Frag) (mg : Str → Option Value) (C fI fE CB : Addr) (fdI fdE : FuncData) : Prop where
  cl : Cls K C
  nT : NoAttr K C "top"
  nB : NoAttr K C "bottom"
  mgI : mg "is_integer" = some (.ref fI)
  FI : Fun K "is_integer" "is_integer" sIsI fI fdI
  bI : Binds K fdI ["value"] []
  FE : FunD K "__init__" "OweError.__init__" (defArgs sExI) (defBody sExI) (defScope sExI) [.non] [] fE fdE
  bE : Binds K fdE ["self", "what"] []
  xB : ExC K mg "BadShare" CB fE
  mgG : mg "gcd" = some (.builtin "math.gcd")
theorem nTB : ¬ (("top" : Str) = "bottom") := by decide +kernel
/-- the common divisor, with the sign of the bottom -/
def com (a b : Int) : Int := if b > 0 then ((Nat.gcd a.natAbs b.natAbs : Nat) : Int) else -((Nat.gcd a.natAbs b.natAbs : Nat) : Int)
def shF (t b : Int) : List (Str × V) := putF "bottom" (.int b) (putF "top" (.int t) [])
def spShI (K : PySem.W.Frag) (C CB : Addr) : Sp := fun vs H Q E => ∃ (p dx : Addr) (x y : V), vs = [.ref p, x, y] ∧
  H p = some (.ins C dx []) ∧ KdOf K H x ∧ KdOf K H y ∧
  (isI x = false → ∀ d, H d = none → E (.ref CB) (some d) (upd H d (.xd (whatF (.str "top"))))) ∧
  (isI x = true → (isI y = false ∨ y = .int 0) → ∀ d, H d = none → E (.ref CB) (some d) (upd H d (.xd (whatF (.str "bottom"))))) ∧
  (∀ a b, x = .int a → y = .int b → b ≠ 0 → b.natAbs < 1073741824 ∧
    Q .non (upd H p (.ins C dx (shF (a.fdiv (com a b)) (b.fdiv (com a b))))))
theorem scShI : FnScope ["self", "top", "bottom", "common"] ["self", "top", "bottom"] (defScope sShI) :=
  ⟨rfl, rfl, rfl, by decide +kernel, rfl, by decide +kernel, by decide +kernel⟩
theorem isI_int {x : V} (h : isI x = true) : ∃ i, x = .int i := by
  cases x with
  | int i => exact ⟨i, rfl⟩
  | _ => cases h
theorem com_ne {a b : Int} (h : b ≠ 0) : com a b ≠ 0 := by
  have z : Nat.gcd a.natAbs b.natAbs ≠ 0 := fun e => h (Int.natAbs_eq_zero.mp (Nat.gcd_eq_zero_iff.mp e).2)
  unfold com
  split <;> omega
theorem com_le {a b : Int} (h : b ≠ 0) : (com a b).natAbs ≤ b.natAbs := by
  have z : Nat.gcd a.natAbs b.natAbs ≤ b.natAbs := Nat.gcd_le_right _ (Nat.pos_of_ne_zero fun e => h (Int.natAbs_eq_zero.mp e))
  unfold com
  split <;> omega
theorem ok_shI {f C fI fE CB : Addr} {fd fdI fdE : FuncData}
    (F : FunD K "__init__" "Share.__init__" (defArgs sShI) (defBody sShI) (defScope sShI) [.int 1] [] f fd) (T : Blt mg) (S : TSh K mg C fI fE CB fdI fdE) :
    FnOk P w K mg base (L2.CX P w) 3 f fd ["self", "top", "bottom"] (spShI K C CB) := by
  have GI : FnOk P w K mg base CX0 1 fI fdI ["value"] (spIsI K) := ok_isI S.FI T
  have GE : FnOk P w K mg base CX0 1 fE fdE ["self", "what"] (spExI K) := ok_exI S.FE
  refine F.ok scShI (fun vs H Q E h => ?_) (fun cdv A outer s H vs Q E hr h => ?_)
  · obtain ⟨p, dx, x, y, rfl, _⟩ := h
    rfl
  · obtain ⟨p, dx, x, y, rfl, hp, kx, ky, q1, q2, q3⟩ := h
    have hr1 : Room 1 _ := hr.mono (by decide)
    refine ⟨_, pss_cons (ps_if (pt_not (pt_val (pe_call GI hr1 (by rfl) S.mgI S.FI.kp S.bI .nil pass0 (pa_cons (pv 1) pa_nil))))
        (pss_one (ps_raise rfl (takes_of rfl rfl rfl rfl) (pmk_oex S.xB.ox S.xB.iC S.xB.tI GE hr S.bE .nil pass0 (by rfl) S.xB.gC (pa_cons pe_str pa_nil)))) pss_nil)
      (pss_cons (ps_if (PW.pt (pw_or (pt_not (pt_val (pe_call GI hr1 (by rfl) S.mgI S.FI.kp S.bI .nil pass0 (pa_cons (pv 2) pa_nil)))) (pw_or1 (pt_cmpR op_eq (pv 2) pe_int (nomark _)))))
        (pss_one (ps_raise rfl (takes_of rfl rfl rfl rfl) (pmk_oex S.xB.ox S.xB.iC S.xB.tI GE hr S.bE .nil pass0 (by rfl) S.xB.gC (pa_cons pe_str pa_nil)))) pss_nil)
      (pss_cons (ps_set (i := 3) scShI.nd rfl (Or.inl rfl) (pe_ifExp (pt_cmpR op_gt (pv 2) pe_int (nomark _))
        (pe_callBfun cr_gcd (by rfl) S.mgG (pa_cons (pv 1) (pa_cons (pv 2) pa_nil))) (pe_un un_neg (pe_callBfun cr_gcd (by rfl) S.mgG (pa_cons (pv 1) (pa_cons (pv 2) pa_nil))))))
      (pss_cons (ps_fld (pv 0) (pe_op op_fdivN (pv 1) (pv 3)) rfl)
      (pss_one (ps_fld (pv 0) (pe_op op_fdivN (pv 2) (pv 3)) rfl))))), ?_⟩
    refine ⟨_, rfl, x, rfl, kx, isI x, rfl, ?_⟩
    cases hx : isI x with
    | false => exact iteT (mk_err S.xB (te := tC (.str "top")) (q1 hx) (fun f q => f _ _ q))
    | true =>
      refine iteF ⟨_, rfl, y, rfl, ky, isI y, rfl, ?_⟩
      cases hy : isI y with
      | false => exact iteT (iteT (mk_err S.xB (te := tC (.str "bottom")) (q2 hx (.inl hy)) (fun f q => f _ _ q)))
      | true =>
        obtain ⟨a, rfl⟩ := isI_int hx
        obtain ⟨b, rfl⟩ := isI_int hy
        refine iteF ⟨_, rfl, rfl, _, rfl, ?_⟩
        refine ite2 (fun h => ?_) (fun h => ?_)
        · have hb := of_decide_eq_true h
          exact mk_err S.xB (te := tC (.str "bottom")) (q2 hx (.inr hb)) (fun f q => f _ _ q)
        · have hb : b ≠ 0 := fun z => h (decide_eq_true (congrArg V.int z))
          obtain ⟨sz, q⟩ := q3 a b rfl rfl hb
          have cn := com_ne (a := a) hb
          have cl := com_le (a := a) hb
          have lt : (com a b).natAbs < 1073741824 := Nat.lt_of_le_of_lt cl sz
          refine ⟨_, rfl, _, _, rfl, rfl, _, rfl, ?_⟩
          have rest : ∀ v : V, v = .int (com a b) → tSeq (sFld K (tVar 0) (tOp (rI CDivN fun i j => .int (i.fdiv j)) (tVar 1) (tVar 3)) "top")
              (sFld K (tVar 0) (tOp (rI CDivN fun i j => .int (i.fdiv j)) (tVar 2) (tVar 3)) "bottom") { nx := fun _ H' => Q .non H', rt := Q }
              [some (.ref p), some (.int a), some (.int b), some v] H := by
            rintro v rfl
            refine ⟨_, rfl, _, rfl, _, _, rfl, rfl, ⟨cn, lt⟩, _, rfl, p, C, dx, _, rfl, hp, S.cl, S.nT, (by show 0 < 1000; decide), ?_⟩
            refine ⟨_, rfl, _, rfl, _, _, rfl, rfl, ⟨cn, lt⟩, _, rfl, p, C, dx, _, rfl, upd_same, S.cl, S.nB, (by show 1 < 1000; decide), ?_⟩
            rw [upd_upd]
            exact q
          refine ite2 (fun h2 => ?_) (fun h2 => ?_)
          · have c1 : b > 0 := of_decide_eq_true h2
            refine ⟨_, rfl, _, rfl, a, b, rfl, rest _ ?_⟩
            unfold com
            rw [if_pos c1]
          · have c1 : ¬ b > 0 := fun z => h2 (decide_eq_true z)
            refine ⟨_, rfl, _, rfl, a, b, rfl, _, rfl, rest _ ?_⟩
            unfold com
            rw [if_neg c1]
end
end Nv
namespace Nv
open PySem PySem.Spec PyProof.Rows L2
abbrev sTold : Stmt := top 15
section
variable {P : Program} {w : World} {K : PySem.W.Frag} {mg : Str → Option Value} {base : Heap}
def gA : List V → List V → List V := fun vs _ => vs
def gB : List V → List V → List V := fun vs zs => vs ++ zs.reverse
def gC : List V → List V → List V := fun vs zs => vs ++ zs
theorem Vals.rev : ∀ {vs : List V} {us : List Value}, Vals vs us → Vals vs.reverse us.reverse
  | _, _, .nil => .nil
  | _, _, .cons a b => by
    rw [List.reverse_cons, List.reverse_cons]
    exact (Vals.rev b).append (.cons a .nil)
theorem kb_all {f : Addr} {fd : FuncData} (F : FunD K "__init__" "Share.__init__" (defArgs sShI) (defBody sShI) (defScope sShI) [.int 1] [] f fd) :
    KBn K fd ["self", "top", "bottom"] 3 [] (fun us _ => us) gA := by
  obtain ⟨_, h⟩ := F.kbindsD (ps := ["self", "top", "bottom"]) 3 [] (fun us _ _ => us) (by simp) (fun a _ _ => a)
    (fun T kV doc pm an cdv ct us its ws h1 h2 h3 => match us, its, ws, h1, h2, h3 with | [_, _, _], [_], [], _, _, _ => ⟨_, rfl, rfl⟩)
  exact h
theorem kb_kw {f : Addr} {fd : FuncData} (F : FunD K "__init__" "Share.__init__" (defArgs sShI) (defBody sShI) (defScope sShI) [.int 1] [] f fd) :
    KBn K fd ["self", "top", "bottom"] 1 ["bottom", "top"] (fun us ws => us ++ ws.reverse) gB := by
  obtain ⟨_, h⟩ := F.kbindsD (ps := ["self", "top", "bottom"]) 1 ["bottom", "top"] (fun us _ ws => us ++ ws.reverse) (by simp) (fun a _ b => a.append (Vals.rev b))
    (fun T kV doc pm an cdv ct us its ws h1 h2 h3 => match us, its, ws, h1, h2, h3 with | [_], [_], [_, _], _, _, _ => ⟨_, rfl, rfl⟩)
  exact h
theorem kb_half {f : Addr} {fd : FuncData} (F : FunD K "__init__" "Share.__init__" (defArgs sShI) (defBody sShI) (defScope sShI) [.int 1] [] f fd) :
    KBn K fd ["self", "top", "bottom"] 2 ["bottom"] (fun us ws => us ++ ws) gC := by
  obtain ⟨_, h⟩ := F.kbindsD (ps := ["self", "top", "bottom"]) 2 ["bottom"] (fun us _ ws => us ++ ws) (by simp) (fun a _ b => a.append b)
    (fun T kV doc pm an cdv ct us its ws h1 h2 h3 => match us, its, ws, h1, h2, h3 with | [_, _], [_], [_], _, _, _ => ⟨_, rfl, rfl⟩)
  exact h
/-- the word that is told -/
def toldOf (x y : V) : Str := if isI x = false then "top" else if isI y = false ∨ y = .int 0 then "bottom" else "made"
/-- Share(x, y), told by its word -/
theorem sh_read {p dx C CB : Addr} {x y : V} {H : Hp} {Q : VK} {E : XK} (kx : KdOf K H x) (ky : KdOf K H y) (sz : ∀ b, y = .int b → b.natAbs < 1073741824)
    (hp : H p = none) (hd : H dx = none)
    (h1 : ∀ w d H', Same H H' → H' d = some (.xd (whatF (.str w))) → w = toldOf x y → E (.ref CB) (some d) H')
    (h2 : ∀ H', Same H H' → toldOf x y = "made" → Q .non H') :
    spShI K C CB [.ref p, x, y] (upd (upd H dx (.own p)) p (.ins C dx [])) Q E := by
  have sm : Same H (upd (upd H dx (.own p)) p (.ins C dx [])) := same_new hp hd
  refine ⟨p, dx, x, y, rfl, upd_same, kx.same sm, ky.same sm, fun e d hd2 => ?_, fun e e2 d hd2 => ?_, fun a b ex ey hb => ⟨sz b ey, ?_⟩⟩
  · refine h1 "top" d _ (sm.trans (same_upd hd2)) upd_same ?_
    unfold toldOf
    rw [if_pos e]
  · refine h1 "bottom" d _ (sm.trans (same_upd hd2)) upd_same ?_
    unfold toldOf
    rw [if_neg (by rw [e]; exact fun z => nomatch z), if_pos e2]
  · refine h2 _ (fun c o e => ?_) ?_
    · rw [upd_ne (ne_of_none e hp)]
      exact sm c o e
    · subst ex
      subst ey
      unfold toldOf
      rw [if_neg (fun z => nomatch z), if_neg]
      rintro (z | z)
      · exact nomatch z
      · exact hb (V.int.inj z)
theorem look_what {v : V} : (whatF v).lookup ("what" : Str) = some v := by
  unfold whatF
  simp [List.lookup]
theorem told_top {x y : V} (h : isI x = false) : toldOf x y = "top" := by
  unfold toldOf
  rw [if_pos h]
theorem told_bottom {x y : V} (h : isI x = true) (h2 : isI y = false ∨ y = .int 0) : toldOf x y = "bottom" := by
  unfold toldOf
  rw [if_neg (by rw [h]; exact fun z => nomatch z), if_pos h2]
theorem told_made {a b : Int} (h : b ≠ 0) : toldOf (.int a) (.int b) = "made" := by
  unfold toldOf
  rw [if_neg (fun z => nomatch z), if_neg]
  rintro (z | z)
  · exact nomatch z
  · exact h (V.int.inj z)
/-- Share(a, b) of good numbers, the instance told -/
theorem sh_made {p dx C CB : Addr} {a b : Int} {H : Hp} {Q : VK} {E : XK} (hb : b ≠ 0) (sz : b.natAbs < 1073741824) (hp : H p = none) (hd : H dx = none) (ne : dx ≠ p)
    (h : ∀ H', Same H H' → H' p = some (.ins C dx (shF (a.fdiv (com a b)) (b.fdiv (com a b)))) → Q .non H') :
    spShI K C CB [.ref p, .int a, .int b] (upd (upd H dx (.own p)) p (.ins C dx [])) Q E := by
  refine ⟨p, dx, _, _, rfl, upd_same, kd_int a, kd_int b, (fun e => nomatch e), fun _ e => ?_, fun a' b' ex ey hb' => ⟨?_, ?_⟩⟩
  · rcases e with e | e
    · exact nomatch e
    · exact absurd (V.int.inj e) hb
  · rw [← V.int.inj ey]
    exact sz
  · obtain rfl := V.int.inj ex
    obtain rfl := V.int.inj ey
    refine h _ (fun c o e => ?_) upd_same
    rw [upd_upd, upd_ne (ne_of_none e hp), upd_ne (ne_of_none e hd)]
    exact e
def spTold (K : PySem.W.Frag) : Sp := fun vs H Q _ => ∃ (x y : V) (m : Int), vs = [x, y, .int m] ∧ KdOf K H x ∧ KdOf K H y ∧
  (∀ b, y = .int b → b.natAbs < 1073741824) ∧ ∀ H', Same H H' → Q (.str (toldOf x y)) H'
theorem scTold : FnScope ["top", "bottom", "way", "told", "e"] ["top", "bottom", "way"] (defScope sTold) :=
  ⟨rfl, rfl, rfl, by decide +kernel, rfl, by decide +kernel, by decide +kernel⟩
theorem ok_told {f fS C fI fE CB : Addr} {fd fdS fdI fdE : FuncData} (F : Fun K "_law_told" "_law_told" sTold f fd) (T : Blt mg)
    (FS : FunD K "__init__" "Share.__init__" (defArgs sShI) (defBody sShI) (defScope sShI) [.int 1] [] fS fdS)
    (S : TSh K mg C fI fE CB fdI fdE) (M : Mk K C fS) (mgS : mg "Share" = some (.ref C)) :
    FnOk P w K mg base CX0 5 f fd ["top", "bottom", "way"] (spTold K) := by
  have GS : FnOk P w K mg base (L2.CX P w) 3 fS fdS ["self", "top", "bottom"] (spShI K C CB) := ok_shI FS T S
  refine F.ok scTold (fun vs H Q E h => ?_) (fun cdv A outer s H vs Q E hr h => ?_)
  · obtain ⟨x, y, m, rfl, _⟩ := h
    rfl
  · obtain ⟨x, y, m, rfl, kx, ky, sz, q⟩ := h
    refine ⟨_, pss_cons (ps_set (i := 3) scTold.nd rfl (Or.inl rfl) pe_str)
      (pss_cons (ps_try_as (i := 4) (Wout := fun _ _ _ _ => False) rfl rfl scTold.nd rfl rfl ⟨rfl, by decide, .inl S.xB.gC⟩ takes0
        (fun W pn xe tk _ => pss_one (ps_if (pt_cmpR op_eq (pv 2) pe_int (nomark _))
          (pss_one (ps_expr (pe_mkS M GS hr (by rfl) mgS (kb_all FS) (fun σ => passAt tk σ) (pa_cons (pv 0) (pa_cons (pv 1) pa_nil)) pk_nil)))
          (pss_one (ps_if (pt_cmpR op_eq (pv 2) pe_int (nomark _))
            (pss_one (ps_expr (pe_mkS0 M GS hr (by rfl) mgS (kb_kw FS) (fun σ => passAt tk σ) (pk_cons (pv 1) (pk_cons (pv 0) pk_nil)))))
            (pss_one (ps_expr (pe_mkS M GS hr (by rfl) mgS (kb_half FS) (fun σ => passAt tk σ) (pa_cons (pv 0) pa_nil) (pk_cons (pv 1) pk_nil))))))))
        (fun a oe cls d pn hz hf => pss_one (ps_set (i := 3) scTold.nd rfl (Or.inl rfl) (pe_xf S.xB.xf S.xB.no hz hf (pv 4)))))
      (pss_one (ps_ret (pv 3)))), ?_⟩
    have D1 : ∀ {w : Str} {H' : Hp}, Same H H' → w = toldOf x y → tRet (tVar 3) { nx := fun _ H' => Q .non H', rt := Q }
        [some x, some y, some (.int m), some (.str w), none] H' := fun {w H'} sm e => ⟨_, rfl, by rw [e]; exact q _ sm⟩
    refine ⟨_, rfl, rfl, _, rfl, ?_⟩
    refine ite2 (fun _ => ?_) (fun _ => ?_)
    · refine ⟨_, rfl, _, rfl, rfl, rfl, fun p dx hp hd ne => sh_read kx ky sz hp hd (fun w d H' sm hx e => ?_) (fun H' sm e => ⟨rfl, D1 sm e.symm⟩)⟩
      exact ⟨true, S.xB.te, fun _ a ha => ⟨_, rfl, rfl, rfl, d, _, _, rfl, hx, look_what, D1 sm e⟩, fun z => nomatch z⟩
    · refine ⟨_, rfl, rfl, _, rfl, ?_⟩
      refine ite2 (fun _ => ?_) (fun _ => ?_)
      · refine ⟨_, rfl, _, rfl, rfl, rfl, fun p dx hp hd ne => sh_read kx ky sz hp hd (fun w d H' sm hx e => ?_) (fun H' sm e => ⟨rfl, D1 sm e.symm⟩)⟩
        exact ⟨true, S.xB.te, fun _ a ha => ⟨_, rfl, rfl, rfl, d, _, _, rfl, hx, look_what, D1 sm e⟩, fun z => nomatch z⟩
      · refine ⟨_, rfl, _, rfl, rfl, rfl, fun p dx hp hd ne => sh_read kx ky sz hp hd (fun w d H' sm hx e => ?_) (fun H' sm e => ⟨rfl, D1 sm e.symm⟩)⟩
        exact ⟨true, S.xB.te, fun _ a ha => ⟨_, rfl, rfl, rfl, d, _, _, rfl, hx, look_what, D1 sm e⟩, fun z => nomatch z⟩
end
end Nv
namespace Nv
open PySem PySem.Spec PyProof.Rows L2
abbrev sLaw : Stmt := top 16
/-- all that the law's def calls -/
structure TLaw (K : PySem.W.Frag) (mg : Str → Option Value) (C fI fE CB fS fC fSt fT fTo : Addr) (fdI fdE fdS fdC fdSt fdT fdTo : FuncData) : Prop where
  B : Blt mg
  S : TSh K mg C fI fE CB fdI fdE
  M : Mk K C fS
  mgS : mg "Share" = some (.ref C)
  FS : FunD K "__init__" "Share.__init__" (defArgs sShI) (defBody sShI) (defScope sShI) [.int 1] [] fS fdS
  bS : Binds K fdS ["self", "top", "bottom"] []
  iC : IsC K C
  FC : Fun K "_law_cell" "_law_cell" sCell fC fdC
  mC : mg "_law_cell" = some (.ref fC)
  bC : Binds K fdC ["script", "at"] []
  FSt : Fun K "_law_state" "_law_state" sState fSt fdSt
  mSt : mg "_law_state" = some (.ref fSt)
  bSt : Binds K fdSt ["cell"] []
  FT : Fun K "_law_take" "_law_take" sTake fT fdT
  mT : mg "_law_take" = some (.ref fT)
  bT : Binds K fdT ["state", "many"] []
  FTo : Fun K "_law_told" "_law_told" sTold fTo fdTo
  mTo : mg "_law_told" = some (.ref fTo)
  bTo : Binds K fdTo ["top", "bottom", "way"] []
/-- the values that are no integers, and what stands of them -/
def badVs (t1 l1 d1 x t2 : Addr) : List V := [.non, .bl true, .bl false, .str "3", .str "", .ref t1, .ref l1, .ref d1, .ref x, .ref t2]
structure Bad (G : Hp) (C t1 l1 d1 x t2 p : Addr) : Prop where
  f1 : G t1 = some (.tup [.int 1])
  f2 : G l1 = some (.lst [.int 1])
  f3 : G d1 = some (.dK [(.inl 1, .int 1)])
  f4 : ∃ dx fs, G x = some (.ins C dx fs)
  f5 : G t2 = some (.tup [.bl true, .int 2])
  f6 : G p = some (.lst (badVs t1 l1 d1 x t2))
theorem Bad.same {G H : Hp} {C t1 l1 d1 x t2 p : Addr} (b : Bad G C t1 l1 d1 x t2 p) (k : Same G H) : Bad H C t1 l1 d1 x t2 p := by
  obtain ⟨f1, f2, f3, ⟨dx, fs, f4⟩, f5, f6⟩ := b
  exact ⟨k _ _ f1, k _ _ f2, k _ _ f3, ⟨dx, fs, k _ _ f4⟩, k _ _ f5, k _ _ f6⟩
theorem Bad.kinds {K : PySem.W.Frag} {G : Hp} {C t1 l1 d1 x t2 p : Addr} (b : Bad G C t1 l1 d1 x t2 p) (c : IsC K C) :
    ∀ v ∈ badVs t1 l1 d1 x t2, KdOf K G v ∧ isI v = false := by
  obtain ⟨f1, f2, f3, ⟨dx, fs, f4⟩, f5, f6⟩ := b
  intro v hv
  unfold badVs at hv
  simp only [List.mem_cons, List.not_mem_nil, or_false] at hv
  rcases hv with rfl | rfl | rfl | rfl | rfl | rfl | rfl | rfl | rfl | rfl
  · exact ⟨kd_non, rfl⟩
  · exact ⟨kd_bl _, rfl⟩
  · exact ⟨kd_bl _, rfl⟩
  · exact ⟨kd_str _, rfl⟩
  · exact ⟨kd_str _, rfl⟩
  · exact ⟨kd_tup f1, rfl⟩
  · exact ⟨kd_lst f2, rfl⟩
  · exact ⟨kd_dK f3, rfl⟩
  · exact ⟨kd_ins c f4, rfl⟩
  · exact ⟨kd_tup f5, rfl⟩
def dat : PyData := .list [.none, .bool true, .bool false, .str "3", .str "", .tuple [.int 1], .list [.int 1], .dict [(.int 1, .int 1)]]
theorem Bad.data {G : Hp} {C t1 l1 d1 x t2 p k : Addr} (b : Bad G C t1 l1 d1 x t2 p)
    (hk : G k = some (.lst (cutV (badVs t1 l1 d1 x t2) none (some 8)))) : Dq G (.ref k) dat := by
  obtain ⟨f1, f2, f3, _, f5, f6⟩ := b
  refine .lst hk ?_
  show DqAll G [.non, .bl true, .bl false, .str "3", .str "", .ref t1, .ref l1, .ref d1] _
  exact .cons .non (.cons (.bl true) (.cons (.bl false) (.cons (.str _) (.cons (.str _) (.cons (.tup f1 (.cons (.int 1) .nil))
    (.cons (.lst f2 (.cons (.int 1) .nil)) (.cons (.dic (ds := [.int 1]) f3 (.cons (.int 1) .nil)) .nil)))))))
theorem dat_show : dat.showable = true := by decide +kernel
theorem dat_depth : dat.depth ≤ 30 := by decide +kernel
theorem dat_len : dat.shown.length ≤ sizeLine := by decide +kernel
def spLaw (K : PySem.W.Frag) : Sp := fun vs H Q _ => ∃ (a : Addr) (ns : List Int), vs = [.ref a] ∧ ns.length ≤ 63 ∧ Sys K H ∧
  SqL K H a (ns.map V.int) ∧ ∀ H', Q (.bl true) H'
section
variable {P : Program} {w : World} {K : PySem.W.Frag} {mg : Str → Option Value} {base : Heap}
theorem scLaw : FnScope ["script", "at", "state", "bad", "first", "second", "kept", "good", "under", "way"] ["script"] (defScope sLaw) :=
  ⟨rfl, rfl, rfl, by decide +kernel, rfl, by decide +kernel, by decide +kernel⟩
theorem ok_law {f C fI fE CB fS fC fSt fT fTo : Addr} {fd fdI fdE fdS fdC fdSt fdT fdTo : FuncData} (F : Fun K "law" "law" sLaw f fd)
    (T : TLaw K mg C fI fE CB fS fC fSt fT fTo fdI fdE fdS fdC fdSt fdT fdTo) :
    FnG P w K mg base CX0 8 f fd ["script"] (spLaw K) := by
  have GS : FnOk P w K mg base (L2.CX P w) 3 fS fdS ["self", "top", "bottom"] (spShI K C CB) := ok_shI T.FS T.B T.S
  have GC : FnOk P w K mg base CX0 1 fC fdC ["script", "at"] (spCel K) := ok_cell T.FC T.B
  have GSt : FnOk P w K mg base CX0 1 fSt fdSt ["cell"] spSta := ok_state T.FSt T.B
  have GT : FnOk P w K mg base CX0 1 fT fdT ["state", "many"] spTak := ok_take T.FT T.B
  have GTo : FnOk P w K mg base CX0 5 fTo fdTo ["top", "bottom", "way"] (spTold K) := ok_told T.FTo T.B T.FS T.S T.M T.mgS
  refine FnG.mk0 F scLaw (fun vs H Q E h => ?_) (fun cdv A outer s H vs Q E gd hr h => ?_)
  · obtain ⟨a, ns, rfl, _⟩ := h
    rfl
  · obtain ⟨a, ns, rfl, hl, sys, hs, q⟩ := h
    have hr1 : Room 1 _ := hr.mono (by decide)
    have hr4 : Room 4 _ := hr.mono (by decide)
    have hr5 : Room 5 _ := hr.mono (by decide)
    refine ⟨_, pss_cons (ps_for PassesOwn.never rfl (pi_range1 (by rfl) T.B.rng (pa_cons (pe_op op_add pe_int (pe_callB call_len_seq (by rfl) T.B.len PySem.boot_len (pa_cons (pe_slice sl_list (pv 0) po_none (po_some pe_int)) pa_nil))) pa_nil)) (pg_name (i := 1) scLaw.nd rfl (Or.inl rfl))
        (pss_cons (ps_set (i := 2) scLaw.nd rfl (Or.inl rfl) (pe_call GSt hr1 (by rfl) T.mSt T.FSt.kp T.bSt .nil pass0 (pa_cons (pe_call GC hr1 (by rfl) T.mC T.FC.kp T.bC .nil pass0 (pa_cons (pv 0) (pa_cons (pv 1) pa_nil))) pa_nil)))
        (pss_cons (ps_set (i := 3) scLaw.nd rfl (Or.inl rfl) (pe_lst (pa_cons pe_non (pa_cons pe_bl (pa_cons pe_bl (pa_cons pe_str (pa_cons pe_str (pa_cons (pe_tup (pa_cons pe_int pa_nil)) (pa_cons (pe_lst (pa_cons pe_int pa_nil)) (pa_cons (pe_disp (pps_cons pe_int pe_int pps_nil) (by rfl) (by rfl) (fun z => by cases z) (by decide))
            (pa_cons (pe_make T.M GS hr4 (by rfl) T.mgS T.bS .nil passL (pa_cons pe_int (pa_cons pe_int pa_nil))) (pa_cons (pe_tup (pa_cons pe_bl (pa_cons pe_int pa_nil))) pa_nil))))))))))))
        (pss_cons (ps_set (i := 4) scLaw.nd rfl (Or.inl rfl) (pe_ix ix_list (pv 3) (pe_call GT hr1 (by rfl) T.mT T.FT.kp T.bT .nil pass0 (pa_cons (pv 2) (pa_cons (pe_callB call_len_seq (by rfl) T.B.len PySem.boot_len (pa_cons (pv 3) pa_nil)) pa_nil))) (fun _ _ => rfl)))
        (pss_cons (ps_set (i := 5) scLaw.nd rfl (Or.inl rfl) (pe_ix ix_list (pe_op op_cat (pv 3) (pe_lst (pa_cons pe_int (pa_cons pe_int (pa_cons pe_int pa_nil))))) (pe_call GT hr1 (by rfl) T.mT T.FT.kp T.bT .nil pass0 (pa_cons (pv 2) (pa_cons (pe_op op_add (pe_callB call_len_seq (by rfl) T.B.len PySem.boot_len (pa_cons (pv 3) pa_nil)) pe_int) pa_nil))) (fun _ _ => rfl)))
        (pss_cons (ps_set (i := 6) scLaw.nd rfl (Or.inl rfl) (pe_callB (call_reprD hr1 gd) (by rfl) T.B.rep (by decide +kernel) (pa_cons (pe_slice sl_list (pv 3) po_none (po_some pe_int)) pa_nil)))
        (pss_cons (ps_set (i := 7) scLaw.nd rfl (Or.inl rfl) (pe_op op_sub (pe_call GT hr1 (by rfl) T.mT T.FT.kp T.bT .nil pass0 (pa_cons (pv 2) (pa_cons (pe_op op_pow pe_int pe_int) pa_nil))) pe_int))
        (pss_cons (ps_set (i := 8) scLaw.nd rfl (Or.inl rfl) (pe_op op_add pe_int (pe_call GT hr1 (by rfl) T.mT T.FT.kp T.bT .nil pass0 (pa_cons (pv 2) (pa_cons (pe_op op_pow pe_int pe_int) pa_nil)))))
        (pss_cons (ps_set (i := 9) scLaw.nd rfl (Or.inl rfl) (pe_call GT hr1 (by rfl) T.mT T.FT.kp T.bT .nil pass0 (pa_cons (pv 2) (pa_cons pe_int pa_nil))))
        (pss_cons (ps_if (PW.pt (pw_or (pt_cmpR op_ne (pe_call GTo hr5 (by rfl) T.mTo T.FTo.kp T.bTo .nil pass0 (pa_cons (pv 4) (pa_cons (pv 5) (pa_cons (pv 9) pa_nil)))) pe_str (nomark _))
            (pw_or1 (pt_cmpR op_ne (pe_call GTo hr5 (by rfl) T.mTo T.FTo.kp T.bTo .nil pass0 (pa_cons (pv 4) (pa_cons (pv 8) (pa_cons (pv 9) pa_nil)))) pe_str (nomark _)))))
          (pss_one (ps_ret pe_bl)) pss_nil)
        (pss_cons (ps_if (PW.pt (pw_or (pt_cmpR op_ne (pe_call GTo hr5 (by rfl) T.mTo T.FTo.kp T.bTo .nil pass0 (pa_cons (pv 7) (pa_cons (pv 5) (pa_cons (pv 9) pa_nil)))) pe_str (nomark _))
            (pw_or1 (pt_cmpR op_ne (pe_call GTo hr5 (by rfl) T.mTo T.FTo.kp T.bTo .nil pass0 (pa_cons (pv 7) (pa_cons (pe_un un_neg (pv 8)) (pa_cons (pv 9) pa_nil)))) pe_str (nomark _)))))
          (pss_one (ps_ret pe_bl)) pss_nil)
        (pss_one (ps_if (PW.pt (pw_or (pt_cmpR op_ne (pe_call GTo hr5 (by rfl) T.mTo T.FTo.kp T.bTo .nil pass0 (pa_cons (pv 7) (pa_cons (pv 8) (pa_cons (pv 9) pa_nil)))) pe_str (nomark _))
            (pw_or (pt_cmpR op_ne (pe_call GTo hr5 (by rfl) T.mTo T.FTo.kp T.bTo .nil pass0 (pa_cons pe_int (pa_cons (pv 8) (pa_cons (pv 9) pa_nil)))) pe_str (nomark _))
              (pw_or1 (pt_cmpR op_ne (pe_callB (call_reprD hr1 gd) (by rfl) T.B.rep (by decide +kernel) (pa_cons (pe_slice sl_list (pv 3) po_none (po_some pe_int)) pa_nil)) (pv 6) (nomark _))))))
          (pss_one (ps_ret pe_bl)) pss_nil)))))))))))))
      (pss_one (ps_ret (pe_cmpR op_eq (pe_fld (pe_make T.M GS hr4 (by rfl) T.mgS T.bS .nil passL (pa_cons pe_int (pa_cons (pe_un un_neg pe_int) pa_nil))) rfl) pe_int (nomark _)))), ?_⟩
    have lb : (1 : Int) + ((cutV (ns.map V.int) none (some 5)).length : Int) < 2 ^ 62 := by
      have := cutV_length (ns.map V.int) none (some 5)
      rw [List.length_map] at this
      omega
    refine ⟨_, rfl, _, rfl, a, _, rfl, hs, fun k0 nk0 => ⟨_, _, rfl, .inl (SqL.of upd_same), _, _, rfl, rfl, _, rfl, by omega, lb, ?_⟩⟩
    refine for_range (lo := 0) (fun i σ H1 => ∃ v1 v2 v3 v4 v5 v6 v7 v8 v9 : Option V, σ = [some (.ref a), v1, v2, v3, v4, v5, v6, v7, v8, v9] ∧ Same H H1)
      ⟨_, _, _, _, _, _, _, _, _, rfl, same_upd nk0⟩ ?_ ?_
    · rintro i σ H1 hi ⟨v1, v2, v3, v4, v5, v6, v7, v8, v9, rfl, sm⟩
      -- the state
      refine ⟨_, rfl, _, rfl, a, ns, i, by rw [Int.zero_add]; rfl, sm.seq hs, _, rfl, fun st x y z nst => ?_⟩
      have D := Dr.start (a := x) (b := y) (c := z) nst
      generalize upd H1 st (.lst [.int x, .int y, .int z]) = H2 at D ⊢
      -- the values
      refine ⟨(by show 1 ≤ sizeLine; decide), fun t1 n1 => ?_⟩
      have G1 := D.news (o := .tup [.int 1]) n1
      replace D := D.new (o := .tup [.int 1]) n1
      have f1 : (upd H1 t1 (.tup [.int 1])) t1 = some (.tup [.int 1]) := upd_same
      generalize upd H1 t1 (.tup [.int 1]) = g1 at D G1 f1
      generalize upd H2 t1 (.tup [.int 1]) = h1 at D ⊢
      refine ⟨(by show 1 ≤ sizeLine; decide), fun l1 n2 => ?_⟩
      have G2 := D.news (o := .lst [.int 1]) n2
      replace D := D.new (o := .lst [.int 1]) n2
      have f2 : (upd g1 l1 (.lst [.int 1])) l1 = some (.lst [.int 1]) := upd_same
      generalize upd g1 l1 (.lst [.int 1]) = g2 at D G2 f2
      generalize upd h1 l1 (.lst [.int 1]) = h2 at D ⊢
      refine fun d1 n3 => ⟨upd_same, [(.inl 1, .int 1)], rfl, by decide, ?_⟩
      rw [upd_upd, show mergeK [] [((Sum.inl 1 : Key), V.int 1)] = [((Sum.inl 1 : Key), V.int 1)] from by decide +kernel]
      have G3 := D.news (o := .dK [(.inl 1, .int 1)]) n3
      replace D := D.new (o := .dK [(.inl 1, .int 1)]) n3
      have f3 : (upd g2 d1 (.dK [(.inl 1, .int 1)])) d1 = some (.dK [(.inl 1, .int 1)]) := upd_same
      generalize upd g2 d1 (.dK [(.inl 1, .int 1)]) = g3 at D G3 f3
      generalize upd h2 d1 (.dK [(.inl 1, .int 1)]) = h3 at D ⊢
      refine fun xa dx nx ndx ne => sh_made (by decide) (by decide) nx ndx ne fun h4 s4 e4 => ⟨rfl, ?_⟩
      have nst4 := D.ne nx
      have gx : g3 xa = none := D.same.free nx
      have G4 : Same g3 (upd g3 xa (.ins C dx (shF (Int.fdiv 1 (com 1 2)) (Int.fdiv 2 (com 1 2))))) := same_upd gx
      replace D := (D.mono s4).add e4 nst4
      have f4 : ∃ dx' fs', (upd g3 xa (.ins C dx (shF (Int.fdiv 1 (com 1 2)) (Int.fdiv 2 (com 1 2))))) xa = some (.ins C dx' fs') := ⟨dx, _, upd_same⟩
      -- the last tuple, the list
      refine ⟨(by show 2 ≤ sizeLine; decide), fun t2 n5 => ?_⟩
      have G5 := D.news (o := .tup [.bl true, .int 2]) n5
      replace D := D.new (o := .tup [.bl true, .int 2]) n5
      generalize upd g3 xa (.ins C dx (shF (Int.fdiv 1 (com 1 2)) (Int.fdiv 2 (com 1 2)))) = g4 at D G4 G5 f4
      have f5 : (upd g4 t2 (.tup [.bl true, .int 2])) t2 = some (.tup [.bl true, .int 2]) := upd_same
      generalize upd g4 t2 (.tup [.bl true, .int 2]) = g5 at D G5 f5
      generalize upd h4 t2 (.tup [.bl true, .int 2]) = h5 at D ⊢
      refine ⟨(by show 10 ≤ sizeLine; decide), fun p n6 => ?_⟩
      have G6 := D.news (o := .lst (badVs t1 l1 d1 xa t2)) n6
      replace D := D.new (o := .lst (badVs t1 l1 d1 xa t2)) n6
      have f6 : (upd g5 p (.lst (badVs t1 l1 d1 xa t2))) p = some (.lst (badVs t1 l1 d1 xa t2)) := upd_same
      have b : Bad (upd g5 p (.lst (badVs t1 l1 d1 xa t2))) C t1 l1 d1 xa t2 p := by
        obtain ⟨dx', fs', f4⟩ := f4
        refine ⟨?_, ?_, ?_, ⟨dx', fs', ?_⟩, ?_, f6⟩
        · exact G6 _ _ (G5 _ _ (G4 _ _ (G3 _ _ (G2 _ _ f1))))
        · exact G6 _ _ (G5 _ _ (G4 _ _ (G3 _ _ f2)))
        · exact G6 _ _ (G5 _ _ (G4 _ _ f3))
        · exact G6 _ _ (G5 _ _ f4)
        · exact G6 _ _ f5
      have sG : Same H (upd g5 p (.lst (badVs t1 l1 d1 xa t2))) := ((((((sm.trans G1).trans G2).trans G3).trans G4).trans G5).trans G6)
      have kinds := b.kinds (K := K) T.iC
      show tSeq _ _ _ _ (upd h5 p (.lst (badVs t1 l1 d1 xa t2)))
      generalize upd g5 p (.lst (badVs t1 l1 d1 xa t2)) = G at D b sG kinds f6
      generalize upd h5 p (.lst (badVs t1 l1 d1 xa t2)) = h6 at D ⊢
      -- first
      refine ⟨_, rfl, _, rfl, _, rfl, p, _, rfl, .inl (SqL.of (D.same _ _ f6)), ?_⟩
      obtain ⟨ca, cb, cc, ce⟩ := D.at_
      refine ⟨st, ca, cb, cc, 10, rfl, by decide, by decide, ce, fun z7 a' b' c' z0 z1 => ?_⟩
      replace D := D.put (a := a') (b := b') (c := c')
      generalize upd _ st (.lst [.int a', .int b', .int c']) = h7 at D ⊢
      obtain ⟨x1, at1, mem1⟩ := atI_in (xs := badVs t1 l1 d1 xa t2) z0 z1
      obtain ⟨kd1, no1⟩ := kinds _ mem1
      refine ⟨p, _, _, x1, rfl, rfl, SqL.of (D.same _ _ f6), at1, ?_⟩
      -- second
      refine ⟨_, rfl, (by show 3 ≤ sizeLine; decide), fun l2 n7 => ?_⟩
      replace D := D.mono (same_upd (o := .lst [.int 0, .int 0, .int 0]) n7)
      refine ⟨p, l2, badVs t1 l1 d1 xa t2, [.int 0, .int 0, .int 0], rfl, rfl, D.same _ _ f6, upd_same, (by show 13 ≤ sizeLine; decide), fun q2 n8 => ?_⟩
      have G8 := D.news (o := .lst (badVs t1 l1 d1 xa t2 ++ [.int 0, .int 0, .int 0])) n8
      replace D := D.new (o := .lst (badVs t1 l1 d1 xa t2 ++ [.int 0, .int 0, .int 0])) n8
      have f8 : (upd G q2 (.lst (badVs t1 l1 d1 xa t2 ++ [.int 0, .int 0, .int 0]))) q2 = some (.lst (badVs t1 l1 d1 xa t2 ++ [.int 0, .int 0, .int 0])) := upd_same
      generalize upd G q2 (.lst (badVs t1 l1 d1 xa t2 ++ [.int 0, .int 0, .int 0])) = Gq at D G8 f8
      generalize upd (upd h7 l2 (.lst [.int 0, .int 0, .int 0])) q2 (.lst (badVs t1 l1 d1 xa t2 ++ [.int 0, .int 0, .int 0])) = h8 at D ⊢
      refine ⟨_, rfl, _, rfl, p, _, rfl, .inl (SqL.of (D.same _ _ (G8 _ _ f6))), _, _, rfl, rfl, ?_⟩
      obtain ⟨ca, cb, cc, ce⟩ := D.at_
      refine ⟨st, ca, cb, cc, 13, rfl, by decide, by decide, ce, fun z9 a' b' c' y0 y1 => ?_⟩
      replace D := D.put (a := a') (b := b') (c := c')
      generalize upd _ st (.lst [.int a', .int b', .int c']) = h9 at D ⊢
      obtain ⟨x2, at2, mem2⟩ := atI_in (xs := badVs t1 l1 d1 xa t2 ++ [V.int 0, V.int 0, V.int 0]) y0 y1
      have kd2 : KdOf K G x2 ∧ (isI x2 = false ∨ x2 = .int 0) := by
        rcases List.mem_append.mp mem2 with z | z
        · exact ⟨(kinds _ z).1, .inl (kinds _ z).2⟩
        · simp only [List.mem_cons, List.not_mem_nil, or_false] at z
          rcases z with rfl | rfl | rfl
          · exact ⟨kd_int 0, .inr rfl⟩
          · exact ⟨kd_int 0, .inr rfl⟩
          · exact ⟨kd_int 0, .inr rfl⟩
      obtain ⟨kd2, no2⟩ := kd2
      have sz2 : ∀ b, x2 = .int b → b.natAbs < 1073741824 := by
        rintro b rfl
        rcases no2 with z | z
        · exact nomatch z
        · rw [V.int.inj z]
          decide
      refine ⟨q2, _, _, x2, rfl, rfl, SqL.of (D.same _ _ f8), at2, ?_⟩
      -- kept
      refine ⟨_, rfl, _, rfl, p, _, rfl, SqL.of (D.same _ _ (G8 _ _ f6)), fun k1 n9 => ?_⟩
      replace D : Dr G st (upd h9 k1 (.lst (cutV (badVs t1 l1 d1 xa t2) none (some 8)))) := ⟨G8.trans (D.same.trans (same_upd n9)), G8.free D.free, (D.mono (same_upd n9)).at_⟩
      refine ⟨k1, dat, rfl, (sys.same sG).same D.same, (b.same D.same).data upd_same, dat_show, dat_depth, dat_len, ?_⟩
      generalize upd h9 k1 (.lst (cutV (badVs t1 l1 d1 xa t2) none (some 8))) = h10 at D ⊢
      -- good, under, way
      refine ⟨_, rfl, _, _, rfl, rfl, ⟨by decide, by decide, by decide⟩, ?_⟩
      obtain ⟨ca, cb, cc, ce⟩ := D.at_
      refine ⟨st, ca, cb, cc, 1000000, rfl, by decide, by decide, ce, fun go a' b' c' go0 go1 => ?_⟩
      replace D := D.put (a := a') (b := b') (c := c')
      generalize upd _ st (.lst [.int a', .int b', .int c']) = h11 at D ⊢
      refine ⟨_, _, rfl, rfl, ?_⟩
      refine ⟨_, rfl, _, _, rfl, rfl, ⟨by decide, by decide, by decide⟩, ?_⟩
      obtain ⟨ca, cb, cc, ce⟩ := D.at_
      refine ⟨st, ca, cb, cc, 1000000, rfl, by decide, by decide, ce, fun un a' b' c' un0 un1 => ?_⟩
      replace D := D.put (a := a') (b := b') (c := c')
      generalize upd _ st (.lst [.int a', .int b', .int c']) = h12 at D ⊢
      refine ⟨_, _, rfl, rfl, ?_⟩
      refine ⟨_, rfl, ?_⟩
      obtain ⟨ca, cb, cc, ce⟩ := D.at_
      refine ⟨st, ca, cb, cc, 3, rfl, by decide, by decide, ce, fun wa a' b' c' wa0 wa1 => ?_⟩
      replace D := D.put (a := a') (b := b') (c := c')
      generalize upd _ st (.lst [.int a', .int b', .int c']) = h13 at D ⊢
      -- the tests
      refine ⟨_, rfl, _, rfl, _, rfl, x1, x2, wa, rfl, kd1.same D.same, kd2.same D.same, sz2, fun h14 s14 => ?_⟩
      replace D := D.mono s14
      rw [told_top no1]
      refine ⟨rfl, _, rfl, iteNS rfl ?_⟩
      refine ⟨_, rfl, _, rfl, _, rfl, x1, .int (1 + un), wa, rfl, kd1.same D.same, kd_int _, fun b e => by rw [← V.int.inj e]; omega, fun h15 s15 => ?_⟩
      replace D := D.mono s15
      rw [told_top no1]
      refine ⟨rfl, _, rfl, iteNS rfl ?_⟩
      refine ⟨_, rfl, _, rfl, _, rfl, .int (go - 500000), x2, wa, rfl, kd_int _, kd2.same D.same, sz2, fun h16 s16 => ?_⟩
      replace D := D.mono s16
      rw [told_bottom rfl no2]
      refine ⟨rfl, _, rfl, iteNS rfl ?_⟩
      refine ⟨_, rfl, _, rfl, _, rfl, _, rfl, .int (go - 500000), .int (-(1 + un)), wa, rfl, kd_int _, kd_int _, fun b e => by rw [← V.int.inj e]; omega, fun h17 s17 => ?_⟩
      replace D := D.mono s17
      rw [told_made (by omega)]
      refine ⟨rfl, _, rfl, iteNS rfl ?_⟩
      refine ⟨_, rfl, _, rfl, _, rfl, .int (go - 500000), .int (1 + un), wa, rfl, kd_int _, kd_int _, fun b e => by rw [← V.int.inj e]; omega, fun h18 s18 => ?_⟩
      replace D := D.mono s18
      rw [told_made (by omega)]
      refine ⟨rfl, _, rfl, iteNS rfl ?_⟩
      refine ⟨_, rfl, _, rfl, .int 0, .int (1 + un), wa, rfl, kd_int _, kd_int _, fun b e => by rw [← V.int.inj e]; omega, fun h19 s19 => ?_⟩
      replace D := D.mono s19
      rw [told_made (by omega)]
      refine ⟨rfl, _, rfl, iteNS rfl ?_⟩
      refine ⟨_, rfl, _, rfl, p, _, rfl, SqL.of (D.same _ _ f6), fun k2 n20 => ?_⟩
      replace D := D.mono (same_upd (o := .lst (cutV (badVs t1 l1 d1 xa t2) none (some 8))) n20)
      refine ⟨k2, dat, rfl, (sys.same sG).same D.same, (b.same D.same).data upd_same, dat_show, dat_depth, dat_len, ?_⟩
      refine ⟨_, rfl, rfl, _, rfl, iteNS rfl ?_⟩
      exact ⟨_, _, _, _, _, _, _, _, _, rfl, sG.trans D.same⟩
    · rintro σ H1 ⟨v1, v2, v3, v4, v5, v6, v7, v8, v9, rfl, sm⟩
      refine ⟨_, rfl, fun xa dx nx ndx ne => sh_made (a := 0) (b := -7) (by decide) (by decide) nx ndx ne fun h4 s4 e4 => ⟨rfl, ?_⟩⟩
      have e : Int.fdiv (-7) (com 0 (-7)) = 1 := by decide +kernel
      rw [e] at e4
      refine ⟨xa, C, dx, _, _, rfl, e4, T.S.cl, T.S.nB, by unfold shF; rw [lookup_putF, if_pos rfl], rfl, ?_⟩
      show Q (.bl (decide (V.int 1 = V.int 1))) _
      rw [decide_eq_true rfl]
      exact q _
end
end Nv
/-! Nv, part E: from the facts of the written part to the words of parts C and D. -/
namespace Nv
open PySem PySem.Spec PyProof.Rows L2
theorem funD_mk {K : PySem.W.Frag} {x qual : Str} {st : Stmt} {f T : Addr} {o : Obj} {its : List Value} {n : Nat} {dvs : List V} {oc : Value} {od an : Option Addr} {osl : Array (Option Value)} {kV doc pm cdv ct : Value}
    (l : K.lookup f = some ⟨oc, od, .func (PySem.W.fnOf x qual (defArgs st) (defBody st) (defScope st) (.ref T) kV doc pm an cdv ct), osl⟩)
    (c : PySem.W.codeIn K cdv qual = true) (k : PySem.W.keepIn K (.ref f) = true) (lT : K.lookup T = some o) (oT : o.data = .seq its.toArray n) (r : Vals dvs its) (ne : dvs ≠ []) :
    FunD K x qual (defArgs st) (defBody st) (defScope st) dvs [] f (PySem.W.fnOf x qual (defArgs st) (defBody st) (defScope st) (.ref T) kV doc pm an cdv ct) :=
  ⟨⟨oc, od, _, kV, doc, pm, an, cdv, ct, osl, rfl, l, c, Or.inr ⟨ne, T, o, its, n, rfl, lT, oT, r⟩, Or.inl rfl⟩, k⟩
theorem exm_self {K : PySem.W.Frag} {S : Addr} (h1 : PySem.W.subIn K (.ref S) (.type "BaseException") = some true) (h2 : PySem.W.isClsIn K S = true)
    (h3 : PySem.W.typeIn K (.ref S) = some (.type "type")) (h4 : PySem.W.subIn K (.ref S) (.ref S) = some true) :
    PySem.W.exmOne K (.ref S) (.ref S) = some true := by
  have e1 : (PySem.W.subIn K (.ref S) (.type "BaseException") == some true) = true := by rw [h1] <;> rfl
  have e2 : ((PySem.W.clsIn K S).isSome && PySem.W.typeIn K (.ref S) == some (.type "type")) = true := by
    have z : (PySem.W.clsIn K S).isSome = true := h2
    rw [z, h3] <;> rfl
  unfold PySem.W.exmOne
  rw [if_pos e1]
  unfold PySem.W.kitCls
  exact (if_pos e2).trans h4
theorem kit_sub {K : PySem.W.Frag} {C : Addr} {T : String} {b : Bool} (h : PySem.W.subIn K (.ref C) (.type T) = some b) (m : PySem.W.kitMeta T = true) :
    PySem.W.kitOne K (.ref C) (.type T) = some b := by
  have z : ((Value.ref C) == (Value.type T)) = false := by rfl
  unfold PySem.W.kitOne
  rw [z]
  unfold PySem.W.kitCls
  exact (if_neg Bool.false_ne_true).trans ((if_pos m).trans h)
/-- the facts of an own error class over another one over ValueError -/
theorem exC_mk {K : PySem.W.Frag} {mg : Str → Option Value} {x : Str} {C fI : Addr} {nm q : Str} {N : Addr} {bs bm : List Value} {sn : List Str} {sub : List Value} {ab : Bool}
    {col : Option Bool} {dd : Option Addr} {m0 m1 m2 m3 m5 : Option Value} (gC : mg x = some (.ref C))
    (xL : K.lookup C = some (excClassObj nm q C N bs bm true sn sub ab col dd m0 m1 m2 m3 m5 "ValueError.__new__"))
    (rV : PySem.HandSPX.refsVE bm = true) (sa : PySem.W.findIn K (.ref C) "__setattr__" = some (some (.builtin "object.__setattr__")))
    (ga : PySem.W.findIn K (.ref C) "__getattribute__" = some (some (.builtin "BaseException.__getattribute__"))) (gg : PySem.W.findIn K (.ref C) "__getattr__" = some none)
    (no : PySem.W.findIn K (.ref C) "what" = some none) (iC : PySem.W.findIn K (.ref C) "__init__" = some (some (.ref fI)))
    (tI : PySem.W.typeIn K (.ref fI) = some (.type "function")) (kC : PySem.W.keepIn K (.ref C) = true) (eC : PySem.W.subIn K (.ref C) (.type "BaseException") = some true)
    (tC : PySem.W.typeIn K (.ref C) = some (.type "type")) (hC : PySem.W.hasDictIn K C = true) (cC : PySem.W.isClsIn K C = true)
    (sC : PySem.W.subIn K (.ref C) (.ref C) = some true) : ExC K mg x C fI :=
  ⟨gC, ⟨⟨nm, q, N, bs, bm, sn, sub, ab, col, dd, m0, m1, m2, m3, m5, xL, rV⟩, sa, eC, tC, kC⟩, iC, tI, no, ⟨ga, gg, eC, hC⟩, exm_self eC cC tC sC⟩
end Nv
namespace Nv
open PySem PySem.Spec PyProof.Rows L2
theorem all_mk {P : Program} {w : World} {K : PySem.W.Frag} {h : Heap} {mg : Str → Option Value} {fa C CB fE fS fI fC fSt fT fTo fL TE TS : Addr} (X : K.In h) (G : h.Ns mainGlobals mg) (hfa : mg "law" = some (.ref fa))
    {od1 an1 od2 an2 od3 an3 od4 an4 od5 an5 od6 an6 od7 an7 od8 an8 : Option Addr} {sl1 sl2 sl3 sl4 sl5 sl6 sl7 sl8 : Array (Option Value)}
    {oc1 kV1 dc1 pm1 cd1 ct1 oc2 kV2 dc2 pm2 cd2 ct2 oc3 kV3 dc3 pm3 cd3 ct3 oc4 kV4 dc4 pm4 cd4 ct4 oc5 kV5 dc5 pm5 cd5 ct5 oc6 kV6 dc6 pm6 cd6 ct6 oc7 kV7 dc7 pm7 cd7 ct7 oc8 kV8 dc8 pm8 cd8 ct8 : Value}
    {nm q : Str} {N : Addr} {bs bm : List Value} {sn : List Str} {sub : List Value} {ab : Bool} {col : Option Bool} {dd : Option Addr} {m0 m1 m2 m3 m5 : Option Value}
    {oE oS : Obj} {nE nS : Nat} {tkS : Tok}
    -- the built-ins' names
    (z1 : PySem.W.nsIn K mainGlobals "len" = some none) (z2 : PySem.W.nsIn K mainGlobals "int" = some none) (z3 : PySem.W.nsIn K mainGlobals "bool" = some none) (z4 : PySem.W.nsIn K mainGlobals "abs" = some none)
    (z5 : PySem.W.nsIn K mainGlobals "isinstance" = some none) (z6 : PySem.W.nsIn K mainGlobals "repr" = some none) (z7 : PySem.W.nsIn K mainGlobals "range" = some none)
    (z8 : PySem.W.nsIn K mainGlobals "gcd" = some (some (.builtin "math.gcd")))
    -- the error's class
    (aB : PySem.W.nsIn K mainGlobals "BadShare" = some (some (.ref CB)))
    (xL : K.lookup CB = some (excClassObj nm q CB N bs bm true sn sub ab col dd m0 m1 m2 m3 m5 "ValueError.__new__")) (rV : PySem.HandSPX.refsVE bm = true)
    (sB : PySem.W.findIn K (.ref CB) "__setattr__" = some (some (.builtin "object.__setattr__"))) (gB : PySem.W.findIn K (.ref CB) "__getattribute__" = some (some (.builtin "BaseException.__getattribute__")))
    (ggB : PySem.W.findIn K (.ref CB) "__getattr__" = some none) (nB : PySem.W.findIn K (.ref CB) "what" = some none) (iB : PySem.W.findIn K (.ref CB) "__init__" = some (some (.ref fE)))
    (tE : PySem.W.typeIn K (.ref fE) = some (.type "function")) (kB : PySem.W.keepIn K (.ref CB) = true) (eB : PySem.W.subIn K (.ref CB) (.type "BaseException") = some true)
    (tB : PySem.W.typeIn K (.ref CB) = some (.type "type")) (hB : PySem.W.hasDictIn K CB = true) (cB : PySem.W.isClsIn K CB = true) (ssB : PySem.W.subIn K (.ref CB) (.ref CB) = some true)
    (l1 : K.lookup fE = some ⟨oc1, od1, .func (PySem.W.fnOf "__init__" "OweError.__init__" (defArgs sExI) (defBody sExI) (defScope sExI) (.ref TE) kV1 dc1 pm1 an1 cd1 ct1), sl1⟩) (c1 : PySem.W.codeIn K cd1 "OweError.__init__" = true) (k1 : PySem.W.keepIn K (.ref fE) = true)
    (lE : K.lookup TE = some oE) (dE : oE.data = .seq [Value.none].toArray nE)
    -- Share
    (aC : PySem.W.nsIn K mainGlobals "Share" = some (some (.ref C)))
    (a2 : PySem.W.findIn K (.ref C) "__init__" = some (some (.ref fS))) (i2 : PySem.W.isFn K (.ref fS) = true)
    (l2 : K.lookup fS = some ⟨oc2, od2, .func (PySem.W.fnOf "__init__" "Share.__init__" (defArgs sShI) (defBody sShI) (defScope sShI) (.ref TS) kV2 dc2 pm2 an2 cd2 ct2), sl2⟩) (c2 : PySem.W.codeIn K cd2 "Share.__init__" = true) (k2 : PySem.W.keepIn K (.ref fS) = true)
    (lS : K.lookup TS = some oS) (dS : oS.data = .seq [Value.int 1 tkS].toArray nS)
    (pg : PySem.W.plainGet K C Str.empty = true) (hd : PySem.W.hasDictIn K C = true) (po : PySem.W.plainOver K C = true) (sa : PySem.W.findIn K (.ref C) "__setattr__" = some (some (.builtin "object.__setattr__"))) (mk : PySem.W.makesIn K C = true) (kc : PySem.W.keepIn K (.ref C) = true)
    (nT : PySem.W.findIn K (.ref C) "top" = some none) (nBo : PySem.W.findIn K (.ref C) "bottom" = some none)
    (hc1 : PySem.W.findIn K (.ref C) "__class__" = some (some (.builtin "object.__class__"))) (hc2 : PySem.W.specialIn K (.builtin "object.__class__") "__get__" = some (some (.builtin "getset_descriptor.__get__")))
    (hc3 : PySem.W.takesIn K (.builtin "object.__class__") = some true) (hc4 : PySem.W.mroIn K C (.type "object") = some true)
    (ki : PySem.W.subIn K (.ref C) (.type "int") = some false) (kb : PySem.W.subIn K (.ref C) (.type "bool") = some false)
    -- the defs
    (a3 : PySem.W.nsIn K mainGlobals "is_integer" = some (some (.ref fI))) (l3 : K.lookup fI = some ⟨oc3, od3, .func (PySem.W.fnOf "is_integer" "is_integer" (defArgs sIsI) (defBody sIsI) (defScope sIsI) .none kV3 dc3 pm3 an3 cd3 ct3), sl3⟩) (c3 : PySem.W.codeIn K cd3 "is_integer" = true) (k3 : PySem.W.keepIn K (.ref fI) = true)
    (a4 : PySem.W.nsIn K mainGlobals "_law_cell" = some (some (.ref fC))) (l4 : K.lookup fC = some ⟨oc4, od4, .func (PySem.W.fnOf "_law_cell" "_law_cell" (defArgs sCell) (defBody sCell) (defScope sCell) .none kV4 dc4 pm4 an4 cd4 ct4), sl4⟩) (c4 : PySem.W.codeIn K cd4 "_law_cell" = true) (k4 : PySem.W.keepIn K (.ref fC) = true)
    (a5 : PySem.W.nsIn K mainGlobals "_law_state" = some (some (.ref fSt))) (l5 : K.lookup fSt = some ⟨oc5, od5, .func (PySem.W.fnOf "_law_state" "_law_state" (defArgs sState) (defBody sState) (defScope sState) .none kV5 dc5 pm5 an5 cd5 ct5), sl5⟩) (c5 : PySem.W.codeIn K cd5 "_law_state" = true) (k5 : PySem.W.keepIn K (.ref fSt) = true)
    (a6 : PySem.W.nsIn K mainGlobals "_law_take" = some (some (.ref fT))) (l6 : K.lookup fT = some ⟨oc6, od6, .func (PySem.W.fnOf "_law_take" "_law_take" (defArgs sTake) (defBody sTake) (defScope sTake) .none kV6 dc6 pm6 an6 cd6 ct6), sl6⟩) (c6 : PySem.W.codeIn K cd6 "_law_take" = true) (k6 : PySem.W.keepIn K (.ref fT) = true)
    (a7 : PySem.W.nsIn K mainGlobals "_law_told" = some (some (.ref fTo))) (l7 : K.lookup fTo = some ⟨oc7, od7, .func (PySem.W.fnOf "_law_told" "_law_told" (defArgs sTold) (defBody sTold) (defScope sTold) .none kV7 dc7 pm7 an7 cd7 ct7), sl7⟩) (c7 : PySem.W.codeIn K cd7 "_law_told" = true) (k7 : PySem.W.keepIn K (.ref fTo) = true)
    (a8 : PySem.W.nsIn K mainGlobals "law" = some (some (.ref fL))) (l8 : K.lookup fL = some ⟨oc8, od8, .func (PySem.W.fnOf "law" "law" (defArgs sLaw) (defBody sLaw) (defScope sLaw) .none kV8 dc8 pm8 an8 cd8 ct8), sl8⟩) (c8 : PySem.W.codeIn K cd8 "law" = true) (k8 : PySem.W.keepIn K (.ref fL) = true) :
    ∃ fd : FuncData, (∀ (s : Shared) (v : Value), BindsTo s fd ⟨[v], []⟩ [("script", v)]) ∧ ∀ base : Heap, K.In base → base.Ns mainGlobals mg → FnG P w K mg base CX0 8 fa fd ["script"] (spLaw K) := by
  have e := hfa.symm.trans (PySem.W.mg_of X G a8)
  cases e
  have B : Blt mg := ⟨PySem.W.mg_none_of X G z1, PySem.W.mg_none_of X G z2, PySem.W.mg_none_of X G z3, PySem.W.mg_none_of X G z4, PySem.W.mg_none_of X G z5, PySem.W.mg_none_of X G z6, PySem.W.mg_none_of X G z7⟩
  have FE := funD_mk (st := sExI) (dvs := [.non]) l1 c1 k1 lE dE (.cons rfl .nil) (by simp)
  have FS := funD_mk (st := sShI) (dvs := [.int 1]) l2 c2 k2 lS dS (.cons ⟨_, rfl⟩ .nil) (by simp)
  have F3 := fun_mk (st := sIsI) l3 c3 k3
  have F4 := fun_mk (st := sCell) l4 c4 k4
  have F5 := fun_mk (st := sState) l5 c5 k5
  have F6 := fun_mk (st := sTake) l6 c6 k6
  have F7 := fun_mk (st := sTold) l7 c7 k7
  have F8 := fun_mk (st := sLaw) l8 c8 k8
  have cl : Cls K C := ⟨pg, hd, po, sa⟩
  have xB : ExC K mg "BadShare" CB fE := exC_mk (PySem.W.mg_of X G aB) xL rV sB gB ggB nB iB tE kB eB tB hB cB ssB
  obtain ⟨dsE, rE, bE⟩ := FE.binds1 (ps := ["self", "what"]) 2 1 (by simp) rfl
    (fun T kV doc pm an cdv ct us its h1 h2 => match us, its, h1, h2 with | [_, _], [_], _, _ => ⟨_, rfl, rfl⟩)
  obtain ⟨dsS, rS, bS⟩ := FS.binds1 (ps := ["self", "top", "bottom"]) 3 1 (by simp) rfl
    (fun T kV doc pm an cdv ct us its h1 h2 => match us, its, h1, h2 with | [_, _, _], [_], _, _ => ⟨_, rfl, rfl⟩)
  cases rE
  cases rS
  have b3 := F3.binds (ps := ["value"]) fun _ _ _ _ _ _ us hl => match us, hl with | [_], _ => rfl
  have b4 := F4.binds (ps := ["script", "at"]) fun _ _ _ _ _ _ us hl => match us, hl with | [_, _], _ => rfl
  have b5 := F5.binds (ps := ["cell"]) fun _ _ _ _ _ _ us hl => match us, hl with | [_], _ => rfl
  have b6 := F6.binds (ps := ["state", "many"]) fun _ _ _ _ _ _ us hl => match us, hl with | [_, _], _ => rfl
  have b7 := F7.binds (ps := ["top", "bottom", "way"]) fun _ _ _ _ _ _ us hl => match us, hl with | [_, _, _], _ => rfl
  have S : TSh K mg C fI fE CB _ _ := ⟨cl, nT, nBo, PySem.W.mg_of X G a3, F3, b3, FE, bE, xB, PySem.W.mg_of X G z8⟩
  have T : TLaw K mg C fI fE CB fS fC fSt fT fTo _ _ _ _ _ _ _ := ⟨B, S, ⟨mk, a2, i2, kc⟩, PySem.W.mg_of X G aC, FS, bS, ⟨cl, hc1, hc2, hc3, hc4, kit_sub ki (by decide +kernel), kit_sub kb (by decide +kernel)⟩,
    F4, PySem.W.mg_of X G a4, b4, F5, PySem.W.mg_of X G a5, b5, F6, PySem.W.mg_of X G a6, b6, F7, PySem.W.mg_of X G a7, b7⟩
  exact ⟨PySem.W.fnOf "law" "law" (defArgs sLaw) (defBody sLaw) (defScope sLaw) .none kV8 dc8 pm8 an8 cd8 ct8, fun s v => .of_eq rfl, fun base _ _ => ok_law F8 T⟩
end Nv
namespace Nv
open PySem PySem.Spec PyProof.Rows L2
theorem walk {l : PySem.W.OpenLaw} {q : Program} {loose : List Str} {XP : (Str → Option Value) → Heap → Prop} {YP : World → Heap → Prop} {d : DefRec} {K : Params → PySem.W.Frag}
    (hn : l.most = some 63) (hdf : d.params.defaults = []) (him : importsNone q = true) (hY : ∀ (w : World) (h : Heap), YP w h → (K w.params).In h)
    (F : ∀ (w : World) (mg : Str → Option Value) (fa : Addr) (h : Heap), (K w.params).In h → h.Ns mainGlobals mg → mg d.name = some (.ref fa) →
      ∃ fd : FuncData, (∀ (s : Shared) (u : Value), BindsTo s fd ⟨[u], []⟩ [("script", u)]) ∧ ∀ base : Heap, (K w.params).In base → base.Ns mainGlobals mg →
        FnG l.prog w (K w.params) mg base CX0 8 fa fd ["script"] (spLaw (K w.params))) :
    PySem.W.WalkO q loose XP YP l.row.toRowW d [] (fun f vs => PySem.call f vs) :=
  law_walk (n := 63) (k := 8) (x := "script") (sp := fun w => spLaw (K w.params)) hn (by decide) hdf ⟨rfl, by decide, by decide⟩ him hY F
    (fun w H a ns hl sy hS => ⟨a, ns, rfl, hl, sy, hS, fun _ => rfl⟩)
end Nv
open PySem PySem.W PyProof.Rows
set_option maxRecDepth 100000 in
set_option maxHeartbeats 0 in
theorem PySem.Challenge.cw_neverowing_k03_shares_are_refused_holds : PySem.Challenge.rw_neverowing_k03_shares_are_refused.Holds := by
  w_on; o_law; k_head; (case hw => w_witness2)
  k_fill
  refine Nv.walk (l := PySem.Challenge.rw_neverowing_k03_shares_are_refused) rfl rfl (by decide +kernel) (fun w h Y => PySem.W.kIn_of Y) ?F
  case F =>
    intro w mg fa h KX G hmg
    refine' Nv.all_mk KX G hmg ?z1 ?z2 ?z3 ?z4 ?z5 ?z6 ?z7 ?z8 ?aB ?xL ?rV ?sB ?gB ?ggB ?nB ?iB ?tE ?kB ?eB ?tB ?hB ?cB ?ssB ?l1 ?c1 ?k1 ?lE ?dE ?aC ?a2 ?i2 ?l2 ?c2 ?k2 ?lS ?dS ?pg ?hd ?po ?sa ?mk ?kc ?nT ?nBo ?hc1 ?hc2 ?hc3 ?hc4 ?ki ?kb ?a3 ?l3 ?c3 ?k3 ?a4 ?l4 ?c4 ?k4 ?a5 ?l5 ?c5 ?k5 ?a6 ?l6 ?c6 ?k6 ?a7 ?l7 ?c7 ?k7 ?a8 ?l8 ?c8 ?k8
    (case z1 => k_is); (case z2 => k_is); (case z3 => k_is); (case z4 => k_is); (case z5 => k_is); (case z6 => k_is); (case z7 => k_is); (case z8 => k_is)
    (case aB => k_is); (case xL => k_is); (case rV => first | rfl | decide +kernel); (case sB => k_is); (case gB => k_is); (case ggB => k_is); (case nB => k_is); (case iB => k_is)
    (case tE => k_is); (case kB => k_is); (case eB => k_is); (case tB => k_is); (case hB => k_is); (case cB => k_is); (case ssB => first | rfl | k_is)
    (case l1 => k_is); (case c1 => k_is); (case k1 => k_is); (case lE => k_is); (case dE => rfl)
    (case aC => k_is); (case a2 => k_is); (case i2 => k_is); (case l2 => k_is); (case c2 => k_is); (case k2 => k_is); (case lS => k_is); (case dS => rfl)
    (case pg => k_is); (case hd => k_is); (case po => k_is); (case sa => k_is); (case mk => k_is); (case kc => k_is); (case nT => k_is); (case nBo => k_is)
    (case hc1 => k_is); (case hc2 => k_is); (case hc3 => k_is); (case hc4 => k_is); (case ki => k_is); (case kb => k_is)
    (case a3 => k_is); (case l3 => k_is); (case c3 => k_is); (case k3 => k_is)
    (case a4 => k_is); (case l4 => k_is); (case c4 => k_is); (case k4 => k_is)
    (case a5 => k_is); (case l5 => k_is); (case c5 => k_is); (case k5 => k_is)
    (case a6 => k_is); (case l6 => k_is); (case c6 => k_is); (case k6 => k_is)
    (case a7 => k_is); (case l7 => k_is); (case c7 => k_is); (case k7 => k_is)
    (case a8 => k_is); (case l8 => k_is); (case c8 => k_is); (case k8 => k_is)
