import PyProof.Rows.All
import Wide.All
import OpenK.AllK
import Wide.FinOn
import PyProof.ReprRoads
import HandS.ForMost
import HandS.ForExc
import HandS.IsInst
import HandS.Gcd
import HandS.Defaults
import HandS.MakeKw
import HandS.MakeKwOnly
import HandS.ExcInit
import HandS.ExcField
import HandS.Wide
import HandS.Walk
import HandS.Zip
import HandS.TupAny
import HandS.Conv
import HandS.DictComp
import HandS.SortInts
import HandS.Iter
import PyProof.Draws
import PyProof.EnumMake
import HandS.TupMul
import HandS.Text
import HandS.Small
import HandS.Strs
import HandS.SortRule
import HandS.SetBool
import HandS.SetKeys
import HandS.SortOrd
import PyProof.Rows.SortStr
import HandS.TupLe
import HandS.RaiseMore
import PySem.Challenge.RW_neverowing_k05_what_worlds_tell
set_option linter.all false
set_option maxRecDepth 100000
set_option maxHeartbeats 8000000
set_option exponentiation.threshold 20000
set_option Elab.async false
/-! Nv: what the laws of this program share. Part A: promises that know that no repr is under way; repr of plain data. -/
namespace Nv
open PySem PySem.Spec PyProof.Rows L2

/-! ### a promise kept where no repr is under way -/
structure FnG (P : Program) (w : World) (K : PySem.W.Frag) (mg : Str → Option Value) (base : Heap)
    (CX : CXT) (k : Nat) (f : Addr) (fd : FuncData) (ps : List Str) (sp : Sp) : Prop where
  len : ∀ vs H Q E, sp vs H Q E → vs.length = ps.length
  run : ∀ (A : Around) (outer : List Env) (s : Shared) (H : Hp) (args : Args) (us : List Value) (vs : List V)
    (Q : VK) (E : XK), Room k A → A.guards = some [] → Env0 P w K mg base A outer s H →
    BindsTo s fd args (ps.zip us) → Vals vs us → sp vs H Q E →
    codeAny (model P w) A (.call (.ref f) args) (CR CX outer P w H s Q E) s

section
variable {P : Program} {w : World} {K : PySem.W.Frag} {mg : Str → Option Value} {base : Heap} {CX : CXT}
  {k : Nat} {f : Addr} {fd : FuncData} {ps : List Str} {sp : Sp}

theorem FnG.of (F : FnOk P w K mg base CX k f fd ps sp) : FnG P w K mg base CX k f fd ps sp :=
  ⟨F.len, fun A o s H a us vs Q E r _ => F.run A o s H a us vs Q E r⟩

theorem FnG.mk_of {N : List Str} {x qual : Str} {st : Stmt} (F : Fun K x qual st f fd)
    (S : FnScope N ps (defScope st)) (len : ∀ vs H Q E, sp vs H Q E → vs.length = ps.length)
    (body : ∀ (cdv : Value) (A : Around) (outer : List Env) (s : Shared) (H : Hp) (vs : List V) (Q : VK) (E : XK),
      A.guards = some [] → Room k (A.deeper (envOfC qual (defScope st) s.heap.objs.size f cdv)) → sp vs H Q E →
      ∃ t, PSs (cxOf CX P w K mg base N qual (defScope st) f cdv A outer s H E) (defBody st) t ∧
        t { nx := fun _ H' => Q .non H', rt := Q } (start N vs) H) :
    FnG P w K mg base CX (k + 1) f fd ps sp := by
  obtain ⟨oc, od, kV, doc, pm, an, cdv, ct, osl, rfl, lk, hcd⟩ := F.ex
  refine ⟨len, fun A outer s H args us vs Q E room gd en bi rv q => ?_⟩
  have inS : K.In s.heap := en.mod.kin.keeps fun b o z => (en.bs b o z).1
  have noL : s.heap.NoLimit := en.mod.nolimit.keeps fun b o z => (en.bs b o z).1
  refine codeAny_call_function room.depth (inS _ _ lk) rfl S.co S.gen rfl (PySem.W.codeRec_of inS hcd) (bi _ _ _ _ ?_)
  refine wpAny_newFunctionEnv_cells S.kind (fun y hy => ?_) fun env he s1 ic => ?_
  · obtain ⟨n, v⟩ := y
    have mem := (List.of_mem_zip hy).1
    cases S.par n mem with
    | inl z => exact Or.inl z
    | inr z => exact Or.inr ⟨z, PySem.W.cellsFrom_some _ _ _ (Or.inl z)⟩
  · subst he
    refine ⟨noL.keeps ic.toInCall.keep, codeAny_func ?_⟩
    obtain ⟨t, ht, hq⟩ := body cdv A outer s H vs Q E gd (room.deeper _) q
    have J := inv_start (CX := CX) (E := E) S room.hd en (len _ _ _ _ q) rv ic
    have close : ∀ {σ' : L2.St} {H' : Hp} {v : V} {u : Value} {s' : Shared},
        Inv (cxOf CX P w K mg base N qual (defScope st) f cdv A outer s H E) [] σ' H' s' → RelV v u → Q v H' →
        CE outer P w H s Q u s' := fun I rel z => ⟨_, _, I.os, I.bare, I.base, I.hok, rel, z⟩
    refine wpAny_mono (ht.run [] s1 (start N vs) H _ J hq) (fun fl s' z => ?_) fun _ _ z => z
    cases fl with
    | ret u =>
      obtain ⟨v, σ', H', I, rel, z⟩ := z
      exact close I rel z
    | next =>
      obtain ⟨σ', H', I, z⟩ := z
      exact close (v := V.non) (u := Value.none) I rfl z
    | brk => exact False.elim z.choose_spec.choose_spec.2
    | cont => exact False.elim z.choose_spec.choose_spec.2
end

section
variable {X : Cx} {CX : CXT} {k : Nat} {f : Addr} {fd : FuncData} {ps : List Str} {sp : Sp} {dvs : List V}
  {ds : List Value} {E : XK} {x : Str} {p pos : Pos} {e : Expr} {es : List Expr} {t : TA}
/-- f(e, ..) of such a promise -/
theorem pe_callG (F : FnG X.prog X.w X.K X.mg X.base CX k f fd ps sp) (hr : Room k X.A) (gd : X.A.guards = some [])
    (hg : Gl X x) (hm : X.mg x = some (.ref f)) (hk : PySem.W.keepIn X.K (.ref f) = true)
    (hb : Binds X.K fd ps ds) (hd : Vals dvs ds) (hx : Passes CX X E) (ha : PA X (e :: es) t)
    (hdb : (x == ("__debug__" : Str)) = false := by decide)
    (he : starEach (e :: es) X.env = (false, eval e X.env) :: starEach es X.env := by rfl)
    (hpl : (backTo pos (starEach es X.env)).any (·.1) = false := by rfl) :
    PE X (.Call (.Name x p) (e :: es) [] pos) (tCall sp dvs E t) := by
  refine ⟨fun pins s σ H Q I h => wpAny_Call_Name_kw (ld_glob I hg hm ?_ hdb)⟩
  refine PySem.W.callWith_K (h₀ := X.base) I.ok.mod.kin hk
    (thn (ha.run pos pins s σ H _ I h) fun us s1 ⟨vs, H1, I1, r, q⟩ => ⟨I1.kIn, ?_⟩) he hpl
  have r2 : Vals (vs ++ dvs) (us ++ ds) := r.append hd
  have hl : (us ++ ds).length = ps.length := r2.length.symm.trans (F.len _ _ _ _ q)
  refine wpAny_call (codeAny_mono (F.run X.A X.stack s1 H1 ⟨us, []⟩ (us ++ ds) _ Q E hr gd I1.env0
    (hb s1 us I1.kIn hl) r2 q) fun r s' z => ?_)
  match r, z with
  | .error e, z => exact hx pins σ H1 s1 e s' I1 z
  | .ok (.ret u), z => exact I1.after z
  | .ok .next, z => exact False.elim z
  | .ok .brk, z => exact False.elim z
  | .ok .cont, z => exact False.elim z
end

/-! ### the law's own end, of such a promise; the address of sys.modules is taken -/
def Sys (K : PySem.W.Frag) (H : Hp) : Prop :=
  (∃ o, K.lookup sysModules = some o) ∨ ∃ o u, H sysModules = some (.frz o u)
theorem Sys.same {K : PySem.W.Frag} {H H' : Hp} (z : Sys K H) (k : Same H H') : Sys K H' := by
  rcases z with z | ⟨o, u, z⟩
  · exact Or.inl z
  · exact Or.inr ⟨o, u, k _ _ z⟩
theorem Sys.ne {X : Cx} {pins : List (Addr × Obj)} {σ : L2.St} {H : Hp} {s : Shared} (I : Inv X pins σ H s) (z : Sys X.K H)
    {a : Addr} {u : HO} (h : H a = some u) (nf : ∀ o v, u ≠ .frz o v) : a ≠ sysModules := fun e => by
  subst e
  rcases z with ⟨o, z⟩ | ⟨o, v, z⟩
  · have b := I.ok.mod.kin _ _ z
    rw [(I.bs _ _ b).2] at h
    exact nomatch h
  · rw [z] at h
    exact nf _ _ (Option.some.inj h).symm

theorem law_end {P : Program} {w : World} {K : PySem.W.Frag} {mg mb : Str → Option Value} {k : Nat} {fa a : Addr}
    {fd : FuncData} {x : Str} {sp : Sp} {s₁ : Shared} {vs : List Value} {ns : List Int}
    (KX : K.In s₁.heap) (hns : s₁.heap.Ns mainGlobals mg) (hb : s₁.heap.Ns builtinsNs mb)
    (hbb : ∀ x : Str, x ≠ "__name__" → mb x = bootBuiltins x) (hlim : s₁.heap.NoLimit) (hg : s₁.gens = #[])
    (ha : s₁.heap.get? a = some { cls := .type "list", data := .seq vs.toArray }) (hi : IntsAre vs ns)
    (hl : ns.length ≤ sizeLine) (hr : Room k callerA) (hsm : ∃ o, s₁.heap.get? sysModules = some o)
    (F : ∀ base : Heap, K.In base → base.Ns mainGlobals mg → FnG P w K mg base CX0 k fa fd [x] sp)
    (hbind : ∀ (s : Shared) (u : Value), BindsTo s fd ⟨[u], []⟩ [(x, u)])
    (hsp : ∀ H : Hp, Sys K H → SqL K H a (ns.map V.int) → sp [.ref a] H (fun v _ => v = .bl true) fun _ _ _ => False) :
    codeAny (model P w) callerA (.call (.ref fa) ⟨[.ref a], []⟩)
      (fun r s' => r = .ok (.ret (.bool true)) ∧ OldK s₁.heap s'.heap ∧ s'.os = s₁.os ∧ AllBare s'.gens) s₁ := by
  have rel := vals_ints hi
  have main : ∀ H : Hp, (∀ b, H b = none ∨ ∃ o u, H b = some (.frz o u)) → Sys K H → SqL K H a (ns.map V.int) →
      HOk P w H s₁.heap → (∀ b, H b ≠ none → b = a ∨ b = sysModules) → (∀ b, H b ≠ none → K.lookup b = none) →
      codeAny (model P w) callerA (.call (.ref fa) ⟨[.ref a], []⟩)
        (fun r s' => r = .ok (.ret (.bool true)) ∧ OldK s₁.heap s'.heap ∧ s'.os = s₁.os ∧ AllBare s'.gens) s₁ := by
    intro H only sys sq ok at1 noK
    have none_if : ∀ {b : Addr}, ¬ b = a → ¬ b = sysModules → H b = none := fun {b} h h' => by
      cases q : H b with
      | none => rfl
      | some u =>
        rcases at1 b (by rw [q]; exact fun z => nomatch z) with z | z
        · exact absurd z h
        · exact absurd z h'
    have down : ∀ {b : Addr} {o : Obj}, s₁.heap.get? b = some o → H b = none → (hidT s₁.heap H).get? b = some o :=
      fun z n => hidT_get z n
    have nsDown : ∀ {b : Addr} {m : Str → Option Value}, b ≠ sysModules → s₁.heap.Ns b m → (hidT s₁.heap H).Ns b m := fun {b m} ne z => by
      obtain ⟨o, es, ep, z1, z2, z3⟩ := z
      refine ⟨o, es, ep, down z1 (none_if (fun h => ?_) ne), z2, z3⟩
      subst h
      rw [ha] at z1
      obtain rfl := Option.some.inj z1
      exact absurd (show Data.seq vs.toArray _ = Data.dict es ep from z2) (fun q => nomatch q)
    have kinB : K.In (hidT s₁.heap H) := fun b o z => down (KX b o z) (by
      cases q : H b with
      | none => rfl
      | some u =>
        have y := noK b (by rw [q]; exact fun y => nomatch y)
        rw [y] at z
        exact absurd z (fun y => nomatch y))
    have md : Mod K mg (hidT s₁.heap H) :=
      ⟨kinB, nsDown (by decide) hns, ⟨mb, nsDown (by decide) hb, hbb⟩, by obtain ⟨mc, z1, z2⟩ := hlim; exact ⟨mc, nsDown (by decide) z1, z2⟩⟩
    have en : Env0 P w K mg (hidT s₁.heap H) callerA [] s₁ H :=
      ⟨rfl, md, fun b o z => of_hidT z, Nat.le_of_eq (hidT_size _ _), trivial,
        fun b z => absurd (show b ∈ ([] : List Addr) from z) (by simp), ok, .of_eq hg⟩
    refine codeAny_mono ((F _ kinB (nsDown (by decide) hns)).run callerA [] s₁ H ⟨[.ref a], []⟩ [.ref a] [.ref a] _ _ hr rfl en
      (hbind s₁ (.ref a)) (.cons rfl .nil) (hsp H sys sq)) fun r s' z => ?_
    match r, z with
    | .error _, z => exact False.elim z
    | .ok .next, z => exact False.elim z
    | .ok .brk, z => exact False.elim z
    | .ok .cont, z => exact False.elim z
    | .ok (.ret u), z =>
      obtain ⟨v, H', os, bare, un, ok', rv, q⟩ := z
      have q' : v = .bl true := q
      subst q'
      have hu : u = Value.bool true := rv
      subst hu
      refine ⟨rfl, OldK.of_keep fun b o z => ?_, os, bare⟩
      rcases only b with n | ⟨ob, xs, n⟩
      · exact un.keep b o z n (fun y => absurd (show b ∈ ([] : List Addr) from y) (by simp)) (by simp)
      · have y1 : s₁.heap.get? b = some ob := (ok b _ n).1
        have y2 : s'.heap.get? b = some ob := (ok' b _ (un.frzs b ob _ n)).1
        rw [z] at y1
        rw [y2, Option.some.inj y1]
  -- what stands at sys.modules' address
  obtain ⟨om, hom⟩ := hsm
  let fz : HO := .frz om (.ext fun h => h.get? sysModules = some om)
  have fzOk : ∀ H : Hp, ObjOk P w H s₁.heap sysModules fz := fun H =>
    ⟨hom, hom, ⟨om, hom⟩, fun h1 h2 z k => k _ z⟩
  let sz : HO := .frz { cls := .type "list", data := .seq vs.toArray } (.lst (ns.map V.int))
  have szOk : ∀ H : Hp, ObjOk P w H s₁.heap a sz := fun H =>
    ⟨ha, by rw [List.length_map]; exact hl, vs, _, rel, ha⟩
  let H : Hp := fun b => if b = a ∧ K.lookup a = none then some sz else if b = sysModules ∧ K.lookup sysModules = none then some fz else none
  have cs : ∀ b, (b = a ∧ K.lookup a = none ∧ H b = some sz) ∨ (b = sysModules ∧ K.lookup sysModules = none ∧ H b = some fz) ∨ H b = none := fun b => by
    by_cases h1 : b = a ∧ K.lookup a = none
    · exact Or.inl ⟨h1.1, h1.2, if_pos h1⟩
    · by_cases h2 : b = sysModules ∧ K.lookup sysModules = none
      · exact Or.inr (Or.inl ⟨h2.1, h2.2, (if_neg h1).trans (if_pos h2)⟩)
      · exact Or.inr (Or.inr ((if_neg h1).trans (if_neg h2)))
  refine main H (fun b => ?_) ?_ ?_ (fun b u z => ?_) (fun b z => ?_) (fun b z => ?_)
  · rcases cs b with ⟨_, _, h⟩ | ⟨_, _, h⟩ | h
    · exact Or.inr ⟨_, _, h⟩
    · exact Or.inr ⟨_, _, h⟩
    · exact Or.inl h
  · cases q : K.lookup sysModules with
    | some o => exact Or.inl ⟨o, q⟩
    | none =>
      rcases cs sysModules with ⟨_, _, h⟩ | ⟨_, _, h⟩ | h
      · exact Or.inr ⟨_, _, h⟩
      · exact Or.inr ⟨_, _, h⟩
      · exfalso
        by_cases h1 : sysModules = a ∧ K.lookup a = none
        · rw [show H sysModules = some sz from if_pos h1] at h
          exact nomatch h
        · rw [show H sysModules = some fz from (if_neg h1).trans (if_pos ⟨rfl, q⟩)] at h
          exact nomatch h
  · cases q : K.lookup a with
    | some o =>
      have z := KX a o q
      rw [ha] at z
      obtain rfl := Option.some.inj z
      exact Or.inr ⟨_, vs.toArray, _, q, rfl, rfl, rfl, by rw [List.size_toArray, hi.length]; exact hl, by simpa using rel⟩
    | none => exact Or.inl (Or.inr ⟨{ cls := .type "list", data := .seq vs.toArray }, if_pos ⟨rfl, q⟩⟩)
  · rcases cs b with ⟨e, _, h⟩ | ⟨e, _, h⟩ | h
    · rw [z] at h
      obtain rfl := Option.some.inj h
      rw [e]
      exact szOk H
    · rw [z] at h
      obtain rfl := Option.some.inj h
      rw [e]
      exact fzOk H
    · rw [z] at h
      exact nomatch h
  · rcases cs b with ⟨e, _, h⟩ | ⟨e, _, h⟩ | h
    · exact Or.inl e
    · exact Or.inr e
    · exact absurd h z
  · rcases cs b with ⟨e, l, h⟩ | ⟨e, l, h⟩ | h
    · rw [e]; exact l
    · rw [e]; exact l
    · exact absurd h z

theorem law_walk {l : PySem.W.OpenLaw} {n k : Nat} {q : Program} {loose : List Str} {XP : (Str → Option Value) → Heap → Prop}
    {YP : World → Heap → Prop} {d : DefRec} {K : Params → PySem.W.Frag} {sp : World → Sp} {x : Str}
    (hn : l.most = some n) (hn2 : n ≤ sizeLine) (hdf : d.params.defaults = []) (hr : Room k callerA)
    (him : importsNone q = true)
    (hY : ∀ (w : World) (h : Heap), YP w h → (K w.params).In h)
    (F : ∀ (w : World) (mg : Str → Option Value) (fa : Addr) (h : Heap), (K w.params).In h → h.Ns mainGlobals mg →
      mg d.name = some (.ref fa) → ∃ fd : FuncData, (∀ (s : Shared) (u : Value), BindsTo s fd ⟨[u], []⟩ [(x, u)]) ∧
        ∀ base : Heap, (K w.params).In base → base.Ns mainGlobals mg → FnG l.prog w (K w.params) mg base CX0 k fa fd [x] (sp w))
    (hsp : ∀ (w : World) (H : Hp) (a : Addr) (ns : List Int), ns.length ≤ n → Sys (K w.params) H → SqL (K w.params) H a (ns.map V.int) →
      sp w [.ref a] H (fun v _ => v = .bl true) fun _ _ _ => False) :
    PySem.W.WalkO q loose XP YP l.row.toRowW d [] (fun f vs => PySem.call f vs) := by
  refine Att.attach_call hn hdf fun w s₀ s₁ mg mb fa o pm cd doc a vs ns G Y ho hd hcd hmg hobj hints hlen hg => ?_
  have inK := hY w _ Y
  obtain ⟨fd, bi, run⟩ := F w mg fa _ inK G.T.g hmg
  have hsm : ∃ o, s₁.heap.get? sysModules = some o := by
    obtain ⟨mm, ⟨o, _, _, z, _⟩, _⟩ := (G.T.seer him).mods
    exact ⟨o, z⟩
  exact law_end inK G.T.g G.T.b G.T.builtins G.T.nolimit hg hobj hints (Nat.le_trans hlen hn2) hr hsm run bi
    fun H h1 h2 => hsp w H a ns hlen h1 h2
end Nv
/-! Nv, part B: data with dicts in it, and what repr says of it. -/
namespace Nv
open PySem PySem.Spec PyProof.Rows L2

def keyD : Key → PyData
  | .inl i => .int i
  | .inr x => .str x

mutual
inductive Dq (H : Hp) : V → PyData → Prop
  | non : Dq H .non .none
  | bl (b : Bool) : Dq H (.bl b) (.bool b)
  | int (i : Int) : Dq H (.int i) (.int i)
  | str (x : Str) : Dq H (.str x) (.str x)
  | lst {a : Addr} {xs : List V} {ds : List PyData} : H a = some (.lst xs) → DqAll H xs ds → Dq H (.ref a) (.list ds)
  | tup {a : Addr} {xs : List V} {ds : List PyData} : H a = some (.tup xs) → DqAll H xs ds → Dq H (.ref a) (.tuple ds)
  | dic {a : Addr} {kvs : List (Key × V)} {ds : List PyData} : H a = some (.dK kvs) → DqAll H (kvs.map (·.2)) ds →
      Dq H (.ref a) (.dict ((kvs.map fun p => keyD p.1).zip ds))
inductive DqAll (H : Hp) : List V → List PyData → Prop
  | nil : DqAll H [] []
  | cons {v : V} {vs : List V} {d : PyData} {ds : List PyData} : Dq H v d → DqAll H vs ds → DqAll H (v :: vs) (d :: ds)
end

mutual
theorem Dq.same {H H' : Hp} (k : Same H H') : ∀ {v : V} {d : PyData}, Dq H v d → Dq H' v d
  | _, _, .non => .non
  | _, _, .bl b => .bl b
  | _, _, .int i => .int i
  | _, _, .str x => .str x
  | _, _, .lst h t => .lst (k _ _ h) (DqAll.same k t)
  | _, _, .tup h t => .tup (k _ _ h) (DqAll.same k t)
  | _, _, .dic h t => .dic (k _ _ h) (DqAll.same k t)
theorem DqAll.same {H H' : Hp} (k : Same H H') : ∀ {vs : List V} {ds : List PyData}, DqAll H vs ds → DqAll H' vs ds
  | _, _, .nil => .nil
  | _, _, .cons a b => .cons (Dq.same k a) (DqAll.same k b)
end

theorem reads_keys {P : Program} {w : World} {h : Heap} : ∀ {es : List DictEntry} {vs : List (Key × Value)},
    Pairs (mixKind P w) es vs → ReadsAll h (es.map (·.key)) (vs.map fun p => keyD p.1) []
  | _, _, .nil => .nil
  | _, _, .cons (e := e) (kv := kv) h1 h2 t => by
    have tl := reads_keys (h := h) t
    have h1' : keyIs kv.1 e.key = true := h1
    rcases keyIs_shape h1' with ⟨i, tk, z1, z2⟩ | ⟨x, tk, z1, z2⟩
    · have hd : Reads h e.key (keyD kv.1) [] := by rw [z1, z2]; exact .int i tk
      exact ReadsAll.cons hd tl
    · have hd : Reads h e.key (keyD kv.1) [] := by rw [z1, z2]; exact .str x tk
      exact ReadsAll.cons hd tl
theorem pairs_vals {P : Program} {w : World} : ∀ {es : List DictEntry} {vs : List (Key × Value)},
    Pairs (mixKind P w) es vs → es.map (·.val) = vs.map (·.2)
  | _, _, .nil => rfl
  | _, _, .cons h1 h2 t => by
    rw [List.map_cons, List.map_cons, h2, pairs_vals t]
theorem kv_keys : ∀ {kvs : List (Key × V)} {vs : List (Key × Value)}, KV kvs vs →
    (kvs.map fun p => keyD p.1) = vs.map fun p => keyD p.1
  | _, _, .nil => rfl
  | _, _, .cons h t => by
    rw [List.map_cons, List.map_cons, kv_keys t, h.1]
theorem kv_vals : ∀ {kvs : List (Key × V)} {vs : List (Key × Value)}, KV kvs vs → Vals (kvs.map (·.2)) (vs.map (·.2))
  | _, _, .nil => .nil
  | _, _, .cons h t => .cons h.2 (kv_vals t)
theorem dqAll_len {H : Hp} : ∀ {vs : List V} {ds : List PyData}, DqAll H vs ds → vs.length = ds.length
  | _, _, .nil => rfl
  | _, _, .cons _ t => congrArg Nat.succ (dqAll_len t)
theorem map_fst_zip {α β : Type} : ∀ (xs : List α) (ys : List β), xs.length = ys.length → (xs.zip ys).map (·.1) = xs
  | [], [], _ => rfl
  | x :: xs, y :: ys, h => by
    rw [List.zip_cons_cons, List.map_cons, map_fst_zip xs ys (Nat.succ.inj h)]
theorem map_snd_zip {α β : Type} : ∀ (xs : List α) (ys : List β), xs.length = ys.length → (xs.zip ys).map (·.2) = ys
  | [], [], _ => rfl
  | x :: xs, y :: ys, h => by
    rw [List.zip_cons_cons, List.map_cons, map_snd_zip xs ys (Nat.succ.inj h)]

section
variable {X : Cx} {pins : List (Addr × Obj)} {σ : L2.St} {H : Hp} {s : Shared}
mutual
theorem Dq.reads (I : Inv X pins σ H s) (h1 : Sys X.K H) : ∀ {v : V} {d : PyData} {u : Value}, Dq H v d → RelV v u →
    ∃ as, Reads s.heap u d as ∧ sysModules ∉ as
  | _, _, _, .non, r => by
    cases r
    exact ⟨_, .none, by simp⟩
  | _, _, _, .bl b, r => by
    cases r
    exact ⟨_, .bool b, by simp⟩
  | _, _, _, .int i, r => by
    obtain ⟨t, rfl⟩ := r
    exact ⟨_, .int i t, by simp⟩
  | _, _, _, .str x, r => by
    obtain ⟨t, rfl⟩ := r
    exact ⟨_, .str x t, by simp⟩
  | _, _, _, .lst (a := a) hs ha, r => by
    cases r
    obtain ⟨_, its, n, rv, ho⟩ : _ ∧ _ := I.hok a _ hs
    obtain ⟨as, hr, na⟩ := DqAll.reads I h1 ha rv
    have ne : a ≠ sysModules := h1.ne I hs (fun _ _ z => nomatch z)
    refine ⟨_, Reads.list ho rfl rfl hr, fun z => ?_⟩
    rcases List.mem_cons.mp z with z | z
    · exact ne z.symm
    · exact na z
  | _, _, _, .tup (a := a) hs ha, r => by
    cases r
    obtain ⟨_, its, rv, o, ho, hc, n, hd⟩ : _ ∧ _ := I.hok a _ hs
    obtain ⟨as, hr, na⟩ := DqAll.reads I h1 ha rv
    exact ⟨_, Reads.tuple ho hc hd hr, na⟩
  | _, _, _, .dic (a := a) (kvs := kvs) (ds := ds) hs ha, r => by
    cases r
    obtain ⟨_, _, vs, rel, o, es, ep, ho, ex, hd, _, pr, _⟩ : _ ∧ _ := I.hok a _ hs
    obtain ⟨bs, hr, nb⟩ := DqAll.reads I h1 ha (kv_vals rel)
    have ne : a ≠ sysModules := h1.ne I hs (fun _ _ z => nomatch z)
    have ll : (kvs.map fun p => keyD p.1).length = ds.length := by
      rw [List.length_map, ← dqAll_len ha, List.length_map]
    have k1 : ReadsAll s.heap (es.toList.map (·.key)) (((kvs.map fun p => keyD p.1).zip ds).map (·.1)) [] := by
      rw [map_fst_zip _ _ ll, kv_keys rel]
      exact reads_keys pr
    have k2 : ReadsAll s.heap (es.toList.map (·.val)) (((kvs.map fun p => keyD p.1).zip ds).map (·.2)) bs := by
      rw [map_snd_zip _ _ ll, pairs_vals pr]
      exact hr
    refine ⟨_, Reads.dict ho ex.1 hd k1 k2, fun z => ?_⟩
    rcases List.mem_cons.mp z with z | z
    · exact ne z.symm
    · exact nb z
theorem DqAll.reads (I : Inv X pins σ H s) (h1 : Sys X.K H) : ∀ {vs : List V} {ds : List PyData} {us : List Value},
    DqAll H vs ds → Vals vs us → ∃ as, ReadsAll s.heap us ds as ∧ sysModules ∉ as
  | _, _, _, .nil, r => by
    cases r
    exact ⟨_, .nil, by simp⟩
  | _, _, _, .cons a b, r => by
    cases r with
    | cons r1 r2 =>
      obtain ⟨as, q1, n1⟩ := Dq.reads I h1 a r1
      obtain ⟨bs, q2, n2⟩ := DqAll.reads I h1 b r2
      exact ⟨_, .cons q1 q2, fun z => by
        rcases List.mem_append.mp z with z | z
        · exact n1 z
        · exact n2 z⟩
end
end

/-- repr(v), v a list, a tuple or a dict of plain data -/
def rRepr (K : PySem.W.Frag) : List V → Hp → VK → Prop := fun vs H Q => ∃ (a : Addr) (d : PyData), vs = [.ref a] ∧ Sys K H ∧ Dq H (.ref a) d ∧
  d.showable = true ∧ d.depth ≤ 30 ∧ d.shown.length ≤ sizeLine ∧ Q (.str d.shown) H
theorem call_reprD {X : Cx} {k : Nat} (hr : Room k X.A) (gd : X.A.guards = some []) : CallR X (.builtin "repr") (rRepr X.K) := by
  intro pins s σ H vs us Q I r h
  obtain ⟨a, d, rfl, h1, dq, sh, dp, sz, q⟩ := h
  obtain ⟨u, rfl, ru⟩ := vals1 r
  cases ru
  obtain ⟨as, rd, na⟩ := Dq.reads I h1 dq rfl
  have un := hr.un
  exact repr_of_reads' rd sh (fun _ => na) gd (by omega) (fun _ _ z => z) (fun h' u tk kp => ⟨.str d.shown, H, I.kept kp, ⟨u, rfl⟩, q⟩) sz
end Nv
/-! Nv, part C: instances made where what is raised is wished for at the slots; errors with a what; kinds. -/
namespace Nv
open PySem PySem.Spec PyProof.Rows L2

section
variable {X : Cx} {CX : CXT} {k n : Nat} {f C : Addr} {fd : FuncData} {ps ks : List Str} {sp : Sp} {E : L2.St → XK} {x : Str}
  {p pos : Pos} {e : Expr} {es : List Expr} {kws : List Keyword} {t tk : TA} {g : List Value → List Value → List Value}
  {gV : List V → List V → List V}
/-- C(e, .., k = v, ..); what is raised is wished for at the slots -/
def tMkS (C : Addr) (n m : Nat) (sp : Sp) (gV : List V → List V → List V) (E : L2.St → XK) (t tk : TA) : TE := fun σ H Q =>
  t σ H fun vs H1 => tk σ H1 fun zs H2 => vs.length = n ∧ zs.length = m ∧ ∀ x dx, H2 x = none → H2 dx = none → dx ≠ x →
    sp (gV (.ref x :: vs) zs) (upd (upd H2 dx (.own x)) x (.ins C dx [])) (fun v H3 => v = .non ∧ Q (.ref x) H3) (E σ)
theorem run_mkS {pins : List (Addr × Obj)} {σ : L2.St} {H : Hp} {s : Shared} {Q : VK} {us ws : List Value} {vs zs : List V}
    (M : Mk X.K C f) (F : FnOk X.prog X.w X.K X.mg X.base CX k f fd ps sp) (hr : Room (k + 1) X.A)
    (hb : KBn X.K fd ps (n + 1) ks g gV) (hx : PassesAt CX X σ (E σ)) (I : Inv X pins σ H s) (r : Vals vs us) (rz : Vals zs ws)
    (l1 : vs.length = n) (l2 : zs.length = ks.length)
    (h : ∀ x dx, H x = none → H dx = none → dx ≠ x → sp (gV (.ref x :: vs) zs) (upd (upd H dx (.own x)) x (.ins C dx []))
      (fun v H2 => v = .non ∧ Q (.ref x) H2) (E σ)) :
    wpAny (model X.prog X.w) X.A (call (.ref C) us (ks.zip ws)) (EP X pins σ Q) X.xe s := by
  have big := h (s.heap.objs.size + 1) s.heap.objs.size (I.hok.fresh (Nat.le_succ _)) (I.hok.fresh (Nat.le_refl _))
    (Nat.ne_of_lt (Nat.lt_succ_self _))
  have J := Inv.made (C := C) I
  have q1 : Vals (V.ref (s.heap.objs.size + 1) :: vs) (Value.ref (s.heap.objs.size + 1) :: us) := .cons rfl r
  have n1 : (Value.ref (s.heap.objs.size + 1) :: us).length = n + 1 := q1.length.symm.trans (congrArg Nat.succ l1)
  have n2 : ws.length = ks.length := rz.length.symm.trans l2
  refine wpAny_call (make_map (f := f) I.kIn M.makes M.init (beq_iff_eq.mp M.fn) (codeAny_mono
    (F.run _ X.stack _ _ ⟨Value.ref (s.heap.objs.size + 1) :: us, ks.zip ws⟩ (g (Value.ref (s.heap.objs.size + 1) :: us) ws) _ _ (E σ)
      (hr.make C us (ks.zip ws)) (J.env0.make C us (ks.zip ws)) (hb.to _ (Value.ref (s.heap.objs.size + 1) :: us) ws J.kIn n1 n2)
      (hb.rel q1 rz) big) fun r s' z => ?_))
  match r, z with
  | .error e, z => exact hx pins _ _ e s' J z
  | .ok .next, z => exact False.elim z
  | .ok .brk, z => exact False.elim z
  | .ok .cont, z => exact False.elim z
  | .ok (.ret u), z =>
    obtain ⟨v, H', I3, rv, ev, q3⟩ := J.after z
    subst ev
    exact ⟨rv, ⟨V.ref (s.heap.objs.size + 1), H', I3, rfl, q3⟩⟩
theorem pe_mkS (M : Mk X.K C f) (F : FnOk X.prog X.w X.K X.mg X.base CX k f fd ps sp) (hr : Room (k + 1) X.A) (hg : Gl X x)
    (hm : X.mg x = some (.ref C)) (hb : KBn X.K fd ps (n + 1) ks g gV) (hx : ∀ σ, PassesAt CX X σ (E σ))
    (ha : PA X (e :: es) t) (hkw : PK X kws tk) (hall : (backToKw pos (keywordEach kws X.env)).all (·.1.isSome) = true := by rfl)
    (hks : (backToKw pos (keywordEach kws X.env)).filterMap (·.1) = ks := by rfl) (hdb : (x == ("__debug__" : Str)) = false := by decide)
    (he : starEach (e :: es) X.env = (false, eval e X.env) :: starEach es X.env := by rfl)
    (hpl : ((backTo pos (starEach (e :: es) X.env)).any (·.1) || (backToKw pos (keywordEach kws X.env)).any (·.1.isNone)) = false := by rfl) :
    PE X (.Call (.Name x p) (e :: es) kws pos) (tMkS C n ks.length sp gV E t tk) := by
  refine ⟨fun pins s σ H Q I h => wpAny_Call_Name_kw (ld_glob I hg hm ?_ hdb)⟩
  refine PySem.W.callWith_KW (h₀ := X.base) I.ok.mod.kin M.kp hall
    (thn (ha.run pos pins s σ H _ I h) fun us s1 ⟨vs, H1, I1, r, q⟩ => ?_) hpl he
  refine thn (hkw.run pos pins s1 σ H1 _ I1 q) fun ws s2 ⟨zs, H2, I2, rz, l1, l2, q2⟩ => ⟨I2.kIn, ?_⟩
  rw [hks]
  exact run_mkS M F hr hb (hx σ) I2 r rz l1 l2 q2
theorem pe_mkS0 (M : Mk X.K C f) (F : FnOk X.prog X.w X.K X.mg X.base CX k f fd ps sp) (hr : Room (k + 1) X.A) (hg : Gl X x)
    (hm : X.mg x = some (.ref C)) (hb : KBn X.K fd ps 1 ks g gV) (hx : ∀ σ, PassesAt CX X σ (E σ)) (hkw : PK X kws tk)
    (hall : (backToKw pos (keywordEach kws X.env)).all (·.1.isSome) = true := by rfl)
    (hks : (backToKw pos (keywordEach kws X.env)).filterMap (·.1) = ks := by rfl) (hdb : (x == ("__debug__" : Str)) = false := by decide)
    (hpl : ((backTo pos (starEach [] X.env)).any (·.1) || (backToKw pos (keywordEach kws X.env)).any (·.1.isNone)) = false := by rfl) :
    PE X (.Call (.Name x p) [] kws pos) (tMkS C 0 ks.length sp gV E tNil tk) := by
  refine ⟨fun pins s σ H Q I h => wpAny_Call_Name_kw (ld_glob I hg hm ?_ hdb)⟩
  refine PySem.W.callWith_KW0 (h₀ := X.base) I.ok.mod.kin M.kp hall ?_ hpl
  refine thn (hkw.run pos pins s σ H _ I h) fun ws s2 ⟨zs, H2, I2, rz, l1, l2, q2⟩ => ⟨I2.kIn, ?_⟩
  rw [hks]
  exact run_mkS (us := []) (vs := []) M F hr hb (hx σ) I2 .nil rz rfl l2 q2
end

/-! ### kinds -/
def isI : V → Bool
  | .int _ => true
  | _ => false
/-- what isinstance of int and of bool say of x: is it an integer and no flag -/
structure KdOf (K : PySem.W.Frag) (H : Hp) (x : V) : Prop where
  ex : ∃ (t : Value) (b1 b2 : Bool), TyX K H x t ∧ PySem.W.kitOne K t (.type "int") = some b1 ∧
    PySem.W.kitOne K t (.type "bool") = some b2 ∧ (b1 && !b2) = isI x
theorem kd_non {K : PySem.W.Frag} {H : Hp} : KdOf K H .non :=
  ⟨_, false, false, .base .non, kit_ty (by decide +kernel), kit_ty (by decide +kernel), rfl⟩
theorem kd_bl {K : PySem.W.Frag} {H : Hp} (b : Bool) : KdOf K H (.bl b) :=
  ⟨_, true, true, .base (.bl b), kit_ty (by decide +kernel), kit_ty (by decide +kernel), rfl⟩
theorem kd_int {K : PySem.W.Frag} {H : Hp} (i : Int) : KdOf K H (.int i) :=
  ⟨_, true, false, .base (.int i), kit_ty (by decide +kernel), kit_ty (by decide +kernel), rfl⟩
theorem kd_str {K : PySem.W.Frag} {H : Hp} (x : Str) : KdOf K H (.str x) :=
  ⟨_, false, false, .base (.str x), kit_ty (by decide +kernel), kit_ty (by decide +kernel), rfl⟩
theorem kd_lst {K : PySem.W.Frag} {H : Hp} {a : Addr} {xs : List V} (h : H a = some (.lst xs)) : KdOf K H (.ref a) :=
  ⟨_, false, false, .base (.lst h), kit_ty (by decide +kernel), kit_ty (by decide +kernel), rfl⟩
theorem kd_tup {K : PySem.W.Frag} {H : Hp} {a : Addr} {xs : List V} (h : H a = some (.tup xs)) : KdOf K H (.ref a) :=
  ⟨_, false, false, .base (.tup h), kit_ty (by decide +kernel), kit_ty (by decide +kernel), rfl⟩
theorem kd_dK {K : PySem.W.Frag} {H : Hp} {a : Addr} {kvs : List (Key × V)} (h : H a = some (.dK kvs)) : KdOf K H (.ref a) :=
  ⟨_, false, false, .base (.dK h), kit_ty (by decide +kernel), kit_ty (by decide +kernel), rfl⟩
/-- what isinstance asks of an own class -/
structure IsC (K : PySem.W.Frag) (C : Addr) : Prop where
  cl : Cls K C
  ha : PySem.W.findIn K (.ref C) "__class__" = some (some (.builtin "object.__class__"))
  hn : PySem.W.specialIn K (.builtin "object.__class__") "__get__" = some (some (.builtin "getset_descriptor.__get__"))
  htk : PySem.W.takesIn K (.builtin "object.__class__") = some true
  hm : PySem.W.mroIn K C (.type "object") = some true
  ki : PySem.W.kitOne K (.ref C) (.type "int") = some false
  kb : PySem.W.kitOne K (.ref C) (.type "bool") = some false
theorem kd_ins {K : PySem.W.Frag} {H : Hp} {a C dx : Addr} {fs : List (Str × V)} (c : IsC K C) (h : H a = some (.ins C dx fs)) : KdOf K H (.ref a) :=
  ⟨_, false, false, .base (.ins h c.cl c.ha c.hn c.htk c.hm), c.ki, c.kb, rfl⟩
theorem TyOf.same {K : PySem.W.Frag} {H H' : Hp} {x : V} {t : Value} (k : Same H H') (h : TyOf K H x t) : TyOf K H' x t := by
  cases h with
  | non => exact .non
  | bl b => exact .bl b
  | int i => exact .int i
  | str y => exact .str y
  | flt y => exact .flt y
  | lst e => exact .lst (k _ _ e)
  | frz e => exact .frz (k _ _ e)
  | tup e => exact .tup (k _ _ e)
  | dK e => exact .dK (k _ _ e)
  | dT e => exact .dT (k _ _ e)
  | ins e cl ha hn htk hm => exact .ins (k _ _ e) cl ha hn htk hm
theorem TyX.same {K : PySem.W.Frag} {H H' : Hp} {x : V} {t : Value} (k : Same H H') (h : TyX K H x t) : TyX K H' x t := by
  cases h with
  | base h => exact .base (TyOf.same k h)
  | byt b => exact .byt b
  | set e => exact .set (k _ _ e)
  | kList e c => exact .kList e c
  | kTuple e c => exact .kTuple e c
  | kDict e c => exact .kDict e c
  | fTuple e => exact .fTuple (k _ _ e)
  | fDict e => exact .fDict (k _ _ e)
theorem KdOf.same {K : PySem.W.Frag} {H H' : Hp} {x : V} (k : Same H H') (h : KdOf K H x) : KdOf K H' x := by
  obtain ⟨t, b1, b2, a, b, c, d⟩ := h.ex
  exact ⟨t, b1, b2, TyX.same k a, b, c, d⟩

/-! ### errors with a what -/
def whatF (v : V) : List (Str × V) := [("what", v)]
/-- what the written part says of an own error class without an __init__ of its own -/
structure ExC (K : PySem.W.Frag) (mg : Str → Option Value) (x : Str) (C fI : Addr) : Prop where
  gC : mg x = some (.ref C)
  ox : OexC K C
  iC : PySem.W.findIn K (.ref C) "__init__" = some (some (.ref fI))
  tI : PySem.W.typeIn K (.ref fI) = some (.type "function")
  no : PySem.W.findIn K (.ref C) "what" = some none
  xf : XfC K C
  te : PySem.W.exmOne K (.ref C) (.ref C) = some true
/-- __init__(self, what) of the errors -/
def spExI (K : PySem.W.Frag) : Sp := fun vs H Q _ => ∃ (a C : Addr) (v : V), vs = [.ref a, v] ∧ OexC K C ∧
  PySem.W.findIn K (.ref C) "what" = some none ∧ H a = some (exo a C none) ∧
  ∀ dx, H dx = none → dx ≠ a → Q .non (upd (upd H dx (exd dx (whatF v))) a (exo a C (some dx)))
theorem heap_back {H : Hp} {a dx : Addr} {o1 o2 o3 o4 : HO} (ha : H a = none) (ne : dx ≠ a) :
    upd (L2.del (upd (upd (upd H a o1) dx o2) a o3) a) dx o4 = upd H dx o4 := by
  funext b
  by_cases h : b = dx
  · subst h
    rw [upd_same, upd_same]
  · rw [upd_ne h, upd_ne h]
    by_cases h2 : b = a
    · subst h2
      rw [L2.del_same, ha]
    · rw [L2.del_ne h2, upd_ne h2, upd_ne h, upd_ne h2]
theorem mk_err {K : PySem.W.Frag} {mg : Str → Option Value} {x : Str} {C fI : Addr} (T : ExC K mg x C fI) {te : TE} {σ : L2.St} {H : Hp} {Q : XK}
    (h : te σ H fun v H1 => ∀ d, H1 d = none → Q (.ref C) (some d) (upd H1 d (.xd (whatF v)))) (mono : ∀ {A B : V → Hp → Prop}, (∀ v H, A v H → B v H) → te σ H A → te σ H B) :
    tMkO C (spExI K) [] (tCons te tNil) σ H Q := by
  refine mono (fun v H1 q => ?_) h
  show [v].length ≤ 1000 ∧ _
  refine ⟨by show 1 ≤ 1000; decide, fun a ha => ⟨a, C, v, rfl, T.ox, T.no, upd_same, fun dx hdx ne => ⟨rfl, dx, whatF v, upd_same, ?_, ?_, ?_⟩⟩⟩
  · rw [upd_ne ne, upd_same]
  · rw [upd_ne ne] at hdx
    exact hdx
  · rw [upd_ne ne] at hdx
    rw [heap_back ha ne]
    exact q dx hdx
end Nv
/-! Nv, part D: the laws' own helpers: a cell, the generator's state, a draw; how what stands is carried over draws. -/
namespace Nv
open PySem PySem.Spec PyProof.Rows L2
/-- what the built-ins' names hold -/
structure Blt (mg : Str → Option Value) : Prop where
  len : mg "len" = none
  int : mg "int" = none
  bool : mg "bool" = none
  abs : mg "abs" = none
  isi : mg "isinstance" = none
  rep : mg "repr" = none
  rng : mg "range" = none
/-- a cell of the script -/
def spCel (K : PySem.W.Frag) : Sp := fun vs H Q _ => ∃ (a : Addr) (ns : List Int) (j : Nat),
  vs = [.ref a, .int (j : Int)] ∧ SqL K H a (ns.map V.int) ∧ Q (.int (ns.getD j 0)) H
/-- the generator's state -/
def spSta : Sp := fun vs H Q _ => ∃ (n : Int), vs = [.int n] ∧
  ∀ (p : Addr) (a b c : Int), H p = none → Q (.ref p) (upd H p (.lst [.int a, .int b, .int c]))
/-- a draw: some number below many -/
def spTak : Sp := fun vs H Q _ => ∃ (p : Addr) (a b c m : Int), vs = [.ref p, .int m] ∧ 0 < m ∧ m < 1073741824 ∧
  H p = some (.lst [.int a, .int b, .int c]) ∧
  ∀ (d a' b' c' : Int), 0 ≤ d → d < m → Q (.int d) (upd H p (.lst [.int a', .int b', .int c']))
theorem same_new {H : Hp} {p dx : Addr} {o1 o2 : HO} (hp : H p = none) (hd : H dx = none) : Same H (upd (upd H dx o1) p o2) := fun b o e => by
  rw [upd_ne (ne_of_none e hp), upd_ne (ne_of_none e hd)]
  exact e
theorem same_upd {H : Hp} {p : Addr} {o : HO} (hp : H p = none) : Same H (upd H p o) := fun b u e => by
  rw [upd_ne (ne_of_none e hp)]
  exact e

/-- a law's def: nothing is let out, no repr is under way -/
theorem FnG.mk0 {P : Program} {w : World} {K : PySem.W.Frag} {mg : Str → Option Value} {base : Heap} {k : Nat} {f : Addr} {fd : FuncData}
    {N ps : List Str} {sp : Sp} {x qual : Str} {st : Stmt} (F : Fun K x qual st f fd)
    (S : FnScope N ps (defScope st)) (len : ∀ vs H Q E, sp vs H Q E → vs.length = ps.length)
    (body : ∀ (cdv : Value) (A : Around) (outer : List Env) (s : Shared) (H : Hp) (vs : List V) (Q : VK) (E : XK),
      A.guards = some [] → Room k (A.deeper (envOfC qual (defScope st) s.heap.objs.size f cdv)) → sp vs H Q E →
      ∃ t, PSs (cxOf CX0 P w K mg base N qual (defScope st) f cdv A outer s H E).nox (defBody st) t ∧
        t { nx := fun _ H' => Q .non H', rt := Q } (start N vs) H) :
    FnG P w K mg base CX0 (k + 1) f fd ps sp :=
  FnG.mk_of F S len fun cdv A outer s H vs Q E gd hr q => by
    obtain ⟨t, h1, h2⟩ := body cdv A outer s H vs Q E gd hr q
    exact ⟨t, h1.nox, h2⟩

/-- G stands beside the generator's state at st -/
structure Dr (G : Hp) (st : Addr) (H : Hp) : Prop where
  same : Same G H
  free : G st = none
  at_ : ∃ a b c : Int, H st = some (.lst [.int a, .int b, .int c])
theorem Dr.mono {G : Hp} {st : Addr} {H H' : Hp} (d : Dr G st H) (k : Same H H') : Dr G st H' := by
  obtain ⟨a, b, c, h⟩ := d.at_
  exact ⟨d.same.trans k, d.free, a, b, c, k _ _ h⟩
theorem Dr.put {G : Hp} {st : Addr} {H : Hp} {a b c : Int} (d : Dr G st H) : Dr G st (upd H st (.lst [.int a, .int b, .int c])) :=
  ⟨fun x o e => by rw [upd_ne (ne_of_none e d.free)]; exact d.same x o e, d.free, a, b, c, upd_same⟩
/-- something new that is to stand -/
theorem Dr.new {G : Hp} {st : Addr} {H : Hp} {q : Addr} {o : HO} (d : Dr G st H) (n : H q = none) : Dr (upd G q o) st (upd H q o) := by
  obtain ⟨a, b, c, h⟩ := d.at_
  have ne : st ≠ q := ne_of_none h n
  refine ⟨fun x u e => ?_, ?_, a, b, c, ?_⟩
  · by_cases hx : x = q
    · subst hx
      rw [upd_same] at e ⊢
      exact e
    · rw [upd_ne hx] at e ⊢
      exact d.same x u e
  · rw [upd_ne ne]
    exact d.free
  · rw [upd_ne ne]
    exact h
theorem Dr.news {G : Hp} {st : Addr} {H : Hp} {q : Addr} {o : HO} (d : Dr G st H) (n : H q = none) : Same G (upd G q o) :=
  same_upd (d.same.free n)
theorem Dr.add {G : Hp} {st : Addr} {H : Hp} {q : Addr} {o : HO} (d : Dr G st H) (h : H q = some o) (ne : st ≠ q) : Dr (upd G q o) st H := by
  refine ⟨fun x u e => ?_, ?_, d.at_⟩
  · by_cases hx : x = q
    · subst hx
      rw [upd_same] at e
      rw [h]
      exact e
    · rw [upd_ne hx] at e
      exact d.same x u e
  · rw [upd_ne ne]
    exact d.free
theorem Dr.ne {G : Hp} {st : Addr} {H : Hp} {q : Addr} (d : Dr G st H) (n : H q = none) : st ≠ q := by
  obtain ⟨a, b, c, h⟩ := d.at_
  exact ne_of_none h n
theorem Dr.start {H : Hp} {st : Addr} {a b c : Int} (n : H st = none) : Dr H st (upd H st (.lst [.int a, .int b, .int c])) :=
  ⟨same_upd n, n, a, b, c, upd_same⟩
/-- a draw is read -/
theorem take_read {G : Hp} {st : Addr} {H : Hp} {m : Int} {Q : VK} {E : XK} (d : Dr G st H) (m0 : 0 < m) (m1 : m < 1073741824)
    (h : ∀ (z : Int) (H' : Hp), 0 ≤ z → z < m → Dr G st H' → Q (.int z) H') : spTak [.ref st, .int m] H Q E := by
  obtain ⟨a, b, c, e⟩ := d.at_
  exact ⟨st, a, b, c, m, rfl, m0, m1, e, fun z a' b' c' z0 z1 => h z _ z0 z1 d.put⟩
theorem atI_in {xs : List V} {z : Int} (z0 : 0 ≤ z) (z1 : z < (xs.length : Int)) : ∃ v, atI xs z = some v ∧ v ∈ xs := by
  have lt : z.toNat < xs.length := by omega
  refine ⟨xs[z.toNat], at_of (j := z.toNat) (by omega) (List.getElem?_eq_getElem lt), List.getElem_mem lt⟩
end Nv
/-! Nv, part P: readings over data alone. D: data; At: what stands in the heap; Ens: what the slots hold;
WpE, WpT, WpA, WpS, WpI, WpG: what must hold of the data so that a reading ends as wished. -/
namespace Nv
open PySem PySem.Spec PyProof.Rows L2

inductive D where
  | non
  | bl (b : Bool)
  | int (i : Int)
  | str (x : Str)
  | ty (T : String)
  | lst (ds : List D)
  | tup (ds : List D)
  | dic (ks : List Key) (ds : List D)
  | ins (C : Addr) (ns : List Str) (ds : List D)

/-- read as it stands, or frozen -/
theorem rdS {G G' : Hp} {a : Addr} {u : HO} (k : Same G G') (r : Rd G a u) : Rd G' a u := by
  rcases r with r | ⟨o, r⟩
  · exact .inl (k _ _ r)
  · exact .inr ⟨o, k _ _ r⟩
mutual
inductive At (G : Hp) : V → D → Prop
  | non : At G .non .non
  | bl (b : Bool) : At G (.bl b) (.bl b)
  | int (i : Int) : At G (.int i) (.int i)
  | str (x : Str) : At G (.str x) (.str x)
  | ty (T : String) : At G (.ty T) (.ty T)
  | lst {a : Addr} {xs : List V} {ds : List D} : G a = some (.lst xs) → AtAll G xs ds → At G (.ref a) (.lst ds)
  | tup {a : Addr} {xs : List V} {ds : List D} : Rd G a (.tup xs) → AtAll G xs ds → At G (.ref a) (.tup ds)
  | dic {a : Addr} {kvs : List (Key × V)} {ds : List D} : G a = some (.dK kvs) → AtAll G (kvs.map (·.2)) ds →
      At G (.ref a) (.dic (kvs.map (·.1)) ds)
  | ins {a C dx : Addr} {fs : List (Str × V)} {ds : List D} : G a = some (.ins C dx fs) → AtAll G (fs.map (·.2)) ds →
      At G (.ref a) (.ins C (fs.map (·.1)) ds)
inductive AtAll (G : Hp) : List V → List D → Prop
  | nil : AtAll G [] []
  | cons {v : V} {vs : List V} {d : D} {ds : List D} : At G v d → AtAll G vs ds → AtAll G (v :: vs) (d :: ds)
end
mutual
theorem At.same {G G' : Hp} (k : Same G G') : ∀ {v : V} {d : D}, At G v d → At G' v d
  | _, _, .non => .non
  | _, _, .bl b => .bl b
  | _, _, .int i => .int i
  | _, _, .str x => .str x
  | _, _, .ty x => .ty x
  | _, _, .lst h t => .lst (k _ _ h) (AtAll.same k t)
  | _, _, .tup h t => .tup (rdS k h) (AtAll.same k t)
  | _, _, .dic h t => .dic (k _ _ h) (AtAll.same k t)
  | _, _, .ins h t => .ins (k _ _ h) (AtAll.same k t)
theorem AtAll.same {G G' : Hp} (k : Same G G') : ∀ {vs : List V} {ds : List D}, AtAll G vs ds → AtAll G' vs ds
  | _, _, .nil => .nil
  | _, _, .cons a b => .cons (At.same k a) (AtAll.same k b)
end
theorem AtAll.length {G : Hp} : ∀ {vs : List V} {ds : List D}, AtAll G vs ds → vs.length = ds.length
  | _, _, .nil => rfl
  | _, _, .cons _ t => congrArg Nat.succ (AtAll.length t)
theorem AtAll.get {G : Hp} : ∀ {vs : List V} {ds : List D}, AtAll G vs ds → ∀ {i : Nat} {d : D}, ds[i]? = some d → ∃ v, vs[i]? = some v ∧ At G v d
  | _, _, .nil, i, d, h => by simp at h
  | _, _, .cons (v := v) a t, 0, d, h => by
    simp at h
    subst h
    exact ⟨v, rfl, a⟩
  | _, _, .cons a t, i + 1, d, h => by
    simpa using AtAll.get t (i := i) (d := d) (by simpa using h)
theorem AtAll.getV {G : Hp} {vs : List V} {ds : List D} (h : AtAll G vs ds) {i : Nat} {v : V} (e : vs[i]? = some v) : ∃ d, ds[i]? = some d ∧ At G v d := by
  have lt : i < ds.length := by
    rw [← h.length]
    exact (List.getElem?_eq_some_iff.mp e).1
  obtain ⟨w, e2, a⟩ := h.get (List.getElem?_eq_getElem lt)
  rw [e] at e2
  cases e2
  exact ⟨_, List.getElem?_eq_getElem lt, a⟩
theorem AtAll.app {G : Hp} : ∀ {vs ws : List V} {ds es : List D}, AtAll G vs ds → AtAll G ws es → AtAll G (vs ++ ws) (ds ++ es)
  | _, _, _, _, .nil, t => t
  | _, _, _, _, .cons a b, t => .cons a (AtAll.app b t)
theorem AtAll.take {G : Hp} : ∀ {vs : List V} {ds : List D} (n : Nat), AtAll G vs ds → AtAll G (vs.take n) (ds.take n)
  | _, _, 0, _ => by simp; exact .nil
  | _, _, n + 1, .nil => .nil
  | _, _, n + 1, .cons a b => .cons a (AtAll.take n b)
theorem AtAll.drop {G : Hp} : ∀ {vs : List V} {ds : List D} (n : Nat), AtAll G vs ds → AtAll G (vs.drop n) (ds.drop n)
  | _, _, 0, h => h
  | _, _, n + 1, .nil => .nil
  | _, _, n + 1, .cons a b => AtAll.drop n b
theorem atAll_ints {G : Hp} : ∀ {vs : List V} {zs : List Int}, AtAll G vs (zs.map D.int) → vs = zs.map V.int
  | _, [], .nil => rfl
  | _, z :: zs, .cons (.int _) t => by rw [List.map_cons, atAll_ints t]
theorem ints_atAll {G : Hp} : ∀ (zs : List Int), AtAll G (zs.map V.int) (zs.map D.int)
  | [] => .nil
  | z :: zs => .cons (.int z) (ints_atAll zs)
theorem bls_atAll {G : Hp} : ∀ {vs : List V} {zs : List Bool}, AtAll G vs (zs.map D.bl) → vs = zs.map V.bl
  | _, [], .nil => rfl
  | _, z :: zs, .cons (.bl _) t => by rw [List.map_cons, bls_atAll t]
theorem strs_atAll {G : Hp} : ∀ {vs : List V} {zs : List Str}, AtAll G vs (zs.map D.str) → vs = zs.map V.str
  | _, [], .nil => rfl
  | _, z :: zs, .cons (.str _) t => by rw [List.map_cons, strs_atAll t]

/-! ### steps -/
/-- G, H to G', H': what was told stays; of what stood only S may change; nothing that stood untold is told -/
structure Stp (S : Addr → Prop) (G H G' H' : Hp) : Prop where
  gs : Same G G'
  hs : ∀ b u, H b = some u → ¬ S b → H' b = some u
  al : ∀ b, H b ≠ none → H' b ≠ none
  gn : ∀ b, G b = none → H b ≠ none → G' b = none
theorem Stp.refl {S : Addr → Prop} {G H : Hp} : Stp S G H G H := ⟨.refl _, fun _ _ h _ => h, fun _ h => h, fun _ h _ => h⟩
theorem Stp.trans {S : Addr → Prop} {G H G1 H1 G2 H2 : Hp} (a : Stp S G H G1 H1) (b : Stp S G1 H1 G2 H2) : Stp S G H G2 H2 :=
  ⟨a.gs.trans b.gs, fun x u e n => b.hs x u (a.hs x u e n) n, fun x e => b.al x (a.al x e), fun x e h => b.gn x (a.gn x e h) (a.al x h)⟩
theorem Stp.mono {S S' : Addr → Prop} {G H G' H' : Hp} (h : ∀ a, S a → S' a) (a : Stp S G H G' H') : Stp S' G H G' H' :=
  ⟨a.gs, fun x u e n => a.hs x u e fun z => n (h x z), a.al, a.gn⟩
abbrev S0 : Addr → Prop := fun _ => False
theorem Stp.zero {S : Addr → Prop} {G H G' H' : Hp} (a : Stp S0 G H G' H') : Stp S G H G' H' := a.mono fun _ z => z.elim
theorem Stp.new {S : Addr → Prop} {G H : Hp} {p : Addr} {o : HO} (sm : Same G H) (n : H p = none) : Stp S G H (upd G p o) (upd H p o) :=
  ⟨same_upd (sm.free n), fun b u e _ => by rw [upd_ne (ne_of_none e n)]; exact e, fun b e => by
    by_cases z : b = p
    · rw [z, upd_same]; exact fun q => nomatch q
    · rw [upd_ne z]; exact e, fun b e h => by
    rw [upd_ne (fun z => h (by rw [z]; exact n))]; exact e⟩
/-- something stands that is not told -/
theorem Stp.grow {S : Addr → Prop} {G H H' : Hp} (s : Same H H') : Stp S G H G H' :=
  ⟨.refl _, fun b u e _ => s b u e, fun b e z => e (s.free z), fun b e _ => e⟩
theorem Stp.same {G H G' H' : Hp} (a : Stp S0 G H G' H') : Same H H' := fun b u e => a.hs b u e fun z => z
theorem upd_same2 {G H : Hp} {p : Addr} {o : HO} (s : Same G H) : Same (upd G p o) (upd H p o) := fun b u e => by
  by_cases z : b = p
  · subst z
    rw [upd_same] at e ⊢
    exact e
  · rw [upd_ne z] at e ⊢
    exact s b u e

/-- as Stp; but only of what stood at the entry (O) -/
structure StB (O S : Addr → Prop) (G H G' H' : Hp) : Prop where
  gs : Same G G'
  hs : ∀ b u, O b → H b = some u → ¬ S b → H' b = some u
  al : ∀ b, H b ≠ none → H' b ≠ none
  gn : ∀ b, O b → G b = none → G' b = none
theorem StB.refl {O S : Addr → Prop} {G H : Hp} : StB O S G H G H := ⟨.refl _, fun _ _ _ h _ => h, fun _ h => h, fun _ _ h => h⟩
theorem StB.trans {O S : Addr → Prop} {G H G1 H1 G2 H2 : Hp} (a : StB O S G H G1 H1) (b : StB O S G1 H1 G2 H2) : StB O S G H G2 H2 :=
  ⟨a.gs.trans b.gs, fun x u o e n => b.hs x u o (a.hs x u o e n) n, fun x e => b.al x (a.al x e), fun x o e => b.gn x o (a.gn x o e)⟩
theorem Stp.toB {O S : Addr → Prop} {G H G' H' : Hp} (a : Stp S G H G' H') (o : ∀ b, O b → H b ≠ none) : StB O S G H G' H' :=
  ⟨a.gs, fun b u _ => a.hs b u, a.al, fun b q e => a.gn b e (o b q)⟩
theorem StB.full {S : Addr → Prop} {G H G' H' : Hp} (a : StB (fun b => H b ≠ none) S G H G' H') : Stp S G H G' H' :=
  ⟨a.gs, fun b u e => a.hs b u (by rw [e]; exact fun z => nomatch z) e, a.al, fun b e q => a.gn b q e⟩
theorem StB.old {O S : Addr → Prop} {G H G' H' : Hp} (a : StB O S G H G' H') (o : ∀ b, O b → H b ≠ none) : ∀ b, O b → H' b ≠ none := fun b q => a.al b (o b q)

/-- what stood at the entry, the generator's states -/
structure Tr where
  O : Addr → Prop
  S : Addr → Prop
  F : Addr → HO → Prop := fun _ _ => False
/-! ### slots -/
inductive Sl where
  | no
  | fx (v : V)
  | da (d : D)
  | st (a : Addr)
  | ow (a : Addr) (ds : List D)
  | od (a : Addr) (ks : List Int)
  | fz (a : Addr) (ds : List D)
/-- a dict of such keys, each with True -/
def dTrue (ks : List Int) : HO := .dK (ks.map fun k => (Sum.inl k, V.bl true))
def SlR (T : Tr) (G H : Hp) : Sl → Option V → Prop
  | .no, _ => True
  | .fx v, o => o = some v
  | .da d, o => ∃ v, o = some v ∧ At G v d
  | .st a, o => o = some (.ref a) ∧ T.S a
  | .ow a ds, o => o = some (.ref a) ∧ (¬ T.S a ∧ ¬ T.O a) ∧ G a = none ∧ ∃ xs, H a = some (.lst xs) ∧ AtAll G xs ds
  | .od a ks, o => o = some (.ref a) ∧ (¬ T.S a ∧ ¬ T.O a) ∧ G a = none ∧ H a = some (dTrue ks)
  | .fz a ds, o => o = some (.ref a) ∧ ∃ ob xs, G a = some (.frz ob (.tup xs)) ∧ ob.dict = none ∧ AtAll G xs ds
/-- the generator's states -/
def StO (S : Addr → Prop) (G H : Hp) : Prop := ∀ a, S a → G a = none ∧ ∃ x y z : Int, H a = some (.lst [.int x, .int y, .int z])
theorem StO.step {S S' : Addr → Prop} {G H G' H' : Hp} (en : StO S G H) (st : Stp S' G H G' H') (so : StO S' G' H') : StO S G' H' := fun a h => by
  obtain ⟨g, x, y, z, e⟩ := en a h
  by_cases q : S' a
  · exact so a q
  · exact ⟨st.gn a g (by rw [e]; exact fun z => nomatch z), x, y, z, st.hs a _ e q⟩
theorem sto0 {G H : Hp} : StO S0 G H := fun _ z => z.elim
structure Ens (T : Tr) (G H : Hp) (δ : List Sl) (σ : L2.St) : Prop where
  same : Same G H
  len : δ.length = σ.length
  get : ∀ (i : Nat) (s : Sl), δ[i]? = some s → ∃ o, σ[i]? = some o ∧ SlR T G H s o
  stt : StO T.S G H
  old : ∀ b, T.O b → H b ≠ none
  inv : ∀ b u, T.F b u → H b = some u ∧ ¬ T.S b ∧ T.O b
  nd : ∀ (i j : Nat) (a : Addr) (ds es : List D), δ[i]? = some (.ow a ds) → δ[j]? = some (.ow a es) → i = j
  nd2 : ∀ (i j : Nat) (a : Addr) (ds es : List Int), δ[i]? = some (.od a ds) → δ[j]? = some (.od a es) → i = j
theorem Ens.step {T : Tr} {S' : Addr → Prop} {G H G' H' : Hp} {δ : List Sl} {σ : L2.St} (en : Ens T G H δ σ) (st : Stp S' G H G' H') (hS : ∀ a, S' a → T.S a)
    (sm : Same G' H') (so : StO S' G' H') : Ens T G' H' δ σ := by
  refine ⟨sm, en.len, fun i s e => ?_, en.stt.step st so, fun b q => st.al b (en.old b q), fun b u q => ⟨st.hs b u (en.inv b u q).1 fun z => (en.inv b u q).2.1 (hS b z), (en.inv b u q).2⟩, en.nd, en.nd2⟩
  obtain ⟨o, e1, r⟩ := en.get i s e
  refine ⟨o, e1, ?_⟩
  cases s with
  | no => trivial
  | fx v => exact r
  | da d =>
    obtain ⟨v, e2, a⟩ := r
    exact ⟨v, e2, a.same st.gs⟩
  | fz a ds =>
    obtain ⟨r1, ob, xs, r2, r3, r4⟩ := r
    exact ⟨r1, ob, xs, st.gs _ _ r2, r3, r4.same st.gs⟩
  | st a => exact r
  | ow a ds =>
    obtain ⟨r1, r2, r3, xs, r4, r5⟩ := r
    refine ⟨r1, r2, st.gn a r3 (by rw [r4]; exact fun z => nomatch z), xs, st.hs a _ r4 (fun z => r2.1 (hS a z)), r5.same st.gs⟩
  | od a ks =>
    obtain ⟨r1, r2, r3, r4⟩ := r
    exact ⟨r1, r2, st.gn a r3 (by rw [r4]; exact fun z => nomatch z), st.hs a _ r4 (fun z => r2.1 (hS a z))⟩
theorem Ens.step0 {T : Tr} {G H G' H' : Hp} {δ : List Sl} {σ : L2.St} (en : Ens T G H δ σ) (st : Stp S0 G H G' H') (sm : Same G' H') : Ens T G' H' δ σ :=
  en.step st (fun _ z => z.elim) sm sto0
theorem get_set {α : Type} {l : List α} {i j : Nat} {x y : α} (h : (l.set i x)[j]? = some y) : (j = i ∧ y = x) ∨ (j ≠ i ∧ l[j]? = some y) := by
  by_cases e : j = i
  · subst e
    by_cases lt : j < l.length
    · rw [List.getElem?_set_self lt] at h
      exact .inl ⟨rfl, (Option.some.inj h).symm⟩
    · rw [List.getElem?_eq_none (by rw [List.length_set]; omega)] at h
      exact nomatch h
  · rw [List.getElem?_set_ne (fun z => e z.symm)] at h
    exact .inr ⟨e, h⟩
theorem Ens.setD {T : Tr} {G H : Hp} {δ : List Sl} {σ : L2.St} (en : Ens T G H δ σ) {i : Nat} {v : V} {d : D} (a : At G v d) : Ens T G H (δ.set i (.da d)) (σ.set i (some v)) := by
  refine ⟨en.same, by rw [List.length_set, List.length_set]; exact en.len, fun j s e => ?_, en.stt, en.old, en.inv, fun j k a ds es e1 e2 => ?_, fun j k a ds es e1 e2 => ?_⟩
  · rcases get_set e with ⟨rfl, rfl⟩ | ⟨ne, e⟩
    · have lt : j < σ.length := by
        rw [← en.len]
        have := (List.getElem?_eq_some_iff.mp e).1
        rw [List.length_set] at this
        exact this
      exact ⟨some v, List.getElem?_set_self lt, v, rfl, a⟩
    · obtain ⟨o, e1, r⟩ := en.get j s e
      exact ⟨o, by rw [List.getElem?_set_ne (fun z => ne z.symm)]; exact e1, r⟩
  · rcases get_set e1 with ⟨_, z⟩ | ⟨_, e1⟩
    · exact nomatch z
    · rcases get_set e2 with ⟨_, z⟩ | ⟨_, e2⟩
      · exact nomatch z
      · exact en.nd j k a ds es e1 e2
  · rcases get_set e1 with ⟨_, z⟩ | ⟨_, m1⟩
    · exact nomatch z
    · rcases get_set e2 with ⟨_, z⟩ | ⟨_, m2⟩
      · exact nomatch z
      · exact en.nd2 j k a ds es m1 m2
theorem Ens.forget {T : Tr} {G H : Hp} {δ : List Sl} {σ : L2.St} (en : Ens T G H δ σ) {i : Nat} {o : Option V} : Ens T G H (δ.set i .no) (σ.set i o) := by
  refine ⟨en.same, by rw [List.length_set, List.length_set]; exact en.len, fun j s e => ?_, en.stt, en.old, en.inv, fun j k a ds es e1 e2 => ?_, fun j k a ds es e1 e2 => ?_⟩
  · rcases get_set e with ⟨rfl, rfl⟩ | ⟨ne, e⟩
    · have lt : j < σ.length := by
        rw [← en.len]
        have := (List.getElem?_eq_some_iff.mp e).1
        rw [List.length_set] at this
        exact this
      exact ⟨o, List.getElem?_set_self lt, trivial⟩
    · obtain ⟨o, e1, r⟩ := en.get j s e
      exact ⟨o, by rw [List.getElem?_set_ne (fun z => ne z.symm)]; exact e1, r⟩
  · rcases get_set e1 with ⟨_, z⟩ | ⟨_, e1⟩
    · exact nomatch z
    · rcases get_set e2 with ⟨_, z⟩ | ⟨_, e2⟩
      · exact nomatch z
      · exact en.nd j k a ds es e1 e2
  · rcases get_set e1 with ⟨_, z⟩ | ⟨_, m1⟩
    · exact nomatch z
    · rcases get_set e2 with ⟨_, z⟩ | ⟨_, m2⟩
      · exact nomatch z
      · exact en.nd2 j k a ds es m1 m2
/-- a list that a slot owns is told from now on -/
theorem Ens.freeze {T : Tr} {G H : Hp} {δ : List Sl} {σ : L2.St} (en : Ens T G H δ σ) {i : Nat} {a : Addr} {ds : List D} (e : δ[i]? = some (.ow a ds)) :
    ∃ G', Same G G' ∧ (∀ b, b ≠ a → G' b = G b) ∧ Ens T G' H (δ.set i (.da (.lst ds))) σ := by
  obtain ⟨o, e1, rfl, nS, gn, xs, hx, al⟩ := en.get i _ e
  have k : Same G (upd G a (.lst xs)) := same_upd gn
  refine ⟨upd G a (.lst xs), k, fun b nb => upd_ne nb, fun b u z => ?_, by rw [List.length_set]; exact en.len, fun j s z => ?_, fun b hb => ?_, en.old, en.inv, fun j l b es fs z1 z2 => ?_, fun j l b es fs z1 z2 => ?_⟩
  · by_cases q : b = a
    · subst q
      rw [upd_same] at z
      rw [← z]
      exact hx
    · rw [upd_ne q] at z
      exact en.same b u z
  · rcases get_set z with ⟨rfl, rfl⟩ | ⟨ne, z⟩
    · exact ⟨_, e1, _, rfl, .lst upd_same (al.same k)⟩
    · obtain ⟨o, e2, r⟩ := en.get j s z
      refine ⟨o, e2, ?_⟩
      cases s with
      | no => trivial
      | fx v => exact r
      | da d =>
        obtain ⟨v, q1, q2⟩ := r
        exact ⟨v, q1, q2.same k⟩
      | fz b es =>
        obtain ⟨r1, ob, ys, r2, r3, r4⟩ := r
        exact ⟨r1, ob, ys, k _ _ r2, r3, r4.same k⟩
      | st b => exact r
      | ow b es =>
        obtain ⟨r1, r2, r3, ys, r4, r5⟩ := r
        have nb : b ≠ a := fun q => ne (by subst q; exact en.nd j i b es ds z e)
        exact ⟨r1, r2, by rw [upd_ne nb]; exact r3, ys, r4, r5.same k⟩
      | od b ks =>
        obtain ⟨r1, r2, r3, r4⟩ := r
        have nb : b ≠ a := fun q => by rw [q, hx] at r4; exact nomatch r4
        exact ⟨r1, r2, by rw [upd_ne nb]; exact r3, r4⟩
  · obtain ⟨g, r⟩ := en.stt b hb
    exact ⟨by rw [upd_ne (fun q => nS.1 (by rw [← q]; exact hb))]; exact g, r⟩
  · rcases get_set z1 with ⟨_, q⟩ | ⟨_, m1⟩
    · exact nomatch q
    · rcases get_set z2 with ⟨_, q⟩ | ⟨_, m2⟩
      · exact nomatch q
      · exact en.nd j l b es fs m1 m2
  · rcases get_set z1 with ⟨_, q⟩ | ⟨_, m1⟩
    · exact nomatch q
    · rcases get_set z2 with ⟨_, q⟩ | ⟨_, m2⟩
      · exact nomatch q
      · exact en.nd2 j l b es fs m1 m2
end Nv
/-! Nv, part Q: what must hold of the data so that a reading ends as wished. -/
namespace Nv
open PySem PySem.Spec PyProof.Rows L2

/-- what is wished of an error (E), which errors may come with which what (X), the generator's states (S) -/
structure Rg where
  E : XK
  X : Addr → D → Prop
  T : Tr
def Rz (R : Rg) (G H : Hp) : Prop := ∀ C dd w d G' H', StB R.T.O R.T.S G H G' H' → H' dd = some (.xd (whatF w)) → At G' w d → R.X C d → Same G' H' → StO R.T.S G' H' → R.E (.ref C) (some dd) H'
theorem Rz.stepB {R : Rg} {G H G' H' : Hp} (r : Rz R G H) (s : StB R.T.O R.T.S G H G' H') : Rz R G' H' := fun C dd w d G2 H2 s2 => r C dd w d G2 H2 (s.trans s2)
theorem rz0 {T : Tr} {E : XK} {G H : Hp} : Rz ⟨E, fun _ _ => False, T⟩ G H := fun _ _ _ _ _ _ _ _ _ z _ _ => z.elim

def WpE (R : Rg) (te : TE) (δ : List Sl) (φ : D → Prop) : Prop := ∀ σ G H, Ens R.T G H δ σ → Rz R G H → ∀ Q : VK,
  (∀ v d G' H', Stp R.T.S G H G' H' → Ens R.T G' H' δ σ → At G' v d → φ d → Q v H') → te σ H Q
def WpT (R : Rg) (tt : TT) (δ : List Sl) (φ : Bool → Prop) : Prop := ∀ σ G H, Ens R.T G H δ σ → Rz R G H → ∀ Q : Bool → Hp → Prop,
  (∀ b G' H', Stp R.T.S G H G' H' → Ens R.T G' H' δ σ → φ b → Q b H') → tt σ H Q
def ArgR (S : Addr → Prop) (G : Hp) : Sl → V → Prop
  | .da d, v => At G v d
  | .st a, v => v = .ref a ∧ S a
  | _, _ => False
inductive Args (S : Addr → Prop) (G : Hp) : List Sl → List V → Prop
  | nil : Args S G [] []
  | cons {s : Sl} {v : V} {as : List Sl} {vs : List V} : ArgR S G s v → Args S G as vs → Args S G (s :: as) (v :: vs)
theorem ArgR.same {S : Addr → Prop} {G G' : Hp} (k : Same G G') : ∀ {s : Sl} {v : V}, ArgR S G s v → ArgR S G' s v
  | .da _, _, h => At.same k h
  | .st _, _, h => h
  | .no, _, h => h.elim
  | .fx _, _, h => h.elim
  | .ow _ _, _, h => h.elim
  | .od _ _, _, h => h.elim
theorem Args.same {S : Addr → Prop} {G G' : Hp} (k : Same G G') : ∀ {as : List Sl} {vs : List V}, Args S G as vs → Args S G' as vs
  | _, _, .nil => .nil
  | _, _, .cons a b => .cons (ArgR.same k a) (Args.same k b)
theorem Args.length {S : Addr → Prop} {G : Hp} : ∀ {as : List Sl} {vs : List V}, Args S G as vs → as.length = vs.length
  | _, _, .nil => rfl
  | _, _, .cons _ b => congrArg Nat.succ (Args.length b)
theorem Args.get {S : Addr → Prop} {G : Hp} : ∀ {as : List Sl} {vs : List V}, Args S G as vs → ∀ {i : Nat} {s : Sl}, as[i]? = some s → ∃ v, vs[i]? = some v ∧ ArgR S G s v
  | _, _, .nil, i, s, h => by simp at h
  | _, _, .cons (v := v) a b, 0, s, h => by
    simp at h
    subst h
    exact ⟨v, rfl, a⟩
  | _, _, .cons a b, i + 1, s, h => by simpa using Args.get b (i := i) (s := s) (by simpa using h)
theorem Args.das {S : Addr → Prop} {G : Hp} : ∀ {ds : List D} {vs : List V}, Args S G (ds.map Sl.da) vs → AtAll G vs ds
  | [], _, .nil => .nil
  | _ :: _, _, .cons a b => .cons a (Args.das b)
def WpA (R : Rg) (t : TA) (δ : List Sl) (φ : List Sl → Prop) : Prop := ∀ σ G H, Ens R.T G H δ σ → Rz R G H → ∀ Q : List V → Hp → Prop,
  (∀ vs as G' H', Stp R.T.S G H G' H' → Ens R.T G' H' δ σ → Args R.T.S G' as vs → φ as → Q vs H') → t σ H Q
def WpS (R : Rg) (ts : TS) (δ : List Sl) (Φ : List Sl → Prop) (Ψ : D → Prop) : Prop := ∀ σ G H, Ens R.T G H δ σ → Rz R G H → ∀ Z : Ends,
  (∀ δ' σ' G' H', StB R.T.O R.T.S G H G' H' → Ens R.T G' H' δ' σ' → Φ δ' → Z.nx σ' H') →
  (∀ v d G' H', StB R.T.O R.T.S G H G' H' → Same G' H' → StO R.T.S G' H' → At G' v d → Ψ d → Z.rt v H') → ts Z σ H
/-- an operation on values -/
def OpD (r : R2) (x y : D) (φ : D → Prop) : Prop := ∀ G H v w, Same G H → At G v x → At G w y → ∀ Q : VK,
  (∀ z d G' H', Stp S0 G H G' H' → Same G' H' → At G' z d → φ d → Q z H') → r v w H Q
def UnD (r : V → Hp → VK → Prop) (x : D) (φ : D → Prop) : Prop := ∀ G H v, Same G H → At G v x → ∀ Q : VK,
  (∀ z d G' H', Stp S0 G H G' H' → Same G' H' → At G' z d → φ d → Q z H') → r v H Q
def CbD (r : List V → Hp → VK → Prop) (xs : List D) (φ : D → Prop) : Prop := ∀ G H vs, Same G H → AtAll G vs xs → ∀ Q : VK,
  (∀ z d G' H', Stp S0 G H G' H' → Same G' H' → At G' z d → φ d → Q z H') → r vs H Q

section
variable {R : Rg} {δ : List Sl} {te ta tb tc : TE} {t u : TT} {tr : TA} {φ : D → Prop}
theorem wpe_mono {ψ : D → Prop} (h : WpE R te δ φ) (m : ∀ d, φ d → ψ d) : WpE R te δ ψ := fun σ G H en rz Q q => h σ G H en rz Q fun v d G' H' a b c e => q v d G' H' a b c (m d e)
theorem wpt_mono {φ ψ : Bool → Prop} (h : WpT R t δ φ) (m : ∀ d, φ d → ψ d) : WpT R t δ ψ := fun σ G H en rz Q q => h σ G H en rz Q fun b G' H' a c e => q b G' H' a c (m b e)
theorem wpe_var {i : Nat} {d : D} (e : δ[i]? = some (.da d)) (q : φ d) : WpE R (tVar i) δ φ := fun σ G H en rz Q k => by
  obtain ⟨o, e1, v, rfl, a⟩ := en.get i _ e
  exact ⟨v, e1, k v d G H .refl en a q⟩
theorem wpe_int {i : Int} (q : φ (.int i)) : WpE R (tC (.int i)) δ φ := fun σ G H en rz Q k => k _ _ G H .refl en (.int i) q
theorem wpe_bl {b : Bool} (q : φ (.bl b)) : WpE R (tC (.bl b)) δ φ := fun σ G H en rz Q k => k _ _ G H .refl en (.bl b) q
theorem wpe_str {x : Str} (q : φ (.str x)) : WpE R (tC (.str x)) δ φ := fun σ G H en rz Q k => k _ _ G H .refl en (.str x) q
theorem wpe_non (q : φ .non) : WpE R (tC .non) δ φ := fun σ G H en rz Q k => k _ _ G H .refl en .non q
theorem wpe_op {r : R2} (h : WpE R ta δ fun x => WpE R tb δ fun y => OpD r x y φ) : WpE R (tOp r ta tb) δ φ := fun σ G H en rz Q k =>
  h σ G H en rz _ fun v x G1 H1 s1 e1 a1 h1 => h1 σ G1 H1 e1 (rz.stepB (s1.toB en.old)) _ fun w y G2 H2 s2 e2 a2 h2 =>
    h2 G2 H2 v w e2.same (a1.same s2.gs) a2 Q fun z d G3 H3 s3 sm a3 q => k z d G3 H3 ((s1.trans s2).trans s3.zero) (e2.step0 s3 sm) a3 q
theorem wpe_un {r : V → Hp → VK → Prop} (h : WpE R ta δ fun x => UnD r x φ) : WpE R (tUn r ta) δ φ := fun σ G H en rz Q k =>
  h σ G H en rz _ fun v x G1 H1 s1 e1 a1 h1 => h1 G1 H1 v e1.same a1 Q fun z d G3 H3 s3 sm a3 q => k z d G3 H3 (s1.trans s3.zero) (e1.step0 s3 sm) a3 q
theorem wpe_chain {r r' : R2} (h : WpE R ta δ fun x => WpE R tb δ fun y => OpD r x y fun z => ∃ k, z = .bl k ∧ (if k = true then WpE R tc δ fun w => OpD r' y w φ else φ (.bl false))) :
    WpE R (tChain r r' ta tb tc) δ φ := fun σ G H en rz Q k =>
  h σ G H en rz _ fun v x G1 H1 s1 e1 a1 h1 => h1 σ G1 H1 e1 (rz.stepB (s1.toB en.old)) _ fun w y G2 H2 s2 e2 a2 h2 =>
    h2 G2 H2 v w e2.same (a1.same s2.gs) a2 _ fun z d G3 H3 s3 sm a3 ⟨b, eb, q⟩ => by
      subst eb
      cases a3
      have e3 := e2.step0 s3 sm
      refine ⟨b, rfl, ?_⟩
      cases b with
      | false => exact iteF (k _ _ G3 H3 ((s1.trans s2).trans s3.zero) e3 (.bl false) q)
      | true =>
        refine iteT ?_
        exact q σ G3 H3 e3 (rz.stepB (((s1.trans s2).trans s3.zero).toB en.old)) _ fun w' d' G4 H4 s4 e4 a4 h4 =>
          h4 G4 H4 w w' e4.same ((a2.same s3.gs).same s4.gs) a4 Q fun z' d'' G5 H5 s5 sm5 a5 q5 =>
            k z' d'' G5 H5 ((((s1.trans s2).trans s3.zero).trans s4).trans s5.zero) (e4.step0 s5 sm5) a5 q5
theorem wpt_test {φ : Bool → Prop} (h : WpE R te δ fun d => ∃ b, d = .bl b ∧ φ b) : WpT R (tTest te) δ φ := fun σ G H en rz Q k =>
  h σ G H en rz _ fun v x G1 H1 s1 e1 a1 ⟨b, eb, q⟩ => by
    subst eb
    cases a1
    exact ⟨b, rfl, k b G1 H1 s1 e1 q⟩
theorem wpt_B {φ : Bool → Prop} (h : WpE R te δ fun d => ∃ b, d = .bl b ∧ φ b) : WpT R (tB te) δ φ := fun σ G H en rz Q k =>
  h σ G H en rz _ fun v x G1 H1 s1 e1 a1 ⟨b, eb, q⟩ => by
    subst eb
    cases a1
    exact ⟨b, rfl, k b G1 H1 s1 e1 q⟩
theorem wpt_not {φ : Bool → Prop} (h : WpT R t δ fun b => φ (!b)) : WpT R (tNot t) δ φ := fun σ G H en rz Q k =>
  h σ G H en rz _ fun b G1 H1 s1 e1 q => k (!b) G1 H1 s1 e1 q
theorem wpt_and {φ : Bool → Prop} (h : WpT R t δ fun b => if b = true then WpT R u δ φ else φ false) : WpT R (tAnd t u) δ φ := fun σ G H en rz Q k =>
  h σ G H en rz _ fun b G1 H1 s1 e1 q => by
    cases b with
    | false => exact iteF (k false G1 H1 s1 e1 q)
    | true => exact iteT (q σ G1 H1 e1 (rz.stepB (s1.toB en.old)) Q fun b G2 H2 s2 e2 q2 => k b G2 H2 (s1.trans s2) e2 q2)
theorem wpt_or {φ : Bool → Prop} (h : WpT R t δ fun b => if b = true then φ true else WpT R u δ φ) : WpT R (tOr t u) δ φ := fun σ G H en rz Q k =>
  h σ G H en rz _ fun b G1 H1 s1 e1 q => by
    cases b with
    | true => exact iteT (k true G1 H1 s1 e1 q)
    | false => exact iteF (WpT.elim_ q σ G1 H1 e1 (rz.stepB (s1.toB en.old)) Q fun b G2 H2 s2 e2 q2 => k b G2 H2 (s1.trans s2) e2 q2)
where WpT.elim_ {φ : Bool → Prop} (h : WpT R u δ φ) := h
theorem wpe_andV (h : WpE R ta δ fun x => ∃ b, x = .bl b ∧ (if b = true then WpE R tb δ φ else φ (.bl false))) : WpE R (tAndV ta tb) δ φ := fun σ G H en rz Q k =>
  h σ G H en rz _ fun v x G1 H1 s1 e1 a1 ⟨b, eb, q⟩ => by
    subst eb
    cases a1
    refine ⟨b, rfl, ?_⟩
    cases b with
    | false => exact iteF (k _ _ G1 H1 s1 e1 (.bl false) q)
    | true =>
      have q' : WpE R tb δ φ := q
      exact iteT (q' σ G1 H1 e1 (rz.stepB (s1.toB en.old)) Q fun w d G2 H2 s2 e2 a2 q2 => k w d G2 H2 (s1.trans s2) e2 a2 q2)
theorem wpe_orV (h : WpE R ta δ fun x => ∃ b, x = .bl b ∧ (if b = true then φ (.bl true) else WpE R tb δ φ)) : WpE R (tOrV ta tb) δ φ := fun σ G H en rz Q k =>
  h σ G H en rz _ fun v x G1 H1 s1 e1 a1 ⟨b, eb, q⟩ => by
    subst eb
    cases a1
    refine ⟨b, rfl, ?_⟩
    cases b with
    | true => exact iteT (k _ _ G1 H1 s1 e1 (.bl true) q)
    | false =>
      have q' : WpE R tb δ φ := q
      exact iteF (q' σ G1 H1 e1 (rz.stepB (s1.toB en.old)) Q fun w d G2 H2 s2 e2 a2 q2 => k w d G2 H2 (s1.trans s2) e2 a2 q2)
theorem wpe_notV (h : WpE R ta δ fun x => ∃ b, x = .bl b ∧ φ (.bl (!b))) : WpE R (tNotV ta) δ φ := fun σ G H en rz Q k =>
  h σ G H en rz _ fun v x G1 H1 s1 e1 a1 ⟨b, eb, q⟩ => by
    subst eb
    cases a1
    exact ⟨b, rfl, k _ _ G1 H1 s1 e1 (.bl _) q⟩
theorem wpe_if (h : WpT R t δ fun b => if b = true then WpE R ta δ φ else WpE R tb δ φ) : WpE R (tIf t ta tb) δ φ := fun σ G H en rz Q k =>
  h σ G H en rz _ fun b G1 H1 s1 e1 q => by
    cases b with
    | true =>
      have q' : WpE R ta δ φ := q
      exact iteT (q' σ G1 H1 e1 (rz.stepB (s1.toB en.old)) Q fun w d G2 H2 s2 e2 a2 q2 => k w d G2 H2 (s1.trans s2) e2 a2 q2)
    | false =>
      have q' : WpE R tb δ φ := q
      exact iteF (q' σ G1 H1 e1 (rz.stepB (s1.toB en.old)) Q fun w d G2 H2 s2 e2 a2 q2 => k w d G2 H2 (s1.trans s2) e2 a2 q2)
/-! arguments -/
theorem wpa_nil {φ : List Sl → Prop} (q : φ []) : WpA R tNil δ φ := fun σ G H en rz Q k => k [] [] G H .refl en .nil q
theorem wpa_cons {φ : List Sl → Prop} (h : WpE R te δ fun d => WpA R tr δ fun as => φ (.da d :: as)) : WpA R (tCons te tr) δ φ := fun σ G H en rz Q k =>
  h σ G H en rz _ fun v x G1 H1 s1 e1 a1 h1 => h1 σ G1 H1 e1 (rz.stepB (s1.toB en.old)) _ fun vs as G2 H2 s2 e2 a2 q =>
    k (v :: vs) (.da x :: as) G2 H2 (s1.trans s2) e2 (.cons (At.same s2.gs a1) a2) q
theorem wpa_st {φ : List Sl → Prop} {i : Nat} {a : Addr} (e : δ[i]? = some (.st a)) (h : WpA R tr δ fun as => φ (.st a :: as)) : WpA R (tCons (tVar i) tr) δ φ := fun σ G H en rz Q k => by
  obtain ⟨o, e1, rfl, hS⟩ := en.get i _ e
  exact ⟨_, e1, h σ G H en rz _ fun vs as G2 H2 s2 e2 a2 q => k (.ref a :: vs) (.st a :: as) G2 H2 s2 e2 (.cons ⟨rfl, hS⟩ a2) q⟩
theorem wpe_tup (h : WpA R tr δ fun as => ∃ ds : List D, as = ds.map Sl.da ∧ ds.length ≤ 1000 ∧ φ (.tup ds)) : WpE R (tTup tr) δ φ := fun σ G H en rz Q k =>
  h σ G H en rz _ fun vs as G1 H1 s1 e1 a1 ⟨ds, e, l, q⟩ => by
    subst e
    have al := a1.das
    refine ⟨by rw [al.length]; exact Nat.le_trans l (by decide), fun p hp => ?_⟩
    have s2 : Stp S0 G1 H1 (upd G1 p (.tup vs)) (upd H1 p (.tup vs)) := .new e1.same hp
    exact k _ _ _ _ (s1.trans s2.zero) (e1.step0 s2 (upd_same2 e1.same)) (.tup (.inl upd_same) (al.same s2.gs)) q
theorem wpe_lst (h : WpA R tr δ fun as => ∃ ds : List D, as = ds.map Sl.da ∧ ds.length ≤ 1000 ∧ φ (.lst ds)) : WpE R (tLst tr) δ φ := fun σ G H en rz Q k =>
  h σ G H en rz _ fun vs as G1 H1 s1 e1 a1 ⟨ds, e, l, q⟩ => by
    subst e
    have al := a1.das
    refine ⟨by rw [al.length]; exact Nat.le_trans l (by decide), fun p hp => ?_⟩
    have s2 : Stp S0 G1 H1 (upd G1 p (.lst vs)) (upd H1 p (.lst vs)) := .new e1.same hp
    exact k _ _ _ _ (s1.trans s2.zero) (e1.step0 s2 (upd_same2 e1.same)) (.lst upd_same (al.same s2.gs)) q
/-- a built-in function -/
theorem wpe_cb {r : List V → Hp → VK → Prop} (h : WpA R tr δ fun as => ∃ ds : List D, as = ds.map Sl.da ∧ CbD r ds φ) : WpE R (tCB r tr) δ φ := fun σ G H en rz Q k =>
  h σ G H en rz _ fun vs as G1 H1 s1 e1 a1 ⟨ds, e, q⟩ => by
    subst e
    exact q G1 H1 vs e1.same a1.das Q fun z d G3 H3 s3 sm a3 q => k z d G3 H3 (s1.trans s3.zero) (e1.step0 s3 sm) a3 q
end

/-! ### statements -/
section
variable {R : Rg} {δ : List Sl} {te : TE} {tt : TT} {t u : TS} {Φ : List Sl → Prop} {Ψ : D → Prop}
theorem wps_mono {Φ' : List Sl → Prop} {Ψ' : D → Prop} (h : WpS R t δ Φ Ψ) (m1 : ∀ d, Φ d → Φ' d) (m2 : ∀ d, Ψ d → Ψ' d) : WpS R t δ Φ' Ψ' := fun σ G H en rz Z k1 k2 =>
  h σ G H en rz Z (fun δ' σ' G' H' a b c => k1 δ' σ' G' H' a b (m1 _ c)) fun v d G' H' a b c e f => k2 v d G' H' a b c e (m2 _ f)
theorem wps_nil (q : Φ δ) : WpS R tNext δ Φ Ψ := fun σ G H en rz Z k1 k2 => k1 δ σ G H .refl en q
theorem wps_seq (h : WpS R t δ (fun δ' => WpS R u δ' Φ Ψ) Ψ) : WpS R (tSeq t u) δ Φ Ψ := fun σ G H en rz Z k1 k2 =>
  h σ G H en rz _ (fun δ' σ' G' H' sB e1 q => q σ' G' H' e1 (rz.stepB sB) Z (fun δ2 σ2 G2 H2 s2 e2 q2 => k1 δ2 σ2 G2 H2 (sB.trans s2) e2 q2)
    fun v d G2 H2 s2 sm so a q2 => k2 v d G2 H2 (sB.trans s2) sm so a q2) k2
theorem wps_ret (h : WpE R te δ Ψ) : WpS R (tRet te) δ Φ Ψ := fun σ G H en rz Z k1 k2 =>
  h σ G H en rz _ fun v d G1 H1 s1 e1 a q => k2 v d G1 H1 (s1.toB en.old) e1.same e1.stt a q
theorem wps_retN (q : Ψ .non) : WpS R tRetN δ Φ Ψ := fun σ G H en rz Z k1 k2 => k2 _ _ G H .refl en.same en.stt .non q
theorem wps_if (h : WpT R tt δ fun b => if b = true then WpS R t δ Φ Ψ else WpS R u δ Φ Ψ) : WpS R (tIfS tt t u) δ Φ Ψ := fun σ G H en rz Z k1 k2 =>
  h σ G H en rz _ fun b G1 H1 s1 e1 q => by
    have sB := s1.toB en.old
    cases b with
    | true =>
      have q' : WpS R t δ Φ Ψ := q
      exact iteT (q' σ G1 H1 e1 (rz.stepB (s1.toB en.old)) Z (fun δ2 σ2 G2 H2 s2 e2 q2 => k1 δ2 σ2 G2 H2 (sB.trans s2) e2 q2) fun v d G2 H2 s2 sm so a q2 => k2 v d G2 H2 (sB.trans s2) sm so a q2)
    | false =>
      have q' : WpS R u δ Φ Ψ := q
      exact iteF (q' σ G1 H1 e1 (rz.stepB (s1.toB en.old)) Z (fun δ2 σ2 G2 H2 s2 e2 q2 => k1 δ2 σ2 G2 H2 (sB.trans s2) e2 q2) fun v d G2 H2 s2 sm so a q2 => k2 v d G2 H2 (sB.trans s2) sm so a q2)
theorem wps_set {i : Nat} (h : WpE R te δ fun d => Φ (δ.set i (.da d))) : WpS R (tAsg te (gName i)) δ Φ Ψ := fun σ G H en rz Z k1 k2 =>
  h σ G H en rz _ fun v d G1 H1 s1 e1 a q => k1 _ _ G1 H1 (s1.toB en.old) (e1.setD a) q
theorem wps_drop (h : WpE R te δ fun _ => Φ δ) : WpS R (tDrop te) δ Φ Ψ := fun σ G H en rz Z k1 k2 =>
  h σ G H en rz _ fun v d G1 H1 s1 e1 a q => k1 _ _ G1 H1 (s1.toB en.old) e1 q
/-- from here on the list that the slot owns is told -/
theorem wps_freeze {i : Nat} {a : Addr} {ds : List D} (e : δ[i]? = some (.ow a ds)) (h : WpS R t (δ.set i (.da (.lst ds))) Φ Ψ) : WpS R t δ Φ Ψ := fun σ G H en rz Z k1 k2 => by
  obtain ⟨G', sm, oth, en'⟩ := en.freeze e
  obtain ⟨o, e1, rfl, nS, gn, xs, hx, al⟩ := en.get i _ e
  have sB : StB R.T.O R.T.S G H G' H := ⟨sm, fun b u _ z _ => z, fun b z => z, fun b q z => by rw [oth b (fun w => nS.2 (by rw [← w]; exact q))]; exact z⟩
  exact h σ G' H en' (rz.stepB sB) Z (fun δ' σ' G2 H2 s2 e2 q => k1 δ' σ' G2 H2 (sB.trans s2) e2 q) fun v d G2 H2 s2 a b c q => k2 v d G2 H2 (sB.trans s2) a b c q
end
end Nv
/-! Nv, part T: enumerate of a tuple. -/
namespace Nv
open PySem PySem.Spec PyProof.Rows L2
theorem meets_enumT (l : Addr) (items : Array Value) (n : Nat) (dct : Option Addr) (sl : Array (Option Value)) :
    Meets (Builtin.«enumerate.__new__» ⟨[.type "enumerate", .ref l], []⟩) (fun _ R s => s.heap.get? l = some { cls := .type "tuple", dict := dct, data := .seq items n, slots := sl } ∧
      R (.ok (.ret (.ref (s.heap.push { cls := .type "tuple_iterator", data := .fields #[.ref l, .int 0 0] }).objs.size)))
        { s with heap := (s.heap.push { cls := .type "tuple_iterator", data := .fields #[.ref l, .int 0 0] }).push { cls := .type "enumerate", data := .fields #[.none, .bool false, .ref s.heap.objs.size, rawInt 0, .none, .none] } }) :=
  .of_wp fun prog w A R s h => by
    obtain ⟨hp, g, d, tk, os⟩ := s
    obtain ⟨hl, h⟩ := h
    have hsub := sub_enumerate
    have tT : Heap.IsTuple (Shared.heap ⟨hp, g, d, tk, os⟩) l items := ⟨_, hl, rfl, n, rfl⟩
    wp_walk using AutoSeq1.wpAny_loadPart' hl
    refine wpAny_stack_any fun _ => wpAny_pure ?_
    split
    · rename_i c _ _ _ _ _
      cases (c == Value.type "enumerate")
      · wp_walk using AutoSeq1.wpAny_loadPart' hl, wpAny_pyIter_tuple tT
        exact ⟨_, rfl, h⟩
      · wp_walk using AutoSeq1.wpAny_loadPart' hl, wpAny_pyIter_tuple tT
        exact ⟨_, rfl, h⟩
    · wp_walk using AutoSeq1.wpAny_loadPart' hl, wpAny_pyIter_tuple tT
      exact ⟨_, rfl, h⟩
section
variable {prog : Program} {w : World} {A : Around} {E : Value → Shared → Prop} {s : Shared}
theorem call_enumT {l : Addr} {items : Array Value} {Q : Value → Shared → Prop} (hL : s.heap.IsTuple l items)
    (h : ∀ h', IsEnum h' (s.heap.objs.size + 1) s.heap.objs.size 0 .none → h'.IsTupleIter s.heap.objs.size l 0 → h'.objs.size = s.heap.objs.size + 2 → (∀ b o, s.heap.get? b = some o → h'.get? b = some o) →
      Q (.ref (s.heap.objs.size + 1)) { s with heap := h' }) :
    wpAny (model prog w) A (call (.type "enumerate") [.ref l]) Q E s := by
  obtain ⟨⟨c, dct, dt, sl⟩, hl, hc, n, hd⟩ := hL
  have hc' : c = .type "tuple" := hc
  have hd' : dt = .seq items n := hd
  subst hc' hd'
  refine callType_new F.called_enumerate (by decide) (F.typeCall_enumerate_1 _) (F.newCall_enumerate_1 _) (fun obj => F.args_object_init_2 obj _) F.entry_enumerate_new (meets_enumT l items n dct sl) ⟨hl, ?_⟩
  let h1 := s.heap.push { cls := .type "tuple_iterator", data := .fields #[.ref l, .int 0 0] }
  have hz : h1.objs.size = s.heap.objs.size + 1 := Heap.size_push ..
  have he : IsEnum (h1.push { cls := .type "enumerate", data := .fields #[.none, .bool false, .ref s.heap.objs.size, rawInt 0, .none, .none] }) (s.heap.objs.size + 1) s.heap.objs.size 0 .none := by
    have q := Heap.get?_push_size h1 (o := { cls := .type "enumerate", data := .fields #[.none, .bool false, .ref s.heap.objs.size, rawInt 0, .none, .none] }) rfl
    rw [hz] at q
    exact q
  show (∃ o, (h1.push _).get? h1.objs.size = some o ∧ _) ∧ Q (.ref h1.objs.size) _
  rw [hz]
  exact ⟨⟨_, he, rfl⟩, h _ he ⟨_, Heap.get?_push_of_some _ (Heap.get?_push_size _ rfl), rfl, rfl⟩ (by rw [Heap.size_push, hz]) fun b o x => Heap.get?_push_of_some _ (Heap.get?_push_of_some _ x)⟩
theorem draws_tuple (hh : A.handled = none) (it a : Addr) (ne : it ≠ a) (items : Array Value) :
    Draws prog w A it [it, a] items.size (fun i x => items[i]? = some x) (fun i h => h.IsTupleIter it a i ∧ h.IsTuple a items) where
  live := fun i h st => by
    obtain ⟨⟨o, e, _⟩, _⟩ := st
    exact ⟨o, e⟩
  frame := fun i h h' st k => ⟨st.1.at fun o e => k it (by simp) o e, st.2.at fun o e => k a (by simp) o e⟩
  item := fun i s Q E hi st hQ => RZ.nextOf_tuple_item st.1 st.2 (x := items[i]) (by simp [hi]) fun h' st' sb => hQ _ h' s.toks (by simp [hi])
    ⟨st', st.2.at fun o e => (sb.2 a (fun z => ne z.symm)).trans e⟩ sb
  done := fun s Q E st hE => RZ.nextOf_tuple_end hh st.1 st.2 (by simp) hE
end
/-- the tuple at a, each item in a new pair -/
def IteT (K : PySem.W.Frag) (a : Addr) : It where
  go := fun i H => ∃ (xs : List V) (x : V), SqT K H a xs ∧ xs[i]? = some x
  yld := fun i H v H' => ∃ T x, v = .ref T ∧ H T = none ∧ H' = upd H T (.tup [.int (i : Nat), x]) ∧ ∀ xs, SqT K H a xs → xs[i]? = some x
  stop := fun i H => ∃ xs : List V, SqT K H a xs ∧ xs.length ≤ i
theorem turn_enumT {P : Program} {w : World} {K : PySem.W.Frag} {elts : List Expr} {kk : Nat} {tpos : Pos} (a e it : Addr) :
    Turn P w K (.Tuple elts kk tpos) (IteT K a) [e, it] e (fun i h => (∃ old, IsEnum h e it ((i : Nat) : Int) old) ∧ h.IsTupleIter it a i ∧ e ≠ it ∧ e ≠ a ∧ it ≠ a) := by
  refine ⟨by simp, fun i h st b hb => ?_, fun i h h' st k => ?_, ?_, ?_, fun A i s Q E st h => ?_⟩
  · obtain ⟨⟨old, he⟩, ⟨o, ho, hc, hd⟩, _⟩ := st
    rcases List.mem_cons.mp hb with z | z
    · subst z
      exact ⟨_, he, fun v q => nomatch q⟩
    · rw [List.mem_singleton.mp z]
      exact ⟨o, ho, fun v q => nomatch hd.symm.trans q⟩
  · obtain ⟨⟨old, he⟩, hi, ne⟩ := st
    exact ⟨⟨old, k e (by simp) _ he⟩, hi.at fun o q => k it (by simp) o q, ne⟩
  · intro X hP hw hK hc i pins s σ H E I hf st hg
    subst hP hw hK
    obtain ⟨⟨old, he⟩, hit, n1, n2, n3⟩ := st
    obtain ⟨xs, x, hq, hx⟩ := hg
    obtain ⟨its, rv, p, hz⟩ := I.tuple hq
    obtain ⟨u, hu, ru⟩ := rv.get hx
    have hel : e < s.heap.objs.size := Heap.lt_size he
    have hil : it < s.heap.objs.size := by
      obtain ⟨_, q, _⟩ := hit
      exact Heap.lt_size q
    have D := draws_tuple (prog := X.prog) (w := X.w) (A := X.A.in1) (I.ok.hd hc) it a n3 its.toArray
    have lt : i < its.toArray.size := by
      rw [List.size_toArray]
      exact (List.getElem?_eq_some_iff.mp hu).1
    refine wpAny_pyNext_enum_itemD D he ⟨hit, p⟩ lt n1 (by simp [n1, n2]) fun u' h' tk hP ho hit' hT hsz hk => ?_
    have eu : u' = u := by
      have q : its[i]? = some u' := by simpa using hP
      rw [hu] at q
      exact (Option.some.inj q).symm
    subst eu
    refine ⟨_, rfl, wpAny_letOwnedTupleGo_enum (s := { s with heap := h', toks := tk + 1 }) ho fun h'' he' sb => ?_⟩
    have hT2 : h''.get? s.heap.objs.size = some { cls := .type "tuple", data := .seq #[.int i tk, u'] } := (sb.2 _ (Nat.ne_of_gt hel)).trans hT
    have new : ObjOk X.prog X.w (upd H s.heap.objs.size (.tup [.int (i : Nat), x])) h'' s.heap.objs.size (.tup [.int (i : Nat), x]) :=
      ⟨by show 2 ≤ sizeLine; decide, [.int i tk, u'], .cons ⟨_, rfl⟩ (.cons ru .nil), _, hT2, rfl, _, rfl⟩
    have I1 : Inv X pins σ (upd H s.heap.objs.size (.tup [.int (i : Nat), x])) { s with heap := h'', toks := tk + 1 } :=
      I.turnedNew (ch := [e, it]) (fun b ob hb q => (sb.2 b fun z => hb (by simp [z])).trans (hk b ob (fun z => hb (by simp [z])) (fun z => hb (by simp [z])) q)) hf (Nat.le_refl _) new
    refine ⟨.ref s.heap.objs.size, _, I1, rfl, ⟨_, x, rfl, I.hok.fresh (Nat.le_refl _), rfl, fun ys hy => ?_⟩, ⟨⟨u', ?_⟩, hit'.1.at fun o q => (sb.2 it (Ne.symm n1)).trans q, n1, n2, n3⟩, fun b hb => ?_⟩
    · rw [I.tuple_inj hy hq]
      exact hx
    · have e1 : ((i + 1 : Nat) : Int) = (i : Int) + 1 := by omega
      rw [e1]
      exact he'
    · have lb : b < s.heap.objs.size := by
        rcases List.mem_cons.mp hb with z | z
        · rw [z]; exact hel
        · rw [List.mem_singleton.mp z]; exact hil
      rw [upd_ne (Nat.ne_of_lt lb)]
      exact (hf b hb).1
  · intro X hP hw hK hc i pins s σ H E I hf st hg
    subst hP hw hK
    obtain ⟨⟨old, he⟩, hit, n1, n2, n3⟩ := st
    obtain ⟨xs, hq, hx⟩ := hg
    obtain ⟨its, rv, p, hz⟩ := I.tuple hq
    obtain ⟨f0, f1, f2, f3, f4, f5⟩ := hf it (by simp)
    have hl := rv.length
    have hT : s.TypeIs (.ref e) "enumerate" := ⟨_, he, rfl⟩
    unfold pyNext
    refine wpAny_bind (wpAny_attempt (wpAny_callSpecial?_slot (name := Str.ofString "__next__") hT F.slot_enumerate_next (wpAny_call_entry F.slot_enumerate_next hT F.entry_enumerate_next ?_ (F.args_enumerate_next_1 _))))
    show wpAny _ _ (field (.ref e) 2 >>= _) _ _ _
    refine wpAny_bind (wpAny_field he rfl (x := .ref it) rfl (wpAny_bind (RZ.nextOf_tuple_end (I.ok.hd hc) hit (show s.heap.IsTuple a its.toArray from p) (by simp; omega) fun h' y he' hx' => ?_)))
    obtain ⟨o, ho, hc⟩ := hx'
    refine wpAny_bind (wpAny_isInstance (T := "StopIteration") (b := true) ⟨o, ho, hc⟩ isSubtype_stop (wpAny_pure ⟨rfl, ?_⟩))
    exact I.turned (t' := s.toks) (fun b o hb q => he' b o hb q) f0 f1 f3 f4 f5
  · obtain ⟨⟨_, he⟩, _⟩ := st
    exact wpAny_pyIter_enum he h
def iEnumT (K : PySem.W.Frag) (ta : TA) : TI := fun σ H R => ta σ H fun vs H1 => ∃ a xs, vs = [.ref a] ∧ SqT K H1 a xs ∧ R (IteT K a) H1
theorem pi_enumT {X : Cx} {e : Expr} {ta : TA} {p pos tpos : Pos} {elts : List Expr} {kk : Nat} (hg : Gl X "enumerate") (hm : X.mg "enumerate" = none) (ha : PA X [e] ta)
    (hs : starEach [e] X.env = [(false, eval e X.env)] := by rfl) : PI X (.Tuple elts kk tpos) (.Call (.Name "enumerate" p) [e] [] pos) (iEnumT X.K ta) := by
  refine ⟨fun pins s σ H R I h => Call_ (ld_blt I hg hm boot_enumerate (PyProof.Rows.callWith_type1 (thn (ha.run pos pins s σ H _ I h) fun us s1 ⟨vs, H1, I1, r1, q1⟩ => ?_) hs rfl))⟩
  obtain ⟨a, xs, rfl, hq, q⟩ := q1
  obtain ⟨u, rfl, ru⟩ := vals1 r1
  cases ru
  obtain ⟨its, rv, p', hz⟩ := I1.tuple hq
  have la : a < s1.heap.objs.size := by
    obtain ⟨_, z, _⟩ := p'
    exact Heap.lt_size z
  refine call_enumT (show s1.heap.IsTuple a its.toArray from p') fun h' he hit hsz hk => wpAny_pyIter_enum he ?_
  have I2 : Inv X pins σ H1 { s1 with heap := h' } := I1.kept (t' := s1.toks) hk
  refine ⟨s1.heap.objs.size + 1, [s1.heap.objs.size + 1, s1.heap.objs.size], _, _, H1, rfl, I2, turn_enumT a (s1.heap.objs.size + 1) s1.heap.objs.size,
    ⟨⟨.none, he⟩, hit, Nat.succ_ne_self _, Nat.ne_of_gt (Nat.lt_succ_of_lt la), Nat.ne_of_gt la⟩, fun b hb => ?_, q⟩
  have hle : s1.heap.objs.size ≤ b := by
    rcases List.mem_cons.mp hb with z | z
    · rw [z]; exact Nat.le_add_right _ _
    · rw [List.mem_singleton.mp z]; exact Nat.le_refl _
  exact I1.fpOk hle (I1.hok.fresh hle)
end Nv
/-! Nv, part R: what is walked, targets, loops, comprehensions; a def's promise over data. -/
namespace Nv
open PySem PySem.Spec PyProof.Rows L2

/-- J gives just ds, one a turn -/
def Wk (J : It) (ds : List D) (G : Hp) : Prop := ∀ G1 H1, Same G G1 → Same G1 H1 → (∀ i, i < ds.length → J.go i H1) ∧ J.stop ds.length H1 ∧
  ∀ i x H2, i < ds.length → J.yld i H1 x H2 → ∃ d G2, ds[i]? = some d ∧ Stp S0 G1 H1 G2 H2 ∧ Same G2 H2 ∧ At G2 x d
def WpI (R : Rg) (wi : TI) (δ : List Sl) (φ : List D → Prop) : Prop := ∀ σ G H, Ens R.T G H δ σ → Rz R G H → ∀ K : It → Hp → Prop,
  (∀ J ds G' H', Stp R.T.S G H G' H' → Ens R.T G' H' δ σ → Wk J ds G' → φ ds → K J H') → wi σ H K
/-- a target: only the slots js change -/
def WpG (R : Rg) (g : TG) (d : D) (δ : List Sl) (js : List Nat) (φ : List Sl → Prop) : Prop := ∀ σ G H v, Ens R.T G H δ σ → At G v d → ∀ Q : L2.St → Hp → Prop,
  (∀ σ2 δ2, Ens R.T G H δ2 σ2 → (∀ k, k ∉ js → σ2[k]? = σ[k]?) → σ2.length = σ.length → φ δ2 → Q σ2 H) → g v σ H Q
section
variable {R : Rg} {δ : List Sl}
theorem wpg_name {i : Nat} {d : D} {φ : List Sl → Prop} (q : φ (δ.set i (.da d))) : WpG R (gName i) d δ [i] φ := fun σ G H v en a Q k =>
  k _ _ (en.setD a) (fun j hj => List.getElem?_set_ne (fun z => hj (by simp [z]))) (by rw [List.length_set]) q
theorem wpg_pair {K : PySem.W.Frag} {i j : Nat} {d : D} {φ : List Sl → Prop} (q : ∃ x y, d = .tup [x, y] ∧ φ ((δ.set i (.da x)).set j (.da y))) :
    WpG R (gTup K 2 (gCons (gName i) (gCons (gName j) gNil))) d δ [i, j] φ := fun σ G H v en a Q k => by
  obtain ⟨x, y, rfl, q⟩ := q
  cases a with
  | tup h t =>
    cases t with
    | cons a1 t =>
      cases t with
      | cons a2 t =>
        cases t
        refine ⟨_, _, rfl, .inl (rdS en.same h), rfl, _, _, rfl, _, _, rfl, rfl, ?_⟩
        exact k _ _ ((en.setD a1).setD a2) (fun l hl => by rw [List.getElem?_set_ne (fun z => hl (by simp [z])), List.getElem?_set_ne (fun z => hl (by simp [z]))]) (by rw [List.length_set, List.length_set]) q

theorem wps_for {wi : TI} {g : TG} {tb : TS} {js : List Nat} {Φ : List Sl → Prop} {Ψ : D → Prop}
    (h : WpI R wi δ fun ds => ∃ I : Nat → List Sl → Prop, I 0 δ ∧ (∀ i d δ', ds[i]? = some d → I i δ' → WpG R g d δ' js fun δ2 => WpS R tb δ2 (I (i + 1)) Ψ) ∧ ∀ δ', I ds.length δ' → Φ δ') :
    WpS R (tFor wi g tb) δ Φ Ψ := fun σ G H en rz Z k1 k2 => by
  refine h σ G H en rz _ fun J ds G1 H1 s1 e1 wk ⟨I, i0, step, fin⟩ => ?_
  refine ⟨fun i m σ' H' => m = ds.length - i ∧ i ≤ ds.length ∧ ∃ δ' G', StB R.T.O R.T.S G H G' H' ∧ Same G1 G' ∧ Ens R.T G' H' δ' σ' ∧ I i δ',
    ⟨_, rfl, Nat.zero_le _, δ, G1, s1.toB en.old, .refl _, e1, i0⟩, ?_⟩
  rintro i m σ' H' ⟨rfl, hi, δ', G', sB, sm, e', inv⟩
  obtain ⟨go, stop, yld⟩ := wk G' H' sm e'.same
  by_cases lt : i < ds.length
  · refine .inr ⟨go i lt, fun σ2 H2 => ∃ δ2 G2, StB R.T.O R.T.S G H G2 H2 ∧ Same G1 G2 ∧ Ens R.T G2 H2 δ2 σ2 ∧ I (i + 1) δ2, ?_, ?_⟩
    · rintro σ2 H2 ⟨δ2, G2, a, b, c, d⟩
      exact ⟨ds.length - (i + 1), by omega, rfl, lt, δ2, G2, a, b, c, d⟩
    · intro x H2 y
      obtain ⟨d, G2, ed, s2, sm2, at2⟩ := yld i x H2 lt y
      have e2 := e'.step0 s2 sm2
      have sB2 := sB.trans ((s2.zero (S := R.T.S)).toB e'.old)
      refine step i d δ' ed inv σ' G2 H2 x e2 at2 _ fun σ3 δ3 e3 _ _ w => ?_
      exact w σ3 G2 H2 e3 (rz.stepB sB2) _ (fun δ4 σ4 G4 H4 s4 e4 q => ⟨δ4, G4, sB2.trans s4, (sm.trans s2.gs).trans s4.gs, e4, q⟩) fun v dd G4 H4 s4 a b c q => k2 v dd G4 H4 (sB2.trans s4) a b c q
  · have e : i = ds.length := by omega
    subst e
    exact .inl ⟨stop, k1 δ' σ' G' H' sB e' (fin δ' inv)⟩

/-! ### comprehensions -/
def wipeD (δ : List Sl) : List Nat → List Sl
  | [] => δ
  | v :: vs => (wipeD δ vs).set v .no
theorem Ens.wipe {T : Tr} {G H : Hp} {σ : L2.St} (en : Ens T G H δ σ) : ∀ vs, Ens T G H (wipeD δ vs) (L2.wipe σ vs)
  | [] => en
  | v :: vs => (Ens.wipe en vs).forget
theorem wipe_get {σ : L2.St} {k : Nat} : ∀ {vs : List Nat}, (L2.wipe σ vs)[k]? = if k ∈ vs then (if k < σ.length then some none else none) else σ[k]?
  | [] => by simp [L2.wipe]
  | v :: vs => by
    unfold L2.wipe
    by_cases h : v = k
    · subst h
      rw [if_pos (by simp)]
      by_cases lt : v < σ.length
      · rw [List.getElem?_set_self (by rw [wipe_length]; exact lt), if_pos lt]
      · rw [List.getElem?_eq_none (by rw [List.length_set, wipe_length]; omega), if_neg lt]
    · rw [List.getElem?_set_ne h, wipe_get (vs := vs)]
      have e : (k ∈ v :: vs) ↔ k ∈ vs := by
        rw [List.mem_cons]
        exact ⟨fun z => z.resolve_left fun q => h q.symm, .inr⟩
      by_cases m : k ∈ vs
      · rw [if_pos m, if_pos (e.mpr m)]
      · rw [if_neg m, if_neg (fun z => m (e.mp z))]
theorem wipe_eq {σ σ2 : L2.St} {js vs : List Nat} (hj : ∀ j ∈ js, j ∈ vs) (h : ∀ k, k ∉ js → σ2[k]? = (L2.wipe σ vs)[k]?) (l : σ2.length = (L2.wipe σ vs).length) : L2.wipe σ2 vs = L2.wipe σ vs := by
  refine List.ext_getElem? fun k => ?_
  rw [wipe_get (σ := σ2)]
  rw [wipe_length] at l
  by_cases m : k ∈ vs
  · rw [if_pos m, l, wipe_get, if_pos m]
  · rw [if_neg m, h k (fun z => m (hj k z))]
theorem wpe_lc {wi : TI} {g : TG} {tt : TT} {te : TE} {vs js : List Nat} {φ : D → Prop} (hjs : ∀ j ∈ js, j ∈ vs)
    (h : WpI R wi δ fun ds => ds.length ≤ 100000 ∧ ∃ I : Nat → List D → Prop, I 0 [] ∧ (∀ i d acc, ds[i]? = some d → I i acc → acc.length ≤ i → WpG R g d (wipeD δ vs) js fun δ2 => WpT R tt δ2 fun b =>
      if b = true then WpE R te δ2 fun y => I (i + 1) (acc ++ [y]) else I (i + 1) acc) ∧ ∀ acc, I ds.length acc → acc.length ≤ ds.length → φ (.lst acc)) :
    WpE R (tLc wi g tt te vs) δ φ := fun σ G H en rz Q k => by
  refine h σ G H en rz _ fun J ds G1 H1 s1 e1 wk ⟨hl, I, i0, step, fin⟩ => ?_
  intro Dl hD
  have gD : G1 Dl = none := e1.same.free hD
  have nS : ¬ R.T.S Dl := fun z => by
    obtain ⟨_, x, y, w, e⟩ := e1.stt Dl z
    rw [hD] at e
    exact nomatch e
  have ew := e1.wipe vs
  let Nx : Nat → Hp → Prop := fun i H' => ∃ acc xs G', Stp R.T.S G1 H1 G' H' ∧ Same G' H' ∧ StO R.T.S G' H' ∧ G' Dl = none ∧ H' Dl = some (.lst xs) ∧ AtAll G' xs acc ∧ acc.length ≤ i ∧ I i acc
  refine ⟨fun i m H' => m = ds.length - i ∧ i ≤ ds.length ∧ Nx i H', ⟨_, rfl, Nat.zero_le _, [], [], G1, Stp.grow (same_upd hD), e1.same.trans (same_upd hD), fun a ha => ?_, gD, upd_same, .nil, Nat.le_refl _, i0⟩, ?_⟩
  · obtain ⟨q, x, y, w, e⟩ := e1.stt a ha
    exact ⟨q, x, y, w, by rw [upd_ne (ne_of_none e hD)]; exact e⟩
  rintro i m H' ⟨rfl, hi, acc, xs, G', st, sm, so, gd, hd, al, la, inv⟩
  have e' : Ens R.T G' H' (wipeD δ vs) (L2.wipe σ vs) := ew.step st (fun _ z => z) sm so
  obtain ⟨go, stop, yld⟩ := wk G' H' st.gs sm
  by_cases lt : i < ds.length
  · refine .inr ⟨go i lt, Nx (i + 1), fun H2 z => ⟨ds.length - (i + 1), by omega, rfl, lt, z⟩, fun x H2 y => ?_⟩
    obtain ⟨d, G2, ed, s2, sm2, at2⟩ := yld i x H2 lt y
    have e2 := e'.step0 s2 sm2
    have st2 := st.trans s2.zero
    have gd2 : G2 Dl = none := s2.gn Dl gd (by rw [hd]; exact fun z => nomatch z)
    have hd2 : H2 Dl = some (.lst xs) := s2.same _ _ hd
    refine step i d acc ed inv la (L2.wipe σ vs) G2 H2 x e2 at2 _ fun σ3 δ3 e3 ag ln w => ⟨wipe_eq hjs ag ln, ?_⟩
    have rz2 : Rz R G2 H2 := (rz.stepB (s1.toB en.old)).stepB (st2.toB e1.old)
    refine w σ3 G2 H2 e3 rz2 _ fun b G4 H4 s4 e4 q => ?_
    have gd4 : G4 Dl = none := s4.gn Dl gd2 (by rw [hd2]; exact fun z => nomatch z)
    have hd4 : H4 Dl = some (.lst xs) := s4.hs _ _ hd2 nS
    have st4 := st2.trans s4
    have al4 := (al.same s2.gs).same s4.gs
    cases b with
    | false => exact iteF ⟨acc, xs, G4, st4, e4.same, e4.stt, gd4, hd4, al4, Nat.le_succ_of_le la, q⟩
    | true =>
      have q' : WpE R te δ3 _ := q
      refine iteT (q' σ3 G4 H4 e4 (rz2.stepB (s4.toB e3.old)) _ fun v y2 G5 H5 s5 e5 a5 q5 => ?_)
      have gd5 : G5 Dl = none := s5.gn Dl gd4 (by rw [hd4]; exact fun z => nomatch z)
      have hd5 : H5 Dl = some (.lst xs) := s5.hs _ _ hd4 nS
      have st5 := st4.trans s5
      refine ⟨xs, hd5, ?_, acc ++ [y2], xs ++ [v], G5, ⟨st5.gs, fun b u e n => ?_, fun b e => ?_, st5.gn⟩, fun b u e => ?_, fun a ha => ?_, gd5, upd_same, (al4.same s5.gs).app (.cons a5 .nil), by rw [List.length_append]; exact Nat.succ_le_succ la, q5⟩
      · rw [al.length]
        exact Nat.lt_of_le_of_lt (Nat.le_trans la (Nat.le_trans hi hl)) (by decide)
      · rw [upd_ne (ne_of_none e hD)]
        exact st5.hs b u e n
      · by_cases z : b = Dl
        · rw [z, upd_same]; exact fun q => nomatch q
        · rw [upd_ne z]; exact st5.al b e
      · rw [upd_ne (ne_of_none e gd5)]
        exact e5.same b u e
      · obtain ⟨q1, x1, y1, w1, q2⟩ := e5.stt a ha
        exact ⟨q1, x1, y1, w1, by rw [upd_ne (show a ≠ Dl from fun z => nS (by rw [← z]; exact ha))]; exact q2⟩
  · have e : i = ds.length := by omega
    subst e
    refine .inl ⟨stop, ?_⟩
    have sp : Stp R.T.S G1 H1 (upd G' Dl (.lst xs)) H' := ⟨st.gs.trans (same_upd gd), st.hs, st.al, fun b e1' e2' => by rw [upd_ne (fun z => e2' (by rw [z]; exact hD))]; exact st.gn b e1' e2'⟩
    have sm' : Same (upd G' Dl (.lst xs)) H' := fun b u e => by
      by_cases z : b = Dl
      · subst z
        rw [upd_same] at e
        rw [← e]
        exact hd
      · rw [upd_ne z] at e
        exact sm b u e
    refine k _ _ _ _ (s1.trans sp) (e1.step sp (fun _ z => z) sm' fun a ha => ?_) (.lst upd_same (al.same (same_upd gd))) (fin acc inv la)
    obtain ⟨q1, r⟩ := so a ha
    exact ⟨by rw [upd_ne (show a ≠ Dl from fun z => nS (by rw [← z]; exact ha))]; exact q1, r⟩
theorem wpt_yes {φ : Bool → Prop} (q : φ true) : WpT R tYes δ φ := fun σ G H en rz Q k => k true G H .refl en q
/-! ### what is walked -/
theorem wpi_mono {wi : TI} {φ ψ : List D → Prop} (h : WpI R wi δ φ) (m : ∀ d, φ d → ψ d) : WpI R wi δ ψ := fun σ G H en rz K k => h σ G H en rz K fun J ds G' H' a b c e => k J ds G' H' a b c (m ds e)
theorem wk_list {K : PySem.W.Frag} {G : Hp} {a : Addr} {xs : List V} {ds : List D} (h : G a = some (.lst xs)) (al : AtAll G xs ds) : Wk (Itl K a) ds G := fun G1 H1 s1 s2 => by
  have q : SqL K H1 a xs := .inl (.inl (s2 _ _ (s1 _ _ h)))
  have e := al.length
  refine ⟨fun i hi => ⟨xs, xs[i]'(by omega), q, by simp [e, hi]⟩, ⟨xs, q, by omega⟩, fun i x H2 hi y => ?_⟩
  obtain ⟨rfl, y⟩ := y
  obtain ⟨d, ed, a⟩ := al.getV (y xs q)
  exact ⟨d, G1, ed, .refl, s2, a.same s1⟩
theorem wk_tup {K : PySem.W.Frag} {G : Hp} {a : Addr} {xs : List V} {ds : List D} (h : Rd G a (.tup xs)) (al : AtAll G xs ds) : Wk (Itt K a) ds G := fun G1 H1 s1 s2 => by
  have q : SqT K H1 a xs := .inl (rdS s2 (rdS s1 h))
  have e := al.length
  refine ⟨fun i hi => ⟨xs, xs[i]'(by omega), q, by simp [e, hi]⟩, ⟨xs, q, by omega⟩, fun i x H2 hi y => ?_⟩
  obtain ⟨rfl, y⟩ := y
  obtain ⟨d, ed, a⟩ := al.getV (y xs q)
  exact ⟨d, G1, ed, .refl, s2, a.same s1⟩
theorem wpi_list {K : PySem.W.Frag} {te : TE} {φ : List D → Prop} (h : WpE R te δ fun d => ∃ ds, d = .lst ds ∧ φ ds) : WpI R (iList K te) δ φ := fun σ G H en rz Kk k =>
  h σ G H en rz _ fun v d G1 H1 s1 e1 a ⟨ds, e, q⟩ => by
    subst e
    cases a with
    | lst ha al => exact ⟨_, rfl, ⟨_, .inl (.inl (e1.same _ _ ha))⟩, k _ ds G1 H1 s1 e1 (wk_list ha al) q⟩
theorem wpi_tup {K : PySem.W.Frag} {te : TE} {φ : List D → Prop} (h : WpE R te δ fun d => ∃ ds, d = .tup ds ∧ φ ds) : WpI R (iTup K te) δ φ := fun σ G H en rz Kk k =>
  h σ G H en rz _ fun v d G1 H1 s1 e1 a ⟨ds, e, q⟩ => by
    subst e
    cases a with
    | tup ha al => exact ⟨_, rfl, ⟨_, .inl (rdS e1.same ha)⟩, k _ ds G1 H1 s1 e1 (wk_tup ha al) q⟩
def rngD (lo : Int) (n : Nat) : List D := (List.range n).map fun (i : Nat) => D.int (lo + i)
theorem rngD_len {lo : Int} {n : Nat} : (rngD lo n).length = n := by unfold rngD; rw [List.length_map, List.length_range]
theorem rngD_get {lo : Int} {n i : Nat} (h : i < n) : (rngD lo n)[i]? = some (.int (lo + i)) := by
  unfold rngD
  rw [List.getElem?_map, List.getElem?_range h]
  rfl
theorem rngD_at {lo : Int} {n i : Nat} {d : D} (h : (rngD lo n)[i]? = some d) : d = .int (lo + i) ∧ i < n := by
  have lt : i < n := by
    have := (List.getElem?_eq_some_iff.mp h).1
    rw [rngD_len] at this
    exact this
  rw [rngD_get lt] at h
  exact ⟨(Option.some.inj h).symm, lt⟩
theorem wk_range {G : Hp} {lo : Int} {n : Nat} : Wk (Itr lo n) (rngD lo n) G := fun G1 H1 s1 s2 => by
  refine ⟨fun i hi => by rw [rngD_len] at hi; exact hi, by rw [rngD_len]; exact Nat.le_refl n, fun i x H2 hi y => ?_⟩
  obtain ⟨rfl, rfl⟩ := y
  rw [rngD_len] at hi
  exact ⟨_, G1, rngD_get hi, .refl, s2, .int _⟩
theorem wpi_range1 {tr : TA} {φ : List D → Prop} (h : WpA R tr δ fun as => ∃ j : Int, as = [.da (.int j)] ∧ -1000000 ≤ j ∧ j < 1000000 ∧ φ (rngD 0 j.toNat)) : WpI R (iRng1 tr) δ φ := fun σ G H en rz Kk k =>
  h σ G H en rz _ fun vs as G1 H1 s1 e1 a ⟨j, e, l1, l2, q⟩ => by
    subst e
    cases a with
    | cons a t =>
      cases t
      cases a
      exact ⟨j, rfl, by omega, by omega, k _ _ G1 H1 s1 e1 wk_range q⟩
def zipD : List D → List D → List D
  | x :: xs, y :: ys => .tup [x, y] :: zipD xs ys
  | _, _ => []
theorem zipD_len : ∀ {xs ys : List D}, (zipD xs ys).length = min xs.length ys.length
  | [], ys => by simp [zipD]
  | x :: xs, [] => by simp [zipD]
  | x :: xs, y :: ys => by simp only [zipD, List.length_cons, zipD_len (xs := xs) (ys := ys)]; omega
theorem zipD_get : ∀ {xs ys : List D} {i : Nat} {x y : D}, xs[i]? = some x → ys[i]? = some y → (zipD xs ys)[i]? = some (.tup [x, y])
  | [], _, _, _, _, h, _ => by simp at h
  | _ :: _, [], _, _, _, _, h => by simp at h
  | x :: xs, y :: ys, 0, _, _, h, h2 => by simp at h h2; subst h; subst h2; rfl
  | x :: xs, y :: ys, i + 1, _, _, h, h2 => by
    simp only [zipD, List.getElem?_cons_succ]
    exact zipD_get (by simpa using h) (by simpa using h2)
theorem zipD_at : ∀ {xs ys : List D} {i : Nat} {d : D}, (zipD xs ys)[i]? = some d → ∃ x y, xs[i]? = some x ∧ ys[i]? = some y ∧ d = .tup [x, y] := fun {xs ys i d} h => by
  have lt := (List.getElem?_eq_some_iff.mp h).1
  rw [zipD_len] at lt
  have h1 : xs[i]? = some (xs[i]'(by omega)) := List.getElem?_eq_getElem _
  have h2 : ys[i]? = some (ys[i]'(by omega)) := List.getElem?_eq_getElem _
  rw [zipD_get h1 h2] at h
  exact ⟨_, _, h1, h2, (Option.some.inj h).symm⟩
theorem yld_pair {G1 H1 : Hp} {T : Addr} {x y : V} {dx dy : D} (sm : Same G1 H1) (hT : H1 T = none) (ax : At G1 x dx) (ay : At G1 y dy) :
    Stp S0 G1 H1 (upd G1 T (.tup [x, y])) (upd H1 T (.tup [x, y])) ∧ Same (upd G1 T (.tup [x, y])) (upd H1 T (.tup [x, y])) ∧ At (upd G1 T (.tup [x, y])) (.ref T) (.tup [dx, dy]) := by
  have s : Stp S0 G1 H1 (upd G1 T (.tup [x, y])) (upd H1 T (.tup [x, y])) := .new sm hT
  exact ⟨s, upd_same2 sm, .tup (.inl upd_same) (.cons (ax.same s.gs) (.cons (ay.same s.gs) .nil))⟩
theorem wk_zipL {K : PySem.W.Frag} {G : Hp} {a b : Addr} {xs ys : List V} {ds es : List D} (h : G a = some (.lst xs)) (al : AtAll G xs ds) (h2 : G b = some (.lst ys)) (al2 : AtAll G ys es) : Wk (Itz K a b) (zipD ds es) G := fun G1 H1 s1 s2 => by
  have q : SqL K H1 a xs := .inl (.inl (s2 _ _ (s1 _ _ h)))
  have q2 : SqL K H1 b ys := .inl (.inl (s2 _ _ (s1 _ _ h2)))
  have e := al.length
  have e2 := al2.length
  have W : Walk (Itz K a b) (zipD ds es).length _ _ := walk_zip (K := K) (a := a) (b := b) (xs := xs) (ys := ys) (by rw [zipD_len]; omega)
  refine ⟨fun i hi => W.goes i H1 hi ⟨q, q2⟩, W.stops H1 ⟨q, q2⟩, fun i x H2 hi y => ?_⟩
  obtain ⟨T, u, v, rfl, hT, rfl, z1, z2⟩ := W.yields i H1 x H2 hi ⟨q, q2⟩ y
  obtain ⟨d1, m1, a1⟩ := al.getV z1
  obtain ⟨d2, m2, a2⟩ := al2.getV z2
  obtain ⟨t1, t2, t3⟩ := yld_pair s2 hT (a1.same s1) (a2.same s1)
  exact ⟨_, _, zipD_get m1 m2, t1, t2, t3⟩
theorem wk_zipT {K : PySem.W.Frag} {G : Hp} {a b : Addr} {xs ys : List V} {ds es : List D} (h : Rd G a (.tup xs)) (al : AtAll G xs ds) (h2 : Rd G b (.tup ys)) (al2 : AtAll G ys es) : Wk (RZ.ItzT K a b) (zipD ds es) G := fun G1 H1 s1 s2 => by
  have q : SqT K H1 a xs := .inl (rdS s2 (rdS s1 h))
  have q2 : SqT K H1 b ys := .inl (rdS s2 (rdS s1 h2))
  have e := al.length
  have e2 := al2.length
  refine ⟨fun i hi => ?_, ⟨xs, ys, q, q2, by rw [zipD_len]; omega⟩, fun i x H2 hi y => ?_⟩
  · rw [zipD_len] at hi
    exact ⟨xs, ys, xs[i]'(by omega), ys[i]'(by omega), q, q2, List.getElem?_eq_getElem _, List.getElem?_eq_getElem _⟩
  · obtain ⟨T, u, v, rfl, hT, rfl, z1, z2⟩ := y
    obtain ⟨d1, m1, a1⟩ := al.getV (z1 xs q)
    obtain ⟨d2, m2, a2⟩ := al2.getV (z2 ys q2)
    obtain ⟨t1, t2, t3⟩ := yld_pair s2 hT (a1.same s1) (a2.same s1)
    exact ⟨_, _, zipD_get m1 m2, t1, t2, t3⟩
theorem wpi_zip {K : PySem.W.Frag} {tr : TA} {φ : List D → Prop} (h : WpA R tr δ fun as => ∃ ds es, (as = [.da (.lst ds), .da (.lst es)] ∨ as = [.da (.tup ds), .da (.tup es)]) ∧ φ (zipD ds es)) : WpI R (RZ.iZipA K tr) δ φ := fun σ G H en rz Kk k =>
  h σ G H en rz _ fun vs as G1 H1 s1 e1 a ⟨ds, es, e, q⟩ => by
    rcases e with e | e
    · subst e
      cases a with
      | cons a t =>
        cases t with
        | cons b t =>
          cases t
          cases a with
          | lst ha al =>
            cases b with
            | lst hb bl => exact ⟨_, _, _, _, rfl, .inl ⟨.inl (.inl (e1.same _ _ ha)), .inl (.inl (e1.same _ _ hb)), k _ _ G1 H1 s1 e1 (wk_zipL ha al hb bl) q⟩⟩
    · subst e
      cases a with
      | cons a t =>
        cases t with
        | cons b t =>
          cases t
          cases a with
          | tup ha al =>
            cases b with
            | tup hb bl => exact ⟨_, _, _, _, rfl, .inr ⟨.inl (rdS e1.same ha), .inl (rdS e1.same hb), k _ _ G1 H1 s1 e1 (wk_zipT ha al hb bl) q⟩⟩
def enuD (ds : List D) : List D := zipD (rngD 0 ds.length) ds
theorem wk_enuT {K : PySem.W.Frag} {G : Hp} {a : Addr} {xs : List V} {ds : List D} (h : Rd G a (.tup xs)) (al : AtAll G xs ds) : Wk (IteT K a) (enuD ds) G := fun G1 H1 s1 s2 => by
  have q : SqT K H1 a xs := .inl (rdS s2 (rdS s1 h))
  have e := al.length
  have le : (enuD ds).length = ds.length := by unfold enuD; rw [zipD_len, rngD_len, Nat.min_self]
  refine ⟨fun i hi => ⟨xs, xs[i]'(by omega), q, List.getElem?_eq_getElem _⟩, ⟨xs, q, by omega⟩, fun i x H2 hi y => ?_⟩
  obtain ⟨T, u, rfl, hT, rfl, z1⟩ := y
  obtain ⟨d1, m1, a1⟩ := al.getV (z1 xs q)
  obtain ⟨t1, t2, t3⟩ := yld_pair s2 hT (.int (i : Nat)) (a1.same s1)
  refine ⟨_, _, zipD_get (x := .int (i : Nat)) ?_ m1, t1, t2, t3⟩
  rw [rngD_get (by omega), Int.zero_add]
theorem wk_enuL {K : PySem.W.Frag} {G : Hp} {a : Addr} {xs : List V} {ds : List D} (h : G a = some (.lst xs)) (al : AtAll G xs ds) : Wk (Ite K a) (enuD ds) G := fun G1 H1 s1 s2 => by
  have q : SqL K H1 a xs := .inl (.inl (s2 _ _ (s1 _ _ h)))
  have e := al.length
  have le : (enuD ds).length = ds.length := by unfold enuD; rw [zipD_len, rngD_len, Nat.min_self]
  refine ⟨fun i hi => ⟨xs, xs[i]'(by omega), q, List.getElem?_eq_getElem _⟩, ⟨xs, q, by omega⟩, fun i x H2 hi y => ?_⟩
  obtain ⟨T, u, rfl, hT, rfl, z1⟩ := y
  obtain ⟨d1, m1, a1⟩ := al.getV (z1 xs q)
  obtain ⟨t1, t2, t3⟩ := yld_pair s2 hT (.int (i : Nat)) (a1.same s1)
  refine ⟨_, _, zipD_get (x := .int (i : Nat)) ?_ m1, t1, t2, t3⟩
  rw [rngD_get (by omega), Int.zero_add]
theorem enuD_at {ds : List D} {i : Nat} {d : D} (h : (enuD ds)[i]? = some d) : ∃ x, ds[i]? = some x ∧ d = .tup [.int i, x] := by
  obtain ⟨x, y, h1, h2, rfl⟩ := zipD_at h
  obtain ⟨rfl, _⟩ := rngD_at h1
  exact ⟨y, h2, by rw [Int.zero_add]⟩
theorem enuD_len {ds : List D} : (enuD ds).length = ds.length := by unfold enuD; rw [zipD_len, rngD_len, Nat.min_self]
theorem wpi_enuT {K : PySem.W.Frag} {tr : TA} {φ : List D → Prop} (h : WpA R tr δ fun as => ∃ ds, as = [.da (.tup ds)] ∧ φ (enuD ds)) : WpI R (iEnumT K tr) δ φ := fun σ G H en rz Kk k =>
  h σ G H en rz _ fun vs as G1 H1 s1 e1 a ⟨ds, e, q⟩ => by
    subst e
    cases a with
    | cons a t =>
      cases t
      cases a with
      | tup ha al => exact ⟨_, _, rfl, .inl (rdS e1.same ha), k _ _ G1 H1 s1 e1 (wk_enuT ha al) q⟩
theorem wpi_enuL {K : PySem.W.Frag} {tr : TA} {φ : List D → Prop} (h : WpA R tr δ fun as => ∃ ds, as = [.da (.lst ds)] ∧ φ (enuD ds)) : WpI R (iEnum K tr) δ φ := fun σ G H en rz Kk k =>
  h σ G H en rz _ fun vs as G1 H1 s1 e1 a ⟨ds, e, q⟩ => by
    subst e
    cases a with
    | cons a t =>
      cases t
      cases a with
      | lst ha al => exact ⟨_, _, rfl, .inl (.inl (e1.same _ _ ha)), k _ _ G1 H1 s1 e1 (wk_enuL ha al) q⟩
def chrs (x : Str) : List D := x.cps.toList.map fun c => D.str ⟨#[c]⟩
theorem wpi_str {te : TE} {φ : List D → Prop} (h : WpE R te δ fun d => ∃ x, d = .str x ∧ φ (chrs x)) : WpI R (iStr te) δ φ := fun σ G H en rz Kk k =>
  h σ G H en rz _ fun v d G1 H1 s1 e1 a ⟨x, e, q⟩ => by
    subst e
    cases a
    have le : (chrs x).length = x.cps.size := by unfold chrs; rw [List.length_map, Array.length_toList]
    refine ⟨x, rfl, k _ _ G1 H1 s1 e1 (fun G2 H2 t1 t2 => ⟨fun i hi => ?_, ?_, fun i y H3 hi z => ?_⟩) q⟩
    · rw [le] at hi; exact hi
    · rw [le]; exact Nat.le_refl _
    · obtain ⟨rfl, c, hc, rfl⟩ := z
      refine ⟨_, G2, ?_, .refl, t2, .str _⟩
      unfold chrs
      rw [List.getElem?_map, Array.getElem?_toList, hc]
      rfl
end
end Nv
/-! Nv, part S: operators and built-ins over data. -/
namespace Nv
open PySem PySem.Spec PyProof.Rows L2

theorem at_lst {G : Hp} {v : V} {ds : List D} (h : At G v (.lst ds)) : ∃ a xs, v = .ref a ∧ G a = some (.lst xs) ∧ AtAll G xs ds := by
  cases h with
  | lst e t => exact ⟨_, _, rfl, e, t⟩
theorem at_tup {G : Hp} {v : V} {ds : List D} (h : At G v (.tup ds)) : ∃ a xs, v = .ref a ∧ Rd G a (.tup xs) ∧ AtAll G xs ds := by
  cases h with
  | tup e t => exact ⟨_, _, rfl, e, t⟩
theorem sqL_of {K : PySem.W.Frag} {G H : Hp} {a : Addr} {xs : List V} (s : Same G H) (h : G a = some (.lst xs)) : SqL K H a xs := .inl (.inl (s _ _ h))
theorem sqT_of {K : PySem.W.Frag} {G H : Hp} {a : Addr} {xs : List V} (s : Same G H) (h : Rd G a (.tup xs)) : SqT K H a xs := .inl (rdS s h)

/-! ### walking a list or a tuple -/
def iSeq (K : PySem.W.Frag) (tl : TE) : TI := fun σ H R => tl σ H fun x H1 => ∃ a, x = .ref a ∧ (((∃ xs, SqL K H1 a xs) ∧ R (Itl K a) H1) ∨ ((∃ xs, SqT K H1 a xs) ∧ R (Itt K a) H1))
theorem pi_seq {X : Cx} {tg l : Expr} {tl : TE} (hl : PE X l tl) : PI X tg l (iSeq X.K tl) := by
  refine ⟨fun pins s σ H R I h => ?_⟩
  refine thn (hl.run pins s σ H _ I h) fun v s1 ⟨x, H1, I1, r1, q1⟩ => ?_
  obtain ⟨a, e, q⟩ := q1
  subst e
  cases r1
  rcases q with ⟨⟨xs, hq⟩, q⟩ | ⟨⟨xs, hq⟩, q⟩
  · obtain ⟨its, rv, p, hz⟩ := I1.list hq
    refine wpAny_pyIter_list p.isList ?_
    refine ⟨s1.heap.objs.size, [s1.heap.objs.size], _, _, H1, rfl, I1.kept (t' := s1.toks) fun b o e => Heap.get?_push_of_some _ e, turn_list a _, ⟨_, Heap.get?_push_size _ rfl, rfl, rfl⟩, fun b hb => ?_, q⟩
    have e : b = s1.heap.objs.size := by simpa using hb
    subst e
    exact I1.fpOk (Nat.le_refl _) (I1.hok.fresh (Nat.le_refl _))
  · obtain ⟨its, rv, p, hz⟩ := I1.tuple hq
    refine wpAny_pyIter_tuple (show s1.heap.IsTuple a its.toArray from p) ?_
    refine ⟨s1.heap.objs.size, [s1.heap.objs.size], _, _, H1, rfl, I1.kept (t' := s1.toks) fun b o e => Heap.get?_push_of_some _ e, turn_tuple a _, ⟨_, Heap.get?_push_size _ rfl, rfl, rfl⟩, fun b hb => ?_, q⟩
    have e : b = s1.heap.objs.size := by simpa using hb
    subst e
    exact I1.fpOk (Nat.le_refl _) (I1.hok.fresh (Nat.le_refl _))
section
variable {R : Rg} {δ : List Sl} {te ta tb tc : TE} {t u : TT} {tr : TA} {φ : D → Prop} {K : PySem.W.Frag}
theorem wpi_seq {φ : List D → Prop} (h : WpE R te δ fun d => ∃ ds, (d = .lst ds ∨ d = .tup ds) ∧ φ ds) : WpI R (iSeq K te) δ φ := fun σ G H en rz Kk k =>
  h σ G H en rz _ fun v d G1 H1 s1 e1 a ⟨ds, e, q⟩ => by
    rcases e with e | e
    · subst e
      obtain ⟨a, xs, rfl, ha, al⟩ := at_lst a
      exact ⟨_, rfl, .inl ⟨⟨_, sqL_of e1.same ha⟩, k _ ds G1 H1 s1 e1 (wk_list ha al) q⟩⟩
    · subst e
      obtain ⟨a, xs, rfl, ha, al⟩ := at_tup a
      exact ⟨_, rfl, .inr ⟨⟨_, sqT_of e1.same ha⟩, k _ ds G1 H1 s1 e1 (wk_tup ha al) q⟩⟩
/-- [f(d) for d in ..] -/
theorem wpe_map {wi : TI} {i : Nat} {vs : List Nat} (f : D → D) (hi : i ∈ vs)
    (h : WpI R wi δ fun ds => ds.length ≤ 100000 ∧ (∀ d ∈ ds, WpE R te ((wipeD δ vs).set i (.da d)) fun y => y = f d) ∧ φ (.lst (ds.map f))) :
    WpE R (tLc wi (gName i) tYes te vs) δ φ := by
  refine wpe_lc (js := [i]) (by simpa using hi) (wpi_mono h fun ds ⟨l, h1, h2⟩ => ⟨l, fun j acc => acc = (ds.take j).map f, by simp, fun j d acc e ih _ => ?_, fun acc ih _ => ?_⟩)
  · refine wpg_name (wpt_yes ?_)
    rw [if_pos rfl]
    have hd : d ∈ ds := List.mem_of_getElem? e
    refine wpe_mono (h1 d hd) fun y ey => ?_
    show acc ++ [y] = (ds.take (j + 1)).map f
    rw [ey, ih, List.take_add_one, e]
    simp
  · rw [ih, List.take_length]
    exact h2
/-! ### operators -/
theorem opd_l {r r' : R2} {x y : D} (h : OpD r x y φ) : OpD (fun x y H Q => r x y H Q ∨ r' x y H Q) x y φ := fun G H v w s a b Q k => .inl (h G H v w s a b Q k)
theorem opd_r {r r' : R2} {x y : D} (h : OpD r' x y φ) : OpD (fun x y H Q => r x y H Q ∨ r' x y H Q) x y φ := fun G H v w s a b Q k => .inr (h G H v w s a b Q k)
theorem cbd_l {r r' : List V → Hp → VK → Prop} {xs : List D} (h : CbD r xs φ) : CbD (fun xs H Q => r xs H Q ∨ r' xs H Q) xs φ := fun G H vs s a Q k => .inl (h G H vs s a Q k)
theorem cbd_r {r r' : List V → Hp → VK → Prop} {xs : List D} (h : CbD r' xs φ) : CbD (fun xs H Q => r xs H Q ∨ r' xs H Q) xs φ := fun G H vs s a Q k => .inr (h G H vs s a Q k)
theorem opd_b {g : Int → Int → Bool} {i j : Int} (q : φ (.bl (g i j))) : OpD (rI0 fun i j => .bl (g i j)) (.int i) (.int j) φ := fun G H v w s a b Q k => by
  cases a
  cases b
  exact ⟨_, _, rfl, rfl, k _ _ G H .refl s (.bl _) q⟩
theorem opd_i {g : Int → Int → Int} {i j : Int} (q : φ (.int (g i j))) : OpD (rI0 fun i j => .int (g i j)) (.int i) (.int j) φ := fun G H v w s a b Q k => by
  cases a
  cases b
  exact ⟨_, _, rfl, rfl, k _ _ G H .refl s (.int _) q⟩
theorem opd_c {C : Int → Int → Prop} {g : Int → Int → Int} {i j : Int} (c : C i j) (q : φ (.int (g i j))) : OpD (rI C fun i j => .int (g i j)) (.int i) (.int j) φ := fun G H v w s a b Q k => by
  cases a
  cases b
  exact ⟨_, _, rfl, rfl, c, k _ _ G H .refl s (.int _) q⟩
theorem opd_ltS {x y : Str} (q : φ (.bl (decide (x.cps.toList < y.cps.toList)))) :
    OpD (fun x y H Q => ∃ i j, x = .str i ∧ y = .str j ∧ Q (.bl (decide (i.cps.toList < j.cps.toList))) H) (.str x) (.str y) φ := fun G H v w s a b Q k => by
  cases a
  cases b
  exact ⟨_, _, rfl, rfl, k _ _ G H .refl s (.bl _) q⟩
theorem opd_addS {x y : Str} (l : x.length + y.length ≤ 1000) (q : φ (.str (x ++ y))) :
    OpD (fun x y H Q => ∃ i j, x = .str i ∧ y = .str j ∧ i.length + j.length ≤ sizeLine ∧ Q (.str (i ++ j)) H) (.str x) (.str y) φ := fun G H v w s a b Q k => by
  cases a
  cases b
  exact ⟨_, _, rfl, rfl, Nat.le_trans l (by decide), k _ _ G H .refl s (.str _) q⟩
theorem opd_eqI {i j : Int} (q : φ (.bl (decide (i = j)))) : OpD rEq (.int i) (.int j) φ := fun G H v w s a b Q k => by
  cases a
  cases b
  refine ⟨rfl, k _ _ G H .refl s (.bl _) ?_⟩
  rw [show decide (V.int i = V.int j) = decide (i = j) from decide_eq_decide.mpr ⟨V.int.inj, congrArg _⟩]
  exact q
theorem opd_neI {i j : Int} (q : φ (.bl (!decide (i = j)))) : OpD rNe (.int i) (.int j) φ := fun G H v w s a b Q k => by
  cases a
  cases b
  refine ⟨rfl, k _ _ G H .refl s (.bl _) ?_⟩
  rw [show decide (V.int i = V.int j) = decide (i = j) from decide_eq_decide.mpr ⟨V.int.inj, congrArg _⟩]
  exact q
theorem opd_neS {i j : Str} (q : φ (.bl (!decide (i = j)))) : OpD rNe (.str i) (.str j) φ := fun G H v w s a b Q k => by
  cases a
  cases b
  refine ⟨rfl, k _ _ G H .refl s (.bl _) ?_⟩
  rw [show decide (V.str i = V.str j) = decide (i = j) from decide_eq_decide.mpr ⟨V.str.inj, congrArg _⟩]
  exact q
theorem opd_eqS {i j : Str} (q : φ (.bl (decide (i = j)))) : OpD rEq (.str i) (.str j) φ := fun G H v w s a b Q k => by
  cases a
  cases b
  refine ⟨rfl, k _ _ G H .refl s (.bl _) ?_⟩
  rw [show decide (V.str i = V.str j) = decide (i = j) from decide_eq_decide.mpr ⟨V.str.inj, congrArg _⟩]
  exact q
theorem inV_ints {i : Int} : ∀ {zs : List Int}, inV (.int i) (zs.map V.int) = decide (i ∈ zs)
  | [] => by simp [inV]
  | z :: zs => by
    have ih := inV_ints (i := i) (zs := zs)
    unfold inV at ih ⊢
    rw [List.map_cons, List.any_cons, ih]
    show (z == i || decide (i ∈ zs)) = _
    by_cases h : z = i
    · subst h; simp
    · have h' : ¬ i = z := fun q => h q.symm
      simp [h, h']
theorem opd_inI {neg : Bool} {i : Int} {zs : List Int} {y : D} (e : y = .lst (zs.map D.int) ∨ y = .tup (zs.map D.int)) (q : φ (.bl (if neg then !decide (i ∈ zs) else decide (i ∈ zs)))) :
    OpD (rIn K neg) (.int i) y φ := fun G H v w s a b Q k => by
  cases a
  have fl : (zs.map V.int).all flatV = true := by
    rw [List.all_map]
    exact List.all_eq_true.mpr fun _ _ => rfl
  rcases e with rfl | rfl
  · obtain ⟨p0, xs, rfl, ha, al⟩ := at_lst b
    obtain rfl := atAll_ints al
    refine ⟨p0, _, rfl, .inl (sqL_of s ha), rfl, fl, ?_⟩
    rw [inV_ints]
    exact k _ _ G H .refl s (.bl _) q
  · obtain ⟨p0, xs, rfl, ha, al⟩ := at_tup b
    obtain rfl := atAll_ints al
    refine ⟨p0, _, rfl, .inr (sqT_of s ha), rfl, fl, ?_⟩
    rw [inV_ints]
    exact k _ _ G H .refl s (.bl _) q
theorem opd_sign {c : Nat} {z : Str} (q : φ (.bl (decide (c ∈ z.cps.toList)))) :
    OpD (fun x y H Q => ∃ (c : Nat) (z : Str), x = .str ⟨#[c]⟩ ∧ y = .str z ∧ Q (.bl (decide (c ∈ z.cps.toList))) H) (.str ⟨#[c]⟩) (.str z) φ := fun G H v w s a b Q k => by
  cases a
  cases b
  exact ⟨_, _, rfl, rfl, k _ _ G H .refl s (.bl _) q⟩
theorem opd_ix {y : D} {ds : List D} {n : Nat} {i : Int} {d : D} (ey : y = .lst ds ∨ y = .tup ds) (ei : i = (n : Int)) (e : ds[n]? = some d) (q : φ d) : OpD (rIx K) y (.int i) φ := fun G H v w s aa b Q k => by
  cases b
  subst ei
  rcases ey with rfl | rfl
  · obtain ⟨p0, xs, rfl, ha, al⟩ := at_lst aa
    obtain ⟨v, e2, av⟩ := al.get e
    exact .inl ⟨p0, xs, _, v, rfl, rfl, sqL_of s ha, atI_nat e2, k _ _ G H .refl s av q⟩
  · obtain ⟨p0, xs, rfl, ha, al⟩ := at_tup aa
    obtain ⟨v, e2, av⟩ := al.get e
    exact .inr (.inl ⟨p0, xs, _, v, rfl, rfl, sqT_of s ha, atI_nat e2, k _ _ G H .refl s av q⟩)
theorem opd_ixS {z : Str} {n : Nat} {i : Int} {c : Nat} (l : z.length ≤ 1000) (ei : i = (n : Int)) (e : z.cps.toList[n]? = some c) (q : φ (.str ⟨#[c]⟩)) : OpD (rIx K) (.str z) (.int i) φ := fun G H v w s a b Q k => by
  cases a
  cases b
  subst ei
  refine .inr (.inr ⟨z, _, c, rfl, rfl, Nat.le_trans l (by decide), ?_, k _ _ G H .refl s (.str _) q⟩)
  have lt := (List.getElem?_eq_some_iff.mp e).1
  unfold atI ixN
  rw [if_pos (by omega), if_pos (by omega)]
  simpa using e
/-! tuples put together -/
theorem opd_catT {ds es : List D} (l : ds.length + es.length ≤ 100000) (q : φ (.tup (ds ++ es))) : OpD (rCatA K) (.tup ds) (.tup es) φ := fun G H v w s a b Q k => by
  obtain ⟨p0, xs, rfl, ha, al⟩ := at_tup a
  obtain ⟨p1, ys, rfl, hb, bl⟩ := at_tup b
  refine ⟨p0, p1, xs, ys, rfl, rfl, sqT_of s ha, sqT_of s hb, by rw [al.length, bl.length]; exact Nat.le_trans l (by decide), fun e => ?_, fun _ e => ?_, fun _ _ p hp => ?_⟩
  · subst e
    cases al
    exact k _ _ G H .refl s (.tup hb bl) q
  · subst e
    cases bl
    rw [List.append_nil] at q
    exact k _ _ G H .refl s (.tup ha al) q
  · have st : Stp S0 G H (upd G p (.tup (xs ++ ys))) (upd H p (.tup (xs ++ ys))) := .new s hp
    exact k _ _ _ _ st (upd_same2 s) (.tup (.inl upd_same) ((al.app bl).same st.gs)) q
theorem opd_catL {ds es : List D} (l : ds.length + es.length ≤ 100000) (q : φ (.lst (ds ++ es))) : OpD rCat (.lst ds) (.lst es) φ := fun G H v w s a b Q k => by
  obtain ⟨p0, xs, rfl, ha, al⟩ := at_lst a
  obtain ⟨p1, ys, rfl, hb, bl⟩ := at_lst b
  refine ⟨p0, p1, xs, ys, rfl, rfl, s _ _ ha, s _ _ hb, by rw [al.length, bl.length]; exact Nat.le_trans l (by decide), fun p hp => ?_⟩
  have st : Stp S0 G H (upd G p (.lst (xs ++ ys))) (upd H p (.lst (xs ++ ys))) := .new s hp
  exact k _ _ _ _ st (upd_same2 s) (.lst upd_same ((al.app bl).same st.gs)) q
theorem AtAll.rep {G : Hp} {vs : List V} {ds : List D} (h : AtAll G vs ds) : ∀ n, AtAll G (List.replicate n vs).flatten (List.replicate n ds).flatten
  | 0 => .nil
  | n + 1 => by
    rw [List.replicate_succ, List.replicate_succ, List.flatten_cons, List.flatten_cons]
    exact h.app (AtAll.rep h n)
theorem opd_repT {d : D} {n : Nat} {i : Int} (ei : i = (n : Int)) (l1 : 2 ≤ n) (l2 : n ≤ 1000) (q : φ (.tup (List.replicate n d))) : OpD (rRepT K) (.tup [d]) (.int i) φ := fun G H v w s a b Q k => by
  obtain ⟨p0, xs, rfl, ha, al⟩ := at_tup a
  cases b
  subst ei
  have ne : xs ≠ [] := fun z => by subst z; cases al
  refine ⟨p0, _, xs, rfl, rfl, sqT_of s ha, ne, by omega, by omega, by rw [al.length]; show 1 ≤ 1000; decide, fun p hp => ?_⟩
  have st : Stp S0 G H (upd G p (.tup (List.replicate (n : Int).toNat xs).flatten)) (upd H p (.tup (List.replicate (n : Int).toNat xs).flatten)) := .new s hp
  refine k _ _ _ _ st (upd_same2 s) (.tup (.inl upd_same) ((al.rep _).same st.gs)) ?_
  have e : (List.replicate (n : Int).toNat [d]).flatten = List.replicate n d := by
    rw [Int.toNat_natCast]
    clear l1 l2 q ha al ne hp st k s
    induction n with
    | zero => rfl
    | succ n ih => rw [List.replicate_succ, List.replicate_succ, List.flatten_cons, ih]; rfl
  rw [e]
  exact q
/-! slices -/
def SlD (r : V → Option Int → Option Int → Hp → VK → Prop) (x : D) (lo hi : Option Int) (φ : D → Prop) : Prop := ∀ G H v, Same G H → At G v x → ∀ Q : VK,
  (∀ z d G' H', Stp S0 G H G' H' → Same G' H' → At G' z d → φ d → Q z H') → r v lo hi H Q
def cutD (ds : List D) (lo hi : Option Int) : List D := (ds.drop (HT.sIx ds.length 0 lo)).take (HT.sIx ds.length ds.length hi - HT.sIx ds.length 0 lo)
theorem AtAll.cut {G : Hp} {vs : List V} {ds : List D} (h : AtAll G vs ds) {lo hi : Option Int} : AtAll G (cutV vs lo hi) (cutD ds lo hi) := by
  unfold cutV cutD
  rw [h.length]
  exact (h.drop _).take _
theorem sld_L {ds : List D} {lo hi : Option Int} (q : φ (.lst (cutD ds lo hi))) : SlD (rSlL K) (.lst ds) lo hi φ := fun G H v s a Q k => by
  obtain ⟨p0, xs, rfl, ha, al⟩ := at_lst a
  refine ⟨p0, xs, rfl, sqL_of s ha, fun p hp => ?_⟩
  have st : Stp S0 G H (upd G p (.lst (cutV xs lo hi))) (upd H p (.lst (cutV xs lo hi))) := .new s hp
  exact k _ _ _ _ st (upd_same2 s) (.lst upd_same (al.cut.same st.gs)) q
theorem sld_T {ds : List D} {lo hi : Option Int} (q : φ (.tup (cutD ds lo hi))) : SlD (rSlA K) (.tup ds) lo hi φ := fun G H v s a Q k => by
  obtain ⟨p0, xs, rfl, ha, al⟩ := at_tup a
  refine ⟨p0, xs, rfl, sqT_of s ha, fun e => ?_, fun _ p hp => ?_⟩
  · have ec : cutD ds lo hi = ds := by
      unfold cutD
      rw [← al.length, e.1, e.2, List.drop_zero, Nat.sub_zero, al.length, List.take_length]
    rw [ec] at q
    exact k _ _ G H .refl s (.tup ha al) q
  · have st : Stp S0 G H (upd G p (.tup (cutV xs lo hi))) (upd H p (.tup (cutV xs lo hi))) := .new s hp
    exact k _ _ _ _ st (upd_same2 s) (.tup (.inl upd_same) (al.cut.same st.gs)) q
theorem sld_l {r r' : V → Option Int → Option Int → Hp → VK → Prop} {x : D} {lo hi : Option Int} (h : SlD r x lo hi φ) : SlD (fun x lo hi H Q => r x lo hi H Q ∨ r' x lo hi H Q) x lo hi φ := fun G H v s a Q k => .inl (h G H v s a Q k)
theorem sld_r {r r' : V → Option Int → Option Int → Hp → VK → Prop} {x : D} {lo hi : Option Int} (h : SlD r' x lo hi φ) : SlD (fun x lo hi H Q => r x lo hi H Q ∨ r' x lo hi H Q) x lo hi φ := fun G H v s a Q k => .inr (h G H v s a Q k)
def WpO (R : Rg) (t : TO) (δ : List Sl) (φ : Option Int → Prop) : Prop := ∀ σ G H, Ens R.T G H δ σ → Rz R G H → ∀ Q : Option Int → Hp → Prop,
  (∀ v G' H', Stp R.T.S G H G' H' → Ens R.T G' H' δ σ → φ v → Q v H') → t σ H Q
theorem wpe_slice {r : V → Option Int → Option Int → Hp → VK → Prop} {tl th : TO} (h : WpE R te δ fun x => WpO R tl δ fun l => WpO R th δ fun u => SlD r x l u φ) : WpE R (tSl r te tl th) δ φ := fun σ G H en rz Q k =>
  h σ G H en rz _ fun v x G1 H1 s1 e1 a1 h1 => h1 σ G1 H1 e1 (rz.stepB (s1.toB en.old)) _ fun l G2 H2 s2 e2 h2 =>
    h2 σ G2 H2 e2 ((rz.stepB (s1.toB en.old)).stepB (s2.toB e1.old)) _ fun u G3 H3 s3 e3 h3 =>
      h3 G3 H3 v e3.same ((a1.same s2.gs).same s3.gs) Q fun z d G4 H4 s4 sm a4 q => k z d G4 H4 (((s1.trans s2).trans s3).trans s4.zero) (e3.step0 s4 sm) a4 q
/-! ### built-ins -/
theorem cbd_len {y : D} {ds : List D} (e : y = .lst ds ∨ y = .tup ds) (q : φ (.int ds.length)) :
    CbD (fun xs H Q => ∃ p ys, xs = [.ref p] ∧ (SqL K H p ys ∨ SqT K H p ys) ∧ Q (.int ys.length) H) [y] φ := fun G H vs s a Q k => by
  cases a with
  | cons a t =>
    cases t
    rcases e with rfl | rfl
    · obtain ⟨p0, xs, rfl, ha, al⟩ := at_lst a
      refine ⟨p0, xs, rfl, .inl (sqL_of s ha), ?_⟩
      rw [al.length]
      exact k _ _ G H .refl s (.int _) q
    · obtain ⟨p0, xs, rfl, ha, al⟩ := at_tup a
      refine ⟨p0, xs, rfl, .inr (sqT_of s ha), ?_⟩
      rw [al.length]
      exact k _ _ G H .refl s (.int _) q
theorem cbd_lenS {z : Str} (l : z.length ≤ 1000) (q : φ (.int z.length)) : CbD (fun xs H Q => ∃ z, xs = [.str z] ∧ z.length ≤ sizeLine ∧ Q (.int z.length) H) [.str z] φ := fun G H vs s a Q k => by
  cases a with
  | cons a t =>
    cases t
    cases a
    exact ⟨z, rfl, Nat.le_trans l (by decide), k _ _ G H .refl s (.int _) q⟩
theorem cbd_all {bs : List Bool} (q : φ (.bl (bs.all id))) : CbD (rAll K) [.lst (bs.map D.bl)] φ := fun G H vs s a Q k => by
  cases a with
  | cons a t =>
    cases t
    obtain ⟨p0, xs, rfl, ha, al⟩ := at_lst a
    obtain rfl := bls_atAll al
    exact ⟨p0, bs, rfl, sqL_of s ha, k _ _ G H .refl s (.bl _) q⟩
/-- is every item so -/
theorem cbd_allm {ds : List D} {f : D → Bool} (q : φ (.bl (ds.all f))) : CbD (rAll K) [.lst (ds.map fun d => D.bl (f d))] φ := by
  have e : (ds.map fun d => D.bl (f d)) = (ds.map f).map D.bl := by rw [List.map_map]; rfl
  rw [e]
  refine cbd_all ?_
  rw [List.all_map]
  exact q
theorem cbd_sorted {zs : List Int} (q : ∀ ys : List Int, ys.Perm zs → ys.Pairwise (· ≤ ·) → φ (.lst (ys.map D.int))) : CbD (rSortedI K) [.lst (zs.map D.int)] φ := fun G H vs s a Q k => by
  cases a with
  | cons a t =>
    cases t
    obtain ⟨p0, xs, rfl, ha, al⟩ := at_lst a
    obtain rfl := atAll_ints al
    refine ⟨p0, zs, rfl, sqL_of s ha, fun ys p h1 h2 hp => ?_⟩
    have st : Stp S0 G H (upd G p (.lst (ys.map V.int))) (upd H p (.lst (ys.map V.int))) := .new s hp
    exact k _ _ _ _ st (upd_same2 s) (.lst upd_same (ints_atAll ys)) (q ys h1 h2)
theorem cbd_tupL {ds : List D} (q : φ (.tup ds)) : CbD (fun xs H Q => ∃ p ys, xs = [.ref p] ∧ ((SqL K H p ys ∧ ∀ l, H l = none → Q (.ref l) (upd H l (.tup ys))) ∨ (SqT K H p ys ∧ Q (.ref p) H))) [.lst ds] φ := fun G H vs s a Q k => by
  cases a with
  | cons a t =>
    cases t
    obtain ⟨p0, xs, rfl, ha, al⟩ := at_lst a
    refine ⟨p0, xs, rfl, .inl ⟨sqL_of s ha, fun p hp => ?_⟩⟩
    have st : Stp S0 G H (upd G p (.tup xs)) (upd H p (.tup xs)) := .new s hp
    exact k _ _ _ _ st (upd_same2 s) (.tup (.inl upd_same) (al.same st.gs)) q
theorem cbd_lstOf {ds : List D} {y : D} (e : y = .lst ds ∨ y = .tup ds) (q : φ (.lst ds)) :
    CbD (fun xs H Q => ∃ p ys, xs = [.ref p] ∧ (SqL K H p ys ∨ SqT K H p ys) ∧ ∀ l, H l = none → Q (.ref l) (upd H l (.lst ys))) [y] φ := fun G H vs s a Q k => by
  cases a with
  | cons a t =>
    cases t
    rcases e with rfl | rfl
    · obtain ⟨p0, xs, rfl, ha, al⟩ := at_lst a
      refine ⟨p0, xs, rfl, .inl (sqL_of s ha), fun p hp => ?_⟩
      have st : Stp S0 G H (upd G p (.lst xs)) (upd H p (.lst xs)) := .new s hp
      exact k _ _ _ _ st (upd_same2 s) (.lst upd_same (al.same st.gs)) q
    · obtain ⟨p0, xs, rfl, ha, al⟩ := at_tup a
      refine ⟨p0, xs, rfl, .inr (sqT_of s ha), fun p hp => ?_⟩
      have st : Stp S0 G H (upd G p (.lst xs)) (upd H p (.lst xs)) := .new s hp
      exact k _ _ _ _ st (upd_same2 s) (.lst upd_same (al.same st.gs)) q
/-! kinds -/
def isIntD : D → Bool
  | .int _ => true
  | .bl _ => true
  | _ => false
def isBlD : D → Bool
  | .bl _ => true
  | _ => false
def isStrD : D → Bool
  | .str _ => true
  | _ => false
def isTupD : D → Bool
  | .tup _ => true
  | _ => false
/-- no instance, no class -/
def plnD : D → Bool
  | .ins _ _ _ => false
  | .ty _ => false
  | _ => true
theorem ty_of {G H : Hp} {v : V} {d : D} (s : Same G H) (a : At G v d) (p : plnD d = true) : ∃ T : String, TyX K H v (.type T) ∧ PySem.W.kitOne K (.type T) (.type "int") = some (isIntD d) ∧
    PySem.W.kitOne K (.type T) (.type "bool") = some (isBlD d) ∧ PySem.W.kitOne K (.type T) (.type "str") = some (isStrD d) ∧ PySem.W.kitOne K (.type T) (.type "tuple") = some (isTupD d) := by
  cases a with
  | non => exact ⟨_, .base .non, kit_ty (show kitB "NoneType" "int" = some false by decide +kernel), kit_ty (show kitB "NoneType" "bool" = some false by decide +kernel), kit_ty (show kitB "NoneType" "str" = some false by decide +kernel), kit_ty (show kitB "NoneType" "tuple" = some false by decide +kernel)⟩
  | bl b => exact ⟨_, .base (.bl b), kit_ty (show kitB "bool" "int" = some true by decide +kernel), kit_ty (show kitB "bool" "bool" = some true by decide +kernel), kit_ty (show kitB "bool" "str" = some false by decide +kernel), kit_ty (show kitB "bool" "tuple" = some false by decide +kernel)⟩
  | int i => exact ⟨_, .base (.int i), kit_ty (show kitB "int" "int" = some true by decide +kernel), kit_ty (show kitB "int" "bool" = some false by decide +kernel), kit_ty (show kitB "int" "str" = some false by decide +kernel), kit_ty (show kitB "int" "tuple" = some false by decide +kernel)⟩
  | str x => exact ⟨_, .base (.str x), kit_ty (show kitB "str" "int" = some false by decide +kernel), kit_ty (show kitB "str" "bool" = some false by decide +kernel), kit_ty (show kitB "str" "str" = some true by decide +kernel), kit_ty (show kitB "str" "tuple" = some false by decide +kernel)⟩
  | lst e t => exact ⟨_, .base (.lst (s _ _ e)), kit_ty (show kitB "list" "int" = some false by decide +kernel), kit_ty (show kitB "list" "bool" = some false by decide +kernel), kit_ty (show kitB "list" "str" = some false by decide +kernel), kit_ty (show kitB "list" "tuple" = some false by decide +kernel)⟩
  | tup e t =>
    rcases e with e | ⟨o, e⟩
    · exact ⟨_, .base (.tup (s _ _ e)), kit_ty (show kitB "tuple" "int" = some false by decide +kernel), kit_ty (show kitB "tuple" "bool" = some false by decide +kernel), kit_ty (show kitB "tuple" "str" = some false by decide +kernel), kit_ty (show kitB "tuple" "tuple" = some true by decide +kernel)⟩
    · exact ⟨_, .fTuple (s _ _ e), kit_ty (show kitB "tuple" "int" = some false by decide +kernel), kit_ty (show kitB "tuple" "bool" = some false by decide +kernel), kit_ty (show kitB "tuple" "str" = some false by decide +kernel), kit_ty (show kitB "tuple" "tuple" = some true by decide +kernel)⟩
  | dic e t => exact ⟨_, .base (.dK (s _ _ e)), kit_ty (show kitB "dict" "int" = some false by decide +kernel), kit_ty (show kitB "dict" "bool" = some false by decide +kernel), kit_ty (show kitB "dict" "str" = some false by decide +kernel), kit_ty (show kitB "dict" "tuple" = some false by decide +kernel)⟩
  | ty T => cases p
  | ins e t => cases p
theorem cbd_isI {d : D} (p : plnD d = true) (q : φ (.bl (isIntD d))) : CbD (rIsi K) [d, .ty "int"] φ := fun G H vs s a Q k => by
  cases a with
  | cons a t => cases t with
    | cons b t =>
      cases t
      cases b
      obtain ⟨T, h1, h2, h3, h4, h5⟩ := ty_of (K := K) s a p
      exact ⟨_, _, _, _, _, rfl, .ty _, h1, h2, k _ _ G H .refl s (.bl _) q⟩
theorem cbd_isB {d : D} (p : plnD d = true) (q : φ (.bl (isBlD d))) : CbD (rIsi K) [d, .ty "bool"] φ := fun G H vs s a Q k => by
  cases a with
  | cons a t => cases t with
    | cons b t =>
      cases t
      cases b
      obtain ⟨T, h1, h2, h3, h4, h5⟩ := ty_of (K := K) s a p
      exact ⟨_, _, _, _, _, rfl, .ty _, h1, h3, k _ _ G H .refl s (.bl _) q⟩
theorem cbd_isS {d : D} (p : plnD d = true) (q : φ (.bl (isStrD d))) : CbD (rIsi K) [d, .ty "str"] φ := fun G H vs s a Q k => by
  cases a with
  | cons a t => cases t with
    | cons b t =>
      cases t
      cases b
      obtain ⟨T, h1, h2, h3, h4, h5⟩ := ty_of (K := K) s a p
      exact ⟨_, _, _, _, _, rfl, .ty _, h1, h4, k _ _ G H .refl s (.bl _) q⟩
theorem cbd_isT {d : D} (p : plnD d = true) (q : φ (.bl (isTupD d))) : CbD (rIsi K) [d, .ty "tuple"] φ := fun G H vs s a Q k => by
  cases a with
  | cons a t => cases t with
    | cons b t =>
      cases t
      cases b
      obtain ⟨T, h1, h2, h3, h4, h5⟩ := ty_of (K := K) s a p
      exact ⟨_, _, _, _, _, rfl, .ty _, h1, h5, k _ _ G H .refl s (.bl _) q⟩
theorem wpe_ty {T : String} (q : φ (.ty T)) : WpE R (tC (.ty T)) δ φ := fun σ G H en rz Q k => k _ _ G H .refl en (.ty T) q
end
end Nv
/-! Nv, part U: promises of defs over data; calls; lists that a slot owns. -/
namespace Nv
open PySem PySem.Spec PyProof.Rows L2

/-- what a def over data wants, tells, and raises -/
structure Spc where
  pre : List Sl → Prop
  post : List Sl → D → Prop
  err : List Sl → Addr → D → Prop := fun _ _ _ => False
/-- what is raised -/
def RzW (S : Addr → Prop) (E : XK) (X : Addr → D → Prop) (G H : Hp) : Prop := ∀ C dd w d G' H', Stp S G H G' H' → H' dd = some (.xd (whatF w)) → At G' w d → X C d → Same G' H' → StO S G' H' → E (.ref C) (some dd) H'
def spW (c : Spc) (n : Nat) : Sp := fun vs H Q E => ∃ (S : Addr → Prop) (G : Hp) (as : List Sl), as.length = n ∧ Same G H ∧ StO S G H ∧ Args S G as vs ∧ c.pre as ∧
  (∀ v d G' H', Stp S G H G' H' → Same G' H' → StO S G' H' → At G' v d → c.post as d → Q v H') ∧ RzW S E (c.err as) G H
theorem replicate_get {α : Type} {n i : Nat} {x y : α} (h : (List.replicate n x)[i]? = some y) : y = x := by
  rw [List.getElem?_replicate] at h
  split at h
  · exact (Option.some.inj h).symm
  · exact nomatch h
theorem ens_start {S : Addr → Prop} {F : Addr → HO → Prop} {G H : Hp} {N : List Str} {vs : List V} {as : List Sl} (sm : Same G H) (st : StO S G H) (ar : Args S G as vs)
    (hF : ∀ b u, F b u → H b = some u ∧ ¬ S b ∧ H b ≠ none) : Ens ⟨fun b => H b ≠ none, S, F⟩ G H (as ++ List.replicate (N.length - as.length) .no) (L2.start N vs) := by
  have e := ar.length
  refine ⟨sm, by unfold L2.start; rw [List.length_append, List.length_append, List.length_map, List.length_replicate, List.length_replicate, e], fun i s h => ?_, st, fun b h => h, hF, fun i j a ds es h1 _ => ?_, fun i j a ds es h1 _ => ?_⟩
  · unfold L2.start
    by_cases lt : i < as.length
    · rw [List.getElem?_append_left lt] at h
      rw [List.getElem?_append_left (by rw [List.length_map, ← e]; exact lt)]
      obtain ⟨v, h2, r⟩ := ar.get h
      refine ⟨some v, by rw [List.getElem?_map, h2]; rfl, ?_⟩
      cases s with
      | no => trivial
      | fx _ => exact r.elim
      | da d => exact ⟨v, rfl, r⟩
      | st a =>
        obtain ⟨r1, r2⟩ := r
        exact ⟨by rw [r1], r2⟩
      | ow _ _ => exact r.elim
      | od _ _ => exact r.elim
      | fz _ _ => exact r.elim
    · rw [List.getElem?_append_right (by omega)] at h
      have hs := replicate_get h
      subst hs
      rw [List.getElem?_append_right (by rw [List.length_map]; omega), List.length_map]
      have lt2 := (List.getElem?_eq_some_iff.mp h).1
      rw [List.length_replicate] at lt2
      exact ⟨none, by rw [List.getElem?_replicate, if_pos (by omega)], trivial⟩
  · exfalso
    by_cases lt : i < as.length
    · rw [List.getElem?_append_left lt] at h1
      obtain ⟨v, _, r⟩ := ar.get h1
      exact r.elim
    · rw [List.getElem?_append_right (by omega)] at h1
      exact nomatch replicate_get h1
  · exfalso
    by_cases lt : i < as.length
    · rw [List.getElem?_append_left lt] at h1
      obtain ⟨v, _, r⟩ := ar.get h1
      exact r.elim
    · rw [List.getElem?_append_right (by omega)] at h1
      exact nomatch replicate_get h1
theorem RzW.rz {S : Addr → Prop} {E : XK} {X : Addr → D → Prop} {F : Addr → HO → Prop} {G H : Hp} (r : RzW S E X G H) : Rz ⟨E, X, ⟨fun b => H b ≠ none, S, F⟩⟩ G H :=
  fun C dd w d G' H' s => r C dd w d G' H' s.full
/-- from the reading over data to the promise -/
theorem wps_run {N : List Str} {c : Spc} {n : Nat} {t : TS} {vs : List V} {H : Hp} {Q : VK} {E : XK} {S : Addr → Prop} {G : Hp} {as : List Sl} (l : as.length = n) (sm : Same G H) (st : StO S G H) (ar : Args S G as vs)
    (k : ∀ v d G' H', Stp S G H G' H' → Same G' H' → StO S G' H' → At G' v d → c.post as d → Q v H') (r : RzW S E (c.err as) G H)
    (h : ∀ T : Tr, WpS ⟨E, c.err as, T⟩ t (as ++ List.replicate (N.length - n) .no) (fun _ => c.post as .non) (c.post as)) :
    t { nx := fun _ H' => Q .non H', rt := Q } (L2.start N vs) H := by
  subst l
  refine h ⟨fun b => H b ≠ none, S, fun _ _ => False⟩ _ G H (ens_start sm st ar fun _ _ z => z.elim) r.rz _ (fun δ' σ' G' H' sB en q => ?_) fun v d G' H' sB sm' so a q => ?_
  · exact k _ _ G' H' sB.full en.same en.stt .non q
  · exact k v d G' H' sB.full sm' so a q
section
variable {P : Program} {w : World} {K : PySem.W.Frag} {mg : Str → Option Value} {base : Heap}
/-- a def as it stands behind the top -/
structure Fn (K : PySem.W.Frag) (mg : Str → Option Value) (x : Str) (st : Stmt) (ps : List Str) (f : Addr) (fd : FuncData) : Prop where
  F : Fun K x x st f fd
  m : mg x = some (.ref f)
  b : Binds K fd ps []
/-- such a def keeps a promise -/
structure Dk (P : Program) (w : World) (K : PySem.W.Frag) (mg : Str → Option Value) (base : Heap) (x : Str) (CX : CXT) (k : Nat) (ps : List Str) (sp : Sp) : Prop where
  ex : ∃ f fd, FnOk P w K mg base CX k f fd ps sp ∧ mg x = some (.ref f) ∧ PySem.W.keepIn K (.ref f) = true ∧ Binds K fd ps []
theorem Dk.mono {x : Str} {CX : CXT} {k j : Nat} {ps : List Str} {sp : Sp} (h : Dk P w K mg base x CX k ps sp) (l : k ≤ j) : Dk P w K mg base x CX j ps sp := by
  obtain ⟨f, fd, F, r⟩ := h.ex
  exact ⟨f, fd, F.mono l, r⟩
theorem Fn.ok {x : Str} {st : Stmt} {N ps : List Str} {f : Addr} {fd : FuncData} {n k : Nat} {c : Spc} (F : Fn K mg x st ps f fd) (S : FnScope N ps (defScope st)) (hn : ps.length = n)
    (h : ∀ (cdv : Value) (A : Around) (outer : List Env) (s : Shared) (H : Hp) (E : XK) (as : List Sl), Room k (A.deeper (envOfC x (defScope st) s.heap.objs.size f cdv)) → c.pre as → as.length = n →
      ∃ t, PSs (cxOf CX0 P w K mg base N x (defScope st) f cdv A outer s H E).nox (defBody st) t ∧
        ∀ T : Tr, WpS ⟨E, c.err as, T⟩ t (as ++ List.replicate (N.length - n) .no) (fun _ => c.post as .non) (c.post as)) :
    Dk P w K mg base x CX0 (k + 1) ps (spW c n) := by
  refine ⟨f, fd, F.F.ok S (fun vs H Q E h => ?_) (fun cdv A outer s H vs Q E hr q => ?_), F.m, F.F.kp, F.b⟩
  · obtain ⟨S, G, as, l, _, _, ar, _⟩ := h
    rw [← ar.length, l, hn]
  · obtain ⟨S, G, as, l, sm, so, ar, p, k, r⟩ := q
    obtain ⟨t, h1, h2⟩ := h cdv A outer s H E as hr p l
    exact ⟨t, h1, wps_run l sm so ar k r h2⟩
end
section
variable {X : Cx} {CX : CXT} {k : Nat} {ps : List Str} {sp : Sp} {E : XK} {x : Str} {p pos : Pos} {e : Expr} {es : List Expr} {t : TA}
/-- f(e, ..) -/
theorem pe_callD (F : Dk X.prog X.w X.K X.mg X.base x CX k ps sp) (hr : Room k X.A) (hg : Gl X x) (hx : Passes CX X E) (ha : PA X (e :: es) t)
    (hdb : (x == ("__debug__" : Str)) = false := by decide)
    (he : starEach (e :: es) X.env = (false, eval e X.env) :: starEach es X.env := by rfl)
    (hpl : (backTo pos (starEach es X.env)).any (·.1) = false := by rfl) :
    PE X (.Call (.Name x p) (e :: es) [] pos) (tCall sp [] E t) := by
  obtain ⟨f, fd, h1, h2, h3, h4⟩ := F.ex
  exact pe_call h1 hr hg h2 h3 h4 .nil hx ha hdb he hpl
end
theorem AtAll.setD {G : Hp} : ∀ {vs : List V} {ds : List D}, AtAll G vs ds → ∀ {v : V} {d : D}, At G v d → ∀ {n : Nat}, AtAll G (vs.set n v) (ds.set n d)
  | _, _, .nil, _, _, _, _ => .nil
  | _, _, .cons a b, _, _, h, 0 => .cons h b
  | _, _, .cons a b, _, _, h, _ + 1 => .cons a (AtAll.setD b h)
section
variable {R : Rg} {δ : List Sl} {te ta tb tc : TE} {t u : TT} {tr : TA} {φ : D → Prop} {K : PySem.W.Frag}
theorem wpe_call {c : Spc} {n : Nat} (h : WpA R tr δ fun as => as.length = n ∧ c.pre as ∧ (∀ d, c.post as d → φ d) ∧ ∀ C d, c.err as C d → R.X C d) : WpE R (tCall (spW c n) [] R.E tr) δ φ := fun σ G H en rz Q k =>
  h σ G H en rz _ fun vs as G1 H1 s1 e1 a1 ⟨l, p, q, r⟩ => by
    show spW c n (vs ++ []) H1 Q R.E
    rw [List.append_nil]
    refine ⟨R.T.S, G1, as, l, e1.same, e1.stt, a1, p, fun v d G' H' st sm so a pq => k v d G' H' (s1.trans st) (e1.step st (fun _ z => z) sm so) a (q d pq), fun C dd w d G' H' st hx a x sm so => ?_⟩
    exact rz C dd w d G' H' ((s1.toB en.old).trans (st.toB e1.old)) hx a (r C d x) sm so
/-- a def that raises nothing, any E -/
theorem wpe_call0 {c : Spc} {n : Nat} {E : XK} (h : WpA R tr δ fun as => as.length = n ∧ c.pre as ∧ (∀ d, c.post as d → φ d) ∧ ∀ C d, ¬ c.err as C d) : WpE R (tCall (spW c n) [] E tr) δ φ := fun σ G H en rz Q k =>
  h σ G H en rz _ fun vs as G1 H1 s1 e1 a1 ⟨l, p, q, r⟩ => by
    show spW c n (vs ++ []) H1 Q E
    rw [List.append_nil]
    exact ⟨R.T.S, G1, as, l, e1.same, e1.stt, a1, p, fun v d G' H' st sm so a pq => k v d G' H' (s1.trans st) (e1.step st (fun _ z => z) sm so) a (q d pq), fun C dd w d G' H' st hx a x => (r C d x).elim⟩
/-! ### lists that a slot owns -/
theorem Ens.grow {T : Tr} {G H H' : Hp} {σ : L2.St} (en : Ens T G H δ σ) (s : Same H H') : Ens T G H' δ σ :=
  en.step (S' := S0) (Stp.grow s) (fun _ z => z.elim) (en.same.trans s) sto0
theorem Ens.own {T : Tr} {G H : Hp} {σ : L2.St} (en : Ens T G H δ σ) {i : Nat} {p : Addr} (hp : H p = none) : Ens T G (upd H p (.lst [])) (δ.set i (.ow p [])) (σ.set i (some (.ref p))) := by
  have e1 : Ens T G (upd H p (.lst [])) δ σ := en.grow (same_upd hp)
  have nS : ¬ T.S p := fun z => by
    obtain ⟨_, x, y, w, e⟩ := en.stt p z
    rw [hp] at e
    exact nomatch e
  have nO : ¬ T.O p := fun z => en.old p z hp
  have nG : G p = none := en.same.free hp
  have no : ∀ (k : Nat) (ds : List D), ¬ δ[k]? = some (.ow p ds) := fun k ds z => by
    obtain ⟨o, _, _, _, _, xs, r, _⟩ := en.get k _ z
    rw [hp] at r
    exact nomatch r
  refine ⟨e1.same, by rw [List.length_set, List.length_set]; exact e1.len, fun j s e => ?_, e1.stt, e1.old, e1.inv, fun j k a ds es q1 q2 => ?_, fun j k a ds es q1 q2 => ?_⟩
  · rcases get_set e with ⟨rfl, rfl⟩ | ⟨ne, e⟩
    · have lt : j < σ.length := by
        rw [← e1.len]
        have := (List.getElem?_eq_some_iff.mp e).1
        rw [List.length_set] at this
        exact this
      exact ⟨some (.ref p), List.getElem?_set_self lt, rfl, ⟨nS, nO⟩, nG, [], upd_same, .nil⟩
    · obtain ⟨o, e2, r⟩ := e1.get j s e
      exact ⟨o, by rw [List.getElem?_set_ne (fun z => ne z.symm)]; exact e2, r⟩
  · rcases get_set q1 with ⟨rfl, z⟩ | ⟨n1, m1⟩
    · rcases get_set q2 with ⟨rfl, _⟩ | ⟨n2, m2⟩
      · rfl
      · obtain ⟨rfl, rfl⟩ := Sl.ow.inj z
        exact (no k es m2).elim
    · rcases get_set q2 with ⟨rfl, z⟩ | ⟨n2, m2⟩
      · obtain ⟨rfl, rfl⟩ := Sl.ow.inj z
        exact (no j ds m1).elim
      · exact e1.nd j k a ds es m1 m2
  · rcases get_set q1 with ⟨_, z⟩ | ⟨_, m1⟩
    · exact nomatch z
    · rcases get_set q2 with ⟨_, z⟩ | ⟨_, m2⟩
      · exact nomatch z
      · exact e1.nd2 j k a ds es m1 m2
/-- x = [] -/
theorem wps_newl {i : Nat} {Φ : List Sl → Prop} {Ψ : D → Prop} (h : ∀ p, Φ (δ.set i (.ow p []))) : WpS R (tAsg (tLst tNil) (gName i)) δ Φ Ψ := fun σ G H en rz Z k1 k2 =>
  ⟨Nat.zero_le _, fun p hp => k1 _ _ G _ ((Stp.grow (same_upd hp)).toB en.old) (en.own hp) (h p)⟩
/-- the list of slot i changed -/
theorem Ens.put {T : Tr} {G H : Hp} {σ : L2.St} (en : Ens T G H δ σ) {i : Nat} {p : Addr} {ds es : List D} {ys : List V} (e : δ[i]? = some (.ow p ds)) (a : AtAll G ys es) :
    Ens T G (upd H p (.lst ys)) (δ.set i (.ow p es)) σ := by
  obtain ⟨o, e1, rfl, nS, nG, xs, hx, al⟩ := en.get i _ e
  refine ⟨fun b u q => ?_, by rw [List.length_set]; exact en.len, fun j s q => ?_, fun b q => ?_, fun b q => ?_, fun b u q => ?_, fun j k b fs gs q1 q2 => ?_, fun j k b fs gs q1 q2 => ?_⟩
  · rw [upd_ne (fun z => by rw [z, nG] at q; exact nomatch q)]
    exact en.same b u q
  · rcases get_set q with ⟨rfl, rfl⟩ | ⟨ne, m⟩
    · exact ⟨_, e1, rfl, nS, nG, ys, upd_same, a⟩
    · obtain ⟨o, q2, r⟩ := en.get j s m
      refine ⟨o, q2, ?_⟩
      cases s with
      | no => trivial
      | fx v => exact r
      | da d => exact r
      | fz _ _ => exact r
      | st b => exact r
      | ow b fs =>
        obtain ⟨r1, r2, r3, zs, r4, r5⟩ := r
        have nb : b ≠ p := fun z => ne (by subst z; exact en.nd j i b fs ds m e)
        exact ⟨r1, r2, r3, zs, by rw [upd_ne nb]; exact r4, r5⟩
      | od b ks =>
        obtain ⟨r1, r2, r3, r4⟩ := r
        have nb : b ≠ p := fun z => by rw [z, hx] at r4; exact nomatch r4
        exact ⟨r1, r2, r3, by rw [upd_ne nb]; exact r4⟩
  · obtain ⟨g, x, y, w, q2⟩ := en.stt b q
    exact ⟨g, x, y, w, by rw [upd_ne (fun z => nS.1 (by rw [← z]; exact q))]; exact q2⟩
  · by_cases z : b = p
    · rw [z, upd_same]; exact fun q => nomatch q
    · rw [upd_ne z]; exact en.old b q
  · obtain ⟨f1, f2⟩ := en.inv b u q
    refine ⟨?_, f2⟩
    rw [upd_ne (fun z => nS.2 (by rw [← z]; exact f2.2))]
    exact f1
  · rcases get_set q1 with ⟨rfl, z⟩ | ⟨n1, m1⟩
    · obtain ⟨rfl, rfl⟩ := Sl.ow.inj z
      rcases get_set q2 with ⟨rfl, _⟩ | ⟨n2, m2⟩
      · rfl
      · exact en.nd j k _ ds gs e m2
    · rcases get_set q2 with ⟨rfl, z⟩ | ⟨n2, m2⟩
      · obtain ⟨rfl, rfl⟩ := Sl.ow.inj z
        exact en.nd j k _ fs ds m1 e
      · exact en.nd j k b fs gs m1 m2
  · rcases get_set q1 with ⟨_, z⟩ | ⟨_, m1⟩
    · exact nomatch z
    · rcases get_set q2 with ⟨_, z⟩ | ⟨_, m2⟩
      · exact nomatch z
      · exact en.nd2 j k b fs gs m1 m2
theorem Ens.putB {T : Tr} {G H : Hp} {σ : L2.St} (en : Ens T G H δ σ) {i : Nat} {p : Addr} {ds : List D} {ys : List V} (e : δ[i]? = some (.ow p ds)) : StB T.O T.S G H G (upd H p (.lst ys)) := by
  obtain ⟨o, e1, rfl, nS, nG, xs, hx, al⟩ := en.get i _ e
  exact ⟨.refl _, fun b u o q n => by rw [upd_ne (fun z => nS.2 (by rw [← z]; exact o))]; exact q, fun b q => by
    by_cases z : b = p
    · rw [z, upd_same]; exact fun q => nomatch q
    · rw [upd_ne z]; exact q, fun b _ q => q⟩
/-- x.append(e) -/
theorem wps_append {i : Nat} {p : Addr} {ds : List D} {Φ : List Sl → Prop} {Ψ : D → Prop} (e : δ[i]? = some (.ow p ds)) (l : ds.length ≤ 100000) (h : WpE R te δ fun d => Φ (δ.set i (.ow p (ds ++ [d])))) :
    WpS R (tDrop (tBM K "list" rAppend (tVar i) (tCons te tNil))) δ Φ Ψ := fun σ G H en rz Z k1 k2 => by
  obtain ⟨o, e1, rfl, nS, nG, xs, hx, al⟩ := en.get i _ e
  refine ⟨_, e1, .inl ⟨rfl, xs, .inl (.inl hx)⟩, h σ G H en rz _ fun v d G1 H1 s1 en1 a q => ?_⟩
  obtain ⟨o, _, e2, nS1, nG1, ys, hy, bl⟩ := en1.get i _ e
  have hy2 := s1.hs _ _ hx nS.1
  rw [hy] at hy2
  obtain rfl := HO.lst.inj (Option.some.inj hy2)
  refine ⟨_, ys, v, rfl, rfl, hy, by rw [bl.length]; exact Nat.lt_of_le_of_lt l (by decide), ?_⟩
  exact k1 _ _ G1 _ ((s1.toB en.old).trans (en1.putB e)) (en1.put e (bl.app (.cons a .nil))) q
/-- x[j] = e -/
theorem wps_store {i : Nat} {p : Addr} {ds : List D} {Φ : List Sl → Prop} {Ψ : D → Prop} (e : δ[i]? = some (.ow p ds)) (h : WpE R te δ fun d => WpE R ta δ fun j => ∃ n : Nat, j = .int n ∧ n < ds.length ∧ Φ (δ.set i (.ow p (ds.set n d)))) :
    WpS R (tAsg te (gSub (tVar i) ta rSetL)) δ Φ Ψ := fun σ G H en rz Z k1 k2 =>
  h σ G H en rz _ fun v d G1 H1 s1 en1 a h2 => by
    obtain ⟨o, e1, rfl, nS, nG, xs, hx, al⟩ := en1.get i _ e
    refine ⟨_, e1, h2 σ G1 H1 en1 (rz.stepB (s1.toB en.old)) _ fun w j G2 H2 s2 en2 a2 ⟨n, ej, lt, q⟩ => ?_⟩
    subst ej
    cases a2
    obtain ⟨o, _, e2, nS1, nG1, ys, hy, bl⟩ := en2.get i _ e
    have hy2 := s2.hs _ _ hx nS.1
    rw [hy] at hy2
    obtain rfl := HO.lst.inj (Option.some.inj hy2)
    refine ⟨_, ys, _, n, rfl, rfl, hy, ?_, ?_⟩
    · have := bl.length
      unfold ixN
      rw [if_pos (by omega), if_pos (by omega), Int.toNat_natCast]
    · exact k1 _ _ G2 _ (((s1.toB en.old).trans (s2.toB en1.old)).trans (en2.putB e)) (en2.put e (bl.setD (a.same s2.gs))) q
/-- x[j], the list of slot i read -/
theorem wpe_ixO {i : Nat} {p : Addr} {ds : List D} (e : δ[i]? = some (.ow p ds)) (h : WpE R ta δ fun j => ∃ (n : Nat) (d : D), j = .int n ∧ ds[n]? = some d ∧ φ d) : WpE R (tOp (rIx K) (tVar i) ta) δ φ := fun σ G H en rz Q k => by
  obtain ⟨o, e1, rfl, nS, nG, xs, hx, al⟩ := en.get i _ e
  refine ⟨_, e1, h σ G H en rz _ fun w j G2 H2 s2 en2 a2 ⟨n, d, ej, ed, q⟩ => ?_⟩
  subst ej
  cases a2
  have al2 := al.same s2.gs
  obtain ⟨v, ev, av⟩ := al2.get ed
  exact .inl ⟨p, xs, _, v, rfl, rfl, .inl (.inl (s2.hs _ _ hx nS.1)), atI_nat ev, k v d G2 H2 s2 en2 av q⟩
/-- j in x, the list of slot i read -/
theorem wpe_inO {neg : Bool} {i : Nat} {p : Addr} {zs : List Int} (e : δ[i]? = some (.ow p (zs.map D.int))) (h : WpE R ta δ fun j => ∃ n : Int, j = .int n ∧ φ (.bl (if neg then !decide (n ∈ zs) else decide (n ∈ zs)))) :
    WpE R (tOp (rIn K neg) ta (tVar i)) δ φ := fun σ G H en rz Q k =>
  h σ G H en rz _ fun w j G2 H2 s2 en2 a2 ⟨n, ej, q⟩ => by
    subst ej
    cases a2
    obtain ⟨o, e1, rfl, nS, nG, xs, hx, al⟩ := en2.get i _ e
    obtain rfl := atAll_ints al
    have fl : (zs.map V.int).all flatV = true := by
      rw [List.all_map]
      exact List.all_eq_true.mpr fun _ _ => rfl
    refine ⟨_, e1, p, _, rfl, .inl (.inl (.inl hx)), rfl, fl, ?_⟩
    rw [inV_ints]
    exact k _ _ G2 H2 s2 en2 (.bl _) q
end
end Nv
/-! Nv, part V: promises by number of arguments; the word wp. -/
namespace Nv
open PySem PySem.Spec PyProof.Rows L2
theorem ite_b {b : Bool} {p q : Prop} (h1 : b = true → p) (h2 : b = false → q) : if b = true then p else q := by
  cases b with
  | true => exact h1 rfl
  | false => exact h2 rfl
theorem ite_t {p q : Prop} (h : p) : if true = true then p else q := h
theorem ite_f {p q : Prop} (h : q) : if false = true then p else q := h
/-- what a name of the module holds -/
structure Gv (mg : Str → Option Value) (x : Str) (v : V) : Prop where
  ex : ∃ u, mg x = some u ∧ RelV v u
theorem pe_gv {X : Cx} {x : Str} {v : V} {pos : Pos} (g : Gv X.mg x v) (hg : Gl X x) (hdb : (x == ("__debug__" : Str)) = false := by decide) : PE X (.Name x pos) (tC v) := by
  obtain ⟨u, h, r⟩ := g.ex
  exact pe_glob hg h r hdb
/-- built-in names -/
structure Bly (mg : Str → Option Value) : Prop where
  len : mg "len" = none
  int : mg "int" = none
  bool : mg "bool" = none
  str : mg "str" = none
  tuple : mg "tuple" = none
  list : mg "list" = none
  abs : mg "abs" = none
  isi : mg "isinstance" = none
  rng : mg "range" = none
  zip : mg "zip" = none
  enu : mg "enumerate" = none
  all : mg "all" = none
  srt : mg "sorted" = none
theorem b_len : bootBuiltins "len" = some (.builtin "len") := by decide +kernel
theorem b_all : bootBuiltins "all" = some (.builtin "all") := by decide +kernel
theorem b_sorted : bootBuiltins "sorted" = some (.builtin "sorted") := by decide +kernel
theorem b_abs : bootBuiltins "abs" = some (.builtin "abs") := by decide +kernel
theorem b_isinstance : bootBuiltins "isinstance" = some (.builtin "isinstance") := by decide +kernel
theorem b_int : bootBuiltins "int" = some (.type "int") := by decide +kernel
theorem b_bool : bootBuiltins "bool" = some (.type "bool") := by decide +kernel
theorem b_str : bootBuiltins "str" = some (.type "str") := by decide +kernel
theorem b_tuple : bootBuiltins "tuple" = some (.type "tuple") := by decide +kernel
theorem b_list : bootBuiltins "list" = some (.type "list") := by decide +kernel
section
variable {R : Rg} {δ : List Sl} {te ta tb tc : TE} {t u : TT} {tr : TA} {φ : D → Prop} {K : PySem.W.Frag}
theorem wpe_cb1 {r : List V → Hp → VK → Prop} (h : WpE R ta δ fun x => CbD r [x] φ) : WpE R (tCB r (tCons ta tNil)) δ φ := wpe_cb (wpa_cons (wpe_mono h fun x q => wpa_nil ⟨[x], rfl, q⟩))
theorem wpe_cb2 {r : List V → Hp → VK → Prop} (h : WpE R ta δ fun x => WpE R tb δ fun y => CbD r [x, y] φ) : WpE R (tCB r (tCons ta (tCons tb tNil))) δ φ :=
  wpe_cb (wpa_cons (wpe_mono h fun x q => wpa_cons (wpe_mono q fun y q => wpa_nil ⟨[x, y], rfl, q⟩)))
/-- arguments that are data -/
def WpL (R : Rg) (t : TA) (δ : List Sl) (φ : List D → Prop) : Prop := WpA R t δ fun as => ∃ ds, as = ds.map Sl.da ∧ φ ds
theorem wpl_nil {φ : List D → Prop} (q : φ []) : WpL R tNil δ φ := wpa_nil ⟨[], rfl, q⟩
theorem wpa_mono {φ ψ : List Sl → Prop} (h : WpA R tr δ φ) (m : ∀ d, φ d → ψ d) : WpA R tr δ ψ := fun σ G H en rz Q q => h σ G H en rz Q fun vs as G' H' a b c e => q vs as G' H' a b c (m as e)
theorem wpl_cons {φ : List D → Prop} (h : WpE R te δ fun d => WpL R tr δ fun ds => φ (d :: ds)) : WpL R (tCons te tr) δ φ :=
  wpa_cons (wpe_mono h fun d q => wpa_mono q fun as ⟨ds, e, p⟩ => ⟨d :: ds, by rw [e]; rfl, p⟩)
theorem wpe_tupL (h : WpL R tr δ fun ds => ds.length ≤ 1000 ∧ φ (.tup ds)) : WpE R (tTup tr) δ φ := wpe_tup h
theorem wpe_lstL (h : WpL R tr δ fun ds => ds.length ≤ 1000 ∧ φ (.lst ds)) : WpE R (tLst tr) δ φ := wpe_lst h
theorem wpi_zipL {φ : List D → Prop} (h : WpE R ta δ fun x => WpE R tb δ fun y => ∃ ds es, ((x = .lst ds ∧ y = .lst es) ∨ (x = .tup ds ∧ y = .tup es)) ∧ φ (zipD ds es)) : WpI R (RZ.iZipA K (tCons ta (tCons tb tNil))) δ φ :=
  wpi_zip (wpa_cons (wpe_mono h fun x q => wpa_cons (wpe_mono q fun y ⟨ds, es, e, q⟩ => wpa_nil ⟨ds, es, by rcases e with ⟨rfl, rfl⟩ | ⟨rfl, rfl⟩ <;> simp, q⟩)))
theorem wpi_enuT1 {φ : List D → Prop} (h : WpE R ta δ fun x => ∃ ds, x = .tup ds ∧ φ (enuD ds)) : WpI R (iEnumT K (tCons ta tNil)) δ φ :=
  wpi_enuT (wpa_cons (wpe_mono h fun x ⟨ds, e, q⟩ => wpa_nil ⟨ds, by rw [e], q⟩))
theorem wpi_rng1 {φ : List D → Prop} (h : WpE R ta δ fun x => ∃ j : Int, x = .int j ∧ -1000000 ≤ j ∧ j < 1000000 ∧ φ (rngD 0 j.toNat)) : WpI R (iRng1 (tCons ta tNil)) δ φ :=
  wpi_range1 (wpa_cons (wpe_mono h fun x ⟨j, e, q⟩ => wpa_nil ⟨j, by rw [e], q⟩))
theorem wpo_none {φ : Option Int → Prop} (q : φ none) : WpO R tNoPart δ φ := fun σ G H en rz Q k => k none G H .refl en q
theorem wpo_some {φ : Option Int → Prop} (h : WpE R te δ fun d => ∃ i : Int, d = .int i ∧ φ (some i)) : WpO R (tPart te) δ φ := fun σ G H en rz Q k =>
  h σ G H en rz _ fun v d G1 H1 s1 e1 a ⟨i, e, q⟩ => by
    subst e
    cases a
    exact ⟨i, rfl, k _ G1 H1 s1 e1 q⟩
theorem wpe_neg {ta : TE} (h : WpE R ta δ fun x => ∃ i, x = .int i ∧ φ (.int (-i))) : WpE R (tUn (rU fun i => .int (-i)) ta) δ φ :=
  wpe_un (wpe_mono h fun x ⟨i, e, q⟩ => by
    subst e
    intro G H v s a Q k
    cases a
    exact ⟨i, rfl, k _ _ G H .refl s (.int _) q⟩)
theorem cbd_int1 {i : Int} (q : φ (.int i)) : CbD (fun xs H Q => (∃ i, xs = [.int i] ∧ Q (.int i) H) ∨ ∃ k, xs = [.bl k] ∧ Q (.int (if k then 1 else 0)) H) [.int i] φ := fun G H vs s a Q k => by
  cases a with
  | cons a t =>
    cases t
    cases a
    exact .inl ⟨i, rfl, k _ _ G H .refl s (.int _) q⟩
/-- [f(x, y) for x, y in ..] -/
theorem wpe_map2 {wi : TI} {i j : Nat} {vs : List Nat} (f : D → D) (hi : i ∈ vs) (hj : j ∈ vs)
    (h : WpI R wi δ fun ds => ds.length ≤ 100000 ∧ (∀ d ∈ ds, ∃ x y, d = .tup [x, y] ∧ WpE R te (((wipeD δ vs).set i (.da x)).set j (.da y)) fun y => y = f d) ∧ φ (.lst (ds.map f))) :
    WpE R (tLc wi (gTup K 2 (gCons (gName i) (gCons (gName j) gNil))) tYes te vs) δ φ := by
  refine wpe_lc (js := [i, j]) (by simpa using ⟨hi, hj⟩) (wpi_mono h fun ds ⟨l, h1, h2⟩ => ⟨l, fun k acc => acc = (ds.take k).map f, by simp, fun k d acc e ih _ => ?_, fun acc ih _ => ?_⟩)
  · have hd : d ∈ ds := List.mem_of_getElem? e
    obtain ⟨x, y, ed, q⟩ := h1 d hd
    refine wpg_pair ⟨x, y, ed, wpt_yes ?_⟩
    rw [if_pos rfl]
    refine wpe_mono q fun y ey => ?_
    show acc ++ [y] = (ds.take (k + 1)).map f
    rw [ey, ih, List.take_add_one, e]
    simp
  · rw [ih, List.take_length]
    exact h2
theorem cutD_from {ds : List D} {k : Nat} : cutD ds (some (k : Int)) none = ds.drop k := by
  unfold cutD
  rw [HT.sIx_nat, HT.sIx_none]
  by_cases h : k ≤ ds.length
  · rw [Nat.min_eq_left h, List.take_of_length_le (by rw [List.length_drop]; omega)]
  · rw [Nat.min_eq_right (by omega), List.drop_length, List.drop_of_length_le (by omega), List.take_nil]
theorem cutD_to {ds : List D} {k : Nat} : cutD ds none (some (k : Int)) = ds.take k := by
  unfold cutD
  rw [HT.sIx_nat, HT.sIx_none, List.drop_zero, Nat.sub_zero]
  by_cases h : k ≤ ds.length
  · rw [Nat.min_eq_left h]
  · rw [Nat.min_eq_right (by omega), List.take_length, List.take_of_length_le (by omega)]
/-! promises by number of arguments -/
def sp1 (dom : D → Prop) (f : D → D) : Spc := { pre := fun as => ∃ x, as = [.da x] ∧ dom x, post := fun as d => ∀ x, as = [.da x] → d = f x }
def sp2 (dom : D → D → Prop) (f : D → D → D) : Spc := { pre := fun as => ∃ x y, as = [.da x, .da y] ∧ dom x y, post := fun as d => ∀ x y, as = [.da x, .da y] → d = f x y }
def sp3 (dom : D → D → D → Prop) (f : D → D → D → D) : Spc := { pre := fun as => ∃ x y z, as = [.da x, .da y, .da z] ∧ dom x y z, post := fun as d => ∀ x y z, as = [.da x, .da y, .da z] → d = f x y z }
/-- of a generator's state and data -/
def spS (dom : List D → Prop) (rel : List D → D → Prop) : Spc := { pre := fun as => ∃ a ds, as = .st a :: ds.map Sl.da ∧ dom ds, post := fun as d => ∀ a ds, as = .st a :: ds.map Sl.da → rel ds d }
theorem wpe_call1 {dom : D → Prop} {f : D → D} {E : XK} (h : WpE R ta δ fun x => dom x ∧ φ (f x)) : WpE R (tCall (spW (sp1 dom f) 1) [] E (tCons ta tNil)) δ φ :=
  wpe_call0 (wpa_cons (wpe_mono h fun x ⟨p, q⟩ => wpa_nil ⟨rfl, ⟨x, rfl, p⟩, fun d e => by rw [e x rfl]; exact q, fun _ _ z => z⟩))
theorem wpe_call2 {dom : D → D → Prop} {f : D → D → D} {E : XK} (h : WpE R ta δ fun x => WpE R tb δ fun y => dom x y ∧ φ (f x y)) : WpE R (tCall (spW (sp2 dom f) 2) [] E (tCons ta (tCons tb tNil))) δ φ :=
  wpe_call0 (wpa_cons (wpe_mono h fun x q => wpa_cons (wpe_mono q fun y ⟨p, q⟩ => wpa_nil ⟨rfl, ⟨x, y, rfl, p⟩, fun d e => by rw [e x y rfl]; exact q, fun _ _ z => z⟩)))
theorem wpe_call3 {dom : D → D → D → Prop} {f : D → D → D → D} {E : XK} (h : WpE R ta δ fun x => WpE R tb δ fun y => WpE R tc δ fun z => dom x y z ∧ φ (f x y z)) : WpE R (tCall (spW (sp3 dom f) 3) [] E (tCons ta (tCons tb (tCons tc tNil)))) δ φ :=
  wpe_call0 (wpa_cons (wpe_mono h fun x q => wpa_cons (wpe_mono q fun y q => wpa_cons (wpe_mono q fun z ⟨p, q⟩ => wpa_nil ⟨rfl, ⟨x, y, z, rfl, p⟩, fun d e => by rw [e x y z rfl]; exact q, fun _ _ z => z⟩))))
theorem map_da_inj : ∀ {as bs : List D}, as.map Sl.da = bs.map Sl.da → as = bs
  | [], [], _ => rfl
  | [], _ :: _, h => nomatch h
  | _ :: _, [], h => nomatch h
  | a :: as, b :: bs, h => by
    rw [List.map_cons, List.map_cons] at h
    obtain ⟨h1, h2⟩ := List.cons.inj h
    rw [Sl.da.inj h1, map_da_inj h2]
theorem wpe_callS {dom : List D → Prop} {rel : List D → D → Prop} {E : XK} {i n : Nat} {a : Addr} (e : δ[i]? = some (.st a)) (h : WpL R tr δ fun ds => ds.length + 1 = n ∧ dom ds ∧ ∀ d, rel ds d → φ d) :
    WpE R (tCall (spW (spS dom rel) n) [] E (tCons (tVar i) tr)) δ φ :=
  wpe_call0 (wpa_st e (wpa_mono h fun as ⟨ds, ea, l, p, q⟩ => by
    subst ea
    exact ⟨by rw [List.length_cons, List.length_map]; exact l, ⟨a, ds, rfl, p⟩, fun d r => q d (r a ds rfl), fun _ _ z => z⟩))
end
section
variable {P : Program} {w : World} {K : PySem.W.Frag} {mg : Str → Option Value} {base : Heap}
theorem Fn.ok1 {x : Str} {st : Stmt} {N ps : List Str} {f : Addr} {fd : FuncData} {k : Nat} {dom : D → Prop} {g : D → D} (F : Fn K mg x st ps f fd) (S : FnScope N ps (defScope st)) (hn : ps.length = 1)
    (h : ∀ (cdv : Value) (A : Around) (outer : List Env) (s : Shared) (H : Hp) (E : XK) (x' : D), Room k (A.deeper (envOfC x (defScope st) s.heap.objs.size f cdv)) → dom x' →
      ∃ t, PSs (cxOf CX0 P w K mg base N x (defScope st) f cdv A outer s H E).nox (defBody st) t ∧
        ∀ T : Tr, WpS ⟨E, fun _ _ => False, T⟩ t (.da x' :: List.replicate (N.length - 1) .no) (fun _ => False) fun d => d = g x') :
    Dk P w K mg base x CX0 (k + 1) ps (spW (sp1 dom g) 1) := by
  refine F.ok S hn fun cdv A outer s H E as hr ⟨y, e, p⟩ _ => ?_
  subst e
  obtain ⟨t, h1, h2⟩ := h cdv A outer s H E y hr p
  exact ⟨t, h1, fun T => wps_mono (h2 T) (fun _ z => z.elim) fun d q x e => by cases e; exact q⟩
theorem Fn.ok2 {x : Str} {st : Stmt} {N ps : List Str} {f : Addr} {fd : FuncData} {k : Nat} {dom : D → D → Prop} {g : D → D → D} (F : Fn K mg x st ps f fd) (S : FnScope N ps (defScope st)) (hn : ps.length = 2)
    (h : ∀ (cdv : Value) (A : Around) (outer : List Env) (s : Shared) (H : Hp) (E : XK) (x' y : D), Room k (A.deeper (envOfC x (defScope st) s.heap.objs.size f cdv)) → dom x' y →
      ∃ t, PSs (cxOf CX0 P w K mg base N x (defScope st) f cdv A outer s H E).nox (defBody st) t ∧
        ∀ T : Tr, WpS ⟨E, fun _ _ => False, T⟩ t (.da x' :: .da y :: List.replicate (N.length - 2) .no) (fun _ => False) fun d => d = g x' y) :
    Dk P w K mg base x CX0 (k + 1) ps (spW (sp2 dom g) 2) := by
  refine F.ok S hn fun cdv A outer s H E as hr ⟨y, z, e, p⟩ _ => ?_
  subst e
  obtain ⟨t, h1, h2⟩ := h cdv A outer s H E y z hr p
  exact ⟨t, h1, fun T => wps_mono (h2 T) (fun _ z => z.elim) fun d q x y e => by cases e; exact q⟩
theorem Fn.ok3 {x : Str} {st : Stmt} {N ps : List Str} {f : Addr} {fd : FuncData} {k : Nat} {dom : D → D → D → Prop} {g : D → D → D → D} (F : Fn K mg x st ps f fd) (S : FnScope N ps (defScope st)) (hn : ps.length = 3)
    (h : ∀ (cdv : Value) (A : Around) (outer : List Env) (s : Shared) (H : Hp) (E : XK) (x' y z : D), Room k (A.deeper (envOfC x (defScope st) s.heap.objs.size f cdv)) → dom x' y z →
      ∃ t, PSs (cxOf CX0 P w K mg base N x (defScope st) f cdv A outer s H E).nox (defBody st) t ∧
        ∀ T : Tr, WpS ⟨E, fun _ _ => False, T⟩ t (.da x' :: .da y :: .da z :: List.replicate (N.length - 3) .no) (fun _ => False) fun d => d = g x' y z) :
    Dk P w K mg base x CX0 (k + 1) ps (spW (sp3 dom g) 3) := by
  refine F.ok S hn fun cdv A outer s H E as hr ⟨y, z, v, e, p⟩ _ => ?_
  subst e
  obtain ⟨t, h1, h2⟩ := h cdv A outer s H E y z v hr p
  exact ⟨t, h1, fun T => wps_mono (h2 T) (fun _ z => z.elim) fun d q x y z e => by cases e; exact q⟩
theorem Fn.okS {x : Str} {st : Stmt} {N ps : List Str} {f : Addr} {fd : FuncData} {k n : Nat} {dom : List D → Prop} {rel : List D → D → Prop} (F : Fn K mg x st ps f fd) (S : FnScope N ps (defScope st)) (hn : ps.length = n)
    (h : ∀ (cdv : Value) (A : Around) (outer : List Env) (s : Shared) (H : Hp) (E : XK) (a : Addr) (ds : List D), Room k (A.deeper (envOfC x (defScope st) s.heap.objs.size f cdv)) → dom ds → ds.length + 1 = n →
      ∃ t, PSs (cxOf CX0 P w K mg base N x (defScope st) f cdv A outer s H E).nox (defBody st) t ∧
        ∀ T : Tr, WpS ⟨E, fun _ _ => False, T⟩ t (.st a :: (ds.map Sl.da ++ List.replicate (N.length - n) .no)) (fun _ => False) (rel ds)) :
    Dk P w K mg base x CX0 (k + 1) ps (spW (spS dom rel) n) := by
  refine F.ok S hn fun cdv A outer s H E as hr ⟨a, ds, e, p⟩ l => ?_
  subst e
  rw [List.length_cons, List.length_map] at l
  obtain ⟨t, h1, h2⟩ := h cdv A outer s H E a ds hr p l
  refine ⟨t, h1, fun T => wps_mono (h2 T) (fun _ z => z.elim) fun d q a' es e => ?_⟩
  obtain ⟨_, e2⟩ := List.cons.inj e
  rw [← map_da_inj e2]
  exact q
end
/-! the rules that name the written part, for the blocks of comprehensions -/
section
variable {X : Cx} {K : PySem.W.Frag}
theorem call_isiK (h : X.K = K) : CallR X (.builtin "isinstance") (rIsi K) := h ▸ call_isi
theorem call_lenK (h : X.K = K) : CallR X (.builtin "len") (fun xs H Q => (∃ p ys, xs = [.ref p] ∧ (SqL K H p ys ∨ SqT K H p ys) ∧ Q (.int ys.length) H) ∨ (∃ z, xs = [.str z] ∧ z.length ≤ sizeLine ∧ Q (.int z.length) H)) := h ▸ call_len_seq.or call_len_str
theorem cr_allK (h : X.K = K) (hc : X.calm = true) : CallR X (.builtin "all") (rAll K) := h ▸ cr_all hc
theorem cr_sortedK (h : X.K = K) : CallR X (.builtin "sorted") (rSortedI K) := h ▸ cr_sortedI
theorem call_tupleK (h : X.K = K) : CallR X (.type "tuple") (fun xs H Q => ∃ p ys, xs = [.ref p] ∧ ((SqL K H p ys ∧ ∀ l, H l = none → Q (.ref l) (upd H l (.tup ys))) ∨ (SqT K H p ys ∧ Q (.ref p) H))) := h ▸ call_tuple_of
theorem call_listK (h : X.K = K) : CallR X (.type "list") (fun xs H Q => ∃ p ys, xs = [.ref p] ∧ (SqL K H p ys ∨ SqT K H p ys) ∧ ∀ l, H l = none → Q (.ref l) (upd H l (.lst ys))) := h ▸ call_list_of
theorem ix_K (h : X.K = K) : IxR X (rIx K) := h ▸ ix_seq
theorem sl_K (h : X.K = K) : L2.SlR X (fun x lo hi H Q => rSlL K x lo hi H Q ∨ rSlA K x lo hi H Q) := h ▸ L2.SlR.or sl_list sl_tupA
theorem op_inK (h : X.K = K) : OpR X (compareOp .In) (rIn K false) := h ▸ op_in_seq
theorem op_notinK (h : X.K = K) : OpR X (compareOp .NotIn) (rIn K true) := h ▸ op_notIn_seq
theorem op_eqK (h : X.K = K) (hu : X.A.units + 64 < cLine) : OpR X (compareOp .Eq) (fun x y H Q => rEq x y H Q ∨ rEqD K x y H Q) := h ▸ op_eq.or (op_eqD hu)
theorem op_neK (h : X.K = K) (hu : X.A.units + 64 < cLine) : OpR X (compareOp .NotEq) (fun x y H Q => rNe x y H Q ∨ rNeD K x y H Q) := h ▸ op_ne.or (op_neD hu)
theorem op_catK (h : X.K = K) : OpR X (binaryOp .Add) (rCatA K) := h ▸ op_catA
theorem op_repK (h : X.K = K) : OpR X (binaryOp .Mult) (rRepT K) := h ▸ op_repT
end
end Nv
/-! Nv, part W: while; a dict that a slot owns; a list that is popped. -/
namespace Nv
open PySem PySem.Spec PyProof.Rows L2
section
variable {X : Cx}
theorem sw_trueD {kx vx : Expr} {gs : List Comprehension} {scope : Scope} {pos py : Pos} {y : Str} {l : Nat} {env : Env} (hk : env.scope.kind = .function) (hy : env.scope.names.lookup y = some .local) (hl : (py.line == pos.line) = true)
    (ha : (scope.names.any fun (n, k) => n == y && (k == .local || k == .cell)) = false) : swapsWith (.DictComp kx vx gs scope pos) (some (.Name y py)) l env = pure true := by
  have ky : env.kindOf y = some .local := hy
  have hb : env.blockKind = .function := by unfold Env.blockKind; rw [hk]; rfl
  unfold swapsWith
  simp only [hb, ky, ha, Expr.pos, hl]
  rfl
theorem ps_setDc {i : Nat} {y : Str} {py : Pos} {kx vx tg iter : Expr} {ifs : List Expr} {scope : Scope} {own : List (Str × Nat)} {pos spos : Pos} {wi : TI} {g : TG} {tt : TT} {tk tv : TE} (hc : X.calm = true) (hN : X.N.Nodup) (hy : X.N[i]? = some y) (hyl : X.env.scope.names.lookup y = some .local)
    (hsw : swapsWith (.DictComp kx vx [⟨tg, iter, ifs, 0⟩] scope pos) (some (.Name y py)) spos.line X.env = pure true) (hi : PI X tg iter wi) (ok : BlkOk X.N X.env.scope scope own)
    (hg : ∀ (s : Shared) (H : Hp) (C : Addr) (cl : List (Str × Addr)) (fp : List Addr), PG (X.blk s H scope (compEnvC scope cl C X.env) fp) tg g) (ht : ∀ (s : Shared) (H : Hp) (C : Addr) (cl : List (Str × Addr)) (fp : List Addr), PTs (X.blk s H scope (compEnvC scope cl C X.env) fp) ifs tt)
    (hk : ∀ (s : Shared) (H : Hp) (C : Addr) (cl : List (Str × Addr)) (fp : List Addr), PE (X.blk s H scope (compEnvC scope cl C X.env) fp) kx tk)
    (he : ∀ (s : Shared) (H : Hp) (C : Addr) (cl : List (Str × Addr)) (fp : List Addr), PE (X.blk s H scope (compEnvC scope cl C X.env) fp) vx tv) (hs : ∀ x, foldedSetIterable iter X.env x = pure x := by intro _; rfl) :
    PS X (.Assign [.Name y py] (.DictComp kx vx [⟨tg, iter, ifs, 0⟩] scope pos) spos) (tAsg (tDc wi g tt tk tv (own.map (·.2))) (gName i)) := by
  refine ⟨fun pins s σ H D I h => ?_⟩
  rw [exec_Assign_Name_used _ _ _ _ hsw]
  refine wpAny_bind (wpAny_standAt (wpAny_bind ?_))
  show wpAny _ X.A (do let _ ← comprehension (.DictComp kx vx [⟨tg, iter, ifs, 0⟩] scope pos) scope X.env (firstIterPos [⟨tg, iter, ifs, 0⟩] pos) newDict false (eval iter X.env) (some (assign (.Name y py) X.env))) _ _ s
  have h : tDc wi g tt tk tv (own.map (·.2)) σ H (fun x H1 => gName i x σ H1 D.nx) := h
  refine wpAny_bind (thn (dc_core (Qf := fun _ s' => SP X pins D .next s') hc hN I hi ok hg ht hk he hs h fun L C s' m H' I' q hn f => ?_) fun _ s' hq => wpAny_pure (wpAny_pure hq))
  show wpAny _ _ (assign (.Name y py) X.env (.ref L)) _ _ _
  refine wpAny_assign_Name (store_ok2 (v := V.ref L) I' hN hy (.inl hyl) rfl (fun s2 I2 ⟨a, sb, ha⟩ => ?_) (.inr hyl))
  obtain ⟨f0, f1, f2, f3, f4, f5⟩ := f
  have haC : C ≠ a := by
    rcases ha with z | z
    · rw [z]; exact f1
    · exact fun e => f4 y a z e.symm
  refine ⟨m, hn.sameBut sb haC, fun h3 sb3 => ?_⟩
  exact ⟨_, H', I2.turned (t' := s2.toks) (fun b o hb e => (sb3.2 b hb).trans e) f0 f1 f3 f4 f5, q⟩
end
section
variable {R : Rg} {δ : List Sl} {te ta tb tc : TE} {t u : TT} {tr : TA} {φ : D → Prop} {K : PySem.W.Frag} {Φ : List Sl → Prop} {Ψ : D → Prop}
theorem wps_while {ts : TS} (W : Nat → List Sl → Prop) (h0 : ∃ m, W m δ)
    (h : ∀ m δ', W m δ' → WpT R t δ' fun b => if b = true then WpS R ts δ' (fun δ2 => ∃ m', m' < m ∧ W m' δ2) Ψ else Φ δ') : WpS R (tWhile t ts) δ Φ Ψ := fun σ G H en rz Z k1 k2 => by
  obtain ⟨m0, w0⟩ := h0
  refine ⟨fun m σ' H' => ∃ δ' G', StB R.T.O R.T.S G H G' H' ∧ Ens R.T G' H' δ' σ' ∧ W m δ', ⟨m0, δ, G, .refl, en, w0⟩, ?_⟩
  rintro m σ' H' ⟨δ', G', sB, e', wm⟩
  refine h m δ' wm σ' G' H' e' (rz.stepB sB) _ fun b G1 H1 s1 e1 q => ?_
  have sB1 := sB.trans (s1.toB e'.old)
  cases b with
  | false => exact iteF (k1 δ' σ' G1 H1 sB1 e1 q)
  | true =>
    have q' : WpS R ts δ' (fun δ2 => ∃ m', m' < m ∧ W m' δ2) Ψ := q
    refine iteT ⟨fun σ2 H2 => ∃ m', m' < m ∧ ∃ δ2 G2, StB R.T.O R.T.S G H G2 H2 ∧ Ens R.T G2 H2 δ2 σ2 ∧ W m' δ2, fun σ2 H2 z => z, ?_⟩
    exact q' σ' G1 H1 e1 (rz.stepB sB1) _ (fun δ2 σ2 G2 H2 s2 e2 ⟨m', lt, w⟩ => ⟨m', lt, δ2, G2, sB1.trans s2, e2, w⟩) fun v d G2 H2 s2 a b c q => k2 v d G2 H2 (sB1.trans s2) a b c q
/-- a new list becomes a slot's own -/
theorem Ens.ownL {T : Tr} {G H : Hp} {σ : L2.St} (en : Ens T G H δ σ) {i : Nat} {p : Addr} {xs : List V} {ds : List D} (hp : H p = none) (al : AtAll G xs ds) : Ens T G (upd H p (.lst xs)) (δ.set i (.ow p ds)) (σ.set i (some (.ref p))) := by
  have e1 := en.own (i := i) hp
  have e2 := en.own (i := i) hp
  by_cases lt : i < δ.length
  · have e3 := e2.put (i := i) (p := p) (ds := []) (es := ds) (ys := xs) (List.getElem?_set_self lt) al
    rw [List.set_set] at e3
    rw [show upd (upd H p (.lst [])) p (.lst xs) = upd H p (.lst xs) from upd_upd] at e3
    exact e3
  · rw [List.set_eq_of_length_le (by omega), List.set_eq_of_length_le (by rw [← en.len]; omega)]
    exact en.grow (same_upd hp)
/-- x = list(y) -/
theorem wps_setList {i : Nat} (h : WpE R te δ fun y => ∃ ds, (y = .lst ds ∨ y = .tup ds) ∧ ∀ p, Φ (δ.set i (.ow p ds))) :
    WpS R (tAsg (tCB (fun xs H Q => ∃ p ys, xs = [.ref p] ∧ (SqL K H p ys ∨ SqT K H p ys) ∧ ∀ l, H l = none → Q (.ref l) (upd H l (.lst ys))) (tCons te tNil)) (gName i)) δ Φ Ψ := fun σ G H en rz Z k1 k2 =>
  h σ G H en rz _ fun v y G1 H1 s1 e1 a ⟨ds, ey, q⟩ => by
    rcases ey with rfl | rfl
    · obtain ⟨p0, xs, rfl, ha, al⟩ := at_lst a
      exact ⟨p0, xs, rfl, .inl (sqL_of e1.same ha), fun p hp => k1 _ _ G1 _ ((s1.trans (Stp.grow (same_upd hp))).toB en.old) (e1.ownL hp al) (q p)⟩
    · obtain ⟨p0, xs, rfl, ha, al⟩ := at_tup a
      exact ⟨p0, xs, rfl, .inr (sqT_of e1.same ha), fun p hp => k1 _ _ G1 _ ((s1.trans (Stp.grow (same_upd hp))).toB en.old) (e1.ownL hp al) (q p)⟩
/-- len of the list of slot i -/
theorem wpe_lenO {i : Nat} {p : Addr} {ds : List D} (e : δ[i]? = some (.ow p ds)) (q : φ (.int ds.length)) :
    WpE R (tCB (fun xs H Q => (∃ p ys, xs = [.ref p] ∧ (SqL K H p ys ∨ SqT K H p ys) ∧ Q (.int ys.length) H) ∨ (∃ z, xs = [.str z] ∧ z.length ≤ sizeLine ∧ Q (.int z.length) H)) (tCons (tVar i) tNil)) δ φ := fun σ G H en rz Q k => by
  obtain ⟨o, e1, rfl, nS, nG, xs, hx, al⟩ := en.get i _ e
  refine ⟨_, e1, .inl ⟨p, xs, rfl, .inl (.inl (.inl hx)), ?_⟩⟩
  rw [al.length]
  exact k _ _ G H .refl en (.int _) q
/-- j = x.pop() -/
theorem wps_pop {i j : Nat} {p : Addr} {ds : List D} {d : D} (e : δ[i]? = some (.ow p ds)) (ed : ds[ds.length - 1]? = some d) (q : Φ ((δ.set i (.ow p ds.dropLast)).set j (.da d))) :
    WpS R (tAsg (tBM0 K "list" rPop (tVar i)) (gName j)) δ Φ Ψ := fun σ G H en rz Z k1 k2 => by
  obtain ⟨o, e1, rfl, nS, nG, xs, hx, al⟩ := en.get i _ e
  obtain ⟨v, ev, av⟩ := al.get ed
  have al2 : AtAll G xs.dropLast ds.dropLast := by
    rw [List.dropLast_eq_take, List.dropLast_eq_take, al.length]
    exact al.take _
  refine ⟨_, e1, .inl ⟨rfl, xs, .inl (.inl hx)⟩, p, xs, v, rfl, rfl, hx, by rw [al.length]; exact ev, ?_⟩
  exact k1 _ _ G _ (en.putB e) ((en.put e al2).setD av) q
/-! a dict of keys -/
theorem Ens.putD {T : Tr} {G H : Hp} {σ : L2.St} (en : Ens T G H δ σ) {i : Nat} {p : Addr} {ks ls : List Int} (e : δ[i]? = some (.od p ks)) :
    Ens T G (upd H p (dTrue ls)) (δ.set i (.od p ls)) σ := by
  obtain ⟨o, e1, rfl, nS, nG, hx⟩ := en.get i _ e
  refine ⟨fun b u q => ?_, by rw [List.length_set]; exact en.len, fun j s q => ?_, fun b q => ?_, fun b q => ?_, fun b u q => ?_, fun j k b fs gs q1 q2 => ?_, fun j k b fs gs q1 q2 => ?_⟩
  · rw [upd_ne (fun z => by rw [z, nG] at q; exact nomatch q)]
    exact en.same b u q
  · rcases get_set q with ⟨rfl, rfl⟩ | ⟨ne, m⟩
    · exact ⟨_, e1, rfl, nS, nG, upd_same⟩
    · obtain ⟨o, q2, r⟩ := en.get j s m
      refine ⟨o, q2, ?_⟩
      cases s with
      | no => trivial
      | fx v => exact r
      | da d => exact r
      | fz _ _ => exact r
      | st b => exact r
      | ow b fs =>
        obtain ⟨r1, r2, r3, zs, r4, r5⟩ := r
        have nb : b ≠ p := fun z => by rw [z, hx] at r4; exact nomatch r4
        exact ⟨r1, r2, r3, zs, by rw [upd_ne nb]; exact r4, r5⟩
      | od b fs =>
        obtain ⟨r1, r2, r3, r4⟩ := r
        have nb : b ≠ p := fun z => ne (by subst z; exact en.nd2 j i b fs ks m e)
        exact ⟨r1, r2, r3, by rw [upd_ne nb]; exact r4⟩
  · obtain ⟨g, x, y, w, q2⟩ := en.stt b q
    exact ⟨g, x, y, w, by rw [upd_ne (fun z => nS.1 (by rw [← z]; exact q))]; exact q2⟩
  · by_cases z : b = p
    · rw [z, upd_same]; exact fun q => nomatch q
    · rw [upd_ne z]; exact en.old b q
  · obtain ⟨f1, f2⟩ := en.inv b u q
    refine ⟨?_, f2⟩
    rw [upd_ne (fun z => nS.2 (by rw [← z]; exact f2.2))]
    exact f1
  · rcases get_set q1 with ⟨_, z⟩ | ⟨_, m1⟩
    · exact nomatch z
    · rcases get_set q2 with ⟨_, z⟩ | ⟨_, m2⟩
      · exact nomatch z
      · exact en.nd j k b fs gs m1 m2
  · rcases get_set q1 with ⟨rfl, z⟩ | ⟨n1, m1⟩
    · obtain ⟨rfl, rfl⟩ := Sl.od.inj z
      rcases get_set q2 with ⟨rfl, _⟩ | ⟨n2, m2⟩
      · rfl
      · exact en.nd2 j k _ ks gs e m2
    · rcases get_set q2 with ⟨rfl, z⟩ | ⟨n2, m2⟩
      · obtain ⟨rfl, rfl⟩ := Sl.od.inj z
        exact en.nd2 j k _ fs ks m1 e
      · exact en.nd2 j k b fs gs m1 m2
theorem Ens.putDB {T : Tr} {G H : Hp} {σ : L2.St} (en : Ens T G H δ σ) {i : Nat} {p : Addr} {ks : List Int} {o' : HO} (e : δ[i]? = some (.od p ks)) : StB T.O T.S G H G (upd H p o') := by
  obtain ⟨o, e1, rfl, nS, nG, hx⟩ := en.get i _ e
  exact ⟨.refl _, fun b u o q n => by rw [upd_ne (fun z => nS.2 (by rw [← z]; exact o))]; exact q, fun b q => by
    by_cases z : b = p
    · rw [z, upd_same]; exact fun q => nomatch q
    · rw [upd_ne z]; exact q, fun b _ q => q⟩
theorem Ens.ownD {T : Tr} {G H : Hp} {σ : L2.St} (en : Ens T G H δ σ) {i : Nat} {p : Addr} {ks : List Int} (hp : H p = none) : Ens T G (upd H p (dTrue ks)) (δ.set i (.od p ks)) (σ.set i (some (.ref p))) := by
  have e1 : Ens T G (upd H p (dTrue ks)) δ σ := en.grow (same_upd hp)
  have nS : ¬ T.S p := fun z => by
    obtain ⟨_, x, y, w, e⟩ := en.stt p z
    rw [hp] at e
    exact nomatch e
  have nO : ¬ T.O p := fun z => en.old p z hp
  have nG : G p = none := en.same.free hp
  have no : ∀ (k : Nat) (ds : List Int), ¬ δ[k]? = some (.od p ds) := fun k ds z => by
    obtain ⟨o, _, _, _, _, r⟩ := en.get k _ z
    rw [hp] at r
    exact nomatch r
  refine ⟨e1.same, by rw [List.length_set, List.length_set]; exact e1.len, fun j s e => ?_, e1.stt, e1.old, e1.inv, fun j k a ds es q1 q2 => ?_, fun j k a ds es q1 q2 => ?_⟩
  · rcases get_set e with ⟨rfl, rfl⟩ | ⟨ne, e⟩
    · have lt : j < σ.length := by
        rw [← e1.len]
        have := (List.getElem?_eq_some_iff.mp e).1
        rw [List.length_set] at this
        exact this
      exact ⟨some (.ref p), List.getElem?_set_self lt, rfl, ⟨nS, nO⟩, nG, upd_same⟩
    · obtain ⟨o, e2, r⟩ := e1.get j s e
      exact ⟨o, by rw [List.getElem?_set_ne (fun z => ne z.symm)]; exact e2, r⟩
  · rcases get_set q1 with ⟨_, z⟩ | ⟨_, m1⟩
    · exact nomatch z
    · rcases get_set q2 with ⟨_, z⟩ | ⟨_, m2⟩
      · exact nomatch z
      · exact e1.nd j k a ds es m1 m2
  · rcases get_set q1 with ⟨rfl, z⟩ | ⟨n1, m1⟩
    · rcases get_set q2 with ⟨rfl, _⟩ | ⟨n2, m2⟩
      · rfl
      · obtain ⟨rfl, rfl⟩ := Sl.od.inj z
        exact (no k es m2).elim
    · rcases get_set q2 with ⟨rfl, z⟩ | ⟨n2, m2⟩
      · obtain ⟨rfl, rfl⟩ := Sl.od.inj z
        exact (no j ds m1).elim
      · exact e1.nd2 j k a ds es m1 m2
theorem valT {k : Int} : ∀ {ks : List Int}, (valV (ks.map fun k => ((Sum.inl k : Key), V.bl true)) (Sum.inl k)).isSome = decide (k ∈ ks)
  | [] => by simp [valV]
  | a :: ks => by
    rw [List.map_cons]
    by_cases h : a = k
    · subst h
      rw [valV_pos rfl]
      simp
    · have ne : ¬ ((Sum.inl a : Key), V.bl true).1 = Sum.inl k := fun z => h (Sum.inl.inj z)
      have ih := valT (k := k) (ks := ks)
      unfold valV at ih ⊢
      rw [List.find?_cons, decide_eq_false ne]
      rw [ih]
      have h' : ¬ k = a := fun z => h z.symm
      simp [h']
theorem putT {k : Int} {ks : List Int} (h : k ∉ ks) : putK (ks.map fun k => ((Sum.inl k : Key), V.bl true)) (Sum.inl k) (V.bl true) = (ks ++ [k]).map fun k => ((Sum.inl k : Key), V.bl true) := by
  unfold putK
  rw [if_neg, List.map_append]
  · rfl
  · intro z
    rw [List.any_map, List.any_eq_true] at z
    obtain ⟨x, m, e⟩ := z
    have e' := of_decide_eq_true e
    exact h (by rw [← Sum.inl.inj e']; exact m)
/-- k not in d -/
theorem wpt_ninD {i : Nat} {p : Addr} {ks : List Int} {φ : Bool → Prop} (e : δ[i]? = some (.od p ks)) (h : WpE R ta δ fun j => ∃ n : Int, j = .int n ∧ φ (!decide (n ∈ ks))) : WpT R (tB (tDNotIn ta (tVar i))) δ φ := fun σ G H en rz Q k =>
  h σ G H en rz _ fun w j G2 H2 s2 en2 a2 ⟨n, ej, q⟩ => by
    subst ej
    cases a2
    obtain ⟨o, e1, rfl, nS, nG, hx⟩ := en2.get i _ e
    refine ⟨_, e1, p, _, rfl, .inl ⟨_, Sum.inl n, .inl hx, rfl, rfl⟩, _, rfl, ?_⟩
    rw [valT]
    exact k _ G2 H2 s2 en2 q
/-- d[k] = True -/
theorem wps_putD {i : Nat} {p : Addr} {ks : List Int} (e : δ[i]? = some (.od p ks)) (l : ks.length ≤ 100000) (h : WpE R ta δ fun j => ∃ n : Int, j = .int n ∧ n ∉ ks ∧ Φ (δ.set i (.od p (ks ++ [n])))) :
    WpS R (tAsg (tC (.bl true)) (gSub (tVar i) ta rSetD)) δ Φ Ψ := fun σ G H en rz Z k1 k2 => by
  obtain ⟨o, e1, rfl, nS, nG, hx⟩ := en.get i _ e
  refine ⟨_, e1, h σ G H en rz _ fun w j G2 H2 s2 en2 a2 ⟨n, ej, nk, q⟩ => ?_⟩
  subst ej
  cases a2
  obtain ⟨o, _, e2, nS1, nG1, hy⟩ := en2.get i _ e
  refine ⟨p, _, rfl, .inl ⟨_, Sum.inl n, hy, rfl, by rw [List.length_map]; exact Nat.lt_of_le_of_lt l (by decide), rfl⟩, ?_⟩
  rw [putT nk]
  exact k1 _ _ G2 _ ((s2.toB en.old).trans (en2.putDB e)) (en2.putD e) q
/-- d = {k: True for k in ..} -/
theorem wps_setDc {wi : TI} {i j : Nat} {vs : List Nat} (hj : j ∈ vs) (hjl : j < δ.length)
    (h : WpI R wi δ fun ds => ∃ zs : List Int, ds = zs.map D.int ∧ zs.Nodup ∧ zs.length ≤ 100000 ∧ ∀ p, Φ (δ.set i (.od p zs))) :
    WpS R (tAsg (tDc wi (gName j) tYes (tVar j) (tC (.bl true)) vs) (gName i)) δ Φ Ψ := fun σ G H en rz Z k1 k2 => by
  refine h σ G H en rz _ fun J ds G1 H1 s1 e1 wk ⟨zs, ed, nd, hl, q⟩ => ?_
  subst ed
  intro Dl hD
  have gD : G1 Dl = none := e1.same.free hD
  let Nx : Nat → Hp → Prop := fun i H' => ∃ G', Stp S0 G1 H1 G' H' ∧ Same G' H' ∧ G' Dl = none ∧ H' Dl = some (dTrue (zs.take i))
  have len : (zs.map D.int).length = zs.length := List.length_map ..
  refine ⟨fun i m H' => m = zs.length - i ∧ i ≤ zs.length ∧ Nx i H', ⟨_, rfl, Nat.zero_le _, G1, Stp.grow (same_upd hD), e1.same.trans (same_upd hD), gD, upd_same⟩, ?_⟩
  rintro k m H' ⟨rfl, hi, G', st, sm, gd, hd⟩
  obtain ⟨go, stop, yld⟩ := wk G' H' st.gs sm
  rw [len] at go stop yld
  by_cases lt : k < zs.length
  · refine .inr ⟨go k lt, Nx (k + 1), fun H2 z => ⟨zs.length - (k + 1), by omega, rfl, lt, z⟩, fun x H2 y => ?_⟩
    obtain ⟨d, G2, ed, s2, sm2, at2⟩ := yld k x H2 lt y
    rw [List.getElem?_map, List.getElem?_eq_getElem lt] at ed
    obtain rfl := Option.some.inj ed
    cases at2
    have st2 := st.trans s2
    have gd2 : G2 Dl = none := s2.gn Dl gd (by rw [hd]; exact fun z => nomatch z)
    have hd2 : H2 Dl = some (dTrue (zs.take k)) := s2.same _ _ hd
    have nk : zs[k] ∉ zs.take k := by
      intro z
      obtain ⟨a, la, ea⟩ := List.mem_take_iff_getElem.mp z
      have := (List.getElem_inj nd).mp ea
      omega
    show L2.wipe ((L2.wipe σ vs).set j (some (V.int zs[k]))) vs = L2.wipe σ vs ∧ _
    refine ⟨wipe_eq (js := [j]) (by simpa using hj) (fun k hk => List.getElem?_set_ne (fun z => hk (by simp [z]))) (by rw [List.length_set]), ?_⟩
    refine iteT (B := Nx (k + 1) H2) ?_
    refine ⟨_, List.getElem?_set_self (by rw [wipe_length, ← en.len]; exact hjl), _, Sum.inl zs[k], rfl, hd2, by rw [List.length_map, List.length_take]; exact Nat.lt_of_le_of_lt (Nat.le_trans (Nat.min_le_right _ _) hl) (by decide), G2, ?_⟩
    rw [putT nk]
    have e9 : zs.take k ++ [zs[k]] = zs.take (k + 1) := by rw [List.take_add_one, List.getElem?_eq_getElem lt]; rfl
    rw [e9]
    refine ⟨⟨st2.gs, fun b u e n => ?_, fun b e => ?_, st2.gn⟩, fun b u e => ?_, gd2, upd_same⟩
    · rw [upd_ne (ne_of_none e hD)]
      exact st2.hs b u e n
    · by_cases z : b = Dl
      · rw [z, upd_same]; exact fun q => nomatch q
      · rw [upd_ne z]; exact st2.al b e
    · rw [upd_ne (ne_of_none e gd2)]
      exact sm2 b u e
  · have e : k = zs.length := by omega
    subst e
    refine .inl ⟨stop, ?_⟩
    rw [List.take_length] at hd
    have e2 : Ens R.T G' H' δ σ := e1.step (S' := S0) st (fun _ z => z.elim) sm sto0
    -- the dict stands already: forget it and lay it anew
    have nS : ¬ R.T.S Dl := fun z => by
      obtain ⟨_, x, y, w, e⟩ := e1.stt Dl z
      rw [hD] at e
      exact nomatch e
    have nO : ¬ R.T.O Dl := fun z => e1.old Dl z hD
    have no : ∀ (k : Nat) (ds : List Int), ¬ δ[k]? = some (.od Dl ds) := fun k ds z => by
      obtain ⟨o, _, _, _, _, r⟩ := e1.get k _ z
      rw [hD] at r
      exact nomatch r
    refine k1 _ _ G' H' ((s1.toB en.old).trans ((st.zero (S := R.T.S)).toB e1.old)) ?_ (q Dl)
    refine ⟨e2.same, by rw [List.length_set, List.length_set]; exact e2.len, fun j s e => ?_, e2.stt, e2.old, e2.inv, fun j k a ds es q1 q2 => ?_, fun j k a ds es q1 q2 => ?_⟩
    · rcases get_set e with ⟨rfl, rfl⟩ | ⟨ne, e⟩
      · have lt : j < σ.length := by
          rw [← e1.len]
          have := (List.getElem?_eq_some_iff.mp e).1
          rw [List.length_set] at this
          exact this
        exact ⟨some (.ref Dl), List.getElem?_set_self lt, rfl, ⟨nS, nO⟩, gd, hd⟩
      · obtain ⟨o, e3, r⟩ := e2.get j s e
        exact ⟨o, by rw [List.getElem?_set_ne (fun z => ne z.symm)]; exact e3, r⟩
    · rcases get_set q1 with ⟨_, z⟩ | ⟨_, m1⟩
      · exact nomatch z
      · rcases get_set q2 with ⟨_, z⟩ | ⟨_, m2⟩
        · exact nomatch z
        · exact e2.nd j k a ds es m1 m2
    · rcases get_set q1 with ⟨rfl, z⟩ | ⟨n1, m1⟩
      · rcases get_set q2 with ⟨rfl, _⟩ | ⟨n2, m2⟩
        · rfl
        · obtain ⟨rfl, rfl⟩ := Sl.od.inj z
          exact (no k es m2).elim
      · rcases get_set q2 with ⟨rfl, z⟩ | ⟨n2, m2⟩
        · obtain ⟨rfl, rfl⟩ := Sl.od.inj z
          exact (no j ds m1).elim
        · exact e2.nd2 j k a ds es m1 m2
/-- list(d) -/
theorem wpe_keysD {i : Nat} {p : Addr} {ks : List Int} (e : δ[i]? = some (.od p ks)) (q : φ (.lst (ks.map D.int))) : WpE R (tCB rListD (tCons (tVar i) tNil)) δ φ := fun σ G H en rz Q k => by
  obtain ⟨o, e1, rfl, nS, nG, hx⟩ := en.get i _ e
  refine ⟨_, e1, p, _, rfl, hx, fun l hl => ?_⟩
  have e9 : ((ks.map fun k => ((Sum.inl k : Key), V.bl true)).map fun kv => kV kv.1) = ks.map V.int := by rw [List.map_map]; rfl
  rw [e9]
  have st : Stp S0 G H (upd G l (.lst (ks.map V.int))) (upd H l (.lst (ks.map V.int))) := .new en.same hl
  exact k _ _ _ _ st.zero (en.step0 st (upd_same2 en.same)) (.lst upd_same (ints_atAll ks)) q
end
end Nv
/-! Nv, part E: from the facts of the written part to the words of parts C and D. -/
namespace Nv
open PySem PySem.Spec PyProof.Rows L2
theorem funD_mk {K : PySem.W.Frag} {x qual : Str} {st : Stmt} {f T : Addr} {o : Obj} {its : List Value} {n : Nat} {dvs : List V} {oc : Value} {od an : Option Addr} {osl : Array (Option Value)} {kV doc pm cdv ct : Value}
    (l : K.lookup f = some ⟨oc, od, .func (PySem.W.fnOf x qual (defArgs st) (defBody st) (defScope st) (.ref T) kV doc pm an cdv ct), osl⟩)
    (c : PySem.W.codeIn K cdv qual = true) (k : PySem.W.keepIn K (.ref f) = true) (lT : K.lookup T = some o) (oT : o.data = .seq its.toArray n) (r : Vals dvs its) (ne : dvs ≠ []) :
    FunD K x qual (defArgs st) (defBody st) (defScope st) dvs [] f (PySem.W.fnOf x qual (defArgs st) (defBody st) (defScope st) (.ref T) kV doc pm an cdv ct) :=
  ⟨⟨oc, od, _, kV, doc, pm, an, cdv, ct, osl, rfl, l, c, Or.inr ⟨ne, T, o, its, n, rfl, lT, oT, r⟩, Or.inl rfl⟩, k⟩
theorem exm_self {K : PySem.W.Frag} {S : Addr} (h1 : PySem.W.subIn K (.ref S) (.type "BaseException") = some true) (h2 : PySem.W.isClsIn K S = true)
    (h3 : PySem.W.typeIn K (.ref S) = some (.type "type")) (h4 : PySem.W.subIn K (.ref S) (.ref S) = some true) :
    PySem.W.exmOne K (.ref S) (.ref S) = some true := by
  have e1 : (PySem.W.subIn K (.ref S) (.type "BaseException") == some true) = true := by rw [h1] <;> rfl
  have e2 : ((PySem.W.clsIn K S).isSome && PySem.W.typeIn K (.ref S) == some (.type "type")) = true := by
    have z : (PySem.W.clsIn K S).isSome = true := h2
    rw [z, h3] <;> rfl
  unfold PySem.W.exmOne
  rw [if_pos e1]
  unfold PySem.W.kitCls
  exact (if_pos e2).trans h4
theorem kit_sub {K : PySem.W.Frag} {C : Addr} {T : String} {b : Bool} (h : PySem.W.subIn K (.ref C) (.type T) = some b) (m : PySem.W.kitMeta T = true) :
    PySem.W.kitOne K (.ref C) (.type T) = some b := by
  have z : ((Value.ref C) == (Value.type T)) = false := by rfl
  unfold PySem.W.kitOne
  rw [z]
  unfold PySem.W.kitCls
  exact (if_neg Bool.false_ne_true).trans ((if_pos m).trans h)
/-- the facts of an own error class over another one over ValueError -/
theorem exC_mk {K : PySem.W.Frag} {mg : Str → Option Value} {x : Str} {C fI : Addr} {nm q : Str} {N : Addr} {bs bm : List Value} {sn : List Str} {sub : List Value} {ab : Bool}
    {col : Option Bool} {dd : Option Addr} {m0 m1 m2 m3 m5 : Option Value} (gC : mg x = some (.ref C))
    (xL : K.lookup C = some (excClassObj nm q C N bs bm true sn sub ab col dd m0 m1 m2 m3 m5 "ValueError.__new__"))
    (rV : PySem.HandSPX.refsVE bm = true) (sa : PySem.W.findIn K (.ref C) "__setattr__" = some (some (.builtin "object.__setattr__")))
    (ga : PySem.W.findIn K (.ref C) "__getattribute__" = some (some (.builtin "BaseException.__getattribute__"))) (gg : PySem.W.findIn K (.ref C) "__getattr__" = some none)
    (no : PySem.W.findIn K (.ref C) "what" = some none) (iC : PySem.W.findIn K (.ref C) "__init__" = some (some (.ref fI)))
    (tI : PySem.W.typeIn K (.ref fI) = some (.type "function")) (kC : PySem.W.keepIn K (.ref C) = true) (eC : PySem.W.subIn K (.ref C) (.type "BaseException") = some true)
    (tC : PySem.W.typeIn K (.ref C) = some (.type "type")) (hC : PySem.W.hasDictIn K C = true) (cC : PySem.W.isClsIn K C = true)
    (sC : PySem.W.subIn K (.ref C) (.ref C) = some true) : ExC K mg x C fI :=
  ⟨gC, ⟨⟨nm, q, N, bs, bm, sn, sub, ab, col, dd, m0, m1, m2, m3, m5, xL, rV⟩, sa, eC, tC, kC⟩, iC, tI, no, ⟨ga, gg, eC, hC⟩, exm_self eC cC tC sC⟩
end Nv
/-! Nv, part Y: methods of an own class over data; comprehensions with two loops. -/
namespace Nv
open PySem PySem.Spec PyProof.Rows L2
/-- a method of the class at C keeps a promise -/
structure Dm (P : Program) (w : World) (K : PySem.W.Frag) (mg : Str → Option Value) (base : Heap) (C : Addr) (m : Str) (CX : CXT) (k : Nat) (ps : List Str) (sp : Sp) : Prop where
  ex : ∃ f fd, FnOk P w K mg base CX k f fd ps sp ∧ Meth K C m f ∧ Binds K fd ps []
/-- a method as it stands behind the top -/
structure Mn (K : PySem.W.Frag) (C : Addr) (m qual : Str) (st : Stmt) (ps : List Str) (f : Addr) (fd : FuncData) : Prop where
  F : Fun K m qual st f fd
  h : Meth K C m f
  b : Binds K fd ps []
/-- as Dm, the function named -/
structure DmX (f : Addr) (fd : FuncData) (P : Program) (w : World) (K : PySem.W.Frag) (mg : Str → Option Value) (base : Heap) (C : Addr) (m : Str) (CX : CXT) (k : Nat) (ps : List Str) (sp : Sp) : Prop where
  ok : FnOk P w K mg base CX k f fd ps sp
  h : Meth K C m f
  b : Binds K fd ps []
theorem DmX.dm {f : Addr} {fd : FuncData} {P : Program} {w : World} {K : PySem.W.Frag} {mg : Str → Option Value} {base : Heap} {C : Addr} {m : Str} {CX : CXT} {k : Nat} {ps : List Str} {sp : Sp} (d : DmX f fd P w K mg base C m CX k ps sp) : Dm P w K mg base C m CX k ps sp := ⟨f, fd, d.ok, d.h, d.b⟩
section
variable {X : Cx} {CX : CXT} {k : Nat} {C : Addr} {m : Str} {ps : List Str} {sp : Sp} {E : XK} {p pos apos : Pos} {o e : Expr} {es : List Expr} {t : TA} {ta : TE}
theorem pe_methD {pl : Sem Bool} (he : PE X o ta) (c : Cls X.K C) (F : Dm X.prog X.w X.K X.mg X.base C m CX k ps sp) (hr : Room k X.A) (hx : Passes CX X E) (ha : PA X (e :: es) t)
    (hst : starEach (e :: es) X.env = (false, eval e X.env) :: starEach es X.env := by rfl) (hpl : (backTo pos (starEach es X.env)).any (·.1) = false := by rfl)
    (ht : eval (.Call (.Attribute o m apos) (e :: es) [] pos) X.env = (do
      let ov ← eval o X.env
      standAt apos.atName
      let (f, first) ← holding [ov] (getMethod ov m pl)
      callWith pos f first (backTo pos (starEach (e :: es) X.env)) (backToKw pos (keywordEach [] X.env))) := by rfl) :
    PE X (.Call (.Attribute o m apos) (e :: es) [] pos) (tMeth C m sp [] E ta t) := by
  obtain ⟨f, fd, h1, h2, h3⟩ := F.ex
  exact pe_meth he c h2 h1 hr h3 .nil hx ha hst hpl ht
end
section
variable {P : Program} {w : World} {K : PySem.W.Frag} {mg : Str → Option Value} {base : Heap}
theorem Mn.ok {x qual : Str} {C : Addr} {st : Stmt} {N ps : List Str} {f : Addr} {fd : FuncData} {n k : Nat} {c : Spc} (F : Mn K C x qual st ps f fd) (S : FnScope N ps (defScope st)) (hn : ps.length = n)
    (h : ∀ (cdv : Value) (A : Around) (outer : List Env) (s : Shared) (H : Hp) (E : XK) (as : List Sl), Room k (A.deeper (envOfC qual (defScope st) s.heap.objs.size f cdv)) → c.pre as → as.length = n →
      ∃ t, PSs (cxOf CX0 P w K mg base N qual (defScope st) f cdv A outer s H E).nox (defBody st) t ∧
        ∀ T : Tr, WpS ⟨E, c.err as, T⟩ t (as ++ List.replicate (N.length - n) .no) (fun _ => c.post as .non) (c.post as)) :
    DmX f fd P w K mg base C x CX0 (k + 1) ps (spW c n) := by
  refine ⟨F.F.ok S (fun vs H Q E h => ?_) (fun cdv A outer s H vs Q E hr q => ?_), F.h, F.b⟩
  · obtain ⟨S, G, as, l, _, _, ar, _⟩ := h
    rw [← ar.length, l, hn]
  · obtain ⟨S, G, as, l, sm, so, ar, p, k, r⟩ := q
    obtain ⟨t, h1, h2⟩ := h cdv A outer s H E as hr p l
    exact ⟨t, h1, wps_run l sm so ar k r h2⟩
end
theorem pi_seqK {X : Cx} {K : PySem.W.Frag} {tg l : Expr} {tl : TE} (h : X.K = K) (hl : PE X l tl) : PI X tg l (iSeq K tl) := h ▸ pi_seq hl
theorem pe_fldK {X : Cx} {K : PySem.W.Frag} {e : Expr} {f : Str} {pos : Pos} {ta : TE} (h : X.K = K) (he : PE X e ta) (hb : attributeBase e f X.env (eval e X.env) = eval e X.env) : PE X (.Attribute e f pos) (tFld K ta f) := h ▸ pe_fld he hb
theorem look_none {m : Str} {β : Type} : ∀ {fs : List (Str × β)}, (∀ y ∈ fs.map (·.1), (m == y) = false) → fs.lookup m = none
  | [], _ => rfl
  | (a, b) :: fs, h => by
    rw [List.lookup_cons, h a (by simp), look_none fun y hy => h y (by rw [List.map_cons]; exact List.mem_cons_of_mem _ hy)]
section
variable {R : Rg} {δ : List Sl} {te ta tb tc : TE} {tr : TA} {φ : D → Prop} {K : PySem.W.Frag}
theorem wpe_meth {c : Spc} {n : Nat} {E : XK} {C : Addr} {ns : List Str} {m : Str} (hm : ∀ y ∈ ns, (m == y) = false)
    (h : WpE R ta δ fun x => (∃ ds, x = .ins C ns ds) ∧ WpA R tr δ fun as => as.length + 1 = n ∧ c.pre (.da x :: as) ∧ (∀ d, c.post (.da x :: as) d → φ d) ∧ ∀ C d, ¬ c.err (.da x :: as) C d) :
    WpE R (tMeth C m (spW c n) [] E ta tr) δ φ := fun σ G H en rz Q k =>
  h σ G H en rz _ fun v x G1 H1 s1 e1 a1 ⟨⟨ds, ex⟩, h2⟩ => by
    subst ex
    have a1' := a1
    generalize hns : ns = ns' at a1
    cases a1 with
    | @ins p _ dx fs _ hp al =>
      refine ⟨p, dx, fs, rfl, e1.same _ _ hp, look_none (by rw [← hns]; exact hm), ?_⟩
      refine h2 σ G1 H1 e1 (rz.stepB (s1.toB en.old)) _ fun vs as G2 H2 s2 e2 a2 ⟨l, pr, q, r⟩ => ?_
      show spW c n (.ref p :: (vs ++ [])) H2 Q E
      rw [List.append_nil]
      exact ⟨R.T.S, G2, _, by rw [List.length_cons]; exact l, e2.same, e2.stt, .cons (show ArgR R.T.S G2 (.da (.ins C ns ds)) (.ref p) from a1'.same s2.gs) a2, pr, fun v d G' H' st sm so a pq => k v d G' H' ((s1.trans s2).trans st) (e2.step st (fun _ z => z) sm so) a (q d pq), fun C dd w d G' H' st hx a x => (r C d x).elim⟩
/-- an address that no slot knows is written -/
theorem Ens.side {T : Tr} {G H : Hp} {δ : List Sl} {σ : L2.St} (en : Ens T G H δ σ) {p : Addr} {o' : HO} (gp : G p = none) (nS : ¬ T.S p) (nO : ¬ T.O p)
    (no : ∀ (i : Nat) (a : Addr) (ds : List D), ¬ δ[i]? = some (.ow a ds)) (no2 : ∀ (i : Nat) (a : Addr) (ds : List Int), ¬ δ[i]? = some (.od a ds)) : Ens T G (upd H p o') δ σ := by
  refine ⟨fun b u e => by rw [upd_ne (ne_of_none e gp)]; exact en.same b u e, en.len, fun i s e => ?_, fun a ha => ?_, fun b hb => ?_, fun b u q => ?_, en.nd, en.nd2⟩
  · obtain ⟨o, e1, r⟩ := en.get i s e
    refine ⟨o, e1, ?_⟩
    cases s with
    | no => trivial
    | fx v => exact r
    | da d => exact r
    | fz _ _ => exact r
    | st a => exact r
    | ow a ds => exact (no i a ds e).elim
    | od a ks => exact (no2 i a ks e).elim
  · obtain ⟨q1, x1, y1, w1, q2⟩ := en.stt a ha
    exact ⟨q1, x1, y1, w1, by rw [upd_ne (show a ≠ p from fun z => nS (by rw [← z]; exact ha))]; exact q2⟩
  · rw [upd_ne (show b ≠ p from fun z => nO (by rw [← z]; exact hb))]
    exact en.old b hb
  · obtain ⟨q1, q2, q3⟩ := en.inv b u q
    exact ⟨by rw [upd_ne (show b ≠ p from fun z => nO (by rw [← z]; exact q3))]; exact q1, q2, q3⟩
/-- [h(e) for d in .. for e in ..] -/
theorem wpe_lc2 {wi wi1 : TI} {g g1 : TG} {vs vs1 js js1 : List Nat} (f : D → List D) (hd : D → D) (hjs : ∀ j ∈ js, j ∈ vs) (hjs1 : ∀ j ∈ js1, j ∈ vs1)
    (h : WpI R wi δ fun ds => (ds.flatMap f).length ≤ 1000000 ∧ (∀ d ∈ ds, WpG R g d (wipeD δ vs) js fun δ2 => ((∀ (i : Nat) (a : Addr) (ds : List D), ¬ δ2[i]? = some (.ow a ds)) ∧ (∀ (i : Nat) (a : Addr) (ds : List Int), ¬ δ2[i]? = some (.od a ds))) ∧ WpI R wi1 δ2 fun es => es.map hd = f d ∧ ∀ e ∈ es, WpG R g1 e (wipeD δ2 vs1) js1 fun δ3 => WpE R te δ3 fun y => y = hd e) ∧ φ (.lst (ds.flatMap f))) :
    WpE R (tLc2 wi g tYes wi1 g1 tYes te vs vs1) δ φ := fun σ G H en rz Q k => by
  refine h σ G H en rz _ fun J ds G1 H1 s1 e1 wk ⟨hl, step, fin⟩ => ?_
  intro Dl hD
  have gD : G1 Dl = none := e1.same.free hD
  have fD : ¬ R.T.S Dl ∧ ¬ R.T.O Dl := by
    refine ⟨fun z => ?_, fun z => e1.old Dl z hD⟩
    obtain ⟨_, x, y, w, e⟩ := e1.stt Dl z
    rw [hD] at e
    exact nomatch e
  have ew := e1.wipe vs
  let Nx : Nat → List D → Hp → Prop := fun i more H' => ∃ xs G', Stp R.T.S G1 H1 G' H' ∧ Same G' H' ∧ StO R.T.S G' H' ∧ G' Dl = none ∧ H' Dl = some (.lst xs) ∧ AtAll G' xs ((ds.take i).flatMap f ++ more)
  refine ⟨fun i m H' => m = ds.length - i ∧ i ≤ ds.length ∧ Nx i [] H', ⟨_, rfl, Nat.zero_le _, [], G1, Stp.grow (same_upd hD), e1.same.trans (same_upd hD), fun a ha => ?_, gD, upd_same, .nil⟩, ?_⟩
  · obtain ⟨q, x, y, w, e⟩ := e1.stt a ha
    exact ⟨q, x, y, w, by rw [upd_ne (ne_of_none e hD)]; exact e⟩
  rintro i m H' ⟨rfl, hi, xs, G', st, sm, so, gd, hd', al⟩
  have e' : Ens R.T G' H' (wipeD δ vs) (L2.wipe σ vs) := ew.step st (fun _ z => z) sm so
  obtain ⟨go, stop, yld⟩ := wk G' H' st.gs sm
  by_cases lt : i < ds.length
  · refine .inr ⟨go i lt, Nx (i + 1) [], fun H2 z => ⟨ds.length - (i + 1), by omega, rfl, lt, z⟩, fun x H2 y => ?_⟩
    obtain ⟨d, G2, ed, s2, sm2, at2⟩ := yld i x H2 lt y
    have tk : ds.take (i + 1) = ds.take i ++ [d] := by rw [List.take_add_one, ed]; rfl
    have e2 := e'.step0 s2 sm2
    have st2 := st.trans s2.zero
    have gd2 : G2 Dl = none := s2.gn Dl gd (by rw [hd']; exact fun z => nomatch z)
    have hd2 : H2 Dl = some (.lst xs) := s2.same _ _ hd'
    refine step d (List.mem_of_getElem? ed) (L2.wipe σ vs) G2 H2 x e2 at2 _ fun σ3 δ3 e3 ag ln ⟨no, w⟩ => ⟨wipe_eq hjs ag ln, ?_⟩
    have rz2 : Rz R G2 H2 := (rz.stepB (s1.toB en.old)).stepB (st2.toB e1.old)
    refine iteT (B := Nx (i + 1) [] H2) ?_
    refine w σ3 G2 H2 e3 rz2 _ fun J1 es G4 H4 s4 e4 wk1 ⟨ef, each⟩ => ?_
    have gd4 : G4 Dl = none := s4.gn Dl gd2 (by rw [hd2]; exact fun z => nomatch z)
    have hd4 : H4 Dl = some (.lst xs) := s4.hs _ _ hd2 fD.1
    have st4 := st2.trans s4
    have al4 := (al.same s2.gs).same s4.gs
    have ew1 := e4.wipe vs1
    let N5 : Nat → Hp → Prop := fun j H5 => ∃ G5, Same G4 G5 ∧ ∃ xs, Stp R.T.S G1 H1 G5 H5 ∧ Same G5 H5 ∧ StO R.T.S G5 H5 ∧ G5 Dl = none ∧ H5 Dl = some (.lst xs) ∧ AtAll G5 xs ((ds.take i).flatMap f ++ (es.take j).map hd) ∧ Ens R.T G5 H5 δ3 σ3
    refine ⟨fun j k H5 => k = es.length - j ∧ j ≤ es.length ∧ N5 j H5,
      ⟨_, rfl, Nat.zero_le _, G4, .refl _, xs, st4, e4.same, e4.stt, gd4, hd4, al4, e4⟩, ?_⟩
    rintro j k5 H5 ⟨rfl, hj, G5, g45, ys, st5, sm5, so5, gd5, hd5, al5, en5⟩
    obtain ⟨go1, stop1, yld1⟩ := wk1 G5 H5 g45 sm5
    by_cases lt1 : j < es.length
    · refine .inr ⟨go1 j lt1, N5 (j + 1),
        fun H6 z => ⟨es.length - (j + 1), by omega, rfl, lt1, z⟩, fun x6 H6 y6 => ?_⟩
      obtain ⟨d6, G6, ed6, s6, sm6, at6⟩ := yld1 j x6 H6 lt1 y6
      have en6 := en5.step0 s6 sm6
      have st6 := st5.trans s6.zero
      have gd6 : G6 Dl = none := s6.gn Dl gd5 (by rw [hd5]; exact fun z => nomatch z)
      have hd6 : H6 Dl = some (.lst ys) := s6.same _ _ hd5
      refine each d6 (List.mem_of_getElem? ed6) (L2.wipe σ3 vs1) G6 H6 x6 (en6.wipe vs1) at6 _ fun σ7 δ7 e7 ag7 ln7 w7 => ⟨wipe_eq hjs1 ag7 ln7, ?_⟩
      have rz6 : Rz R G6 H6 := (rz.stepB (s1.toB en.old)).stepB (st6.toB e1.old)
      refine iteT (B := N5 (j + 1) H6) ?_
      refine w7 σ7 G6 H6 e7 rz6 _ fun v y8 G8 H8 s8 e8 a8 q8 => ?_
      subst q8
      have gd8 : G8 Dl = none := s8.gn Dl gd6 (by rw [hd6]; exact fun z => nomatch z)
      have hd8 : H8 Dl = some (.lst ys) := s8.hs _ _ hd6 fD.1
      have st8 := st6.trans s8
      have al8 := (al5.same s6.gs).same s8.gs
      have tk1 : (es.take (j + 1)).map hd = (es.take j).map hd ++ [hd d6] := by rw [List.take_add_one, ed6, List.map_append]; rfl
      have sm9 : Same G8 (upd H8 Dl (.lst (ys ++ [v]))) := fun b u e => by rw [upd_ne (ne_of_none e gd8)]; exact e8.same b u e
      have so9 : StO R.T.S G8 (upd H8 Dl (.lst (ys ++ [v]))) := fun a ha => by
        obtain ⟨q1, x1, y1, w1, q2⟩ := e8.stt a ha
        exact ⟨q1, x1, y1, w1, by rw [upd_ne (show a ≠ Dl from fun z => fD.1 (by rw [← z]; exact ha))]; exact q2⟩
      have st9 : Stp R.T.S G1 H1 G8 (upd H8 Dl (.lst (ys ++ [v]))) := ⟨st8.gs, fun b u e n => by rw [upd_ne (ne_of_none e hD)]; exact st8.hs b u e n, fun b e => by
        by_cases z : b = Dl
        · rw [z, upd_same]; exact fun q => nomatch q
        · rw [upd_ne z]; exact st8.al b e, st8.gn⟩
      refine ⟨ys, hd8, ?_, G8, (g45.trans s6.gs).trans s8.gs, ys ++ [v], st9, sm9, so9, gd8, upd_same, ?_, ?_⟩
      · rw [al5.length, List.length_append, List.length_map]
        refine Nat.lt_of_lt_of_le (m := 1000001) ?_ (by decide)
        have h1 : ((ds.take i).flatMap f).length + (es.map hd).length ≤ (ds.flatMap f).length := by
          have e9 : ds.flatMap f = (ds.take (i + 1)).flatMap f ++ (ds.drop (i + 1)).flatMap f := by rw [← List.flatMap_append, List.take_append_drop]
          rw [e9, tk, List.flatMap_append, List.length_append, List.length_append, ef]
          simp only [List.flatMap_cons, List.flatMap_nil, List.append_nil]
          omega
        rw [List.length_map] at h1
        have h2 := List.length_take_le j es
        omega
      · rw [tk1, ← List.append_assoc]
        exact al8.app (.cons a8 .nil)
      · exact (en6.step s8 (fun _ z => z) e8.same e8.stt).side gd8 fD.1 fD.2 no.1 no.2
    · have e : j = es.length := by omega
      subst e
      refine .inl ⟨stop1, ys, G5, st5, sm5, so5, gd5, hd5, ?_⟩
      rw [List.take_length, ef] at al5
      rw [tk, List.flatMap_append, List.append_nil]
      simpa using al5
  · have e : i = ds.length := by omega
    subst e
    refine .inl ⟨stop, ?_⟩
    rw [List.take_length, List.append_nil] at al
    have sp : Stp R.T.S G1 H1 (upd G' Dl (.lst xs)) H' := ⟨st.gs.trans (same_upd gd), st.hs, st.al, fun b e1' e2' => by rw [upd_ne (fun z => e2' (by rw [z]; exact hD))]; exact st.gn b e1' e2'⟩
    have sm' : Same (upd G' Dl (.lst xs)) H' := fun b u e => by
      by_cases z : b = Dl
      · subst z
        rw [upd_same] at e
        rw [← e]
        exact hd'
      · rw [upd_ne z] at e
        exact sm b u e
    refine k _ _ _ _ (s1.trans sp) (e1.step sp (fun _ z => z) sm' fun a ha => ?_) (.lst upd_same (al.same (same_upd gd))) fin
    obtain ⟨q1, r⟩ := so a ha
    exact ⟨by rw [upd_ne (show a ≠ Dl from fun z => fD.1 (by rw [← z]; exact ha))]; exact q1, r⟩
end
end Nv
/-! Nv, part Z: xs.index(x), names among names. -/
namespace Nv
open PySem PySem.Spec PyProof.Rows L2
section
variable {R : Rg} {δ : List Sl} {ta tb : TE} {φ : D → Prop} {K : PySem.W.Frag}
theorem mt_indexK {X : Cx} {K : PySem.W.Frag} (h : X.K = K) : MtR X "list.index" (rIndex K) := h ▸ mt_index
theorem wpe_idx {α : Type} [DecidableEq α] (f : α → D) (g : α → V) (k1 : ∀ G xs (as : List α), AtAll G xs (as.map f) → xs = as.map g) (k2 : ∀ G v a, At G v (f a) → v = g a)
    (k3 : ∀ a, flatV (g a) = true) (k4 : ∀ a b, eqV (g a) (g b) = decide (a = b))
    (h : WpE R ta δ fun x => ∃ as : List α, x = .lst (as.map f) ∧ WpE R tb δ fun y => ∃ (a : α) (j : Nat), y = f a ∧ as[j]? = some a ∧ (∀ m, m < j → as[m]? ≠ some a) ∧ φ (.int j)) :
    WpE R (tBM K "list" (rIndex K) ta (tCons tb tNil)) δ φ := fun σ G H en rz Q k =>
  h σ G H en rz _ fun v x G1 H1 s1 e1 a1 ⟨as, ex, h2⟩ => by
    subst ex
    obtain ⟨p, xs, rfl, hp, al⟩ := at_lst a1
    obtain rfl := k1 _ _ _ al
    refine ⟨.inl ⟨rfl, _, sqL_of e1.same hp⟩, ?_⟩
    refine h2 σ G1 H1 e1 (rz.stepB (s1.toB en.old)) _ fun u y G2 H2 s2 e2 a2 ⟨a, j, ey, ej, nj, q⟩ => ?_
    subst ey
    obtain rfl := k2 _ _ _ a2
    refine ⟨p, as.map g, g a, j, g a, rfl, rfl, sqL_of e2.same (s2.gs _ _ hp), k3 a, List.all_eq_true.mpr fun z hz => ?_, by rw [List.getElem?_map, ej]; rfl, by rw [k4]; simp, fun m z hm e => ?_, k _ _ G2 H2 (s1.trans s2) e2 (.int _) q⟩
    · obtain ⟨b, _, rfl⟩ := List.mem_map.mp hz
      exact k3 b
    · rw [List.getElem?_map] at e
      obtain ⟨b, eb, rfl⟩ := Option.map_eq_some_iff.mp e
      rw [k4]
      exact decide_eq_false fun z => nj m hm (by rw [eb, z])
theorem wpe_idxI (h : WpE R ta δ fun x => ∃ as : List Int, x = .lst (as.map D.int) ∧ WpE R tb δ fun y => ∃ (a : Int) (j : Nat), y = .int a ∧ as[j]? = some a ∧ (∀ m, m < j → as[m]? ≠ some a) ∧ φ (.int j)) :
    WpE R (tBM K "list" (rIndex K) ta (tCons tb tNil)) δ φ :=
  wpe_idx D.int V.int (fun _ _ _ h => atAll_ints h) (fun _ _ _ h => by cases h; rfl) (fun _ => rfl) (fun a b => by show (a == b) = _; by_cases e : a = b <;> simp [e]) h
theorem wpe_idxS (h : WpE R ta δ fun x => ∃ as : List Str, x = .lst (as.map D.str) ∧ WpE R tb δ fun y => ∃ (a : Str) (j : Nat), y = .str a ∧ as[j]? = some a ∧ (∀ m, m < j → as[m]? ≠ some a) ∧ φ (.int j)) :
    WpE R (tBM K "list" (rIndex K) ta (tCons tb tNil)) δ φ :=
  wpe_idx D.str V.str (fun _ _ _ h => strs_atAll h) (fun _ _ _ h => by cases h; rfl) (fun _ => rfl) (fun a b => by show (a == b) = _; by_cases e : a = b <;> simp [e]) h
theorem inV_strs {z : Str} : ∀ {zs : List Str}, inV (.str z) (zs.map V.str) = decide (z ∈ zs)
  | [] => rfl
  | a :: zs => by
    rw [List.map_cons]
    show (eqV (.str a) (.str z) || inV (.str z) (zs.map V.str)) = _
    rw [inV_strs]
    show ((a == z) || _) = _
    by_cases e : a = z
    · subst e; simp
    · have e' : ¬ z = a := fun q => e q.symm
      simp [e, e']
theorem opd_inS {neg : Bool} {z : Str} {zs : List Str} {y : D} (e : y = .lst (zs.map D.str) ∨ y = .tup (zs.map D.str)) (q : φ (.bl (if neg then !decide (z ∈ zs) else decide (z ∈ zs)))) :
    OpD (rIn K neg) (.str z) y φ := fun G H v w s a b Q k => by
  cases a
  have fl : (zs.map V.str).all flatV = true := by
    rw [List.all_map]
    exact List.all_eq_true.mpr fun _ _ => rfl
  rcases e with rfl | rfl
  · obtain ⟨p0, xs, rfl, ha, al⟩ := at_lst b
    obtain rfl := strs_atAll al
    refine ⟨p0, _, rfl, .inl (sqL_of s ha), rfl, fl, ?_⟩
    rw [inV_strs]
    exact k _ _ G H .refl s (.bl _) q
  · obtain ⟨p0, xs, rfl, ha, al⟩ := at_tup b
    obtain rfl := strs_atAll al
    refine ⟨p0, _, rfl, .inr (sqT_of s ha), rfl, fl, ?_⟩
    rw [inV_strs]
    exact k _ _ G H .refl s (.bl _) q
end
end Nv
/-! Nv, part N: dicts of numbers; pairs in order; the place in a tuple. -/
namespace Nv
open PySem PySem.Spec PyProof.Rows L2
section
variable {X : Cx}
theorem flat_nums (ns : List Int) : (ns.map V.int).all flatV = true := by
  rw [List.all_map, List.all_eq_true]
  exact fun _ _ => rfl
def rTupI (K : PySem.W.Frag) : V → List V → Hp → VK → Prop := fun x xs H Q => ∃ (p : Addr) (ns : List Int) (c : Int) (j : Nat), x = .ref p ∧ xs = [.int c] ∧ SqT K H p (ns.map V.int) ∧ ns[j]? = some c ∧ (∀ m, m < j → ns[m]? ≠ some c) ∧ Q (.int (j : Nat)) H
theorem mt_tupI : MtR X "tuple.index" (rTupI X.K) := by
  intro pins s σ H x xs v us Q I rx rs ⟨p, ns, c, j, ex, exs, sq, hit, no, q⟩
  subst ex
  subst exs
  cases rx
  obtain ⟨u, hu, t, ht⟩ := vals1 rs
  subst hu
  subst ht
  obtain ⟨its, rr, ob, lk⟩ := I.tuple sq
  obtain ⟨⟨cl, dd, da, sl⟩, ho, hcl, n, hda⟩ := ob
  obtain rfl : cl = _ := hcl
  obtain rfl : da = _ := hda
  have sz : its.toArray.size = ns.length := by rw [List.size_toArray, ← rr.length, List.length_map]
  have item : ∀ (m : Nat) (lm : m < its.toArray.size), ∃ (b : Int) (tk : Tok), ns[m]? = some b ∧ its.toArray[m] = Value.int b tk := by
    intro m lm
    have lm2 : m < ns.length := Nat.lt_of_lt_of_eq lm sz
    obtain ⟨w, ew, tk, etk⟩ := rr.get (i := m) (x := .int ns[m]) (by simp [lm2])
    have e9 := (List.getElem?_eq_some_iff.mp ew).2
    exact ⟨ns[m], tk, List.getElem?_eq_getElem lm2, by rw [← etk, ← e9]; simp⟩
  have lj : j < its.toArray.size := Nat.lt_of_lt_of_eq (List.getElem?_eq_some_iff.mp hit).1 sz.symm
  refine call_meets PySem.F.slot_tuple_index ⟨_, ho, rfl⟩ PySem.F.entry_tuple_index (PySem.F.args_tuple_index_2 _ _)
    (TI.tuple_indexAt p its.toArray n dd sl (.int c t) (eqU (.int c)) j lj ?_ ?_) ⟨ho, fun w hw => ?_, ⟨.int (j : Nat), H, I.tok _, ⟨_, rfl⟩, q⟩⟩
  · obtain ⟨b, tk, e1, e2⟩ := item j lj
    rw [hit] at e1
    obtain rfl := Option.some.inj e1
    rw [e2]
    exact beq_self_eq_true c
  · intro m lm lt
    obtain ⟨b, tk, e1, e2⟩ := item m lm
    rw [e2]
    have nb : b ≠ c := fun z => no m lt (by rw [e1, z])
    show (b == c) = false
    exact beq_false_of_ne nb
  · exact mem_eqAt (x := .int c) ⟨t, rfl⟩ rfl rr (flat_nums ns) w (by simpa using hw)
theorem mt_tupIK {X : Cx} {K : PySem.W.Frag} (h : X.K = K) : MtR X "tuple.index" (rTupI K) := h ▸ mt_tupI
end
section
variable {R : Rg} {δ : List Sl} {ta tb tc : TE} {tr : TA} {φ : D → Prop} {K : PySem.W.Frag}
/-- a dict of numbers -/
def numD (ks : List Int) (vs : List D) : D := .dic (ks.map Sum.inl) vs
theorem val_num : ∀ {kvs : List (Key × V)} {ks : List Int} {j : Nat} {z : Int} {v : V}, kvs.map (·.1) = ks.map Sum.inl → ks.Nodup → ks[j]? = some z → (kvs.map (·.2))[j]? = some v → valV kvs (Sum.inl z) = some v
  | [], _, j, _, _, _, _, _, e => by simp at e
  | (a, b) :: kvs, [], _, _, _, h, _, _, _ => by simp at h
  | (a, b) :: kvs, y :: ks, j, z, v, h, nd, e1, e2 => by
    rw [List.map_cons, List.map_cons] at h
    obtain ⟨h1, h2⟩ := List.cons.inj h
    obtain ⟨n1, n2⟩ := List.nodup_cons.mp nd
    match j, e1, e2 with
    | 0, e1, e2 =>
      obtain rfl : y = z := by simpa using e1
      obtain rfl : b = v := by simpa using e2
      exact valV_pos h1
    | j + 1, e1, e2 =>
      have m : z ∈ ks := List.mem_of_getElem? (by simpa using e1)
      rw [valV_neg (fun q => n1 (by
        rw [h1] at q
        rw [Sum.inl.inj q]
        exact m))]
      exact val_num h2 n2 (by simpa using e1) (by simpa using e2)
theorem at_num {G : Hp} {v : V} {ks : List Int} {ds : List D} (h : At G v (numD ks ds)) : ∃ (p : Addr) (kvs : List (Key × V)), v = .ref p ∧ G p = some (.dK kvs) ∧ kvs.map (·.1) = ks.map Sum.inl ∧ AtAll G (kvs.map (·.2)) ds := by
  unfold numD at h
  generalize hk : ks.map (Sum.inl (β := Str)) = kk at h
  cases h with
  | dic e t => exact ⟨_, _, rfl, e, rfl, t⟩
/-- d[k] -/
theorem wpe_getN (h : WpE R ta δ fun x => ∃ (ks : List Int) (ds : List D), x = numD ks ds ∧ ks.Nodup ∧ WpE R tb δ fun y => ∃ (z : Int) (j : Nat) (d : D), y = .int z ∧ ks[j]? = some z ∧ ds[j]? = some d ∧ φ d) : WpE R (tDGet ta tb) δ φ := fun σ G H en rz Q k =>
  h σ G H en rz _ fun v x G1 H1 s1 e1 a1 ⟨ks, ds, ex, nd, h2⟩ => by
    subst ex
    obtain ⟨p, kvs, rfl, hp, hk, al⟩ := at_num a1
    refine h2 σ G1 H1 e1 (rz.stepB (s1.toB en.old)) _ fun u y G2 H2 s2 e2 a2 ⟨z, j, d, ey, ej, ed, q⟩ => ?_
    subst ey
    cases a2
    obtain ⟨w, ew, aw⟩ := al.get ed
    refine ⟨p, w, rfl, .inl ⟨kvs, Sum.inl z, .inl (e2.same _ _ (s2.gs _ _ hp)), rfl, (val_num hk nd ej ew).symm⟩, k _ _ G2 H2 (s1.trans s2) e2 (aw.same s2.gs) q⟩
end
end Nv
/-! Nv, part O: a tuple that is known as an object: its index. -/
namespace Nv
open PySem PySem.Spec PyProof.Rows L2
def rTupF (K : PySem.W.Frag) : List V → Hp → VK → Prop := fun xs H Q => ∃ p ys, xs = [.ref p] ∧ SqL K H p ys ∧ ∀ (l : Addr) (o : Obj), H l = none → o.dict = none → Q (.ref l) (upd H l (.frz o (.tup ys)))
theorem call_tupF {X : Cx} : CallR X (.type "tuple") (rTupF X.K) := by
  intro pins s σ H xs us Q I r ⟨p, ys, ex, sq, q⟩
  subst ex
  obtain ⟨u, hu, ru⟩ := vals1 r
  subst hu
  cases ru
  obtain ⟨its, rv, lay, fits⟩ := I.list sq
  have same := rv.length
  refine call_tuple_list lay.isList (fun hp kp => ?_) (by rw [List.size_toArray]; omega)
  have J : Inv X pins σ H { s with heap := hp } := I.kept (t' := s.toks) kp
  have fresh := J.hok.fresh (Nat.le_refl _)
  refine ⟨.ref hp.objs.size, upd H hp.objs.size (.frz { cls := .type "tuple", data := .seq its.toArray } (.tup ys)), ?_, rfl, q _ _ fresh rfl⟩
  refine J.laid (t' := s.toks) (fun b o e => Heap.get?_push_of_some _ e) (Nat.le_refl _) ⟨Heap.get?_push_size _ rfl, fits, its, rv, IsTup.new _ _⟩
/-- the slot of such a tuple, read -/
theorem wpe_varF {R : Rg} {δ : List Sl} {φ : D → Prop} {i : Nat} {a : Addr} {ds : List D} (e : δ[i]? = some (.fz a ds)) (q : φ (.tup ds)) : WpE R (tVar i) δ φ := fun σ G H en rz Q k => by
  obtain ⟨o, e1, rfl, ob, xs, hg, _, al⟩ := en.get i _ e
  exact ⟨_, e1, k _ _ G H .refl en (.tup (.inr ⟨ob, hg⟩) al) q⟩
theorem Ens.setF {T : Tr} {G H : Hp} {δ : List Sl} {σ : L2.St} (en : Ens T G H δ σ) {i : Nat} {a : Addr} {ob : Obj} {xs : List V} {ds : List D} (hg : G a = some (.frz ob (.tup xs))) (hd : ob.dict = none) (al : AtAll G xs ds) :
    Ens T G H (δ.set i (.fz a ds)) (σ.set i (some (.ref a))) := by
  have e0 := en.setD (i := i) (v := .ref a) (d := .tup ds) (.tup (.inr ⟨ob, hg⟩) al)
  refine ⟨en.same, by rw [List.length_set, List.length_set]; exact en.len, fun j s e => ?_, en.stt, en.old, en.inv, fun j k b es fs h1 h2 => ?_, fun j k b es fs h1 h2 => ?_⟩
  · rcases get_set e with ⟨rfl, rfl⟩ | ⟨ne, e2⟩
    · have lt : j < σ.length := by
        rw [← en.len]
        have := (List.getElem?_eq_some_iff.mp e).1
        rwa [List.length_set] at this
      exact ⟨_, List.getElem?_set_self lt, rfl, ob, xs, hg, hd, al⟩
    · exact e0.get j s (by rw [List.getElem?_set_ne (fun z => ne z.symm)]; exact e2)
  · rcases get_set h1 with ⟨_, z⟩ | ⟨_, m1⟩
    · exact nomatch z
    · rcases get_set h2 with ⟨_, z⟩ | ⟨_, m2⟩
      · exact nomatch z
      · exact en.nd j k b es fs m1 m2
  · rcases get_set h1 with ⟨_, z⟩ | ⟨_, m1⟩
    · exact nomatch z
    · rcases get_set h2 with ⟨_, z⟩ | ⟨_, m2⟩
      · exact nomatch z
      · exact en.nd2 j k b es fs m1 m2
/-- x = tuple(..), known as an object -/
theorem wps_setF {R : Rg} {δ : List Sl} {Φ : List Sl → Prop} {Ψ : D → Prop} {K : PySem.W.Frag} {ta : TE} {i : Nat} (h : WpE R ta δ fun x => ∃ ds, x = .lst ds ∧ ∀ a, Φ (δ.set i (.fz a ds))) :
    WpS R (tAsg (tCB (rTupF K) (tCons ta tNil)) (gName i)) δ Φ Ψ := fun σ G H en rz Z k1 k2 =>
  h σ G H en rz _ fun v x G1 H1 s1 e1 a1 ⟨ds, ex, q⟩ => by
    subst ex
    obtain ⟨p, xs, rfl, hp, al⟩ := at_lst a1
    refine ⟨p, xs, rfl, sqL_of e1.same hp, fun l ob hl hd => ?_⟩
    have gl : G1 l = none := e1.same.free hl
    have gs : Same G1 (upd G1 l (.frz ob (.tup xs))) := same_upd gl
    have st : Stp R.T.S G1 H1 (upd G1 l (.frz ob (.tup xs))) (upd H1 l (.frz ob (.tup xs))) := by
      refine ⟨gs, fun b u e n => by rw [upd_ne (ne_of_none e hl)]; exact e, fun b e => ?_, fun b e1' e2' => ?_⟩
      · by_cases z : b = l
        · rw [z, upd_same]; exact fun q => nomatch q
        · rw [upd_ne z]; exact e
      · rw [upd_ne (fun z => e2' (by rw [z]; exact hl))]
        exact e1'
    have so : StO R.T.S (upd G1 l (.frz ob (.tup xs))) (upd H1 l (.frz ob (.tup xs))) := fun b hb => by
      obtain ⟨q1, x1, y1, w1, q2⟩ := e1.stt b hb
      have nb : b ≠ l := ne_of_none q2 hl
      exact ⟨by rw [upd_ne nb]; exact q1, x1, y1, w1, by rw [upd_ne nb]; exact q2⟩
    have e2 := e1.step st (fun _ z => z) (upd_same2 e1.same) so
    exact k1 _ _ _ _ (((s1.trans st)).toB en.old) (e2.setF upd_same hd (al.same gs)) (q l)
/-- t.index(x) of such a tuple -/
def tIdxF (K : PySem.W.Frag) (to : TE) (t : TA) : TE := fun σ H Q => to σ H fun x H1 => (∃ (a : Addr) (ob : Obj) (xs : List V), x = .ref a ∧ H1 a = some (.frz ob (.tup xs)) ∧ ob.dict = none) ∧ t σ H1 fun vs H2 => rTupI K x vs H2 Q
theorem pe_idxF {X : Cx} {K : PySem.W.Frag} {o e : Expr} {to : TE} {t : TA} {apos cp : Pos} (hK : X.K = K) (ho : PE X o to) (ha : PA X [e] t)
    (b1 : attributeBase o "index" X.env (eval o X.env) = eval o X.env := by rfl)
    (b2 : ((backTo cp (starEach [e] X.env)).all (fun x => !x.1) && (backToKw cp (keywordEach [] X.env)).all (fun x => x.1.isSome) && decide ([e].length + ([] : List Keyword).length + (if ([] : List Keyword).isEmpty then 0 else 1) < 30)) = true := by rfl)
    (b3 : (apos.endLine == cp.line) = true := by rfl) (b4 : (backTo cp (starEach [e] X.env)).any (·.1) = false := by rfl)
    (b5 : starEach [e] X.env = (false, eval e X.env) :: starEach [] X.env := by rfl) :
    PE X (.Call (.Attribute o "index" apos) [e] [] cp) (tIdxF K to t) := by
  subst hK
  constructor
  intro pins s σ H Q I h
  apply wpAny_Call_method_late b1 b2 b3 rfl
  refine thn (ho.run pins s σ H _ I h) fun v s1 hv => ?_
  obtain ⟨x, H1, I1, r1, ⟨a, ob, xs, ex, hf, hd⟩, q1⟩ := hv
  subst ex
  cases r1
  obtain ⟨g1, _, its, _, o', g2, g3, _⟩ := (show ObjOk X.prog X.w H1 s1.heap a (.frz ob (.tup xs)) from I1.hok a _ hf)
  refine ⟨"tuple", "tuple.index", PySem.F.plainAttrs_tuple, PySem.F.slot_tuple_index, PySem.F.type_tuple_index, ⟨o', g2, g3⟩, fun b eb => ?_, ?_⟩
  · cases eb
    exact ⟨ob, g1, hd⟩
  · apply Calls.callWith_builtin b4
    have run := ha.run cp pins s1 σ H1 _ I1 q1
    rw [b5] at run ⊢
    exact Calls.evalArgs_plain (thn run fun us s2 ⟨vs, H2, I2, r2, q2⟩ => mt_tupI pins s2 σ H2 (.ref a) vs _ us Q I2 rfl r2 q2)
theorem wpe_idxF {R : Rg} {δ : List Sl} {φ : D → Prop} {K : PySem.W.Frag} {tb : TE} {i : Nat} {a : Addr} {ns : List Int} (e : δ[i]? = some (.fz a (ns.map D.int)))
    (h : WpE R tb δ fun y => ∃ (c : Int) (j : Nat), y = .int c ∧ ns[j]? = some c ∧ (∀ m, m < j → ns[m]? ≠ some c) ∧ φ (.int j)) : WpE R (tIdxF K (tVar i) (tCons tb tNil)) δ φ := fun σ G H en rz Q k => by
  obtain ⟨o, e1, rfl, ob, xs, hg, hd, al⟩ := en.get i _ e
  obtain rfl := atAll_ints al
  refine ⟨_, e1, ⟨a, ob, _, rfl, en.same _ _ hg, hd⟩, h σ G H en rz _ fun u y G2 H2 s2 e2 a2 ⟨c, j, ey, ej, nj, q⟩ => ?_⟩
  subst ey
  cases a2
  exact ⟨a, ns, c, j, rfl, rfl, .inl (.inr ⟨ob, e2.same _ _ (s2.gs _ _ hg)⟩), ej, nj, k _ _ G2 H2 s2 e2 (.int _) q⟩
end Nv
/-! Nv, part I: a dict of numbers made by a comprehension; pairs in order. -/
namespace Nv
open PySem PySem.Spec PyProof.Rows L2
section
variable {R : Rg} {δ : List Sl} {φ : D → Prop} {K : PySem.W.Frag}
theorem valV_none {kvs : List (Key × V)} {k : Key} (h : ∀ p ∈ kvs, p.1 ≠ k) : valV kvs k = none := by
  unfold valV
  rw [List.find?_eq_none.mpr fun p hp => by simpa using h p hp]
  rfl
theorem wpe_dcN {wi : TI} {g : TG} {tk tv : TE} {vs js : List Nat} (hjs : ∀ j ∈ js, j ∈ vs) (kf : D → Int) (vf : D → D)
    (h : WpI R wi δ fun ds => ds.length ≤ 100000 ∧ (ds.map kf).Nodup ∧ (∀ d ∈ ds, WpG R g d (wipeD δ vs) js fun δ2 => WpE R tk δ2 fun y => y = .int (kf d) ∧ WpE R tv δ2 fun z => z = vf d) ∧ φ (numD (ds.map kf) (ds.map vf))) :
    WpE R (tDc wi g tYes tk tv vs) δ φ := fun σ G H en rz Q k => by
  refine h σ G H en rz _ fun J ds G1 H1 s1 e1 wk ⟨hl, nd, step, fin⟩ => ?_
  intro Dl hD
  have gD : G1 Dl = none := e1.same.free hD
  have nS : ¬ R.T.S Dl := fun z => by
    obtain ⟨_, x, y, w, e⟩ := e1.stt Dl z
    rw [hD] at e
    exact nomatch e
  have ew := e1.wipe vs
  let Nx : Nat → Hp → Prop := fun i H' => ∃ (kvs : List (Key × V)) (G' : Hp), Stp R.T.S G1 H1 G' H' ∧ Same G' H' ∧ StO R.T.S G' H' ∧ G' Dl = none ∧ H' Dl = some (.dK kvs) ∧ kvs.map (·.1) = ((ds.take i).map kf).map Sum.inl ∧ AtAll G' (kvs.map (·.2)) ((ds.take i).map vf)
  refine ⟨fun i m H' => m = ds.length - i ∧ i ≤ ds.length ∧ Nx i H', ⟨_, rfl, Nat.zero_le _, [], G1, Stp.grow (same_upd hD), e1.same.trans (same_upd hD), fun a ha => ?_, gD, upd_same, rfl, .nil⟩, ?_⟩
  · obtain ⟨q, x, y, w, e⟩ := e1.stt a ha
    exact ⟨q, x, y, w, by rw [upd_ne (ne_of_none e hD)]; exact e⟩
  rintro i m H' ⟨rfl, hi, kvs, G', st, sm, so, gd, hd, hk, al⟩
  have e' : Ens R.T G' H' (wipeD δ vs) (L2.wipe σ vs) := ew.step st (fun _ z => z) sm so
  obtain ⟨go, stop, yld⟩ := wk G' H' st.gs sm
  by_cases lt : i < ds.length
  · refine .inr ⟨go i lt, Nx (i + 1), fun H2 z => ⟨ds.length - (i + 1), by omega, rfl, lt, z⟩, fun x H2 y => ?_⟩
    obtain ⟨d, G2, ed, s2, sm2, at2⟩ := yld i x H2 lt y
    have e2 := e'.step0 s2 sm2
    have st2 := st.trans s2.zero
    have gd2 : G2 Dl = none := s2.gn Dl gd (by rw [hd]; exact fun z => nomatch z)
    have hd2 : H2 Dl = some (.dK kvs) := s2.same _ _ hd
    refine step d (List.mem_of_getElem? ed) (L2.wipe σ vs) G2 H2 x e2 at2 _ fun σ3 δ3 e3 ag ln w => ⟨wipe_eq hjs ag ln, ?_⟩
    have rz2 : Rz R G2 H2 := (rz.stepB (s1.toB en.old)).stepB (st2.toB e1.old)
    refine iteT (B := Nx (i + 1) H2) ?_
    refine w σ3 G2 H2 e3 rz2 _ fun v y4 G4 H4 s4 e4 a4 ⟨ey, w2⟩ => ?_
    subst ey
    cases a4
    refine w2 σ3 G4 H4 e4 (rz2.stepB (s4.toB e3.old)) _ fun v5 y5 G5 H5 s5 e5 a5 ey5 => ?_
    subst ey5
    have st5 := (st2.trans s4).trans s5
    have gd4 : G4 Dl = none := s4.gn Dl gd2 (by rw [hd2]; exact fun z => nomatch z)
    have hd4 : H4 Dl = some (.dK kvs) := s4.hs _ _ hd2 nS
    have gd5 : G5 Dl = none := s5.gn Dl gd4 (by rw [hd4]; exact fun z => nomatch z)
    have hd5 : H5 Dl = some (.dK kvs) := s5.hs _ _ hd4 nS
    have al5 := ((al.same s2.gs).same s4.gs).same s5.gs
    have tk1 : ds.take (i + 1) = ds.take i ++ [d] := by rw [List.take_add_one, ed]; rfl
    have len : kvs.length = i := by
      have := congrArg List.length hk
      rw [List.length_map, List.length_map, List.length_map, List.length_take] at this
      omega
    have nk : ∀ p ∈ kvs, p.1 ≠ Sum.inl (kf d) := fun p hp e => by
      have m : p.1 ∈ kvs.map (·.1) := List.mem_map.mpr ⟨p, hp, rfl⟩
      rw [hk, e] at m
      obtain ⟨z, hz, ez⟩ := List.mem_map.mp m
      have : z = kf d := Sum.inl.inj ez
      subst this
      have nd2 : ((ds.take (i + 1)).map kf).Nodup := nd.sublist ((List.take_sublist _ _).map _)
      rw [tk1, List.map_append, List.nodup_append] at nd2
      exact nd2.2.2 _ hz _ (by simp) rfl
    refine ⟨kvs, Sum.inl (kf d), rfl, hd5, by rw [len]; exact Nat.lt_of_le_of_lt (Nat.le_trans hi hl) (by decide), ?_⟩
    rw [putK_new v5 (valV_none nk)]
    refine ⟨kvs ++ [(Sum.inl (kf d), v5)], G5, ⟨st5.gs, fun b u e n => ?_, fun b e => ?_, st5.gn⟩, fun b u e => ?_, fun a ha => ?_, gd5, upd_same, ?_, ?_⟩
    · rw [upd_ne (ne_of_none e hD)]
      exact st5.hs b u e n
    · by_cases z : b = Dl
      · rw [z, upd_same]; exact fun q => nomatch q
      · rw [upd_ne z]; exact st5.al b e
    · rw [upd_ne (ne_of_none e gd5)]
      exact e5.same b u e
    · obtain ⟨q1, x1, y1, w1, q2⟩ := e5.stt a ha
      exact ⟨q1, x1, y1, w1, by rw [upd_ne (show a ≠ Dl from fun z => nS (by rw [← z]; exact ha))]; exact q2⟩
    · rw [List.map_append, hk, tk1, List.map_append, List.map_append]
      rfl
    · rw [List.map_append, tk1, List.map_append]
      exact al5.app (.cons a5 .nil)
  · have e : i = ds.length := by omega
    subst e
    refine .inl ⟨stop, ?_⟩
    rw [List.take_length] at hk al
    have sp : Stp R.T.S G1 H1 (upd G' Dl (.dK kvs)) H' := ⟨st.gs.trans (same_upd gd), st.hs, st.al, fun b e1' e2' => by rw [upd_ne (fun z => e2' (by rw [z]; exact hD))]; exact st.gn b e1' e2'⟩
    have sm' : Same (upd G' Dl (.dK kvs)) H' := fun b u e => by
      by_cases z : b = Dl
      · subst z
        rw [upd_same] at e
        rw [← e]
        exact hd
      · rw [upd_ne z] at e
        exact sm b u e
    have atD : At (upd G' Dl (.dK kvs)) (.ref Dl) (numD (ds.map kf) (ds.map vf)) := by
      unfold numD
      rw [← hk]
      exact .dic upd_same (al.same (same_upd gd))
    refine k _ _ _ _ (s1.trans sp) (e1.step sp (fun _ z => z) sm' fun a ha => ?_) atD fin
    obtain ⟨q1, r⟩ := so a ha
    exact ⟨by rw [upd_ne (show a ≠ Dl from fun z => nS (by rw [← z]; exact ha))]; exact q1, r⟩
end
section
variable {X : Cx}
/-- sorted(..) of a list of pairs of numbers, frozen or not -/
def rSortP2 (K : PySem.W.Frag) : List V → Hp → VK → Prop := fun vs H Q => ∃ (l : Addr) (ws : List V) (f : V → Int × Int), vs = [V.ref l] ∧ SqL K H l ws ∧ (∀ w ∈ ws, ∃ b, w = V.ref b ∧ Rd H b (.tup [.int (f w).1, .int (f w).2])) ∧
  ∀ zs q, SrtO.Srtd (ltP f) zs → SrtO.Stb (ltP f) zs ws → H q = none → Q (.ref q) (upd H q (.lst zs))
theorem cr_sortP2 : CallR X (.builtin "sorted") (rSortP2 X.K) := by
  intro pn st sg Hh args vals Kq J rel hyp
  obtain ⟨l, ws, f, ea, sq, each, fin⟩ := hyp
  subst ea
  obtain ⟨items, rvs, lay, fit⟩ := J.list sq
  obtain ⟨arg, earg, rarg⟩ := vals1 rel
  subst earg
  cases rarg
  have isr : ∀ w ∈ ws, ∃ b, w = V.ref b := fun w m => (each w m).imp fun b z => z.1
  obtain ⟨back, refs⟩ := refs_back rvs isr
  have lens : items.length ≤ sizeLine := Nat.le_trans (Nat.le_of_eq rvs.length.symm) fit
  refine SrtO.sorted_pairsO (k := fun v => f (backV v)) lay.isList lens ?_ ?_
  · intro v mv
    obtain ⟨b, eb⟩ := refs v mv
    subst eb
    have mem : V.ref b ∈ ws := by rw [back]; exact List.mem_map_of_mem mv
    obtain ⟨c, ec, rd⟩ := each _ mem
    obtain rfl := V.ref.inj ec
    obtain ⟨_, two, rtwo, ob, go, gc, gn, gd⟩ := rd.ok J.hok
    obtain ⟨v1, v2, etwo, rv1, rv2⟩ := vals2 rtwo
    subst etwo
    obtain ⟨k1, z1⟩ := rv1
    obtain ⟨k2, z2⟩ := rv2
    subst z1
    subst z2
    exact ⟨b, ob, k1, k2, gn, rfl, go, gc, gd⟩
  · intro hp dl outs s1 s2 kept isnew hn
    obtain ⟨nn, enn⟩ := hn
    have allr : ∀ v ∈ outs, ∃ b, v = Value.ref b := fun v mv => refs v (s2.perm.mem_iff.mp mv)
    have stb : SrtO.Stb (ltP f) (outs.map backV) ws := by rw [back]; exact SrtO.Stb.map (ltP_swo f) backV s2
    have fit2 : (outs.map backV).length ≤ sizeLine := Nat.le_trans (Nat.le_of_eq stb.len) fit
    exact ⟨.ref dl, upd Hh dl (.lst (outs.map backV)), J.laid (t' := st.toks) kept isnew ⟨fit2, outs, nn, vals_back allr, enn⟩, rfl, fin _ dl (SrtO.srtd_map s1) stb (J.hok.fresh isnew)⟩
end
section
variable {φ : D → Prop} {K : PySem.W.Frag}
def pairD (p : Int × Int) : D := .tup [.int p.1, .int p.2]
theorem at_pair {G : Hp} {v : V} {p : Int × Int} (h : At G v (pairD p)) : ∃ t, v = .ref t ∧ Rd G t (.tup [.int p.1, .int p.2]) := by
  obtain ⟨t, xs, rfl, ht, al⟩ := at_tup h
  cases al with
  | cons a1 al =>
    cases al with
    | cons a2 al =>
      cases al
      cases a1
      cases a2
      exact ⟨t, rfl, ht⟩
theorem pair_uniq {G : Hp} {t : Addr} {p q : Int × Int} (h1 : Rd G t (.tup [.int p.1, .int p.2])) (h2 : Rd G t (.tup [.int q.1, .int q.2])) : p = q := by
  have key : ∀ {a b c d : Int}, HO.tup [V.int a, V.int b] = HO.tup [V.int c, V.int d] → a = c ∧ b = d := fun e => by
    obtain ⟨e1, e2⟩ := List.cons.inj (HO.tup.inj e)
    exact ⟨V.int.inj e1, V.int.inj (List.cons.inj e2).1⟩
  have fin : p.1 = q.1 ∧ p.2 = q.2 → p = q := fun ⟨a, b⟩ => Prod.ext a b
  rcases h1 with h1 | ⟨o, h1⟩ <;> rcases h2 with h2 | ⟨o2, h2⟩ <;> rw [h1] at h2 <;> have h3 := Option.some.inj h2
  · exact fin (key h3)
  · exact nomatch h3
  · exact nomatch h3
  · exact fin (key (HO.frz.inj h3).2)
theorem cbd_sortP {ps : List (Int × Int)} (q : ∀ qs : List (Int × Int), qs.Perm ps → qs.Pairwise (fun a b => a.1 ≤ b.1) → φ (.lst (qs.map pairD))) : CbD (rSortP2 K) [.lst (ps.map pairD)] φ := fun G H vs s a Q k => by
  cases a with
  | cons a t =>
    cases t
    obtain ⟨p0, xs, rfl, ha, al⟩ := at_lst a
    let F : V → Int × Int → Prop := fun v p => ∃ t, v = .ref t ∧ Rd G t (.tup [.int p.1, .int p.2])
    have uniq : ∀ {v : V} {p r : Int × Int}, F v p → F v r → p = r := fun ⟨t, e, h1⟩ ⟨t2, e2, h2⟩ => by
      subst e
      obtain rfl := V.ref.inj e2
      exact pair_uniq h1 h2
    let f : V → Int × Int := fun v => @dite _ (∃ p, F v p) (Classical.propDecidable _) (fun h => Classical.choose h) (fun _ => (0, 0))
    have fs : ∀ {v : V} {p : Int × Int}, F v p → f v = p := fun {v p} h => by
      have ex : ∃ p, F v p := ⟨p, h⟩
      show @dite _ (∃ p, F v p) (Classical.propDecidable _) (fun h => Classical.choose h) (fun _ => (0, 0)) = p
      rw [dif_pos ex]
      exact uniq (Classical.choose_spec ex) h
    have all : ∀ {xs : List V} {ps : List (Int × Int)}, AtAll G xs (ps.map pairD) → xs.map f = ps ∧ ∀ x ∈ xs, F x (f x) := by
      intro xs ps
      induction ps generalizing xs with
      | nil =>
        intro al
        cases al
        exact ⟨rfl, fun x hx => nomatch hx⟩
      | cons p ps ih =>
        intro al
        rw [List.map_cons] at al
        cases al with
        | cons a1 a2 =>
          have h1 : F _ p := at_pair a1
          obtain ⟨i1, i2⟩ := ih a2
          refine ⟨by rw [List.map_cons, i1, fs h1], fun x hx => ?_⟩
          rcases List.mem_cons.mp hx with rfl | hx
          · rw [fs h1]; exact h1
          · exact i2 x hx
    obtain ⟨e1, e2⟩ := all al
    refine ⟨p0, xs, f, rfl, sqL_of s ha, fun x hx => ?_, fun ys p h1 h2 hp => ?_⟩
    · obtain ⟨t, e, h⟩ := e2 x hx
      exact ⟨t, e, rdS s h⟩
    · have st : Stp S0 G H (upd G p (.lst ys)) (upd H p (.lst ys)) := .new s hp
      have yal : ∀ {ys : List V}, (∀ y ∈ ys, F y (f y)) → AtAll G ys ((ys.map f).map pairD) := by
        intro ys
        induction ys with
        | nil => exact fun _ => .nil
        | cons y ys ih =>
          intro h
          obtain ⟨t, e, hr⟩ := h y (by simp)
          rw [List.map_cons, List.map_cons]
          refine .cons ?_ (ih fun z hz => h z (List.mem_cons_of_mem _ hz))
          generalize f y = r at hr
          subst e
          exact .tup hr (.cons (.int _) (.cons (.int _) .nil))
      have ya : AtAll G ys ((ys.map f).map pairD) := yal fun y hy => e2 y (h2.perm.mem_iff.mp hy)
      refine k _ _ _ _ st (upd_same2 s) (.lst upd_same (ya.same st.gs)) (q _ ?_ ?_)
      · rw [← e1]
        exact h2.perm.map f
      · refine List.pairwise_map.mpr (h1.imp fun {a b} h => ?_)
        have := SrtO.lexB_no.mp h
        omega
end
end Nv
/-! Nv, part J: sorted(t), t a tuple of numbers. -/
namespace Nv
open PySem PySem.Spec PyProof.Rows L2 SrtO
section
variable {prog : Program} {w : World} {A : Around} {E : Value → Shared → Prop} {s : Shared}
theorem collect_tupN {t : Addr} {us : List Value} {Q : List Value → Shared → Prop} (ht : IsTup s.heap t us.toArray) (fit : us.length ≤ sizeLine)
    (q : Q us { s with heap := (s.heap.push (seqObj "list" #[] 0)).update s.heap.objs.size (Obj.mapSeq (· ++ us.toArray)) }) :
    wpAny (model prog w) A (collect (.ref t)) Q E s := by
  obtain ⟨ob, g, gc, k, gd⟩ := ht
  unfold collect
  apply wpAny_bind
  apply wpAny_runValue
  apply codeAny_builtin entry_proto_collect'
  show wpAny _ _ (do again (.builtin "list.__iadd__" ⟨[← newList [], .ref t], []⟩)) _ _ s
  apply wpAny_bind
  refine wpAny_newList ?_
  refine wpAny_pure ⟨Code.quiet_builtin _ (by decide +kernel), ?_⟩
  apply codeAny_builtin entry_list_iadd'
  show wpAny _ _ (Builtin.List.listExtendWith (.ref s.heap.objs.size) (.ref t) (.ref s.heap.objs.size)) _ _ { s with heap := s.heap.push (seqObj "list" #[] 0) }
  unfold Builtin.List.listExtendWith
  have g2 : (s.heap.push (seqObj "list" #[] 0)).get? t = some ob := Heap.get?_push_of_some _ g
  apply wpAny_bind
  refine wpAny_typeOf (T := "tuple") ⟨ob, g2, gc⟩ ?_
  have tt : (Value.type "tuple" == Value.type "tuple") = true := rfl
  rw [if_pos (by rw [tt]; simp)]
  apply wpAny_bind
  refine listItems_at g2 gd ?_
  apply wpAny_bind
  refine listItems_at (xs := #[]) (n := 0) (Heap.get?_push_size _ rfl) rfl ?_
  rw [if_neg (by simp)]
  apply wpAny_bind
  refine listUpdate_at (xs := #[]) (n := 0) (Heap.get?_push_size _ rfl) rfl ?_ (Nat.zero_le _) (by
    show (#[] ++ us.toArray).size ≤ sizeLine + 1
    rw [Array.size_append, List.size_toArray]
    show 0 + us.length ≤ _
    omega)
  apply wpAny_pure
  apply wpAny_bind
  refine wpAny_load (get?_update_seq (Heap.get?_push_size _ rfl) _) ?_
  show wpAny _ _ (pure ((#[] : Array Value) ++ us.toArray).toList) Q E _
  have e9 : ((#[] : Array Value) ++ us.toArray).toList = us := by simp
  rw [e9]
  exact wpAny_pure q
theorem sorted_tupN {t : Addr} {us : List Value} {ns : List Int} {Q : Value → Shared → Prop} (ht : IsTup s.heap t us.toArray) (fit : us.length ≤ sizeLine) (inn : IntsAre us ns)
    (q : ∀ outs : List Value, Srtd ltIv outs → Stb ltIv outs us → Q (.ref (s.heap.objs.size + 1)) { s with heap := sortedAll s.heap us outs.toArray }) :
    wpAny (model prog w) A (call (.builtin "sorted") [.ref t]) Q E s := by
  apply Calls.call_function_entry kind_sorted plain_sorted entry_sorted (args_sorted1 _)
  unfold Builtin.«sorted»
  apply wpAny_bind (m := checkCount "sorted" 1 1 _)
  apply wpAny_pure
  apply wpAny_bind
  refine collect_tupN ht fit ?_
  apply wpAny_bind
  refine wpAny_newList ?_ fit
  generalize hH : (s.heap.push (seqObj "list" #[] 0)).update s.heap.objs.size (Obj.mapSeq (· ++ us.toArray)) = Hc
  have size : Hc.objs.size = s.heap.objs.size + 1 := by rw [← hH, Heap.size_update, size_push']
  have place : (Hc.push (seqObj "list" us.toArray 0)).get? (s.heap.objs.size + 1) = some (seqObj "list" us.toArray 0) := by
    rw [← size]
    exact Heap.get?_push_size _ rfl
  show wpAny _ _ _ _ _ { s with heap := Hc.push (seqObj "list" us.toArray 0) }
  rw [size]
  apply wpAny_bind
  apply wpAny_holding
  refine wpAny_call_entry slot_list_sort ⟨_, place, rfl⟩ entry_list_sort (list_sort_ord swo_int place fit (fun two => ints_sortable inn two) fun outs k1 k2 => ⟨_, rfl, ?_⟩) (args_list_sort _)
  refine wpAny_pure ⟨_, rfl, ?_⟩
  have last := q outs k1 k2
  unfold sortedAll at last
  rw [hH] at last
  exact last
end
section
variable {X : Cx}
/-- sorted(t), t a tuple of numbers -/
def rSortT (K : PySem.W.Frag) : List V → Hp → VK → Prop := fun vs H Q => ∃ (t : Addr) (ns : List Int), vs = [V.ref t] ∧ SqT K H t (ns.map V.int) ∧ ∀ (ms : List Int) (p : Addr), ms.Perm ns → ms.Pairwise (· ≤ ·) → H p = none → Q (.ref p) (upd H p (.lst (ms.map V.int)))
theorem cr_sortT2 : CallR X (.builtin "sorted") (rSortT X.K) := by
  intro pn st sg Hh args vals Kq J rel hyp
  obtain ⟨t, ns, ea, sq, fin⟩ := hyp
  subst ea
  obtain ⟨items, rvs, lay, fit⟩ := J.tuple sq
  rw [Vals.ref1 rel]
  have inn := rvs.ints
  have fit2 : items.length ≤ sizeLine := Nat.le_trans (Nat.le_of_eq rvs.length.symm) fit
  refine sorted_tupN lay fit2 inn fun outs s1 s2 => ?_
  obtain ⟨o1, o2, o3⟩ := ints_out inn s1 s2
  obtain ⟨epoch, placed⟩ := PyProof.Rows.sortedAll_at st.heap items outs.toArray
  have fit3 : ((outs.map iv).map V.int).length ≤ sizeLine := by
    rw [List.length_map, o2.length_eq]
    rwa [List.length_map] at fit
  have J2 := J.laid (t' := st.toks) (o := .lst ((outs.map iv).map V.int)) (fun _ _ => PyProof.Rows.sortedAll_old) (Nat.le_succ _) ⟨fit3, outs, epoch, vals_of_ints o1, placed⟩
  exact ⟨.ref _, _, J2, rfl, fin _ _ o2 o3 (J.hok.fresh (Nat.le_succ _))⟩
theorem cr_sortT2K {K : PySem.W.Frag} (h : X.K = K) : CallR X (.builtin "sorted") (rSortT K) := h ▸ cr_sortT2
theorem cr_sortP2K {K : PySem.W.Frag} (h : X.K = K) : CallR X (.builtin "sorted") (rSortP2 K) := h ▸ cr_sortP2
end
section
variable {φ : D → Prop} {K : PySem.W.Frag}
theorem cbd_sortT {zs : List Int} (q : ∀ ys : List Int, ys.Perm zs → ys.Pairwise (· ≤ ·) → φ (.lst (ys.map D.int))) : CbD (rSortT K) [.tup (zs.map D.int)] φ := fun G H vs s a Q k => by
  cases a with
  | cons a t =>
    cases t
    obtain ⟨p0, xs, rfl, ha, al⟩ := at_tup a
    obtain rfl := atAll_ints al
    refine ⟨p0, zs, rfl, sqT_of s ha, fun ys p h1 h2 hp => ?_⟩
    have st : Stp S0 G H (upd G p (.lst (ys.map V.int))) (upd H p (.lst (ys.map V.int))) := .new s hp
    exact k _ _ _ _ st (upd_same2 s) (.lst upd_same (ints_atAll ys)) (q ys h1 h2)
end
end Nv
/-! Nv, part K: list(range(..)). -/
namespace Nv
open PySem PySem.Spec PyProof.Rows L2
section
variable {R : Rg} {δ : List Sl} {ta tb : TE} {φ : D → Prop} {K : PySem.W.Frag}
/-- the whole numbers from a to b - 1 -/
def rgI (a b : Int) : List Int := (List.range (b - a).toNat).map fun i => a + (i : Nat)
theorem rgV_int {a b : Int} : rgV a b = (rgI a b).map V.int := by
  unfold rgV rgI
  rw [List.map_map]
  rfl
theorem rg_new {σ : L2.St} {G H : Hp} {Q : VK} {a b : Int} {T : Tr} (en : Ens T G H δ σ) (k : ∀ v d G' H', Stp T.S G H G' H' → Ens T G' H' δ σ → At G' v d → φ d → Q v H') (q : φ (.lst ((rgI a b).map D.int))) :
    ∀ p, H p = none → Q (.ref p) (upd H p (.lst (rgV a b))) := fun p hp => by
  rw [rgV_int]
  have st : Stp S0 G H (upd G p (.lst ((rgI a b).map V.int))) (upd H p (.lst ((rgI a b).map V.int))) := .new en.same hp
  exact k _ _ _ _ st.zero (en.step0 st (upd_same2 en.same)) (.lst upd_same (ints_atAll _)) q
theorem wpe_lrg1 (h : WpE R ta δ fun x => ∃ n : Int, x = .int n ∧ 0 ≤ n ∧ n ≤ 100000 ∧ φ (.lst ((rgI 0 n).map D.int))) : WpE R (tLstRg (tRg1 ta)) δ φ := fun σ G H en rz Q k =>
  h σ G H en rz _ fun v x G1 H1 s1 e1 a1 ⟨n, ex, n0, n1, q⟩ => by
    subst ex
    cases a1
    exact ⟨n, rfl, .of_le (by omega) (by omega) (by omega) n0, rg_new e1 (fun v d G' H' st e a z => k v d G' H' (s1.trans st) e a z) q⟩
theorem wpe_lrg2 (h : WpE R ta δ fun x => WpE R tb δ fun y => ∃ m n : Int, x = .int m ∧ y = .int n ∧ 0 ≤ m ∧ m ≤ 100000 ∧ 0 ≤ n ∧ n ≤ 100000 ∧ φ (.lst ((rgI m n).map D.int))) : WpE R (tLstRg (tRg2 ta tb)) δ φ := fun σ G H en rz Q k =>
  h σ G H en rz _ fun v x G1 H1 s1 e1 a1 h2 => h2 σ G1 H1 e1 (rz.stepB (s1.toB en.old)) _ fun u y G2 H2 s2 e2 a2 ⟨m, n, ex, ey, m0, m1, n0, n1, q⟩ => by
    subst ex
    subst ey
    cases a1
    cases a2
    exact ⟨m, n, rfl, rfl, .of_le m0 (by omega) (by omega) n0, rg_new e2 (fun v d G' H' st e a z => k v d G' H' ((s1.trans s2).trans st) e a z) q⟩
end
end Nv
/-! Nv, part L: sets of numbers and texts, each key once; sorted of them. -/
namespace Nv
open PySem PySem.Spec PyProof.Rows L2
/-- the key of what a set stores -/
def ky (p : Int × Value) : Key :=
  match p.2 with
  | .int i _ => .inl i
  | .str x _ => .inr x
  | _ => .inl 0
theorem ky_of {k : Key} {p : Int × Value} (h : keyIs k p.2 = true) : ky p = k := by
  unfold ky
  rcases keyIs_shape h with ⟨i, t, rfl, e⟩ | ⟨x, t, rfl, e⟩ <;> rw [e]
structure Kp (w : World) (p : Int × Value) : Prop where
  is : keyIs (ky p) p.2 = true
  hs : p.1 = keyH w (ky p)
theorem Kp.scan {w : World} {p : Int × Value} (h : Kp w p) : p.2.scannable = true := by
  rcases keyIs_shape h.is with ⟨i, t, _, e⟩ | ⟨x, t, _, e⟩ <;> rw [e] <;> rfl
theorem kp_elems {P : Program} {w : World} {l : List (Int × Value)} (g : ∀ p ∈ l, Kp w p) : ElemsOf (mixKind P w) l :=
  fun p hp => ⟨⟨ky p, (g p hp).is, (g p hp).hs⟩, (g p hp).scan⟩
/-- one key more, if it is new -/
noncomputable def insK (ks : List Key) (k : Key) : List Key := @ite _ (k ∈ ks) (Classical.propDecidable _) ks (ks ++ [k])
theorem insK_old {ks : List Key} {k : Key} (h : k ∈ ks) : insK ks k = ks := by unfold insK; exact if_pos h
theorem insK_new {ks : List Key} {k : Key} (h : k ∉ ks) : insK ks k = ks ++ [k] := by unfold insK; exact if_neg h
theorem insK_mem {ks : List Key} {k j : Key} : j ∈ insK ks k ↔ j ∈ ks ∨ j = k := by
  by_cases h : k ∈ ks
  · rw [insK_old h]
    exact ⟨.inl, fun z => z.elim id fun e => e ▸ h⟩
  · rw [insK_new h, List.mem_append, List.mem_singleton]
theorem insK_len {ks : List Key} {k : Key} : (insK ks k).length ≤ ks.length + 1 := by
  by_cases h : k ∈ ks
  · rw [insK_old h]
    exact Nat.le_succ _
  · rw [insK_new h, List.length_append]
    exact Nat.le_refl _
/-- what the set at an address stores, as lists: elements, table -/
structure StA (w : World) (es : Array (Int × Value)) (t : SetTable) (ks : List Key) : Prop where
  kp : ∀ p ∈ es.toList, Kp w p
  nd : ks.Nodup
  pm : (es.toList.map ky).Perm ks
  sz : es.size < scanBound
  fit : t.fits es.size = true
  ris : Ris t.place.toList
  led : w.params.followText "set-order" = true ∨ t.led = true
theorem StA.len {w : World} {es : Array (Int × Value)} {t : SetTable} {ks : List Key} (h : StA w es t ks) : es.size = ks.length := by
  rw [← h.pm.length_eq, List.length_map, Array.length_toList]
/-- the set at a holds these keys -/
def StT (w : World) (h : Heap) (a : Addr) (ks : List Key) : Prop := ∃ o es ep t, h.get? a = some o ∧ o.ExactSet ∧ o.data = .set es ep t ∧ StA w es t ks
theorem StT.at {w : World} {h h' : Heap} {a : Addr} {ks : List Key} (r : StT w h a ks) (k : ∀ o, h.get? a = some o → h'.get? a = some o) : StT w h' a ks :=
  match r with
  | ⟨o, es, ep, t, e, q⟩ => ⟨o, es, ep, t, k o e, q⟩
theorem keep_put {h : Heap} {a : Addr} {o : Obj} {es fs : Array (Int × Value)} {ep : Nat} {t u : SetTable} (e : h.get? a = some o) (d : o.data = .set es ep t) :
    (h.update a (Obj.putSet fs u)).get? a = some { o with data := .set fs (ep + 1) u } := by
  rw [Heap.get?_update_self (Obj.putSet fs u) e (by rw [putSet_of fs u d]; rfl), putSet_of fs u d]
section
variable {P : Program} {w : World} {A : Around} {E : Value → Shared → Prop} {s : Shared} {a : Addr} {ks : List Key}
/-- behind the new element: the store, and the table made greater where it is too full -/
theorem stT_store {gave : Bool → Sem Unit} (hg : ∀ (b : Bool) (s1 : Shared) (R : Unit → Shared → Prop), R () s1 → wpAny (model P w) A (gave b) R E s1)
    {o : Obj} {es fs : Array (Int × Value)} {ep : Nat} {t u : SetTable} (ho : s.heap.get? a = some o) (hx : o.ExactSet) (hd : o.data = .set es ep t) (n : StA w fs u ks) {dm : Bool} {R : Option Bool → Shared → Prop}
    (q : ∀ h', Heap.SameBut a s.heap h' → StT w h' a ks → R (some true) { s with heap := h' }) :
    wpAny (model P w) A (do
        storeSet a fs u
        if (!dm && u.tooFull) = true then do
            gave (relayAll u fs (SetTable.grown fs.size)).2.2
            storeSet a (relayAll u fs (SetTable.grown fs.size)).1 (relayAll u fs (SetTable.grown fs.size)).2.1
            pure (some true)
          else pure (some true)) R E s := by
  have e1 := keep_put (fs := fs) (u := u) ho hd
  have b1 := Heap.SameBut.update s.heap a (Obj.putSet fs u)
  refine wpAny_bind (wpAny_storeSet_of ho hd ?_ (fits_of_scanBound n.sz))
  split
  · obtain ⟨p1, p2⟩ := And.intro (relayAll_perm u fs (SetTable.grown fs.size)) (relayAll_fits u fs (SetTable.grown fs.size))
    obtain ⟨p3, p4⟩ := And.intro (relayAll_ris u fs (SetTable.grown fs.size)) (relayAll_led u fs (SetTable.grown fs.size))
    revert p1 p2 p3 p4
    generalize relayAll u fs (SetTable.grown fs.size) = T
    obtain ⟨gs, v, gv⟩ := T
    intro p1 p2 p3 p4
    dsimp only at p1 p2 p3 p4 ⊢
    have lz : gs.size = fs.size := by
      have := p1.length_eq
      rwa [Array.length_toList, Array.length_toList] at this
    have sz2 : gs.size < scanBound := lz ▸ n.sz
    refine wpAny_bind (hg gv _ _ (wpAny_bind (wpAny_storeSet_of e1 rfl (wpAny_pure (q _ (b1.trans (Heap.SameBut.update _ a _)) ?_)) (fits_of_scanBound sz2))))
    refine ⟨_, gs, _, v, keep_put e1 rfl, hx, rfl, fun p hp => n.kp p (p1.mem_iff.mp hp), n.nd, (p1.map ky).trans n.pm, sz2, p2, p3, ?_⟩
    rcases n.led with z | z
    · exact .inl z
    · exact .inr (p4.trans z)
  · exact wpAny_pure (q _ b1 ⟨_, fs, _, u, e1, hx, rfl, n⟩)
theorem stT_hashed {k : Key} {v : Value} {Q : Bool → Shared → Prop} (hv : keyIs k v = true) (r : StT w s.heap a ks) (room : ks.length + 1 < scanBound)
    (q : ∀ (b : Bool) h', Heap.SameBut a s.heap h' → StT w h' a (insK ks k) → Q b { s with heap := h' }) :
    wpAny (model P w) A (setAddHashed a v ((mixKind P w).hash k)) Q E s := by
  obtain ⟨o, es, ep, t, ho, hx, hd, n⟩ := r
  have sc : v.scannable = true := by
    rcases keyIs_shape hv with ⟨i, t, _, e⟩ | ⟨x, t, _, e⟩ <;> rw [e] <;> rfl
  have el := kp_elems (P := P) n.kp
  have mem : ∀ j, j ∈ ks ↔ ∃ p ∈ es.toList, keyIs j p.2 = true := fun j => by
    rw [← n.pm.mem_iff, List.mem_map]
    constructor
    · rintro ⟨p, hp, rfl⟩
      exact ⟨p, hp, (n.kp p hp).is⟩
    · rintro ⟨p, hp, z⟩
      exact ⟨p, hp, ky_of z⟩
  unfold setAddHashed setAddHashedIn
  refine wpAny_holding (wpAny_bind (wpAny_setState_of ho hd n.fit ?_))
  dsimp only
  rw [byScan_of sc n.sz el]
  simp only [↓reduceIte]
  unfold setAddByScan
  refine wpAny_bind (wpAny_bind (wpAny_rule (wpAny_bind (wpAny_setScan_of (knd := mixKind P w) (k := k) hv ho hd n.fit el ?_))))
  cases fi : List.findIdx? (fun p => (mixKind P w).is k p.2) es.toList with
  | some j =>
    dsimp only
    obtain ⟨lj, ej, _⟩ := List.findIdx?_eq_some_iff_getElem.mp fi
    have hk : k ∈ ks := (mem k).mpr ⟨_, List.getElem_mem lj, ej⟩
    refine wpAny_pure (wpAny_pure (q _ s.heap (Heap.SameBut.refl a s.heap) ⟨o, es, ep, t, ho, hx, hd, ?_⟩))
    rw [insK_old hk]
    exact n
  | none =>
    dsimp only
    have nk : k ∉ ks := fun z => by
      obtain ⟨p, hp, e⟩ := (mem k).mp z
      have c := List.findIdx?_eq_none_iff.mp fi p hp
      have e : (mixKind P w).is k p.2 = true := e
      rw [e] at c
      cases c
    have way : ∀ (b : Bool) {s1 : Shared} {R : Unit → Shared → Prop}, R () s1 → wpAny (model P w) A (match b with | true => rule "set.scan.the-table-gave-way" | false => pure ()) R E s1 :=
      fun b s1 R z => match b with
      | true => wpAny_rule z
      | false => wpAny_pure z
    have c1 := layNew_perm t es ((mixKind P w).hash k) v
    have c2 := layNew_fits t es ((mixKind P w).hash k) v
    have c3 := layNew_ris t es ((mixKind P w).hash k) v n.ris
    have c4 := layNew_led t es ((mixKind P w).hash k) v
    revert c1 c2 c3 c4
    generalize layNew t es ((mixKind P w).hash k) v = T
    obtain ⟨fs, u, dm, gv⟩ := T
    intro c1 c2 c3 c4
    dsimp only at c1 c2 c3 c4 ⊢
    rw [Array.toList_push] at c1
    have kk : ky ((mixKind P w).hash k, v) = k := ky_of hv
    have p2 : (fs.toList.map ky).Perm (ks ++ [k]) := by
      refine (c1.map ky).trans ?_
      rw [List.map_append, List.map_singleton, kk]
      exact n.pm.append_right [k]
    have new : ∀ (z : SetTable), z.fits fs.size = true → z.place = u.place → z.led = u.led → StA w fs z (insK ks k) := fun z z1 z2 z3 => by
      rw [insK_new nk]
      refine ⟨fun p hp => ?_, ?_, p2, ?_, z1, by rw [z2]; exact c3, ?_⟩
      · rcases List.mem_append.mp (c1.mem_iff.mp hp) with m | m
        · exact n.kp p m
        · rw [List.mem_singleton] at m
          subst m
          exact ⟨by rw [kk]; exact hv, by rw [kk]; rfl⟩
      · rw [List.nodup_append]
        exact ⟨n.nd, by simp, fun x hx y hy => by
          rw [List.mem_singleton] at hy
          subst hy
          exact fun e => nk (by rw [← e]; exact hx)⟩
      · rw [← Array.length_toList, ← List.length_map (f := ky), p2.length_eq, List.length_append]
        exact room
      · rcases n.led with y | y
        · exact .inl y
        · exact .inr (by rw [z3, c4]; exact y)
    refine wpAny_bind (way _ ?_)
    split
    · refine wpAny_bind ?_
      rw [hashByValue_scannable 8 sc]
      refine wpAny_pure (stT_store (ks := insK ks k) ?_ ho hx hd ?_ ?_)
      · intro b s1 R z
        exact way b z
      · first
          | (split <;> first | exact new _ c2 rfl rfl | exact new _ (SetTable.fits_plain_off c2) rfl rfl)
          | exact new _ c2 rfl rfl
      · intro h' sb z
        dsimp only
        exact wpAny_pure (q _ h' sb z)
    · refine wpAny_bind (wpAny_pure ?_)
      simp only [↓reduceIte]
      refine stT_store (ks := insK ks k) ?_ ho hx hd (new _ c2 rfl rfl) ?_
      · intro b s1 R z
        exact way b z
      · intro h' sb z
        dsimp only
        exact wpAny_pure (q _ h' sb z)
theorem stT_of {r : StT w s.heap a ks} : s.heap.SetOf (mixKind P w) a (fun k => @decide (k ∈ ks) (Classical.propDecidable _)) ks.length := by
  obtain ⟨o, es, ep, t, ho, hx, hd, n⟩ := r
  refine ⟨o, es, ep, t, ho, hx, hd, kp_elems n.kp, fun k => ?_, n.sz, n.fit, n.len⟩
  rw [@decide_eq_true_eq _ (Classical.propDecidable _), ← n.pm.mem_iff, List.mem_map]
  constructor
  · rintro ⟨p, hp, rfl⟩
    exact ⟨p, hp, (n.kp p hp).is⟩
  · rintro ⟨p, hp, z⟩
    exact ⟨p, hp, ky_of z⟩
/-- x.add(v) -/
theorem stT_add {k : Key} {v : Value} {Q : Value → Shared → Prop} (hv : keyIs k v = true) (r : StT w s.heap a ks) (room : ks.length + 1 < scanBound)
    (q : ∀ h', Heap.SameBut a s.heap h' → StT w h' a (insK ks k) → Q .none { s with heap := h', toks := s.toks + 1 }) : wpAny (model P w) A (call (.builtin "set.add") [.ref a, v]) Q E s := by
  have ty := (stT_of (P := P) (r := r)).typeIs
  refine wpAny_call_entry F.slot_set_add ty F.entry_set_add ?_ (F.args_set_add_2 _ _)
  unfold Builtin.«set.add» Builtin.Frozenset.oneOther
  simp only [List.isEmpty_nil, bind_assoc]
  unfold Builtin.Frozenset.addrOf setAdd
  refine wpAny_bind (wpAny_pure ?_)
  try dsimp only
  refine wpAny_bind (wpAny_pure ?_)
  try dsimp only
  refine wpAny_bind (wpAny_holding (wpAny_bind ((mixKind P w).pyHash hv ?_)))
  refine stT_hashed (s := { s with toks := s.toks + 1 }) hv r room fun b h' sb z => ?_
  show wpAny _ _ (ret Value.none) _ _ _
  exact wpAny_pure ⟨_, rfl, q h' sb z⟩
end
theorem stT_new {h : Heap} (w : World) : StT w (h.push { cls := .type "set", dict := none, data := .set #[] 0 (.fresh 0 0 (!w.params.followText "set-order")) }) h.objs.size [] := by
  refine ⟨_, #[], 0, _, Heap.get?_push_size _ rfl, ⟨rfl, rfl, rfl⟩, rfl, by simp, .nil, .refl _, by decide, rfl, .nil, ?_⟩
  cases e : w.params.followText "set-order"
  · exact .inr rfl
  · exact .inl rfl
end Nv
/-! Nv, part La: texts in order: sorted of a list of them, of a set of them. -/
namespace Nv
open PySem PySem.Spec PyProof.Rows L2 SrtO Srt
def tv : Value → Str
  | .str x _ => x
  | _ => Str.empty
def ltTv (v u : Value) : Bool := decide ((tv v).cps.toList < (tv u).cps.toList)
theorem swo_tv : Swo ltTv := by
  refine ⟨fun x y h => ?_, fun x y z h1 h2 => ?_⟩
  · have a : (tv x).cps.toList < (tv y).cps.toList := of_decide_eq_true h
    exact decide_eq_false (List.lt_asymm a)
  · have a : ¬ (tv y).cps.toList < (tv x).cps.toList := of_decide_eq_false h1
    have b : ¬ (tv z).cps.toList < (tv y).cps.toList := of_decide_eq_false h2
    exact decide_eq_false (List.not_lt.mpr (List.le_trans (List.not_lt.mp a) (List.not_lt.mp b)))
theorem strs_tv : ∀ {vs : List Value}, (∀ v ∈ vs, ∃ x t, v = Value.str x t) → StrsAre vs (vs.map tv)
  | [], _ => .nil
  | v :: vs, h => by
    obtain ⟨x, t, rfl⟩ := h v (by simp)
    exact .cons x t (strs_tv fun u hu => h u (by simp [hu]))
theorem strs_in : ∀ {vs : List Value} {xs : List Str}, StrsAre vs xs → ∀ v ∈ vs, ∃ x t, v = Value.str x t
  | _, _, .nil, v, h => nomatch h
  | _, _, .cons x t r, v, h => by
    rcases List.mem_cons.mp h with rfl | h
    · exact ⟨x, t, rfl⟩
    · exact strs_in r v h
theorem tv_strs : ∀ {vs : List Value} {xs : List Str}, StrsAre vs xs → vs.map tv = xs
  | _, _, .nil => rfl
  | _, _, .cons x t r => by rw [List.map_cons, tv_strs r]; rfl
def unR : Key → Str
  | .inr x => x
  | .inl _ => Str.empty
theorem unR_map : ∀ {l : List Str}, (l.map (Sum.inr (α := Int))).map unR = l
  | [] => rfl
  | x :: l => congrArg (x :: ·) unR_map
section
variable {P : Program} {w : World} {A : Around} {E : Value → Shared → Prop} {s : Shared} {a : Addr} {ks : List Key}
theorem strs_sortable {vs : List Value} (h : ∀ v ∈ vs, ∃ x t, v = Value.str x t) (two : 2 ≤ vs.length) : SortableO P w A s a vs ltTv := by
  intro h' _
  refine ⟨oneType', fun Q E q => ?_, fun p q hp hq => ?_⟩
  · have all := strs_tv h
    match vs, all, two with
    | v :: u :: r, all, _ =>
      rw [keyKind_strs all]
      exact wpAny_pure q
    | [_], _, z => exact absurd z (by simp)
    | [], _, z => exact absurd z (by simp)
  · obtain ⟨x, t, e⟩ := h _ hp
    obtain ⟨y, u, f⟩ := h _ hq
    show wpAny (model P w) A (keyLt' oneType' p.1 q.1) (fun r s' => s' = _ ∧ r = ltTv p.1 q.1) (fun _ _ => False) _
    rw [e, f, keyLt'_oneType]
    exact oneLt_str ⟨rfl, rfl⟩
/-- what comes out of the sort -/
theorem strs_out {vs out : List Value} (h : ∀ v ∈ vs, ∃ x t, v = Value.str x t) (h1 : Srtd ltTv out) (h2 : Stb ltTv out vs) :
    StrsAre out (out.map tv) ∧ (out.map tv).Perm (vs.map tv) ∧ (out.map tv).Pairwise (fun a b => ¬ b.cps.toList < a.cps.toList) :=
  ⟨strs_tv fun v hv => h v (h2.perm.mem_iff.mp hv), h2.perm.map tv, List.pairwise_map.mpr (h1.imp fun {x y} q => of_decide_eq_false q)⟩
theorem stT_sorted {xs : List Str} {Q : Value → Shared → Prop} (r : StT w s.heap a (xs.map Sum.inr)) (hh : A.handled = none)
    (q : ∀ (s1 : Shared) (p : Addr) (out : List Value) (c : Nat), (∀ b o, s.heap.get? b = some o → s1.heap.get? b = some o) → s1.gens = s.gens → s1.os = s.os → s.heap.objs.size ≤ p →
      s1.heap.get? p = some (seqObj "list" out.toArray c) → StrsAre out (out.map tv) → (out.map tv).Perm xs → (out.map tv).Pairwise (fun a b => ¬ b.cps.toList < a.cps.toList) → Q (.ref p) s1) :
    wpAny (model P w) A (call (.builtin "sorted") [.ref a]) Q E s := by
  obtain ⟨o, es, ep, t, ho, hx, hd, n⟩ := r
  refine Calls.call_function_entry kind_sorted plain_sorted entry_sorted (args_sorted1 _) ?_
  unfold Builtin.«sorted»
  refine wpAny_bind (m := checkCount "sorted" 1 1 _) (wpAny_pure ?_)
  refine wpAny_bind (collect_set (A := A.in1) hh ⟨o, ho, hx.1, hd⟩ n.fit n.sz n.ris n.led fun s1 vs keep big gen os pm => ?_)
  have lv : vs.length ≤ sizeLine := by
    rw [pm.length_eq, List.length_map, Array.length_toList]
    exact fits_of_scanBound n.sz
  have all : ∀ v ∈ vs, ∃ x t, v = Value.str x t := fun v hv => by
    obtain ⟨e, he, rfl⟩ := List.mem_map.mp (pm.mem_iff.mp hv)
    have hk : ky e ∈ xs.map Sum.inr := n.pm.mem_iff.mp (List.mem_map.mpr ⟨e, he, rfl⟩)
    obtain ⟨x, _, ex⟩ := List.mem_map.mp hk
    rcases keyIs_shape (n.kp e he).is with ⟨i, t, e1, _⟩ | ⟨y, t, _, e2⟩
    · rw [← ex] at e1
      exact nomatch e1
    · exact ⟨y, t, e2⟩
  have px : (vs.map tv).Perm xs := by
    have h1 : (vs.map tv).map (Sum.inr (α := Int)) = vs.map fun v => ky (0, v) := by
      rw [List.map_map]
      refine List.map_congr_left fun v hv => ?_
      obtain ⟨x, t, rfl⟩ := all v hv
      rfl
    have h2 : (vs.map fun v => ky (0, v)).Perm (es.toList.map ky) := by
      have h3 := pm.map fun v => ky (0, v)
      rw [List.map_map] at h3
      exact h3
    have h4 : ((vs.map tv).map (Sum.inr (α := Int))).Perm (xs.map Sum.inr) := by
      rw [h1]
      exact h2.trans n.pm
    have h5 := h4.map unR
    rw [unR_map, unR_map] at h5
    exact h5
  have new : (s1.heap.push (seqObj "list" vs.toArray 0)).get? s1.heap.objs.size = some (seqObj "list" vs.toArray 0) := Heap.get?_push_size _ rfl
  refine wpAny_bind (wpAny_newList ?_ lv)
  refine wpAny_bind (wpAny_holding (wpAny_call_entry slot_list_sort ⟨_, new, rfl⟩ entry_list_sort (list_sort_ord swo_tv new lv (fun two => strs_sortable all two) fun out h1 h2 => ⟨_, rfl, ?_⟩) (args_list_sort _)))
  obtain ⟨k1, k2, k3⟩ := strs_out all h1 h2
  obtain ⟨c, hc⟩ := sortedHeap_at (vs := vs) (out := out.toArray) new
  refine wpAny_pure ⟨_, rfl, q _ s1.heap.objs.size out c (fun b u e => ?_) gen os big hc k1 (k2.trans px) k3⟩
  have e9 := keep b u e
  have lt := Heap.lt_size e9
  show (sortedHeap _ _ _ _).get? b = some u
  rw [sortedHeap_old (Nat.ne_of_lt lt) (by rw [size_push']; exact Nat.lt_succ_of_lt lt)]
  exact Heap.get?_push_of_some _ e9
end
/-- the set of these keys, as a tracked thing -/
def SetTO (w : World) (a : Addr) (ks : List Key) : HO := .ext fun h => StT w h a ks
theorem setTO_ok {w : World} {P : Program} {H : Hp} {h : Heap} {a : Addr} {ks : List Key} (r : StT w h a ks) : ObjOk P w H h a (SetTO w a ks) :=
  ⟨r, r.imp fun o ⟨_, _, _, e, _⟩ => e, fun _ _ p k => StT.at p k⟩
theorem vals_strs : ∀ {us : List Value} {xs : List Str}, StrsAre us xs → Vals (xs.map V.str) us
  | _, _, .nil => .nil
  | _, _, .cons x t r => .cons ⟨t, rfl⟩ (vals_strs r)
theorem strs_vals : ∀ {xs : List Str} {us : List Value}, Vals (xs.map V.str) us → StrsAre us xs
  | [], _, .nil => .nil
  | x :: xs, _, .cons ⟨t, e⟩ r => by
    subst e
    exact .cons x t (strs_vals r)
section
variable {X : Cx}
theorem setTO_get {pins : List (Addr × Obj)} {σ : L2.St} {H : Hp} {s : Shared} {a : Addr} {ks : List Key} (I : Inv X pins σ H s) (e : H a = some (SetTO X.w a ks)) : StT X.w s.heap a ks := (I.hok a _ e).1
/-- sorted(a set of texts) -/
def rSrtST (w : World) : List V → Hp → VK → Prop := fun vs H Q => ∃ (a : Addr) (xs : List Str), vs = [V.ref a] ∧ H a = some (SetTO w a (xs.map Sum.inr)) ∧
  ∀ (ys : List Str) (p : Addr), ys.Perm xs → ys.Pairwise (fun a b => ¬ b.cps.toList < a.cps.toList) → H p = none → Q (.ref p) (upd H p (.lst (ys.map V.str)))
theorem cr_srtST (hc : X.calm = true) : CallR X (.builtin "sorted") (rSrtST X.w) := by
  intro pn st sg Hh args vals Kq J rel ⟨a, xs, ea, hs, q⟩
  subst ea
  have R := setTO_get J hs
  rw [Vals.ref1 rel]
  refine stT_sorted R (J.ok.hd hc) fun s1 p out c keep gen os big at_ k1 k2 k3 => ?_
  have free : Hh p = none := J.hok.fresh big
  have len : ((out.map tv).map V.str).length ≤ sizeLine := by
    obtain ⟨o, es, ep, t, _, _, _, n⟩ := R
    rw [List.length_map, k2.length_eq, ← List.length_map (f := (Sum.inr : Str → Key)), ← n.len]
    exact fits_of_scanBound n.sz
  have J2 : Inv X pn sg (upd Hh p (.lst ((out.map tv).map V.str))) { st with heap := s1.heap, gens := s1.gens, drawn := s1.drawn, toks := s1.toks } :=
    J.call (ch := []) (Un.laid keep big free) (J.hok.laid keep big ⟨len, out, c, vals_strs k1, at_⟩) (by rw [gen]; exact J.bare) (fun _ z => nomatch z)
  have e : s1 = { st with heap := s1.heap, gens := s1.gens, drawn := s1.drawn, toks := s1.toks } := by
    obtain ⟨_, _, _, _, _⟩ := s1
    obtain ⟨_, _, _, _, _⟩ := st
    cases os
    rfl
  rw [e]
  exact ⟨.ref p, _, J2, rfl, q _ p k2 k3 free⟩
/-- sorted(a list of texts) -/
def rSrtT (K : PySem.W.Frag) : List V → Hp → VK → Prop := fun vs H Q => ∃ (a : Addr) (xs : List Str), vs = [V.ref a] ∧ SqL K H a (xs.map V.str) ∧
  ∀ (ys : List Str) (p : Addr), ys.Perm xs → ys.Pairwise (fun a b => ¬ b.cps.toList < a.cps.toList) → H p = none → Q (.ref p) (upd H p (.lst (ys.map V.str)))
theorem cr_srtT : CallR X (.builtin "sorted") (rSrtT X.K) := by
  intro pn st sg Hh args vals Kq J rel ⟨a, xs, ea, sq, q⟩
  subst ea
  obtain ⟨its, rv, lay, fit⟩ := J.list sq
  have sa := strs_vals rv
  have all := strs_in sa
  rw [Vals.ref1 rel]
  refine sorted_ord swo_tv lay.isList (by rw [← rv.length]; exact fit) (fun two _ _ _ _ => strs_sortable all two) fun out h1 h2 => ?_
  obtain ⟨k1, k2, k3⟩ := strs_out all h1 h2
  rw [tv_strs sa] at k2
  obtain ⟨ep, at_⟩ := PyProof.Rows.sortedAll_at st.heap its out.toArray
  have len : ((out.map tv).map V.str).length ≤ sizeLine := by
    rw [List.length_map, k2.length_eq]
    rw [List.length_map] at fit
    exact fit
  exact ⟨.ref _, upd Hh (st.heap.objs.size + 1) (.lst ((out.map tv).map V.str)), J.laid (t' := st.toks) (fun _ _ => PyProof.Rows.sortedAll_old) (Nat.le_succ _) ⟨len, out, ep, vals_strs k1, at_⟩, rfl, q _ _ k2 k3 (J.hok.fresh (Nat.le_succ _))⟩
end
end Nv
/-! Nv, part Lb: {e for a in .. for b in ..}. -/
namespace Nv
open PySem PySem.Spec PyProof.Rows L2 PpSet
section
variable {elt t0 i0 t1 i1 : Expr} {sc : Scope} {pos : Pos} {it acc : Value} {env : Env}
abbrev sc2E (elt t0 i0 t1 i1 : Expr) (sc : Scope) (pos : Pos) : Expr := .SetComp elt [⟨t0, i0, [], 0⟩, ⟨t1, i1, [], 0⟩] sc pos
def bodyO (comp i1 : Expr) (acc : Value) (env : Env) : Sem Unit := do
  let x ← eval i1 env
  standAt i1.pos
  let y ← foldedSetIterable i1 env x
  let _ ← runOwn (.compStart comp 1 (← holding [y] (pyIter y)) acc env) env
def bodyI (elt : Expr) (acc : Value) (env : Env) : Sem Unit := do
  let v ← eval elt env
  standAt elt.pos
  let _ ← call (.builtin "set.add") [acc, v]
theorem turnO : compTurn (sc2E elt t0 i0 t1 i1 sc pos) 0 it acc env = (do
    standAt i0.pos
    match ← pyNext it with
    | none => pure (.done .next)
    | some v =>
      letOwnedTupleGo t0 it v
      assign t0 env v
      bodyO (sc2E elt t0 i0 t1 i1 sc pos) i1 acc env
      again (.compLoop (sc2E elt t0 i0 t1 i1 sc pos) 0 it acc env)) := by
  unfold bodyO
  simp only [bind_assoc]
  rfl
theorem turnI : compTurn (sc2E elt t0 i0 t1 i1 sc pos) 1 it acc env = (do
    standAt i1.pos
    match ← pyNext it with
    | none => pure (.done .next)
    | some v =>
      letOwnedTupleGo t1 it v
      assign t1 env v
      bodyI elt acc env
      again (.compLoop (sc2E elt t0 i0 t1 i1 sc pos) 1 it acc env)) := by rfl
end
section
variable {X : Cx}
/-- one clause's loop: behind the store of each item the body, which is to reach the next wish -/
theorem loop_walk {elt t0 i0 t1 i1 : Expr} {sc : Scope} {pos : Pos} {tg : Expr} {ci : Nat} {ip : Pos} {body : Sem Unit} {itr : Addr} {acc : Value} {J : It} {fp : List Addr} {tn : Nat → Heap → Prop} {g : TG} {pins : List (Addr × Obj)} {τ : L2.St} {R : Result → Shared → Prop}
    (heq : compTurn (sc2E elt t0 i0 t1 i1 sc pos) ci (.ref itr) acc X.env = (do
      standAt ip
      match ← pyNext (.ref itr) with
      | none => pure (.done .next)
      | some v =>
        letOwnedTupleGo tg (.ref itr) v
        assign tg X.env v
        body
        again (.compLoop (sc2E elt t0 i0 t1 i1 sc pos) ci (.ref itr) acc X.env)))
    (hc : X.calm = true) (hx : X.xe = fun _ _ => False) (T : Turn X.prog X.w X.K tg J fp itr tn) (pg : PG X tg g)
    (fpo : ∀ {σ' : L2.St} {H' : Hp} {s' : Shared}, Inv X pins σ' H' s' → (∀ b ∈ fp, H' b = none) → ∀ b ∈ fp, FpOk X pins H' b) (W : Nat → Nat → Hp → Prop)
    (turn : ∀ i m H, W i m H → (J.stop i H ∧ ∀ s', Inv X pins τ H s' → R (.ok .next) s') ∨
      (J.go i H ∧ ∃ Nx : Hp → Prop, (∀ H', Nx H' → ∃ m', m' < m ∧ W (i + 1) m' H') ∧ ∀ x H', J.yld i H x H' → ∃ C : L2.St → Hp → Prop, g x τ H' C ∧ ∀ σ2 H2, C σ2 H2 →
        ∀ pl s2, Inv X (pins ++ pl) σ2 H2 s2 → wpAny (model X.prog X.w) X.A body (fun _ s3 => ∃ σ3 H3, Inv X (pins ++ pl) σ3 H3 s3 ∧ τ.length = σ3.length ∧ (∀ (j : Nat) v, τ[j]? = some (some v) → σ3[j]? = some (some v)) ∧ Nx H3) (fun _ _ => False) s2))
    {s : Shared} {m0 : Nat} {H0 : Hp} (I : Inv X pins τ H0 s) (tt0 : tn 0 s.heap) (n0 : ∀ b ∈ fp, H0 b = none) (w0 : W 0 m0 H0) :
    codeAny (model X.prog X.w) X.A (.compLoop (sc2E elt t0 i0 t1 i1 sc pos) ci (.ref itr) acc X.env) R s := by
  refine codeAny_loop rfl (fun m s' => ∃ i H', Inv X pins τ H' s' ∧ tn i s'.heap ∧ (∀ b ∈ fp, H' b = none) ∧ W i m H') (fun m s5 ⟨i, H5, I5, t5, n5, w5⟩ => ?_) m0 ⟨0, H0, I, tt0, n0, w0⟩
  show wpAny _ X.A ((compTurn (sc2E elt t0 i0 t1 i1 sc pos) ci (.ref itr) acc X.env).onRaise fun x => do noteFrame x X.env; theTreesLotGoes x) _ _ s5
  refine wpAny_noted ?_
  rw [heq]
  refine wpAny_bind (wpAny_standAt (wpAny_bind ?_))
  rcases turn i m H5 w5 with ⟨stop, fin⟩ | ⟨go, Nx, nx, step⟩
  · refine thnF (T.done X rfl rfl rfl hc i pins s5 τ H5 (fun _ _ => False) I5 (fpo I5 n5) t5 stop) fun r s6 ⟨er, I6⟩ => ?_
    subst er
    exact wpAny_pure (fin s6 I6)
  · refine thnF (T.item X rfl rfl rfl hc i pins s5 τ H5 (fun _ _ => False) I5 (fpo I5 n5) t5 go) fun r s6 ⟨u, er, h6⟩ => ?_
    subst er
    refine wpAny_bind (thnF h6 fun _ s7 ⟨x, H7, I7, rx, y7, t7, n7⟩ => ?_)
    have ob := T.obj _ _ t7
    have I8 := I7.pinned (fpo I7 n7) ob
    refine wpAny_bind ?_
    obtain ⟨C, c1, c2⟩ := step x H7 y7
    have st := pg.run _ s7 τ H7 x u _ I8 rx c1
    rw [hx] at st
    refine thnF st fun _ s8 ⟨σ8, H8, I9, q8⟩ => wpAny_bind (thnF (c2 _ _ q8 _ s8 I9) fun _ s9 ⟨σ9, H9, I10, l9, k9, z⟩ => ?_)
    obtain ⟨m', lt, w'⟩ := nx H9 z
    have stay : ∀ b ∈ fp, ∀ o, s7.heap.get? b = some o → s9.heap.get? b = some o ∧ H9 b = none := fun b hb o e => by
      have := I10.pin (b, o) (List.mem_append_right _ (List.mem_append_right _ (mem_pinsAt hb e)))
      exact ⟨this.1, this.2.1⟩
    refine wpAny_pure ⟨rfl, m', lt, i + 1, H9, I10.unpinned.weak l9 k9, T.keep _ _ _ t7 fun b hb o e => (stay b hb o e).1, fun b hb => ?_, w'⟩
    obtain ⟨o, e, _⟩ := ob b hb
    exact (stay b hb o e).2
end
end Nv
/-! Nv, part Lc: {e for a in .. for b in ..} as a rule. -/
namespace Nv
open PySem PySem.Spec PyProof.Rows L2 PpSet
/-- {elt for tg in iter for tg1 in iter1}; D: the new set, W: what holds ahead of each turn -/
def tSc2 (w : World) (wi : TI) (g : TG) (wi1 : TI) (g1 : TG) (te : TE) (vs vs1 : List Nat) : TE := fun σ H Q => wi σ H fun J H1 => ∀ D, H1 D = none → ∃ W : Nat → Nat → Hp → Prop, (∃ m, W 0 m (upd H1 D (SetTO w D []))) ∧
  ∀ i m H2, W i m H2 → (J.stop i H2 ∧ Q (.ref D) H2) ∨ (J.go i H2 ∧ ∃ Nx : Hp → Prop, (∀ H', Nx H' → ∃ m', m' < m ∧ W (i + 1) m' H') ∧
    ∀ x H3, J.yld i H2 x H3 → g x (wipe σ vs) H3 fun σ2 H4 => wipe σ2 vs = wipe σ vs ∧ wi1 σ2 H4 fun J1 H5 => ∃ W1 : Nat → Nat → Hp → Prop, (∃ m, W1 0 m H5) ∧
      ∀ j k H6, W1 j k H6 → (J1.stop j H6 ∧ Nx H6) ∨ (J1.go j H6 ∧ ∃ Nx1 : Hp → Prop, (∀ H', Nx1 H' → ∃ k', k' < k ∧ W1 (j + 1) k' H') ∧
        ∀ y H7, J1.yld j H6 y H7 → g1 y (wipe σ2 vs1) H7 fun σ3 H8 => wipe σ3 vs1 = wipe σ2 vs1 ∧
          te σ3 H8 fun z H9 => ∃ k ks, z = kV k ∧ H9 D = some (SetTO w D ks) ∧ ks.length + 1 < scanBound ∧ Nx1 (upd H9 D (SetTO w D (insK ks k)))))
section
variable {P : Program} {w : World} {A : Around} {R : Result → Shared → Prop} {s : Shared} {elt t0 i0 t1 i1 : Expr} {sc : Scope} {pos : Pos} {it acc : Value} {env : Env}
/-- the second clause begins -/
theorem start1 (h0 : codeAny (model P w) A (.compLoop (sc2E elt t0 i0 t1 i1 sc pos) 1 it acc env) R s)
    (h : wpAny (model P w) A (pyIter it) (fun it' s' => codeAny (model P w) A (.compLoop (sc2E elt t0 i0 t1 i1 sc pos) 1 it' acc env) R s') (notedBy (model P w) A env fun x s' => R (.error x) s') s) :
    codeAny (model P w) A (.compStart (sc2E elt t0 i0 t1 i1 sc pos) 1 it acc env) R s := by
  refine codeAny_of_tree ?_
  show wpAny _ _ ((compStart (sc2E elt t0 i0 t1 i1 sc pos) 1 it acc env).onRaise (fun x => do noteFrame x env; standAt theWindowsPlace)) _ _ s
  refine wpAny_notedAt ?_
  unfold compStart
  show wpAny _ _ (ask >>= _) _ _ s
  refine wpAny_bind (wpAny_askSetting (wpAny_ite ?_))
  split
  · first
      | exact wpAny_bind (wpAny_pure (wpAny_pure (And.intro rfl h0)))
      | exact wpAny_pure (And.intro rfl h0)
  · refine wpAny_bind (wpAny_rule ?_)
    show wpAny _ _ (standAt i1.pos >>= _) _ _ s
    exact wpAny_bind (wpAny_standAt (wpAny_bind (wpAny_mono h (fun it' s' z => wpAny_pure (And.intro rfl z)) fun _ _ x => x)))
end
section
variable {X : Cx}
theorem kV_is' (X : Cx) {k : Key} {v : Value} (r : RelV (kV k) v) : keyIs k v = true := kV_is (P := X.prog) (w := X.w) r
/-- x.add(v) on a tracked set -/
theorem addK_ok {pins : List (Addr × Obj)} {σ : L2.St} {H : Hp} {s : Shared} {E : Value → Shared → Prop} {D : Addr} {ks : List Key} {k : Key} {v : Value} {Q : Value → Shared → Prop} (I : Inv X pins σ H s) (hD : H D = some (SetTO X.w D ks)) (rv : RelV (kV k) v) (room : ks.length + 1 < scanBound)
    (q : ∀ s', Inv X pins σ (upd H D (SetTO X.w D (insK ks k))) s' → Q .none s') : wpAny (model X.prog X.w) X.A (call (.builtin "set.add") [.ref D, v]) Q E s := by
  refine stT_add (kV_is' X rv) (setTO_get I hD) room fun h' sb new => q _ (I.write (e := D) (t' := s.toks + 1) (by rw [hD]; trivial) (.inl rfl) (fun b u nb e => (sb.2 b nb).trans e) ?_ (setTO_ok new))
  exact new.imp fun o ⟨_, _, _, e, _⟩ => e
theorem pe_sc2 {elt tg iter tg1 iter1 : Expr} {scope : Scope} {own : List (Str × Nat)} {vs1 : List Nat} {pos : Pos} {wi wi1 : TI} {g g1 : TG} {te : TE} (hc : X.calm = true) (hN : X.N.Nodup) (hi : PI X tg iter wi) (ok : BlkOk X.N X.env.scope scope own) (hv : ∀ i ∈ vs1, i ∈ own.map (·.2))
    (hg : ∀ s H C cl fp, PG (X.blk s H scope (compEnvC scope cl C X.env) fp) tg g) (hi1 : ∀ s H C cl fp, PI (X.blk s H scope (compEnvC scope cl C X.env) fp) tg1 iter1 wi1) (hg1 : ∀ s H C cl fp, PG (X.blk s H scope (compEnvC scope cl C X.env) fp) tg1 g1)
    (he : ∀ s H C cl fp, PE (X.blk s H scope (compEnvC scope cl C X.env) fp) elt te) (hs : ∀ x, foldedSetIterable iter X.env x = pure x := by intro _; rfl) (hs1 : ∀ env x, foldedSetIterable iter1 env x = pure x := by intro _ _; rfl) :
    PE X (sc2E elt tg iter tg1 iter1 scope pos) (tSc2 X.w wi g wi1 g1 te (own.map (·.2)) vs1) := by
  constructor
  intro pins s σ H Q I h
  have known : ∀ y ∈ scope.names, y.2 = .free → ∃ c, X.env.cells.lookup y.1 = some c := fun y hy e => (ok.free y hy e).elim (fun z => I.ok.has _ (.inl z)) fun z => I.ok.has _ (.inr z)
  show wpAny (model X.prog X.w) X.A (comprehension (sc2E elt tg iter tg1 iter1 scope pos) scope X.env _ (newSet (.type "set")) false (eval iter X.env)) _ X.xe s
  refine wpAny_comprehension_free (use := none) rfl hs (closure_ok known) ok.kind (fun y hy e => (ok.uniq y hy).trans (congrArg some e)) (thn (hi.run pins s σ H _ I h) fun xv s1 hx => thn hx fun itv s2 ⟨itr, fp, tn, J, H2, ei, I2, T, t2, f2, q⟩ => ?_)
  subst ei
  refine newSet_ok (newEnv_comp ?_)
  generalize eD : s2.heap.objs.size = D at q ⊢
  obtain ⟨W, ⟨m0, w0⟩, turn⟩ := q D (I2.hok.fresh (Nat.le_of_eq eD))
  generalize es3 : ({ s2 with heap := s2.heap.push { cls := .type "set", dict := none, data := .set #[] 0 (.fresh 0 0 (!X.w.params.followText "set-order")) } } : Shared) = s3
  have h3 : s3.heap = s2.heap.push { cls := .type "set", dict := none, data := .set #[] 0 (.fresh 0 0 (!X.w.params.followText "set-order")) } := by rw [← es3]
  have I3 : Inv X pins σ (upd H2 D (SetTO X.w D [])) s3 := by
    rw [← es3]
    exact I2.laid (t' := s2.toks) (fun b o e => Heap.get?_push_of_some _ e) (Nat.le_of_eq eD) (setTO_ok (by rw [← eD]; exact stT_new X.w))
  generalize eH3 : upd H2 D (SetTO X.w D []) = H3 at I3 w0
  have old : ∀ b ∈ fp, FpOk X pins H3 b ∧ b < s3.heap.objs.size := fun b hb => by
    obtain ⟨o, e, _⟩ := T.obj _ _ t2 b hb
    have lt := Heap.lt_size e
    refine ⟨⟨?_, (f2 b hb).2⟩, by rw [h3, Heap.size_push]; exact Nat.lt_succ_of_lt lt⟩
    rw [← eH3, upd_ne (by rw [← eD]; exact Nat.ne_of_lt lt)]
    exact (f2 b hb).1
  have t3 : tn 0 s3.heap := T.keep _ _ _ t2 fun b _ o e => by rw [h3]; exact Heap.get?_push_of_some _ e
  have I4 := block_start I3 ok hN old
  have pg := hg s3 H3 s3.heap.objs.size (cellsFrom (s3.heap.objs.size + 1) scope.names (cloFrom X.env.cells scope.names [])) fp
  have pi1 := hi1 s3 H3 s3.heap.objs.size (cellsFrom (s3.heap.objs.size + 1) scope.names (cloFrom X.env.cells scope.names [])) fp
  have pg1 := hg1 s3 H3 s3.heap.objs.size (cellsFrom (s3.heap.objs.size + 1) scope.names (cloFrom X.env.cells scope.names [])) fp
  have pe := he s3 H3 s3.heap.objs.size (cellsFrom (s3.heap.objs.size + 1) scope.names (cloFrom X.env.cells scope.names [])) fp
  show codeAny _ _ (.compStart (sc2E elt tg iter tg1 iter1 scope pos) 0 (.ref itr) (.ref D) (compEnvC scope (cellsFrom (s3.heap.objs.size + 1) scope.names (cloFrom X.env.cells scope.names [])) s3.heap.objs.size X.env)) (compPost (model X.prog X.w) X.A X.xe none _ (.ref D) s3.heap.objs.size) { s3 with heap := pushCells (s3.heap.push { cls := .type "dict", data := .dict #[] }) scope.names }
  have eL : (compEnvC scope (cellsFrom (s3.heap.objs.size + 1) scope.names (cloFrom X.env.cells scope.names [])) s3.heap.objs.size X.env).locals = s3.heap.objs.size := rfl
  generalize compEnvC scope (cellsFrom (s3.heap.objs.size + 1) scope.names (cloFrom X.env.cells scope.names [])) s3.heap.objs.size X.env = ce at I4 pg pi1 pg1 pe eL ⊢
  generalize es4 : ({ s3 with heap := pushCells (s3.heap.push { cls := .type "dict", data := .dict #[] }) scope.names } : Shared) = s4 at I4 ⊢
  have t4 : tn 0 s4.heap := T.keep _ _ _ t3 fun b _ o e => by rw [← es4]; exact pushCells_keeps _ _ _ _ (Heap.get?_push_of_some _ e)
  let Y : Cx := X.blk s3 H3 scope ce fp
  have fpo : ∀ {σ' : L2.St} {H' : Hp} {s' : Shared}, Inv Y [] σ' H' s' → (∀ b ∈ fp, H' b = none) → ∀ b ∈ fp, FpOk Y [] H' b := fun {σ' H' s'} J' no b hb =>
    ⟨no b hb, (J'.ok.exf b hb).1, J'.ok.exfs b hb, .inl hb, (J'.ok.exf b hb).2, fun p hp => by simp [Y] at hp⟩
  have lw : ∀ (τ : L2.St) vs, (wipe τ vs).length = τ.length := fun τ vs => wipe_length τ vs
  have walk : codeAny (model X.prog X.w) X.A (.compLoop (sc2E elt tg iter tg1 iter1 scope pos) 0 (.ref itr) (.ref D) ce) (compPost (model X.prog X.w) X.A X.xe none (fun v s' => EP X pins σ Q v s') (.ref D) s3.heap.objs.size) s4 := by
    refine loop_walk (X := Y) (pins := []) (τ := wipe σ (own.map (·.2))) turnO hc rfl T pg fpo W (fun i m H5 w5 => ?_) I4 t4 (fun b hb => (old b hb).1.1) w0
    rcases turn i m H5 w5 with ⟨stop, qq⟩ | ⟨go, Nx, nx, step⟩
    · refine .inl ⟨stop, fun s' I6 => ?_⟩
      have I7 : Inv X pins σ H5 s' := I3.call' (ch := fp) I6.os I6.base I6.hok I6.bare fun b hb => ⟨(old b hb).1.2.2.2.1, (old b hb).1.2.1, (old b hb).1.2.2.2.2.1, (old b hb).1.2.2.2.2.2⟩
      obtain ⟨mm, hn, _⟩ := I6.loc
      have hn : s'.heap.Ns ce.locals mm := hn
      have none5 : H5 ce.locals = none := I6.free
      rw [eL] at hn none5
      obtain ⟨f0, f1, f2, f3, f4, f5⟩ := I3.fpOk (Nat.le_refl _) none5
      exact ⟨mm, hn, fun h'' sb => ⟨.ref D, H5, I7.turned (t' := s'.toks) (fun b o nb e => (sb.2 b nb).trans e) f0 f1 f3 f4 f5, rfl, qq⟩⟩
    · refine .inr ⟨go, Nx, nx, fun x H6 y6 => ?_⟩
      refine ⟨_, step x H6 y6, fun σ2 H7 ⟨e2, q2⟩ pl s6 I6 => ?_⟩
      have l2 : (wipe σ (own.map (·.2))).length = σ2.length := by rw [← e2, lw]
      have k2 : ∀ (j : Nat) v, (wipe σ (own.map (·.2)))[j]? = some (some v) → (wipe σ2 vs1)[j]? = some (some v) := fun j v e => by
        rw [← e2] at e
        obtain ⟨e5, e6⟩ := wipe_some e
        rw [wipe_out fun z => e6 (hv j z)]
        exact e5
      unfold bodyO
      refine wpAny_bind (thnF (pi1.run _ s6 σ2 H7 _ I6 q2) fun xv s7 hx => wpAny_bind (wpAny_standAt (wpAny_bind (wpAny_of_eq (hs1 ce xv) (wpAny_bind (wpAny_holding (thnF hx fun itv s8 ⟨it1, fp1, tn1, J1, H8, e8, I8, T1, t8, f8, W1, ⟨m1, w1⟩, turn1⟩ => ?_)))))))
      subst e8
      refine wpAny_bind (wpAny_runOwn ?_)
      rw [Around.mark_none]
      have inner : codeAny (model X.prog X.w) X.A (.compLoop (sc2E elt tg iter tg1 iter1 scope pos) 1 (.ref it1) (.ref D) ce)
          (fun r s' => match r with
            | .ok _ => ∃ σ3 H3', Inv Y ([] ++ pl) σ3 H3' s' ∧ (wipe σ (own.map (·.2))).length = σ3.length ∧ (∀ (j : Nat) v, (wipe σ (own.map (·.2)))[j]? = some (some v) → σ3[j]? = some (some v)) ∧ Nx H3'
            | .error _ => False) s8 := by
        refine loop_walk (X := Y) (pins := [] ++ pl) (τ := wipe σ2 vs1) turnI hc rfl T1 pg1 (fun {σ' H' s'} J' no b hb => ⟨no b hb, (f8 b hb).2⟩) W1 (fun j k H9 w9 => ?_) (I8.weak (lw _ _) fun j v e => (wipe_some e).1) t8 (fun b hb => (f8 b hb).1) w1
        rcases turn1 j k H9 w9 with ⟨stop1, nx1⟩ | ⟨go1, Nx1, hn1, step1⟩
        · exact .inl ⟨stop1, fun s' I9 => ⟨_, H9, I9, l2.trans (lw σ2 vs1).symm, k2, nx1⟩⟩
        · refine .inr ⟨go1, Nx1, hn1, fun y H10 y10 => ⟨_, step1 y H10 y10, fun σ3 H11 ⟨e3, q3⟩ pl1 s9 I9 => ?_⟩⟩
          unfold bodyI
          refine wpAny_bind (thnF (pe.run _ s9 σ3 H11 _ I9 q3) fun zv s10 ⟨yv, H12, I10, rz, key, ks, ek, hD, room, nx2⟩ => ?_)
          subst ek
          refine wpAny_bind (wpAny_standAt (wpAny_bind (addK_ok (X := Y) I10 hD rz room fun s11 I11 => wpAny_pure ⟨σ3, _, I11, ?_, fun j v e => ?_, nx2⟩)))
          · rw [← e3, lw]
          · rw [← e3] at e
            exact (wipe_some e).1
      refine codeAny_mono (start1 inner (T1.self X.A 0 _ _ _ t8 inner)) fun r s' z => ?_
      cases r with
      | ok f => exact wpAny_pure z
      | error e => exact z.elim
  exact codeAny_compStart_set walk (T.self X.A 0 _ _ _ t4 walk)
end
end Nv
/-! Nv, part Ld: sorted({e for a in .. for b in ..}) over data; sorted of a list of texts. -/
namespace Nv
open PySem PySem.Spec PyProof.Rows L2
noncomputable def insS (xs : List Str) (x : Str) : List Str := @ite _ (x ∈ xs) (Classical.propDecidable _) xs (xs ++ [x])
theorem insS_old {xs : List Str} {x : Str} (h : x ∈ xs) : insS xs x = xs := by unfold insS; exact if_pos h
theorem insS_new {xs : List Str} {x : Str} (h : x ∉ xs) : insS xs x = xs ++ [x] := by unfold insS; exact if_neg h
theorem insS_K {xs : List Str} {x : Str} : insK (xs.map Sum.inr) (Sum.inr x) = (insS xs x).map Sum.inr := by
  by_cases h : x ∈ xs
  · rw [insS_old h, insK_old (List.mem_map.mpr ⟨x, h, rfl⟩)]
  · rw [insS_new h, insK_new (fun z => by
      obtain ⟨y, hy, e⟩ := List.mem_map.mp z
      exact h (Sum.inr.inj e ▸ hy)), List.map_append]
    rfl
theorem insS_mem {xs : List Str} {x y : Str} : y ∈ insS xs x ↔ y ∈ xs ∨ y = x := by
  by_cases h : x ∈ xs
  · rw [insS_old h]
    exact ⟨.inl, fun z => z.elim id fun e => e ▸ h⟩
  · rw [insS_new h, List.mem_append, List.mem_singleton]
theorem insS_nodup {xs : List Str} {x : Str} (n : xs.Nodup) : (insS xs x).Nodup := by
  by_cases h : x ∈ xs
  · rw [insS_old h]
    exact n
  · rw [insS_new h, List.nodup_append]
    exact ⟨n, by simp, fun a ha b hb => by
      rw [List.mem_singleton] at hb
      subst hb
      exact fun e => h (e ▸ ha)⟩
theorem nodup_le {α : Type} [DecidableEq α] : ∀ {xs U : List α}, xs.Nodup → (∀ x ∈ xs, x ∈ U) → xs.length ≤ U.length
  | [], _, _, _ => Nat.zero_le _
  | x :: xs, U, n, h => by
    obtain ⟨n1, n2⟩ := List.nodup_cons.mp n
    have hx := h x (by simp)
    have ih := nodup_le (U := U.erase x) n2 fun y hy => (List.mem_erase_of_ne (a := y) (b := x) fun e => n1 (by rw [← e]; exact hy)).mpr (h y (by simp [hy]))
    rw [List.length_erase_of_mem hx] at ih
    have := List.length_pos_of_mem hx
    rw [List.length_cons]
    omega
theorem insS_len {xs : List Str} {x : Str} : (insS xs x).length ≤ xs.length + 1 := by
  by_cases h : x ∈ xs
  · rw [insS_old h]
    exact Nat.le_succ _
  · rw [insS_new h, List.length_append]
    exact Nat.le_refl _
/-- less than, of texts -/
def ltS (a b : Str) : Prop := a.cps.toList < b.cps.toList
theorem str_ext {a b : Str} (h : a.cps.toList = b.cps.toList) : a = b := by
  obtain ⟨⟨x⟩⟩ := a
  obtain ⟨⟨y⟩⟩ := b
  simp at h
  rw [h]
theorem asc_strs {ys : List Str} (h : ys.Pairwise fun a b => ¬ b.cps.toList < a.cps.toList) (n : ys.Nodup) : ys.Pairwise ltS :=
  (h.and n).imp fun {a b} ⟨h1, h2⟩ => (List.le_iff_lt_or_eq.mp (List.not_lt.mp h1)).resolve_right fun e => h2 (str_ext e)
section
variable {R : Rg} {δ : List Sl} {te ta tb tc : TE} {tr : TA} {φ : D → Prop} {K : PySem.W.Frag}
/-- sorted({h(e) for d in .. for e in ..}) -/
theorem wpe_srtSc2 {w : World} {wi wi1 : TI} {g g1 : TG} {vs vs1 js js1 : List Nat} (f : D → List Str) (hd : D → Str) (hjs : ∀ j ∈ js, j ∈ vs) (hjs1 : ∀ j ∈ js1, j ∈ vs1)
    (h : WpI R wi δ fun ds => (∃ U : List Str, U.length ≤ 4000 ∧ ∀ x ∈ ds.flatMap f, x ∈ U) ∧ (∀ d ∈ ds, WpG R g d (wipeD δ vs) js fun δ2 => ((∀ (i : Nat) (a : Addr) (ds : List D), ¬ δ2[i]? = some (.ow a ds)) ∧ (∀ (i : Nat) (a : Addr) (ds : List Int), ¬ δ2[i]? = some (.od a ds))) ∧ WpI R wi1 δ2 fun es => es.map hd = f d ∧ ∀ e ∈ es, WpG R g1 e (wipeD δ2 vs1) js1 fun δ3 => WpE R te δ3 fun y => y = .str (hd e)) ∧
      ∀ ys : List Str, ys.Pairwise ltS → (∀ x, x ∈ ys ↔ x ∈ ds.flatMap f) → φ (.lst (ys.map D.str))) :
    WpE R (tCB (rSrtST w) (tCons (tSc2 w wi g wi1 g1 te vs vs1) tNil)) δ φ := fun σ G H en rz Q k => by
  refine h σ G H en rz _ fun J ds G1 H1 s1 e1 wk ⟨⟨U, lU, sU⟩, step, fin⟩ => ?_
  intro Dl hD
  have gD : G1 Dl = none := e1.same.free hD
  have fD : ¬ R.T.S Dl ∧ ¬ R.T.O Dl := by
    refine ⟨fun z => ?_, fun z => e1.old Dl z hD⟩
    obtain ⟨_, x, y, w, e⟩ := e1.stt Dl z
    rw [hD] at e
    exact nomatch e
  have ew := e1.wipe vs
  let Nx : Nat → List Str → Hp → Prop := fun i more H' => ∃ (xs : List Str) (G' : Hp), Stp R.T.S G1 H1 G' H' ∧ Same G' H' ∧ StO R.T.S G' H' ∧ G' Dl = none ∧ H' Dl = some (SetTO w Dl (xs.map Sum.inr)) ∧ xs.Nodup ∧ (∀ x, x ∈ xs ↔ x ∈ (ds.take i).flatMap f ++ more)
  refine ⟨fun i m H' => m = ds.length - i ∧ i ≤ ds.length ∧ Nx i [] H', ⟨_, rfl, Nat.zero_le _, [], G1, Stp.grow (same_upd hD), e1.same.trans (same_upd hD), fun a ha => ?_, gD, upd_same, .nil, fun x => by simp⟩, ?_⟩
  · obtain ⟨q, x, y, w, e⟩ := e1.stt a ha
    exact ⟨q, x, y, w, by rw [upd_ne (ne_of_none e hD)]; exact e⟩
  rintro i m H' ⟨rfl, hi, xs, G', st, sm, so, gd, hd', nd, mm⟩
  have e' : Ens R.T G' H' (wipeD δ vs) (L2.wipe σ vs) := ew.step st (fun _ z => z) sm so
  obtain ⟨go, stop, yld⟩ := wk G' H' st.gs sm
  by_cases lt : i < ds.length
  · refine .inr ⟨go i lt, Nx (i + 1) [], fun H2 z => ⟨ds.length - (i + 1), by omega, rfl, lt, z⟩, fun x H2 y => ?_⟩
    obtain ⟨d, G2, ed, s2, sm2, at2⟩ := yld i x H2 lt y
    have tk : ds.take (i + 1) = ds.take i ++ [d] := by rw [List.take_add_one, ed]; rfl
    have e2 := e'.step0 s2 sm2
    have st2 := st.trans s2.zero
    have gd2 : G2 Dl = none := s2.gn Dl gd (by rw [hd']; exact fun z => nomatch z)
    have hd2 : H2 Dl = some (SetTO w Dl (xs.map Sum.inr)) := s2.same _ _ hd'
    refine step d (List.mem_of_getElem? ed) (L2.wipe σ vs) G2 H2 x e2 at2 _ fun σ3 δ3 e3 ag ln ⟨no, wI⟩ => ⟨wipe_eq hjs ag ln, ?_⟩
    have rz2 : Rz R G2 H2 := (rz.stepB (s1.toB en.old)).stepB (st2.toB e1.old)
    refine wI σ3 G2 H2 e3 rz2 _ fun J1 es G4 H4 s4 e4 wk1 ⟨ef, each⟩ => ?_
    have gd4 : G4 Dl = none := s4.gn Dl gd2 (by rw [hd2]; exact fun z => nomatch z)
    have hd4 : H4 Dl = some (SetTO w Dl (xs.map Sum.inr)) := s4.hs _ _ hd2 fD.1
    have st4 := st2.trans s4
    let N5 : Nat → Hp → Prop := fun j H5 => ∃ G5, Same G4 G5 ∧ ∃ xs : List Str, Stp R.T.S G1 H1 G5 H5 ∧ Same G5 H5 ∧ StO R.T.S G5 H5 ∧ G5 Dl = none ∧ H5 Dl = some (SetTO w Dl (xs.map Sum.inr)) ∧ xs.Nodup ∧ (∀ x, x ∈ xs ↔ x ∈ (ds.take i).flatMap f ++ (es.take j).map hd) ∧ Ens R.T G5 H5 δ3 σ3
    refine ⟨fun j k H5 => k = es.length - j ∧ j ≤ es.length ∧ N5 j H5, ⟨_, rfl, Nat.zero_le _, G4, .refl _, xs, st4, e4.same, e4.stt, gd4, hd4, nd, mm, e4⟩, ?_⟩
    rintro j k5 H5 ⟨rfl, hj, G5, g45, ys, st5, sm5, so5, gd5, hd5, nd5, mm5, en5⟩
    obtain ⟨go1, stop1, yld1⟩ := wk1 G5 H5 g45 sm5
    by_cases lt1 : j < es.length
    · refine .inr ⟨go1 j lt1, N5 (j + 1), fun H6 z => ⟨es.length - (j + 1), by omega, rfl, lt1, z⟩, fun x6 H6 y6 => ?_⟩
      obtain ⟨d6, G6, ed6, s6, sm6, at6⟩ := yld1 j x6 H6 lt1 y6
      have en6 := en5.step0 s6 sm6
      have st6 := st5.trans s6.zero
      have gd6 : G6 Dl = none := s6.gn Dl gd5 (by rw [hd5]; exact fun z => nomatch z)
      have hd6 : H6 Dl = some (SetTO w Dl (ys.map Sum.inr)) := s6.same _ _ hd5
      refine each d6 (List.mem_of_getElem? ed6) (L2.wipe σ3 vs1) G6 H6 x6 (en6.wipe vs1) at6 _ fun σ7 δ7 e7 ag7 ln7 w7 => ⟨wipe_eq hjs1 ag7 ln7, ?_⟩
      have rz6 : Rz R G6 H6 := (rz.stepB (s1.toB en.old)).stepB (st6.toB e1.old)
      refine w7 σ7 G6 H6 e7 rz6 _ fun v y8 G8 H8 s8 e8 a8 q8 => ?_
      subst q8
      cases a8
      have gd8 : G8 Dl = none := s8.gn Dl gd6 (by rw [hd6]; exact fun z => nomatch z)
      have hd8 : H8 Dl = some (SetTO w Dl (ys.map Sum.inr)) := s8.hs _ _ hd6 fD.1
      have st8 := st6.trans s8
      have tk1 : (es.take (j + 1)).map hd = (es.take j).map hd ++ [hd d6] := by rw [List.take_add_one, ed6, List.map_append]; rfl
      have sm9 : Same G8 (upd H8 Dl (SetTO w Dl ((insS ys (hd d6)).map Sum.inr))) := fun b u e => by rw [upd_ne (ne_of_none e gd8)]; exact e8.same b u e
      have so9 : StO R.T.S G8 (upd H8 Dl (SetTO w Dl ((insS ys (hd d6)).map Sum.inr))) := fun a ha => by
        obtain ⟨q1, x1, y1, w1, q2⟩ := e8.stt a ha
        exact ⟨q1, x1, y1, w1, by rw [upd_ne (show a ≠ Dl from fun z => fD.1 (by rw [← z]; exact ha))]; exact q2⟩
      have st9 : Stp R.T.S G1 H1 G8 (upd H8 Dl (SetTO w Dl ((insS ys (hd d6)).map Sum.inr))) := ⟨st8.gs, fun b u e n => by rw [upd_ne (ne_of_none e hD)]; exact st8.hs b u e n, fun b e => by
        by_cases z : b = Dl
        · rw [z, upd_same]; exact fun q => nomatch q
        · rw [upd_ne z]; exact st8.al b e, st8.gn⟩
      refine ⟨Sum.inr (hd d6), ys.map Sum.inr, rfl, hd8, ?_, ?_⟩
      · rw [List.length_map]
        have sub : ∀ x ∈ ys, x ∈ U := fun x hx => by
          refine sU x ?_
          rw [← List.take_append_drop (i + 1) ds, tk, List.flatMap_append, List.flatMap_append]
          rcases List.mem_append.mp ((mm5 x).mp hx) with z | z
          · exact List.mem_append_left _ (List.mem_append_left _ z)
          · refine List.mem_append_left _ (List.mem_append_right _ ?_)
            rw [List.flatMap_singleton, ← ef]
            exact List.mem_map.mpr ((List.mem_map.mp z).imp fun e h => ⟨List.mem_of_mem_take h.1, h.2⟩)
        have := nodup_le nd5 sub
        refine Nat.lt_of_le_of_lt (m := 4001) (by omega) (by decide)
      · rw [insS_K]
        refine ⟨G8, (g45.trans s6.gs).trans s8.gs, insS ys (hd d6), st9, sm9, so9, gd8, upd_same, insS_nodup nd5, fun x => ?_, ?_⟩
        · rw [insS_mem, mm5, tk1, ← List.append_assoc, List.mem_append (s := _ ++ _), List.mem_singleton]
        · exact (en6.step s8 (fun _ z => z) e8.same e8.stt).side gd8 fD.1 fD.2 no.1 no.2
    · have e : j = es.length := by omega
      subst e
      refine .inl ⟨stop1, ys, G5, st5, sm5, so5, gd5, hd5, nd5, fun x => ?_⟩
      rw [List.take_length, ef] at mm5
      rw [mm5, tk, List.flatMap_append]
      simp
  · have e : i = ds.length := by omega
    subst e
    refine .inl ⟨stop, Dl, xs, rfl, hd', fun ys p hp hs fp => ?_⟩
    rw [List.take_length] at mm
    have gp : G' p = none := sm.free fp
    have s2 : Stp S0 G' H' (upd G' p (.lst (ys.map V.str))) (upd H' p (.lst (ys.map V.str))) := .new sm fp
    have en' : Ens R.T G' H' δ σ := e1.step st (fun _ z => z) sm so
    have al : ∀ {G : Hp} (ys : List Str), AtAll G (ys.map V.str) (ys.map D.str) := fun {G} ys => by
      induction ys with
      | nil => exact .nil
      | cons y ys ih => exact .cons (.str y) ih
    refine k _ _ _ _ ((s1.trans st).trans s2.zero) (en'.step0 s2 (upd_same2 sm)) (.lst upd_same (al ys)) (fin ys (asc_strs hs (hp.nodup_iff.mpr nd)) fun x => ?_)
    rw [hp.mem_iff, mm]
    simp
theorem cbd_srtT {xs : List Str} (q : ∀ ys : List Str, ys.Perm xs → ys.Pairwise (fun a b => ¬ b.cps.toList < a.cps.toList) → φ (.lst (ys.map D.str))) : CbD (rSrtT K) [.lst (xs.map D.str)] φ := fun G H vs s a Q k => by
  cases a with
  | cons a t =>
    cases t
    obtain ⟨p0, us, rfl, ha, al⟩ := at_lst a
    obtain rfl := strs_atAll al
    have al2 : ∀ {G : Hp} (ys : List Str), AtAll G (ys.map V.str) (ys.map D.str) := fun {G} ys => by
      induction ys with
      | nil => exact .nil
      | cons y ys ih => exact .cons (.str y) ih
    refine ⟨p0, xs, rfl, sqL_of s ha, fun ys p hp hs fp => ?_⟩
    have st : Stp S0 G H (upd G p (.lst (ys.map V.str))) (upd H p (.lst (ys.map V.str))) := .new s fp
    exact k _ _ _ _ st (upd_same2 s) (.lst upd_same (al2 ys)) (q ys hp hs)
end
section
variable {X : Cx} {K : PySem.W.Frag}
theorem cr_srtTK (h : X.K = K) : CallR X (.builtin "sorted") (rSrtT K) := h ▸ cr_srtT
theorem cr_srtSTw {w : World} (h : X.w = w) (hc : X.calm = true) : CallR X (.builtin "sorted") (rSrtST w) := h ▸ cr_srtST hc
end
end Nv
/-! Nv, part F: operators that an own class defines. -/
namespace Nv
open PySem PySem.Spec PyProof.Rows L2

theorem int_add_no (a : Int) (t : Tok) (l : Addr) (C dx : Addr) :
    Meets (Builtin.«int.__add__» ⟨[.int a t, .ref l], []⟩) (fun _ R s => s.heap.get? l = some (PySem.W.instObj C dx) ∧ R (.ok (.ret Value.notImplemented)) s) :=
  .of_wp fun prog w A R s h => by
    obtain ⟨hp, g, d, tk, os⟩ := s
    obtain ⟨hl, h⟩ := h
    unfold PySem.W.instObj at hl
    wp_walk
    exact ⟨_, rfl, h⟩
theorem int_sub_no (a : Int) (t : Tok) (l : Addr) (C dx : Addr) :
    Meets (Builtin.«int.__sub__» ⟨[.int a t, .ref l], []⟩) (fun _ R s => s.heap.get? l = some (PySem.W.instObj C dx) ∧ R (.ok (.ret Value.notImplemented)) s) :=
  .of_wp fun prog w A R s h => by
    obtain ⟨hp, g, d, tk, os⟩ := s
    obtain ⟨hl, h⟩ := h
    unfold PySem.W.instObj at hl
    wp_walk
    exact ⟨_, rfl, h⟩
theorem int_mul_no (a : Int) (t : Tok) (l : Addr) (C dx : Addr) :
    Meets (Builtin.«int.__mul__» ⟨[.int a t, .ref l], []⟩) (fun _ R s => s.heap.get? l = some (PySem.W.instObj C dx) ∧ R (.ok (.ret Value.notImplemented)) s) :=
  .of_wp fun prog w A R s h => by
    obtain ⟨hp, g, d, tk, os⟩ := s
    obtain ⟨hl, h⟩ := h
    unfold PySem.W.instObj at hl
    wp_walk
    exact ⟨_, rfl, h⟩

section
open PySem.W
variable {prog : Program} {w : World} {A : Around} {E : Value → Shared → Prop} {s : Shared} {K : Frag} {x C L f g : Addr} {h₀ : Heap} {m : Str → Option Value} {ox : Obj} {od : Option Obj} {i : Int} {t : Tok}
/-- an int on the left of an own instance: int's own method declines, the reflected one answers -/
theorem int_left {op : Operator} {fo ro : Option Value} {Q : Value → Shared → Prop} (F : Fr h₀ L s.heap m) (X₀ : K.In h₀) (I : InstAt s.heap x ox C od) (hc : selfFirst K C = true)
    (hs : findIn K (.ref C) (PySem.dunder op.info.2) = some (some (.ref f))) (hr : findIn K (.ref C) (dunderR op.info.2) = some (some (.ref g))) (hg : isFn K (.ref g) = true)
    (h1 : findIn K (.type "int") (PySem.dunder op.info.2) = some fo) (h2 : findIn K (.type "int") (dunderR op.info.2) = some ro)
    (hl : ((fo.isSome && !isSeqSlot fo) || (ro.isSome && !isSeqSlot ro)) = true) (hsub : subIn K (.ref C) (.type "int") = some false)
    (no : ∀ Q' : Option Value → Shared → Prop, Q' none s → wpAny (model prog w) A (tryMethod (.int i t) (PySem.dunder op.info.2) (.ref x)) Q' E s)
    (h : wpAny (model prog w) A (call (.ref g) [.ref x, .int i t]) (PySem.W.CmpBack Q) E s) : wpAny (model prog w) A (binaryOp op (.int i t) (.ref x)) Q E s := by
  have X := X₀.keeps F.keep
  obtain ⟨cd, rest, hcd, hm⟩ := ksp_first hc
  rcases hi : op.info with ⟨sym, nm'⟩
  rw [hi] at hs hr h1 h2 no
  dsimp only at hs hr h1 h2 no
  have one := ksp_try X I hr hg h
  obtain ⟨hh, gg, d, tt, os⟩ := s
  have L1 : Looks (model prog w) hh (typeOf (.ref x)) (.ref C) := I.type
  have L2 : Looks (model prog w) hh (typeOf (.int i t)) (.type "int") := Looks.of_pure rfl
  have L3 : Looks (model prog w) hh (fillsNumberSlot (.ref C) nm') true := fills_K X hcd hm hs
  have L4 : Looks (model prog w) hh (fillsNumberSlot (.type "int") nm') ((fo.isSome && !isSeqSlot fo) || (ro.isSome && !isSeqSlot ro)) := ksp_fillsT X h1 h2
  rw [hl] at L4
  have L5 : Looks (model prog w) hh (isSubtype (.ref C) (.type "int")) false := looks_subIn X hsub
  have L7 : Looks (model prog w) hh (numberSlotInPython (.type "int") nm') false := Looks.of_pure rfl
  have hne : (Value.type "int" == Value.ref C) = false := Bool.eq_false_iff.mpr fun q => by cases beq_iff_eq.mp q
  simp only [binaryOp, hi]
  refine wpAny_holding (wpAny_bind ?_)
  unfold binaryOp1
  refine wpAny_bind (L2.at (wpAny_bind (L1.at (wpAny_bind (L4.at ?_)))))
  simp only [hne, Bool.false_eq_true, if_false]
  refine wpAny_bind (L3.at ?_)
  simp only [Bool.and_self, if_true]
  refine wpAny_bind (L5.at ?_)
  simp only [Bool.false_eq_true, if_false, pure_bind, Bool.not_false, Bool.and_self, if_true]
  refine wpAny_bind (L7.at ?_)
  simp only [Bool.false_eq_true, if_false, pure_bind, if_true]
  refine wpAny_bind (no _ ?_)
  refine wpAny_bind (wpAny_mono one (fun r s' hr' => ?_) fun _ _ e => e)
  obtain ⟨v, rfl, hq⟩ := hr'
  exact wpAny_bind (wpAny_rule (wpAny_pure (wpAny_pure hq)))
end

/-- what the written part says of an own class's operator -/
structure OpC (K : PySem.W.Frag) (C : Addr) (op : Operator) (f g : Addr) : Prop where
  first : PySem.W.selfFirst K C = true
  fd : PySem.W.findIn K (.ref C) (PySem.dunder op.info.2) = some (some (.ref f))
  fn : PySem.W.isFn K (.ref f) = true
  rd : PySem.W.findIn K (.ref C) (dunderR op.info.2) = some (some (.ref g))
  rn : PySem.W.isFn K (.ref g) = true
  sl : ∃ fo ro, PySem.W.findIn K (.type "int") (PySem.dunder op.info.2) = some fo ∧ PySem.W.findIn K (.type "int") (dunderR op.info.2) = some ro ∧
    ((fo.isSome && !isSeqSlot fo) || (ro.isSome && !isSeqSlot ro)) = true
  sub1 : PySem.W.subIn K (.type "int") (.ref C) = some false
  sub2 : PySem.W.subIn K (.ref C) (.type "int") = some false

theorem OpR.or {X : Cx} {f : Value → Value → Sem Value} {r1 r2 : R2} (a : OpR X f r1) (b : OpR X f r2) : OpR X f (fun x y H Q => r1 x y H Q ∨ r2 x y H Q) :=
  fun pins s σ H x y v u Q I rx ry h => h.elim (a pins s σ H x y v u Q I rx ry) (b pins s σ H x y v u Q I rx ry)
theorem UnR.or {X : Cx} {f : Value → Sem Value} {r1 r2 : V → Hp → VK → Prop} (a : UnR X f r1) (b : UnR X f r2) : UnR X f (fun x H Q => r1 x H Q ∨ r2 x H Q) :=
  fun pins s σ H x v Q I rx h => h.elim (a pins s σ H x v Q I rx) (b pins s σ H x v Q I rx)
section
variable {X : Cx} {CX : CXT} {k : Nat} {f g C : Addr} {fd : FuncData} {ps : List Str} {sp : Sp} {E : XK} {op : Operator}
theorem run_own {pins : List (Addr × Obj)} {σ : L2.St} {H : Hp} {s : Shared} {Q : VK} {us : List Value} {vs : List V}
    (F : FnOk X.prog X.w X.K X.mg X.base CX k f fd ps sp) (hr : Room k X.A) (hb : Binds X.K fd ps []) (hx : Passes CX X E)
    (I : Inv X pins σ H s) (r : Vals vs us) (h : sp vs H Q E) :
    wpAny (model X.prog X.w) X.A (call (.ref f) us) (PySem.W.CmpBack (EP X pins σ Q)) X.xe s := by
  refine wpAny_mono (run_fn F hr hb .nil hx I r (by rw [List.append_nil]; exact h)) (fun u s' z => ?_) fun _ _ z => z
  obtain ⟨v, H', I', rv, q⟩ := z
  have ne : u ≠ .notImplemented := fun e => by
    subst e
    cases v with
    | non => exact nomatch (show Value.notImplemented = Value.none from rv)
    | bl b => exact nomatch (show Value.notImplemented = Value.bool b from rv)
    | int i => obtain ⟨_, z⟩ := rv; exact nomatch z
    | str y => obtain ⟨_, z⟩ := rv; exact nomatch z
    | byt y => obtain ⟨_, z⟩ := rv; exact nomatch z
    | flt y => obtain ⟨_, z⟩ := rv; exact nomatch z
    | ref a => exact nomatch (show Value.notImplemented = Value.ref a from rv)
    | ty n => exact nomatch (show Value.notImplemented = Value.type n from rv)
  cases u <;> first | exact absurd rfl ne | exact ⟨v, H', I', rv, q⟩
/-- a op b, a an instance of the class at C, b one or an int: a's own method -/
def rOwn (C : Addr) (sp : Sp) (E : XK) : R2 := fun x y H Q => ∃ a dx fs, x = .ref a ∧ H a = some (.ins C dx fs) ∧
  ((∃ b dy gs, y = .ref b ∧ H b = some (.ins C dy gs)) ∨ ∃ j, y = .int j) ∧ sp [x, y] H Q E
theorem op_own (T : OpC X.K C op f g) (F : FnOk X.prog X.w X.K X.mg X.base CX k f fd ps sp) (hr : Room k X.A) (hb : Binds X.K fd ps []) (hx : Passes CX X E) :
    OpR X (binaryOp op) (rOwn C sp E) := by
  intro pins s σ H x y v u Q I rx ry h
  obtain ⟨a, dx, fs, rfl, ha, hy, q⟩ := h
  cases rx
  obtain ⟨mA, J, _⟩ := ins_get I.hok ha
  obtain ⟨od, J, _⟩ := J.look
  obtain ⟨m, hF⟩ := I.fr
  rcases hy with ⟨b, dy, gs, rfl, hb'⟩ | ⟨j, rfl⟩
  · cases ry
    obtain ⟨mB, J', _⟩ := ins_get I.hok hb'
    obtain ⟨od', J', _⟩ := J'.look
    exact PySem.W.binop_K hF I.ok.mod.kin J J'.type T.first T.fd T.fn (run_own (vs := [.ref a, .ref b]) F hr hb hx I (.cons rfl (.cons rfl .nil)) q)
  · obtain ⟨t, rfl⟩ := ry
    obtain ⟨fo, ro, h1, h2, _⟩ := T.sl
    exact PySem.W.ksp_binT (T := "int") hF I.ok.mod.kin J rfl T.first T.fd T.fn T.rd (Or.inr ⟨_, rfl⟩) h1 h2 T.sub1
      (run_own (vs := [.ref a, .int j]) F hr hb hx I (.cons rfl (.cons ⟨t, rfl⟩ .nil)) q)
/-- i op a, i an int: a's reflected method -/
def rRef (C : Addr) (sp : Sp) (E : XK) : R2 := fun x y H Q => ∃ i a dx fs, x = .int i ∧ y = .ref a ∧ H a = some (.ins C dx fs) ∧ sp [y, x] H Q E
theorem op_ref (T : OpC X.K C op f g) (F : FnOk X.prog X.w X.K X.mg X.base CX k g fd ps sp) (hr : Room k X.A) (hb : Binds X.K fd ps []) (hx : Passes CX X E)
    (no : ∀ (A : Around) (i : Int) (t : Tok) (l dx : Addr) (s : Shared) (E' : Value → Shared → Prop) (Q' : Option Value → Shared → Prop), s.heap.get? l = some (PySem.W.instObj C dx) → Q' none s →
      wpAny (model X.prog X.w) A (tryMethod (.int i t) (PySem.dunder op.info.2) (.ref l)) Q' E' s) :
    OpR X (binaryOp op) (rRef C sp E) := by
  intro pins s σ H x y v u Q I rx ry h
  obtain ⟨i, a, dx, fs, rfl, rfl, ha, q⟩ := h
  obtain ⟨t, rfl⟩ := rx
  cases ry
  obtain ⟨mA, J, _⟩ := ins_get I.hok ha
  have ob := J.obj
  obtain ⟨od, J, _⟩ := J.look
  obtain ⟨m, hF⟩ := I.fr
  obtain ⟨fo, ro, h1, h2, h3⟩ := T.sl
  exact int_left hF I.ok.mod.kin J T.first T.fd T.rd T.rn h1 h2 h3 T.sub2 (fun Q' z => no _ i t a dx s _ Q' ob z)
    (run_own (vs := [.ref a, .int i]) F hr hb hx I (.cons rfl (.cons ⟨t, rfl⟩ .nil)) q)
/-- - a -/
def rNegO (C : Addr) (sp : Sp) (E : XK) : V → Hp → VK → Prop := fun x H Q => ∃ a dx fs, x = .ref a ∧ H a = some (.ins C dx fs) ∧ sp [x] H Q E
theorem un_own (hs : PySem.W.findIn X.K (.ref C) "__neg__" = some (some (.ref f))) (hf : PySem.W.isFn X.K (.ref f) = true)
    (F : FnOk X.prog X.w X.K X.mg X.base CX k f fd ps sp) (hr : Room k X.A) (hb : Binds X.K fd ps []) (hx : Passes CX X E) : UnR X (unaryOp .USub) (rNegO C sp E) := by
  intro pins s σ H x v Q I rx h
  obtain ⟨a, dx, fs, rfl, ha, q⟩ := h
  cases rx
  obtain ⟨mA, J, _⟩ := ins_get I.hok ha
  obtain ⟨od, J, _⟩ := J.look
  obtain ⟨m, hF⟩ := I.fr
  exact PySem.W.ksp_neg hF I.ok.mod.kin J hs hf (run_fn (vs := [.ref a]) F hr hb .nil hx I (.cons rfl .nil) (by rw [List.append_nil]; exact q))
end
end Nv
/-! Nv, part G: an int on the left of an own instance: int's own method declines. -/
namespace Nv
open PySem PySem.Spec PyProof.Rows L2
theorem nb_add {prog : Program} {w : World} {A : Around} {i : Int} {t : Tok} {l : Addr} {s : Shared} {E' : Value → Shared → Prop} {Q' : Option Value → Shared → Prop}
    (hc : wpAny (model prog w) A (call (.builtin "int.__add__") [.int i t, .ref l]) (fun v s' => v = .notImplemented ∧ Q' none s') E' s) :
    wpAny (model prog w) A (tryMethod (.int i t) (PySem.dunder "add") (.ref l)) Q' E' s := by
  refine wpAny_tryMethod_declines (T := "int") (id := "int.__add__") ?_ ?_ ?_
  · exact typeIs_int s i t
  · exact F.slot_int_add
  · exact hc
theorem no_add {prog : Program} {w : World} {C : Addr} (A : Around) (i : Int) (t : Tok) (l dx : Addr) (s : Shared) (E' : Value → Shared → Prop) (Q' : Option Value → Shared → Prop)
    (h : s.heap.get? l = some (PySem.W.instObj C dx)) (q : Q' none s) : wpAny (model prog w) A (tryMethod (.int i t) (PySem.dunder Operator.Add.info.2) (.ref l)) Q' E' s := by
  refine nb_add ?_
  refine call_meets F.slot_int_add (typeIs_int s i t) F.entry_int_add (F.args_int_add_2 _ _) (int_add_no i t l C dx) ?_
  exact ⟨h, rfl, q⟩
theorem nb_sub {prog : Program} {w : World} {A : Around} {i : Int} {t : Tok} {l : Addr} {s : Shared} {E' : Value → Shared → Prop} {Q' : Option Value → Shared → Prop}
    (hc : wpAny (model prog w) A (call (.builtin "int.__sub__") [.int i t, .ref l]) (fun v s' => v = .notImplemented ∧ Q' none s') E' s) :
    wpAny (model prog w) A (tryMethod (.int i t) (PySem.dunder "sub") (.ref l)) Q' E' s := by
  refine wpAny_tryMethod_declines (T := "int") (id := "int.__sub__") ?_ ?_ ?_
  · exact typeIs_int s i t
  · exact F.slot_int_sub
  · exact hc
theorem no_sub {prog : Program} {w : World} {C : Addr} (A : Around) (i : Int) (t : Tok) (l dx : Addr) (s : Shared) (E' : Value → Shared → Prop) (Q' : Option Value → Shared → Prop)
    (h : s.heap.get? l = some (PySem.W.instObj C dx)) (q : Q' none s) : wpAny (model prog w) A (tryMethod (.int i t) (PySem.dunder Operator.Sub.info.2) (.ref l)) Q' E' s := by
  refine nb_sub ?_
  refine call_meets F.slot_int_sub (typeIs_int s i t) F.entry_int_sub (F.args_int_sub_2 _ _) (int_sub_no i t l C dx) ?_
  exact ⟨h, rfl, q⟩
theorem nb_mul {prog : Program} {w : World} {A : Around} {i : Int} {t : Tok} {l : Addr} {s : Shared} {E' : Value → Shared → Prop} {Q' : Option Value → Shared → Prop}
    (hc : wpAny (model prog w) A (call (.builtin "int.__mul__") [.int i t, .ref l]) (fun v s' => v = .notImplemented ∧ Q' none s') E' s) :
    wpAny (model prog w) A (tryMethod (.int i t) (PySem.dunder "mul") (.ref l)) Q' E' s := by
  refine wpAny_tryMethod_declines (T := "int") (id := "int.__mul__") ?_ ?_ ?_
  · exact typeIs_int s i t
  · exact F.slot_int_mul
  · exact hc
theorem no_mul {prog : Program} {w : World} {C : Addr} (A : Around) (i : Int) (t : Tok) (l dx : Addr) (s : Shared) (E' : Value → Shared → Prop) (Q' : Option Value → Shared → Prop)
    (h : s.heap.get? l = some (PySem.W.instObj C dx)) (q : Q' none s) : wpAny (model prog w) A (tryMethod (.int i t) (PySem.dunder Operator.Mult.info.2) (.ref l)) Q' E' s := by
  refine nb_mul ?_
  refine call_meets F.slot_int_mul (typeIs_int s i t) F.entry_int_mul (F.args_int_mul_2 _ _) (int_mul_no i t l C dx) ?_
  exact ⟨h, rfl, q⟩
end Nv
/-! Nv, part M: fractions in lowest terms; how long the search for a common divisor goes on. -/
namespace Nv
/-- the common divisor, with the sign of the bottom -/
def com (a b : Int) : Int := if b > 0 then ((Nat.gcd a.natAbs b.natAbs : Nat) : Int) else -((Nat.gcd a.natAbs b.natAbs : Nat) : Int)
theorem com_ne {a b : Int} (h : b ≠ 0) : com a b ≠ 0 := by
  have z : Nat.gcd a.natAbs b.natAbs ≠ 0 := fun e => h (Int.natAbs_eq_zero.mp (Nat.gcd_eq_zero_iff.mp e).2)
  unfold com
  split <;> omega
theorem com_le {a b : Int} (h : b ≠ 0) : (com a b).natAbs ≤ b.natAbs := by
  have z : Nat.gcd a.natAbs b.natAbs ≤ b.natAbs := Nat.gcd_le_right _ (Nat.pos_of_ne_zero fun e => h (Int.natAbs_eq_zero.mp e))
  unfold com
  split <;> omega
/-- t / b is n / d in lowest terms -/
structure RS (n d t b : Int) : Prop where
  pos : 0 < b
  cop : Nat.gcd t.natAbs b.natAbs = 1
  eq : t * d = n * b
  lt : t.natAbs ≤ n.natAbs
  lb : b.natAbs ≤ d.natAbs
theorem rs_com {a b : Int} (hb : b ≠ 0) : RS a b (a.fdiv (com a b)) (b.fdiv (com a b)) := by
  have cn := com_ne (a := a) hb
  obtain ⟨x, hx⟩ : ((Nat.gcd a.natAbs b.natAbs : Nat) : Int) ∣ a := Int.ofNat_dvd_left.mpr (Nat.gcd_dvd_left _ _)
  obtain ⟨y, hy⟩ : ((Nat.gcd a.natAbs b.natAbs : Nat) : Int) ∣ b := Int.ofNat_dvd_left.mpr (Nat.gcd_dvd_right _ _)
  generalize hg : Nat.gcd a.natAbs b.natAbs = g at hx hy
  have g0 : g ≠ 0 := fun e => hb (by rw [hy, e]; simp)
  have cop : Nat.gcd x.natAbs y.natAbs = 1 := by
    have e : Nat.gcd a.natAbs b.natAbs = g * Nat.gcd x.natAbs y.natAbs := by
      rw [hx, hy, Int.natAbs_mul, Int.natAbs_mul, Int.natAbs_natCast, Nat.gcd_mul_left]
    rw [hg] at e
    exact Nat.eq_of_mul_eq_mul_left (Nat.pos_of_ne_zero g0) (by rw [Nat.mul_one]; exact e.symm)
  have ax : a.natAbs = g * x.natAbs := by rw [hx, Int.natAbs_mul, Int.natAbs_natCast]
  have by' : b.natAbs = g * y.natAbs := by rw [hy, Int.natAbs_mul, Int.natAbs_natCast]
  have lx : x.natAbs ≤ a.natAbs := by rw [ax]; exact Nat.le_mul_of_pos_left _ (Nat.pos_of_ne_zero g0)
  have ly : y.natAbs ≤ b.natAbs := by rw [by']; exact Nat.le_mul_of_pos_left _ (Nat.pos_of_ne_zero g0)
  by_cases p : b > 0
  · have ec : com a b = (g : Int) := by unfold com; rw [if_pos p, hg]
    have e1 : a.fdiv (com a b) = x := by rw [ec]; rw (occs := [1]) [hx]; exact Int.mul_fdiv_cancel_left _ (by omega)
    have e2 : b.fdiv (com a b) = y := by rw [ec]; rw (occs := [1]) [hy]; exact Int.mul_fdiv_cancel_left _ (by omega)
    rw [e1, e2]
    have y0 : 0 < y := by
      rw [hy] at p
      exact Int.pos_of_mul_pos_right p (by omega)
    exact ⟨y0, cop, by rw [hx, hy]; grind, lx, ly⟩
  · have ec : com a b = -(g : Int) := by unfold com; rw [if_neg p, hg]
    have e1 : a.fdiv (com a b) = -x := by
      rw [ec, show a = (-(g : Int)) * (-x) by rw [hx]; grind]
      exact Int.mul_fdiv_cancel_left _ (by omega)
    have e2 : b.fdiv (com a b) = -y := by
      rw [ec, show b = (-(g : Int)) * (-y) by rw [hy]; grind]
      exact Int.mul_fdiv_cancel_left _ (by omega)
    rw [e1, e2]
    have y0 : 0 < -y := by
      have p' : 0 < (g : Int) * (-y) := by
        have : b < 0 := by omega
        rw [hy] at this
        grind
      exact Int.pos_of_mul_pos_right p' (by omega)
    exact ⟨y0, by rw [Int.natAbs_neg, Int.natAbs_neg]; exact cop, by rw [hx, hy]; grind, by rw [Int.natAbs_neg]; exact lx, by rw [Int.natAbs_neg]; exact ly⟩
theorem rs_of {n d t b : Int} (hd : d ≠ 0) (pos : 0 < b) (cop : Nat.gcd t.natAbs b.natAbs = 1) (eq : t * d = n * b) : RS n d t b := by
  have e : t.natAbs * d.natAbs = n.natAbs * b.natAbs := by rw [← Int.natAbs_mul, ← Int.natAbs_mul, eq]
  have d0 : 0 < d.natAbs := by omega
  have b0 : 0 < b.natAbs := by omega
  refine ⟨pos, cop, eq, ?_, ?_⟩
  · by_cases n0 : n.natAbs = 0
    · rw [n0, Nat.zero_mul] at e
      rcases Nat.mul_eq_zero.mp e with h | h <;> omega
    · refine Nat.le_of_dvd (by omega) (Nat.Coprime.dvd_of_dvd_mul_right (n := b.natAbs) cop ?_)
      exact ⟨d.natAbs, e.symm⟩
  · refine Nat.le_of_dvd d0 (Nat.Coprime.dvd_of_dvd_mul_left (m := t.natAbs) (Nat.Coprime.symm cop) ?_)
    exact ⟨n.natAbs, by rw [e, Nat.mul_comm]⟩
theorem bd_mul {a b : Int} {m n : Nat} (ha : a.natAbs < 2 ^ m) (hb : b.natAbs < 2 ^ n) : (a * b).natAbs < 2 ^ (m + n) := by
  rw [Int.natAbs_mul, Nat.pow_add]
  exact Nat.mul_lt_mul'' ha hb
theorem bd_add {a b : Int} {m : Nat} (ha : a.natAbs < 2 ^ m) (hb : b.natAbs < 2 ^ m) : (a + b).natAbs < 2 ^ (m + 1) := by
  have := Int.natAbs_add_le a b
  rw [Nat.pow_succ]
  omega
theorem bd_le {a : Nat} {m n : Nat} (h : a < 2 ^ m) (l : m ≤ n) : a < 2 ^ n := Nat.lt_of_lt_of_le h (Nat.pow_le_pow_right (by decide) l)

/-! ### Euclid's way in so many turns -/
def fibs : Nat → Nat × Nat
  | 0 => (0, 1)
  | n + 1 => ((fibs n).2, (fibs n).1 + (fibs n).2)
def fib (n : Nat) : Nat := (fibs n).1
theorem fib_add (n : Nat) : fib (n + 2) = fib n + fib (n + 1) := rfl
/-- k turns are enough from here -/
def Eu (k : Nat) (a b : Int) : Prop := b = 0 ∨ (b < a ∧ (b < fib (k + 1) ∨ a < fib (k + 2)))
theorem Eu.step {k : Nat} {a b : Int} (b0 : 0 < b) (h : Eu (k + 1) a b) : Eu k b (a % b) := by
  have r0 : 0 ≤ a % b := Int.emod_nonneg _ (by omega)
  have r1 : a % b < b := Int.emod_lt_of_pos _ b0
  rcases h with h | ⟨hl, h⟩
  · omega
  · refine Or.inr ⟨r1, ?_⟩
    by_cases c : b < fib (k + 2)
    · exact Or.inr c
    · refine Or.inl ?_
      rcases h with h | h
      · exact absurd h c
      · have e : fib (k + 3) = fib (k + 1) + fib (k + 2) := fib_add (k + 1)
        have q : a = b * (a / b) + a % b := by rw [Int.add_comm]; exact (Int.emod_add_mul_ediv a b).symm
        have q1 : 1 ≤ a / b := Int.le_ediv_of_mul_le b0 (by omega)
        have q2 : b ≤ b * (a / b) := by
          have := Int.mul_le_mul_of_nonneg_left q1 (Int.le_of_lt b0)
          omega
        have e' : (fib (k + 1 + 2) : Int) = fib (k + 1) + fib (k + 2) := by rw [show k + 1 + 2 = k + 3 from rfl, e]; omega
        omega
theorem Eu.zero {a b : Int} (b0 : 0 ≤ b) (h : Eu 0 a b) : b = 0 := by
  rcases h with h | ⟨hl, h⟩
  · exact h
  · have e1 : fib (0 + 1) = 1 := rfl
    have e2 : fib (0 + 2) = 1 := rfl
    rcases h with h | h <;> omega
theorem Eu.mono {k : Nat} {a b : Int} (h : b = 0) : Eu k a b := Or.inl h
end Nv
/-! Nv, part H: an own ==; a method by keyword alone; lists that grow beside the generator's state. -/
namespace Nv
open PySem PySem.Spec PyProof.Rows L2
section
variable {X : Cx} {CX : CXT} {k n : Nat} {f C : Addr} {fd : FuncData} {ps ks : List Str} {sp : Sp} {E : XK}
/-- a == y by the own method of a -/
def rEqO (K : PySem.W.Frag) (C : Addr) (sp : Sp) (E : XK) : R2 := fun x y H Q => ∃ a dx fs t, x = .ref a ∧ H a = some (.ins C dx fs) ∧ TyX K H y t ∧
  PySem.W.notFirst K C t = true ∧ sp [x, y] H Q E
theorem op_eqO (hs : PySem.W.findIn X.K (.ref C) "__eq__" = some (some (.ref f))) (hf : PySem.W.isFn X.K (.ref f) = true)
    (F : FnOk X.prog X.w X.K X.mg X.base CX k f fd ps sp) (hr : Room k X.A) (hb : Binds X.K fd ps []) (hx : Passes CX X E) :
    OpR X (compareOp .Eq) (rEqO X.K C sp E) := by
  intro pins s σ H x y v u Q I rx ry h
  obtain ⟨a, dx, fs, t, rfl, ha, ty, nf, q⟩ := h
  cases rx
  obtain ⟨mA, J, _⟩ := ins_get I.hok ha
  obtain ⟨od, J, _⟩ := J.look
  obtain ⟨m, hF⟩ := I.fr
  obtain ⟨Pz, Z, pz, _⟩ := kit_of I ry ty
  show wpAny (model X.prog X.w) X.A (richCompare .Eq (.ref a) u) (EP X pins σ Q) X.xe s
  exact PySem.W.cmp_K (op := .Eq) hr.units0 hF I.ok.mod.kin J (Z.ty _ _ I.kIn pz) nf hs hf
    (run_own (vs := [.ref a, y]) F hr hb hx I (.cons rfl (.cons ry .nil)) q)
variable {x m : Str} {p pos apos : Pos} {o : Expr} {kws : List Keyword} {ta : TE} {tk : TA} {g : List Value → List Value → List Value} {gV : List V → List V → List V}
/-- o.m(k = v, ..) -/
def tMethK (C : Addr) (m : Str) (nk : Nat) (sp : Sp) (gV : List V → List V → List V) (E : XK) (ta : TE) (tk : TA) : TE := fun σ H Q => ta σ H fun x H1 => ∃ a dx fs, x = .ref a ∧ H1 a = some (.ins C dx fs) ∧
  fs.lookup m = none ∧ tk σ H1 fun zs H2 => zs.length = nk ∧ sp (gV [x] zs) H2 Q E
theorem pe_methK0 {pl : Sem Bool} (he : PE X o ta) (c : Cls X.K C) (hm : Meth X.K C m f) (F : FnOk X.prog X.w X.K X.mg X.base CX k f fd ps sp) (hr : Room k X.A)
    (hb : KBn X.K fd ps 1 ks g gV) (hx : Passes CX X E) (hkw : PK X kws tk) (hall : (backToKw pos (keywordEach kws X.env)).all (·.1.isSome) = true := by rfl)
    (hks : (backToKw pos (keywordEach kws X.env)).filterMap (·.1) = ks := by rfl)
    (hpl : ((backTo pos (starEach [] X.env)).any (·.1) || (backToKw pos (keywordEach kws X.env)).any (·.1.isNone)) = false := by rfl)
    (ht : eval (.Call (.Attribute o m apos) [] kws pos) X.env = (do
      let ov ← eval o X.env
      standAt apos.atName
      let (f, first) ← holding [ov] (getMethod ov m pl)
      callWith pos f first (backTo pos (starEach [] X.env)) (backToKw pos (keywordEach kws X.env))) := by rfl) :
    PE X (.Call (.Attribute o m apos) [] kws pos) (tMethK C m ks.length sp gV E ta tk) := by
  refine ⟨fun pins s σ H Q I h => ?_⟩
  refine PySem.W.methodCall_KW (pl := pl) (thn (he.run pins s σ H _ I h) fun u s1 ⟨x, H1, I1, rx, a, dx, fs, ex, ea, l, q⟩ => ?_) ht
  subst ex
  obtain rfl : u = Value.ref a := rx
  refine getmeth_ok I1 ea c hm l ?_
  refine PySem.W.callWith_KW0 (first := [.ref a]) (h₀ := X.base) I.ok.mod.kin hm.kp hall ?_ hpl
  refine thn (hkw.run pos pins s1 σ H1 _ I1 q) fun ws s2 ⟨zs, H2, I2, rz, l2, q2⟩ => ⟨I2.kIn, ?_⟩
  rw [hks]
  exact run_fnN (us := [.ref a]) (vs := [.ref a]) F hr hb hx I2 (.cons rfl .nil) rz rfl l2 q2
end
theorem Dr.write {G : Hp} {st : Addr} {H : Hp} {q : Addr} {o o' : HO} (d : Dr (upd G q o) st H) : Dr (upd G q o') st (upd H q o') := by
  have ne : st ≠ q := fun e => by
    have z := d.free
    rw [e, upd_same] at z
    exact nomatch z
  obtain ⟨a, b, c, h⟩ := d.at_
  refine ⟨fun x u e => ?_, ?_, a, b, c, ?_⟩
  · by_cases hx : x = q
    · subst hx
      rw [upd_same] at e ⊢
      exact e
    · rw [upd_ne hx] at e ⊢
      exact d.same x u (by rw [upd_ne hx]; exact e)
  · have z := d.free
    rw [upd_ne ne] at z ⊢
    exact z
  · rw [upd_ne ne]
    exact h
/-- signs of fractions by those of the drawn numbers -/
theorem sgn {X Y D B : Int} (hB : 0 < B) (hD : D ≠ 0) (h : X * D = Y * B) :
    (X < 0 ↔ Y * (if D > 0 then 1 else -1) < 0) ∧ (X = 0 ↔ Y * (if D > 0 then 1 else -1) = 0) ∧ (0 < X ↔ 0 < Y * (if D > 0 then 1 else -1)) := by
  by_cases d : D > 0
  · rw [if_pos d]
    rcases Int.lt_trichotomy X 0 with x | x | x
    · have : X * D < 0 := Int.mul_neg_of_neg_of_pos x d
      have : Y < 0 := by
        apply Int.lt_of_not_ge
        intro z
        have := Int.mul_nonneg z (Int.le_of_lt hB)
        omega
      omega
    · subst x
      have : Y = 0 := by
        rw [Int.zero_mul] at h
        rcases Int.mul_eq_zero.mp h.symm with z | z <;> omega
      omega
    · have : 0 < X * D := Int.mul_pos x d
      have : 0 < Y := by
        apply Int.lt_of_not_ge
        intro z
        have := Int.mul_nonpos_of_nonpos_of_nonneg z (Int.le_of_lt hB)
        omega
      omega
  · rw [if_neg d]
    have dn : D < 0 := by omega
    rcases Int.lt_trichotomy X 0 with x | x | x
    · have : 0 < X * D := Int.mul_pos_of_neg_of_neg x dn
      have : 0 < Y := by
        apply Int.lt_of_not_ge
        intro z
        have := Int.mul_nonpos_of_nonpos_of_nonneg z (Int.le_of_lt hB)
        omega
      omega
    · subst x
      have : Y = 0 := by
        rw [Int.zero_mul] at h
        rcases Int.mul_eq_zero.mp h.symm with z | z <;> omega
      omega
    · have : X * D < 0 := Int.mul_neg_of_pos_of_neg x dn
      have : Y < 0 := by
        apply Int.lt_of_not_ge
        intro z
        have := Int.mul_nonneg z (Int.le_of_lt hB)
        omega
      omega
/-- fractions in lowest terms are equal if they are equal crosswise -/
theorem low_eq {t b t2 b2 : Int} (hb : 0 < b) (hb2 : 0 < b2) (c : Nat.gcd t.natAbs b.natAbs = 1) (c2 : Nat.gcd t2.natAbs b2.natAbs = 1) (h : t * b2 = t2 * b) : t = t2 ∧ b = b2 := by
  have e : t.natAbs * b2.natAbs = t2.natAbs * b.natAbs := by rw [← Int.natAbs_mul, ← Int.natAbs_mul, h]
  have d1 : b.natAbs ∣ b2.natAbs := Nat.Coprime.dvd_of_dvd_mul_left (m := t.natAbs) (Nat.Coprime.symm c) ⟨t2.natAbs, by rw [e, Nat.mul_comm]⟩
  have d2 : b2.natAbs ∣ b.natAbs := Nat.Coprime.dvd_of_dvd_mul_left (m := t2.natAbs) (Nat.Coprime.symm c2) ⟨t.natAbs, by rw [← e, Nat.mul_comm]⟩
  have eb : b.natAbs = b2.natAbs := Nat.dvd_antisymm d1 d2
  have eb' : b = b2 := by omega
  subst eb'
  exact ⟨Int.eq_of_mul_eq_mul_right (Int.ne_of_gt hb) h, rfl⟩
end Nv
/-! Nv, part G5: methods by keyword over data; promises that know that no repr is under way, over data. -/
namespace Nv
open PySem PySem.Spec PyProof.Rows L2
/-- the values at these places -/
def pick {α : Type} (ix : List Nat) (zs : List α) : List α := ix.filterMap fun i => zs[i]?
theorem Vals.pick {vs : List V} {us : List Value} (h : Vals vs us) (ix : List Nat) : Vals (pick ix vs) (pick ix us) := by
  induction ix with
  | nil => exact .nil
  | cons i ix ih =>
    have e1 : ∀ {α : Type} (zs : List α), Nv.pick (i :: ix) zs = (match zs[i]? with | some z => z :: Nv.pick ix zs | none => Nv.pick ix zs) := fun zs => by
      unfold Nv.pick
      rw [List.filterMap_cons]
      cases zs[i]? <;> rfl
    rw [e1, e1]
    cases ev : vs[i]? with
    | none =>
      have : us[i]? = none := by
        rw [List.getElem?_eq_none_iff] at ev ⊢
        rw [← h.length]
        exact ev
      rw [this]
      exact ih
    | some v =>
      obtain ⟨u, eu, r⟩ := h.get ev
      rw [eu]
      exact .cons r ih
theorem Args.pick {S : Addr → Prop} {G : Hp} {as : List Sl} {vs : List V} (h : Args S G as vs) (ix : List Nat) : Args S G (pick ix as) (pick ix vs) := by
  induction ix with
  | nil => exact .nil
  | cons i ix ih =>
    have e1 : ∀ {α : Type} (zs : List α), Nv.pick (i :: ix) zs = (match zs[i]? with | some z => z :: Nv.pick ix zs | none => Nv.pick ix zs) := fun zs => by
      unfold Nv.pick
      rw [List.filterMap_cons]
      cases zs[i]? <;> rfl
    rw [e1, e1]
    cases ev : as[i]? with
    | none =>
      have : vs[i]? = none := by
        rw [List.getElem?_eq_none_iff] at ev ⊢
        rw [← h.length]
        exact ev
      rw [this]
      exact ih
    | some v =>
      obtain ⟨u, eu, r⟩ := h.get ev
      rw [eu]
      exact .cons r ih
def gKw (ix : List Nat) : List V → List V → List V := fun vs zs => vs ++ pick ix zs
theorem fun_kbi {K : PySem.W.Frag} {x qual : Str} {st : Stmt} {f : Addr} {fd : FuncData} {ps ks : List Str} {n : Nat} (ix : List Nat) (F : Fun K x qual st f fd)
    (h : ∀ (kV doc pm : Value) (an : Option Addr) (cdv ct : Value) (us ws : List Value), us.length = n → ws.length = ks.length →
      bindArgs (PySem.W.fnOf x qual (defArgs st) (defBody st) (defScope st) .none kV doc pm an cdv ct) ⟨us, ks.zip ws⟩ = pure (ps.zip (us ++ pick ix ws))) :
    KBn K fd ps n ks (fun us ws => us ++ pick ix ws) (gKw ix) := by
  obtain ⟨oc, od, kV, doc, pm, an, cdv, ct, osl, rfl, lk, hcd⟩ := F.ex
  exact ⟨fun s us ws _ l1 l2 => .of_eq (h kV doc pm an cdv ct us ws l1 l2), fun r1 r2 => r1.append (Nv.Vals.pick r2 ix)⟩
/-- a method that is called by keywords alone -/
structure Dmk (P : Program) (w : World) (K : PySem.W.Frag) (mg : Str → Option Value) (base : Heap) (C : Addr) (m : Str) (CX : CXT) (k : Nat) (ps ks : List Str) (ix : List Nat) (sp : Sp) : Prop where
  ex : ∃ f fd g, FnOk P w K mg base CX k f fd ps sp ∧ Meth K C m f ∧ KBn K fd ps 1 ks g (gKw ix)
theorem DmX.kw {f : Addr} {fd : FuncData} {P : Program} {w : World} {K : PySem.W.Frag} {mg : Str → Option Value} {base : Heap} {C : Addr} {m : Str} {CX : CXT} {k : Nat} {ps ks : List Str} {ix : List Nat} {g : List Value → List Value → List Value} {sp : Sp} (d : DmX f fd P w K mg base C m CX k ps sp) (b : KBn K fd ps 1 ks g (gKw ix)) :
    Dmk P w K mg base C m CX k ps ks ix sp := ⟨f, fd, g, d.ok, d.h, b⟩
section
variable {X : Cx} {CX : CXT} {k : Nat} {C : Addr} {m : Str} {ps ks : List Str} {ix : List Nat} {sp : Sp} {E : XK} {p pos apos : Pos} {o : Expr} {kws : List Keyword} {t tk : TA} {ta : TE}
theorem pe_methDk {pl : Sem Bool} (he : PE X o ta) (c : Cls X.K C) (F : Dmk X.prog X.w X.K X.mg X.base C m CX k ps ks ix sp) (hr : Room k X.A) (hx : Passes CX X E) (hkw : PK X kws tk)
    (hall : (backToKw pos (keywordEach kws X.env)).all (·.1.isSome) = true := by rfl) (hks : (backToKw pos (keywordEach kws X.env)).filterMap (·.1) = ks := by rfl)
    (hpl : ((backTo pos (starEach [] X.env)).any (·.1) || (backToKw pos (keywordEach kws X.env)).any (·.1.isNone)) = false := by rfl)
    (ht : eval (.Call (.Attribute o m apos) [] kws pos) X.env = (do
      let ov ← eval o X.env
      standAt apos.atName
      let (f, first) ← holding [ov] (getMethod ov m pl)
      callWith pos f first (backTo pos (starEach [] X.env)) (backToKw pos (keywordEach kws X.env))) := by rfl) :
    PE X (.Call (.Attribute o m apos) [] kws pos) (tMethK C m ks.length sp (gKw ix) E ta tk) := by
  obtain ⟨f, fd, g, h1, h2, h3⟩ := F.ex
  exact pe_methK0 he c h2 h1 hr h3 hx hkw hall hks hpl ht
theorem pe_methD0 {pl : Sem Bool} (he : PE X o ta) (c : Cls X.K C) (F : Dm X.prog X.w X.K X.mg X.base C m CX k ps sp) (hr : Room k X.A) (hx : Passes CX X E)
    (ht : eval (.Call (.Attribute o m apos) [] [] pos) X.env = (do
      let ov ← eval o X.env
      standAt apos.atName
      let (f, first) ← holding [ov] (getMethod ov m pl)
      callWith pos f first (backTo pos (starEach [] X.env)) (backToKw pos (keywordEach [] X.env))) := by rfl) :
    PE X (.Call (.Attribute o m apos) [] [] pos) (tMeth C m sp [] E ta tNil) := by
  obtain ⟨f, fd, h1, h2, h3⟩ := F.ex
  exact pe_meth0 he c h2 h1 hr h3 .nil hx ht
end
section
variable {R : Rg} {δ : List Sl} {te ta tb tc : TE} {tr : TA} {φ : D → Prop} {K : PySem.W.Frag}
theorem wpe_methK {c : Spc} {n nk : Nat} {ix : List Nat} {E : XK} {C : Addr} {ns : List Str} {m : Str} (hm : ∀ y ∈ ns, (m == y) = false)
    (h : WpE R ta δ fun x => (∃ ds, x = .ins C ns ds) ∧ WpA R tr δ fun as => as.length = nk ∧ (pick ix as).length + 1 = n ∧ c.pre (.da x :: pick ix as) ∧ (∀ d, c.post (.da x :: pick ix as) d → φ d) ∧ ∀ C d, ¬ c.err (.da x :: pick ix as) C d) :
    WpE R (tMethK C m nk (spW c n) (gKw ix) E ta tr) δ φ := fun σ G H en rz Q k =>
  h σ G H en rz _ fun v x G1 H1 s1 e1 a1 ⟨⟨ds, ex⟩, h2⟩ => by
    subst ex
    have a1' := a1
    generalize hns : ns = ns' at a1
    cases a1 with
    | @ins p _ dx fs _ hp al =>
      refine ⟨p, dx, fs, rfl, e1.same _ _ hp, look_none (by rw [← hns]; exact hm), ?_⟩
      refine h2 σ G1 H1 e1 (rz.stepB (s1.toB en.old)) _ fun vs as G2 H2 s2 e2 a2 ⟨l0, l, pr, q, r⟩ => ⟨by rw [← a2.length]; exact l0, ?_⟩
      show spW c n (.ref p :: pick ix vs) H2 Q E
      exact ⟨R.T.S, G2, _, by rw [List.length_cons]; exact l, e2.same, e2.stt, .cons (show ArgR R.T.S G2 (.da (.ins C ns ds)) (.ref p) from a1'.same s2.gs) (a2.pick ix), pr, fun v d G' H' st sm so a pq => k v d G' H' ((s1.trans s2).trans st) (e2.step st (fun _ z => z) sm so) a (q d pq), fun C dd w d G' H' st hx a x => (r C d x).elim⟩
end
/-! ### no repr under way -/
/-- repr(v), v a list or a tuple of data without dicts -/
def rReprN (K : PySem.W.Frag) : List V → Hp → VK → Prop := fun vs H Q => ∃ (a : Addr) (d : PyData), vs = [.ref a] ∧ Dp K H (.ref a) d ∧
  d.hasDict = false ∧ d.showable = true ∧ d.depth ≤ 30 ∧ d.shown.length ≤ sizeLine ∧ Q (.str d.shown) H
theorem call_reprN {X : Cx} {k : Nat} (hr : Room k X.A) (gd : X.A.guards = some []) : CallR X (.builtin "repr") (rReprN X.K) := by
  intro pins s σ H vs us Q I r ⟨a, d, ev, dp, hd, sh, de, sz, q⟩
  subst ev
  obtain ⟨u, rfl, ru⟩ := vals1 r
  obtain ⟨as, rd⟩ := Dp.reads I d _ _ dp ru
  cases ru
  have un := hr.un
  exact repr_of_reads' rd sh (PyData.noDict_hsm hd) gd (by omega) (fun _ _ z => z) (fun h' u tk kp => ⟨.str d.shown, H, I.kept kp, ⟨u, rfl⟩, q⟩) sz
theorem call_reprNK {X : Cx} {K : PySem.W.Frag} {k : Nat} (h : X.K = K) (hr : Room k X.A) (gd : X.A.guards = some []) : CallR X (.builtin "repr") (rReprN K) := h ▸ call_reprN hr gd
/-- such a def keeps a promise -/
structure Dg (P : Program) (w : World) (K : PySem.W.Frag) (mg : Str → Option Value) (base : Heap) (x : Str) (CX : CXT) (k : Nat) (ps : List Str) (sp : Sp) : Prop where
  ex : ∃ f fd, FnG P w K mg base CX k f fd ps sp ∧ mg x = some (.ref f) ∧ PySem.W.keepIn K (.ref f) = true ∧ Binds K fd ps []
section
variable {X : Cx} {CX : CXT} {k : Nat} {ps : List Str} {sp : Sp} {E : XK} {x : Str} {p pos : Pos} {e : Expr} {es : List Expr} {t : TA}
theorem pe_callDg (F : Dg X.prog X.w X.K X.mg X.base x CX k ps sp) (hr : Room k X.A) (gd : X.A.guards = some []) (hg : Gl X x) (hx : Passes CX X E) (ha : PA X (e :: es) t)
    (hdb : (x == ("__debug__" : Str)) = false := by decide) (he : starEach (e :: es) X.env = (false, eval e X.env) :: starEach es X.env := by rfl) (hpl : (backTo pos (starEach es X.env)).any (·.1) = false := by rfl) :
    PE X (.Call (.Name x p) (e :: es) [] pos) (tCall sp [] E t) := by
  obtain ⟨f, fd, h1, h2, h3, h4⟩ := F.ex
  exact pe_callG h1 hr gd hg h2 h3 h4 .nil hx ha hdb he hpl
end
section
variable {P : Program} {w : World} {K : PySem.W.Frag} {mg : Str → Option Value} {base : Heap}
/-- the body of a def, where no repr is under way -/
theorem fnG_ok {x qual : Str} {st : Stmt} {N ps : List Str} {f : Addr} {fd : FuncData} {k : Nat} {sp : Sp} (F : Fun K x qual st f fd) (S : FnScope N ps (defScope st)) (len : ∀ vs H Q E, sp vs H Q E → vs.length = ps.length)
    (h : ∀ (cdv : Value) (A : Around) (outer : List Env) (s : Shared) (H : Hp) (vs : List V) (Q : VK) (E : XK), A.guards = some [] → Room k (A.deeper (envOfC qual (defScope st) s.heap.objs.size f cdv)) → sp vs H Q E →
      ∃ t, PSs (cxOf CX0 P w K mg base N qual (defScope st) f cdv A outer s H E).nox (defBody st) t ∧ t { nx := fun _ H' => Q .non H', rt := Q } (L2.start N vs) H) : FnG P w K mg base CX0 (k + 1) f fd ps sp :=
  FnG.mk_of F S len fun cdv A outer s H vs Q E gd hr q => (h cdv A outer s H vs Q E gd hr q).imp fun t z => ⟨z.1.nox, z.2⟩
theorem Fn.okG {x : Str} {st : Stmt} {N ps : List Str} {f : Addr} {fd : FuncData} {n k : Nat} {c : Spc} (F : Fn K mg x st ps f fd) (S : FnScope N ps (defScope st)) (hn : ps.length = n)
    (h : ∀ (cdv : Value) (A : Around) (outer : List Env) (s : Shared) (H : Hp) (E : XK) (as : List Sl), (A.deeper (envOfC x (defScope st) s.heap.objs.size f cdv)).guards = some [] → Room k (A.deeper (envOfC x (defScope st) s.heap.objs.size f cdv)) → c.pre as → as.length = n →
      ∃ t, PSs (cxOf CX0 P w K mg base N x (defScope st) f cdv A outer s H E).nox (defBody st) t ∧
        ∀ T : Tr, WpS ⟨E, c.err as, T⟩ t (as ++ List.replicate (N.length - n) .no) (fun _ => c.post as .non) (c.post as)) :
    Dg P w K mg base x CX0 (k + 1) ps (spW c n) := by
  refine ⟨f, fd, fnG_ok F.F S (fun vs H Q E h => ?_) (fun cdv A outer s H vs Q E gd hr q => ?_), F.m, F.F.kp, F.b⟩
  · obtain ⟨S, G, as, l, _, _, ar, _⟩ := h
    rw [← ar.length, l, hn]
  · obtain ⟨S, G, as, l, sm, so, ar, p, k, r⟩ := q
    obtain ⟨t, h1, h2⟩ := h cdv A outer s H E as gd hr p l
    exact ⟨t, h1, wps_run l sm so ar k r h2⟩
end
end Nv
/-! Nv, part H5: lists that a call just handed out are changed; str of a text; isinstance(.., list). -/
namespace Nv
open PySem PySem.Spec PyProof.Rows L2
def rStr1 : List V → Hp → VK → Prop := fun xs H Q => ∃ a, xs = [.str a] ∧ Q (.str a) H
theorem call_str1 {X : Cx} : CallR X (.type "str") rStr1 := SkE.call_str_str
theorem b_repr : bootBuiltins "repr" = some (.builtin "repr") := by decide +kernel
/-- no list, no dict within -/
inductive NoL : D → Prop
  | non : NoL .non
  | bl (b : Bool) : NoL (.bl b)
  | int (i : Int) : NoL (.int i)
  | str (x : Str) : NoL (.str x)
  | ty (T : String) : NoL (.ty T)
  | tup {ds : List D} : (∀ d ∈ ds, NoL d) → NoL (.tup ds)
  | ins {C : Addr} {ns : List Str} {ds : List D} : (∀ d ∈ ds, NoL d) → NoL (.ins C ns ds)
/-- the lists left out -/
def noLst (G : Hp) : Hp := fun a => match G a with
  | some (.lst _) => none
  | o => o
theorem noLst_of {G : Hp} {a : Addr} {u : HO} (e : G a = some u) (n : ∀ xs, u ≠ .lst xs) : noLst G a = some u := by
  unfold noLst
  rw [e]
  cases u <;> first | exact absurd rfl (n _) | rfl
theorem noLst_sub {G : Hp} {a : Addr} {u : HO} (e : noLst G a = some u) : G a = some u ∧ ∀ xs, u ≠ .lst xs := by
  unfold noLst at e
  cases q : G a with
  | none => rw [q] at e; exact nomatch e
  | some o =>
    rw [q] at e
    cases o <;> cases e <;> exact ⟨rfl, fun xs z => HO.noConfusion z⟩
theorem noLst_none {G : Hp} {a : Addr} (e : G a = none) : noLst G a = none := by unfold noLst; rw [e]
mutual
theorem At.noL {G : Hp} : ∀ {v : V} {d : D}, At G v d → NoL d → At (noLst G) v d
  | _, _, .non, _ => .non
  | _, _, .bl b, _ => .bl b
  | _, _, .int i, _ => .int i
  | _, _, .str x, _ => .str x
  | _, _, .ty x, _ => .ty x
  | _, _, .lst h t, n => by cases n
  | _, _, .tup h t, n => by
    cases n with
    | tup n =>
      refine .tup ?_ (AtAll.noL t n)
      rcases h with h | ⟨o, h⟩
      · exact .inl (noLst_of h fun xs z => nomatch z)
      · exact .inr ⟨o, noLst_of h fun xs z => nomatch z⟩
  | _, _, .dic h t, n => by cases n
  | _, _, .ins h t, n => by
    cases n with
    | ins n => exact .ins (noLst_of h fun xs z => nomatch z) (AtAll.noL t n)
theorem AtAll.noL {G : Hp} : ∀ {vs : List V} {ds : List D}, AtAll G vs ds → (∀ d ∈ ds, NoL d) → AtAll (noLst G) vs ds
  | _, _, .nil, _ => .nil
  | _, _, .cons a b, n => .cons (At.noL a (n _ (by simp))) (AtAll.noL b fun d hd => n d (by simp [hd]))
end
inductive NlS : Sl → Prop
  | no : NlS .no
  | fx (v : V) : NlS (.fx v)
  | st (a : Addr) : NlS (.st a)
  | da {d : D} : NoL d → NlS (.da d)
/-- such slots alone -/
def Nls (δ : List Sl) : Prop := ∀ (i : Nat) (s : Sl), δ[i]? = some s → NlS s
theorem nls_nil : Nls [] := fun i s e => by simp at e
theorem nls_cons {s : Sl} {δ : List Sl} (h : NlS s) (t : Nls δ) : Nls (s :: δ) := fun i s' e => by
  cases i with
  | zero =>
    obtain rfl : s = s' := by simpa using e
    exact h
  | succ i => exact t i s' (by simpa using e)
theorem Nls.no {δ : List Sl} (h : Nls δ) : (∀ (i : Nat) (a : Addr) (ds : List D), ¬ δ[i]? = some (.ow a ds)) ∧ ∀ (i : Nat) (a : Addr) (ds : List Int), ¬ δ[i]? = some (.od a ds) :=
  ⟨fun i a ds e => (by cases h i _ e), fun i a ds e => (by cases h i _ e)⟩
theorem Ens.noL {T : Tr} {G H : Hp} {δ : List Sl} {σ : L2.St} (en : Ens T G H δ σ) (n : Nls δ) : Ens T (noLst G) H δ σ := by
  refine ⟨fun b u e => en.same b u (noLst_sub e).1, en.len, fun i s e => ?_, fun a ha => ?_, en.old, en.inv, en.nd, en.nd2⟩
  · obtain ⟨o, e1, r⟩ := en.get i s e
    refine ⟨o, e1, ?_⟩
    cases s with
    | no => trivial
    | fx v => exact r
    | st a => exact r
    | da d =>
      obtain ⟨v, e2, a⟩ := r
      cases n i _ e with
      | da q => exact ⟨v, e2, a.noL q⟩
    | fz _ _ => cases n i _ e
    | ow _ _ => cases n i _ e
    | od _ _ => cases n i _ e
  · obtain ⟨g, r⟩ := en.stt a ha
    exact ⟨noLst_none g, r⟩
/-- a list that was made in the run and that nobody else knows -/
def WpF (R : Rg) (te : TE) (δ : List Sl) : Prop := ∀ σ G H, Ens R.T G H δ σ → ∀ Q : VK,
  (∀ a xs H', Stp R.T.S G H G H' → Ens R.T G H' δ σ → H a = none → H' a = some (.lst xs) → xs.length ≤ 100000 → Q (.ref a) H') → te σ H Q
theorem wpf_of {E : XK} {T : Tr} {te : TE} {δ : List Sl} (n : Nls δ) (h : WpE ⟨E, fun _ _ => False, T⟩ te δ fun d => ∃ ds, d = .lst ds ∧ ds.length ≤ 100000) : WpF ⟨E, fun _ _ => False, T⟩ te δ := fun σ G H en Q k => by
  refine h σ (noLst G) H (en.noL n) rz0 _ fun v d G' H' st en' at' ⟨ds, e, l⟩ => ?_
  subst e
  obtain ⟨a, xs, rfl, ga, al⟩ := at_lst at'
  have g0 : noLst G a = none := by
    cases q : noLst G a with
    | none => rfl
    | some u =>
      have := st.gs _ _ q
      rw [ga] at this
      exact absurd (Option.some.inj this).symm ((noLst_sub q).2 xs)
  have h0 : H a = none := by
    cases q : H a with
    | none => rfl
    | some u =>
      have := st.gn a g0 (by rw [q]; exact fun z => nomatch z)
      rw [ga] at this
      exact nomatch this
  have s2 : Stp T.S G H G H' := ⟨.refl _, st.hs, st.al, fun b e _ => e⟩
  have so : StO T.S G H' := fun b hb => ⟨(en.stt b hb).1, (en'.stt b hb).2⟩
  have sm : Same G H' := fun b u e => st.hs b u (en.same b u e) fun z => by
    have := (en.stt b z).1
    rw [e] at this
    exact nomatch this
  exact k a xs H' s2 (en.step s2 (fun _ z => z) sm so) h0 (en'.same _ _ ga) (by rw [al.length]; exact l)
section
variable {R : Rg} {δ : List Sl} {te ta tb tc : TE} {tr : TA} {φ : D → Prop} {K : PySem.W.Frag} {Φ : List Sl → Prop} {Ψ : D → Prop}
def IsF (H H' : Hp) (a : Addr) : Prop := H a = none ∧ ∃ xs, H' a = some (.lst xs) ∧ xs.length ≤ 100001
def WpFs (R : Rg) (tr : TA) (δ : List Sl) (n : Nat) : Prop := ∀ σ G H, Ens R.T G H δ σ → ∀ Q : List V → Hp → Prop,
  (∀ (as : List Addr) H', as.length = n → Stp R.T.S G H G H' → Ens R.T G H' δ σ → (∀ a ∈ as, IsF H H' a) → Q (as.map V.ref) H') → tr σ H Q
theorem wpfs_nil : WpFs R tNil δ 0 := fun σ G H en Q k => k [] H rfl .refl en (by simp)
theorem wpfs_cons {n : Nat} (h1 : WpF R te δ) (h2 : WpFs R tr δ n) : WpFs R (tCons te tr) δ (n + 1) := fun σ G H en Q k =>
  h1 σ G H en _ fun a xs H1 s1 e1 n1 ha l => h2 σ G H1 e1 _ fun as H2 la s2 e2 ms => by
    refine k (a :: as) H2 (by rw [List.length_cons, la]) (s1.trans s2) e2 fun b hb => ?_
    rcases List.mem_cons.mp hb with rfl | hb
    · have nS : ¬ R.T.S b := fun z => by
        obtain ⟨_, x, y, w, e⟩ := en.stt b z
        rw [n1] at e
        exact nomatch e
      exact ⟨n1, xs, s2.hs _ _ ha nS, by omega⟩
    · obtain ⟨q1, q2⟩ := ms b hb
      refine ⟨?_, q2⟩
      cases q : H b with
      | none => rfl
      | some u => exact absurd q1 (s1.al b (by rw [q]; exact fun z => nomatch z))
/-- for i in [e, ..]: i.append(..); i.reverse() -/
theorem wps_spoil {i n : Nat} {z : V} (nl : Nls δ) (e0 : δ[i]? = some .no) (ln : n ≤ 100) (h : WpFs R tr δ n) (q : Φ δ) :
    WpS R (tFor (iSeq K (tLst tr)) (gName i) (tSeq (tDrop (tBM K "list" rAppend (tVar i) (tCons (tC z) tNil))) (tDrop (tBM0 K "list" rReverse (tVar i))))) δ Φ Ψ := fun σ G H en rz Z k1 k2 => by
  have dset : δ.set i .no = δ := by
    refine List.ext_getElem? fun j => ?_
    by_cases e : i = j
    · subst e
      obtain ⟨l, e⟩ := List.getElem?_eq_some_iff.mp e0
      rw [List.getElem?_set_self l, e0]
    · rw [List.getElem?_set_ne e]
  refine h σ G H en _ fun as H1 la s1 e1 ms => ⟨by rw [List.length_map, la]; exact Nat.le_trans ln (by decide), fun p hp => ?_⟩
  have fp : H p = none := by
    cases q : H p with
    | none => rfl
    | some u => exact absurd hp (s1.al p (by rw [q]; exact fun z => nomatch z))
  have free : ∀ {b : Addr}, H b = none → G b = none ∧ ¬ R.T.S b ∧ ¬ R.T.O b := fun {b} hb => ⟨en.same.free hb, ⟨(fun z => by
    obtain ⟨_, x, y, w, e⟩ := en.stt b z
    rw [hb] at e
    exact nomatch e), (fun z => en.old b z hb)⟩⟩
  have np : ∀ a ∈ as, a ≠ p := fun a ha z => by
    obtain ⟨_, xs, e, _⟩ := ms a ha
    rw [z, hp] at e
    exact nomatch e
  let I : Nat → Hp → L2.St → Prop := fun j H' σ' => StB R.T.O R.T.S G H G H' ∧ Ens R.T G H' δ σ' ∧ H' p = some (.lst (as.map V.ref)) ∧
    ∀ (k : Nat) (a : Addr), as[k]? = some a → ∃ xs, H' a = some (.lst xs) ∧ xs.length ≤ 100001 + j
  refine ⟨p, rfl, .inl ⟨⟨_, .inl (.inl upd_same)⟩, fun j m σ' H' => m = as.length - j ∧ j ≤ as.length ∧ I j H' σ', ⟨_, rfl, Nat.zero_le _, ?_⟩, ?_⟩⟩
  · have s2 : Stp R.T.S G H1 G (upd H1 p (.lst (as.map V.ref))) := Stp.grow (same_upd hp)
    refine ⟨(s1.trans s2).toB en.old, e1.grow (same_upd hp), upd_same, fun k a ek => ?_⟩
    obtain ⟨_, xs, e, l⟩ := ms a (List.mem_of_getElem? ek)
    exact ⟨xs, by rw [upd_ne (np a (List.mem_of_getElem? ek))]; exact e, l⟩
  rintro j m σ' H' ⟨rfl, hj, sB, en', hpp, each⟩
  have sq : SqL K H' p (as.map V.ref) := .inl (.inl hpp)
  by_cases lt : j < as.length
  · have ej : as[j]? = some as[j] := List.getElem?_eq_getElem lt
    generalize as[j] = a at ej
    have em : (as.map V.ref)[j]? = some (.ref a) := by rw [List.getElem?_map, ej]; rfl
    refine .inr ⟨⟨_, _, sq, em⟩, fun σ2 H2 => I (j + 1) H2 σ2, fun σ2 H2 z => ⟨as.length - (j + 1), by omega, rfl, lt, z⟩, ?_⟩
    rintro x H2 ⟨eH, y⟩
    obtain rfl : H' = H2 := eH.symm
    have y := y _ sq
    rw [em] at y
    obtain rfl := Option.some.inj y
    obtain ⟨xs, hx, lx⟩ := each j a ej
    have fa := free (ms a (List.mem_of_getElem? ej)).1
    have li : i < σ'.length := by
      rw [← en'.len]
      exact (List.getElem?_eq_some_iff.mp e0).1
    have e3 : Ens R.T G H' δ (σ'.set i (some (.ref a))) := by
      have := en'.forget (i := i) (o := some (.ref a))
      rwa [dset] at this
    have ev : (σ'.set i (some (V.ref a)))[i]? = some (some (.ref a)) := List.getElem?_set_self li
    have lj : xs.length < sizeLine := by
      refine Nat.lt_of_le_of_lt lx (Nat.lt_of_le_of_lt (m := 100201) (by omega) (by decide))
    refine ⟨_, ev, .inl ⟨rfl, xs, .inl (.inl hx)⟩, ?_⟩
    refine ⟨a, xs, z, rfl, rfl, hx, lj, ?_⟩
    refine ⟨_, ev, .inl ⟨rfl, _, .inl (.inl upd_same)⟩, a, _, rfl, rfl, upd_same, ?_⟩
    have uu : upd (upd H' a (.lst (xs ++ [z]))) a (.lst (xs ++ [z]).reverse) = upd H' a (.lst (xs ++ [z]).reverse) := by
      funext b
      by_cases q : b = a
      · rw [q, upd_same, upd_same]
      · rw [upd_ne q, upd_ne q, upd_ne q]
    rw [uu]
    refine ⟨⟨sB.gs, fun b u o e n => ?_, fun b e => ?_, sB.gn⟩, e3.side fa.1 fa.2.1 fa.2.2 nl.no.1 nl.no.2, ?_, fun k b ek => ?_⟩
    · rw [upd_ne (fun q => fa.2.2 (by rw [← q]; exact o))]
      exact sB.hs b u o e n
    · by_cases q : b = a
      · rw [q, upd_same]; exact fun q => nomatch q
      · rw [upd_ne q]; exact sB.al b e
    · rw [upd_ne (fun q => np a (List.mem_of_getElem? ej) q.symm)]
      exact hpp
    · by_cases q : b = a
      · rw [q, upd_same]
        exact ⟨_, rfl, by rw [List.length_reverse, List.length_append]; exact (by show xs.length + 1 ≤ _; omega)⟩
      · rw [upd_ne q]
        obtain ⟨ys, h1, h2⟩ := each k b ek
        exact ⟨ys, h1, by omega⟩
  · obtain rfl : j = as.length := by omega
    exact .inl ⟨⟨_, sq, by rw [List.length_map]; exact Nat.le_refl _⟩, k1 _ _ G H' sB en' q⟩
/-- e.append(..), e's list just handed out -/
theorem wps_appF (nl : Nls δ) (h : WpF R ta δ) (hb : WpE R te δ fun _ => True) (rz : ∀ G H, Rz R G H) (q : Φ δ) : WpS R (tDrop (tBM K "list" rAppend ta (tCons te tNil))) δ Φ Ψ := fun σ G H en _ Z k1 k2 =>
  h σ G H en _ fun a xs H1 s1 e1 n1 ha l => by
    refine ⟨.inl ⟨rfl, xs, .inl (.inl ha)⟩, hb σ G H1 e1 (rz _ _) _ fun v d G2 H2 s2 e2 a2 _ => ?_⟩
    have fa : G a = none ∧ ¬ R.T.S a ∧ ¬ R.T.O a := ⟨en.same.free n1, ⟨(fun z => by
      obtain ⟨_, x, y, w, e⟩ := en.stt a z
      rw [n1] at e
      exact nomatch e), (fun z => en.old a z n1)⟩⟩
    have h2 : H2 a = some (.lst xs) := s2.hs _ _ ha fa.2.1
    have g2 : G2 a = none := s2.gn a fa.1 (by rw [ha]; exact fun z => nomatch z)
    refine ⟨a, xs, v, rfl, rfl, h2, Nat.lt_of_le_of_lt l (by decide), ?_⟩
    have st := s1.trans s2
    refine k1 δ σ G2 _ ⟨st.gs, fun b u o e n => ?_, fun b e => ?_, fun b o e => st.gn b e (en.old b o)⟩ (e2.side g2 fa.2.1 fa.2.2 nl.no.1 nl.no.2) q
    · rw [upd_ne (fun q => fa.2.2 (by rw [← q]; exact o))]
      exact st.hs b u e n
    · by_cases q : b = a
      · rw [q, upd_same]; exact fun q => nomatch q
      · rw [upd_ne q]; exact st.al b e
theorem cbd_str1 {x : Str} (q : φ (.str x)) : CbD rStr1 [.str x] φ := fun G H vs s a Q k => by
  cases a with
  | cons a t =>
    cases t
    cases a
    exact ⟨x, rfl, k _ _ G H .refl s (.str _) q⟩
theorem cbd_isL {ds : List D} (q : φ (.bl true)) : CbD (rIsi K) [.lst ds, .ty "list"] φ := fun G H vs s a Q k => by
  cases a with
  | cons a t => cases t with
    | cons b t =>
      cases t
      cases b
      obtain ⟨p, xs, rfl, h, al⟩ := at_lst a
      exact ⟨_, _, _, _, _, rfl, .ty _, .base (.lst (s _ _ h)), kit_ty (show kitB "list" "list" = some true by decide +kernel), k _ _ G H .refl s (.bl _) q⟩
end
end Nv
/-! Nv, part R5: the generator's state within the law; loops over triples; texts in an own list. -/
namespace Nv
open PySem PySem.Spec PyProof.Rows L2
section
variable {R : Rg} {δ : List Sl} {te ta tb : TE} {Φ : List Sl → Prop} {Ψ : D → Prop} {K : PySem.W.Frag} {u : TS}
theorem Ens.fresh5 {T : Tr} {G H : Hp} {δ : List Sl} {σ : L2.St} (en : Ens T G H δ σ) {p : Addr} (hp : H p = none) : G p = none ∧ ¬ T.S p ∧ ¬ T.O p :=
  ⟨en.same.free hp, (fun z => by
    obtain ⟨_, x, y, w, e⟩ := en.stt p z
    rw [hp] at e
    exact nomatch e), (fun z => en.old p z hp)⟩
def dropSt : Sl → Sl
  | .st _ => .no
  | s => s
def Tr.add (T : Tr) (p : Addr) : Tr := { T with S := fun b => T.S b ∨ b = p }
theorem map_get {δ : List Sl} {i : Nat} {s : Sl} (h : (δ.map dropSt)[i]? = some s) : ∃ s', δ[i]? = some s' ∧ s = dropSt s' := by
  rw [List.getElem?_map] at h
  obtain ⟨s', h1, h2⟩ := Option.map_eq_some_iff.mp h
  exact ⟨s', h1, h2.symm⟩
theorem drop_ow {s : Sl} {a : Addr} {ds : List D} (h : Sl.ow a ds = dropSt s) : s = .ow a ds := by
  cases s <;> first | exact h.symm | cases h
theorem drop_od {s : Sl} {a : Addr} {ds : List Int} (h : Sl.od a ds = dropSt s) : s = .od a ds := by
  cases s <;> first | exact h.symm | cases h
theorem Ens.narrow {T : Tr} {p : Addr} {G H : Hp} {δ : List Sl} {σ : L2.St} (en : Ens (T.add p) G H δ σ) : Ens T G H (δ.map dropSt) σ := by
  refine ⟨en.same, by rw [List.length_map]; exact en.len, fun i s e => ?_, fun b hb => en.stt b (.inl hb), en.old, fun b u q => ?_, fun i j a ds es e1 e2 => ?_, fun i j a ds es e1 e2 => ?_⟩
  · obtain ⟨s', e', rfl⟩ := map_get e
    obtain ⟨o, e1, r⟩ := en.get i s' e'
    refine ⟨o, e1, ?_⟩
    cases s' with
    | no => trivial
    | fx v => exact r
    | da d => exact r
    | fz _ _ => exact r
    | st a => trivial
    | ow a ds => exact ⟨r.1, ⟨fun z => r.2.1.1 (.inl z), r.2.1.2⟩, r.2.2⟩
    | od a ds => exact ⟨r.1, ⟨fun z => r.2.1.1 (.inl z), r.2.1.2⟩, r.2.2⟩
  · obtain ⟨h1, h2, h3⟩ := en.inv b u q
    exact ⟨h1, fun z => h2 (.inl z), h3⟩
  · obtain ⟨s1, h1, q1⟩ := map_get e1
    obtain ⟨s2, h2, q2⟩ := map_get e2
    rw [drop_ow q1] at h1
    rw [drop_ow q2] at h2
    exact en.nd i j a ds es h1 h2
  · obtain ⟨s1, h1, q1⟩ := map_get e1
    obtain ⟨s2, h2, q2⟩ := map_get e2
    rw [drop_od q1] at h1
    rw [drop_od q2] at h2
    exact en.nd2 i j a ds es h1 h2
theorem StB.narrow {T : Tr} {p : Addr} {G H G' H' : Hp} (hp : ¬ T.O p) (s : StB (T.add p).O (T.add p).S G H G' H') : StB T.O T.S G H G' H' :=
  ⟨s.gs, fun b u o e n => s.hs b u o e fun z => by
    rcases z with z | z
    · exact n z
    · exact hp (by rw [← z]; exact o), s.al, s.gn⟩
theorem Ens.newSt {T : Tr} {G H : Hp} {δ : List Sl} {σ : L2.St} (en : Ens T G H δ σ) {i : Nat} {p : Addr} {x y z : Int} (hp : H p = none) :
    Ens (T.add p) G (upd H p (.lst [.int x, .int y, .int z])) (δ.set i (.st p)) (σ.set i (some (.ref p))) := by
  have e1 := en.grow (same_upd (o := .lst [.int x, .int y, .int z]) hp)
  have fp := en.fresh5 hp
  refine ⟨e1.same, by rw [List.length_set, List.length_set]; exact e1.len, fun j s e => ?_, fun b hb => ?_, e1.old, fun b u q => ?_, fun j k a ds es q1 q2 => ?_, fun j k a ds es q1 q2 => ?_⟩
  · rcases get_set e with ⟨rfl, rfl⟩ | ⟨ne, e⟩
    · have lt : j < σ.length := by
        rw [← e1.len]
        have := (List.getElem?_eq_some_iff.mp e).1
        rw [List.length_set] at this
        exact this
      exact ⟨some (.ref p), List.getElem?_set_self lt, rfl, .inr rfl⟩
    · obtain ⟨o, e2, r⟩ := en.get j s e
      obtain ⟨o', e2', r'⟩ := e1.get j s e
      rw [e2] at e2'
      obtain rfl := Option.some.inj e2'
      refine ⟨o, by rw [List.getElem?_set_ne (fun z => ne z.symm)]; exact e2, ?_⟩
      cases s with
      | no => trivial
      | fx v => exact r'
      | da d => exact r'
      | fz _ _ => exact r'
      | st a => exact ⟨r'.1, .inl r'.2⟩
      | ow a ds =>
        refine ⟨r'.1, ⟨fun z => ?_, r'.2.1.2⟩, r'.2.2⟩
        rcases z with z | z
        · exact r'.2.1.1 z
        · obtain ⟨_, _, _, xs, h1, _⟩ := r
          rw [z, hp] at h1
          exact nomatch h1
      | od a ds =>
        refine ⟨r'.1, ⟨fun z => ?_, r'.2.1.2⟩, r'.2.2⟩
        rcases z with z | z
        · exact r'.2.1.1 z
        · obtain ⟨_, _, _, h1⟩ := r
          rw [z, hp] at h1
          exact nomatch h1
  · rcases hb with hb | rfl
    · exact e1.stt b hb
    · exact ⟨fp.1, _, _, _, upd_same⟩
  · obtain ⟨h1, h2, h3⟩ := e1.inv b u q
    refine ⟨h1, fun z => ?_, h3⟩
    rcases z with z | z
    · exact h2 z
    · exact fp.2.2 (by rw [← z]; exact h3)
  · rcases get_set q1 with ⟨_, z⟩ | ⟨_, m1⟩
    · exact nomatch z
    · rcases get_set q2 with ⟨_, z⟩ | ⟨_, m2⟩
      · exact nomatch z
      · exact e1.nd j k a ds es m1 m2
  · rcases get_set q1 with ⟨_, z⟩ | ⟨_, m1⟩
    · exact nomatch z
    · rcases get_set q2 with ⟨_, z⟩ | ⟨_, m2⟩
      · exact nomatch z
      · exact e1.nd2 j k a ds es m1 m2
theorem wps_state {i : Nat} {E : XK} (h : WpE R te δ fun d => (∃ n, d = .int n) ∧ ∀ p, ¬ R.T.O p → WpS ⟨R.E, R.X, R.T.add p⟩ u (δ.set i (.st p)) (fun δ' => Φ (δ'.map dropSt)) Ψ) :
    WpS R (tSeq (tAsg (tCall spSta [] E (tCons te tNil)) (gName i)) u) δ Φ Ψ := fun σ G H en rz Z k1 k2 => by
  refine h σ G H en rz _ fun v d G1 H1 s1 e1 a1 ⟨⟨n, en1⟩, h2⟩ => ?_
  subst en1
  cases a1
  refine ⟨n, rfl, fun p x y z hp => ?_⟩
  have e2 := e1.newSt (i := i) (x := x) (y := y) (z := z) hp
  have fp := e1.fresh5 hp
  have sB : StB R.T.O R.T.S G H G1 (upd H1 p (.lst [.int x, .int y, .int z])) := (s1.toB en.old).trans ((Stp.grow (S := R.T.S) (same_upd hp)).toB e1.old)
  refine h2 p fp.2.2 _ G1 _ e2 (fun C dd w d G' H' sB' hx a xx sm so => ?_) Z (fun δ' σ' G' H' sB' e' q => ?_) (fun v d G' H' sB' sm so a q => ?_)
  · exact rz C dd w d G' H' (sB.trans (StB.narrow fp.2.2 sB')) hx a xx sm fun b hb => so b (.inl hb)
  · exact k1 _ σ' G' H' (sB.trans (StB.narrow fp.2.2 sB')) e'.narrow q
  · exact k2 v d G' H' (sB.trans (StB.narrow fp.2.2 sB')) sm (fun b hb => so b (.inl hb)) a q
theorem sq_inv {H H' : Hp} {a : Addr} {xs : List V} (h : ∀ u, H a = some u → H' a = some u) (q : SqL K H a xs) : SqL K H' a xs := by
  rcases q with (q | ⟨o, q⟩) | q
  · exact .inl (.inl (h _ q))
  · exact .inl (.inr ⟨o, h _ q⟩)
  · exact .inr q
theorem wpe_cell {a : Addr} {ns : List Int} {φ : D → Prop} {E : XK} (e0 : δ[0]? = some (.fx (.ref a))) (sq : ∀ H, (∀ u, R.T.F a u → H a = some u) → SqL K H a (ns.map V.int)) (h : WpE R te δ fun y => (∃ j : Nat, y = .int j) ∧ ∀ n, φ (.int n)) :
    WpE R (tCall (spCel K) [] E (tCons (tVar 0) (tCons te tNil))) δ φ := fun σ G H en rz Q k => by
  obtain ⟨o, e1, rfl⟩ := en.get 0 _ e0
  refine ⟨_, e1, h σ G H en rz _ fun v y G1 H1 s1 en1 a1 ⟨⟨j, ej⟩, q⟩ => ?_⟩
  subst ej
  cases a1
  exact ⟨a, ns, j, rfl, sq H1 fun u hu => (en1.inv a u hu).1, k _ _ G1 H1 s1 en1 (.int _) (q _)⟩
theorem ens_law {H : Hp} {a : Addr} {n : Nat} : Ens ⟨fun b => H b ≠ none, fun _ => False, fun b u => b = a ∧ H b = some u⟩ (fun _ => none) H (.fx (.ref a) :: List.replicate n .no) (some (.ref a) :: List.replicate n none) := by
  refine ⟨(fun b u e => nomatch e), by rw [List.length_cons, List.length_cons, List.length_replicate, List.length_replicate], fun i s e => ?_, (fun b z => z.elim), (fun b h => h), (fun b u ⟨h1, h2⟩ => ⟨h2, (fun z => z), by show H b ≠ none; rw [h2]; exact fun z => nomatch z⟩), fun i j b ds es e => ?_, fun i j b ds es e => ?_⟩
  · match i, e with
    | 0, e =>
      obtain rfl : Sl.fx (.ref a) = s := by simpa using e
      exact ⟨_, rfl, rfl⟩
    | i + 1, e =>
      have e : (List.replicate n Sl.no)[i]? = some s := by simpa using e
      obtain rfl := replicate_get e
      have lt := (List.getElem?_eq_some_iff.mp e).1
      rw [List.length_replicate] at lt
      exact ⟨none, by rw [List.getElem?_cons_succ, List.getElem?_replicate, if_pos lt], trivial⟩
  · match i, e with
    | 0, e => simp at e
    | i + 1, e => exact absurd (replicate_get (show (List.replicate n Sl.no)[i]? = some (Sl.ow b ds) by simpa using e)) (fun h => nomatch h)
  · match i, e with
    | 0, e => simp at e
    | i + 1, e => exact absurd (replicate_get (show (List.replicate n Sl.no)[i]? = some (Sl.od b ds) by simpa using e)) (fun h => nomatch h)
def spLaw (K : PySem.W.Frag) : Sp := fun vs H Q _ => ∃ (a : Addr) (ns : List Int), vs = [.ref a] ∧ ns.length ≤ 63 ∧ SqL K H a (ns.map V.int) ∧ ∀ H', Q (.bl true) H'

theorem wpg_tri {i j l : Nat} {d : D} {φ : List Sl → Prop} (q : ∃ x y z, d = .tup [x, y, z] ∧ φ (((δ.set i (.da x)).set j (.da y)).set l (.da z))) :
    WpG R (gTup K 3 (gCons (gName i) (gCons (gName j) (gCons (gName l) gNil)))) d δ [i, j, l] φ := fun σ G H v en a Q k => by
  obtain ⟨x, y, z, rfl, q⟩ := q
  cases a with
  | tup h t =>
    cases t with
    | cons a1 t =>
      cases t with
      | cons a2 t =>
        cases t with
        | cons a3 t =>
          cases t
          refine ⟨_, _, rfl, .inl (rdS en.same h), rfl, _, _, rfl, _, _, rfl, _, _, rfl, rfl, ?_⟩
          exact k _ _ (((en.setD a1).setD a2).setD a3) (fun m hl => by rw [List.getElem?_set_ne (fun z => hl (by simp [z])), List.getElem?_set_ne (fun z => hl (by simp [z])), List.getElem?_set_ne (fun z => hl (by simp [z]))]) (by rw [List.length_set, List.length_set, List.length_set]) q
/-- x in y, y an own list of texts -/
theorem wpe_inOT {φ : D → Prop} {neg : Bool} {i : Nat} {p : Addr} {zs : List Str} (e : δ[i]? = some (.ow p (zs.map D.str))) (h : WpE R ta δ fun j => ∃ n : Str, j = .str n ∧ φ (.bl (if neg then !decide (n ∈ zs) else decide (n ∈ zs)))) :
    WpE R (tOp (rIn K neg) ta (tVar i)) δ φ := fun σ G H en rz Q k =>
  h σ G H en rz _ fun w j G2 H2 s2 en2 a2 ⟨n, ej, q⟩ => by
    subst ej
    cases a2
    obtain ⟨o, e1, rfl, nS, nG, xs, hx, al⟩ := en2.get i _ e
    obtain rfl := strs_atAll al
    have fl : (zs.map V.str).all flatV = true := by
      rw [List.all_map]
      exact List.all_eq_true.mpr fun _ _ => rfl
    refine ⟨_, e1, p, _, rfl, .inl (.inl (.inl hx)), rfl, fl, ?_⟩
    rw [inV_strs]
    exact k _ _ G2 H2 s2 en2 (.bl _) q
end
end Nv
namespace Nv
open PySem PySem.Spec PyProof.Rows L2
def top (i : Nat) : Stmt := PySem.Challenge.pw_neverowing_k05_what_worlds_tell.main.body.getD i (.Pass ⟨0, 0, 0, 0⟩)
/-! ### what the defs of kinds.py and worlds.py say of data -/
def intOf : D → Int
  | .int n => n
  | _ => 0
def isInt : D → Bool
  | .int _ => true
  | _ => false
def isNat : D → Bool
  | .int i => decide (i ≥ 0)
  | _ => false
def isIdx (n : Int) : D → Bool
  | .int i => decide (0 ≤ i) && decide (i < n)
  | _ => false
def letters : Str := "abcdefghijklmnopqrstuvwxyz"
def isName : D → Bool
  | .str x => decide (1 ≤ (x.length : Int)) && decide ((x.length : Int) ≤ 12) && x.cps.toList.all fun c => decide (c ∈ letters.cps.toList)
  | _ => false
mutual
/-- texts and lists within bounds, no instances -/
def okD : D → Bool
  | .str x => decide (x.length ≤ 1000)
  | .lst ds => decide (ds.length ≤ 1000) && okAll ds
  | .tup ds => decide (ds.length ≤ 1000) && okAll ds
  | .dic _ ds => okAll ds
  | .ins _ _ _ => false
  | .ty _ => false
  | .non => true
  | .bl _ => true
  | .int _ => true
def okAll : List D → Bool
  | [] => true
  | d :: ds => okD d && okAll ds
end
theorem okAll_mem : ∀ {ds : List D}, okAll ds = true → ∀ d ∈ ds, okD d = true
  | d :: ds, h, e, m => by
    unfold okAll at h
    rw [Bool.and_eq_true] at h
    rcases List.mem_cons.mp m with rfl | m
    · exact h.1
    · exact okAll_mem h.2 e m
theorem okAll_of : ∀ {ds : List D}, (∀ d ∈ ds, okD d = true) → okAll ds = true
  | [], _ => rfl
  | d :: ds, h => by
    unfold okAll
    rw [h d (by simp), okAll_of fun e m => h e (by simp [m])]
    rfl
theorem ok_tup {ds : List D} (h : okD (.tup ds) = true) : ds.length ≤ 1000 ∧ ∀ d ∈ ds, okD d = true := by
  unfold okD at h
  rw [Bool.and_eq_true] at h
  exact ⟨of_decide_eq_true h.1, okAll_mem h.2⟩
theorem ok_pln {x : D} (h : okD x = true) : plnD x = true := by
  cases x with
  | ins _ _ _ => unfold okD at h; cases h
  | ty _ => unfold okD at h; cases h
  | _ => rfl
def ltP : D → Bool
  | .tup [.int a, .int b] => decide (a < b)
  | .tup [.str a, .str b] => decide (a.cps.toList < b.cps.toList)
  | _ => false
def ascD : D → Bool
  | .lst ds => (zipD ds (ds.drop 1)).all ltP
  | .tup ds => (zipD ds (ds.drop 1)).all ltP
  | _ => false
def fstD : D → D
  | .tup (a :: _) => a
  | _ => .non
/-- items that can be put in order -/
def Ord (y : D) : Prop := (∃ zs : List Int, zs.length ≤ 1000 ∧ (y = .lst (zs.map D.int) ∨ y = .tup (zs.map D.int))) ∨ ∃ xs : List Str, xs.length ≤ 1000 ∧ y = .lst (xs.map D.str)
def areTurnsOf (row : D) (s n : Int) : Bool := match row with
  | .tup ds => ds.all (isIdx n) && (ascD (.tup ds) && !decide (s ∈ ds.map intOf))
  | _ => false
def turnP (n : Int) : D → Bool
  | .tup [.int i, row] => areTurnsOf row i n
  | _ => false
def areTurns : D → Bool
  | .tup ds => decide (1 ≤ (ds.length : Int)) && decide ((ds.length : Int) ≤ 400) && (enuD ds).all (turnP ds.length)
  | _ => false
def isAnswer (n : Int) : D → Bool
  | .tup [a, b] => isIdx n a && isNat b
  | _ => false
def areAnswers (n : Int) : D → Bool
  | .tup ds => !decide ((ds.length : Int) = 0) && (ds.all (isAnswer n) && ascD (.lst (ds.map fstD)))
  | _ => false
def isAsk (n : Int) : D → Bool
  | .tup [a, b] => isName a && areAnswers n b
  | _ => false
def areAsksOf (n : Int) : D → Bool
  | .tup ds => decide ((ds.length : Int) ≤ 160) && (ds.all (isAsk n) && ascD (.lst (ds.map fstD)))
  | _ => false
def areAsks (n : Int) : D → Bool
  | .tup ds => decide ((ds.length : Int) = n) && ds.all (areAsksOf n)
  | _ => false
theorem idx_ints {n : Int} : ∀ {ds : List D}, ds.all (isIdx n) = true → ds = (ds.map intOf).map D.int
  | [], _ => rfl
  | d :: ds, h => by
    rw [List.all_cons, Bool.and_eq_true] at h
    rw [List.map_cons, List.map_cons, ← idx_ints h.2]
    cases d <;> first | rfl | cases h.1
theorem two_of {ds : List D} (h : (ds.length : Int) = 2) : ∃ a b, ds = [a, b] := by
  match ds, h with
  | [a, b], _ => exact ⟨a, b, rfl⟩
  | [], h => cases h
  | [a], h => cases h
  | a :: b :: c :: l, h => simp at h; omega
section
variable {P : Program} {w : World} {K : PySem.W.Frag} {mg : Str → Option Value} {base : Heap}
abbrev s_is_integer : Stmt := top 10
theorem sc_is_integer : FnScope ["value"] ["value"] (defScope s_is_integer) :=
  ⟨rfl, rfl, rfl, by decide +kernel, rfl, by decide +kernel, by decide +kernel⟩
abbrev s_is_from_zero : Stmt := top 11
theorem sc_is_from_zero : FnScope ["value"] ["value"] (defScope s_is_from_zero) :=
  ⟨rfl, rfl, rfl, by decide +kernel, rfl, by decide +kernel, by decide +kernel⟩
abbrev s_is_index : Stmt := top 12
theorem sc_is_index : FnScope ["value", "size"] ["value", "size"] (defScope s_is_index) :=
  ⟨rfl, rfl, rfl, by decide +kernel, rfl, by decide +kernel, by decide +kernel⟩
abbrev s_is_name : Stmt := top 13
theorem sc_is_name : FnScope ["value", "letter"] ["value"] (defScope s_is_name) :=
  ⟨rfl, rfl, rfl, by decide +kernel, rfl, by decide +kernel, by decide +kernel⟩
abbrev s_is_ascending : Stmt := top 14
theorem sc_is_ascending : FnScope ["items", "low", "high"] ["items"] (defScope s_is_ascending) :=
  ⟨rfl, rfl, rfl, by decide +kernel, rfl, by decide +kernel, by decide +kernel⟩
def c_is_integer : Spc := sp1 (fun x => plnD x = true) fun x => .bl (isInt x)
def c_is_from_zero : Spc := sp1 (fun x => plnD x = true) fun x => .bl (isNat x)
def c_is_index : Spc := sp2 (fun x y => plnD x = true ∧ ∃ n, y = .int n) fun x y => .bl (isIdx (intOf y) x)
def c_is_name : Spc := sp1 (fun x => okD x = true) fun x => .bl (isName x)
def c_is_ascending : Spc := sp1 Ord fun x => .bl (ascD x)
theorem d_is_integer {f : Addr} {fd : FuncData} (B : Bly mg) (F : Fn K mg "is_integer" s_is_integer ["value"] f fd) : Dk P w K mg base "is_integer" CX0 1 ["value"] (spW c_is_integer 1) := by
  refine F.ok1 sc_is_integer rfl fun cdv A outer s H E x hr p => ⟨_, (pss_one (ps_ret (pe_and (pe_callB (call_isiK (K := K) rfl) (by rfl) B.isi b_isinstance (pa_cons (pv 0) (pa_cons (pe_bltn (v := .ty "int") (by rfl) B.int b_int rfl) pa_nil))) (pe_one (pe_not (pe_callB (call_isiK (K := K) rfl) (by rfl) B.isi b_isinstance (pa_cons (pv 0) (pa_cons (pe_bltn (v := .ty "bool") (by rfl) B.bool b_bool rfl) pa_nil)))))))), fun T => ?_⟩
  repeat (first | with_reducible refine wps_nil ?_ | with_reducible refine wps_seq ?_ | refine wps_ret ?_ | refine wps_if ?_ | refine wps_newl ?_ | refine wps_set ?_ | refine wpt_not ?_ | refine wpt_or ?_ | refine wpt_and ?_ | refine wpt_B ?_ | refine wpt_test ?_ | refine wpe_var rfl ?_ | refine wpe_int ?_ | refine wpe_bl ?_ | refine wpe_str ?_ | refine wpe_non ?_ | refine wpe_ty ?_ | refine wpe_andV ?_ | refine wpe_orV ?_ | refine wpe_notV ?_ | refine wpe_if ?_ | refine wpe_call1 ?_ | refine wpe_call2 ?_ | refine wpe_call3 ?_ | refine wpe_callS rfl ?_ | refine wpe_tupL ?_ | refine wpe_lstL ?_ | refine wpe_call0 ?_ | refine wpe_cb1 ?_ | refine wpe_cb2 ?_ | refine wpe_neg ?_ | refine wpe_slice ?_ | refine wpe_op ?_ | refine wpe_chain ?_ | refine wpo_none ?_ | refine wpo_some ?_ | refine wpl_nil ?_ | refine wpl_cons ?_ | refine wpa_cons ?_ | refine wpi_zipL ?_ | refine wpi_enuT1 ?_ | refine wpi_rng1 ?_ | refine wpi_seq ?_ | refine opd_ix (n := 0) (.inr rfl) rfl rfl ?_ | refine opd_ix (n := 1) (.inr rfl) rfl rfl ?_ | refine opd_ix (n := 2) (.inr rfl) rfl rfl ?_ | refine opd_b ?_ | refine opd_l (opd_b ?_) | refine opd_i ?_ | refine opd_l (opd_eqI ?_) | refine opd_l (opd_neI ?_) | refine opd_l (opd_neS ?_) | refine opd_l (opd_eqS ?_) | refine cbd_l (cbd_len (.inr rfl) ?_) | refine cbd_l (cbd_len (.inl rfl) ?_) | refine cbd_int1 ?_ | refine ite_t ?_ | refine ite_f ?_ | refine ⟨_, rfl, ?_⟩)
  refine cbd_isI p ⟨_, rfl, ite_b (fun h => ?_) (fun h => ?_)⟩
  · repeat (first | with_reducible refine wps_nil ?_ | with_reducible refine wps_seq ?_ | refine wps_ret ?_ | refine wps_if ?_ | refine wps_newl ?_ | refine wps_set ?_ | refine wpt_not ?_ | refine wpt_or ?_ | refine wpt_and ?_ | refine wpt_B ?_ | refine wpt_test ?_ | refine wpe_var rfl ?_ | refine wpe_int ?_ | refine wpe_bl ?_ | refine wpe_str ?_ | refine wpe_non ?_ | refine wpe_ty ?_ | refine wpe_andV ?_ | refine wpe_orV ?_ | refine wpe_notV ?_ | refine wpe_if ?_ | refine wpe_call1 ?_ | refine wpe_call2 ?_ | refine wpe_call3 ?_ | refine wpe_callS rfl ?_ | refine wpe_tupL ?_ | refine wpe_lstL ?_ | refine wpe_call0 ?_ | refine wpe_cb1 ?_ | refine wpe_cb2 ?_ | refine wpe_neg ?_ | refine wpe_slice ?_ | refine wpe_op ?_ | refine wpe_chain ?_ | refine wpo_none ?_ | refine wpo_some ?_ | refine wpl_nil ?_ | refine wpl_cons ?_ | refine wpa_cons ?_ | refine wpi_zipL ?_ | refine wpi_enuT1 ?_ | refine wpi_rng1 ?_ | refine wpi_seq ?_ | refine opd_ix (n := 0) (.inr rfl) rfl rfl ?_ | refine opd_ix (n := 1) (.inr rfl) rfl rfl ?_ | refine opd_ix (n := 2) (.inr rfl) rfl rfl ?_ | refine opd_b ?_ | refine opd_l (opd_b ?_) | refine opd_i ?_ | refine opd_l (opd_eqI ?_) | refine opd_l (opd_neI ?_) | refine opd_l (opd_neS ?_) | refine opd_l (opd_eqS ?_) | refine cbd_l (cbd_len (.inr rfl) ?_) | refine cbd_l (cbd_len (.inl rfl) ?_) | refine cbd_int1 ?_ | refine ite_t ?_ | refine ite_f ?_ | refine ⟨_, rfl, ?_⟩)
    refine cbd_isB p ⟨_, rfl, ?_⟩
    cases x <;> first | rfl | cases h
  · cases x <;> first | rfl | cases h
theorem d_is_from_zero {f : Addr} {fd : FuncData} (B : Bly mg) (F : Fn K mg "is_from_zero" s_is_from_zero ["value"] f fd)
    (D_is_integer : Dk P w K mg base "is_integer" CX0 1 ["value"] (spW c_is_integer 1)) : Dk P w K mg base "is_from_zero" CX0 2 ["value"] (spW c_is_from_zero 1) := by
  refine F.ok1 sc_is_from_zero rfl fun cdv A outer s H E x hr p => ⟨_, (pss_one (ps_ret (pe_and (pe_callD D_is_integer (hr.mono (by decide)) (by rfl) pass0 (pa_cons (pv 0) pa_nil)) (pe_one (pe_cmpR op_ge (pv 0) pe_int (nomark _)))))), fun T => ?_⟩
  repeat (first | with_reducible refine wps_nil ?_ | with_reducible refine wps_seq ?_ | refine wps_ret ?_ | refine wps_if ?_ | refine wps_newl ?_ | refine wps_set ?_ | refine wpt_not ?_ | refine wpt_or ?_ | refine wpt_and ?_ | refine wpt_B ?_ | refine wpt_test ?_ | refine wpe_var rfl ?_ | refine wpe_int ?_ | refine wpe_bl ?_ | refine wpe_str ?_ | refine wpe_non ?_ | refine wpe_ty ?_ | refine wpe_andV ?_ | refine wpe_orV ?_ | refine wpe_notV ?_ | refine wpe_if ?_ | refine wpe_call1 ?_ | refine wpe_call2 ?_ | refine wpe_call3 ?_ | refine wpe_callS rfl ?_ | refine wpe_tupL ?_ | refine wpe_lstL ?_ | refine wpe_call0 ?_ | refine wpe_cb1 ?_ | refine wpe_cb2 ?_ | refine wpe_neg ?_ | refine wpe_slice ?_ | refine wpe_op ?_ | refine wpe_chain ?_ | refine wpo_none ?_ | refine wpo_some ?_ | refine wpl_nil ?_ | refine wpl_cons ?_ | refine wpa_cons ?_ | refine wpi_zipL ?_ | refine wpi_enuT1 ?_ | refine wpi_rng1 ?_ | refine wpi_seq ?_ | refine opd_ix (n := 0) (.inr rfl) rfl rfl ?_ | refine opd_ix (n := 1) (.inr rfl) rfl rfl ?_ | refine opd_ix (n := 2) (.inr rfl) rfl rfl ?_ | refine opd_b ?_ | refine opd_l (opd_b ?_) | refine opd_i ?_ | refine opd_l (opd_eqI ?_) | refine opd_l (opd_neI ?_) | refine opd_l (opd_neS ?_) | refine opd_l (opd_eqS ?_) | refine cbd_l (cbd_len (.inr rfl) ?_) | refine cbd_l (cbd_len (.inl rfl) ?_) | refine cbd_int1 ?_ | refine ite_t ?_ | refine ite_f ?_ | refine ⟨_, rfl, ?_⟩)
  refine ⟨p, _, rfl, ite_b (fun h => ?_) (fun h => ?_)⟩
  · cases x <;> first | cases h | skip
    repeat (first | with_reducible refine wps_nil ?_ | with_reducible refine wps_seq ?_ | refine wps_ret ?_ | refine wps_if ?_ | refine wps_newl ?_ | refine wps_set ?_ | refine wpt_not ?_ | refine wpt_or ?_ | refine wpt_and ?_ | refine wpt_B ?_ | refine wpt_test ?_ | refine wpe_var rfl ?_ | refine wpe_int ?_ | refine wpe_bl ?_ | refine wpe_str ?_ | refine wpe_non ?_ | refine wpe_ty ?_ | refine wpe_andV ?_ | refine wpe_orV ?_ | refine wpe_notV ?_ | refine wpe_if ?_ | refine wpe_call1 ?_ | refine wpe_call2 ?_ | refine wpe_call3 ?_ | refine wpe_callS rfl ?_ | refine wpe_tupL ?_ | refine wpe_lstL ?_ | refine wpe_call0 ?_ | refine wpe_cb1 ?_ | refine wpe_cb2 ?_ | refine wpe_neg ?_ | refine wpe_slice ?_ | refine wpe_op ?_ | refine wpe_chain ?_ | refine wpo_none ?_ | refine wpo_some ?_ | refine wpl_nil ?_ | refine wpl_cons ?_ | refine wpa_cons ?_ | refine wpi_zipL ?_ | refine wpi_enuT1 ?_ | refine wpi_rng1 ?_ | refine wpi_seq ?_ | refine opd_ix (n := 0) (.inr rfl) rfl rfl ?_ | refine opd_ix (n := 1) (.inr rfl) rfl rfl ?_ | refine opd_ix (n := 2) (.inr rfl) rfl rfl ?_ | refine opd_b ?_ | refine opd_l (opd_b ?_) | refine opd_i ?_ | refine opd_l (opd_eqI ?_) | refine opd_l (opd_neI ?_) | refine opd_l (opd_neS ?_) | refine opd_l (opd_eqS ?_) | refine cbd_l (cbd_len (.inr rfl) ?_) | refine cbd_l (cbd_len (.inl rfl) ?_) | refine cbd_int1 ?_ | refine ite_t ?_ | refine ite_f ?_ | refine ⟨_, rfl, ?_⟩)
    rfl
  · cases x <;> first | rfl | cases h
theorem d_is_index {f : Addr} {fd : FuncData} (B : Bly mg) (F : Fn K mg "is_index" s_is_index ["value", "size"] f fd)
    (D_is_integer : Dk P w K mg base "is_integer" CX0 1 ["value"] (spW c_is_integer 1)) : Dk P w K mg base "is_index" CX0 2 ["value", "size"] (spW c_is_index 2) := by
  refine F.ok2 sc_is_index rfl fun cdv A outer s H E x y hr ⟨p, n, hn⟩ => ⟨_, (pss_one (ps_ret (pe_and (pe_callD D_is_integer (hr.mono (by decide)) (by rfl) pass0 (pa_cons (pv 0) pa_nil)) (pe_one (pe_chain op_le (op_lt.or op_lt_str) pe_int (pv 0) (pv 1)))))), fun T => ?_⟩
  subst hn
  repeat (first | with_reducible refine wps_nil ?_ | with_reducible refine wps_seq ?_ | refine wps_ret ?_ | refine wps_if ?_ | refine wps_newl ?_ | refine wps_set ?_ | refine wpt_not ?_ | refine wpt_or ?_ | refine wpt_and ?_ | refine wpt_B ?_ | refine wpt_test ?_ | refine wpe_var rfl ?_ | refine wpe_int ?_ | refine wpe_bl ?_ | refine wpe_str ?_ | refine wpe_non ?_ | refine wpe_ty ?_ | refine wpe_andV ?_ | refine wpe_orV ?_ | refine wpe_notV ?_ | refine wpe_if ?_ | refine wpe_call1 ?_ | refine wpe_call2 ?_ | refine wpe_call3 ?_ | refine wpe_callS rfl ?_ | refine wpe_tupL ?_ | refine wpe_lstL ?_ | refine wpe_call0 ?_ | refine wpe_cb1 ?_ | refine wpe_cb2 ?_ | refine wpe_neg ?_ | refine wpe_slice ?_ | refine wpe_op ?_ | refine wpe_chain ?_ | refine wpo_none ?_ | refine wpo_some ?_ | refine wpl_nil ?_ | refine wpl_cons ?_ | refine wpa_cons ?_ | refine wpi_zipL ?_ | refine wpi_enuT1 ?_ | refine wpi_rng1 ?_ | refine wpi_seq ?_ | refine opd_ix (n := 0) (.inr rfl) rfl rfl ?_ | refine opd_ix (n := 1) (.inr rfl) rfl rfl ?_ | refine opd_ix (n := 2) (.inr rfl) rfl rfl ?_ | refine opd_b ?_ | refine opd_l (opd_b ?_) | refine opd_i ?_ | refine opd_l (opd_eqI ?_) | refine opd_l (opd_neI ?_) | refine opd_l (opd_neS ?_) | refine opd_l (opd_eqS ?_) | refine cbd_l (cbd_len (.inr rfl) ?_) | refine cbd_l (cbd_len (.inl rfl) ?_) | refine cbd_int1 ?_ | refine ite_t ?_ | refine ite_f ?_ | refine ⟨_, rfl, ?_⟩)
  refine ⟨p, _, rfl, ite_b (fun h => ?_) (fun h => ?_)⟩
  · cases x <;> first | cases h | skip
    repeat (first | with_reducible refine wps_nil ?_ | with_reducible refine wps_seq ?_ | refine wps_ret ?_ | refine wps_if ?_ | refine wps_newl ?_ | refine wps_set ?_ | refine wpt_not ?_ | refine wpt_or ?_ | refine wpt_and ?_ | refine wpt_B ?_ | refine wpt_test ?_ | refine wpe_var rfl ?_ | refine wpe_int ?_ | refine wpe_bl ?_ | refine wpe_str ?_ | refine wpe_non ?_ | refine wpe_ty ?_ | refine wpe_andV ?_ | refine wpe_orV ?_ | refine wpe_notV ?_ | refine wpe_if ?_ | refine wpe_call1 ?_ | refine wpe_call2 ?_ | refine wpe_call3 ?_ | refine wpe_callS rfl ?_ | refine wpe_tupL ?_ | refine wpe_lstL ?_ | refine wpe_call0 ?_ | refine wpe_cb1 ?_ | refine wpe_cb2 ?_ | refine wpe_neg ?_ | refine wpe_slice ?_ | refine wpe_op ?_ | refine wpe_chain ?_ | refine wpo_none ?_ | refine wpo_some ?_ | refine wpl_nil ?_ | refine wpl_cons ?_ | refine wpa_cons ?_ | refine wpi_zipL ?_ | refine wpi_enuT1 ?_ | refine wpi_rng1 ?_ | refine wpi_seq ?_ | refine opd_ix (n := 0) (.inr rfl) rfl rfl ?_ | refine opd_ix (n := 1) (.inr rfl) rfl rfl ?_ | refine opd_ix (n := 2) (.inr rfl) rfl rfl ?_ | refine opd_b ?_ | refine opd_l (opd_b ?_) | refine opd_i ?_ | refine opd_l (opd_eqI ?_) | refine opd_l (opd_neI ?_) | refine opd_l (opd_neS ?_) | refine opd_l (opd_eqS ?_) | refine cbd_l (cbd_len (.inr rfl) ?_) | refine cbd_l (cbd_len (.inl rfl) ?_) | refine cbd_int1 ?_ | refine ite_t ?_ | refine ite_f ?_ | refine ⟨_, rfl, ?_⟩)
    refine ite_b (fun h => ?_) (fun h => ?_)
    · repeat (first | with_reducible refine wps_nil ?_ | with_reducible refine wps_seq ?_ | refine wps_ret ?_ | refine wps_if ?_ | refine wps_newl ?_ | refine wps_set ?_ | refine wpt_not ?_ | refine wpt_or ?_ | refine wpt_and ?_ | refine wpt_B ?_ | refine wpt_test ?_ | refine wpe_var rfl ?_ | refine wpe_int ?_ | refine wpe_bl ?_ | refine wpe_str ?_ | refine wpe_non ?_ | refine wpe_ty ?_ | refine wpe_andV ?_ | refine wpe_orV ?_ | refine wpe_notV ?_ | refine wpe_if ?_ | refine wpe_call1 ?_ | refine wpe_call2 ?_ | refine wpe_call3 ?_ | refine wpe_callS rfl ?_ | refine wpe_tupL ?_ | refine wpe_lstL ?_ | refine wpe_call0 ?_ | refine wpe_cb1 ?_ | refine wpe_cb2 ?_ | refine wpe_neg ?_ | refine wpe_slice ?_ | refine wpe_op ?_ | refine wpe_chain ?_ | refine wpo_none ?_ | refine wpo_some ?_ | refine wpl_nil ?_ | refine wpl_cons ?_ | refine wpa_cons ?_ | refine wpi_zipL ?_ | refine wpi_enuT1 ?_ | refine wpi_rng1 ?_ | refine wpi_seq ?_ | refine opd_ix (n := 0) (.inr rfl) rfl rfl ?_ | refine opd_ix (n := 1) (.inr rfl) rfl rfl ?_ | refine opd_ix (n := 2) (.inr rfl) rfl rfl ?_ | refine opd_b ?_ | refine opd_l (opd_b ?_) | refine opd_i ?_ | refine opd_l (opd_eqI ?_) | refine opd_l (opd_neI ?_) | refine opd_l (opd_neS ?_) | refine opd_l (opd_eqS ?_) | refine cbd_l (cbd_len (.inr rfl) ?_) | refine cbd_l (cbd_len (.inl rfl) ?_) | refine cbd_int1 ?_ | refine ite_t ?_ | refine ite_f ?_ | refine ⟨_, rfl, ?_⟩)
      show D.bl _ = D.bl (decide _ && decide _)
      rw [h, Bool.true_and]
      rfl
    · show D.bl _ = D.bl (decide _ && decide _)
      rw [h, Bool.false_and]
  · cases x <;> first | rfl | cases h
theorem chrs_all {x : Str} {f : Nat → Bool} {g : D → Bool} (h : ∀ c, g (.str ⟨#[c]⟩) = f c) : (chrs x).all g = x.cps.toList.all f := by
  unfold chrs
  rw [List.all_map]
  congr 1
  funext c
  exact h c
theorem chrs_len {x : Str} : (chrs x).length = x.length := by
  unfold chrs
  rw [List.length_map, Array.length_toList]
  rfl
def isSign (z : Str) : D → Bool
  | .str x => decide (x.cps.toList.headD 0 ∈ z.cps.toList)
  | _ => false
theorem isName_str {x : Str} : isName (.str x) = (decide (1 ≤ (x.length : Int)) && decide ((x.length : Int) ≤ 12) && x.cps.toList.all fun c => decide (c ∈ letters.cps.toList)) := rfl
theorem zip_mem {d : D} : ∀ {xs ys : List D}, d ∈ zipD xs ys → ∃ x y, x ∈ xs ∧ y ∈ ys ∧ d = .tup [x, y]
  | [], _, h => nomatch h
  | _ :: _, [], h => nomatch h
  | x :: xs, y :: ys, h => by
    rcases List.mem_cons.mp h with rfl | h
    · exact ⟨x, y, by simp, by simp, rfl⟩
    · obtain ⟨a, b, h1, h2, e⟩ := zip_mem h
      exact ⟨a, b, by simp [h1], by simp [h2], e⟩
theorem d_is_name {f : Addr} {fd : FuncData} (B : Bly mg) (F : Fn K mg "is_name" s_is_name ["value"] f fd) (G_LETTERS : Gv mg "LETTERS" (.str letters)) (G_LONGEST_NAME : Gv mg "LONGEST_NAME" (.int 12)) :
    Dk P w K mg base "is_name" CX0 2 ["value"] (spW c_is_name 1) := by
  refine F.ok1 sc_is_name rfl fun cdv A outer s H E x hr p => ⟨_, (pss_cons (ps_if (PW.pt (pw_or (pt_not (pt_val (pe_callB (call_isiK (K := K) rfl) (by rfl) B.isi b_isinstance (pa_cons (pv 0) (pa_cons (pe_bltn (v := .ty "str") (by rfl) B.str b_str rfl) pa_nil))))) (pw_or1 (pt_not (pt_chain op_le op_le pe_int (pe_callB (call_lenK (K := K) rfl) (by rfl) B.len b_len (pa_cons (pv 0) pa_nil)) (pe_gv G_LONGEST_NAME (by rfl))))))) (pss_one (ps_ret pe_bl)) pss_nil)
    (pss_one (ps_ret (pe_callB (cr_allK (K := K) rfl rfl) (by rfl) B.all b_all (pa_cons (pe_lc (own := [("letter", 1)]) (g := gName 1) (tt := tYes) (by rfl) sc_is_name.nd (pi_str (pv 0)) (blkOk_by (N := ["value", "letter"]) (sc := defScope s_is_name) (by decide +kernel)) (fun _ _ _ _ _ => pg_name (i := 1) sc_is_name.nd rfl (by first | exact Or.inl rfl | exact Or.inr rfl)) (fun _ _ _ _ _ => pts_nil) (fun _ _ _ _ _ => (pe_cmpR op_in_sign (pv 1) (pe_gv G_LETTERS (by rfl)) (by with_unfolding_all rfl)))) pa_nil))))), fun T => ?_⟩
  repeat (first | with_reducible refine wps_nil ?_ | with_reducible refine wps_seq ?_ | refine wps_ret ?_ | refine wps_if ?_ | refine wps_newl ?_ | refine wps_set ?_ | refine wpt_not ?_ | refine wpt_or ?_ | refine wpt_and ?_ | refine wpt_B ?_ | refine wpt_test ?_ | refine wpe_var rfl ?_ | refine wpe_int ?_ | refine wpe_bl ?_ | refine wpe_str ?_ | refine wpe_non ?_ | refine wpe_ty ?_ | refine wpe_andV ?_ | refine wpe_orV ?_ | refine wpe_notV ?_ | refine wpe_if ?_ | refine wpe_call1 ?_ | refine wpe_call2 ?_ | refine wpe_call3 ?_ | refine wpe_callS rfl ?_ | refine wpe_tupL ?_ | refine wpe_lstL ?_ | refine wpe_call0 ?_ | refine wpe_cb1 ?_ | refine wpe_cb2 ?_ | refine wpe_neg ?_ | refine wpe_slice ?_ | refine wpe_op ?_ | refine wpe_chain ?_ | refine wpo_none ?_ | refine wpo_some ?_ | refine wpl_nil ?_ | refine wpl_cons ?_ | refine wpa_cons ?_ | refine wpi_zipL ?_ | refine wpi_enuT1 ?_ | refine wpi_rng1 ?_ | refine wpi_seq ?_ | refine opd_ix (n := 0) (.inr rfl) rfl rfl ?_ | refine opd_ix (n := 1) (.inr rfl) rfl rfl ?_ | refine opd_ix (n := 2) (.inr rfl) rfl rfl ?_ | refine opd_b ?_ | refine opd_l (opd_b ?_) | refine opd_i ?_ | refine opd_l (opd_eqI ?_) | refine opd_l (opd_neI ?_) | refine opd_l (opd_neS ?_) | refine opd_l (opd_eqS ?_) | refine cbd_l (cbd_len (.inr rfl) ?_) | refine cbd_l (cbd_len (.inl rfl) ?_) | refine cbd_int1 ?_ | refine ite_t ?_ | refine ite_f ?_ | refine ⟨_, rfl, ?_⟩)
  refine cbd_isS (ok_pln p) ⟨_, rfl, ite_b (fun h => ?_) (fun h => ?_)⟩
  · repeat (first | with_reducible refine wps_nil ?_ | with_reducible refine wps_seq ?_ | refine wps_ret ?_ | refine wps_if ?_ | refine wps_newl ?_ | refine wps_set ?_ | refine wpt_not ?_ | refine wpt_or ?_ | refine wpt_and ?_ | refine wpt_B ?_ | refine wpt_test ?_ | refine wpe_var rfl ?_ | refine wpe_int ?_ | refine wpe_bl ?_ | refine wpe_str ?_ | refine wpe_non ?_ | refine wpe_ty ?_ | refine wpe_andV ?_ | refine wpe_orV ?_ | refine wpe_notV ?_ | refine wpe_if ?_ | refine wpe_call1 ?_ | refine wpe_call2 ?_ | refine wpe_call3 ?_ | refine wpe_callS rfl ?_ | refine wpe_tupL ?_ | refine wpe_lstL ?_ | refine wpe_call0 ?_ | refine wpe_cb1 ?_ | refine wpe_cb2 ?_ | refine wpe_neg ?_ | refine wpe_slice ?_ | refine wpe_op ?_ | refine wpe_chain ?_ | refine wpo_none ?_ | refine wpo_some ?_ | refine wpl_nil ?_ | refine wpl_cons ?_ | refine wpa_cons ?_ | refine wpi_zipL ?_ | refine wpi_enuT1 ?_ | refine wpi_rng1 ?_ | refine wpi_seq ?_ | refine opd_ix (n := 0) (.inr rfl) rfl rfl ?_ | refine opd_ix (n := 1) (.inr rfl) rfl rfl ?_ | refine opd_ix (n := 2) (.inr rfl) rfl rfl ?_ | refine opd_b ?_ | refine opd_l (opd_b ?_) | refine opd_i ?_ | refine opd_l (opd_eqI ?_) | refine opd_l (opd_neI ?_) | refine opd_l (opd_neS ?_) | refine opd_l (opd_eqS ?_) | refine cbd_l (cbd_len (.inr rfl) ?_) | refine cbd_l (cbd_len (.inl rfl) ?_) | refine cbd_int1 ?_ | refine ite_t ?_ | refine ite_f ?_ | refine ⟨_, rfl, ?_⟩)
    cases x <;> first | rfl | cases h
  · cases x <;> first | cases h | skip
    rename_i x
    have lx : x.length ≤ 1000 := by unfold okD at p; exact of_decide_eq_true p
    repeat (first | with_reducible refine wps_nil ?_ | with_reducible refine wps_seq ?_ | refine wps_ret ?_ | refine wps_if ?_ | refine wps_newl ?_ | refine wps_set ?_ | refine wpt_not ?_ | refine wpt_or ?_ | refine wpt_and ?_ | refine wpt_B ?_ | refine wpt_test ?_ | refine wpe_var rfl ?_ | refine wpe_int ?_ | refine wpe_bl ?_ | refine wpe_str ?_ | refine wpe_non ?_ | refine wpe_ty ?_ | refine wpe_andV ?_ | refine wpe_orV ?_ | refine wpe_notV ?_ | refine wpe_if ?_ | refine wpe_call1 ?_ | refine wpe_call2 ?_ | refine wpe_call3 ?_ | refine wpe_callS rfl ?_ | refine wpe_tupL ?_ | refine wpe_lstL ?_ | refine wpe_call0 ?_ | refine wpe_cb1 ?_ | refine wpe_cb2 ?_ | refine wpe_neg ?_ | refine wpe_slice ?_ | refine wpe_op ?_ | refine wpe_chain ?_ | refine wpo_none ?_ | refine wpo_some ?_ | refine wpl_nil ?_ | refine wpl_cons ?_ | refine wpa_cons ?_ | refine wpi_zipL ?_ | refine wpi_enuT1 ?_ | refine wpi_rng1 ?_ | refine wpi_seq ?_ | refine opd_ix (n := 0) (.inr rfl) rfl rfl ?_ | refine opd_ix (n := 1) (.inr rfl) rfl rfl ?_ | refine opd_ix (n := 2) (.inr rfl) rfl rfl ?_ | refine opd_b ?_ | refine opd_l (opd_b ?_) | refine opd_i ?_ | refine opd_l (opd_eqI ?_) | refine opd_l (opd_neI ?_) | refine opd_l (opd_neS ?_) | refine opd_l (opd_eqS ?_) | refine cbd_l (cbd_len (.inr rfl) ?_) | refine cbd_l (cbd_len (.inl rfl) ?_) | refine cbd_int1 ?_ | refine ite_t ?_ | refine ite_f ?_ | refine ⟨_, rfl, ?_⟩)
    refine cbd_r (cbd_lenS lx ?_)
    repeat (first | with_reducible refine wps_nil ?_ | with_reducible refine wps_seq ?_ | refine wps_ret ?_ | refine wps_if ?_ | refine wps_newl ?_ | refine wps_set ?_ | refine wpt_not ?_ | refine wpt_or ?_ | refine wpt_and ?_ | refine wpt_B ?_ | refine wpt_test ?_ | refine wpe_var rfl ?_ | refine wpe_int ?_ | refine wpe_bl ?_ | refine wpe_str ?_ | refine wpe_non ?_ | refine wpe_ty ?_ | refine wpe_andV ?_ | refine wpe_orV ?_ | refine wpe_notV ?_ | refine wpe_if ?_ | refine wpe_call1 ?_ | refine wpe_call2 ?_ | refine wpe_call3 ?_ | refine wpe_callS rfl ?_ | refine wpe_tupL ?_ | refine wpe_lstL ?_ | refine wpe_call0 ?_ | refine wpe_cb1 ?_ | refine wpe_cb2 ?_ | refine wpe_neg ?_ | refine wpe_slice ?_ | refine wpe_op ?_ | refine wpe_chain ?_ | refine wpo_none ?_ | refine wpo_some ?_ | refine wpl_nil ?_ | refine wpl_cons ?_ | refine wpa_cons ?_ | refine wpi_zipL ?_ | refine wpi_enuT1 ?_ | refine wpi_rng1 ?_ | refine wpi_seq ?_ | refine opd_ix (n := 0) (.inr rfl) rfl rfl ?_ | refine opd_ix (n := 1) (.inr rfl) rfl rfl ?_ | refine opd_ix (n := 2) (.inr rfl) rfl rfl ?_ | refine opd_b ?_ | refine opd_l (opd_b ?_) | refine opd_i ?_ | refine opd_l (opd_eqI ?_) | refine opd_l (opd_neI ?_) | refine opd_l (opd_neS ?_) | refine opd_l (opd_eqS ?_) | refine cbd_l (cbd_len (.inr rfl) ?_) | refine cbd_l (cbd_len (.inl rfl) ?_) | refine cbd_int1 ?_ | refine ite_t ?_ | refine ite_f ?_ | refine ⟨_, rfl, ?_⟩)
    refine ite_b (fun h1 => ?_) (fun h1 => ?_)
    · repeat (first | with_reducible refine wps_nil ?_ | with_reducible refine wps_seq ?_ | refine wps_ret ?_ | refine wps_if ?_ | refine wps_newl ?_ | refine wps_set ?_ | refine wpt_not ?_ | refine wpt_or ?_ | refine wpt_and ?_ | refine wpt_B ?_ | refine wpt_test ?_ | refine wpe_var rfl ?_ | refine wpe_int ?_ | refine wpe_bl ?_ | refine wpe_str ?_ | refine wpe_non ?_ | refine wpe_ty ?_ | refine wpe_andV ?_ | refine wpe_orV ?_ | refine wpe_notV ?_ | refine wpe_if ?_ | refine wpe_call1 ?_ | refine wpe_call2 ?_ | refine wpe_call3 ?_ | refine wpe_callS rfl ?_ | refine wpe_tupL ?_ | refine wpe_lstL ?_ | refine wpe_call0 ?_ | refine wpe_cb1 ?_ | refine wpe_cb2 ?_ | refine wpe_neg ?_ | refine wpe_slice ?_ | refine wpe_op ?_ | refine wpe_chain ?_ | refine wpo_none ?_ | refine wpo_some ?_ | refine wpl_nil ?_ | refine wpl_cons ?_ | refine wpa_cons ?_ | refine wpi_zipL ?_ | refine wpi_enuT1 ?_ | refine wpi_rng1 ?_ | refine wpi_seq ?_ | refine opd_ix (n := 0) (.inr rfl) rfl rfl ?_ | refine opd_ix (n := 1) (.inr rfl) rfl rfl ?_ | refine opd_ix (n := 2) (.inr rfl) rfl rfl ?_ | refine opd_b ?_ | refine opd_l (opd_b ?_) | refine opd_i ?_ | refine opd_l (opd_eqI ?_) | refine opd_l (opd_neI ?_) | refine opd_l (opd_neS ?_) | refine opd_l (opd_eqS ?_) | refine cbd_l (cbd_len (.inr rfl) ?_) | refine cbd_l (cbd_len (.inl rfl) ?_) | refine cbd_int1 ?_ | refine ite_t ?_ | refine ite_f ?_ | refine ⟨_, rfl, ?_⟩)
      refine ite_b (fun h2 => ?_) (fun h2 => ?_)
      · repeat (first | with_reducible refine wps_nil ?_ | with_reducible refine wps_seq ?_ | refine wps_ret ?_ | refine wps_if ?_ | refine wps_newl ?_ | refine wps_set ?_ | refine wpt_not ?_ | refine wpt_or ?_ | refine wpt_and ?_ | refine wpt_B ?_ | refine wpt_test ?_ | refine wpe_var rfl ?_ | refine wpe_int ?_ | refine wpe_bl ?_ | refine wpe_str ?_ | refine wpe_non ?_ | refine wpe_ty ?_ | refine wpe_andV ?_ | refine wpe_orV ?_ | refine wpe_notV ?_ | refine wpe_if ?_ | refine wpe_call1 ?_ | refine wpe_call2 ?_ | refine wpe_call3 ?_ | refine wpe_callS rfl ?_ | refine wpe_tupL ?_ | refine wpe_lstL ?_ | refine wpe_call0 ?_ | refine wpe_cb1 ?_ | refine wpe_cb2 ?_ | refine wpe_neg ?_ | refine wpe_slice ?_ | refine wpe_op ?_ | refine wpe_chain ?_ | refine wpo_none ?_ | refine wpo_some ?_ | refine wpl_nil ?_ | refine wpl_cons ?_ | refine wpa_cons ?_ | refine wpi_zipL ?_ | refine wpi_enuT1 ?_ | refine wpi_rng1 ?_ | refine wpi_seq ?_ | refine opd_ix (n := 0) (.inr rfl) rfl rfl ?_ | refine opd_ix (n := 1) (.inr rfl) rfl rfl ?_ | refine opd_ix (n := 2) (.inr rfl) rfl rfl ?_ | refine opd_b ?_ | refine opd_l (opd_b ?_) | refine opd_i ?_ | refine opd_l (opd_eqI ?_) | refine opd_l (opd_neI ?_) | refine opd_l (opd_neS ?_) | refine opd_l (opd_eqS ?_) | refine cbd_l (cbd_len (.inr rfl) ?_) | refine cbd_l (cbd_len (.inl rfl) ?_) | refine cbd_int1 ?_ | refine ite_t ?_ | refine ite_f ?_ | refine ⟨_, rfl, ?_⟩)
        show D.bl false = D.bl (isName (.str x))
        rw [Bool.not_eq_true'] at h2
        rw [isName_str, h2, Bool.and_false, Bool.false_and]
      · refine wps_nil ?_
        repeat (first | with_reducible refine wps_nil ?_ | with_reducible refine wps_seq ?_ | refine wps_ret ?_ | refine wps_if ?_ | refine wps_newl ?_ | refine wps_set ?_ | refine wpt_not ?_ | refine wpt_or ?_ | refine wpt_and ?_ | refine wpt_B ?_ | refine wpt_test ?_ | refine wpe_var rfl ?_ | refine wpe_int ?_ | refine wpe_bl ?_ | refine wpe_str ?_ | refine wpe_non ?_ | refine wpe_ty ?_ | refine wpe_andV ?_ | refine wpe_orV ?_ | refine wpe_notV ?_ | refine wpe_if ?_ | refine wpe_call1 ?_ | refine wpe_call2 ?_ | refine wpe_call3 ?_ | refine wpe_callS rfl ?_ | refine wpe_tupL ?_ | refine wpe_lstL ?_ | refine wpe_call0 ?_ | refine wpe_cb1 ?_ | refine wpe_cb2 ?_ | refine wpe_neg ?_ | refine wpe_slice ?_ | refine wpe_op ?_ | refine wpe_chain ?_ | refine wpo_none ?_ | refine wpo_some ?_ | refine wpl_nil ?_ | refine wpl_cons ?_ | refine wpa_cons ?_ | refine wpi_zipL ?_ | refine wpi_enuT1 ?_ | refine wpi_rng1 ?_ | refine wpi_seq ?_ | refine opd_ix (n := 0) (.inr rfl) rfl rfl ?_ | refine opd_ix (n := 1) (.inr rfl) rfl rfl ?_ | refine opd_ix (n := 2) (.inr rfl) rfl rfl ?_ | refine opd_b ?_ | refine opd_l (opd_b ?_) | refine opd_i ?_ | refine opd_l (opd_eqI ?_) | refine opd_l (opd_neI ?_) | refine opd_l (opd_neS ?_) | refine opd_l (opd_eqS ?_) | refine cbd_l (cbd_len (.inr rfl) ?_) | refine cbd_l (cbd_len (.inl rfl) ?_) | refine cbd_int1 ?_ | refine ite_t ?_ | refine ite_f ?_ | refine ⟨_, rfl, ?_⟩)
        refine wpe_map (fun d => .bl (isSign letters d)) (by simp) ?_
        refine wpi_str (wpe_var rfl ⟨x, rfl, by rw [chrs_len]; omega, fun d hd => ?_, cbd_allm ?_⟩)
        · unfold chrs at hd
          obtain ⟨c, _, rfl⟩ := List.mem_map.mp hd
          repeat (first | with_reducible refine wps_nil ?_ | with_reducible refine wps_seq ?_ | refine wps_ret ?_ | refine wps_if ?_ | refine wps_newl ?_ | refine wps_set ?_ | refine wpt_not ?_ | refine wpt_or ?_ | refine wpt_and ?_ | refine wpt_B ?_ | refine wpt_test ?_ | refine wpe_var rfl ?_ | refine wpe_int ?_ | refine wpe_bl ?_ | refine wpe_str ?_ | refine wpe_non ?_ | refine wpe_ty ?_ | refine wpe_andV ?_ | refine wpe_orV ?_ | refine wpe_notV ?_ | refine wpe_if ?_ | refine wpe_call1 ?_ | refine wpe_call2 ?_ | refine wpe_call3 ?_ | refine wpe_callS rfl ?_ | refine wpe_tupL ?_ | refine wpe_lstL ?_ | refine wpe_call0 ?_ | refine wpe_cb1 ?_ | refine wpe_cb2 ?_ | refine wpe_neg ?_ | refine wpe_slice ?_ | refine wpe_op ?_ | refine wpe_chain ?_ | refine wpo_none ?_ | refine wpo_some ?_ | refine wpl_nil ?_ | refine wpl_cons ?_ | refine wpa_cons ?_ | refine wpi_zipL ?_ | refine wpi_enuT1 ?_ | refine wpi_rng1 ?_ | refine wpi_seq ?_ | refine opd_ix (n := 0) (.inr rfl) rfl rfl ?_ | refine opd_ix (n := 1) (.inr rfl) rfl rfl ?_ | refine opd_ix (n := 2) (.inr rfl) rfl rfl ?_ | refine opd_b ?_ | refine opd_l (opd_b ?_) | refine opd_i ?_ | refine opd_l (opd_eqI ?_) | refine opd_l (opd_neI ?_) | refine opd_l (opd_neS ?_) | refine opd_l (opd_eqS ?_) | refine cbd_l (cbd_len (.inr rfl) ?_) | refine cbd_l (cbd_len (.inl rfl) ?_) | refine cbd_int1 ?_ | refine ite_t ?_ | refine ite_f ?_ | refine ⟨_, rfl, ?_⟩)
          exact opd_sign rfl
        · show D.bl _ = D.bl (isName (.str x))
          rw [Bool.not_eq_false'] at h2
          rw [isName_str, h1, h2, chrs_all (f := fun c => decide (c ∈ letters.cps.toList)) fun c => rfl]
          rfl
    · repeat (first | with_reducible refine wps_nil ?_ | with_reducible refine wps_seq ?_ | refine wps_ret ?_ | refine wps_if ?_ | refine wps_newl ?_ | refine wps_set ?_ | refine wpt_not ?_ | refine wpt_or ?_ | refine wpt_and ?_ | refine wpt_B ?_ | refine wpt_test ?_ | refine wpe_var rfl ?_ | refine wpe_int ?_ | refine wpe_bl ?_ | refine wpe_str ?_ | refine wpe_non ?_ | refine wpe_ty ?_ | refine wpe_andV ?_ | refine wpe_orV ?_ | refine wpe_notV ?_ | refine wpe_if ?_ | refine wpe_call1 ?_ | refine wpe_call2 ?_ | refine wpe_call3 ?_ | refine wpe_callS rfl ?_ | refine wpe_tupL ?_ | refine wpe_lstL ?_ | refine wpe_call0 ?_ | refine wpe_cb1 ?_ | refine wpe_cb2 ?_ | refine wpe_neg ?_ | refine wpe_slice ?_ | refine wpe_op ?_ | refine wpe_chain ?_ | refine wpo_none ?_ | refine wpo_some ?_ | refine wpl_nil ?_ | refine wpl_cons ?_ | refine wpa_cons ?_ | refine wpi_zipL ?_ | refine wpi_enuT1 ?_ | refine wpi_rng1 ?_ | refine wpi_seq ?_ | refine opd_ix (n := 0) (.inr rfl) rfl rfl ?_ | refine opd_ix (n := 1) (.inr rfl) rfl rfl ?_ | refine opd_ix (n := 2) (.inr rfl) rfl rfl ?_ | refine opd_b ?_ | refine opd_l (opd_b ?_) | refine opd_i ?_ | refine opd_l (opd_eqI ?_) | refine opd_l (opd_neI ?_) | refine opd_l (opd_neS ?_) | refine opd_l (opd_eqS ?_) | refine cbd_l (cbd_len (.inr rfl) ?_) | refine cbd_l (cbd_len (.inl rfl) ?_) | refine cbd_int1 ?_ | refine ite_t ?_ | refine ite_f ?_ | refine ⟨_, rfl, ?_⟩)
      show D.bl false = D.bl (isName (.str x))
      rw [isName_str, h1]
      rfl
theorem d_is_ascending {f : Addr} {fd : FuncData} (B : Bly mg) (F : Fn K mg "is_ascending" s_is_ascending ["items"] f fd) : Dk P w K mg base "is_ascending" CX0 1 ["items"] (spW c_is_ascending 1) := by
  refine F.ok1 sc_is_ascending rfl fun cdv A outer s H E x' hr p => ⟨_, (pss_one (ps_ret (pe_callB (cr_allK (K := K) rfl rfl) (by rfl) B.all b_all (pa_cons (pe_lc (own := [("low", 1), ("high", 2)]) (g := gTup K 2 (gCons (gName 1) (gCons (gName 2) gNil))) (tt := tYes) (by rfl) sc_is_ascending.nd (RZ.pi_zipA (by rfl) B.zip (pa_cons (pv 0) (pa_cons (pe_slice (sl_K (K := K) rfl) (pv 0) (po_some pe_int) po_none) pa_nil))) (blkOk_by (N := ["items", "low", "high"]) (sc := defScope s_is_ascending) (by decide +kernel)) (fun _ _ _ _ _ => pg_tup rfl (pgs_cons (pg_name (i := 1) sc_is_ascending.nd rfl (by first | exact Or.inl rfl | exact Or.inr rfl)) (pgs_cons (pg_name (i := 2) sc_is_ascending.nd rfl (by first | exact Or.inl rfl | exact Or.inr rfl)) pgs_nil))) (fun _ _ _ _ _ => pts_nil) (fun _ _ _ _ _ => (pe_cmpR (op_lt.or op_lt_str) (pv 1) (pv 2) (nomark _)))) pa_nil)))), fun T => ?_⟩
  repeat (first | with_reducible refine wps_nil ?_ | with_reducible refine wps_seq ?_ | refine wps_ret ?_ | refine wps_if ?_ | refine wps_newl ?_ | refine wps_set ?_ | refine wpt_not ?_ | refine wpt_or ?_ | refine wpt_and ?_ | refine wpt_B ?_ | refine wpt_test ?_ | refine wpe_var rfl ?_ | refine wpe_int ?_ | refine wpe_bl ?_ | refine wpe_str ?_ | refine wpe_non ?_ | refine wpe_ty ?_ | refine wpe_andV ?_ | refine wpe_orV ?_ | refine wpe_notV ?_ | refine wpe_if ?_ | refine wpe_call1 ?_ | refine wpe_call2 ?_ | refine wpe_call3 ?_ | refine wpe_callS rfl ?_ | refine wpe_tupL ?_ | refine wpe_lstL ?_ | refine wpe_call0 ?_ | refine wpe_cb1 ?_ | refine wpe_cb2 ?_ | refine wpe_neg ?_ | refine wpe_slice ?_ | refine wpe_op ?_ | refine wpe_chain ?_ | refine wpo_none ?_ | refine wpo_some ?_ | refine wpl_nil ?_ | refine wpl_cons ?_ | refine wpa_cons ?_ | refine wpi_zipL ?_ | refine wpi_enuT1 ?_ | refine wpi_rng1 ?_ | refine wpi_seq ?_ | refine opd_ix (n := 0) (.inr rfl) rfl rfl ?_ | refine opd_ix (n := 1) (.inr rfl) rfl rfl ?_ | refine opd_ix (n := 2) (.inr rfl) rfl rfl ?_ | refine opd_b ?_ | refine opd_l (opd_b ?_) | refine opd_i ?_ | refine opd_l (opd_eqI ?_) | refine opd_l (opd_neI ?_) | refine opd_l (opd_neS ?_) | refine opd_l (opd_eqS ?_) | refine cbd_l (cbd_len (.inr rfl) ?_) | refine cbd_l (cbd_len (.inl rfl) ?_) | refine cbd_int1 ?_ | refine ite_t ?_ | refine ite_f ?_ | refine ⟨_, rfl, ?_⟩)
  refine wpe_map2 (fun d => .bl (ltP d)) (by simp) (by simp) (wpi_zipL (wpe_var rfl (wpe_slice (wpe_var rfl (wpo_some (wpe_int ⟨_, rfl, wpo_none ?_⟩))))))
  have e1 : ∀ ds : List D, cutD ds (some 1) none = ds.drop 1 := fun ds => cutD_from (k := 1)
  rcases p with ⟨zs, lz, p⟩ | ⟨xs, lx, p⟩
  · have fin : (zipD (zs.map D.int) ((zs.map D.int).drop 1)).length ≤ 100000 ∧ (∀ d ∈ zipD (zs.map D.int) ((zs.map D.int).drop 1), ∃ x y, d = .tup [x, y] ∧
        WpE ⟨E, fun _ _ => False, T⟩ (tOp (fun x y H Q => rI0 (fun i j => .bl (decide (i < j))) x y H Q ∨ (∃ i j, x = .str i ∧ y = .str j ∧ Q (.bl (decide (i.cps.toList < j.cps.toList))) H)) (tVar 1) (tVar 2)) (((wipeD [.da x', .no, .no] [1, 2]).set 1 (.da x)).set 2 (.da y)) fun z => z = .bl (ltP d)) := by
      refine ⟨by rw [zipD_len, List.length_map]; omega, fun d hd => ?_⟩
      obtain ⟨x, y, h1, h2, rfl⟩ := zip_mem hd
      obtain ⟨i, _, rfl⟩ := List.mem_map.mp h1
      obtain ⟨j, _, rfl⟩ := List.mem_map.mp (List.mem_of_mem_drop h2)
      refine ⟨_, _, rfl, ?_⟩
      repeat (first | with_reducible refine wps_nil ?_ | with_reducible refine wps_seq ?_ | refine wps_ret ?_ | refine wps_if ?_ | refine wps_newl ?_ | refine wps_set ?_ | refine wpt_not ?_ | refine wpt_or ?_ | refine wpt_and ?_ | refine wpt_B ?_ | refine wpt_test ?_ | refine wpe_var rfl ?_ | refine wpe_int ?_ | refine wpe_bl ?_ | refine wpe_str ?_ | refine wpe_non ?_ | refine wpe_ty ?_ | refine wpe_andV ?_ | refine wpe_orV ?_ | refine wpe_notV ?_ | refine wpe_if ?_ | refine wpe_call1 ?_ | refine wpe_call2 ?_ | refine wpe_call3 ?_ | refine wpe_callS rfl ?_ | refine wpe_tupL ?_ | refine wpe_lstL ?_ | refine wpe_call0 ?_ | refine wpe_cb1 ?_ | refine wpe_cb2 ?_ | refine wpe_neg ?_ | refine wpe_slice ?_ | refine wpe_op ?_ | refine wpe_chain ?_ | refine wpo_none ?_ | refine wpo_some ?_ | refine wpl_nil ?_ | refine wpl_cons ?_ | refine wpa_cons ?_ | refine wpi_zipL ?_ | refine wpi_enuT1 ?_ | refine wpi_rng1 ?_ | refine wpi_seq ?_ | refine opd_ix (n := 0) (.inr rfl) rfl rfl ?_ | refine opd_ix (n := 1) (.inr rfl) rfl rfl ?_ | refine opd_ix (n := 2) (.inr rfl) rfl rfl ?_ | refine opd_b ?_ | refine opd_l (opd_b ?_) | refine opd_i ?_ | refine opd_l (opd_eqI ?_) | refine opd_l (opd_neI ?_) | refine opd_l (opd_neS ?_) | refine opd_l (opd_eqS ?_) | refine cbd_l (cbd_len (.inr rfl) ?_) | refine cbd_l (cbd_len (.inl rfl) ?_) | refine cbd_int1 ?_ | refine ite_t ?_ | refine ite_f ?_ | refine ⟨_, rfl, ?_⟩)
      rfl
    rcases p with rfl | rfl
    · refine sld_l (sld_L ⟨_, _, .inl ⟨rfl, rfl⟩, ?_⟩)
      rw [e1]
      exact ⟨fin.1, fin.2, cbd_allm rfl⟩
    · refine sld_r (sld_T ⟨_, _, .inr ⟨rfl, rfl⟩, ?_⟩)
      rw [e1]
      exact ⟨fin.1, fin.2, cbd_allm rfl⟩
  · subst p
    refine sld_l (sld_L ⟨_, _, .inl ⟨rfl, rfl⟩, ?_⟩)
    rw [e1]
    refine ⟨by rw [zipD_len, List.length_map]; omega, fun d hd => ?_, cbd_allm rfl⟩
    obtain ⟨x, y, h1, h2, rfl⟩ := zip_mem hd
    obtain ⟨i, _, rfl⟩ := List.mem_map.mp h1
    obtain ⟨j, _, rfl⟩ := List.mem_map.mp (List.mem_of_mem_drop h2)
    refine ⟨_, _, rfl, ?_⟩
    refine wpe_op (wpe_var rfl (wpe_var rfl (opd_r (opd_ltS rfl))))
end
end Nv
namespace Nv
open PySem PySem.Spec PyProof.Rows L2
section
variable {P : Program} {w : World} {K : PySem.W.Frag} {mg : Str → Option Value} {base : Heap}
abbrev s_are_turns : Stmt := top 19
theorem sc_are_turns : FnScope ["turns", "standing", "row"] ["turns"] (defScope s_are_turns) :=
  ⟨rfl, rfl, rfl, by decide +kernel, rfl, by decide +kernel, by decide +kernel⟩
abbrev s_are_turns_of : Stmt := top 20
theorem sc_are_turns_of : FnScope ["row", "standing", "size", "goal"] ["row", "standing", "size"] (defScope s_are_turns_of) :=
  ⟨rfl, rfl, rfl, by decide +kernel, rfl, by decide +kernel, by decide +kernel⟩
abbrev s_are_asks : Stmt := top 21
theorem sc_are_asks : FnScope ["asks", "size", "row"] ["asks", "size"] (defScope s_are_asks) :=
  ⟨rfl, rfl, rfl, by decide +kernel, rfl, by decide +kernel, by decide +kernel⟩
abbrev s_are_asks_of : Stmt := top 22
theorem sc_are_asks_of : FnScope ["row", "size", "ask"] ["row", "size"] (defScope s_are_asks_of) :=
  ⟨rfl, rfl, rfl, by decide +kernel, rfl, by decide +kernel, by decide +kernel⟩
abbrev s_is_ask : Stmt := top 23
theorem sc_is_ask : FnScope ["ask", "size"] ["ask", "size"] (defScope s_is_ask) :=
  ⟨rfl, rfl, rfl, by decide +kernel, rfl, by decide +kernel, by decide +kernel⟩
abbrev s_are_answers : Stmt := top 24
theorem sc_are_answers : FnScope ["answers", "size", "answer"] ["answers", "size"] (defScope s_are_answers) :=
  ⟨rfl, rfl, rfl, by decide +kernel, rfl, by decide +kernel, by decide +kernel⟩
abbrev s_is_answer : Stmt := top 25
theorem sc_is_answer : FnScope ["answer", "size"] ["answer", "size"] (defScope s_is_answer) :=
  ⟨rfl, rfl, rfl, by decide +kernel, rfl, by decide +kernel, by decide +kernel⟩
theorem tup_of {x : D} (h : (!isTupD x) = false) : ∃ ds, x = .tup ds := by
  cases x <;> first | exact ⟨_, rfl⟩ | cases h
def isN (y : D) : Prop := ∃ n : Int, y = .int n
def c_are_turns : Spc := sp1 (fun x => okD x = true) fun x => .bl (areTurns x)
def c_are_turns_of : Spc := sp3 (fun x y z => okD x = true ∧ isN y ∧ isN z) fun x y z => .bl (areTurnsOf x (intOf y) (intOf z))
def c_are_asks : Spc := sp2 (fun x y => okD x = true ∧ isN y) fun x y => .bl (areAsks (intOf y) x)
def c_are_asks_of : Spc := sp2 (fun x y => okD x = true ∧ isN y) fun x y => .bl (areAsksOf (intOf y) x)
def c_is_ask : Spc := sp2 (fun x y => okD x = true ∧ isN y) fun x y => .bl (isAsk (intOf y) x)
def c_are_answers : Spc := sp2 (fun x y => okD x = true ∧ isN y) fun x y => .bl (areAnswers (intOf y) x)
def c_is_answer : Spc := sp2 (fun x y => okD x = true ∧ isN y) fun x y => .bl (isAnswer (intOf y) x)
theorem d_is_answer {f : Addr} {fd : FuncData} (B : Bly mg) (F : Fn K mg "is_answer" s_is_answer ["answer", "size"] f fd)
    (D_is_index : Dk P w K mg base "is_index" CX0 2 ["value", "size"] (spW c_is_index 2)) (D_is_from_zero : Dk P w K mg base "is_from_zero" CX0 2 ["value"] (spW c_is_from_zero 1)) :
    Dk P w K mg base "is_answer" CX0 3 ["answer", "size"] (spW c_is_answer 2) := by
  refine F.ok2 sc_is_answer rfl fun cdv A outer s H E x y hr ⟨p, n, hn⟩ => ⟨_, (pss_cons (ps_if (PW.pt (pw_or (pt_not (pt_val (pe_callB (call_isiK (K := K) rfl) (by rfl) B.isi b_isinstance (pa_cons (pv 0) (pa_cons (pe_bltn (v := .ty "tuple") (by rfl) B.tuple b_tuple rfl) pa_nil))))) (pw_or1 (pt_cmpR (op_neK (K := K) rfl hr.units) (pe_callB (call_lenK (K := K) rfl) (by rfl) B.len b_len (pa_cons (pv 0) pa_nil)) pe_int (by with_unfolding_all rfl))))) (pss_one (ps_ret pe_bl)) pss_nil)
    (pss_one (ps_ret (pe_and (pe_callD D_is_index (hr.mono (by decide)) (by rfl) pass0 (pa_cons (pe_ix (ix_K (K := K) rfl) (pv 0) pe_int (fun _ _ => rfl)) (pa_cons (pv 1) pa_nil))) (pe_one (pe_callD D_is_from_zero (hr.mono (by decide)) (by rfl) pass0 (pa_cons (pe_ix (ix_K (K := K) rfl) (pv 0) pe_int (fun _ _ => rfl)) pa_nil))))))), fun T => ?_⟩
  subst hn
  repeat (first | with_reducible refine wps_nil ?_ | with_reducible refine wps_seq ?_ | refine wps_ret ?_ | refine wps_if ?_ | refine wps_newl ?_ | refine wps_set ?_ | refine wpt_not ?_ | refine wpt_or ?_ | refine wpt_and ?_ | refine wpt_B ?_ | refine wpt_test ?_ | refine wpe_var rfl ?_ | refine wpe_int ?_ | refine wpe_bl ?_ | refine wpe_str ?_ | refine wpe_non ?_ | refine wpe_ty ?_ | refine wpe_andV ?_ | refine wpe_orV ?_ | refine wpe_notV ?_ | refine wpe_if ?_ | refine wpe_call1 ?_ | refine wpe_call2 ?_ | refine wpe_call3 ?_ | refine wpe_callS rfl ?_ | refine wpe_tupL ?_ | refine wpe_lstL ?_ | refine wpe_call0 ?_ | refine wpe_cb1 ?_ | refine wpe_cb2 ?_ | refine wpe_neg ?_ | refine wpe_slice ?_ | refine wpe_op ?_ | refine wpe_chain ?_ | refine wpo_none ?_ | refine wpo_some ?_ | refine wpl_nil ?_ | refine wpl_cons ?_ | refine wpa_cons ?_ | refine wpi_zipL ?_ | refine wpi_enuT1 ?_ | refine wpi_rng1 ?_ | refine wpi_seq ?_ | refine opd_ix (n := 0) (.inr rfl) rfl rfl ?_ | refine opd_ix (n := 1) (.inr rfl) rfl rfl ?_ | refine opd_ix (n := 2) (.inr rfl) rfl rfl ?_ | refine opd_b ?_ | refine opd_l (opd_b ?_) | refine opd_i ?_ | refine opd_l (opd_eqI ?_) | refine opd_l (opd_neI ?_) | refine opd_l (opd_neS ?_) | refine opd_l (opd_eqS ?_) | refine cbd_l (cbd_len (.inr rfl) ?_) | refine cbd_l (cbd_len (.inl rfl) ?_) | refine cbd_int1 ?_ | refine ite_t ?_ | refine ite_f ?_ | refine ⟨_, rfl, ?_⟩)
  refine cbd_isT (ok_pln p) ⟨_, rfl, ite_b (fun h => ?_) (fun h => ?_)⟩
  · repeat (first | with_reducible refine wps_nil ?_ | with_reducible refine wps_seq ?_ | refine wps_ret ?_ | refine wps_if ?_ | refine wps_newl ?_ | refine wps_set ?_ | refine wpt_not ?_ | refine wpt_or ?_ | refine wpt_and ?_ | refine wpt_B ?_ | refine wpt_test ?_ | refine wpe_var rfl ?_ | refine wpe_int ?_ | refine wpe_bl ?_ | refine wpe_str ?_ | refine wpe_non ?_ | refine wpe_ty ?_ | refine wpe_andV ?_ | refine wpe_orV ?_ | refine wpe_notV ?_ | refine wpe_if ?_ | refine wpe_call1 ?_ | refine wpe_call2 ?_ | refine wpe_call3 ?_ | refine wpe_callS rfl ?_ | refine wpe_tupL ?_ | refine wpe_lstL ?_ | refine wpe_call0 ?_ | refine wpe_cb1 ?_ | refine wpe_cb2 ?_ | refine wpe_neg ?_ | refine wpe_slice ?_ | refine wpe_op ?_ | refine wpe_chain ?_ | refine wpo_none ?_ | refine wpo_some ?_ | refine wpl_nil ?_ | refine wpl_cons ?_ | refine wpa_cons ?_ | refine wpi_zipL ?_ | refine wpi_enuT1 ?_ | refine wpi_rng1 ?_ | refine wpi_seq ?_ | refine opd_ix (n := 0) (.inr rfl) rfl rfl ?_ | refine opd_ix (n := 1) (.inr rfl) rfl rfl ?_ | refine opd_ix (n := 2) (.inr rfl) rfl rfl ?_ | refine opd_b ?_ | refine opd_l (opd_b ?_) | refine opd_i ?_ | refine opd_l (opd_eqI ?_) | refine opd_l (opd_neI ?_) | refine opd_l (opd_neS ?_) | refine opd_l (opd_eqS ?_) | refine cbd_l (cbd_len (.inr rfl) ?_) | refine cbd_l (cbd_len (.inl rfl) ?_) | refine cbd_int1 ?_ | refine ite_t ?_ | refine ite_f ?_ | refine ⟨_, rfl, ?_⟩)
    cases x <;> first | rfl | cases h
  · obtain ⟨ds, rfl⟩ := tup_of h
    obtain ⟨l, pk⟩ := ok_tup p
    repeat (first | with_reducible refine wps_nil ?_ | with_reducible refine wps_seq ?_ | refine wps_ret ?_ | refine wps_if ?_ | refine wps_newl ?_ | refine wps_set ?_ | refine wpt_not ?_ | refine wpt_or ?_ | refine wpt_and ?_ | refine wpt_B ?_ | refine wpt_test ?_ | refine wpe_var rfl ?_ | refine wpe_int ?_ | refine wpe_bl ?_ | refine wpe_str ?_ | refine wpe_non ?_ | refine wpe_ty ?_ | refine wpe_andV ?_ | refine wpe_orV ?_ | refine wpe_notV ?_ | refine wpe_if ?_ | refine wpe_call1 ?_ | refine wpe_call2 ?_ | refine wpe_call3 ?_ | refine wpe_callS rfl ?_ | refine wpe_tupL ?_ | refine wpe_lstL ?_ | refine wpe_call0 ?_ | refine wpe_cb1 ?_ | refine wpe_cb2 ?_ | refine wpe_neg ?_ | refine wpe_slice ?_ | refine wpe_op ?_ | refine wpe_chain ?_ | refine wpo_none ?_ | refine wpo_some ?_ | refine wpl_nil ?_ | refine wpl_cons ?_ | refine wpa_cons ?_ | refine wpi_zipL ?_ | refine wpi_enuT1 ?_ | refine wpi_rng1 ?_ | refine wpi_seq ?_ | refine opd_ix (n := 0) (.inr rfl) rfl rfl ?_ | refine opd_ix (n := 1) (.inr rfl) rfl rfl ?_ | refine opd_ix (n := 2) (.inr rfl) rfl rfl ?_ | refine opd_b ?_ | refine opd_l (opd_b ?_) | refine opd_i ?_ | refine opd_l (opd_eqI ?_) | refine opd_l (opd_neI ?_) | refine opd_l (opd_neS ?_) | refine opd_l (opd_eqS ?_) | refine cbd_l (cbd_len (.inr rfl) ?_) | refine cbd_l (cbd_len (.inl rfl) ?_) | refine cbd_int1 ?_ | refine ite_t ?_ | refine ite_f ?_ | refine ⟨_, rfl, ?_⟩)
    refine ite_b (fun h => ?_) (fun h => ?_)
    · repeat (first | with_reducible refine wps_nil ?_ | with_reducible refine wps_seq ?_ | refine wps_ret ?_ | refine wps_if ?_ | refine wps_newl ?_ | refine wps_set ?_ | refine wpt_not ?_ | refine wpt_or ?_ | refine wpt_and ?_ | refine wpt_B ?_ | refine wpt_test ?_ | refine wpe_var rfl ?_ | refine wpe_int ?_ | refine wpe_bl ?_ | refine wpe_str ?_ | refine wpe_non ?_ | refine wpe_ty ?_ | refine wpe_andV ?_ | refine wpe_orV ?_ | refine wpe_notV ?_ | refine wpe_if ?_ | refine wpe_call1 ?_ | refine wpe_call2 ?_ | refine wpe_call3 ?_ | refine wpe_callS rfl ?_ | refine wpe_tupL ?_ | refine wpe_lstL ?_ | refine wpe_call0 ?_ | refine wpe_cb1 ?_ | refine wpe_cb2 ?_ | refine wpe_neg ?_ | refine wpe_slice ?_ | refine wpe_op ?_ | refine wpe_chain ?_ | refine wpo_none ?_ | refine wpo_some ?_ | refine wpl_nil ?_ | refine wpl_cons ?_ | refine wpa_cons ?_ | refine wpi_zipL ?_ | refine wpi_enuT1 ?_ | refine wpi_rng1 ?_ | refine wpi_seq ?_ | refine opd_ix (n := 0) (.inr rfl) rfl rfl ?_ | refine opd_ix (n := 1) (.inr rfl) rfl rfl ?_ | refine opd_ix (n := 2) (.inr rfl) rfl rfl ?_ | refine opd_b ?_ | refine opd_l (opd_b ?_) | refine opd_i ?_ | refine opd_l (opd_eqI ?_) | refine opd_l (opd_neI ?_) | refine opd_l (opd_neS ?_) | refine opd_l (opd_eqS ?_) | refine cbd_l (cbd_len (.inr rfl) ?_) | refine cbd_l (cbd_len (.inl rfl) ?_) | refine cbd_int1 ?_ | refine ite_t ?_ | refine ite_f ?_ | refine ⟨_, rfl, ?_⟩)
      simp only [Bool.not_eq_true', decide_eq_false_iff_not] at h
      match ds, h with
      | [], _ => rfl
      | [a], _ => rfl
      | [a, b], h => exact absurd rfl h
      | a :: b :: c :: r, _ => rfl
    · refine wps_nil ?_
      simp only [Bool.not_eq_false', decide_eq_true_eq] at h
      obtain ⟨a, b, rfl⟩ := two_of h
      repeat (first | with_reducible refine wps_nil ?_ | with_reducible refine wps_seq ?_ | refine wps_ret ?_ | refine wps_if ?_ | refine wps_newl ?_ | refine wps_set ?_ | refine wpt_not ?_ | refine wpt_or ?_ | refine wpt_and ?_ | refine wpt_B ?_ | refine wpt_test ?_ | refine wpe_var rfl ?_ | refine wpe_int ?_ | refine wpe_bl ?_ | refine wpe_str ?_ | refine wpe_non ?_ | refine wpe_ty ?_ | refine wpe_andV ?_ | refine wpe_orV ?_ | refine wpe_notV ?_ | refine wpe_if ?_ | refine wpe_call1 ?_ | refine wpe_call2 ?_ | refine wpe_call3 ?_ | refine wpe_callS rfl ?_ | refine wpe_tupL ?_ | refine wpe_lstL ?_ | refine wpe_call0 ?_ | refine wpe_cb1 ?_ | refine wpe_cb2 ?_ | refine wpe_neg ?_ | refine wpe_slice ?_ | refine wpe_op ?_ | refine wpe_chain ?_ | refine wpo_none ?_ | refine wpo_some ?_ | refine wpl_nil ?_ | refine wpl_cons ?_ | refine wpa_cons ?_ | refine wpi_zipL ?_ | refine wpi_enuT1 ?_ | refine wpi_rng1 ?_ | refine wpi_seq ?_ | refine opd_ix (n := 0) (.inr rfl) rfl rfl ?_ | refine opd_ix (n := 1) (.inr rfl) rfl rfl ?_ | refine opd_ix (n := 2) (.inr rfl) rfl rfl ?_ | refine opd_b ?_ | refine opd_l (opd_b ?_) | refine opd_i ?_ | refine opd_l (opd_eqI ?_) | refine opd_l (opd_neI ?_) | refine opd_l (opd_neS ?_) | refine opd_l (opd_eqS ?_) | refine cbd_l (cbd_len (.inr rfl) ?_) | refine cbd_l (cbd_len (.inl rfl) ?_) | refine cbd_int1 ?_ | refine ite_t ?_ | refine ite_f ?_ | refine ⟨_, rfl, ?_⟩)
      refine ⟨⟨ok_pln (pk a (by simp)), _, rfl⟩, _, rfl, ite_b (fun h => ?_) (fun h => ?_)⟩
      · repeat (first | with_reducible refine wps_nil ?_ | with_reducible refine wps_seq ?_ | refine wps_ret ?_ | refine wps_if ?_ | refine wps_newl ?_ | refine wps_set ?_ | refine wpt_not ?_ | refine wpt_or ?_ | refine wpt_and ?_ | refine wpt_B ?_ | refine wpt_test ?_ | refine wpe_var rfl ?_ | refine wpe_int ?_ | refine wpe_bl ?_ | refine wpe_str ?_ | refine wpe_non ?_ | refine wpe_ty ?_ | refine wpe_andV ?_ | refine wpe_orV ?_ | refine wpe_notV ?_ | refine wpe_if ?_ | refine wpe_call1 ?_ | refine wpe_call2 ?_ | refine wpe_call3 ?_ | refine wpe_callS rfl ?_ | refine wpe_tupL ?_ | refine wpe_lstL ?_ | refine wpe_call0 ?_ | refine wpe_cb1 ?_ | refine wpe_cb2 ?_ | refine wpe_neg ?_ | refine wpe_slice ?_ | refine wpe_op ?_ | refine wpe_chain ?_ | refine wpo_none ?_ | refine wpo_some ?_ | refine wpl_nil ?_ | refine wpl_cons ?_ | refine wpa_cons ?_ | refine wpi_zipL ?_ | refine wpi_enuT1 ?_ | refine wpi_rng1 ?_ | refine wpi_seq ?_ | refine opd_ix (n := 0) (.inr rfl) rfl rfl ?_ | refine opd_ix (n := 1) (.inr rfl) rfl rfl ?_ | refine opd_ix (n := 2) (.inr rfl) rfl rfl ?_ | refine opd_b ?_ | refine opd_l (opd_b ?_) | refine opd_i ?_ | refine opd_l (opd_eqI ?_) | refine opd_l (opd_neI ?_) | refine opd_l (opd_neS ?_) | refine opd_l (opd_eqS ?_) | refine cbd_l (cbd_len (.inr rfl) ?_) | refine cbd_l (cbd_len (.inl rfl) ?_) | refine cbd_int1 ?_ | refine ite_t ?_ | refine ite_f ?_ | refine ⟨_, rfl, ?_⟩)
        refine ⟨ok_pln (pk b (by simp)), ?_⟩
        show D.bl _ = D.bl (isIdx n a && isNat b)
        rw [show isIdx n a = true from h]
        rfl
      · show D.bl _ = D.bl (isIdx n a && isNat b)
        rw [show isIdx n a = false from h]
        rfl
theorem fst_ints {n : Int} : ∀ {ds : List D}, ds.all (isAnswer n) = true → ∃ zs : List Int, ds.map fstD = zs.map D.int
  | [], _ => ⟨[], rfl⟩
  | d :: ds, h => by
    rw [List.all_cons, Bool.and_eq_true] at h
    obtain ⟨zs, e⟩ := fst_ints h.2
    have h1 := h.1
    unfold isAnswer at h1
    split at h1
    · next a b =>
      rw [Bool.and_eq_true] at h1
      cases a <;> first | cases h1.1 | skip
      exact ⟨_ :: zs, by rw [List.map_cons, List.map_cons, e]; rfl⟩
    · cases h1
theorem fst_strs {n : Int} : ∀ {ds : List D}, ds.all (isAsk n) = true → ∃ zs : List Str, ds.map fstD = zs.map D.str
  | [], _ => ⟨[], rfl⟩
  | d :: ds, h => by
    rw [List.all_cons, Bool.and_eq_true] at h
    obtain ⟨zs, e⟩ := fst_strs h.2
    have h1 := h.1
    unfold isAsk at h1
    split at h1
    · next a b =>
      rw [Bool.and_eq_true] at h1
      cases a <;> first | cases h1.1 | skip
      exact ⟨_ :: zs, by rw [List.map_cons, List.map_cons, e]; rfl⟩
    · cases h1
theorem ans_pair {n : Int} {d : D} (h : isAnswer n d = true) : ∃ i j, d = .tup [.int i, .int j] := by
  unfold isAnswer at h
  split at h
  · next a b =>
    rw [Bool.and_eq_true] at h
    cases a <;> first | cases h.1 | skip
    cases b <;> first | cases h.2 | skip
    exact ⟨_, _, rfl⟩
  · cases h
theorem ask_pair {n : Int} {d : D} (h : isAsk n d = true) : ∃ x b, d = .tup [.str x, b] := by
  unfold isAsk at h
  split at h
  · next a b =>
    rw [Bool.and_eq_true] at h
    cases a <;> first | cases h.1 | skip
    exact ⟨_, _, rfl⟩
  · cases h
theorem map_len {α β γ : Type} {xs : List α} {ys : List β} {f : α → γ} {g : β → γ} (h : xs.map f = ys.map g) : xs.length = ys.length := by
  have := congrArg List.length h
  rwa [List.length_map, List.length_map] at this
theorem d_are_answers {f : Addr} {fd : FuncData} (B : Bly mg) (F : Fn K mg "are_answers" s_are_answers ["answers", "size"] f fd)
    (D_is_answer : Dk P w K mg base "is_answer" CX0 3 ["answer", "size"] (spW c_is_answer 2)) (D_is_ascending : Dk P w K mg base "is_ascending" CX0 1 ["items"] (spW c_is_ascending 1)) :
    Dk P w K mg base "are_answers" CX0 4 ["answers", "size"] (spW c_are_answers 2) := by
  refine F.ok2 sc_are_answers rfl fun cdv A outer s H E x y hr ⟨p, n, hn⟩ => ⟨_, (pss_cons (ps_if (PW.pt (pw_or (pt_not (pt_val (pe_callB (call_isiK (K := K) rfl) (by rfl) B.isi b_isinstance (pa_cons (pv 0) (pa_cons (pe_bltn (v := .ty "tuple") (by rfl) B.tuple b_tuple rfl) pa_nil))))) (pw_or1 (pt_cmpR (op_eqK (K := K) rfl hr.units) (pe_callB (call_lenK (K := K) rfl) (by rfl) B.len b_len (pa_cons (pv 0) pa_nil)) pe_int (by with_unfolding_all rfl))))) (pss_one (ps_ret pe_bl)) pss_nil)
    (pss_cons (ps_if (pt_not (pt_val (pe_callB (cr_allK (K := K) rfl rfl) (by rfl) B.all b_all (pa_cons (pe_lc (own := [("answer", 2)]) (g := gName 2) (tt := tYes) (by rfl) sc_are_answers.nd (pi_seq (pv 0)) (blkOk_by (N := ["answers", "size", "answer"]) (sc := defScope s_are_answers) (by decide +kernel)) (fun _ _ _ _ _ => pg_name (i := 2) sc_are_answers.nd rfl (by first | exact Or.inl rfl | exact Or.inr rfl)) (fun _ _ _ _ _ => pts_nil) (fun _ _ _ _ _ => (pe_callD D_is_answer (hr.mono (by decide)) (by rfl) pass0 (pa_cons (pv 2) (pa_cons (pv 1) pa_nil))))) pa_nil)))) (pss_one (ps_ret pe_bl)) pss_nil)
    (pss_one (ps_ret (pe_callD D_is_ascending (hr.mono (by decide)) (by rfl) pass0 (pa_cons (pe_lc (own := [("answer", 2)]) (g := gName 2) (tt := tYes) (by rfl) sc_are_answers.nd (pi_seq (pv 0)) (blkOk_by (N := ["answers", "size", "answer"]) (sc := defScope s_are_answers) (by decide +kernel)) (fun _ _ _ _ _ => pg_name (i := 2) sc_are_answers.nd rfl (by first | exact Or.inl rfl | exact Or.inr rfl)) (fun _ _ _ _ _ => pts_nil) (fun _ _ _ _ _ => (pe_ix (ix_K (K := K) rfl) (pv 2) pe_int (fun _ _ => rfl)))) pa_nil)))))), fun T => ?_⟩
  subst hn
  repeat (first | with_reducible refine wps_nil ?_ | with_reducible refine wps_seq ?_ | refine wps_ret ?_ | refine wps_if ?_ | refine wps_newl ?_ | refine wps_set ?_ | refine wpt_not ?_ | refine wpt_or ?_ | refine wpt_and ?_ | refine wpt_B ?_ | refine wpt_test ?_ | refine wpe_var rfl ?_ | refine wpe_int ?_ | refine wpe_bl ?_ | refine wpe_str ?_ | refine wpe_non ?_ | refine wpe_ty ?_ | refine wpe_andV ?_ | refine wpe_orV ?_ | refine wpe_notV ?_ | refine wpe_if ?_ | refine wpe_call1 ?_ | refine wpe_call2 ?_ | refine wpe_call3 ?_ | refine wpe_callS rfl ?_ | refine wpe_tupL ?_ | refine wpe_lstL ?_ | refine wpe_call0 ?_ | refine wpe_cb1 ?_ | refine wpe_cb2 ?_ | refine wpe_neg ?_ | refine wpe_slice ?_ | refine wpe_op ?_ | refine wpe_chain ?_ | refine wpo_none ?_ | refine wpo_some ?_ | refine wpl_nil ?_ | refine wpl_cons ?_ | refine wpa_cons ?_ | refine wpi_zipL ?_ | refine wpi_enuT1 ?_ | refine wpi_rng1 ?_ | refine wpi_seq ?_ | refine opd_ix (n := 0) (.inr rfl) rfl rfl ?_ | refine opd_ix (n := 1) (.inr rfl) rfl rfl ?_ | refine opd_ix (n := 2) (.inr rfl) rfl rfl ?_ | refine opd_b ?_ | refine opd_l (opd_b ?_) | refine opd_i ?_ | refine opd_l (opd_eqI ?_) | refine opd_l (opd_neI ?_) | refine opd_l (opd_neS ?_) | refine opd_l (opd_eqS ?_) | refine cbd_l (cbd_len (.inr rfl) ?_) | refine cbd_l (cbd_len (.inl rfl) ?_) | refine cbd_int1 ?_ | refine ite_t ?_ | refine ite_f ?_ | refine ⟨_, rfl, ?_⟩)
  refine cbd_isT (ok_pln p) ⟨_, rfl, ite_b (fun h => ?_) (fun h => ?_)⟩
  · repeat (first | with_reducible refine wps_nil ?_ | with_reducible refine wps_seq ?_ | refine wps_ret ?_ | refine wps_if ?_ | refine wps_newl ?_ | refine wps_set ?_ | refine wpt_not ?_ | refine wpt_or ?_ | refine wpt_and ?_ | refine wpt_B ?_ | refine wpt_test ?_ | refine wpe_var rfl ?_ | refine wpe_int ?_ | refine wpe_bl ?_ | refine wpe_str ?_ | refine wpe_non ?_ | refine wpe_ty ?_ | refine wpe_andV ?_ | refine wpe_orV ?_ | refine wpe_notV ?_ | refine wpe_if ?_ | refine wpe_call1 ?_ | refine wpe_call2 ?_ | refine wpe_call3 ?_ | refine wpe_callS rfl ?_ | refine wpe_tupL ?_ | refine wpe_lstL ?_ | refine wpe_call0 ?_ | refine wpe_cb1 ?_ | refine wpe_cb2 ?_ | refine wpe_neg ?_ | refine wpe_slice ?_ | refine wpe_op ?_ | refine wpe_chain ?_ | refine wpo_none ?_ | refine wpo_some ?_ | refine wpl_nil ?_ | refine wpl_cons ?_ | refine wpa_cons ?_ | refine wpi_zipL ?_ | refine wpi_enuT1 ?_ | refine wpi_rng1 ?_ | refine wpi_seq ?_ | refine opd_ix (n := 0) (.inr rfl) rfl rfl ?_ | refine opd_ix (n := 1) (.inr rfl) rfl rfl ?_ | refine opd_ix (n := 2) (.inr rfl) rfl rfl ?_ | refine opd_b ?_ | refine opd_l (opd_b ?_) | refine opd_i ?_ | refine opd_l (opd_eqI ?_) | refine opd_l (opd_neI ?_) | refine opd_l (opd_neS ?_) | refine opd_l (opd_eqS ?_) | refine cbd_l (cbd_len (.inr rfl) ?_) | refine cbd_l (cbd_len (.inl rfl) ?_) | refine cbd_int1 ?_ | refine ite_t ?_ | refine ite_f ?_ | refine ⟨_, rfl, ?_⟩)
    cases x <;> first | rfl | cases h
  · obtain ⟨ds, rfl⟩ := tup_of h
    obtain ⟨l, pk⟩ := ok_tup p
    have eq : areAnswers n (.tup ds) = (!decide ((ds.length : Int) = 0) && (ds.all (isAnswer n) && ascD (.lst (ds.map fstD)))) := rfl
    repeat (first | with_reducible refine wps_nil ?_ | with_reducible refine wps_seq ?_ | refine wps_ret ?_ | refine wps_if ?_ | refine wps_newl ?_ | refine wps_set ?_ | refine wpt_not ?_ | refine wpt_or ?_ | refine wpt_and ?_ | refine wpt_B ?_ | refine wpt_test ?_ | refine wpe_var rfl ?_ | refine wpe_int ?_ | refine wpe_bl ?_ | refine wpe_str ?_ | refine wpe_non ?_ | refine wpe_ty ?_ | refine wpe_andV ?_ | refine wpe_orV ?_ | refine wpe_notV ?_ | refine wpe_if ?_ | refine wpe_call1 ?_ | refine wpe_call2 ?_ | refine wpe_call3 ?_ | refine wpe_callS rfl ?_ | refine wpe_tupL ?_ | refine wpe_lstL ?_ | refine wpe_call0 ?_ | refine wpe_cb1 ?_ | refine wpe_cb2 ?_ | refine wpe_neg ?_ | refine wpe_slice ?_ | refine wpe_op ?_ | refine wpe_chain ?_ | refine wpo_none ?_ | refine wpo_some ?_ | refine wpl_nil ?_ | refine wpl_cons ?_ | refine wpa_cons ?_ | refine wpi_zipL ?_ | refine wpi_enuT1 ?_ | refine wpi_rng1 ?_ | refine wpi_seq ?_ | refine opd_ix (n := 0) (.inr rfl) rfl rfl ?_ | refine opd_ix (n := 1) (.inr rfl) rfl rfl ?_ | refine opd_ix (n := 2) (.inr rfl) rfl rfl ?_ | refine opd_b ?_ | refine opd_l (opd_b ?_) | refine opd_i ?_ | refine opd_l (opd_eqI ?_) | refine opd_l (opd_neI ?_) | refine opd_l (opd_neS ?_) | refine opd_l (opd_eqS ?_) | refine cbd_l (cbd_len (.inr rfl) ?_) | refine cbd_l (cbd_len (.inl rfl) ?_) | refine cbd_int1 ?_ | refine ite_t ?_ | refine ite_f ?_ | refine ⟨_, rfl, ?_⟩)
    refine ite_b (fun h => ?_) (fun h => ?_)
    · repeat (first | with_reducible refine wps_nil ?_ | with_reducible refine wps_seq ?_ | refine wps_ret ?_ | refine wps_if ?_ | refine wps_newl ?_ | refine wps_set ?_ | refine wpt_not ?_ | refine wpt_or ?_ | refine wpt_and ?_ | refine wpt_B ?_ | refine wpt_test ?_ | refine wpe_var rfl ?_ | refine wpe_int ?_ | refine wpe_bl ?_ | refine wpe_str ?_ | refine wpe_non ?_ | refine wpe_ty ?_ | refine wpe_andV ?_ | refine wpe_orV ?_ | refine wpe_notV ?_ | refine wpe_if ?_ | refine wpe_call1 ?_ | refine wpe_call2 ?_ | refine wpe_call3 ?_ | refine wpe_callS rfl ?_ | refine wpe_tupL ?_ | refine wpe_lstL ?_ | refine wpe_call0 ?_ | refine wpe_cb1 ?_ | refine wpe_cb2 ?_ | refine wpe_neg ?_ | refine wpe_slice ?_ | refine wpe_op ?_ | refine wpe_chain ?_ | refine wpo_none ?_ | refine wpo_some ?_ | refine wpl_nil ?_ | refine wpl_cons ?_ | refine wpa_cons ?_ | refine wpi_zipL ?_ | refine wpi_enuT1 ?_ | refine wpi_rng1 ?_ | refine wpi_seq ?_ | refine opd_ix (n := 0) (.inr rfl) rfl rfl ?_ | refine opd_ix (n := 1) (.inr rfl) rfl rfl ?_ | refine opd_ix (n := 2) (.inr rfl) rfl rfl ?_ | refine opd_b ?_ | refine opd_l (opd_b ?_) | refine opd_i ?_ | refine opd_l (opd_eqI ?_) | refine opd_l (opd_neI ?_) | refine opd_l (opd_neS ?_) | refine opd_l (opd_eqS ?_) | refine cbd_l (cbd_len (.inr rfl) ?_) | refine cbd_l (cbd_len (.inl rfl) ?_) | refine cbd_int1 ?_ | refine ite_t ?_ | refine ite_f ?_ | refine ⟨_, rfl, ?_⟩)
      show D.bl false = D.bl (areAnswers n (.tup ds))
      rw [eq, h]
      rfl
    · refine wps_nil ?_
      repeat (first | with_reducible refine wps_nil ?_ | with_reducible refine wps_seq ?_ | refine wps_ret ?_ | refine wps_if ?_ | refine wps_newl ?_ | refine wps_set ?_ | refine wpt_not ?_ | refine wpt_or ?_ | refine wpt_and ?_ | refine wpt_B ?_ | refine wpt_test ?_ | refine wpe_var rfl ?_ | refine wpe_int ?_ | refine wpe_bl ?_ | refine wpe_str ?_ | refine wpe_non ?_ | refine wpe_ty ?_ | refine wpe_andV ?_ | refine wpe_orV ?_ | refine wpe_notV ?_ | refine wpe_if ?_ | refine wpe_call1 ?_ | refine wpe_call2 ?_ | refine wpe_call3 ?_ | refine wpe_callS rfl ?_ | refine wpe_tupL ?_ | refine wpe_lstL ?_ | refine wpe_call0 ?_ | refine wpe_cb1 ?_ | refine wpe_cb2 ?_ | refine wpe_neg ?_ | refine wpe_slice ?_ | refine wpe_op ?_ | refine wpe_chain ?_ | refine wpo_none ?_ | refine wpo_some ?_ | refine wpl_nil ?_ | refine wpl_cons ?_ | refine wpa_cons ?_ | refine wpi_zipL ?_ | refine wpi_enuT1 ?_ | refine wpi_rng1 ?_ | refine wpi_seq ?_ | refine opd_ix (n := 0) (.inr rfl) rfl rfl ?_ | refine opd_ix (n := 1) (.inr rfl) rfl rfl ?_ | refine opd_ix (n := 2) (.inr rfl) rfl rfl ?_ | refine opd_b ?_ | refine opd_l (opd_b ?_) | refine opd_i ?_ | refine opd_l (opd_eqI ?_) | refine opd_l (opd_neI ?_) | refine opd_l (opd_neS ?_) | refine opd_l (opd_eqS ?_) | refine cbd_l (cbd_len (.inr rfl) ?_) | refine cbd_l (cbd_len (.inl rfl) ?_) | refine cbd_int1 ?_ | refine ite_t ?_ | refine ite_f ?_ | refine ⟨_, rfl, ?_⟩)
      refine wpe_map (fun d => .bl (isAnswer n d)) (by simp) (wpi_seq (wpe_var rfl ⟨ds, .inr rfl, by omega, fun d hd => ?_, cbd_allm ?_⟩))
      · repeat (first | with_reducible refine wps_nil ?_ | with_reducible refine wps_seq ?_ | refine wps_ret ?_ | refine wps_if ?_ | refine wps_newl ?_ | refine wps_set ?_ | refine wpt_not ?_ | refine wpt_or ?_ | refine wpt_and ?_ | refine wpt_B ?_ | refine wpt_test ?_ | refine wpe_var rfl ?_ | refine wpe_int ?_ | refine wpe_bl ?_ | refine wpe_str ?_ | refine wpe_non ?_ | refine wpe_ty ?_ | refine wpe_andV ?_ | refine wpe_orV ?_ | refine wpe_notV ?_ | refine wpe_if ?_ | refine wpe_call1 ?_ | refine wpe_call2 ?_ | refine wpe_call3 ?_ | refine wpe_callS rfl ?_ | refine wpe_tupL ?_ | refine wpe_lstL ?_ | refine wpe_call0 ?_ | refine wpe_cb1 ?_ | refine wpe_cb2 ?_ | refine wpe_neg ?_ | refine wpe_slice ?_ | refine wpe_op ?_ | refine wpe_chain ?_ | refine wpo_none ?_ | refine wpo_some ?_ | refine wpl_nil ?_ | refine wpl_cons ?_ | refine wpa_cons ?_ | refine wpi_zipL ?_ | refine wpi_enuT1 ?_ | refine wpi_rng1 ?_ | refine wpi_seq ?_ | refine opd_ix (n := 0) (.inr rfl) rfl rfl ?_ | refine opd_ix (n := 1) (.inr rfl) rfl rfl ?_ | refine opd_ix (n := 2) (.inr rfl) rfl rfl ?_ | refine opd_b ?_ | refine opd_l (opd_b ?_) | refine opd_i ?_ | refine opd_l (opd_eqI ?_) | refine opd_l (opd_neI ?_) | refine opd_l (opd_neS ?_) | refine opd_l (opd_eqS ?_) | refine cbd_l (cbd_len (.inr rfl) ?_) | refine cbd_l (cbd_len (.inl rfl) ?_) | refine cbd_int1 ?_ | refine ite_t ?_ | refine ite_f ?_ | refine ⟨_, rfl, ?_⟩)
        exact ⟨⟨pk d hd, _, rfl⟩, rfl⟩
      · repeat (first | with_reducible refine wps_nil ?_ | with_reducible refine wps_seq ?_ | refine wps_ret ?_ | refine wps_if ?_ | refine wps_newl ?_ | refine wps_set ?_ | refine wpt_not ?_ | refine wpt_or ?_ | refine wpt_and ?_ | refine wpt_B ?_ | refine wpt_test ?_ | refine wpe_var rfl ?_ | refine wpe_int ?_ | refine wpe_bl ?_ | refine wpe_str ?_ | refine wpe_non ?_ | refine wpe_ty ?_ | refine wpe_andV ?_ | refine wpe_orV ?_ | refine wpe_notV ?_ | refine wpe_if ?_ | refine wpe_call1 ?_ | refine wpe_call2 ?_ | refine wpe_call3 ?_ | refine wpe_callS rfl ?_ | refine wpe_tupL ?_ | refine wpe_lstL ?_ | refine wpe_call0 ?_ | refine wpe_cb1 ?_ | refine wpe_cb2 ?_ | refine wpe_neg ?_ | refine wpe_slice ?_ | refine wpe_op ?_ | refine wpe_chain ?_ | refine wpo_none ?_ | refine wpo_some ?_ | refine wpl_nil ?_ | refine wpl_cons ?_ | refine wpa_cons ?_ | refine wpi_zipL ?_ | refine wpi_enuT1 ?_ | refine wpi_rng1 ?_ | refine wpi_seq ?_ | refine opd_ix (n := 0) (.inr rfl) rfl rfl ?_ | refine opd_ix (n := 1) (.inr rfl) rfl rfl ?_ | refine opd_ix (n := 2) (.inr rfl) rfl rfl ?_ | refine opd_b ?_ | refine opd_l (opd_b ?_) | refine opd_i ?_ | refine opd_l (opd_eqI ?_) | refine opd_l (opd_neI ?_) | refine opd_l (opd_neS ?_) | refine opd_l (opd_eqS ?_) | refine cbd_l (cbd_len (.inr rfl) ?_) | refine cbd_l (cbd_len (.inl rfl) ?_) | refine cbd_int1 ?_ | refine ite_t ?_ | refine ite_f ?_ | refine ⟨_, rfl, ?_⟩)
        refine ite_b (fun h2 => ?_) (fun h2 => ?_)
        · repeat (first | with_reducible refine wps_nil ?_ | with_reducible refine wps_seq ?_ | refine wps_ret ?_ | refine wps_if ?_ | refine wps_newl ?_ | refine wps_set ?_ | refine wpt_not ?_ | refine wpt_or ?_ | refine wpt_and ?_ | refine wpt_B ?_ | refine wpt_test ?_ | refine wpe_var rfl ?_ | refine wpe_int ?_ | refine wpe_bl ?_ | refine wpe_str ?_ | refine wpe_non ?_ | refine wpe_ty ?_ | refine wpe_andV ?_ | refine wpe_orV ?_ | refine wpe_notV ?_ | refine wpe_if ?_ | refine wpe_call1 ?_ | refine wpe_call2 ?_ | refine wpe_call3 ?_ | refine wpe_callS rfl ?_ | refine wpe_tupL ?_ | refine wpe_lstL ?_ | refine wpe_call0 ?_ | refine wpe_cb1 ?_ | refine wpe_cb2 ?_ | refine wpe_neg ?_ | refine wpe_slice ?_ | refine wpe_op ?_ | refine wpe_chain ?_ | refine wpo_none ?_ | refine wpo_some ?_ | refine wpl_nil ?_ | refine wpl_cons ?_ | refine wpa_cons ?_ | refine wpi_zipL ?_ | refine wpi_enuT1 ?_ | refine wpi_rng1 ?_ | refine wpi_seq ?_ | refine opd_ix (n := 0) (.inr rfl) rfl rfl ?_ | refine opd_ix (n := 1) (.inr rfl) rfl rfl ?_ | refine opd_ix (n := 2) (.inr rfl) rfl rfl ?_ | refine opd_b ?_ | refine opd_l (opd_b ?_) | refine opd_i ?_ | refine opd_l (opd_eqI ?_) | refine opd_l (opd_neI ?_) | refine opd_l (opd_neS ?_) | refine opd_l (opd_eqS ?_) | refine cbd_l (cbd_len (.inr rfl) ?_) | refine cbd_l (cbd_len (.inl rfl) ?_) | refine cbd_int1 ?_ | refine ite_t ?_ | refine ite_f ?_ | refine ⟨_, rfl, ?_⟩)
          show D.bl false = D.bl (areAnswers n (.tup ds))
          rw [Bool.not_eq_true'] at h2
          rw [eq, h2, Bool.false_and, Bool.and_false]
        · refine wps_nil ?_
          rw [Bool.not_eq_false'] at h2
          repeat (first | with_reducible refine wps_nil ?_ | with_reducible refine wps_seq ?_ | refine wps_ret ?_ | refine wps_if ?_ | refine wps_newl ?_ | refine wps_set ?_ | refine wpt_not ?_ | refine wpt_or ?_ | refine wpt_and ?_ | refine wpt_B ?_ | refine wpt_test ?_ | refine wpe_var rfl ?_ | refine wpe_int ?_ | refine wpe_bl ?_ | refine wpe_str ?_ | refine wpe_non ?_ | refine wpe_ty ?_ | refine wpe_andV ?_ | refine wpe_orV ?_ | refine wpe_notV ?_ | refine wpe_if ?_ | refine wpe_call1 ?_ | refine wpe_call2 ?_ | refine wpe_call3 ?_ | refine wpe_callS rfl ?_ | refine wpe_tupL ?_ | refine wpe_lstL ?_ | refine wpe_call0 ?_ | refine wpe_cb1 ?_ | refine wpe_cb2 ?_ | refine wpe_neg ?_ | refine wpe_slice ?_ | refine wpe_op ?_ | refine wpe_chain ?_ | refine wpo_none ?_ | refine wpo_some ?_ | refine wpl_nil ?_ | refine wpl_cons ?_ | refine wpa_cons ?_ | refine wpi_zipL ?_ | refine wpi_enuT1 ?_ | refine wpi_rng1 ?_ | refine wpi_seq ?_ | refine opd_ix (n := 0) (.inr rfl) rfl rfl ?_ | refine opd_ix (n := 1) (.inr rfl) rfl rfl ?_ | refine opd_ix (n := 2) (.inr rfl) rfl rfl ?_ | refine opd_b ?_ | refine opd_l (opd_b ?_) | refine opd_i ?_ | refine opd_l (opd_eqI ?_) | refine opd_l (opd_neI ?_) | refine opd_l (opd_neS ?_) | refine opd_l (opd_eqS ?_) | refine cbd_l (cbd_len (.inr rfl) ?_) | refine cbd_l (cbd_len (.inl rfl) ?_) | refine cbd_int1 ?_ | refine ite_t ?_ | refine ite_f ?_ | refine ⟨_, rfl, ?_⟩)
          refine wpe_map fstD (by simp) (wpi_seq (wpe_var rfl ⟨ds, .inr rfl, by omega, fun d hd => ?_, ?_⟩))
          · obtain ⟨i, j, rfl⟩ := ans_pair (List.all_eq_true.mp h2 d hd)
            repeat (first | with_reducible refine wps_nil ?_ | with_reducible refine wps_seq ?_ | refine wps_ret ?_ | refine wps_if ?_ | refine wps_newl ?_ | refine wps_set ?_ | refine wpt_not ?_ | refine wpt_or ?_ | refine wpt_and ?_ | refine wpt_B ?_ | refine wpt_test ?_ | refine wpe_var rfl ?_ | refine wpe_int ?_ | refine wpe_bl ?_ | refine wpe_str ?_ | refine wpe_non ?_ | refine wpe_ty ?_ | refine wpe_andV ?_ | refine wpe_orV ?_ | refine wpe_notV ?_ | refine wpe_if ?_ | refine wpe_call1 ?_ | refine wpe_call2 ?_ | refine wpe_call3 ?_ | refine wpe_callS rfl ?_ | refine wpe_tupL ?_ | refine wpe_lstL ?_ | refine wpe_call0 ?_ | refine wpe_cb1 ?_ | refine wpe_cb2 ?_ | refine wpe_neg ?_ | refine wpe_slice ?_ | refine wpe_op ?_ | refine wpe_chain ?_ | refine wpo_none ?_ | refine wpo_some ?_ | refine wpl_nil ?_ | refine wpl_cons ?_ | refine wpa_cons ?_ | refine wpi_zipL ?_ | refine wpi_enuT1 ?_ | refine wpi_rng1 ?_ | refine wpi_seq ?_ | refine opd_ix (n := 0) (.inr rfl) rfl rfl ?_ | refine opd_ix (n := 1) (.inr rfl) rfl rfl ?_ | refine opd_ix (n := 2) (.inr rfl) rfl rfl ?_ | refine opd_b ?_ | refine opd_l (opd_b ?_) | refine opd_i ?_ | refine opd_l (opd_eqI ?_) | refine opd_l (opd_neI ?_) | refine opd_l (opd_neS ?_) | refine opd_l (opd_eqS ?_) | refine cbd_l (cbd_len (.inr rfl) ?_) | refine cbd_l (cbd_len (.inl rfl) ?_) | refine cbd_int1 ?_ | refine ite_t ?_ | refine ite_f ?_ | refine ⟨_, rfl, ?_⟩)
            rfl
          · obtain ⟨zs, e⟩ := fst_ints h2
            refine ⟨.inl ⟨zs, by rw [← map_len e]; exact l, .inl (by rw [e])⟩, ?_⟩
            show D.bl _ = D.bl (areAnswers n (.tup ds))
            rw [eq, h, h2]
            rfl
theorem d_is_ask {f : Addr} {fd : FuncData} (B : Bly mg) (F : Fn K mg "is_ask" s_is_ask ["ask", "size"] f fd)
    (D_is_name : Dk P w K mg base "is_name" CX0 2 ["value"] (spW c_is_name 1)) (D_are_answers : Dk P w K mg base "are_answers" CX0 4 ["answers", "size"] (spW c_are_answers 2)) :
    Dk P w K mg base "is_ask" CX0 5 ["ask", "size"] (spW c_is_ask 2) := by
  refine F.ok2 sc_is_ask rfl fun cdv A outer s H E x y hr ⟨p, n, hn⟩ => ⟨_, (pss_cons (ps_if (PW.pt (pw_or (pt_not (pt_val (pe_callB (call_isiK (K := K) rfl) (by rfl) B.isi b_isinstance (pa_cons (pv 0) (pa_cons (pe_bltn (v := .ty "tuple") (by rfl) B.tuple b_tuple rfl) pa_nil))))) (pw_or1 (pt_cmpR (op_neK (K := K) rfl hr.units) (pe_callB (call_lenK (K := K) rfl) (by rfl) B.len b_len (pa_cons (pv 0) pa_nil)) pe_int (by with_unfolding_all rfl))))) (pss_one (ps_ret pe_bl)) pss_nil)
    (pss_one (ps_ret (pe_and (pe_callD D_is_name (hr.mono (by decide)) (by rfl) pass0 (pa_cons (pe_ix (ix_K (K := K) rfl) (pv 0) pe_int (fun _ _ => rfl)) pa_nil)) (pe_one (pe_callD D_are_answers (hr.mono (by decide)) (by rfl) pass0 (pa_cons (pe_ix (ix_K (K := K) rfl) (pv 0) pe_int (fun _ _ => rfl)) (pa_cons (pv 1) pa_nil)))))))), fun T => ?_⟩
  subst hn
  repeat (first | with_reducible refine wps_nil ?_ | with_reducible refine wps_seq ?_ | refine wps_ret ?_ | refine wps_if ?_ | refine wps_newl ?_ | refine wps_set ?_ | refine wpt_not ?_ | refine wpt_or ?_ | refine wpt_and ?_ | refine wpt_B ?_ | refine wpt_test ?_ | refine wpe_var rfl ?_ | refine wpe_int ?_ | refine wpe_bl ?_ | refine wpe_str ?_ | refine wpe_non ?_ | refine wpe_ty ?_ | refine wpe_andV ?_ | refine wpe_orV ?_ | refine wpe_notV ?_ | refine wpe_if ?_ | refine wpe_call1 ?_ | refine wpe_call2 ?_ | refine wpe_call3 ?_ | refine wpe_callS rfl ?_ | refine wpe_tupL ?_ | refine wpe_lstL ?_ | refine wpe_call0 ?_ | refine wpe_cb1 ?_ | refine wpe_cb2 ?_ | refine wpe_neg ?_ | refine wpe_slice ?_ | refine wpe_op ?_ | refine wpe_chain ?_ | refine wpo_none ?_ | refine wpo_some ?_ | refine wpl_nil ?_ | refine wpl_cons ?_ | refine wpa_cons ?_ | refine wpi_zipL ?_ | refine wpi_enuT1 ?_ | refine wpi_rng1 ?_ | refine wpi_seq ?_ | refine opd_ix (n := 0) (.inr rfl) rfl rfl ?_ | refine opd_ix (n := 1) (.inr rfl) rfl rfl ?_ | refine opd_ix (n := 2) (.inr rfl) rfl rfl ?_ | refine opd_b ?_ | refine opd_l (opd_b ?_) | refine opd_i ?_ | refine opd_l (opd_eqI ?_) | refine opd_l (opd_neI ?_) | refine opd_l (opd_neS ?_) | refine opd_l (opd_eqS ?_) | refine cbd_l (cbd_len (.inr rfl) ?_) | refine cbd_l (cbd_len (.inl rfl) ?_) | refine cbd_int1 ?_ | refine ite_t ?_ | refine ite_f ?_ | refine ⟨_, rfl, ?_⟩)
  refine cbd_isT (ok_pln p) ⟨_, rfl, ite_b (fun h => ?_) (fun h => ?_)⟩
  · repeat (first | with_reducible refine wps_nil ?_ | with_reducible refine wps_seq ?_ | refine wps_ret ?_ | refine wps_if ?_ | refine wps_newl ?_ | refine wps_set ?_ | refine wpt_not ?_ | refine wpt_or ?_ | refine wpt_and ?_ | refine wpt_B ?_ | refine wpt_test ?_ | refine wpe_var rfl ?_ | refine wpe_int ?_ | refine wpe_bl ?_ | refine wpe_str ?_ | refine wpe_non ?_ | refine wpe_ty ?_ | refine wpe_andV ?_ | refine wpe_orV ?_ | refine wpe_notV ?_ | refine wpe_if ?_ | refine wpe_call1 ?_ | refine wpe_call2 ?_ | refine wpe_call3 ?_ | refine wpe_callS rfl ?_ | refine wpe_tupL ?_ | refine wpe_lstL ?_ | refine wpe_call0 ?_ | refine wpe_cb1 ?_ | refine wpe_cb2 ?_ | refine wpe_neg ?_ | refine wpe_slice ?_ | refine wpe_op ?_ | refine wpe_chain ?_ | refine wpo_none ?_ | refine wpo_some ?_ | refine wpl_nil ?_ | refine wpl_cons ?_ | refine wpa_cons ?_ | refine wpi_zipL ?_ | refine wpi_enuT1 ?_ | refine wpi_rng1 ?_ | refine wpi_seq ?_ | refine opd_ix (n := 0) (.inr rfl) rfl rfl ?_ | refine opd_ix (n := 1) (.inr rfl) rfl rfl ?_ | refine opd_ix (n := 2) (.inr rfl) rfl rfl ?_ | refine opd_b ?_ | refine opd_l (opd_b ?_) | refine opd_i ?_ | refine opd_l (opd_eqI ?_) | refine opd_l (opd_neI ?_) | refine opd_l (opd_neS ?_) | refine opd_l (opd_eqS ?_) | refine cbd_l (cbd_len (.inr rfl) ?_) | refine cbd_l (cbd_len (.inl rfl) ?_) | refine cbd_int1 ?_ | refine ite_t ?_ | refine ite_f ?_ | refine ⟨_, rfl, ?_⟩)
    cases x <;> first | rfl | cases h
  · obtain ⟨ds, rfl⟩ := tup_of h
    obtain ⟨l, pk⟩ := ok_tup p
    repeat (first | with_reducible refine wps_nil ?_ | with_reducible refine wps_seq ?_ | refine wps_ret ?_ | refine wps_if ?_ | refine wps_newl ?_ | refine wps_set ?_ | refine wpt_not ?_ | refine wpt_or ?_ | refine wpt_and ?_ | refine wpt_B ?_ | refine wpt_test ?_ | refine wpe_var rfl ?_ | refine wpe_int ?_ | refine wpe_bl ?_ | refine wpe_str ?_ | refine wpe_non ?_ | refine wpe_ty ?_ | refine wpe_andV ?_ | refine wpe_orV ?_ | refine wpe_notV ?_ | refine wpe_if ?_ | refine wpe_call1 ?_ | refine wpe_call2 ?_ | refine wpe_call3 ?_ | refine wpe_callS rfl ?_ | refine wpe_tupL ?_ | refine wpe_lstL ?_ | refine wpe_call0 ?_ | refine wpe_cb1 ?_ | refine wpe_cb2 ?_ | refine wpe_neg ?_ | refine wpe_slice ?_ | refine wpe_op ?_ | refine wpe_chain ?_ | refine wpo_none ?_ | refine wpo_some ?_ | refine wpl_nil ?_ | refine wpl_cons ?_ | refine wpa_cons ?_ | refine wpi_zipL ?_ | refine wpi_enuT1 ?_ | refine wpi_rng1 ?_ | refine wpi_seq ?_ | refine opd_ix (n := 0) (.inr rfl) rfl rfl ?_ | refine opd_ix (n := 1) (.inr rfl) rfl rfl ?_ | refine opd_ix (n := 2) (.inr rfl) rfl rfl ?_ | refine opd_b ?_ | refine opd_l (opd_b ?_) | refine opd_i ?_ | refine opd_l (opd_eqI ?_) | refine opd_l (opd_neI ?_) | refine opd_l (opd_neS ?_) | refine opd_l (opd_eqS ?_) | refine cbd_l (cbd_len (.inr rfl) ?_) | refine cbd_l (cbd_len (.inl rfl) ?_) | refine cbd_int1 ?_ | refine ite_t ?_ | refine ite_f ?_ | refine ⟨_, rfl, ?_⟩)
    refine ite_b (fun h => ?_) (fun h => ?_)
    · repeat (first | with_reducible refine wps_nil ?_ | with_reducible refine wps_seq ?_ | refine wps_ret ?_ | refine wps_if ?_ | refine wps_newl ?_ | refine wps_set ?_ | refine wpt_not ?_ | refine wpt_or ?_ | refine wpt_and ?_ | refine wpt_B ?_ | refine wpt_test ?_ | refine wpe_var rfl ?_ | refine wpe_int ?_ | refine wpe_bl ?_ | refine wpe_str ?_ | refine wpe_non ?_ | refine wpe_ty ?_ | refine wpe_andV ?_ | refine wpe_orV ?_ | refine wpe_notV ?_ | refine wpe_if ?_ | refine wpe_call1 ?_ | refine wpe_call2 ?_ | refine wpe_call3 ?_ | refine wpe_callS rfl ?_ | refine wpe_tupL ?_ | refine wpe_lstL ?_ | refine wpe_call0 ?_ | refine wpe_cb1 ?_ | refine wpe_cb2 ?_ | refine wpe_neg ?_ | refine wpe_slice ?_ | refine wpe_op ?_ | refine wpe_chain ?_ | refine wpo_none ?_ | refine wpo_some ?_ | refine wpl_nil ?_ | refine wpl_cons ?_ | refine wpa_cons ?_ | refine wpi_zipL ?_ | refine wpi_enuT1 ?_ | refine wpi_rng1 ?_ | refine wpi_seq ?_ | refine opd_ix (n := 0) (.inr rfl) rfl rfl ?_ | refine opd_ix (n := 1) (.inr rfl) rfl rfl ?_ | refine opd_ix (n := 2) (.inr rfl) rfl rfl ?_ | refine opd_b ?_ | refine opd_l (opd_b ?_) | refine opd_i ?_ | refine opd_l (opd_eqI ?_) | refine opd_l (opd_neI ?_) | refine opd_l (opd_neS ?_) | refine opd_l (opd_eqS ?_) | refine cbd_l (cbd_len (.inr rfl) ?_) | refine cbd_l (cbd_len (.inl rfl) ?_) | refine cbd_int1 ?_ | refine ite_t ?_ | refine ite_f ?_ | refine ⟨_, rfl, ?_⟩)
      simp only [Bool.not_eq_true', decide_eq_false_iff_not] at h
      match ds, h with
      | [], _ => rfl
      | [a], _ => rfl
      | [a, b], h => exact absurd rfl h
      | a :: b :: c :: r, _ => rfl
    · refine wps_nil ?_
      simp only [Bool.not_eq_false', decide_eq_true_eq] at h
      obtain ⟨a, b, rfl⟩ := two_of h
      repeat (first | with_reducible refine wps_nil ?_ | with_reducible refine wps_seq ?_ | refine wps_ret ?_ | refine wps_if ?_ | refine wps_newl ?_ | refine wps_set ?_ | refine wpt_not ?_ | refine wpt_or ?_ | refine wpt_and ?_ | refine wpt_B ?_ | refine wpt_test ?_ | refine wpe_var rfl ?_ | refine wpe_int ?_ | refine wpe_bl ?_ | refine wpe_str ?_ | refine wpe_non ?_ | refine wpe_ty ?_ | refine wpe_andV ?_ | refine wpe_orV ?_ | refine wpe_notV ?_ | refine wpe_if ?_ | refine wpe_call1 ?_ | refine wpe_call2 ?_ | refine wpe_call3 ?_ | refine wpe_callS rfl ?_ | refine wpe_tupL ?_ | refine wpe_lstL ?_ | refine wpe_call0 ?_ | refine wpe_cb1 ?_ | refine wpe_cb2 ?_ | refine wpe_neg ?_ | refine wpe_slice ?_ | refine wpe_op ?_ | refine wpe_chain ?_ | refine wpo_none ?_ | refine wpo_some ?_ | refine wpl_nil ?_ | refine wpl_cons ?_ | refine wpa_cons ?_ | refine wpi_zipL ?_ | refine wpi_enuT1 ?_ | refine wpi_rng1 ?_ | refine wpi_seq ?_ | refine opd_ix (n := 0) (.inr rfl) rfl rfl ?_ | refine opd_ix (n := 1) (.inr rfl) rfl rfl ?_ | refine opd_ix (n := 2) (.inr rfl) rfl rfl ?_ | refine opd_b ?_ | refine opd_l (opd_b ?_) | refine opd_i ?_ | refine opd_l (opd_eqI ?_) | refine opd_l (opd_neI ?_) | refine opd_l (opd_neS ?_) | refine opd_l (opd_eqS ?_) | refine cbd_l (cbd_len (.inr rfl) ?_) | refine cbd_l (cbd_len (.inl rfl) ?_) | refine cbd_int1 ?_ | refine ite_t ?_ | refine ite_f ?_ | refine ⟨_, rfl, ?_⟩)
      refine ⟨pk a (by simp), _, rfl, ite_b (fun h => ?_) (fun h => ?_)⟩
      · repeat (first | with_reducible refine wps_nil ?_ | with_reducible refine wps_seq ?_ | refine wps_ret ?_ | refine wps_if ?_ | refine wps_newl ?_ | refine wps_set ?_ | refine wpt_not ?_ | refine wpt_or ?_ | refine wpt_and ?_ | refine wpt_B ?_ | refine wpt_test ?_ | refine wpe_var rfl ?_ | refine wpe_int ?_ | refine wpe_bl ?_ | refine wpe_str ?_ | refine wpe_non ?_ | refine wpe_ty ?_ | refine wpe_andV ?_ | refine wpe_orV ?_ | refine wpe_notV ?_ | refine wpe_if ?_ | refine wpe_call1 ?_ | refine wpe_call2 ?_ | refine wpe_call3 ?_ | refine wpe_callS rfl ?_ | refine wpe_tupL ?_ | refine wpe_lstL ?_ | refine wpe_call0 ?_ | refine wpe_cb1 ?_ | refine wpe_cb2 ?_ | refine wpe_neg ?_ | refine wpe_slice ?_ | refine wpe_op ?_ | refine wpe_chain ?_ | refine wpo_none ?_ | refine wpo_some ?_ | refine wpl_nil ?_ | refine wpl_cons ?_ | refine wpa_cons ?_ | refine wpi_zipL ?_ | refine wpi_enuT1 ?_ | refine wpi_rng1 ?_ | refine wpi_seq ?_ | refine opd_ix (n := 0) (.inr rfl) rfl rfl ?_ | refine opd_ix (n := 1) (.inr rfl) rfl rfl ?_ | refine opd_ix (n := 2) (.inr rfl) rfl rfl ?_ | refine opd_b ?_ | refine opd_l (opd_b ?_) | refine opd_i ?_ | refine opd_l (opd_eqI ?_) | refine opd_l (opd_neI ?_) | refine opd_l (opd_neS ?_) | refine opd_l (opd_eqS ?_) | refine cbd_l (cbd_len (.inr rfl) ?_) | refine cbd_l (cbd_len (.inl rfl) ?_) | refine cbd_int1 ?_ | refine ite_t ?_ | refine ite_f ?_ | refine ⟨_, rfl, ?_⟩)
        refine ⟨⟨pk b (by simp), _, rfl⟩, ?_⟩
        show D.bl _ = D.bl (isName a && areAnswers n b)
        rw [show isName a = true from h]
        rfl
      · show D.bl _ = D.bl (isName a && areAnswers n b)
        rw [show isName a = false from h]
        rfl
theorem d_are_asks_of {f : Addr} {fd : FuncData} (B : Bly mg) (F : Fn K mg "are_asks_of" s_are_asks_of ["row", "size"] f fd) (G_MOST_ASKS : Gv mg "MOST_ASKS" (.int 160))
    (D_is_ask : Dk P w K mg base "is_ask" CX0 5 ["ask", "size"] (spW c_is_ask 2)) (D_is_ascending : Dk P w K mg base "is_ascending" CX0 1 ["items"] (spW c_is_ascending 1)) :
    Dk P w K mg base "are_asks_of" CX0 6 ["row", "size"] (spW c_are_asks_of 2) := by
  refine F.ok2 sc_are_asks_of rfl fun cdv A outer s H E x y hr ⟨p, n, hn⟩ => ⟨_, (pss_cons (ps_if (PW.pt (pw_or (pt_not (pt_val (pe_callB (call_isiK (K := K) rfl) (by rfl) B.isi b_isinstance (pa_cons (pv 0) (pa_cons (pe_bltn (v := .ty "tuple") (by rfl) B.tuple b_tuple rfl) pa_nil))))) (pw_or1 (pt_cmpR op_gt (pe_callB (call_lenK (K := K) rfl) (by rfl) B.len b_len (pa_cons (pv 0) pa_nil)) (pe_gv G_MOST_ASKS (by rfl)) (nomark _))))) (pss_one (ps_ret pe_bl)) pss_nil)
    (pss_one (ps_ret (pe_and (pe_callB (cr_allK (K := K) rfl rfl) (by rfl) B.all b_all (pa_cons (pe_lc (own := [("ask", 2)]) (g := gName 2) (tt := tYes) (by rfl) sc_are_asks_of.nd (pi_seq (pv 0)) (blkOk_by (N := ["row", "size", "ask"]) (sc := defScope s_are_asks_of) (by decide +kernel)) (fun _ _ _ _ _ => pg_name (i := 2) sc_are_asks_of.nd rfl (by first | exact Or.inl rfl | exact Or.inr rfl)) (fun _ _ _ _ _ => pts_nil) (fun _ _ _ _ _ => (pe_callD D_is_ask (hr.mono (by decide)) (by rfl) pass0 (pa_cons (pv 2) (pa_cons (pv 1) pa_nil))))) pa_nil)) (pe_one (pe_callD D_is_ascending (hr.mono (by decide)) (by rfl) pass0 (pa_cons (pe_lc (own := [("ask", 2)]) (g := gName 2) (tt := tYes) (by rfl) sc_are_asks_of.nd (pi_seq (pv 0)) (blkOk_by (N := ["row", "size", "ask"]) (sc := defScope s_are_asks_of) (by decide +kernel)) (fun _ _ _ _ _ => pg_name (i := 2) sc_are_asks_of.nd rfl (by first | exact Or.inl rfl | exact Or.inr rfl)) (fun _ _ _ _ _ => pts_nil) (fun _ _ _ _ _ => (pe_ix (ix_K (K := K) rfl) (pv 2) pe_int (fun _ _ => rfl)))) pa_nil))))))), fun T => ?_⟩
  subst hn
  repeat (first | with_reducible refine wps_nil ?_ | with_reducible refine wps_seq ?_ | refine wps_ret ?_ | refine wps_if ?_ | refine wps_newl ?_ | refine wps_set ?_ | refine wpt_not ?_ | refine wpt_or ?_ | refine wpt_and ?_ | refine wpt_B ?_ | refine wpt_test ?_ | refine wpe_var rfl ?_ | refine wpe_int ?_ | refine wpe_bl ?_ | refine wpe_str ?_ | refine wpe_non ?_ | refine wpe_ty ?_ | refine wpe_andV ?_ | refine wpe_orV ?_ | refine wpe_notV ?_ | refine wpe_if ?_ | refine wpe_call1 ?_ | refine wpe_call2 ?_ | refine wpe_call3 ?_ | refine wpe_callS rfl ?_ | refine wpe_tupL ?_ | refine wpe_lstL ?_ | refine wpe_call0 ?_ | refine wpe_cb1 ?_ | refine wpe_cb2 ?_ | refine wpe_neg ?_ | refine wpe_slice ?_ | refine wpe_op ?_ | refine wpe_chain ?_ | refine wpo_none ?_ | refine wpo_some ?_ | refine wpl_nil ?_ | refine wpl_cons ?_ | refine wpa_cons ?_ | refine wpi_zipL ?_ | refine wpi_enuT1 ?_ | refine wpi_rng1 ?_ | refine wpi_seq ?_ | refine opd_ix (n := 0) (.inr rfl) rfl rfl ?_ | refine opd_ix (n := 1) (.inr rfl) rfl rfl ?_ | refine opd_ix (n := 2) (.inr rfl) rfl rfl ?_ | refine opd_b ?_ | refine opd_l (opd_b ?_) | refine opd_i ?_ | refine opd_l (opd_eqI ?_) | refine opd_l (opd_neI ?_) | refine opd_l (opd_neS ?_) | refine opd_l (opd_eqS ?_) | refine cbd_l (cbd_len (.inr rfl) ?_) | refine cbd_l (cbd_len (.inl rfl) ?_) | refine cbd_int1 ?_ | refine ite_t ?_ | refine ite_f ?_ | refine ⟨_, rfl, ?_⟩)
  refine cbd_isT (ok_pln p) ⟨_, rfl, ite_b (fun h => ?_) (fun h => ?_)⟩
  · repeat (first | with_reducible refine wps_nil ?_ | with_reducible refine wps_seq ?_ | refine wps_ret ?_ | refine wps_if ?_ | refine wps_newl ?_ | refine wps_set ?_ | refine wpt_not ?_ | refine wpt_or ?_ | refine wpt_and ?_ | refine wpt_B ?_ | refine wpt_test ?_ | refine wpe_var rfl ?_ | refine wpe_int ?_ | refine wpe_bl ?_ | refine wpe_str ?_ | refine wpe_non ?_ | refine wpe_ty ?_ | refine wpe_andV ?_ | refine wpe_orV ?_ | refine wpe_notV ?_ | refine wpe_if ?_ | refine wpe_call1 ?_ | refine wpe_call2 ?_ | refine wpe_call3 ?_ | refine wpe_callS rfl ?_ | refine wpe_tupL ?_ | refine wpe_lstL ?_ | refine wpe_call0 ?_ | refine wpe_cb1 ?_ | refine wpe_cb2 ?_ | refine wpe_neg ?_ | refine wpe_slice ?_ | refine wpe_op ?_ | refine wpe_chain ?_ | refine wpo_none ?_ | refine wpo_some ?_ | refine wpl_nil ?_ | refine wpl_cons ?_ | refine wpa_cons ?_ | refine wpi_zipL ?_ | refine wpi_enuT1 ?_ | refine wpi_rng1 ?_ | refine wpi_seq ?_ | refine opd_ix (n := 0) (.inr rfl) rfl rfl ?_ | refine opd_ix (n := 1) (.inr rfl) rfl rfl ?_ | refine opd_ix (n := 2) (.inr rfl) rfl rfl ?_ | refine opd_b ?_ | refine opd_l (opd_b ?_) | refine opd_i ?_ | refine opd_l (opd_eqI ?_) | refine opd_l (opd_neI ?_) | refine opd_l (opd_neS ?_) | refine opd_l (opd_eqS ?_) | refine cbd_l (cbd_len (.inr rfl) ?_) | refine cbd_l (cbd_len (.inl rfl) ?_) | refine cbd_int1 ?_ | refine ite_t ?_ | refine ite_f ?_ | refine ⟨_, rfl, ?_⟩)
    cases x <;> first | rfl | cases h
  · obtain ⟨ds, rfl⟩ := tup_of h
    obtain ⟨l, pk⟩ := ok_tup p
    have eq : areAsksOf n (.tup ds) = (decide ((ds.length : Int) ≤ 160) && (ds.all (isAsk n) && ascD (.lst (ds.map fstD)))) := rfl
    repeat (first | with_reducible refine wps_nil ?_ | with_reducible refine wps_seq ?_ | refine wps_ret ?_ | refine wps_if ?_ | refine wps_newl ?_ | refine wps_set ?_ | refine wpt_not ?_ | refine wpt_or ?_ | refine wpt_and ?_ | refine wpt_B ?_ | refine wpt_test ?_ | refine wpe_var rfl ?_ | refine wpe_int ?_ | refine wpe_bl ?_ | refine wpe_str ?_ | refine wpe_non ?_ | refine wpe_ty ?_ | refine wpe_andV ?_ | refine wpe_orV ?_ | refine wpe_notV ?_ | refine wpe_if ?_ | refine wpe_call1 ?_ | refine wpe_call2 ?_ | refine wpe_call3 ?_ | refine wpe_callS rfl ?_ | refine wpe_tupL ?_ | refine wpe_lstL ?_ | refine wpe_call0 ?_ | refine wpe_cb1 ?_ | refine wpe_cb2 ?_ | refine wpe_neg ?_ | refine wpe_slice ?_ | refine wpe_op ?_ | refine wpe_chain ?_ | refine wpo_none ?_ | refine wpo_some ?_ | refine wpl_nil ?_ | refine wpl_cons ?_ | refine wpa_cons ?_ | refine wpi_zipL ?_ | refine wpi_enuT1 ?_ | refine wpi_rng1 ?_ | refine wpi_seq ?_ | refine opd_ix (n := 0) (.inr rfl) rfl rfl ?_ | refine opd_ix (n := 1) (.inr rfl) rfl rfl ?_ | refine opd_ix (n := 2) (.inr rfl) rfl rfl ?_ | refine opd_b ?_ | refine opd_l (opd_b ?_) | refine opd_i ?_ | refine opd_l (opd_eqI ?_) | refine opd_l (opd_neI ?_) | refine opd_l (opd_neS ?_) | refine opd_l (opd_eqS ?_) | refine cbd_l (cbd_len (.inr rfl) ?_) | refine cbd_l (cbd_len (.inl rfl) ?_) | refine cbd_int1 ?_ | refine ite_t ?_ | refine ite_f ?_ | refine ⟨_, rfl, ?_⟩)
    refine ite_b (fun h => ?_) (fun h => ?_)
    · repeat (first | with_reducible refine wps_nil ?_ | with_reducible refine wps_seq ?_ | refine wps_ret ?_ | refine wps_if ?_ | refine wps_newl ?_ | refine wps_set ?_ | refine wpt_not ?_ | refine wpt_or ?_ | refine wpt_and ?_ | refine wpt_B ?_ | refine wpt_test ?_ | refine wpe_var rfl ?_ | refine wpe_int ?_ | refine wpe_bl ?_ | refine wpe_str ?_ | refine wpe_non ?_ | refine wpe_ty ?_ | refine wpe_andV ?_ | refine wpe_orV ?_ | refine wpe_notV ?_ | refine wpe_if ?_ | refine wpe_call1 ?_ | refine wpe_call2 ?_ | refine wpe_call3 ?_ | refine wpe_callS rfl ?_ | refine wpe_tupL ?_ | refine wpe_lstL ?_ | refine wpe_call0 ?_ | refine wpe_cb1 ?_ | refine wpe_cb2 ?_ | refine wpe_neg ?_ | refine wpe_slice ?_ | refine wpe_op ?_ | refine wpe_chain ?_ | refine wpo_none ?_ | refine wpo_some ?_ | refine wpl_nil ?_ | refine wpl_cons ?_ | refine wpa_cons ?_ | refine wpi_zipL ?_ | refine wpi_enuT1 ?_ | refine wpi_rng1 ?_ | refine wpi_seq ?_ | refine opd_ix (n := 0) (.inr rfl) rfl rfl ?_ | refine opd_ix (n := 1) (.inr rfl) rfl rfl ?_ | refine opd_ix (n := 2) (.inr rfl) rfl rfl ?_ | refine opd_b ?_ | refine opd_l (opd_b ?_) | refine opd_i ?_ | refine opd_l (opd_eqI ?_) | refine opd_l (opd_neI ?_) | refine opd_l (opd_neS ?_) | refine opd_l (opd_eqS ?_) | refine cbd_l (cbd_len (.inr rfl) ?_) | refine cbd_l (cbd_len (.inl rfl) ?_) | refine cbd_int1 ?_ | refine ite_t ?_ | refine ite_f ?_ | refine ⟨_, rfl, ?_⟩)
      show D.bl false = D.bl (areAsksOf n (.tup ds))
      have h' : ¬ (ds.length : Int) ≤ 160 := by have := of_decide_eq_true h; omega
      rw [eq, decide_eq_false h']
      rfl
    · refine wps_nil ?_
      have h' : (ds.length : Int) ≤ 160 := by have := of_decide_eq_false h; omega
      repeat (first | with_reducible refine wps_nil ?_ | with_reducible refine wps_seq ?_ | refine wps_ret ?_ | refine wps_if ?_ | refine wps_newl ?_ | refine wps_set ?_ | refine wpt_not ?_ | refine wpt_or ?_ | refine wpt_and ?_ | refine wpt_B ?_ | refine wpt_test ?_ | refine wpe_var rfl ?_ | refine wpe_int ?_ | refine wpe_bl ?_ | refine wpe_str ?_ | refine wpe_non ?_ | refine wpe_ty ?_ | refine wpe_andV ?_ | refine wpe_orV ?_ | refine wpe_notV ?_ | refine wpe_if ?_ | refine wpe_call1 ?_ | refine wpe_call2 ?_ | refine wpe_call3 ?_ | refine wpe_callS rfl ?_ | refine wpe_tupL ?_ | refine wpe_lstL ?_ | refine wpe_call0 ?_ | refine wpe_cb1 ?_ | refine wpe_cb2 ?_ | refine wpe_neg ?_ | refine wpe_slice ?_ | refine wpe_op ?_ | refine wpe_chain ?_ | refine wpo_none ?_ | refine wpo_some ?_ | refine wpl_nil ?_ | refine wpl_cons ?_ | refine wpa_cons ?_ | refine wpi_zipL ?_ | refine wpi_enuT1 ?_ | refine wpi_rng1 ?_ | refine wpi_seq ?_ | refine opd_ix (n := 0) (.inr rfl) rfl rfl ?_ | refine opd_ix (n := 1) (.inr rfl) rfl rfl ?_ | refine opd_ix (n := 2) (.inr rfl) rfl rfl ?_ | refine opd_b ?_ | refine opd_l (opd_b ?_) | refine opd_i ?_ | refine opd_l (opd_eqI ?_) | refine opd_l (opd_neI ?_) | refine opd_l (opd_neS ?_) | refine opd_l (opd_eqS ?_) | refine cbd_l (cbd_len (.inr rfl) ?_) | refine cbd_l (cbd_len (.inl rfl) ?_) | refine cbd_int1 ?_ | refine ite_t ?_ | refine ite_f ?_ | refine ⟨_, rfl, ?_⟩)
      refine wpe_map (fun d => .bl (isAsk n d)) (by simp) (wpi_seq (wpe_var rfl ⟨ds, .inr rfl, by omega, fun d hd => ?_, cbd_allm ?_⟩))
      · repeat (first | with_reducible refine wps_nil ?_ | with_reducible refine wps_seq ?_ | refine wps_ret ?_ | refine wps_if ?_ | refine wps_newl ?_ | refine wps_set ?_ | refine wpt_not ?_ | refine wpt_or ?_ | refine wpt_and ?_ | refine wpt_B ?_ | refine wpt_test ?_ | refine wpe_var rfl ?_ | refine wpe_int ?_ | refine wpe_bl ?_ | refine wpe_str ?_ | refine wpe_non ?_ | refine wpe_ty ?_ | refine wpe_andV ?_ | refine wpe_orV ?_ | refine wpe_notV ?_ | refine wpe_if ?_ | refine wpe_call1 ?_ | refine wpe_call2 ?_ | refine wpe_call3 ?_ | refine wpe_callS rfl ?_ | refine wpe_tupL ?_ | refine wpe_lstL ?_ | refine wpe_call0 ?_ | refine wpe_cb1 ?_ | refine wpe_cb2 ?_ | refine wpe_neg ?_ | refine wpe_slice ?_ | refine wpe_op ?_ | refine wpe_chain ?_ | refine wpo_none ?_ | refine wpo_some ?_ | refine wpl_nil ?_ | refine wpl_cons ?_ | refine wpa_cons ?_ | refine wpi_zipL ?_ | refine wpi_enuT1 ?_ | refine wpi_rng1 ?_ | refine wpi_seq ?_ | refine opd_ix (n := 0) (.inr rfl) rfl rfl ?_ | refine opd_ix (n := 1) (.inr rfl) rfl rfl ?_ | refine opd_ix (n := 2) (.inr rfl) rfl rfl ?_ | refine opd_b ?_ | refine opd_l (opd_b ?_) | refine opd_i ?_ | refine opd_l (opd_eqI ?_) | refine opd_l (opd_neI ?_) | refine opd_l (opd_neS ?_) | refine opd_l (opd_eqS ?_) | refine cbd_l (cbd_len (.inr rfl) ?_) | refine cbd_l (cbd_len (.inl rfl) ?_) | refine cbd_int1 ?_ | refine ite_t ?_ | refine ite_f ?_ | refine ⟨_, rfl, ?_⟩)
        exact ⟨⟨pk d hd, _, rfl⟩, rfl⟩
      · repeat (first | with_reducible refine wps_nil ?_ | with_reducible refine wps_seq ?_ | refine wps_ret ?_ | refine wps_if ?_ | refine wps_newl ?_ | refine wps_set ?_ | refine wpt_not ?_ | refine wpt_or ?_ | refine wpt_and ?_ | refine wpt_B ?_ | refine wpt_test ?_ | refine wpe_var rfl ?_ | refine wpe_int ?_ | refine wpe_bl ?_ | refine wpe_str ?_ | refine wpe_non ?_ | refine wpe_ty ?_ | refine wpe_andV ?_ | refine wpe_orV ?_ | refine wpe_notV ?_ | refine wpe_if ?_ | refine wpe_call1 ?_ | refine wpe_call2 ?_ | refine wpe_call3 ?_ | refine wpe_callS rfl ?_ | refine wpe_tupL ?_ | refine wpe_lstL ?_ | refine wpe_call0 ?_ | refine wpe_cb1 ?_ | refine wpe_cb2 ?_ | refine wpe_neg ?_ | refine wpe_slice ?_ | refine wpe_op ?_ | refine wpe_chain ?_ | refine wpo_none ?_ | refine wpo_some ?_ | refine wpl_nil ?_ | refine wpl_cons ?_ | refine wpa_cons ?_ | refine wpi_zipL ?_ | refine wpi_enuT1 ?_ | refine wpi_rng1 ?_ | refine wpi_seq ?_ | refine opd_ix (n := 0) (.inr rfl) rfl rfl ?_ | refine opd_ix (n := 1) (.inr rfl) rfl rfl ?_ | refine opd_ix (n := 2) (.inr rfl) rfl rfl ?_ | refine opd_b ?_ | refine opd_l (opd_b ?_) | refine opd_i ?_ | refine opd_l (opd_eqI ?_) | refine opd_l (opd_neI ?_) | refine opd_l (opd_neS ?_) | refine opd_l (opd_eqS ?_) | refine cbd_l (cbd_len (.inr rfl) ?_) | refine cbd_l (cbd_len (.inl rfl) ?_) | refine cbd_int1 ?_ | refine ite_t ?_ | refine ite_f ?_ | refine ⟨_, rfl, ?_⟩)
        refine ite_b (fun h2 => ?_) (fun h2 => ?_)
        · repeat (first | with_reducible refine wps_nil ?_ | with_reducible refine wps_seq ?_ | refine wps_ret ?_ | refine wps_if ?_ | refine wps_newl ?_ | refine wps_set ?_ | refine wpt_not ?_ | refine wpt_or ?_ | refine wpt_and ?_ | refine wpt_B ?_ | refine wpt_test ?_ | refine wpe_var rfl ?_ | refine wpe_int ?_ | refine wpe_bl ?_ | refine wpe_str ?_ | refine wpe_non ?_ | refine wpe_ty ?_ | refine wpe_andV ?_ | refine wpe_orV ?_ | refine wpe_notV ?_ | refine wpe_if ?_ | refine wpe_call1 ?_ | refine wpe_call2 ?_ | refine wpe_call3 ?_ | refine wpe_callS rfl ?_ | refine wpe_tupL ?_ | refine wpe_lstL ?_ | refine wpe_call0 ?_ | refine wpe_cb1 ?_ | refine wpe_cb2 ?_ | refine wpe_neg ?_ | refine wpe_slice ?_ | refine wpe_op ?_ | refine wpe_chain ?_ | refine wpo_none ?_ | refine wpo_some ?_ | refine wpl_nil ?_ | refine wpl_cons ?_ | refine wpa_cons ?_ | refine wpi_zipL ?_ | refine wpi_enuT1 ?_ | refine wpi_rng1 ?_ | refine wpi_seq ?_ | refine opd_ix (n := 0) (.inr rfl) rfl rfl ?_ | refine opd_ix (n := 1) (.inr rfl) rfl rfl ?_ | refine opd_ix (n := 2) (.inr rfl) rfl rfl ?_ | refine opd_b ?_ | refine opd_l (opd_b ?_) | refine opd_i ?_ | refine opd_l (opd_eqI ?_) | refine opd_l (opd_neI ?_) | refine opd_l (opd_neS ?_) | refine opd_l (opd_eqS ?_) | refine cbd_l (cbd_len (.inr rfl) ?_) | refine cbd_l (cbd_len (.inl rfl) ?_) | refine cbd_int1 ?_ | refine ite_t ?_ | refine ite_f ?_ | refine ⟨_, rfl, ?_⟩)
          refine wpe_map fstD (by simp) (wpi_seq (wpe_var rfl ⟨ds, .inr rfl, by omega, fun d hd => ?_, ?_⟩))
          · obtain ⟨i, j, rfl⟩ := ask_pair (List.all_eq_true.mp h2 d hd)
            repeat (first | with_reducible refine wps_nil ?_ | with_reducible refine wps_seq ?_ | refine wps_ret ?_ | refine wps_if ?_ | refine wps_newl ?_ | refine wps_set ?_ | refine wpt_not ?_ | refine wpt_or ?_ | refine wpt_and ?_ | refine wpt_B ?_ | refine wpt_test ?_ | refine wpe_var rfl ?_ | refine wpe_int ?_ | refine wpe_bl ?_ | refine wpe_str ?_ | refine wpe_non ?_ | refine wpe_ty ?_ | refine wpe_andV ?_ | refine wpe_orV ?_ | refine wpe_notV ?_ | refine wpe_if ?_ | refine wpe_call1 ?_ | refine wpe_call2 ?_ | refine wpe_call3 ?_ | refine wpe_callS rfl ?_ | refine wpe_tupL ?_ | refine wpe_lstL ?_ | refine wpe_call0 ?_ | refine wpe_cb1 ?_ | refine wpe_cb2 ?_ | refine wpe_neg ?_ | refine wpe_slice ?_ | refine wpe_op ?_ | refine wpe_chain ?_ | refine wpo_none ?_ | refine wpo_some ?_ | refine wpl_nil ?_ | refine wpl_cons ?_ | refine wpa_cons ?_ | refine wpi_zipL ?_ | refine wpi_enuT1 ?_ | refine wpi_rng1 ?_ | refine wpi_seq ?_ | refine opd_ix (n := 0) (.inr rfl) rfl rfl ?_ | refine opd_ix (n := 1) (.inr rfl) rfl rfl ?_ | refine opd_ix (n := 2) (.inr rfl) rfl rfl ?_ | refine opd_b ?_ | refine opd_l (opd_b ?_) | refine opd_i ?_ | refine opd_l (opd_eqI ?_) | refine opd_l (opd_neI ?_) | refine opd_l (opd_neS ?_) | refine opd_l (opd_eqS ?_) | refine cbd_l (cbd_len (.inr rfl) ?_) | refine cbd_l (cbd_len (.inl rfl) ?_) | refine cbd_int1 ?_ | refine ite_t ?_ | refine ite_f ?_ | refine ⟨_, rfl, ?_⟩)
            rfl
          · obtain ⟨zs, e⟩ := fst_strs h2
            refine ⟨.inr ⟨zs, by rw [← map_len e]; exact l, by rw [e]⟩, ?_⟩
            show D.bl _ = D.bl (areAsksOf n (.tup ds))
            rw [eq, decide_eq_true h', h2]
            rfl
        · show D.bl false = D.bl (areAsksOf n (.tup ds))
          rw [eq, h2, Bool.false_and, Bool.and_false]
theorem d_are_asks {f : Addr} {fd : FuncData} (B : Bly mg) (F : Fn K mg "are_asks" s_are_asks ["asks", "size"] f fd)
    (D_are_asks_of : Dk P w K mg base "are_asks_of" CX0 6 ["row", "size"] (spW c_are_asks_of 2)) :
    Dk P w K mg base "are_asks" CX0 7 ["asks", "size"] (spW c_are_asks 2) := by
  refine F.ok2 sc_are_asks rfl fun cdv A outer s H E x y hr ⟨p, n, hn⟩ => ⟨_, (pss_cons (ps_if (PW.pt (pw_or (pt_not (pt_val (pe_callB (call_isiK (K := K) rfl) (by rfl) B.isi b_isinstance (pa_cons (pv 0) (pa_cons (pe_bltn (v := .ty "tuple") (by rfl) B.tuple b_tuple rfl) pa_nil))))) (pw_or1 (pt_cmpR (op_neK (K := K) rfl hr.units) (pe_callB (call_lenK (K := K) rfl) (by rfl) B.len b_len (pa_cons (pv 0) pa_nil)) (pv 1) (by with_unfolding_all rfl))))) (pss_one (ps_ret pe_bl)) pss_nil)
    (pss_one (ps_ret (pe_callB (cr_allK (K := K) rfl rfl) (by rfl) B.all b_all (pa_cons (pe_lc (own := [("row", 2)]) (g := gName 2) (tt := tYes) (by rfl) sc_are_asks.nd (pi_seq (pv 0)) (blkOk_by (N := ["asks", "size", "row"]) (sc := defScope s_are_asks) (by decide +kernel)) (fun _ _ _ _ _ => pg_name (i := 2) sc_are_asks.nd rfl (by first | exact Or.inl rfl | exact Or.inr rfl)) (fun _ _ _ _ _ => pts_nil) (fun _ _ _ _ _ => (pe_callD D_are_asks_of (hr.mono (by decide)) (by rfl) pass0 (pa_cons (pv 2) (pa_cons (pv 1) pa_nil))))) pa_nil))))), fun T => ?_⟩
  subst hn
  repeat (first | with_reducible refine wps_nil ?_ | with_reducible refine wps_seq ?_ | refine wps_ret ?_ | refine wps_if ?_ | refine wps_newl ?_ | refine wps_set ?_ | refine wpt_not ?_ | refine wpt_or ?_ | refine wpt_and ?_ | refine wpt_B ?_ | refine wpt_test ?_ | refine wpe_var rfl ?_ | refine wpe_int ?_ | refine wpe_bl ?_ | refine wpe_str ?_ | refine wpe_non ?_ | refine wpe_ty ?_ | refine wpe_andV ?_ | refine wpe_orV ?_ | refine wpe_notV ?_ | refine wpe_if ?_ | refine wpe_call1 ?_ | refine wpe_call2 ?_ | refine wpe_call3 ?_ | refine wpe_callS rfl ?_ | refine wpe_tupL ?_ | refine wpe_lstL ?_ | refine wpe_call0 ?_ | refine wpe_cb1 ?_ | refine wpe_cb2 ?_ | refine wpe_neg ?_ | refine wpe_slice ?_ | refine wpe_op ?_ | refine wpe_chain ?_ | refine wpo_none ?_ | refine wpo_some ?_ | refine wpl_nil ?_ | refine wpl_cons ?_ | refine wpa_cons ?_ | refine wpi_zipL ?_ | refine wpi_enuT1 ?_ | refine wpi_rng1 ?_ | refine wpi_seq ?_ | refine opd_ix (n := 0) (.inr rfl) rfl rfl ?_ | refine opd_ix (n := 1) (.inr rfl) rfl rfl ?_ | refine opd_ix (n := 2) (.inr rfl) rfl rfl ?_ | refine opd_b ?_ | refine opd_l (opd_b ?_) | refine opd_i ?_ | refine opd_l (opd_eqI ?_) | refine opd_l (opd_neI ?_) | refine opd_l (opd_neS ?_) | refine opd_l (opd_eqS ?_) | refine cbd_l (cbd_len (.inr rfl) ?_) | refine cbd_l (cbd_len (.inl rfl) ?_) | refine cbd_int1 ?_ | refine ite_t ?_ | refine ite_f ?_ | refine ⟨_, rfl, ?_⟩)
  refine cbd_isT (ok_pln p) ⟨_, rfl, ite_b (fun h => ?_) (fun h => ?_)⟩
  · repeat (first | with_reducible refine wps_nil ?_ | with_reducible refine wps_seq ?_ | refine wps_ret ?_ | refine wps_if ?_ | refine wps_newl ?_ | refine wps_set ?_ | refine wpt_not ?_ | refine wpt_or ?_ | refine wpt_and ?_ | refine wpt_B ?_ | refine wpt_test ?_ | refine wpe_var rfl ?_ | refine wpe_int ?_ | refine wpe_bl ?_ | refine wpe_str ?_ | refine wpe_non ?_ | refine wpe_ty ?_ | refine wpe_andV ?_ | refine wpe_orV ?_ | refine wpe_notV ?_ | refine wpe_if ?_ | refine wpe_call1 ?_ | refine wpe_call2 ?_ | refine wpe_call3 ?_ | refine wpe_callS rfl ?_ | refine wpe_tupL ?_ | refine wpe_lstL ?_ | refine wpe_call0 ?_ | refine wpe_cb1 ?_ | refine wpe_cb2 ?_ | refine wpe_neg ?_ | refine wpe_slice ?_ | refine wpe_op ?_ | refine wpe_chain ?_ | refine wpo_none ?_ | refine wpo_some ?_ | refine wpl_nil ?_ | refine wpl_cons ?_ | refine wpa_cons ?_ | refine wpi_zipL ?_ | refine wpi_enuT1 ?_ | refine wpi_rng1 ?_ | refine wpi_seq ?_ | refine opd_ix (n := 0) (.inr rfl) rfl rfl ?_ | refine opd_ix (n := 1) (.inr rfl) rfl rfl ?_ | refine opd_ix (n := 2) (.inr rfl) rfl rfl ?_ | refine opd_b ?_ | refine opd_l (opd_b ?_) | refine opd_i ?_ | refine opd_l (opd_eqI ?_) | refine opd_l (opd_neI ?_) | refine opd_l (opd_neS ?_) | refine opd_l (opd_eqS ?_) | refine cbd_l (cbd_len (.inr rfl) ?_) | refine cbd_l (cbd_len (.inl rfl) ?_) | refine cbd_int1 ?_ | refine ite_t ?_ | refine ite_f ?_ | refine ⟨_, rfl, ?_⟩)
    cases x <;> first | rfl | cases h
  · obtain ⟨ds, rfl⟩ := tup_of h
    obtain ⟨l, pk⟩ := ok_tup p
    have eq : areAsks n (.tup ds) = (decide ((ds.length : Int) = n) && ds.all (areAsksOf n)) := rfl
    repeat (first | with_reducible refine wps_nil ?_ | with_reducible refine wps_seq ?_ | refine wps_ret ?_ | refine wps_if ?_ | refine wps_newl ?_ | refine wps_set ?_ | refine wpt_not ?_ | refine wpt_or ?_ | refine wpt_and ?_ | refine wpt_B ?_ | refine wpt_test ?_ | refine wpe_var rfl ?_ | refine wpe_int ?_ | refine wpe_bl ?_ | refine wpe_str ?_ | refine wpe_non ?_ | refine wpe_ty ?_ | refine wpe_andV ?_ | refine wpe_orV ?_ | refine wpe_notV ?_ | refine wpe_if ?_ | refine wpe_call1 ?_ | refine wpe_call2 ?_ | refine wpe_call3 ?_ | refine wpe_callS rfl ?_ | refine wpe_tupL ?_ | refine wpe_lstL ?_ | refine wpe_call0 ?_ | refine wpe_cb1 ?_ | refine wpe_cb2 ?_ | refine wpe_neg ?_ | refine wpe_slice ?_ | refine wpe_op ?_ | refine wpe_chain ?_ | refine wpo_none ?_ | refine wpo_some ?_ | refine wpl_nil ?_ | refine wpl_cons ?_ | refine wpa_cons ?_ | refine wpi_zipL ?_ | refine wpi_enuT1 ?_ | refine wpi_rng1 ?_ | refine wpi_seq ?_ | refine opd_ix (n := 0) (.inr rfl) rfl rfl ?_ | refine opd_ix (n := 1) (.inr rfl) rfl rfl ?_ | refine opd_ix (n := 2) (.inr rfl) rfl rfl ?_ | refine opd_b ?_ | refine opd_l (opd_b ?_) | refine opd_i ?_ | refine opd_l (opd_eqI ?_) | refine opd_l (opd_neI ?_) | refine opd_l (opd_neS ?_) | refine opd_l (opd_eqS ?_) | refine cbd_l (cbd_len (.inr rfl) ?_) | refine cbd_l (cbd_len (.inl rfl) ?_) | refine cbd_int1 ?_ | refine ite_t ?_ | refine ite_f ?_ | refine ⟨_, rfl, ?_⟩)
    refine ite_b (fun h => ?_) (fun h => ?_)
    · repeat (first | with_reducible refine wps_nil ?_ | with_reducible refine wps_seq ?_ | refine wps_ret ?_ | refine wps_if ?_ | refine wps_newl ?_ | refine wps_set ?_ | refine wpt_not ?_ | refine wpt_or ?_ | refine wpt_and ?_ | refine wpt_B ?_ | refine wpt_test ?_ | refine wpe_var rfl ?_ | refine wpe_int ?_ | refine wpe_bl ?_ | refine wpe_str ?_ | refine wpe_non ?_ | refine wpe_ty ?_ | refine wpe_andV ?_ | refine wpe_orV ?_ | refine wpe_notV ?_ | refine wpe_if ?_ | refine wpe_call1 ?_ | refine wpe_call2 ?_ | refine wpe_call3 ?_ | refine wpe_callS rfl ?_ | refine wpe_tupL ?_ | refine wpe_lstL ?_ | refine wpe_call0 ?_ | refine wpe_cb1 ?_ | refine wpe_cb2 ?_ | refine wpe_neg ?_ | refine wpe_slice ?_ | refine wpe_op ?_ | refine wpe_chain ?_ | refine wpo_none ?_ | refine wpo_some ?_ | refine wpl_nil ?_ | refine wpl_cons ?_ | refine wpa_cons ?_ | refine wpi_zipL ?_ | refine wpi_enuT1 ?_ | refine wpi_rng1 ?_ | refine wpi_seq ?_ | refine opd_ix (n := 0) (.inr rfl) rfl rfl ?_ | refine opd_ix (n := 1) (.inr rfl) rfl rfl ?_ | refine opd_ix (n := 2) (.inr rfl) rfl rfl ?_ | refine opd_b ?_ | refine opd_l (opd_b ?_) | refine opd_i ?_ | refine opd_l (opd_eqI ?_) | refine opd_l (opd_neI ?_) | refine opd_l (opd_neS ?_) | refine opd_l (opd_eqS ?_) | refine cbd_l (cbd_len (.inr rfl) ?_) | refine cbd_l (cbd_len (.inl rfl) ?_) | refine cbd_int1 ?_ | refine ite_t ?_ | refine ite_f ?_ | refine ⟨_, rfl, ?_⟩)
      show D.bl false = D.bl (areAsks n (.tup ds))
      rw [Bool.not_eq_true'] at h
      rw [eq, h]
      rfl
    · refine wps_nil ?_
      rw [Bool.not_eq_false'] at h
      repeat (first | with_reducible refine wps_nil ?_ | with_reducible refine wps_seq ?_ | refine wps_ret ?_ | refine wps_if ?_ | refine wps_newl ?_ | refine wps_set ?_ | refine wpt_not ?_ | refine wpt_or ?_ | refine wpt_and ?_ | refine wpt_B ?_ | refine wpt_test ?_ | refine wpe_var rfl ?_ | refine wpe_int ?_ | refine wpe_bl ?_ | refine wpe_str ?_ | refine wpe_non ?_ | refine wpe_ty ?_ | refine wpe_andV ?_ | refine wpe_orV ?_ | refine wpe_notV ?_ | refine wpe_if ?_ | refine wpe_call1 ?_ | refine wpe_call2 ?_ | refine wpe_call3 ?_ | refine wpe_callS rfl ?_ | refine wpe_tupL ?_ | refine wpe_lstL ?_ | refine wpe_call0 ?_ | refine wpe_cb1 ?_ | refine wpe_cb2 ?_ | refine wpe_neg ?_ | refine wpe_slice ?_ | refine wpe_op ?_ | refine wpe_chain ?_ | refine wpo_none ?_ | refine wpo_some ?_ | refine wpl_nil ?_ | refine wpl_cons ?_ | refine wpa_cons ?_ | refine wpi_zipL ?_ | refine wpi_enuT1 ?_ | refine wpi_rng1 ?_ | refine wpi_seq ?_ | refine opd_ix (n := 0) (.inr rfl) rfl rfl ?_ | refine opd_ix (n := 1) (.inr rfl) rfl rfl ?_ | refine opd_ix (n := 2) (.inr rfl) rfl rfl ?_ | refine opd_b ?_ | refine opd_l (opd_b ?_) | refine opd_i ?_ | refine opd_l (opd_eqI ?_) | refine opd_l (opd_neI ?_) | refine opd_l (opd_neS ?_) | refine opd_l (opd_eqS ?_) | refine cbd_l (cbd_len (.inr rfl) ?_) | refine cbd_l (cbd_len (.inl rfl) ?_) | refine cbd_int1 ?_ | refine ite_t ?_ | refine ite_f ?_ | refine ⟨_, rfl, ?_⟩)
      refine wpe_map (fun d => .bl (areAsksOf n d)) (by simp) (wpi_seq (wpe_var rfl ⟨ds, .inr rfl, by omega, fun d hd => ?_, cbd_allm ?_⟩))
      · repeat (first | with_reducible refine wps_nil ?_ | with_reducible refine wps_seq ?_ | refine wps_ret ?_ | refine wps_if ?_ | refine wps_newl ?_ | refine wps_set ?_ | refine wpt_not ?_ | refine wpt_or ?_ | refine wpt_and ?_ | refine wpt_B ?_ | refine wpt_test ?_ | refine wpe_var rfl ?_ | refine wpe_int ?_ | refine wpe_bl ?_ | refine wpe_str ?_ | refine wpe_non ?_ | refine wpe_ty ?_ | refine wpe_andV ?_ | refine wpe_orV ?_ | refine wpe_notV ?_ | refine wpe_if ?_ | refine wpe_call1 ?_ | refine wpe_call2 ?_ | refine wpe_call3 ?_ | refine wpe_callS rfl ?_ | refine wpe_tupL ?_ | refine wpe_lstL ?_ | refine wpe_call0 ?_ | refine wpe_cb1 ?_ | refine wpe_cb2 ?_ | refine wpe_neg ?_ | refine wpe_slice ?_ | refine wpe_op ?_ | refine wpe_chain ?_ | refine wpo_none ?_ | refine wpo_some ?_ | refine wpl_nil ?_ | refine wpl_cons ?_ | refine wpa_cons ?_ | refine wpi_zipL ?_ | refine wpi_enuT1 ?_ | refine wpi_rng1 ?_ | refine wpi_seq ?_ | refine opd_ix (n := 0) (.inr rfl) rfl rfl ?_ | refine opd_ix (n := 1) (.inr rfl) rfl rfl ?_ | refine opd_ix (n := 2) (.inr rfl) rfl rfl ?_ | refine opd_b ?_ | refine opd_l (opd_b ?_) | refine opd_i ?_ | refine opd_l (opd_eqI ?_) | refine opd_l (opd_neI ?_) | refine opd_l (opd_neS ?_) | refine opd_l (opd_eqS ?_) | refine cbd_l (cbd_len (.inr rfl) ?_) | refine cbd_l (cbd_len (.inl rfl) ?_) | refine cbd_int1 ?_ | refine ite_t ?_ | refine ite_f ?_ | refine ⟨_, rfl, ?_⟩)
        exact ⟨⟨pk d hd, _, rfl⟩, rfl⟩
      · show D.bl _ = D.bl (areAsks n (.tup ds))
        rw [eq, h]
        rfl
theorem d_are_turns_of {f : Addr} {fd : FuncData} (B : Bly mg) (F : Fn K mg "are_turns_of" s_are_turns_of ["row", "standing", "size"] f fd)
    (D_is_index : Dk P w K mg base "is_index" CX0 2 ["value", "size"] (spW c_is_index 2)) (D_is_ascending : Dk P w K mg base "is_ascending" CX0 1 ["items"] (spW c_is_ascending 1)) :
    Dk P w K mg base "are_turns_of" CX0 3 ["row", "standing", "size"] (spW c_are_turns_of 3) := by
  refine F.ok3 sc_are_turns_of rfl fun cdv A outer s H E x y z hr ⟨p, ⟨i, hi⟩, n, hn⟩ => ⟨_, (pss_cons (ps_if (PW.pt (pw_or (pt_not (pt_val (pe_callB (call_isiK (K := K) rfl) (by rfl) B.isi b_isinstance (pa_cons (pv 0) (pa_cons (pe_bltn (v := .ty "tuple") (by rfl) B.tuple b_tuple rfl) pa_nil))))) (pw_or1 (pt_not (pt_val (pe_callB (cr_allK (K := K) rfl rfl) (by rfl) B.all b_all (pa_cons (pe_lc (own := [("goal", 3)]) (g := gName 3) (tt := tYes) (by rfl) sc_are_turns_of.nd (pi_seq (pv 0)) (blkOk_by (N := ["row", "standing", "size", "goal"]) (sc := defScope s_are_turns_of) (by decide +kernel)) (fun _ _ _ _ _ => pg_name (i := 3) sc_are_turns_of.nd rfl (by first | exact Or.inl rfl | exact Or.inr rfl)) (fun _ _ _ _ _ => pts_nil) (fun _ _ _ _ _ => (pe_callD D_is_index (hr.mono (by decide)) (by rfl) pass0 (pa_cons (pv 3) (pa_cons (pv 2) pa_nil))))) pa_nil))))))) (pss_one (ps_ret pe_bl)) pss_nil)
    (pss_one (ps_ret (pe_and (pe_callD D_is_ascending (hr.mono (by decide)) (by rfl) pass0 (pa_cons (pv 0) pa_nil)) (pe_one (pe_cmpR (op_notinK (K := K) rfl) (pv 1) (pv 0) (by with_unfolding_all rfl))))))), fun T => ?_⟩
  subst hi
  subst hn
  repeat (first | with_reducible refine wps_nil ?_ | with_reducible refine wps_seq ?_ | refine wps_ret ?_ | refine wps_if ?_ | refine wps_newl ?_ | refine wps_set ?_ | refine wpt_not ?_ | refine wpt_or ?_ | refine wpt_and ?_ | refine wpt_B ?_ | refine wpt_test ?_ | refine wpe_var rfl ?_ | refine wpe_int ?_ | refine wpe_bl ?_ | refine wpe_str ?_ | refine wpe_non ?_ | refine wpe_ty ?_ | refine wpe_andV ?_ | refine wpe_orV ?_ | refine wpe_notV ?_ | refine wpe_if ?_ | refine wpe_call1 ?_ | refine wpe_call2 ?_ | refine wpe_call3 ?_ | refine wpe_callS rfl ?_ | refine wpe_tupL ?_ | refine wpe_lstL ?_ | refine wpe_call0 ?_ | refine wpe_cb1 ?_ | refine wpe_cb2 ?_ | refine wpe_neg ?_ | refine wpe_slice ?_ | refine wpe_op ?_ | refine wpe_chain ?_ | refine wpo_none ?_ | refine wpo_some ?_ | refine wpl_nil ?_ | refine wpl_cons ?_ | refine wpa_cons ?_ | refine wpi_zipL ?_ | refine wpi_enuT1 ?_ | refine wpi_rng1 ?_ | refine wpi_seq ?_ | refine opd_ix (n := 0) (.inr rfl) rfl rfl ?_ | refine opd_ix (n := 1) (.inr rfl) rfl rfl ?_ | refine opd_ix (n := 2) (.inr rfl) rfl rfl ?_ | refine opd_b ?_ | refine opd_l (opd_b ?_) | refine opd_i ?_ | refine opd_l (opd_eqI ?_) | refine opd_l (opd_neI ?_) | refine opd_l (opd_neS ?_) | refine opd_l (opd_eqS ?_) | refine cbd_l (cbd_len (.inr rfl) ?_) | refine cbd_l (cbd_len (.inl rfl) ?_) | refine cbd_int1 ?_ | refine ite_t ?_ | refine ite_f ?_ | refine ⟨_, rfl, ?_⟩)
  refine cbd_isT (ok_pln p) ⟨_, rfl, ite_b (fun h => ?_) (fun h => ?_)⟩
  · repeat (first | with_reducible refine wps_nil ?_ | with_reducible refine wps_seq ?_ | refine wps_ret ?_ | refine wps_if ?_ | refine wps_newl ?_ | refine wps_set ?_ | refine wpt_not ?_ | refine wpt_or ?_ | refine wpt_and ?_ | refine wpt_B ?_ | refine wpt_test ?_ | refine wpe_var rfl ?_ | refine wpe_int ?_ | refine wpe_bl ?_ | refine wpe_str ?_ | refine wpe_non ?_ | refine wpe_ty ?_ | refine wpe_andV ?_ | refine wpe_orV ?_ | refine wpe_notV ?_ | refine wpe_if ?_ | refine wpe_call1 ?_ | refine wpe_call2 ?_ | refine wpe_call3 ?_ | refine wpe_callS rfl ?_ | refine wpe_tupL ?_ | refine wpe_lstL ?_ | refine wpe_call0 ?_ | refine wpe_cb1 ?_ | refine wpe_cb2 ?_ | refine wpe_neg ?_ | refine wpe_slice ?_ | refine wpe_op ?_ | refine wpe_chain ?_ | refine wpo_none ?_ | refine wpo_some ?_ | refine wpl_nil ?_ | refine wpl_cons ?_ | refine wpa_cons ?_ | refine wpi_zipL ?_ | refine wpi_enuT1 ?_ | refine wpi_rng1 ?_ | refine wpi_seq ?_ | refine opd_ix (n := 0) (.inr rfl) rfl rfl ?_ | refine opd_ix (n := 1) (.inr rfl) rfl rfl ?_ | refine opd_ix (n := 2) (.inr rfl) rfl rfl ?_ | refine opd_b ?_ | refine opd_l (opd_b ?_) | refine opd_i ?_ | refine opd_l (opd_eqI ?_) | refine opd_l (opd_neI ?_) | refine opd_l (opd_neS ?_) | refine opd_l (opd_eqS ?_) | refine cbd_l (cbd_len (.inr rfl) ?_) | refine cbd_l (cbd_len (.inl rfl) ?_) | refine cbd_int1 ?_ | refine ite_t ?_ | refine ite_f ?_ | refine ⟨_, rfl, ?_⟩)
    cases x <;> first | rfl | cases h
  · obtain ⟨ds, rfl⟩ := tup_of h
    obtain ⟨l, pk⟩ := ok_tup p
    have eq : areTurnsOf (.tup ds) i n = (ds.all (isIdx n) && (ascD (.tup ds) && !decide (i ∈ ds.map intOf))) := rfl
    repeat (first | with_reducible refine wps_nil ?_ | with_reducible refine wps_seq ?_ | refine wps_ret ?_ | refine wps_if ?_ | refine wps_newl ?_ | refine wps_set ?_ | refine wpt_not ?_ | refine wpt_or ?_ | refine wpt_and ?_ | refine wpt_B ?_ | refine wpt_test ?_ | refine wpe_var rfl ?_ | refine wpe_int ?_ | refine wpe_bl ?_ | refine wpe_str ?_ | refine wpe_non ?_ | refine wpe_ty ?_ | refine wpe_andV ?_ | refine wpe_orV ?_ | refine wpe_notV ?_ | refine wpe_if ?_ | refine wpe_call1 ?_ | refine wpe_call2 ?_ | refine wpe_call3 ?_ | refine wpe_callS rfl ?_ | refine wpe_tupL ?_ | refine wpe_lstL ?_ | refine wpe_call0 ?_ | refine wpe_cb1 ?_ | refine wpe_cb2 ?_ | refine wpe_neg ?_ | refine wpe_slice ?_ | refine wpe_op ?_ | refine wpe_chain ?_ | refine wpo_none ?_ | refine wpo_some ?_ | refine wpl_nil ?_ | refine wpl_cons ?_ | refine wpa_cons ?_ | refine wpi_zipL ?_ | refine wpi_enuT1 ?_ | refine wpi_rng1 ?_ | refine wpi_seq ?_ | refine opd_ix (n := 0) (.inr rfl) rfl rfl ?_ | refine opd_ix (n := 1) (.inr rfl) rfl rfl ?_ | refine opd_ix (n := 2) (.inr rfl) rfl rfl ?_ | refine opd_b ?_ | refine opd_l (opd_b ?_) | refine opd_i ?_ | refine opd_l (opd_eqI ?_) | refine opd_l (opd_neI ?_) | refine opd_l (opd_neS ?_) | refine opd_l (opd_eqS ?_) | refine cbd_l (cbd_len (.inr rfl) ?_) | refine cbd_l (cbd_len (.inl rfl) ?_) | refine cbd_int1 ?_ | refine ite_t ?_ | refine ite_f ?_ | refine ⟨_, rfl, ?_⟩)
    refine wpe_map (fun d => .bl (isIdx n d)) (by simp) (wpi_seq (wpe_var rfl ⟨ds, .inr rfl, by omega, fun d hd => ?_, cbd_allm ?_⟩))
    · repeat (first | with_reducible refine wps_nil ?_ | with_reducible refine wps_seq ?_ | refine wps_ret ?_ | refine wps_if ?_ | refine wps_newl ?_ | refine wps_set ?_ | refine wpt_not ?_ | refine wpt_or ?_ | refine wpt_and ?_ | refine wpt_B ?_ | refine wpt_test ?_ | refine wpe_var rfl ?_ | refine wpe_int ?_ | refine wpe_bl ?_ | refine wpe_str ?_ | refine wpe_non ?_ | refine wpe_ty ?_ | refine wpe_andV ?_ | refine wpe_orV ?_ | refine wpe_notV ?_ | refine wpe_if ?_ | refine wpe_call1 ?_ | refine wpe_call2 ?_ | refine wpe_call3 ?_ | refine wpe_callS rfl ?_ | refine wpe_tupL ?_ | refine wpe_lstL ?_ | refine wpe_call0 ?_ | refine wpe_cb1 ?_ | refine wpe_cb2 ?_ | refine wpe_neg ?_ | refine wpe_slice ?_ | refine wpe_op ?_ | refine wpe_chain ?_ | refine wpo_none ?_ | refine wpo_some ?_ | refine wpl_nil ?_ | refine wpl_cons ?_ | refine wpa_cons ?_ | refine wpi_zipL ?_ | refine wpi_enuT1 ?_ | refine wpi_rng1 ?_ | refine wpi_seq ?_ | refine opd_ix (n := 0) (.inr rfl) rfl rfl ?_ | refine opd_ix (n := 1) (.inr rfl) rfl rfl ?_ | refine opd_ix (n := 2) (.inr rfl) rfl rfl ?_ | refine opd_b ?_ | refine opd_l (opd_b ?_) | refine opd_i ?_ | refine opd_l (opd_eqI ?_) | refine opd_l (opd_neI ?_) | refine opd_l (opd_neS ?_) | refine opd_l (opd_eqS ?_) | refine cbd_l (cbd_len (.inr rfl) ?_) | refine cbd_l (cbd_len (.inl rfl) ?_) | refine cbd_int1 ?_ | refine ite_t ?_ | refine ite_f ?_ | refine ⟨_, rfl, ?_⟩)
      exact ⟨⟨ok_pln (pk d hd), _, rfl⟩, rfl⟩
    · repeat (first | with_reducible refine wps_nil ?_ | with_reducible refine wps_seq ?_ | refine wps_ret ?_ | refine wps_if ?_ | refine wps_newl ?_ | refine wps_set ?_ | refine wpt_not ?_ | refine wpt_or ?_ | refine wpt_and ?_ | refine wpt_B ?_ | refine wpt_test ?_ | refine wpe_var rfl ?_ | refine wpe_int ?_ | refine wpe_bl ?_ | refine wpe_str ?_ | refine wpe_non ?_ | refine wpe_ty ?_ | refine wpe_andV ?_ | refine wpe_orV ?_ | refine wpe_notV ?_ | refine wpe_if ?_ | refine wpe_call1 ?_ | refine wpe_call2 ?_ | refine wpe_call3 ?_ | refine wpe_callS rfl ?_ | refine wpe_tupL ?_ | refine wpe_lstL ?_ | refine wpe_call0 ?_ | refine wpe_cb1 ?_ | refine wpe_cb2 ?_ | refine wpe_neg ?_ | refine wpe_slice ?_ | refine wpe_op ?_ | refine wpe_chain ?_ | refine wpo_none ?_ | refine wpo_some ?_ | refine wpl_nil ?_ | refine wpl_cons ?_ | refine wpa_cons ?_ | refine wpi_zipL ?_ | refine wpi_enuT1 ?_ | refine wpi_rng1 ?_ | refine wpi_seq ?_ | refine opd_ix (n := 0) (.inr rfl) rfl rfl ?_ | refine opd_ix (n := 1) (.inr rfl) rfl rfl ?_ | refine opd_ix (n := 2) (.inr rfl) rfl rfl ?_ | refine opd_b ?_ | refine opd_l (opd_b ?_) | refine opd_i ?_ | refine opd_l (opd_eqI ?_) | refine opd_l (opd_neI ?_) | refine opd_l (opd_neS ?_) | refine opd_l (opd_eqS ?_) | refine cbd_l (cbd_len (.inr rfl) ?_) | refine cbd_l (cbd_len (.inl rfl) ?_) | refine cbd_int1 ?_ | refine ite_t ?_ | refine ite_f ?_ | refine ⟨_, rfl, ?_⟩)
      refine ite_b (fun h2 => ?_) (fun h2 => ?_)
      · repeat (first | with_reducible refine wps_nil ?_ | with_reducible refine wps_seq ?_ | refine wps_ret ?_ | refine wps_if ?_ | refine wps_newl ?_ | refine wps_set ?_ | refine wpt_not ?_ | refine wpt_or ?_ | refine wpt_and ?_ | refine wpt_B ?_ | refine wpt_test ?_ | refine wpe_var rfl ?_ | refine wpe_int ?_ | refine wpe_bl ?_ | refine wpe_str ?_ | refine wpe_non ?_ | refine wpe_ty ?_ | refine wpe_andV ?_ | refine wpe_orV ?_ | refine wpe_notV ?_ | refine wpe_if ?_ | refine wpe_call1 ?_ | refine wpe_call2 ?_ | refine wpe_call3 ?_ | refine wpe_callS rfl ?_ | refine wpe_tupL ?_ | refine wpe_lstL ?_ | refine wpe_call0 ?_ | refine wpe_cb1 ?_ | refine wpe_cb2 ?_ | refine wpe_neg ?_ | refine wpe_slice ?_ | refine wpe_op ?_ | refine wpe_chain ?_ | refine wpo_none ?_ | refine wpo_some ?_ | refine wpl_nil ?_ | refine wpl_cons ?_ | refine wpa_cons ?_ | refine wpi_zipL ?_ | refine wpi_enuT1 ?_ | refine wpi_rng1 ?_ | refine wpi_seq ?_ | refine opd_ix (n := 0) (.inr rfl) rfl rfl ?_ | refine opd_ix (n := 1) (.inr rfl) rfl rfl ?_ | refine opd_ix (n := 2) (.inr rfl) rfl rfl ?_ | refine opd_b ?_ | refine opd_l (opd_b ?_) | refine opd_i ?_ | refine opd_l (opd_eqI ?_) | refine opd_l (opd_neI ?_) | refine opd_l (opd_neS ?_) | refine opd_l (opd_eqS ?_) | refine cbd_l (cbd_len (.inr rfl) ?_) | refine cbd_l (cbd_len (.inl rfl) ?_) | refine cbd_int1 ?_ | refine ite_t ?_ | refine ite_f ?_ | refine ⟨_, rfl, ?_⟩)
        show D.bl false = D.bl (areTurnsOf (.tup ds) i n)
        rw [Bool.not_eq_true'] at h2
        rw [eq, h2]
        rfl
      · refine wps_nil ?_
        rw [Bool.not_eq_false'] at h2
        have e := idx_ints h2
        repeat (first | with_reducible refine wps_nil ?_ | with_reducible refine wps_seq ?_ | refine wps_ret ?_ | refine wps_if ?_ | refine wps_newl ?_ | refine wps_set ?_ | refine wpt_not ?_ | refine wpt_or ?_ | refine wpt_and ?_ | refine wpt_B ?_ | refine wpt_test ?_ | refine wpe_var rfl ?_ | refine wpe_int ?_ | refine wpe_bl ?_ | refine wpe_str ?_ | refine wpe_non ?_ | refine wpe_ty ?_ | refine wpe_andV ?_ | refine wpe_orV ?_ | refine wpe_notV ?_ | refine wpe_if ?_ | refine wpe_call1 ?_ | refine wpe_call2 ?_ | refine wpe_call3 ?_ | refine wpe_callS rfl ?_ | refine wpe_tupL ?_ | refine wpe_lstL ?_ | refine wpe_call0 ?_ | refine wpe_cb1 ?_ | refine wpe_cb2 ?_ | refine wpe_neg ?_ | refine wpe_slice ?_ | refine wpe_op ?_ | refine wpe_chain ?_ | refine wpo_none ?_ | refine wpo_some ?_ | refine wpl_nil ?_ | refine wpl_cons ?_ | refine wpa_cons ?_ | refine wpi_zipL ?_ | refine wpi_enuT1 ?_ | refine wpi_rng1 ?_ | refine wpi_seq ?_ | refine opd_ix (n := 0) (.inr rfl) rfl rfl ?_ | refine opd_ix (n := 1) (.inr rfl) rfl rfl ?_ | refine opd_ix (n := 2) (.inr rfl) rfl rfl ?_ | refine opd_b ?_ | refine opd_l (opd_b ?_) | refine opd_i ?_ | refine opd_l (opd_eqI ?_) | refine opd_l (opd_neI ?_) | refine opd_l (opd_neS ?_) | refine opd_l (opd_eqS ?_) | refine cbd_l (cbd_len (.inr rfl) ?_) | refine cbd_l (cbd_len (.inl rfl) ?_) | refine cbd_int1 ?_ | refine ite_t ?_ | refine ite_f ?_ | refine ⟨_, rfl, ?_⟩)
        refine ⟨.inl ⟨ds.map intOf, by rw [List.length_map]; exact l, .inr (by rw [← e])⟩, _, rfl, ite_b (fun h3 => ?_) (fun h3 => ?_)⟩
        · repeat (first | with_reducible refine wps_nil ?_ | with_reducible refine wps_seq ?_ | refine wps_ret ?_ | refine wps_if ?_ | refine wps_newl ?_ | refine wps_set ?_ | refine wpt_not ?_ | refine wpt_or ?_ | refine wpt_and ?_ | refine wpt_B ?_ | refine wpt_test ?_ | refine wpe_var rfl ?_ | refine wpe_int ?_ | refine wpe_bl ?_ | refine wpe_str ?_ | refine wpe_non ?_ | refine wpe_ty ?_ | refine wpe_andV ?_ | refine wpe_orV ?_ | refine wpe_notV ?_ | refine wpe_if ?_ | refine wpe_call1 ?_ | refine wpe_call2 ?_ | refine wpe_call3 ?_ | refine wpe_callS rfl ?_ | refine wpe_tupL ?_ | refine wpe_lstL ?_ | refine wpe_call0 ?_ | refine wpe_cb1 ?_ | refine wpe_cb2 ?_ | refine wpe_neg ?_ | refine wpe_slice ?_ | refine wpe_op ?_ | refine wpe_chain ?_ | refine wpo_none ?_ | refine wpo_some ?_ | refine wpl_nil ?_ | refine wpl_cons ?_ | refine wpa_cons ?_ | refine wpi_zipL ?_ | refine wpi_enuT1 ?_ | refine wpi_rng1 ?_ | refine wpi_seq ?_ | refine opd_ix (n := 0) (.inr rfl) rfl rfl ?_ | refine opd_ix (n := 1) (.inr rfl) rfl rfl ?_ | refine opd_ix (n := 2) (.inr rfl) rfl rfl ?_ | refine opd_b ?_ | refine opd_l (opd_b ?_) | refine opd_i ?_ | refine opd_l (opd_eqI ?_) | refine opd_l (opd_neI ?_) | refine opd_l (opd_neS ?_) | refine opd_l (opd_eqS ?_) | refine cbd_l (cbd_len (.inr rfl) ?_) | refine cbd_l (cbd_len (.inl rfl) ?_) | refine cbd_int1 ?_ | refine ite_t ?_ | refine ite_f ?_ | refine ⟨_, rfl, ?_⟩)
          refine opd_inI (zs := ds.map intOf) (.inr (by rw [← e])) ?_
          show D.bl _ = D.bl (areTurnsOf (.tup ds) i n)
          rw [eq, h2, show ascD (.tup ds) = true from h3]
          rfl
        · show D.bl false = D.bl (areTurnsOf (.tup ds) i n)
          rw [eq, h2, show ascD (.tup ds) = false from h3]
          rfl
theorem enu_mem {d : D} {ds : List D} (h : d ∈ enuD ds) : ∃ (i : Nat) (x : D), x ∈ ds ∧ d = .tup [.int i, x] := by
  obtain ⟨i, e⟩ := List.mem_iff_getElem?.mp h
  obtain ⟨x, e2, rfl⟩ := enuD_at e
  exact ⟨i, x, List.mem_of_getElem? e2, rfl⟩
theorem d_are_turns {f : Addr} {fd : FuncData} (B : Bly mg) (F : Fn K mg "are_turns" s_are_turns ["turns"] f fd) (G_MOST_STANDINGS : Gv mg "MOST_STANDINGS" (.int 400))
    (D_are_turns_of : Dk P w K mg base "are_turns_of" CX0 3 ["row", "standing", "size"] (spW c_are_turns_of 3)) :
    Dk P w K mg base "are_turns" CX0 4 ["turns"] (spW c_are_turns 1) := by
  refine F.ok1 sc_are_turns rfl fun cdv A outer s H E x hr p => ⟨_, (pss_cons (ps_if (PW.pt (pw_or (pt_not (pt_val (pe_callB (call_isiK (K := K) rfl) (by rfl) B.isi b_isinstance (pa_cons (pv 0) (pa_cons (pe_bltn (v := .ty "tuple") (by rfl) B.tuple b_tuple rfl) pa_nil))))) (pw_or1 (pt_not (pt_chain op_le op_le pe_int (pe_callB (call_lenK (K := K) rfl) (by rfl) B.len b_len (pa_cons (pv 0) pa_nil)) (pe_gv G_MOST_STANDINGS (by rfl))))))) (pss_one (ps_ret pe_bl)) pss_nil)
    (pss_one (ps_ret (pe_callB (cr_allK (K := K) rfl rfl) (by rfl) B.all b_all (pa_cons (pe_lc (own := [("standing", 1), ("row", 2)]) (g := gTup K 2 (gCons (gName 1) (gCons (gName 2) gNil))) (tt := tYes) (by rfl) sc_are_turns.nd (pi_enumT (by rfl) B.enu (pa_cons (pv 0) pa_nil)) (blkOk_by (N := ["turns", "standing", "row"]) (sc := defScope s_are_turns) (by decide +kernel)) (fun _ _ _ _ _ => pg_tup rfl (pgs_cons (pg_name (i := 1) sc_are_turns.nd rfl (by first | exact Or.inl rfl | exact Or.inr rfl)) (pgs_cons (pg_name (i := 2) sc_are_turns.nd rfl (by first | exact Or.inl rfl | exact Or.inr rfl)) pgs_nil))) (fun _ _ _ _ _ => pts_nil) (fun _ _ _ _ _ => (pe_callD D_are_turns_of (hr.mono (by decide)) (by rfl) pass0 (pa_cons (pv 2) (pa_cons (pv 1) (pa_cons (pe_callB (call_lenK (K := K) rfl) (by rfl) B.len b_len (pa_cons (pv 0) pa_nil)) pa_nil)))))) pa_nil))))), fun T => ?_⟩
  repeat (first | with_reducible refine wps_nil ?_ | with_reducible refine wps_seq ?_ | refine wps_ret ?_ | refine wps_if ?_ | refine wps_newl ?_ | refine wps_set ?_ | refine wpt_not ?_ | refine wpt_or ?_ | refine wpt_and ?_ | refine wpt_B ?_ | refine wpt_test ?_ | refine wpe_var rfl ?_ | refine wpe_int ?_ | refine wpe_bl ?_ | refine wpe_str ?_ | refine wpe_non ?_ | refine wpe_ty ?_ | refine wpe_andV ?_ | refine wpe_orV ?_ | refine wpe_notV ?_ | refine wpe_if ?_ | refine wpe_call1 ?_ | refine wpe_call2 ?_ | refine wpe_call3 ?_ | refine wpe_callS rfl ?_ | refine wpe_tupL ?_ | refine wpe_lstL ?_ | refine wpe_call0 ?_ | refine wpe_cb1 ?_ | refine wpe_cb2 ?_ | refine wpe_neg ?_ | refine wpe_slice ?_ | refine wpe_op ?_ | refine wpe_chain ?_ | refine wpo_none ?_ | refine wpo_some ?_ | refine wpl_nil ?_ | refine wpl_cons ?_ | refine wpa_cons ?_ | refine wpi_zipL ?_ | refine wpi_enuT1 ?_ | refine wpi_rng1 ?_ | refine wpi_seq ?_ | refine opd_ix (n := 0) (.inr rfl) rfl rfl ?_ | refine opd_ix (n := 1) (.inr rfl) rfl rfl ?_ | refine opd_ix (n := 2) (.inr rfl) rfl rfl ?_ | refine opd_b ?_ | refine opd_l (opd_b ?_) | refine opd_i ?_ | refine opd_l (opd_eqI ?_) | refine opd_l (opd_neI ?_) | refine opd_l (opd_neS ?_) | refine opd_l (opd_eqS ?_) | refine cbd_l (cbd_len (.inr rfl) ?_) | refine cbd_l (cbd_len (.inl rfl) ?_) | refine cbd_int1 ?_ | refine ite_t ?_ | refine ite_f ?_ | refine ⟨_, rfl, ?_⟩)
  refine cbd_isT (ok_pln p) ⟨_, rfl, ite_b (fun h => ?_) (fun h => ?_)⟩
  · repeat (first | with_reducible refine wps_nil ?_ | with_reducible refine wps_seq ?_ | refine wps_ret ?_ | refine wps_if ?_ | refine wps_newl ?_ | refine wps_set ?_ | refine wpt_not ?_ | refine wpt_or ?_ | refine wpt_and ?_ | refine wpt_B ?_ | refine wpt_test ?_ | refine wpe_var rfl ?_ | refine wpe_int ?_ | refine wpe_bl ?_ | refine wpe_str ?_ | refine wpe_non ?_ | refine wpe_ty ?_ | refine wpe_andV ?_ | refine wpe_orV ?_ | refine wpe_notV ?_ | refine wpe_if ?_ | refine wpe_call1 ?_ | refine wpe_call2 ?_ | refine wpe_call3 ?_ | refine wpe_callS rfl ?_ | refine wpe_tupL ?_ | refine wpe_lstL ?_ | refine wpe_call0 ?_ | refine wpe_cb1 ?_ | refine wpe_cb2 ?_ | refine wpe_neg ?_ | refine wpe_slice ?_ | refine wpe_op ?_ | refine wpe_chain ?_ | refine wpo_none ?_ | refine wpo_some ?_ | refine wpl_nil ?_ | refine wpl_cons ?_ | refine wpa_cons ?_ | refine wpi_zipL ?_ | refine wpi_enuT1 ?_ | refine wpi_rng1 ?_ | refine wpi_seq ?_ | refine opd_ix (n := 0) (.inr rfl) rfl rfl ?_ | refine opd_ix (n := 1) (.inr rfl) rfl rfl ?_ | refine opd_ix (n := 2) (.inr rfl) rfl rfl ?_ | refine opd_b ?_ | refine opd_l (opd_b ?_) | refine opd_i ?_ | refine opd_l (opd_eqI ?_) | refine opd_l (opd_neI ?_) | refine opd_l (opd_neS ?_) | refine opd_l (opd_eqS ?_) | refine cbd_l (cbd_len (.inr rfl) ?_) | refine cbd_l (cbd_len (.inl rfl) ?_) | refine cbd_int1 ?_ | refine ite_t ?_ | refine ite_f ?_ | refine ⟨_, rfl, ?_⟩)
    cases x <;> first | rfl | cases h
  · obtain ⟨ds, rfl⟩ := tup_of h
    obtain ⟨l, pk⟩ := ok_tup p
    have eq : areTurns (.tup ds) = (decide (1 ≤ (ds.length : Int)) && decide ((ds.length : Int) ≤ 400) && (enuD ds).all (turnP ds.length)) := rfl
    repeat (first | with_reducible refine wps_nil ?_ | with_reducible refine wps_seq ?_ | refine wps_ret ?_ | refine wps_if ?_ | refine wps_newl ?_ | refine wps_set ?_ | refine wpt_not ?_ | refine wpt_or ?_ | refine wpt_and ?_ | refine wpt_B ?_ | refine wpt_test ?_ | refine wpe_var rfl ?_ | refine wpe_int ?_ | refine wpe_bl ?_ | refine wpe_str ?_ | refine wpe_non ?_ | refine wpe_ty ?_ | refine wpe_andV ?_ | refine wpe_orV ?_ | refine wpe_notV ?_ | refine wpe_if ?_ | refine wpe_call1 ?_ | refine wpe_call2 ?_ | refine wpe_call3 ?_ | refine wpe_callS rfl ?_ | refine wpe_tupL ?_ | refine wpe_lstL ?_ | refine wpe_call0 ?_ | refine wpe_cb1 ?_ | refine wpe_cb2 ?_ | refine wpe_neg ?_ | refine wpe_slice ?_ | refine wpe_op ?_ | refine wpe_chain ?_ | refine wpo_none ?_ | refine wpo_some ?_ | refine wpl_nil ?_ | refine wpl_cons ?_ | refine wpa_cons ?_ | refine wpi_zipL ?_ | refine wpi_enuT1 ?_ | refine wpi_rng1 ?_ | refine wpi_seq ?_ | refine opd_ix (n := 0) (.inr rfl) rfl rfl ?_ | refine opd_ix (n := 1) (.inr rfl) rfl rfl ?_ | refine opd_ix (n := 2) (.inr rfl) rfl rfl ?_ | refine opd_b ?_ | refine opd_l (opd_b ?_) | refine opd_i ?_ | refine opd_l (opd_eqI ?_) | refine opd_l (opd_neI ?_) | refine opd_l (opd_neS ?_) | refine opd_l (opd_eqS ?_) | refine cbd_l (cbd_len (.inr rfl) ?_) | refine cbd_l (cbd_len (.inl rfl) ?_) | refine cbd_int1 ?_ | refine ite_t ?_ | refine ite_f ?_ | refine ⟨_, rfl, ?_⟩)
    refine ite_b (fun h1 => ?_) (fun h1 => ?_)
    · repeat (first | with_reducible refine wps_nil ?_ | with_reducible refine wps_seq ?_ | refine wps_ret ?_ | refine wps_if ?_ | refine wps_newl ?_ | refine wps_set ?_ | refine wpt_not ?_ | refine wpt_or ?_ | refine wpt_and ?_ | refine wpt_B ?_ | refine wpt_test ?_ | refine wpe_var rfl ?_ | refine wpe_int ?_ | refine wpe_bl ?_ | refine wpe_str ?_ | refine wpe_non ?_ | refine wpe_ty ?_ | refine wpe_andV ?_ | refine wpe_orV ?_ | refine wpe_notV ?_ | refine wpe_if ?_ | refine wpe_call1 ?_ | refine wpe_call2 ?_ | refine wpe_call3 ?_ | refine wpe_callS rfl ?_ | refine wpe_tupL ?_ | refine wpe_lstL ?_ | refine wpe_call0 ?_ | refine wpe_cb1 ?_ | refine wpe_cb2 ?_ | refine wpe_neg ?_ | refine wpe_slice ?_ | refine wpe_op ?_ | refine wpe_chain ?_ | refine wpo_none ?_ | refine wpo_some ?_ | refine wpl_nil ?_ | refine wpl_cons ?_ | refine wpa_cons ?_ | refine wpi_zipL ?_ | refine wpi_enuT1 ?_ | refine wpi_rng1 ?_ | refine wpi_seq ?_ | refine opd_ix (n := 0) (.inr rfl) rfl rfl ?_ | refine opd_ix (n := 1) (.inr rfl) rfl rfl ?_ | refine opd_ix (n := 2) (.inr rfl) rfl rfl ?_ | refine opd_b ?_ | refine opd_l (opd_b ?_) | refine opd_i ?_ | refine opd_l (opd_eqI ?_) | refine opd_l (opd_neI ?_) | refine opd_l (opd_neS ?_) | refine opd_l (opd_eqS ?_) | refine cbd_l (cbd_len (.inr rfl) ?_) | refine cbd_l (cbd_len (.inl rfl) ?_) | refine cbd_int1 ?_ | refine ite_t ?_ | refine ite_f ?_ | refine ⟨_, rfl, ?_⟩)
      refine ite_b (fun h2 => ?_) (fun h2 => ?_)
      · repeat (first | with_reducible refine wps_nil ?_ | with_reducible refine wps_seq ?_ | refine wps_ret ?_ | refine wps_if ?_ | refine wps_newl ?_ | refine wps_set ?_ | refine wpt_not ?_ | refine wpt_or ?_ | refine wpt_and ?_ | refine wpt_B ?_ | refine wpt_test ?_ | refine wpe_var rfl ?_ | refine wpe_int ?_ | refine wpe_bl ?_ | refine wpe_str ?_ | refine wpe_non ?_ | refine wpe_ty ?_ | refine wpe_andV ?_ | refine wpe_orV ?_ | refine wpe_notV ?_ | refine wpe_if ?_ | refine wpe_call1 ?_ | refine wpe_call2 ?_ | refine wpe_call3 ?_ | refine wpe_callS rfl ?_ | refine wpe_tupL ?_ | refine wpe_lstL ?_ | refine wpe_call0 ?_ | refine wpe_cb1 ?_ | refine wpe_cb2 ?_ | refine wpe_neg ?_ | refine wpe_slice ?_ | refine wpe_op ?_ | refine wpe_chain ?_ | refine wpo_none ?_ | refine wpo_some ?_ | refine wpl_nil ?_ | refine wpl_cons ?_ | refine wpa_cons ?_ | refine wpi_zipL ?_ | refine wpi_enuT1 ?_ | refine wpi_rng1 ?_ | refine wpi_seq ?_ | refine opd_ix (n := 0) (.inr rfl) rfl rfl ?_ | refine opd_ix (n := 1) (.inr rfl) rfl rfl ?_ | refine opd_ix (n := 2) (.inr rfl) rfl rfl ?_ | refine opd_b ?_ | refine opd_l (opd_b ?_) | refine opd_i ?_ | refine opd_l (opd_eqI ?_) | refine opd_l (opd_neI ?_) | refine opd_l (opd_neS ?_) | refine opd_l (opd_eqS ?_) | refine cbd_l (cbd_len (.inr rfl) ?_) | refine cbd_l (cbd_len (.inl rfl) ?_) | refine cbd_int1 ?_ | refine ite_t ?_ | refine ite_f ?_ | refine ⟨_, rfl, ?_⟩)
        show D.bl false = D.bl (areTurns (.tup ds))
        rw [Bool.not_eq_true'] at h2
        rw [eq, h2, Bool.and_false, Bool.false_and]
      · refine wps_nil ?_
        rw [Bool.not_eq_false'] at h2
        repeat (first | with_reducible refine wps_nil ?_ | with_reducible refine wps_seq ?_ | refine wps_ret ?_ | refine wps_if ?_ | refine wps_newl ?_ | refine wps_set ?_ | refine wpt_not ?_ | refine wpt_or ?_ | refine wpt_and ?_ | refine wpt_B ?_ | refine wpt_test ?_ | refine wpe_var rfl ?_ | refine wpe_int ?_ | refine wpe_bl ?_ | refine wpe_str ?_ | refine wpe_non ?_ | refine wpe_ty ?_ | refine wpe_andV ?_ | refine wpe_orV ?_ | refine wpe_notV ?_ | refine wpe_if ?_ | refine wpe_call1 ?_ | refine wpe_call2 ?_ | refine wpe_call3 ?_ | refine wpe_callS rfl ?_ | refine wpe_tupL ?_ | refine wpe_lstL ?_ | refine wpe_call0 ?_ | refine wpe_cb1 ?_ | refine wpe_cb2 ?_ | refine wpe_neg ?_ | refine wpe_slice ?_ | refine wpe_op ?_ | refine wpe_chain ?_ | refine wpo_none ?_ | refine wpo_some ?_ | refine wpl_nil ?_ | refine wpl_cons ?_ | refine wpa_cons ?_ | refine wpi_zipL ?_ | refine wpi_enuT1 ?_ | refine wpi_rng1 ?_ | refine wpi_seq ?_ | refine opd_ix (n := 0) (.inr rfl) rfl rfl ?_ | refine opd_ix (n := 1) (.inr rfl) rfl rfl ?_ | refine opd_ix (n := 2) (.inr rfl) rfl rfl ?_ | refine opd_b ?_ | refine opd_l (opd_b ?_) | refine opd_i ?_ | refine opd_l (opd_eqI ?_) | refine opd_l (opd_neI ?_) | refine opd_l (opd_neS ?_) | refine opd_l (opd_eqS ?_) | refine cbd_l (cbd_len (.inr rfl) ?_) | refine cbd_l (cbd_len (.inl rfl) ?_) | refine cbd_int1 ?_ | refine ite_t ?_ | refine ite_f ?_ | refine ⟨_, rfl, ?_⟩)
        refine wpe_map2 (fun d => .bl (turnP ds.length d)) (by simp) (by simp) (wpi_enuT1 (wpe_var rfl ⟨ds, rfl, by rw [enuD_len]; omega, fun d hd => ?_, cbd_allm ?_⟩))
        · obtain ⟨i, x, m, rfl⟩ := enu_mem hd
          refine ⟨_, _, rfl, ?_⟩
          repeat (first | with_reducible refine wps_nil ?_ | with_reducible refine wps_seq ?_ | refine wps_ret ?_ | refine wps_if ?_ | refine wps_newl ?_ | refine wps_set ?_ | refine wpt_not ?_ | refine wpt_or ?_ | refine wpt_and ?_ | refine wpt_B ?_ | refine wpt_test ?_ | refine wpe_var rfl ?_ | refine wpe_int ?_ | refine wpe_bl ?_ | refine wpe_str ?_ | refine wpe_non ?_ | refine wpe_ty ?_ | refine wpe_andV ?_ | refine wpe_orV ?_ | refine wpe_notV ?_ | refine wpe_if ?_ | refine wpe_call1 ?_ | refine wpe_call2 ?_ | refine wpe_call3 ?_ | refine wpe_callS rfl ?_ | refine wpe_tupL ?_ | refine wpe_lstL ?_ | refine wpe_call0 ?_ | refine wpe_cb1 ?_ | refine wpe_cb2 ?_ | refine wpe_neg ?_ | refine wpe_slice ?_ | refine wpe_op ?_ | refine wpe_chain ?_ | refine wpo_none ?_ | refine wpo_some ?_ | refine wpl_nil ?_ | refine wpl_cons ?_ | refine wpa_cons ?_ | refine wpi_zipL ?_ | refine wpi_enuT1 ?_ | refine wpi_rng1 ?_ | refine wpi_seq ?_ | refine opd_ix (n := 0) (.inr rfl) rfl rfl ?_ | refine opd_ix (n := 1) (.inr rfl) rfl rfl ?_ | refine opd_ix (n := 2) (.inr rfl) rfl rfl ?_ | refine opd_b ?_ | refine opd_l (opd_b ?_) | refine opd_i ?_ | refine opd_l (opd_eqI ?_) | refine opd_l (opd_neI ?_) | refine opd_l (opd_neS ?_) | refine opd_l (opd_eqS ?_) | refine cbd_l (cbd_len (.inr rfl) ?_) | refine cbd_l (cbd_len (.inl rfl) ?_) | refine cbd_int1 ?_ | refine ite_t ?_ | refine ite_f ?_ | refine ⟨_, rfl, ?_⟩)
          exact ⟨⟨pk x m, ⟨_, rfl⟩, _, rfl⟩, rfl⟩
        · show D.bl _ = D.bl (areTurns (.tup ds))
          rw [eq, h1, h2]
          rfl
    · repeat (first | with_reducible refine wps_nil ?_ | with_reducible refine wps_seq ?_ | refine wps_ret ?_ | refine wps_if ?_ | refine wps_newl ?_ | refine wps_set ?_ | refine wpt_not ?_ | refine wpt_or ?_ | refine wpt_and ?_ | refine wpt_B ?_ | refine wpt_test ?_ | refine wpe_var rfl ?_ | refine wpe_int ?_ | refine wpe_bl ?_ | refine wpe_str ?_ | refine wpe_non ?_ | refine wpe_ty ?_ | refine wpe_andV ?_ | refine wpe_orV ?_ | refine wpe_notV ?_ | refine wpe_if ?_ | refine wpe_call1 ?_ | refine wpe_call2 ?_ | refine wpe_call3 ?_ | refine wpe_callS rfl ?_ | refine wpe_tupL ?_ | refine wpe_lstL ?_ | refine wpe_call0 ?_ | refine wpe_cb1 ?_ | refine wpe_cb2 ?_ | refine wpe_neg ?_ | refine wpe_slice ?_ | refine wpe_op ?_ | refine wpe_chain ?_ | refine wpo_none ?_ | refine wpo_some ?_ | refine wpl_nil ?_ | refine wpl_cons ?_ | refine wpa_cons ?_ | refine wpi_zipL ?_ | refine wpi_enuT1 ?_ | refine wpi_rng1 ?_ | refine wpi_seq ?_ | refine opd_ix (n := 0) (.inr rfl) rfl rfl ?_ | refine opd_ix (n := 1) (.inr rfl) rfl rfl ?_ | refine opd_ix (n := 2) (.inr rfl) rfl rfl ?_ | refine opd_b ?_ | refine opd_l (opd_b ?_) | refine opd_i ?_ | refine opd_l (opd_eqI ?_) | refine opd_l (opd_neI ?_) | refine opd_l (opd_neS ?_) | refine opd_l (opd_eqS ?_) | refine cbd_l (cbd_len (.inr rfl) ?_) | refine cbd_l (cbd_len (.inl rfl) ?_) | refine cbd_int1 ?_ | refine ite_t ?_ | refine ite_f ?_ | refine ⟨_, rfl, ?_⟩)
      show D.bl false = D.bl (areTurns (.tup ds))
      rw [eq, h1]
      rfl
end
end Nv
namespace Nv
open PySem PySem.Spec PyProof.Rows L2
/-- a list or a tuple of lists or tuples of numbers -/
def seqD (y : D) (ds : List D) : Prop := y = .lst ds ∨ y = .tup ds
def StepsD (y : D) (ss : List (List Int)) : Prop := ∃ rows, seqD y rows ∧ rows.length = ss.length ∧ ∀ (i : Nat) (r : D) (zs : List Int), rows[i]? = some r → ss[i]? = some zs → seqD r (zs.map D.int)
/-- all numbers are standings -/
def InN (n : Nat) (zs : List Int) : Prop := ∀ z ∈ zs, 0 ≤ z ∧ z < n
def Closed (ss : List (List Int)) (P : Int → Prop) : Prop := ∀ (i : Nat) (zs : List Int), ss[i]? = some zs → P i → ∀ z ∈ zs, P z
/-- ys: all that st comes to -/
structure Comes (st : List Int) (ss : List (List Int)) (ys : List Int) : Prop where
  asc : ys.Pairwise (· < ·)
  inN : InN ss.length ys
  has : ∀ z ∈ st, z ∈ ys
  cl : Closed ss (· ∈ ys)
  least : ∀ P : Int → Prop, Closed ss P → (∀ z ∈ st, P z) → ∀ z ∈ ys, P z
theorem nodup_lt : ∀ (n : Nat) (l : List Nat), l.Nodup → (∀ x ∈ l, x < n) → l.length ≤ n
  | 0, [], _, _ => Nat.le_refl _
  | 0, x :: l, _, h => absurd (h x (by simp)) (Nat.not_lt_zero _)
  | n + 1, l, nd, h => by
    have ih := nodup_lt n (l.erase n) (nd.erase n) fun x hx => by
      have h1 := (nd.mem_erase_iff).mp hx
      have h2 := h x h1.2
      have h3 := h1.1
      omega
    by_cases m : n ∈ l
    · rw [List.length_erase_of_mem m] at ih
      omega
    · rw [List.erase_of_not_mem m] at ih
      omega
theorem bound {n : Nat} {ks : List Int} (h : InN n ks) (nd : ks.Nodup) : ks.length ≤ n := by
  have h2 := nodup_lt n (ks.map Int.toNat) (by
    refine List.Pairwise.map (R := fun a b => a ≠ b ∧ 0 ≤ a ∧ 0 ≤ b) _ (fun a b ⟨q1, q2, q3⟩ e => q1 (by omega)) ?_
    exact (List.Pairwise.and_mem.mp nd).imp fun {a b} ⟨m1, m2, q⟩ => ⟨q, (h a m1).1, (h b m2).1⟩) (fun x hx => by
    obtain ⟨z, m, rfl⟩ := List.mem_map.mp hx
    have := h z m
    omega)
  rwa [List.length_map] at h2
theorem map_int_inj : ∀ {as bs : List Int}, as.map D.int = bs.map D.int → as = bs
  | [], [], _ => rfl
  | [], _ :: _, h => nomatch h
  | _ :: _, [], h => nomatch h
  | a :: as, b :: bs, h => by
    rw [List.map_cons, List.map_cons] at h
    obtain ⟨h1, h2⟩ := List.cons.inj h
    rw [D.int.inj h1, map_int_inj h2]
theorem seqD_uniq {y : D} {as bs : List D} (h1 : seqD y as) (h2 : seqD y bs) : as = bs := by
  rcases h1 with rfl | rfl
  · rcases h2 with h | h
    · exact D.lst.inj h
    · cases h
  · rcases h2 with h | h
    · cases h
    · exact D.tup.inj h
theorem StepsD.uniq {y : D} {ss tt : List (List Int)} (h1 : StepsD y ss) (h2 : StepsD y tt) : ss = tt := by
  obtain ⟨r1, s1, l1, g1⟩ := h1
  obtain ⟨r2, s2, l2, g2⟩ := h2
  obtain rfl := seqD_uniq s1 s2
  refine List.ext_getElem (by omega) fun i h1 h2 => ?_
  have e1 : r1[i]? = some (r1[i]'(by omega)) := List.getElem?_eq_getElem _
  exact map_int_inj (seqD_uniq (g1 i _ _ e1 (List.getElem?_eq_getElem h1)) (g2 i _ _ e1 (List.getElem?_eq_getElem h2)))
def ClosedAt (ss : List (List Int)) (ks : List Int) (j : Int) : Prop := ∀ zs, ss[j.toNat]? = some zs → ∀ z ∈ zs, z ∈ ks
theorem ClosedAt.mono {ss : List (List Int)} {ks ls : List Int} {j : Int} (h : ClosedAt ss ks j) (m : ∀ z ∈ ks, z ∈ ls) : ClosedAt ss ls j := fun zs e z hz => m z (h zs e z hz)
/-- what holds of the found ones ks while ws wait (but for x) -/
structure CInv (st : List Int) (ss : List (List Int)) (ks ws : List Int) (x : Int → Prop) : Prop where
  nd : ks.Nodup
  inN : InN ss.length ks
  sub : ∀ z ∈ ws, z ∈ ks
  has : ∀ z ∈ st, z ∈ ks
  cl : ∀ j ∈ ks, j ∉ ws → ¬ x j → ClosedAt ss ks j
  least : ∀ P : Int → Prop, Closed ss P → (∀ z ∈ st, P z) → ∀ z ∈ ks, P z
theorem CInv.len {st : List Int} {ss : List (List Int)} {ks ws : List Int} {x : Int → Prop} (h : CInv st ss ks ws x) : ks.length ≤ ss.length := bound h.inN h.nd
/-- one more is found and waits -/
theorem CInv.add {st : List Int} {ss : List (List Int)} {ks ws : List Int} {x : Int → Prop} {g i : Int} {zs : List Int} (h : CInv st ss ks ws x) (ng : g ∉ ks) (gn : 0 ≤ g ∧ g < ss.length) (ik : i ∈ ks) (ez : ss[i.toNat]? = some zs) (gz : g ∈ zs) :
    CInv st ss (ks ++ [g]) (ws ++ [g]) x := by
  have m : ∀ z ∈ ks, z ∈ ks ++ [g] := fun z hz => by simp [hz]
  refine ⟨?_, fun z hz => ?_, fun z hz => ?_, fun z hz => m z (h.has z hz), fun j hj nj xj => ?_, fun P cP hP z hz => ?_⟩
  · rw [List.nodup_append]
    refine ⟨h.nd, by simp, fun a ha b hb => ?_⟩
    rw [List.mem_singleton] at hb
    subst hb
    exact fun z => ng (by rw [← z]; exact ha)
  · rcases List.mem_append.mp hz with hz | hz
    · exact h.inN z hz
    · rw [List.mem_singleton] at hz
      subst hz
      exact gn
  · rcases List.mem_append.mp hz with hz | hz
    · exact m z (h.sub z hz)
    · simp at hz; simp [hz]
  · have h1 : j ∉ ws := fun q => nj (by simp [q])
    have h2 : j ≠ g := fun q => nj (by simp [q])
    have h3 : j ∈ ks := by
      rcases List.mem_append.mp hj with q | q
      · exact q
      · exact absurd (by simpa using q) h2
    exact (h.cl j h3 h1 xj).mono m
  · rcases List.mem_append.mp hz with hz | hz
    · exact h.least P cP hP z hz
    · rw [List.mem_singleton] at hz
      subst hz
      have hi := h.least P cP hP i ik
      have ei : ((i.toNat : Nat) : Int) = i := by have := h.inN i ik; omega
      exact cP i.toNat zs ez (by rw [ei]; exact hi) z gz
section
variable {P : Program} {w : World} {K : PySem.W.Frag} {mg : Str → Option Value} {base : Heap}
abbrev s_come_to : Stmt := top 27
theorem sc_come_to : FnScope ["starts", "steps", "found", "waiting", "standing", "goal"] ["starts", "steps"] (defScope s_come_to) :=
  ⟨rfl, rfl, rfl, by decide +kernel, rfl, by decide +kernel, by decide +kernel⟩
def c_come_to : Spc :=
  { pre := fun as => ∃ (st : List Int) (y : D) (ss : List (List Int)), as = [.da (.lst (st.map D.int)), .da y] ∧ StepsD y ss ∧ ss.length ≤ 1000 ∧ InN ss.length st ∧ st.Nodup ∧ ∀ zs ∈ ss, InN ss.length zs ∧ zs.length ≤ 100000
    post := fun as d => ∀ (st : List Int) (y : D) (ss : List (List Int)), as = [.da (.lst (st.map D.int)), .da y] → StepsD y ss → ∃ ys, d = .lst (ys.map D.int) ∧ Comes st ss ys }
theorem d_come_to {f : Addr} {fd : FuncData} (B : Bly mg) (F : Fn K mg "come_to" s_come_to ["starts", "steps"] f fd) : Dk P w K mg base "come_to" CX0 1 ["starts", "steps"] (spW c_come_to 2) := by
  refine F.ok sc_come_to rfl fun cdv A outer s H E as hr ⟨st, y, ss, e, sd, ln, inn, nd, rows⟩ _ => ?_
  subst e
  refine ⟨_, (pss_cons (ps_setDc (i := 2) (own := [("standing", 4)]) (g := gName 4) (tt := tYes) (by rfl) sc_come_to.nd rfl rfl (sw_trueD rfl rfl rfl (by decide +kernel)) (pi_seq (pv 0)) (blkOk_by (N := ["starts", "steps", "found", "waiting", "standing", "goal"]) (sc := defScope s_come_to) (by decide +kernel)) (fun _ _ _ _ _ => pg_name (i := 4) sc_come_to.nd rfl (by first | exact Or.inl rfl | exact Or.inr rfl)) (fun _ _ _ _ _ => pts_nil) (fun _ _ _ _ _ => (pv 4)) (fun _ _ _ _ _ => pe_bl))
    (pss_cons (ps_set (i := 3) sc_come_to.nd rfl (by first | exact Or.inl rfl | exact Or.inr rfl) (pe_callTy (call_listK (K := K) rfl) (by rfl) B.list b_list (pa_cons (pv 0) pa_nil)))
    (pss_cons (ps_while PassesOwn.never (pt_cmpR op_gt (pe_callB (call_lenK (K := K) rfl) (by rfl) B.len b_len (pa_cons (pv 3) pa_nil)) pe_int (nomark _)) (pss_cons (ps_set (i := 4) sc_come_to.nd rfl (by first | exact Or.inl rfl | exact Or.inr rfl) (pe_bm0 PySem.F.plainAttrs_list PySem.F.slot_list_pop PySem.F.type_list_pop mt_pop (pv 3)))
      (pss_one (ps_for PassesOwn.never rfl (pi_seq (pe_ix (ix_K (K := K) rfl) (pv 1) (pv 4) (fun _ _ => rfl))) (pg_name (i := 5) sc_come_to.nd rfl (by first | exact Or.inl rfl | exact Or.inr rfl)) (pss_one (ps_if (pt_cmp (pc_dnotin (Nat.lt_of_le_of_lt (Nat.add_le_add_left (by decide : 1 ≤ 64) _) hr.units) (pv 5) (pv 2))) (pss_cons (ps_asg pe_bl (pg_sub (pv 2) (pv 5) (set_dict (Nat.lt_of_le_of_lt (Nat.add_le_add_left (by decide : 1 ≤ 64) _) hr.units))))
          (pss_one (ps_expr (pe_bm PySem.F.plainAttrs_list PySem.F.slot_list_append PySem.F.type_list_append mt_append (pv 3) (pa_cons (pv 5) pa_nil))))) pss_nil))))))
    (pss_one (ps_ret (pe_callB (cr_sortedK (K := K) rfl) (by rfl) B.srt b_sorted (pa_cons (pe_callTy (call_list_dK rfl) (by rfl) B.list b_list (pa_cons (pv 2) pa_nil)) pa_nil))))))), fun T => ?_⟩
  refine wps_seq (wps_setDc (by simp) (by simp) (wpi_seq (wpe_var rfl ⟨_, .inl rfl, st, rfl, nd, by have := bound inn nd; omega, fun p => ?_⟩)))
  refine wps_seq (wps_setList (wpe_var rfl ⟨_, .inl rfl, fun q => ?_⟩))
  have n0 := ln
  let W : Nat → List Sl → Prop := fun m δ' => ∃ (ks ws : List Int) (x4 x5 : Sl), δ' = [.da (.lst (st.map D.int)), .da y, .od p ks, .ow q (ws.map D.int), x4, x5] ∧ CInv st ss ks ws (fun _ => False) ∧ ws.length ≤ 100000 - 2 * (ss.length - ks.length) ∧ m = 2 * (ss.length - ks.length) + ws.length
  refine wps_seq (wps_while W ⟨_, st, st, .no, .no, rfl, ⟨nd, inn, fun z h => h, fun z h => h, fun j h1 h2 _ => absurd h1 h2, fun P _ h => h⟩, by have := bound inn nd; omega, rfl⟩ ?_)
  rintro m δ' ⟨ks, ws, x4, x5, rfl, ci, lw, em⟩
  refine wpt_test (wpe_op (wpe_lenO rfl (wpe_int (opd_b ⟨_, rfl, ite_b (fun h => ?_) (fun h => ?_)⟩))))
  · have pos : 0 < ws.length := by
      have := of_decide_eq_true h
      rw [List.length_map] at this
      omega
    have ew : ws = ws.dropLast ++ [ws[ws.length - 1]] := by
      rw [← List.getLast_eq_getElem (l := ws) (by intro z; rw [z] at pos; exact absurd pos (by simp))]
      exact (List.dropLast_concat_getLast _).symm
    generalize hi : ws[ws.length - 1] = i at ew
    have iw : i ∈ ws := by rw [← hi]; exact List.getElem_mem _
    have ik := ci.sub i iw
    obtain ⟨i0, i1⟩ := ci.inN i ik
    refine wps_seq (wps_pop (d := .int i) rfl (by rw [List.length_map, List.getElem?_map, List.getElem?_eq_getElem (by omega), hi]; rfl) ?_)
    rw [show (ws.map D.int).dropLast = ws.dropLast.map D.int from (List.map_dropLast ..).symm]
    obtain ⟨rws, sq, le, hr9⟩ := sd
    have lt : i.toNat < ss.length := by omega
    have ez : ss[i.toNat]? = some ss[i.toNat] := List.getElem?_eq_getElem lt
    have er : rws[i.toNat]? = some rws[i.toNat] := List.getElem?_eq_getElem (by omega)
    generalize ss[i.toNat] = zs at ez
    generalize rws[i.toNat] = r at er
    have sr := hr9 _ _ _ er ez
    obtain ⟨zn, zl⟩ := rows zs (List.mem_of_getElem? ez)
    refine wps_for (js := [5]) (wpi_seq (wpe_op (wpe_var rfl (wpe_var rfl (opd_ix (n := i.toNat) sq (by omega) er ⟨zs.map D.int, sr, ?_⟩)))))
    have lks := ci.len
    refine ⟨fun k δ' => ∃ (ks' ws' : List Int) (x5 : Sl), δ' = [.da (.lst (st.map D.int)), .da y, .od p ks', .ow q (ws'.map D.int), .da (.int i), x5] ∧ CInv st ss ks' ws' (· = i) ∧ i ∈ ks' ∧ (∀ z ∈ zs.take k, z ∈ ks') ∧
        2 * (ss.length - ks'.length) + ws'.length < m ∧ ws'.length ≤ 100000 - 2 * (ss.length - ks'.length),
      ⟨ks, ws.dropLast, _, rfl, ⟨ci.nd, ci.inN, fun z hz => ci.sub z (List.dropLast_subset _ hz), ci.has, fun j h1 h2 h3 => ci.cl j h1 (fun q => ?_) (fun q => q), ci.least⟩, ik, by simp, by rw [List.length_dropLast]; omega, by rw [List.length_dropLast]; omega⟩, ?_, ?_⟩
    · rw [ew] at q
      rcases List.mem_append.mp q with q | q
      · exact h2 q
      · exact h3 (by simpa using q)
    · rintro k d δ' ed ⟨ks', ws', x5, rfl, c2, ik2, tk, lm, lw2⟩
      rw [List.getElem?_map] at ed
      obtain ⟨g, eg, rfl⟩ := Option.map_eq_some_iff.mp ed
      have gz : g ∈ zs := List.mem_of_getElem? eg
      have lks2 := c2.len
      refine wpg_name (wps_if (wpt_ninD (i := 2) rfl (wpe_var rfl ⟨g, rfl, ite_b (fun h => ?_) (fun h => ?_)⟩)))
      · have ng : g ∉ ks' := by simpa using h
        refine wps_seq (wps_putD (i := 2) rfl (by omega) (wpe_var rfl ⟨g, rfl, ng, ?_⟩))
        refine wps_append (i := 3) rfl (by rw [List.length_map]; omega) (wpe_var rfl ?_)
        rw [show ws'.map D.int ++ [D.int g] = (ws' ++ [g]).map D.int by rw [List.map_append]; rfl]
        have c3 := c2.add ng (zn g gz) ik2 ez gz
        have l3 := c3.len
        rw [List.length_append, List.length_singleton] at l3
        refine ⟨ks' ++ [g], ws' ++ [g], _, rfl, c3, by simp [ik2], fun z hz => ?_, by simp only [List.length_append, List.length_singleton]; omega, by simp only [List.length_append, List.length_singleton]; omega⟩
        rw [List.take_add_one, eg] at hz
        rcases List.mem_append.mp hz with hz | hz
        · simp [tk z hz]
        · simp at hz; simp [hz]
      · have ng : g ∈ ks' := by simpa using h
        refine wps_nil ⟨ks', ws', _, rfl, c2, ik2, fun z hz => ?_, lm, lw2⟩
        rw [List.take_add_one, eg] at hz
        rcases List.mem_append.mp hz with hz | hz
        · exact tk z hz
        · simp at hz; rw [hz]; exact ng
    · rintro δ' ⟨ks', ws', x5, rfl, c2, ik2, tk, lm, lw2⟩
      rw [List.length_map, List.take_length] at tk
      refine ⟨_, lm, ks', ws', _, _, rfl, ⟨c2.nd, c2.inN, c2.sub, c2.has, fun j h1 h2 _ => ?_, c2.least⟩, lw2, rfl⟩
      by_cases e : j = i
      · subst e
        intro zs' e' z hz
        rw [ez] at e'
        rw [← Option.some.inj e'] at hz
        exact tk z hz
      · exact c2.cl j h1 h2 e
  · have e0 : ws = [] := by
      have := of_decide_eq_false h
      rw [List.length_map] at this
      exact List.eq_nil_of_length_eq_zero (by omega)
    subst e0
    refine wps_ret (wpe_cb1 (wpe_keysD (i := 2) rfl (cbd_sorted fun ys hp hs => ?_)))
    intro st' y' ss' e sd'
    obtain ⟨h1, h2⟩ := List.cons.inj e
    obtain ⟨h2, _⟩ := List.cons.inj h2
    obtain rfl := map_int_inj (D.lst.inj (Sl.da.inj h1))
    obtain rfl := Sl.da.inj h2
    obtain rfl := sd.uniq sd'
    refine ⟨ys, rfl, ?_, fun z hz => ci.inN z (hp.mem_iff.mp hz), fun z hz => hp.mem_iff.mpr (ci.has z hz), fun i zs e hi z hz => ?_, fun P c h z hz => ci.least P c h z (hp.mem_iff.mp hz)⟩
    · have nd2 := hp.nodup_iff.mpr ci.nd
      exact (hs.and nd2).imp fun {a b} ⟨h1, h2⟩ => by omega
    · have hk := hp.mem_iff.mp hi
      have := ci.cl i hk (by simp) (fun q => q) zs (by rw [Int.toNat_natCast]; exact e) z hz
      exact hp.mem_iff.mpr this
end
end Nv
namespace Nv
open PySem PySem.Spec PyProof.Rows L2
/-- a list of lists that stand at ps, untold -/
structure Bk (T : Tr) (G H : Hp) (Dl : Addr) (ps : List Addr) (bs : List (List Int)) : Prop where
  dl : H Dl = some (.lst (ps.map V.ref))
  dn : G Dl = none ∧ ¬ T.S Dl ∧ ¬ T.O Dl
  len : ps.length = bs.length
  row : ∀ (i : Nat) (p : Addr), ps[i]? = some p → (G p = none ∧ ¬ T.S p ∧ ¬ T.O p ∧ p ≠ Dl) ∧ ∃ zs, bs[i]? = some zs ∧ H p = some (.lst (zs.map V.int))
  inj : ∀ (i j : Nat) (p : Addr), ps[i]? = some p → ps[j]? = some p → i = j
theorem Bk.step {T : Tr} {G H G' H' : Hp} {Dl : Addr} {ps : List Addr} {bs : List (List Int)} (b : Bk T G H Dl ps bs) {S : Addr → Prop} (s : Stp S G H G' H') (m : ∀ a, S a → T.S a) : Bk T G' H' Dl ps bs :=
  ⟨s.hs _ _ b.dl fun z => b.dn.2.1 (m _ z), ⟨s.gn _ b.dn.1 (by rw [b.dl]; exact fun z => nomatch z), b.dn.2⟩, b.len, fun i p e => by
    obtain ⟨⟨q1, q2, q3, q4⟩, zs, e2, h⟩ := b.row i p e
    exact ⟨⟨s.gn _ q1 (by rw [h]; exact fun z => nomatch z), q2, q3, q4⟩, zs, e2, s.hs _ _ h fun z => q2 (m _ z)⟩, b.inj⟩
/-- the other slots stay, the lists are told -/
theorem Bk.tell {T : Tr} {G H : Hp} {Dl : Addr} {ps : List Addr} {bs : List (List Int)} (b : Bk T G H Dl ps bs) {δ : List Sl} {σ : L2.St} (en : Ens T G H δ σ)
    (no : ∀ (i : Nat) (a : Addr) (ds : List D), ¬ δ[i]? = some (.ow a ds)) (no2 : ∀ (i : Nat) (a : Addr) (ds : List Int), ¬ δ[i]? = some (.od a ds)) :
    ∃ G', StB T.O T.S G H G' H ∧ Ens T G' H δ σ ∧ At G' (.ref Dl) (.lst (bs.map fun zs => .lst (zs.map D.int))) := by
  let In : Addr → Prop := fun a => a = Dl ∨ a ∈ ps
  have dec : ∀ a, In a ∨ ¬ In a := fun a => Classical.em _
  let G' : Hp := fun a => if Classical.propDecidable (In a) |>.decide then H a else G a
  have gin : ∀ a, In a → G' a = H a := fun a h => by
    show (if _ then _ else _) = _
    rw [if_pos]
    exact @decide_eq_true _ (Classical.propDecidable _) h
  have gout : ∀ a, ¬ In a → G' a = G a := fun a h => by
    show (if _ then _ else _) = _
    rw [if_neg]
    intro z
    exact h (@of_decide_eq_true _ (Classical.propDecidable _) z)
  have gno : ∀ a, In a → G a = none ∧ ¬ T.S a ∧ ¬ T.O a := fun a h => by
    rcases h with rfl | h
    · exact b.dn
    · obtain ⟨i, e⟩ := List.mem_iff_getElem?.mp h
      obtain ⟨⟨q1, q2, q3, q4⟩, _⟩ := b.row i a e
      exact ⟨q1, q2, q3⟩
  have s1 : Same G G' := fun a u e => by
    rcases dec a with h | h
    · rw [(gno a h).1] at e; exact nomatch e
    · rw [gout a h]; exact e
  have s2 : Same G' H := fun a u e => by
    rcases dec a with h | h
    · rw [gin a h] at e; exact e
    · rw [gout a h] at e; exact en.same a u e
  refine ⟨G', ⟨s1, fun _ _ _ e _ => e, fun _ e => e, fun a o e => ?_⟩, ⟨s2, en.len, fun i s e => ?_, fun a h => ?_, en.old, en.inv, en.nd, en.nd2⟩, ?_⟩
  · rw [gout a fun h => (gno a h).2.2 o]; exact e
  · obtain ⟨o, e1, r⟩ := en.get i s e
    refine ⟨o, e1, ?_⟩
    cases s with
    | no => trivial
    | fx v => exact r
    | da d =>
      obtain ⟨v, q1, q2⟩ := r
      exact ⟨v, q1, q2.same s1⟩
    | fz b es =>
      obtain ⟨r1, ob, ys, r2, r3, r4⟩ := r
      exact ⟨r1, ob, ys, s1 _ _ r2, r3, r4.same s1⟩
    | st a => exact r
    | ow a ds => exact (no i a ds e).elim
    | od a ds => exact (no2 i a ds e).elim
  · obtain ⟨g, r⟩ := en.stt a h
    exact ⟨by rw [gout a fun q => (gno a q).2.1 h]; exact g, r⟩
  · refine .lst (xs := ps.map V.ref) (by rw [gin Dl (.inl rfl)]; exact b.dl) ?_
    have all : ∀ (qs : List Addr) (cs : List (List Int)), qs.length = cs.length → (∀ (i : Nat) (p : Addr), qs[i]? = some p → In p ∧ ∃ zs, cs[i]? = some zs ∧ H p = some (.lst (zs.map V.int))) →
        AtAll G' (qs.map V.ref) (cs.map fun zs => .lst (zs.map D.int)) := by
      intro qs
      induction qs with
      | nil =>
        intro cs l h
        cases cs with
        | nil => exact .nil
        | cons => cases l
      | cons q qs ih =>
        intro cs l h
        cases cs with
        | nil => cases l
        | cons c cs =>
          obtain ⟨h1, zs, e, h2⟩ := h 0 q rfl
          obtain rfl : c = zs := by simpa using e
          exact .cons (.lst (by rw [gin q h1]; exact h2) (ints_atAll c)) (ih cs (by simpa using l) fun i p e => by
            obtain ⟨h1, zs, e1, h2⟩ := h (i + 1) p (by simpa using e)
            exact ⟨h1, zs, by simpa using e1, h2⟩)
    refine all ps bs b.len fun i p e => ?_
    obtain ⟨_, zs, e2, h⟩ := b.row i p e
    exact ⟨.inr (List.mem_of_getElem? e), zs, e2, h⟩
/-- one more behind the list at g -/
theorem Bk.add {T : Tr} {G H : Hp} {Dl : Addr} {ps : List Addr} {bs : List (List Int)} (b : Bk T G H Dl ps bs) {δ : List Sl} {σ : L2.St} (en : Ens T G H δ σ)
    (no : ∀ (i : Nat) (a : Addr) (ds : List D), ¬ δ[i]? = some (.ow a ds)) (no2 : ∀ (i : Nat) (a : Addr) (ds : List Int), ¬ δ[i]? = some (.od a ds)) {g : Nat} {p : Addr} {zs : List Int} {z : Int} (eg : ps[g]? = some p) (ez : bs[g]? = some zs) :
    let H' := upd H p (.lst ((zs ++ [z]).map V.int))
    StB T.O T.S G H G H' ∧ Ens T G H' δ σ ∧ Bk T G H' Dl ps (bs.set g (zs ++ [z])) := by
  obtain ⟨⟨q1, q2, q3, q4⟩, zs', ez', hp⟩ := b.row g p eg
  rw [ez] at ez'
  obtain rfl := Option.some.inj ez'
  refine ⟨⟨.refl _, fun a u o e n => by rw [upd_ne (fun z => q3 (by rw [← z]; exact o))]; exact e, fun a e => ?_, fun _ _ e => e⟩,
    ⟨fun a u e => ?_, en.len, fun i s e => ?_, fun a h => ?_, fun a h => ?_, fun a u h => ?_, en.nd, en.nd2⟩, ?_, b.dn, by rw [List.length_set]; exact b.len, fun i a e => ?_, b.inj⟩
  · by_cases z : a = p
    · rw [z, upd_same]; exact fun q => nomatch q
    · rw [upd_ne z]; exact e
  · rw [upd_ne (fun z => by rw [z, q1] at e; exact nomatch e)]
    exact en.same a u e
  · obtain ⟨o, e1, r⟩ := en.get i s e
    refine ⟨o, e1, ?_⟩
    cases s with
    | no => trivial
    | fx v => exact r
    | da d => exact r
    | fz _ _ => exact r
    | st a => exact r
    | ow a ds => exact (no i a ds e).elim
    | od a ds => exact (no2 i a ds e).elim
  · obtain ⟨g, x, y, w, r⟩ := en.stt a h
    exact ⟨g, x, y, w, by rw [upd_ne (fun z => q2 (by rw [← z]; exact h))]; exact r⟩
  · by_cases z : a = p
    · rw [z, upd_same]; exact fun q => nomatch q
    · rw [upd_ne z]; exact en.old a h
  · obtain ⟨h1, h2, h3⟩ := en.inv a u h
    exact ⟨by rw [upd_ne (fun z => q3 (by rw [← z]; exact h3))]; exact h1, h2, h3⟩
  · rw [upd_ne (fun z => q4 z.symm)]; exact b.dl
  · obtain ⟨r1, zs2, e2, h⟩ := b.row i a e
    refine ⟨r1, ?_⟩
    by_cases z : i = g
    · subst z
      rw [eg] at e
      obtain rfl := Option.some.inj e
      exact ⟨_, List.getElem?_set_self (List.getElem?_eq_some_iff.mp ez).1, upd_same⟩
    · have na : a ≠ p := fun q => z (b.inj i g p (by rw [← q]; exact e) eg)
      exact ⟨zs2, by rw [List.getElem?_set_ne (fun q => z q.symm)]; exact e2, by rw [upd_ne na]; exact h⟩
theorem Ens.untold {T : Tr} {G H : Hp} {δ : List Sl} {σ : L2.St} (en : Ens T G H δ σ) (no : ∀ (i : Nat) (a : Addr) (ds : List D), ¬ δ[i]? = some (.ow a ds)) (no2 : ∀ (i : Nat) (a : Addr) (ds : List Int), ¬ δ[i]? = some (.od a ds))
    {p : Addr} {o : HO} (q : G p = none ∧ ¬ T.S p ∧ ¬ T.O p) : Ens T G (upd H p o) δ σ := by
  obtain ⟨q1, q2, q3⟩ := q
  refine ⟨fun a u e => ?_, en.len, fun i s e => ?_, fun a h => ?_, fun a h => ?_, fun a u h => ?_, en.nd, en.nd2⟩
  · rw [upd_ne (fun z => by rw [z, q1] at e; exact nomatch e)]
    exact en.same a u e
  · obtain ⟨o, e1, r⟩ := en.get i s e
    refine ⟨o, e1, ?_⟩
    cases s with
    | no => trivial
    | fx v => exact r
    | da d => exact r
    | fz _ _ => exact r
    | st a => exact r
    | ow a ds => exact (no i a ds e).elim
    | od a ds => exact (no2 i a ds e).elim
  · obtain ⟨g, x, y, w, r⟩ := en.stt a h
    exact ⟨g, x, y, w, by rw [upd_ne (fun z => q2 (by rw [← z]; exact h))]; exact r⟩
  · by_cases z : a = p
    · rw [z, upd_same]; exact fun q => nomatch q
    · rw [upd_ne z]; exact en.old a h
  · obtain ⟨h1, h2, h3⟩ := en.inv a u h
    exact ⟨by rw [upd_ne (fun z => q3 (by rw [← z]; exact h3))]; exact h1, h2, h3⟩
theorem StB.untold {O S : Addr → Prop} {G H : Hp} {p : Addr} {o : HO} (q : ¬ O p) : StB O S G H G (upd H p o) :=
  ⟨.refl _, fun b u ob e n => by rw [upd_ne (fun z => q (by rw [← z]; exact ob))]; exact e, fun b e => by
    by_cases z : b = p
    · rw [z, upd_same]; exact fun q => nomatch q
    · rw [upd_ne z]; exact e, fun _ _ e => e⟩
theorem Ens.fresh {T : Tr} {G H : Hp} {δ : List Sl} {σ : L2.St} (en : Ens T G H δ σ) {p : Addr} (hp : H p = none) : G p = none ∧ ¬ T.S p ∧ ¬ T.O p :=
  ⟨en.same.free hp, (fun z => by
    obtain ⟨_, x, y, w, e⟩ := en.stt p z
    rw [hp] at e
    exact nomatch e), (fun z => en.old p z hp)⟩
/-- the turns of a world as numbers -/
def tD (ts : List (List Int)) : D := .tup (ts.map fun zs => .tup (zs.map D.int))
def lD (bs : List (List Int)) : D := .lst (bs.map fun zs => .lst (zs.map D.int))
/-- behind the turns of the first i standings, and j turns of the next one -/
def BackP (ts : List (List Int)) (i j : Nat) (bs : List (List Int)) : Prop := ∀ (g : Nat) (l : List Int), bs[g]? = some l → l.Nodup ∧
  ∀ z : Int, z ∈ l ↔ ∃ (k : Nat) (zs : List Int), z = (k : Int) ∧ ts[k]? = some zs ∧ ((k < i ∧ (g : Int) ∈ zs) ∨ (k = i ∧ (g : Int) ∈ zs.take j))
def BackOf (ts bs : List (List Int)) : Prop := ∀ (g : Nat) (l : List Int), bs[g]? = some l → l.Nodup ∧ ∀ z : Int, z ∈ l ↔ ∃ (k : Nat) (zs : List Int), z = (k : Int) ∧ ts[k]? = some zs ∧ (g : Int) ∈ zs
theorem back_next {ts bs : List (List Int)} {i : Nat} {zs : List Int} (e : ts[i]? = some zs) (h : BackP ts i zs.length bs) : BackP ts (i + 1) 0 bs := fun g l eg => by
  obtain ⟨nd, h⟩ := h g l eg
  refine ⟨nd, fun z => (h z).trans ⟨fun ⟨k, ys, e1, e2, q⟩ => ⟨k, ys, e1, e2, .inl ?_⟩, fun ⟨k, ys, e1, e2, q⟩ => ⟨k, ys, e1, e2, ?_⟩⟩⟩
  · rcases q with ⟨q1, q2⟩ | ⟨rfl, q2⟩
    · exact ⟨by omega, q2⟩
    · exact ⟨by omega, List.mem_of_mem_take q2⟩
  · rcases q with ⟨q1, q2⟩ | ⟨q1, q2⟩
    · by_cases z : k = i
      · subst z
        rw [e] at e2
        obtain rfl := Option.some.inj e2
        exact .inr ⟨rfl, by rw [List.take_length]; exact q2⟩
      · exact .inl ⟨by omega, q2⟩
    · simp at q2
theorem back_add {ts bs : List (List Int)} {i j g : Nat} {zs l : List Int} (e : ts[i]? = some zs) (nd : zs.Nodup) (ej : zs[j]? = some (g : Int)) (eg : bs[g]? = some l) (h : BackP ts i j bs) : BackP ts i (j + 1) (bs.set g (l ++ [(i : Int)])) := fun g' l' e' => by
  have tk : zs.take (j + 1) = zs.take j ++ [(g : Int)] := by rw [List.take_add_one, ej]; rfl
  by_cases z : g' = g
  · subst z
    rw [List.getElem?_set_self (List.getElem?_eq_some_iff.mp eg).1] at e'
    obtain rfl := Option.some.inj e'
    obtain ⟨nd1, h1⟩ := h g' l eg
    have ni : (i : Int) ∉ l := fun m => by
      obtain ⟨k, ys, e1, e2, q⟩ := (h1 _).mp m
      rcases q with ⟨q1, q2⟩ | ⟨q1, q2⟩
      · omega
      · subst q1
        rw [e] at e2
        obtain rfl := Option.some.inj e2
        obtain ⟨a, la, ea⟩ := List.mem_take_iff_getElem.mp q2
        obtain ⟨lj, ej2⟩ := List.getElem?_eq_some_iff.mp ej
        have := (List.getElem_inj nd).mp (ea.trans ej2.symm)
        omega
    refine ⟨?_, fun z => ?_⟩
    · rw [List.nodup_append]
      exact ⟨nd1, by simp, fun a ha b hb => by rw [List.mem_singleton] at hb; subst hb; exact fun z => ni (by rw [← z]; exact ha)⟩
    · rw [List.mem_append, List.mem_singleton, h1 z]
      constructor
      · rintro (⟨k, ys, e1, e2, q⟩ | rfl)
        · refine ⟨k, ys, e1, e2, ?_⟩
          rcases q with q | ⟨q1, q2⟩
          · exact .inl q
          · subst q1
            rw [e] at e2
            obtain rfl := Option.some.inj e2
            exact .inr ⟨rfl, by rw [tk]; simp [q2]⟩
        · exact ⟨i, zs, rfl, e, .inr ⟨rfl, by rw [tk]; simp⟩⟩
      · rintro ⟨k, ys, e1, e2, q⟩
        rcases q with q | ⟨q1, q2⟩
        · exact .inl ⟨k, ys, e1, e2, .inl q⟩
        · subst q1
          exact .inr e1
  · rw [List.getElem?_set_ne (fun q => z q.symm)] at e'
    obtain ⟨nd1, h1⟩ := h g' l' e'
    refine ⟨nd1, fun x => (h1 x).trans ⟨fun ⟨k, ys, e1, e2, q⟩ => ⟨k, ys, e1, e2, ?_⟩, fun ⟨k, ys, e1, e2, q⟩ => ⟨k, ys, e1, e2, ?_⟩⟩⟩
    · rcases q with q | ⟨q1, q2⟩
      · exact .inl q
      · exact .inr ⟨q1, by
          subst q1
          rw [e] at e2
          obtain rfl := Option.some.inj e2
          rw [tk]; simp [q2]⟩
    · rcases q with q | ⟨q1, q2⟩
      · exact .inl q
      · refine .inr ⟨q1, ?_⟩
        subst q1
        rw [e] at e2
        obtain rfl := Option.some.inj e2
        rw [tk] at q2
        rcases List.mem_append.mp q2 with q2 | q2
        · exact q2
        · have : ((g' : Nat) : Int) = g := by simpa using q2
          omega
theorem no8 {a b : D} {x3 x4 x5 : Sl} (h3 : ∀ p ds, x3 ≠ .ow p ds) (h3' : ∀ p ds, x3 ≠ .od p ds) (h4 : ∀ p ds, x4 ≠ .ow p ds) (h4' : ∀ p ds, x4 ≠ .od p ds) (h5 : ∀ p ds, x5 ≠ .ow p ds) (h5' : ∀ p ds, x5 ≠ .od p ds) :
    (∀ (i : Nat) (p : Addr) (ds : List D), ¬ [Sl.da a, .da b, .no, x3, x4, x5, .no, .no][i]? = some (.ow p ds)) ∧ ∀ (i : Nat) (p : Addr) (ds : List Int), ¬ [Sl.da a, .da b, .no, x3, x4, x5, .no, .no][i]? = some (.od p ds) := by
  constructor
  · intro i p ds e
    match i, e with
    | 0, e => simp at e
    | 1, e => simp at e
    | 2, e => simp at e
    | 3, e => simp at e; exact h3 p ds e
    | 4, e => simp at e; exact h4 p ds e
    | 5, e => simp at e; exact h5 p ds e
    | 6, e => simp at e
    | 7, e => simp at e
    | n + 8, e => simp at e
  · intro i p ds e
    match i, e with
    | 0, e => simp at e
    | 1, e => simp at e
    | 2, e => simp at e
    | 3, e => simp at e; exact h3' p ds e
    | 4, e => simp at e; exact h4' p ds e
    | 5, e => simp at e; exact h5' p ds e
    | 6, e => simp at e
    | 7, e => simp at e
    | n + 8, e => simp at e
section
variable {K : PySem.W.Frag} {R : Rg} {Φ : List Sl → Prop} {Ψ : D → Prop}
abbrev tLenK (K : PySem.W.Frag) : List V → Hp → VK → Prop := fun xs H Q => (∃ p ys, xs = [.ref p] ∧ (SqL K H p ys ∨ SqT K H p ys) ∧ Q (.int ys.length) H) ∨ (∃ z, xs = [.str z] ∧ z.length ≤ sizeLine ∧ Q (.int z.length) H)
theorem wps_back {u : TS} {ts : List (List Int)} {a : D} (ln : ts.length ≤ 1000) (inn : ∀ zs ∈ ts, InN ts.length zs ∧ zs.Nodup)
    (h : ∀ bs, bs.length = ts.length → BackOf ts bs → WpS R u [.da (tD ts), .da a, .da (lD bs), .no, .no, .no, .no, .no] Φ Ψ) :
    WpS R (tSeq (tAsg (tLc (iRng1 (tCons (tCB (tLenK K) (tCons (tVar 0) tNil)) tNil)) (gName 7) tYes (tLst tNil) [7]) (gName 2))
      (tSeq (tFor (iEnumT K (tCons (tVar 0) tNil)) (gTup K 2 (gCons (gName 3) (gCons (gName 4) gNil))) (tFor (iSeq K (tVar 4)) (gName 5) (tDrop (tBM K "list" rAppend (tOp (rIx K) (tVar 2) (tVar 5)) (tCons (tVar 3) tNil))))) u))
      [.da (tD ts), .da a, .no, .no, .no, .no, .no, .no] Φ Ψ := fun σ G H en rz Z k1 k2 => by
  obtain ⟨no, no2⟩ := no8 (a := tD ts) (b := a) (x3 := .no) (x4 := .no) (x5 := .no) (fun _ _ z => nomatch z) (fun _ _ z => nomatch z) (fun _ _ z => nomatch z) (fun _ _ z => nomatch z) (fun _ _ z => nomatch z) (fun _ _ z => nomatch z)
  obtain ⟨o, e0, v, rfl, av⟩ := en.get 0 _ rfl
  obtain ⟨p0, xs, rfl, ha, al⟩ := at_tup av
  have lx : xs.length = ts.length := by rw [al.length, List.length_map]
  refine ⟨_, e0, .inl ⟨p0, xs, rfl, .inr (sqT_of en.same ha), _, rfl, by omega, by omega, fun Dl hD => ?_⟩⟩
  rw [lx]
  have fD := en.fresh hD
  refine ⟨fun i m H' => m = ts.length - i ∧ i ≤ ts.length ∧ ∃ ps : List Addr, Bk R.T G H' Dl ps (List.replicate i []) ∧ Ens R.T G H' [.da (tD ts), .da a, .no, .no, .no, .no, .no, .no] σ ∧ StB R.T.O R.T.S G H G H',
    ⟨_, rfl, Nat.zero_le _, [], ⟨upd_same, fD, rfl, fun i p e => by simp at e, fun i j p e => by simp at e⟩, en.untold no no2 fD, StB.untold fD.2.2⟩, ?_⟩
  rintro i m H' ⟨rfl, hi, ps, bk, en', sB⟩
  have lps : ps.length = i := by rw [bk.len, List.length_replicate]
  by_cases lt : i < ts.length
  · refine .inr ⟨lt, fun H2 => ∃ ps : List Addr, Bk R.T G H2 Dl ps (List.replicate (i + 1) []) ∧ Ens R.T G H2 [.da (tD ts), .da a, .no, .no, .no, .no, .no, .no] σ ∧ StB R.T.O R.T.S G H G H2, fun H2 z => ⟨ts.length - (i + 1), by omega, rfl, lt, z⟩, fun x H2 y => ?_⟩
    obtain ⟨rfl, rfl⟩ := y
    refine ⟨wipe_eq (js := [7]) (by simp) (fun k hk => List.getElem?_set_ne (fun z => hk (by simp [z]))) (by rw [List.length_set]), iteT (B := ∃ ps : List Addr, Bk R.T G H2 Dl ps (List.replicate (i + 1) []) ∧ Ens R.T G H2 [.da (tD ts), .da a, .no, .no, .no, .no, .no, .no] σ ∧ StB R.T.O R.T.S G H G H2) ?_⟩
    refine ⟨Nat.zero_le _, fun p hp => ⟨ps.map V.ref, ?_, ?_, ps ++ [p], ?_, ?_, ?_⟩⟩
    · rw [upd_ne (fun z => by have := bk.dl; rw [z, hp] at this; exact nomatch this)]
      exact bk.dl
    · rw [List.length_map, lps]
      exact Nat.lt_of_lt_of_le lt (Nat.le_trans ln (by decide))
    · have fp := en'.fresh hp
      have pD : p ≠ Dl := fun z => by have := bk.dl; rw [← z, hp] at this; exact nomatch this
      refine ⟨by rw [upd_same, List.map_append]; rfl, bk.dn, by rw [List.length_append, lps, List.length_replicate]; rfl, fun j q e => ?_, fun j k q e1 e2 => ?_⟩
      · by_cases lj : j < ps.length
        · rw [List.getElem?_append_left lj] at e
          obtain ⟨⟨r1, r2, r3, r4⟩, zs, e2, h2⟩ := bk.row j q e
          have qp : q ≠ p := fun z => by rw [z, hp] at h2; exact nomatch h2
          refine ⟨⟨r1, r2, r3, r4⟩, [], ?_, ?_⟩
          · rw [List.getElem?_replicate, if_pos (by omega)]
          · rw [List.getElem?_replicate] at e2
            split at e2
            · obtain rfl := Option.some.inj e2
              rw [upd_ne r4, upd_ne qp]
              exact h2
            · exact nomatch e2
        · have ej : j = ps.length := by
            have := (List.getElem?_eq_some_iff.mp e).1
            rw [List.length_append, List.length_singleton] at this
            omega
          subst ej
          rw [List.getElem?_append_right (Nat.le_refl _), Nat.sub_self] at e
          obtain rfl : p = q := by simpa using e
          exact ⟨⟨fp.1, fp.2.1, fp.2.2, pD⟩, [], by rw [List.getElem?_replicate, if_pos (by omega)], by rw [upd_ne pD, upd_same]; rfl⟩
      · have old : ∀ (j : Nat) (q : Addr), (ps ++ [p])[j]? = some q → j < ps.length → q ≠ p := fun j q e lj z => by
          rw [List.getElem?_append_left lj] at e
          obtain ⟨_, zs, _, h2⟩ := bk.row j q e
          rw [z, hp] at h2
          exact nomatch h2
        have new : ∀ (j : Nat) (q : Addr), (ps ++ [p])[j]? = some q → ¬ j < ps.length → j = ps.length ∧ q = p := fun j q e lj => by
          have ej : j = ps.length := by
            have := (List.getElem?_eq_some_iff.mp e).1
            rw [List.length_append, List.length_singleton] at this
            omega
          subst ej
          rw [List.getElem?_append_right (Nat.le_refl _), Nat.sub_self] at e
          exact ⟨rfl, by simpa using e.symm⟩
        by_cases lj : j < ps.length
        · by_cases lk : k < ps.length
          · rw [List.getElem?_append_left lj] at e1
            rw [List.getElem?_append_left lk] at e2
            exact bk.inj j k q e1 e2
          · exact absurd (new k q e2 lk).2 (old j q e1 lj)
        · by_cases lk : k < ps.length
          · exact absurd (new j q e1 lj).2 (old k q e2 lk)
          · rw [(new j q e1 lj).1, (new k q e2 lk).1]
    · exact (en'.grow (same_upd hp)).untold no no2 bk.dn
    · exact (sB.trans ((Stp.grow (S := R.T.S) (same_upd hp)).toB en'.old)).trans (StB.untold bk.dn.2.2)
  · have e : i = ts.length := by omega
    subst e
    refine .inl ⟨Nat.le_refl _, ?_⟩
    show tFor (iEnumT K (tCons (tVar 0) tNil)) (gTup K 2 (gCons (gName 3) (gCons (gName 4) gNil))) (tFor (iSeq K (tVar 4)) (gName 5) (tDrop (tBM K "list" rAppend (tOp (rIx K) (tVar 2) (tVar 5)) (tCons (tVar 3) tNil)))) { Z with nx := u Z } (σ.set 2 (some (.ref Dl))) H'
    have en2 : Ens R.T G H' [.da (tD ts), .da a, .no, .no, .no, .no, .no, .no] (σ.set 2 (some (.ref Dl))) := en'.forget (i := 2)
    have l2 : (σ.set 2 (some (V.ref Dl)))[2]? = some (some (.ref Dl)) := List.getElem?_set_self (by rw [← en.len]; exact (by decide : 2 < 8))
    generalize σ.set 2 (some (V.ref Dl)) = σ2 at en2 l2
    refine wpi_enuT1 (φ := fun ds => ds = enuD (ts.map fun zs => .tup (zs.map D.int))) (wpe_var (i := 0) (d := tD ts) rfl ⟨_, rfl, rfl⟩) σ2 G H' en2 (rz.stepB sB) _ fun J ds G1 H1 s1 e1 wk eds => ?_
    subst eds
    have len9 : (enuD (ts.map fun zs => .tup (zs.map D.int))).length = ts.length := by rw [enuD_len, List.length_map]
    refine ⟨fun i m σ' H2 => m = ts.length - i ∧ i ≤ ts.length ∧ ∃ G2 bs, StB R.T.O R.T.S G H G2 H2 ∧ Same G1 G2 ∧ Ens R.T G2 H2 [.da (tD ts), .da a, .no, .no, .no, .no, .no, .no] σ' ∧ σ'[2]? = some (some (.ref Dl)) ∧ Bk R.T G2 H2 Dl ps bs ∧ BackP ts i 0 bs ∧ bs.length = ts.length,
      ⟨_, rfl, Nat.zero_le _, G1, _, sB.trans (s1.toB en'.old), .refl _, e1, l2, bk.step s1 (fun _ z => z), fun g l eg => ?_, List.length_replicate⟩, ?_⟩
    · rw [List.getElem?_replicate] at eg
      split at eg
      · obtain rfl := Option.some.inj eg
        refine ⟨.nil, fun z => ⟨(fun q => nomatch q), (fun ⟨k, zs, _, _, q⟩ => ?_)⟩⟩
        rcases q with q | q
        · omega
        · simp at q
      · exact nomatch eg
    rintro i m σ3 H3 ⟨rfl, hi, G3, bs, sB3, sm3, en3, l3, bk3, bp3, lb3⟩
    obtain ⟨go, stop, yld⟩ := wk G3 H3 sm3 en3.same
    rw [len9] at go stop yld
    by_cases lt : i < ts.length
    · refine .inr ⟨go i lt, fun σ4 H4 => ∃ G4 bs, StB R.T.O R.T.S G H G4 H4 ∧ Same G1 G4 ∧ Ens R.T G4 H4 [.da (tD ts), .da a, .no, .no, .no, .no, .no, .no] σ4 ∧ σ4[2]? = some (some (.ref Dl)) ∧ Bk R.T G4 H4 Dl ps bs ∧ BackP ts (i + 1) 0 bs ∧ bs.length = ts.length,
        fun σ4 H4 z => ⟨ts.length - (i + 1), by omega, rfl, lt, z⟩, fun x H4 y => ?_⟩
      obtain ⟨d, G4, ed, s4, sm4, at4⟩ := yld i x H4 lt y
      obtain ⟨r, er, rfl⟩ := enuD_at ed
      have ez : ts[i]? = some ts[i] := List.getElem?_eq_getElem lt
      generalize ts[i] = zs at ez
      rw [List.getElem?_map, ez] at er
      obtain rfl := Option.some.inj er
      obtain ⟨zin, znd⟩ := inn zs (List.mem_of_getElem? ez)
      have en4 := en3.step0 s4 sm4
      have bk4 := bk3.step s4 (fun _ z => z.elim)
      have sB4 := sB3.trans ((s4.zero (S := R.T.S)).toB en3.old)
      refine wpg_pair (R := R) (φ := fun δ => δ = [.da (tD ts), .da a, .no, .da (.int i), .da (.tup (zs.map D.int)), .no, .no, .no]) ⟨_, _, rfl, rfl⟩ σ3 G4 H4 x en4 at4 _ fun σ5 δ5 en5 ag5 ln5 eδ => ?_
      subst eδ
      have l5 : σ5[2]? = some (some (.ref Dl)) := by rw [ag5 2 (by decide)]; exact l3
      refine wpi_seq (φ := fun ds => ds = zs.map D.int) (wpe_var (i := 4) rfl ⟨_, .inr rfl, rfl⟩) σ5 G4 H4 en5 (rz.stepB sB4) _ fun J2 ds2 G6 H6 s6 e6 wk2 eds2 => ?_
      subst eds2
      have ln2 : (zs.map D.int).length = zs.length := List.length_map ..
      refine ⟨fun j m σ' H7 => m = zs.length - j ∧ j ≤ zs.length ∧ ∃ G7 bs x5, StB R.T.O R.T.S G H G7 H7 ∧ Same G6 G7 ∧ Ens R.T G7 H7 [.da (tD ts), .da a, .no, .da (.int i), .da (.tup (zs.map D.int)), .no, .no, .no] (σ'.set 5 x5) ∧ σ'[2]? = some (some (.ref Dl)) ∧ σ'[5]? = some x5 ∧ Bk R.T G7 H7 Dl ps bs ∧ BackP ts i j bs ∧ bs.length = ts.length,
        ⟨_, rfl, Nat.zero_le _, G6, bs, ?_⟩, ?_⟩
      · have l55 : 5 < σ5.length := by rw [← e6.len]; exact (by decide : 5 < 8)
        refine ⟨σ5[5], sB4.trans (s6.toB en4.old), .refl _, ?_, l5, List.getElem?_eq_getElem l55, bk4.step s6 (fun _ z => z), bp3, lb3⟩
        rw [List.set_getElem_self]
        exact e6
      rintro j m σ7 H7 ⟨rfl, hj, G7, bs7, x5, sB7, sm7, en7', l7, l75, bk7, bp7, lb7⟩
      have en7 : Ens R.T G7 H7 [.da (tD ts), .da a, .no, .da (.int i), .da (.tup (zs.map D.int)), .no, .no, .no] σ7 := by
        have : σ7.set 5 x5 = σ7 := by
          obtain ⟨l8, e8⟩ := List.getElem?_eq_some_iff.mp l75
          rw [← e8, List.set_getElem_self]
        rw [this] at en7'
        exact en7'
      obtain ⟨no7, no72⟩ := no8 (a := tD ts) (b := a) (x3 := .da (.int i)) (x4 := .da (.tup (zs.map D.int))) (x5 := .no) (fun _ _ z => nomatch z) (fun _ _ z => nomatch z) (fun _ _ z => nomatch z) (fun _ _ z => nomatch z) (fun _ _ z => nomatch z) (fun _ _ z => nomatch z)
      obtain ⟨go2, stop2, yld2⟩ := wk2 G7 H7 sm7 en7.same
      rw [ln2] at go2 stop2 yld2
      by_cases lt2 : j < zs.length
      · refine .inr ⟨go2 j lt2, fun σ8 H8 => ∃ G7 bs x5, StB R.T.O R.T.S G H G7 H8 ∧ Same G6 G7 ∧ Ens R.T G7 H8 [.da (tD ts), .da a, .no, .da (.int i), .da (.tup (zs.map D.int)), .no, .no, .no] (σ8.set 5 x5) ∧ σ8[2]? = some (some (.ref Dl)) ∧ σ8[5]? = some x5 ∧ Bk R.T G7 H8 Dl ps bs ∧ BackP ts i (j + 1) bs ∧ bs.length = ts.length,
          fun σ8 H8 z => ⟨zs.length - (j + 1), by omega, rfl, lt2, z⟩, fun x8 H8 y8 => ?_⟩
        obtain ⟨d8, G8, ed8, s8, sm8, at8⟩ := yld2 j x8 H8 lt2 y8
        rw [List.getElem?_map] at ed8
        obtain ⟨g, eg, rfl⟩ := Option.map_eq_some_iff.mp ed8
        cases at8
        obtain ⟨g0, g1⟩ := zin g (List.mem_of_getElem? eg)
        have en8 := en7.step0 s8 sm8
        have bk8 := bk7.step s8 (fun _ z => z.elim)
        have sB8 := sB7.trans ((s8.zero (S := R.T.S)).toB en7.old)
        have l75' : 5 < σ7.length := by rw [← en7.len]; exact (by decide : 5 < 8)
        have lg : g.toNat < ps.length := by rw [bk8.len, lb7]; omega
        have ep : ps[g.toNat]? = some ps[g.toNat] := List.getElem?_eq_getElem lg
        generalize ps[g.toNat] = p at ep
        obtain ⟨_, l, el, hp⟩ := bk8.row _ _ ep
        have eg' : ((g.toNat : Nat) : Int) = g := by omega
        obtain ⟨o3, e3, v3, rfl, a3⟩ := en8.get 3 _ rfl
        cases a3
        show (tDrop _) _ (σ7.set 5 (some (.int g))) H8
        refine ⟨_, by rw [List.getElem?_set_ne (by decide)]; exact l7, _, List.getElem?_set_self l75', .inl ⟨Dl, ps.map V.ref, g, .ref p, rfl, rfl, .inl (.inl bk8.dl), ?_, ?_⟩⟩
        · rw [← eg']
          exact atI_nat (by rw [List.getElem?_map, ep]; rfl)
        · refine ⟨.inl ⟨rfl, _, .inl (.inl hp)⟩, _, by rw [List.getElem?_set_ne (by decide)]; exact e3, p, _, _, rfl, rfl, hp, ?_, ?_⟩
          · rw [List.length_map]
            have nd := (bp7 _ _ el).1
            have hz : InN ts.length l := fun z hz => by
              obtain ⟨k, ys, e1, e2, _⟩ := ((bp7 _ _ el).2 z).mp hz
              have := (List.getElem?_eq_some_iff.mp e2).1
              omega
            exact Nat.lt_of_le_of_lt (Nat.le_trans (bound hz nd) ln) (by decide)
          · obtain ⟨t1, t2, t3⟩ := bk8.add en8 no7 no72 (z := (i : Int)) ep el
            rw [show (l.map V.int ++ [V.int (i : Int)]) = (l ++ [(i : Int)]).map V.int by rw [List.map_append]; rfl]
            refine ⟨G8, _, some (.int g), sB8.trans t1, sm7.trans s8.gs, ?_, by rw [List.getElem?_set_ne (by decide)]; exact l7, List.getElem?_set_self l75', t3, back_add ez znd (by rw [eg']; exact eg) el bp7, by rw [List.length_set]; exact lb7⟩
            rw [List.set_set]
            exact t2.forget (i := 5)
      · have e : j = zs.length := by omega
        subst e
        refine .inl ⟨stop2, G7, bs7, sB7, (sm3.trans s4.gs).trans (s6.gs.trans sm7), ?_, l7, bk7, back_next ez bp7, lb7⟩
        have := (en7.forget (i := 3) (o := σ7[3]'(by rw [← en7.len]; exact (by decide : 3 < 8)))).forget (i := 4) (o := (σ7.set 3 (σ7[3]'(by rw [← en7.len]; exact (by decide : 3 < 8))))[4]'(by rw [List.length_set, ← en7.len]; exact (by decide : 4 < 8)))
        rw [List.set_getElem_self, List.set_getElem_self] at this
        exact this
    · have e : i = ts.length := by omega
      subst e
      refine .inl ⟨stop, ?_⟩
      obtain ⟨G4, sB4, en4, at4⟩ := bk3.tell en3 no no2
      have en5 := en4.setD (i := 2) at4
      have e9 : σ3.set 2 (some (V.ref Dl)) = σ3 := by
        obtain ⟨l8, e8⟩ := List.getElem?_eq_some_iff.mp l3
        rw [← e8, List.set_getElem_self]
      rw [e9] at en5
      refine h bs lb3 (fun g l eg => ?_) σ3 G4 H3 en5 (rz.stepB (sB3.trans sB4)) Z (fun δ' σ' G' H' s e q => k1 δ' σ' G' H' ((sB3.trans sB4).trans s) e q) fun v d G' H' s b c e q => k2 v d G' H' ((sB3.trans sB4).trans s) b c e q
      obtain ⟨nd, hz⟩ := bp3 g l eg
      refine ⟨nd, fun z => (hz z).trans ⟨fun ⟨k, zs, e1, e2, q⟩ => ⟨k, zs, e1, e2, ?_⟩, fun ⟨k, zs, e1, e2, q⟩ => ⟨k, zs, e1, e2, .inl ⟨(List.getElem?_eq_some_iff.mp e2).1, q⟩⟩⟩⟩
      rcases q with q | q
      · exact q.2
      · simp at q
end
end Nv
namespace Nv
open PySem PySem.Spec PyProof.Rows L2
/-- at this standing there is an ask -/
def askB (rows : List D) (k : Nat) : Bool := match rows[k]? with
  | some (.tup (_ :: _)) => true
  | _ => false
/-- it comes to an ask by turns -/
inductive Hears (ts : List (List Int)) (rows : List D) : Nat → Prop
  | here {s : Nat} : askB rows s = true → Hears ts rows s
  | turn {s g : Nat} {zs : List Int} : ts[s]? = some zs → (g : Int) ∈ zs → Hears ts rows g → Hears ts rows s
theorem sub_len : ∀ (l m : List Int), l.Nodup → (∀ x ∈ l, x ∈ m) → l.length ≤ m.length
  | [], m, _, _ => Nat.zero_le _
  | x :: l, m, nd, h => by
    obtain ⟨h1, h2⟩ := List.nodup_cons.mp nd
    have ih := sub_len l (m.erase x) h2 fun y hy => (List.mem_erase_of_ne (fun e => h1 (by rw [← e]; exact hy))).mpr (h y (by simp [hy]))
    have := List.length_erase_of_mem (h x (by simp))
    have pos : 0 < m.length := List.length_pos_of_mem (h x (by simp))
    rw [List.length_cons]
    omega
theorem comes_all {ts bs : List (List Int)} {rows : List D} {st ys : List Int} (hst : ∀ z, z ∈ st ↔ ∃ k : Nat, z = k ∧ k < ts.length ∧ askB rows k = true) (lb : bs.length = ts.length) (bo : BackOf ts bs) (c : Comes st bs ys) (inn : ∀ zs ∈ ts, InN ts.length zs ∧ zs.Nodup) :
    (ys.length : Int) < (ts.length : Int) ↔ ¬ ∀ s, s < ts.length → Hears ts rows s := by
  have h1 : ∀ s : Nat, s < ts.length → ((s : Int) ∈ ys ↔ Hears ts rows s) := fun s hs => by
    constructor
    · intro m
      have := c.least (fun z => Hears ts rows z.toNat) (fun i zs e hi z hz => by
        obtain ⟨k, as, e1, e2, e3⟩ := ((bo i zs e).2 z).mp hz
        subst e1
        have hi : Hears ts rows (i : Int).toNat := hi
        rw [Int.toNat_natCast] at hi ⊢
        exact .turn e2 e3 hi) (fun z hz => by
        obtain ⟨k, e1, _, e2⟩ := (hst z).mp hz
        subst e1
        exact .here e2) (s : Int) m
      rwa [Int.toNat_natCast] at this
    · intro hh
      revert hs
      induction hh with
      | here h => exact fun hs => c.has _ ((hst _).mpr ⟨_, rfl, hs, h⟩)
      | @turn s g zs e m _ ih =>
        intro hs
        have hg := (inn zs (List.mem_of_getElem? e)).1 _ m
        have lg : g < bs.length := by omega
        have eg : bs[g]? = some bs[g] := List.getElem?_eq_getElem lg
        refine c.cl g bs[g] eg (ih (by omega)) s ?_
        exact ((bo g _ eg).2 s).mpr ⟨s, zs, rfl, e, m⟩
  have nd : ys.Nodup := c.asc.imp fun {a b} h => by omega
  have inY := c.inN
  rw [lb] at inY
  constructor
  · intro lt all
    have := sub_len ((List.range ts.length).map fun k : Nat => (k : Int)) ys (List.Pairwise.map _ (fun a b h e => h (by omega)) List.nodup_range) fun x hx => by
      obtain ⟨k, m, rfl⟩ := List.mem_map.mp hx
      have := List.mem_range.mp m
      exact (h1 k this).mpr (all k this)
    rw [List.length_map, List.length_range] at this
    omega
  · intro na
    obtain ⟨s, hs, ns⟩ : ∃ s, s < ts.length ∧ ¬ Hears ts rows s := by
      refine Classical.byContradiction fun z => na fun s hs => Classical.byContradiction fun q => z ⟨s, hs, q⟩
    have ny : (s : Int) ∉ ys := fun m => ns ((h1 s hs).mp m)
    have := bound (n := ts.length) (ks := (s : Int) :: ys) (fun z hz => by
      rcases List.mem_cons.mp hz with rfl | hz
      · omega
      · exact inY z hz) (List.nodup_cons.mpr ⟨ny, nd⟩)
    rw [List.length_cons] at this
    omega
section
variable {P : Program} {w : World} {K : PySem.W.Frag} {mg : Str → Option Value} {base : Heap}
abbrev s_is_silent : Stmt := top 26
theorem sc_is_silent : FnScope ["turns", "asks", "back", "standing", "row", "goal", "asking", "_"] ["turns", "asks"] (defScope s_is_silent) :=
  ⟨rfl, rfl, rfl, by decide +kernel, rfl, by decide +kernel, by decide +kernel⟩
def c_is_silent : Spc :=
  { pre := fun as => ∃ (ts : List (List Int)) (rows : List D), as = [.da (tD ts), .da (.tup rows)] ∧ ts.length ≤ 1000 ∧ (∀ zs ∈ ts, InN ts.length zs ∧ zs.Nodup) ∧ rows.length = ts.length ∧ ∀ r ∈ rows, ∃ ds, r = .tup ds ∧ ds.length ≤ 1000
    post := fun as d => ∀ (ts : List (List Int)) (rows : List D), as = [.da (tD ts), .da (.tup rows)] → ∃ b, d = .bl b ∧ (b = true ↔ ¬ ∀ s, s < ts.length → Hears ts rows s) }
theorem tD_inj {as bs : List (List Int)} (h : tD as = tD bs) : as = bs := by
  have h := D.tup.inj h
  have l := map_len h
  refine List.ext_getElem l fun i h1 h2 => ?_
  have e := congrArg (fun l : List D => l[i]?) h
  simp only [List.getElem?_map, List.getElem?_eq_getElem h1, List.getElem?_eq_getElem h2, Option.map_some] at e
  exact map_int_inj (D.tup.inj (Option.some.inj e))
theorem d_is_silent {f : Addr} {fd : FuncData} (B : Bly mg) (F : Fn K mg "is_silent" s_is_silent ["turns", "asks"] f fd)
    (D_come_to : Dk P w K mg base "come_to" CX0 1 ["starts", "steps"] (spW c_come_to 2)) : Dk P w K mg base "is_silent" CX0 2 ["turns", "asks"] (spW c_is_silent 2) := by
  refine F.ok sc_is_silent rfl fun cdv A outer s H E as hr ⟨ts, rows, e, ln, inn, lr, rr⟩ _ => ?_
  subst e
  refine ⟨_, (pss_cons (ps_setLc (i := 2) (own := [("_", 7)]) (g := gName 7) (tt := tYes) (by rfl) sc_is_silent.nd rfl rfl (sw_true rfl rfl rfl (by decide +kernel)) (pi_range1 (by rfl) B.rng (pa_cons (pe_callB (call_lenK (K := K) rfl) (by rfl) B.len b_len (pa_cons (pv 0) pa_nil)) pa_nil)) (blkOk_by (N := ["turns", "asks", "back", "standing", "row", "goal", "asking", "_"]) (sc := defScope s_is_silent) (by decide +kernel)) (fun _ _ _ _ _ => pg_name (i := 7) sc_is_silent.nd rfl (by first | exact Or.inl rfl | exact Or.inr rfl)) (fun _ _ _ _ _ => pts_nil) (fun _ _ _ _ _ => (pe_lst pa_nil)))
    (pss_cons (ps_for PassesOwn.never rfl (pi_enumT (by rfl) B.enu (pa_cons (pv 0) pa_nil)) (pg_tup rfl (pgs_cons (pg_name (i := 3) sc_is_silent.nd rfl (by first | exact Or.inl rfl | exact Or.inr rfl)) (pgs_cons (pg_name (i := 4) sc_is_silent.nd rfl (by first | exact Or.inl rfl | exact Or.inr rfl)) pgs_nil))) (pss_one (ps_for PassesOwn.never rfl (pi_seq (pv 4)) (pg_name (i := 5) sc_is_silent.nd rfl (by first | exact Or.inl rfl | exact Or.inr rfl)) (pss_one (ps_expr (pe_bm PySem.F.plainAttrs_list PySem.F.slot_list_append PySem.F.type_list_append mt_append (pe_ix (ix_K (K := K) rfl) (pv 2) (pv 5) (fun _ _ => rfl)) (pa_cons (pv 3) pa_nil)))))))
    (pss_cons (ps_setLc (i := 6) (own := [("standing", 3), ("row", 4)]) (g := gTup K 2 (gCons (gName 3) (gCons (gName 4) gNil))) (by rfl) sc_is_silent.nd rfl rfl (sw_true rfl rfl rfl (by decide +kernel)) (pi_enumT (by rfl) B.enu (pa_cons (pv 1) pa_nil)) (blkOk_by (N := ["turns", "asks", "back", "standing", "row", "goal", "asking", "_"]) (sc := defScope s_is_silent) (by decide +kernel)) (fun _ _ _ _ _ => pg_tup rfl (pgs_cons (pg_name (i := 3) sc_is_silent.nd rfl (by first | exact Or.inl rfl | exact Or.inr rfl)) (pgs_cons (pg_name (i := 4) sc_is_silent.nd rfl (by first | exact Or.inl rfl | exact Or.inr rfl)) pgs_nil))) (fun _ _ _ _ _ => (pts_one (pt_cmpR op_gt (pe_callB (call_lenK (K := K) rfl) (by rfl) B.len b_len (pa_cons (pv 4) pa_nil)) pe_int (nomark _)))) (fun _ _ _ _ _ => (pv 3)))
    (pss_one (ps_ret (pe_cmpR (op_lt.or op_lt_str) (pe_callB (call_lenK (K := K) rfl) (by rfl) B.len b_len (pa_cons (pe_callD D_come_to (hr.mono (by decide)) (by rfl) pass0 (pa_cons (pv 6) (pa_cons (pv 2) pa_nil))) pa_nil)) (pe_callB (call_lenK (K := K) rfl) (by rfl) B.len b_len (pa_cons (pv 0) pa_nil)) (nomark _))))))), fun T => ?_⟩
  refine wps_back ln inn fun bs lb bo => ?_
  refine wps_seq (wps_set ?_)
  refine wpe_lc (js := [3, 4]) (by simp) (wpi_enuT1 (wpe_var rfl ⟨rows, rfl, by rw [enuD_len]; omega, fun i acc => acc = ((List.range i).filter (askB rows)).map (fun k : Nat => D.int k), rfl, ?_, ?_⟩))
  · rintro i d acc ed rfl _
    obtain ⟨r, er, rfl⟩ := enuD_at ed
    obtain ⟨ds, rfl, ld⟩ := rr r (List.mem_of_getElem? er)
    refine wpg_pair ⟨_, _, rfl, ?_⟩
    repeat (first | with_reducible refine wps_nil ?_ | with_reducible refine wps_seq ?_ | refine wps_ret ?_ | refine wps_if ?_ | refine wps_newl ?_ | refine wps_set ?_ | refine wpt_not ?_ | refine wpt_or ?_ | refine wpt_and ?_ | refine wpt_B ?_ | refine wpt_test ?_ | refine wpe_var rfl ?_ | refine wpe_int ?_ | refine wpe_bl ?_ | refine wpe_str ?_ | refine wpe_non ?_ | refine wpe_ty ?_ | refine wpe_andV ?_ | refine wpe_orV ?_ | refine wpe_notV ?_ | refine wpe_if ?_ | refine wpe_call1 ?_ | refine wpe_call2 ?_ | refine wpe_call3 ?_ | refine wpe_callS rfl ?_ | refine wpe_tupL ?_ | refine wpe_lstL ?_ | refine wpe_call0 ?_ | refine wpe_cb1 ?_ | refine wpe_cb2 ?_ | refine wpe_neg ?_ | refine wpe_slice ?_ | refine wpe_op ?_ | refine wpe_chain ?_ | refine wpo_none ?_ | refine wpo_some ?_ | refine wpl_nil ?_ | refine wpl_cons ?_ | refine wpa_cons ?_ | refine wpi_zipL ?_ | refine wpi_enuT1 ?_ | refine wpi_rng1 ?_ | refine wpi_seq ?_ | refine opd_ix (n := 0) (.inr rfl) rfl rfl ?_ | refine opd_ix (n := 1) (.inr rfl) rfl rfl ?_ | refine opd_ix (n := 2) (.inr rfl) rfl rfl ?_ | refine opd_b ?_ | refine opd_l (opd_b ?_) | refine opd_i ?_ | refine opd_l (opd_eqI ?_) | refine opd_l (opd_neI ?_) | refine opd_l (opd_neS ?_) | refine opd_l (opd_eqS ?_) | refine cbd_l (cbd_len (.inr rfl) ?_) | refine cbd_l (cbd_len (.inl rfl) ?_) | refine cbd_int1 ?_ | refine ite_t ?_ | refine ite_f ?_ | refine ⟨_, rfl, ?_⟩)
    have eb : decide ((ds.length : Int) > 0) = askB rows i := by
      unfold askB
      rw [er]
      cases ds with
      | nil => rfl
      | cons a l => exact decide_eq_true (by simp)
    rw [eb]
    refine ite_b (fun h => ?_) (fun h => ?_)
    · repeat (first | with_reducible refine wps_nil ?_ | with_reducible refine wps_seq ?_ | refine wps_ret ?_ | refine wps_if ?_ | refine wps_newl ?_ | refine wps_set ?_ | refine wpt_not ?_ | refine wpt_or ?_ | refine wpt_and ?_ | refine wpt_B ?_ | refine wpt_test ?_ | refine wpe_var rfl ?_ | refine wpe_int ?_ | refine wpe_bl ?_ | refine wpe_str ?_ | refine wpe_non ?_ | refine wpe_ty ?_ | refine wpe_andV ?_ | refine wpe_orV ?_ | refine wpe_notV ?_ | refine wpe_if ?_ | refine wpe_call1 ?_ | refine wpe_call2 ?_ | refine wpe_call3 ?_ | refine wpe_callS rfl ?_ | refine wpe_tupL ?_ | refine wpe_lstL ?_ | refine wpe_call0 ?_ | refine wpe_cb1 ?_ | refine wpe_cb2 ?_ | refine wpe_neg ?_ | refine wpe_slice ?_ | refine wpe_op ?_ | refine wpe_chain ?_ | refine wpo_none ?_ | refine wpo_some ?_ | refine wpl_nil ?_ | refine wpl_cons ?_ | refine wpa_cons ?_ | refine wpi_zipL ?_ | refine wpi_enuT1 ?_ | refine wpi_rng1 ?_ | refine wpi_seq ?_ | refine opd_ix (n := 0) (.inr rfl) rfl rfl ?_ | refine opd_ix (n := 1) (.inr rfl) rfl rfl ?_ | refine opd_ix (n := 2) (.inr rfl) rfl rfl ?_ | refine opd_b ?_ | refine opd_l (opd_b ?_) | refine opd_i ?_ | refine opd_l (opd_eqI ?_) | refine opd_l (opd_neI ?_) | refine opd_l (opd_neS ?_) | refine opd_l (opd_eqS ?_) | refine cbd_l (cbd_len (.inr rfl) ?_) | refine cbd_l (cbd_len (.inl rfl) ?_) | refine cbd_int1 ?_ | refine ite_t ?_ | refine ite_f ?_ | refine ⟨_, rfl, ?_⟩)
      show _ = ((List.range (i + 1)).filter (askB rows)).map (fun k : Nat => D.int k)
      rw [List.range_succ, List.filter_append, List.map_append]
      simp [h]
    · show _ = ((List.range (i + 1)).filter (askB rows)).map (fun k : Nat => D.int k)
      rw [List.range_succ, List.filter_append, List.map_append]
      simp [h]
  · rintro acc rfl _
    rw [enuD_len]
    have hst : ∀ z : Int, z ∈ ((List.range rows.length).filter (askB rows)).map (fun k : Nat => (k : Int)) ↔ ∃ k : Nat, z = k ∧ k < ts.length ∧ askB rows k = true := fun z => by
      rw [List.mem_map]
      constructor
      · rintro ⟨k, m, rfl⟩
        obtain ⟨m1, m2⟩ := List.mem_filter.mp m
        exact ⟨k, rfl, by have := List.mem_range.mp m1; omega, m2⟩
      · rintro ⟨k, rfl, m1, m2⟩
        exact ⟨k, List.mem_filter.mpr ⟨List.mem_range.mpr (by omega), m2⟩, rfl⟩
    have nd : (((List.range rows.length).filter (askB rows)).map (fun k : Nat => (k : Int))).Nodup :=
      List.Pairwise.map _ (fun a b h e => h (by omega)) (List.nodup_range.filter _)
    have es : ((List.range rows.length).filter (askB rows)).map (fun k : Nat => D.int k) = (((List.range rows.length).filter (askB rows)).map (fun k : Nat => (k : Int))).map D.int := by rw [List.map_map]; rfl
    rw [es]
    generalize ((List.range rows.length).filter (askB rows)).map (fun k : Nat => (k : Int)) = st at hst nd
    have sdb : StepsD (lD bs) bs := ⟨_, .inl rfl, List.length_map .., fun i r zs e1 e2 => by
      rw [List.getElem?_map, e2] at e1
      obtain rfl := Option.some.inj e1
      exact .inl rfl⟩
    repeat (first | with_reducible refine wps_nil ?_ | with_reducible refine wps_seq ?_ | refine wps_ret ?_ | refine wps_if ?_ | refine wps_newl ?_ | refine wps_set ?_ | refine wpt_not ?_ | refine wpt_or ?_ | refine wpt_and ?_ | refine wpt_B ?_ | refine wpt_test ?_ | refine wpe_var rfl ?_ | refine wpe_int ?_ | refine wpe_bl ?_ | refine wpe_str ?_ | refine wpe_non ?_ | refine wpe_ty ?_ | refine wpe_andV ?_ | refine wpe_orV ?_ | refine wpe_notV ?_ | refine wpe_if ?_ | refine wpe_call1 ?_ | refine wpe_call2 ?_ | refine wpe_call3 ?_ | refine wpe_callS rfl ?_ | refine wpe_tupL ?_ | refine wpe_lstL ?_ | refine wpe_call0 ?_ | refine wpe_cb1 ?_ | refine wpe_cb2 ?_ | refine wpe_neg ?_ | refine wpe_slice ?_ | refine wpe_op ?_ | refine wpe_chain ?_ | refine wpo_none ?_ | refine wpo_some ?_ | refine wpl_nil ?_ | refine wpl_cons ?_ | refine wpa_cons ?_ | refine wpi_zipL ?_ | refine wpi_enuT1 ?_ | refine wpi_rng1 ?_ | refine wpi_seq ?_ | refine opd_ix (n := 0) (.inr rfl) rfl rfl ?_ | refine opd_ix (n := 1) (.inr rfl) rfl rfl ?_ | refine opd_ix (n := 2) (.inr rfl) rfl rfl ?_ | refine opd_b ?_ | refine opd_l (opd_b ?_) | refine opd_i ?_ | refine opd_l (opd_eqI ?_) | refine opd_l (opd_neI ?_) | refine opd_l (opd_neS ?_) | refine opd_l (opd_eqS ?_) | refine cbd_l (cbd_len (.inr rfl) ?_) | refine cbd_l (cbd_len (.inl rfl) ?_) | refine cbd_int1 ?_ | refine ite_t ?_ | refine ite_f ?_ | refine ⟨_, rfl, ?_⟩)
    refine wpa_nil ⟨rfl, ⟨st, lD bs, bs, rfl, sdb, by omega, fun z hz => ?_, nd, fun zs hz => ?_⟩, fun d pd => ?_, fun _ _ z => z⟩
    · obtain ⟨k, rfl, h1, _⟩ := (hst z).mp hz
      omega
    · obtain ⟨g, eg⟩ := List.mem_iff_getElem?.mp hz
      obtain ⟨h1, h2⟩ := bo g zs eg
      have hn : InN bs.length zs := fun z hz => by
        obtain ⟨k, ys, e1, e2, _⟩ := (h2 z).mp hz
        have := (List.getElem?_eq_some_iff.mp e2).1
        omega
      exact ⟨hn, by have := bound hn h1; omega⟩
    · obtain ⟨ys, rfl, cm⟩ := pd st (lD bs) bs rfl sdb
      repeat (first | with_reducible refine wps_nil ?_ | with_reducible refine wps_seq ?_ | refine wps_ret ?_ | refine wps_if ?_ | refine wps_newl ?_ | refine wps_set ?_ | refine wpt_not ?_ | refine wpt_or ?_ | refine wpt_and ?_ | refine wpt_B ?_ | refine wpt_test ?_ | refine wpe_var rfl ?_ | refine wpe_int ?_ | refine wpe_bl ?_ | refine wpe_str ?_ | refine wpe_non ?_ | refine wpe_ty ?_ | refine wpe_andV ?_ | refine wpe_orV ?_ | refine wpe_notV ?_ | refine wpe_if ?_ | refine wpe_call1 ?_ | refine wpe_call2 ?_ | refine wpe_call3 ?_ | refine wpe_callS rfl ?_ | refine wpe_tupL ?_ | refine wpe_lstL ?_ | refine wpe_call0 ?_ | refine wpe_cb1 ?_ | refine wpe_cb2 ?_ | refine wpe_neg ?_ | refine wpe_slice ?_ | refine wpe_op ?_ | refine wpe_chain ?_ | refine wpo_none ?_ | refine wpo_some ?_ | refine wpl_nil ?_ | refine wpl_cons ?_ | refine wpa_cons ?_ | refine wpi_zipL ?_ | refine wpi_enuT1 ?_ | refine wpi_rng1 ?_ | refine wpi_seq ?_ | refine opd_ix (n := 0) (.inr rfl) rfl rfl ?_ | refine opd_ix (n := 1) (.inr rfl) rfl rfl ?_ | refine opd_ix (n := 2) (.inr rfl) rfl rfl ?_ | refine opd_b ?_ | refine opd_l (opd_b ?_) | refine opd_i ?_ | refine opd_l (opd_eqI ?_) | refine opd_l (opd_neI ?_) | refine opd_l (opd_neS ?_) | refine opd_l (opd_eqS ?_) | refine cbd_l (cbd_len (.inr rfl) ?_) | refine cbd_l (cbd_len (.inl rfl) ?_) | refine cbd_int1 ?_ | refine ite_t ?_ | refine ite_f ?_ | refine ⟨_, rfl, ?_⟩)
      intro ts' rows' e
      obtain ⟨e1, e2⟩ := List.cons.inj e
      obtain ⟨e2, _⟩ := List.cons.inj e2
      obtain rfl := tD_inj (Sl.da.inj e1)
      obtain rfl := D.tup.inj (Sl.da.inj e2)
      refine ⟨_, rfl, ?_⟩
      rw [decide_eq_true_iff, List.length_map, List.length_map]
      exact comes_all hst lb bo cm inn
end
end Nv
namespace Nv
open PySem PySem.Spec PyProof.Rows L2
abbrev sExI : Stmt := inClass (top 2) 0
abbrev s___init__ : Stmt := inClass (top 18) 0
theorem ltP_int {a b : Int} : ltP (.tup [.int a, .int b]) = decide (a < b) := rfl
theorem asc_pair : ∀ {zs : List Int}, (zipD (zs.map D.int) ((zs.map D.int).drop 1)).all ltP = true → zs.Pairwise (· < ·)
  | [], _ => .nil
  | [a], _ => by simp
  | a :: b :: zs, h => by
    simp only [List.map_cons, List.drop_succ_cons, List.drop_zero, zipD, List.all_cons, Bool.and_eq_true] at h
    have ih := asc_pair (zs := b :: zs) (by simpa only [List.map_cons, List.drop_succ_cons, List.drop_zero] using h.2)
    have lt : a < b := of_decide_eq_true h.1
    refine List.pairwise_cons.mpr ⟨fun c hc => ?_, ih⟩
    rcases List.mem_cons.mp hc with rfl | hc
    · exact lt
    · exact Int.lt_trans lt ((List.pairwise_cons.mp ih).1 c hc)
def intsD : D → List Int
  | .tup ds => ds.map intOf
  | _ => []
def rowsD : D → List D
  | .tup ds => ds
  | _ => []
def tsOf (t : D) : List (List Int) := (rowsD t).map intsD
theorem turnsOf_row {r : D} {i n : Int} (h : areTurnsOf r i n = true) : r = .tup ((intsD r).map D.int) ∧ (intsD r).Pairwise (· < ·) ∧ (∀ z ∈ intsD r, 0 ≤ z ∧ z < n) ∧ i ∉ intsD r := by
  cases r with
  | tup ds =>
    have eq : areTurnsOf (.tup ds) i n = (ds.all (isIdx n) && (ascD (.tup ds) && !decide (i ∈ ds.map intOf))) := rfl
    rw [eq, Bool.and_eq_true, Bool.and_eq_true] at h
    obtain ⟨h1, h2, h3⟩ := h
    have e := idx_ints h1
    refine ⟨congrArg D.tup e, asc_pair ?_, fun z hz => ?_, fun m => by simp only [Bool.not_eq_true', decide_eq_false_iff_not] at h3; exact h3 m⟩
    · show (zipD ((ds.map intOf).map D.int) (((ds.map intOf).map D.int).drop 1)).all ltP = true
      rw [← e]
      exact h2
    · obtain ⟨d, hd, rfl⟩ := List.mem_map.mp hz
      have := List.all_eq_true.mp h1 d hd
      cases d <;> first | cases this | skip
      unfold isIdx at this
      rw [Bool.and_eq_true] at this
      exact ⟨of_decide_eq_true this.1, of_decide_eq_true this.2⟩
  | _ => cases h
/-- good turns, as numbers -/
structure TOk (ts : List (List Int)) : Prop where
  one : 1 ≤ ts.length
  most : ts.length ≤ 400
  row : ∀ (i : Nat) (zs : List Int), ts[i]? = some zs → zs.Pairwise (· < ·) ∧ InN ts.length zs ∧ (i : Int) ∉ zs
theorem TOk.inn {ts : List (List Int)} (h : TOk ts) : ∀ zs ∈ ts, InN ts.length zs ∧ zs.Nodup := fun zs m => by
  obtain ⟨i, e⟩ := List.mem_iff_getElem?.mp m
  obtain ⟨h1, h2, _⟩ := h.row i zs e
  exact ⟨h2, h1.imp fun {a b} q => by omega⟩
theorem turns_tD {t : D} (h : areTurns t = true) : t = tD (tsOf t) ∧ TOk (tsOf t) := by
  cases t with
  | tup ds =>
    have eq : areTurns (.tup ds) = (decide (1 ≤ (ds.length : Int)) && decide ((ds.length : Int) ≤ 400) && (enuD ds).all (turnP ds.length)) := rfl
    rw [eq, Bool.and_eq_true, Bool.and_eq_true] at h
    obtain ⟨⟨h1, h2⟩, h3⟩ := h
    have h1 := of_decide_eq_true h1
    have h2 := of_decide_eq_true h2
    have len : (tsOf (.tup ds)).length = ds.length := List.length_map ..
    have rows : ∀ (i : Nat) (r : D), ds[i]? = some r → areTurnsOf r i ds.length = true := fun i r e => by
      have lt : i < (enuD ds).length := by rw [enuD_len]; exact (List.getElem?_eq_some_iff.mp e).1
      have e2 : (enuD ds)[i]? = some (enuD ds)[i] := List.getElem?_eq_getElem lt
      obtain ⟨x, e3, e4⟩ := enuD_at e2
      rw [e] at e3
      obtain rfl := Option.some.inj e3
      have := List.all_eq_true.mp h3 _ (List.mem_of_getElem? e2)
      rw [e4] at this
      exact this
    refine ⟨?_, by omega, by omega, fun i zs e => ?_⟩
    · show D.tup ds = D.tup ((ds.map intsD).map fun zs => .tup (zs.map D.int))
      congr 1
      refine List.ext_getElem? fun i => ?_
      rw [List.getElem?_map, List.getElem?_map]
      cases e : ds[i]? with
      | none => rfl
      | some r => exact congrArg some (turnsOf_row (rows i r e)).1
    · have e : (ds.map intsD)[i]? = some zs := e
      rw [List.getElem?_map] at e
      obtain ⟨r, e1, rfl⟩ := Option.map_eq_some_iff.mp e
      obtain ⟨q1, q2, q3, q4⟩ := turnsOf_row (rows i r e1)
      rw [len]
      exact ⟨q2, q3, q4⟩
  | _ => cases h
theorem asks_rows {a : D} {n : Nat} (h : areAsks n a = true) : a = .tup (rowsD a) ∧ (rowsD a).length = n ∧ ∀ r ∈ rowsD a, ∃ ds, r = .tup ds ∧ ds.length ≤ 1000 := by
  cases a with
  | tup ds =>
    have eq : areAsks n (.tup ds) = (decide ((ds.length : Int) = n) && ds.all (areAsksOf n)) := rfl
    rw [eq, Bool.and_eq_true] at h
    refine ⟨rfl, by have := of_decide_eq_true h.1; exact Int.ofNat.inj this, fun r hr => ?_⟩
    have := List.all_eq_true.mp h.2 r hr
    cases r with
    | tup es =>
      have eq : areAsksOf n (.tup es) = (decide ((es.length : Int) ≤ 160) && (es.all (isAsk n) && ascD (.lst (es.map fstD)))) := rfl
      rw [eq, Bool.and_eq_true] at this
      exact ⟨es, rfl, by have := of_decide_eq_true this.1; omega⟩
    | _ => cases this
  | _ => cases h
/-- what a world is told by -/
noncomputable def toldW (t a s : D) : Str :=
  if areTurns t = false then "turns" else if areAsks (tsOf t).length a = false then "asks" else if isIdx (tsOf t).length s = false then "start" else
    @ite _ (∀ k, k < (tsOf t).length → Hears (tsOf t) (rowsD a) k) (Classical.propDecidable _) "made" "silent"
def wN : List Str := ["turns", "asks", "start", "size"]
def wFs (t a s : V) (n : Int) : List (Str × V) := [("turns", t), ("asks", a), ("start", s), ("size", .int n)]
section
variable {P : Program} {w : World} {K : PySem.W.Frag} {mg : Str → Option Value} {base : Heap}
theorem scExI : FnScope ["self", "what"] ["self", "what"] (defScope sExI) :=
  ⟨rfl, rfl, rfl, by decide +kernel, rfl, by decide +kernel, by decide +kernel⟩
theorem ok_exI {f : Addr} {fd : FuncData} (F : FunD K "__init__" "OweError.__init__" (defArgs sExI) (defBody sExI) (defScope sExI) [.non] [] f fd) :
    FnOk P w K mg base CX0 1 f fd ["self", "what"] (spExI K) := by
  refine F.ok scExI (fun vs H Q E h => ?_) (fun cdv A outer s H vs Q E hr h => ?_)
  · obtain ⟨a, C, v, rfl, _⟩ := h
    rfl
  · obtain ⟨a, C, v, rfl, ox, no, ha, q⟩ := h
    refine ⟨_, pss_one (ps_ost (pv 0) (pv 1)), ?_⟩
    exact ⟨_, rfl, _, rfl, a, C, rfl, ox, no, .inl ⟨ha, fun dx h1 h2 => q dx h1 h2⟩⟩
/-- the class of the worlds -/
structure TWo (K : PySem.W.Frag) (mg : Str → Option Value) (C fI fE CB : Addr) (fdI fdE : FuncData) : Prop where
  cl : Cls K C
  n1 : NoAttr K C "turns"
  n2 : NoAttr K C "asks"
  n3 : NoAttr K C "start"
  n4 : NoAttr K C "size"
  M : Mk K C fI
  m : mg "World" = some (.ref C)
  F : FunD K "__init__" "World.__init__" (defArgs s___init__) (defBody s___init__) (defScope s___init__) [] [("start", .int 0)] fI fdI
  FE : FunD K "__init__" "OweError.__init__" (defArgs sExI) (defBody sExI) (defScope sExI) [.non] [] fE fdE
  bE : Binds K fdE ["self", "what"] []
  xB : ExC K mg "BadWorld" CB fE
/-- World.__init__(self, turns, asks, start) -/
def spWI (C CB : Addr) : Sp := fun vs H Q E => ∃ (x dx : Addr) (S : Addr → Prop) (G : Hp) (t a s : D) (vt va vz : V), vs = [.ref x, vt, va, vz] ∧ H x = some (.ins C dx []) ∧ Same G H ∧ G x = none ∧ StO S G H ∧
  At G vt t ∧ At G va a ∧ At G vz s ∧ okD t = true ∧ okD a = true ∧ plnD s = true ∧
  (∀ d G' H', toldW t a s ≠ "made" → Stp S G H G' H' → H' d = some (.xd (whatF (.str (toldW t a s)))) → Same G' H' → StO S G' H' → E (.ref CB) (some d) H') ∧
  (∀ v1 v2 v3 G' H', toldW t a s = "made" → Stp S G H G' H' → Same G' H' → StO S G' H' → H' x = some (.ins C dx []) → G' x = none → At G' v1 t → At G' v2 a → At G' v3 s → Q .non (upd H' x (.ins C dx (wFs v1 v2 v3 (tsOf t).length))))
theorem sc___init__ : FnScope ["self", "turns", "asks", "start"] ["self", "turns", "asks", "start"] (defScope s___init__) :=
  ⟨rfl, rfl, rfl, by decide +kernel, rfl, by decide +kernel, by decide +kernel⟩
theorem wps_raiseS {R : Rg} {δ : List Sl} {Φ : List Sl → Prop} {Ψ : D → Prop} {C fE : Addr} {x z : Str} (T : ExC K mg x C fE) (h : R.X C (.str z)) :
    WpS R (fun _ σ H => tMkO C (spExI K) [] (tCons (tC (.str z)) tNil) σ H fun cls d H' => R.E cls d H') δ Φ Ψ := fun σ G H en rz Z k1 k2 => by
  refine mk_err T (te := tC (.str z)) (fun d hd => ?_) (fun f q => f _ _ q)
  have e := en.grow (same_upd (o := .xd (whatF (.str z))) hd)
  exact rz C d (.str z) (.str z) G _ ((Stp.grow (same_upd hd)).toB en.old) upd_same (.str z) h e.same e.stt
theorem run4 {t1 t2 t3 t4 u : TS} {Z : Ends} {σ : L2.St} {H : Hp} (h : tSeq t1 (tSeq t2 (tSeq t3 t4)) { Z with nx := u Z } σ H) : tSeq t1 (tSeq t2 (tSeq t3 (tSeq t4 u))) Z σ H := h
theorem toldW_turns {t a s : D} (h : areTurns t = false) : toldW t a s = "turns" := by unfold toldW; rw [if_pos h]
theorem toldW_asks {t a s : D} (h : areTurns t = true) (h2 : areAsks (tsOf t).length a = false) : toldW t a s = "asks" := by unfold toldW; rw [if_neg (by rw [h]; simp), if_pos h2]
theorem toldW_start {t a s : D} (h : areTurns t = true) (h2 : areAsks (tsOf t).length a = true) (h3 : isIdx (tsOf t).length s = false) : toldW t a s = "start" := by
  unfold toldW; rw [if_neg (by rw [h]; simp), if_neg (by rw [h2]; simp), if_pos h3]
theorem toldW_silent {t a s : D} (h : areTurns t = true) (h2 : areAsks (tsOf t).length a = true) (h3 : isIdx (tsOf t).length s = true) (h4 : ¬ ∀ k, k < (tsOf t).length → Hears (tsOf t) (rowsD a) k) : toldW t a s = "silent" := by
  unfold toldW; rw [if_neg (by rw [h]; simp), if_neg (by rw [h2]; simp), if_neg (by rw [h3]; simp), if_neg h4]
theorem toldW_made {t a s : D} (h : areTurns t = true) (h2 : areAsks (tsOf t).length a = true) (h3 : isIdx (tsOf t).length s = true) (h4 : ∀ k, k < (tsOf t).length → Hears (tsOf t) (rowsD a) k) : toldW t a s = "made" := by
  unfold toldW; rw [if_neg (by rw [h]; simp), if_neg (by rw [h2]; simp), if_neg (by rw [h3]; simp), if_pos h4]
theorem ne1 : ("turns" : Str) ≠ "made" := by decide +kernel
theorem ne2 : ("asks" : Str) ≠ "made" := by decide +kernel
theorem ne3 : ("start" : Str) ≠ "made" := by decide +kernel
theorem ne4 : ("silent" : Str) ≠ "made" := by decide +kernel
theorem ok_wI {C fI fE CB : Addr} {fdI fdE : FuncData} (B : Bly mg) (W : TWo K mg C fI fE CB fdI fdE)
    (D_are_turns : Dk P w K mg base "are_turns" CX0 4 ["turns"] (spW c_are_turns 1)) (D_are_asks : Dk P w K mg base "are_asks" CX0 7 ["asks", "size"] (spW c_are_asks 2))
    (D_is_index : Dk P w K mg base "is_index" CX0 2 ["value", "size"] (spW c_is_index 2)) (D_is_silent : Dk P w K mg base "is_silent" CX0 2 ["turns", "asks"] (spW c_is_silent 2)) :
    FnOk P w K mg base (L2.CX P w) 8 fI fdI ["self", "turns", "asks", "start"] (spWI C CB) := by
  have GE : FnOk P w K mg base CX0 1 fE fdE ["self", "what"] (spExI K) := ok_exI W.FE
  refine W.F.ok sc___init__ (fun vs H Q E h => ?_) (fun cdv A outer s H vs Q E hr h => ?_)
  · obtain ⟨x, dx, S, G, t, a, s, vt, va, vz, rfl, _⟩ := h
    rfl
  · obtain ⟨x, dx, S, G, t, a, z, vt, va, vz, rfl, hx, sm, gx, so, at1, at2, at3, ok1, ok2, ok3, k1, k2⟩ := h
    refine ⟨_, (pss_cons (ps_if (pt_not (pt_val (pe_callD D_are_turns (hr.mono (by decide)) (by rfl) pass0 (pa_cons (pv 1) pa_nil)))) (pss_one (ps_raise rfl (takes_of rfl rfl rfl rfl) (pmk_oex W.xB.ox W.xB.iC W.xB.tI GE (hr.mono (by decide)) W.bE .nil pass0 (by rfl) W.xB.gC (pa_cons pe_str pa_nil)))) pss_nil)
      (pss_cons (ps_if (pt_not (pt_val (pe_callD D_are_asks (hr.mono (by decide)) (by rfl) pass0 (pa_cons (pv 2) (pa_cons (pe_callB (call_lenK (K := K) rfl) (by rfl) B.len b_len (pa_cons (pv 1) pa_nil)) pa_nil))))) (pss_one (ps_raise rfl (takes_of rfl rfl rfl rfl) (pmk_oex W.xB.ox W.xB.iC W.xB.tI GE (hr.mono (by decide)) W.bE .nil pass0 (by rfl) W.xB.gC (pa_cons pe_str pa_nil)))) pss_nil)
      (pss_cons (ps_if (pt_not (pt_val (pe_callD D_is_index (hr.mono (by decide)) (by rfl) pass0 (pa_cons (pv 3) (pa_cons (pe_callB (call_lenK (K := K) rfl) (by rfl) B.len b_len (pa_cons (pv 1) pa_nil)) pa_nil))))) (pss_one (ps_raise rfl (takes_of rfl rfl rfl rfl) (pmk_oex W.xB.ox W.xB.iC W.xB.tI GE (hr.mono (by decide)) W.bE .nil pass0 (by rfl) W.xB.gC (pa_cons pe_str pa_nil)))) pss_nil)
      (pss_cons (ps_if (pt_val (pe_callD D_is_silent (hr.mono (by decide)) (by rfl) pass0 (pa_cons (pv 1) (pa_cons (pv 2) pa_nil)))) (pss_one (ps_raise rfl (takes_of rfl rfl rfl rfl) (pmk_oex W.xB.ox W.xB.iC W.xB.tI GE (hr.mono (by decide)) W.bE .nil pass0 (by rfl) W.xB.gC (pa_cons pe_str pa_nil)))) pss_nil)
      (pss_cons (ps_fld (pv 0) (pv 1) rfl)
      (pss_cons (ps_fld (pv 0) (pv 2) rfl)
      (pss_cons (ps_fld (pv 0) (pv 3) rfl)
      (pss_one (ps_fld (pv 0) (pe_callB (call_lenK (K := K) rfl) (by rfl) B.len b_len (pa_cons (pv 1) pa_nil)) rfl))))))))), ?_⟩
    let R : Rg := ⟨E, fun C' d => C' = CB ∧ d = .str (toldW t a z) ∧ toldW t a z ≠ "made", ⟨fun b => H b ≠ none, S, fun _ _ => False⟩⟩
    have rz : Rz R G H := by
      rintro C' dd w d G' H' sB hd at' ⟨rfl, rfl, ne⟩ sm so
      cases at'
      exact k1 dd G' H' ne sB.full hd sm so
    have en : Ens R.T G H [.fx (.ref x), .da t, .da a, .da z] [some (.ref x), some vt, some va, some vz] := by
      refine ⟨sm, rfl, fun i s e => ?_, so, fun b h => h, fun b u q => q.elim, fun i j b ds es e => ?_, fun i j b ds es e => ?_⟩
      · match i, e with
        | 0, e => obtain rfl : Sl.fx (.ref x) = s := by simpa using e
                  exact ⟨_, rfl, rfl⟩
        | 1, e => obtain rfl : Sl.da t = s := by simpa using e
                  exact ⟨_, rfl, vt, rfl, at1⟩
        | 2, e => obtain rfl : Sl.da a = s := by simpa using e
                  exact ⟨_, rfl, va, rfl, at2⟩
        | 3, e => obtain rfl : Sl.da z = s := by simpa using e
                  exact ⟨_, rfl, vz, rfl, at3⟩
        | n + 4, e => simp at e
      · match i, e with
        | 0, e => simp at e
        | 1, e => simp at e
        | 2, e => simp at e
        | 3, e => simp at e
        | n + 4, e => simp at e
      · match i, e with
        | 0, e => simp at e
        | 1, e => simp at e
        | 2, e => simp at e
        | 3, e => simp at e
        | n + 4, e => simp at e
    refine run4 ?_
    refine (?_ : WpS R _ [.fx (.ref x), .da t, .da a, .da z] (fun δ' => δ' = [.fx (.ref x), .da t, .da a, .da z] ∧ toldW t a z = "made") (fun _ => False)) _ G H en rz _ (fun δ' σ' G' H' sB en' ⟨e, hm⟩ => ?_) (fun _ _ _ _ _ _ _ _ q => q.elim)
    · repeat (first | with_reducible refine wps_nil ?_ | with_reducible refine wps_seq ?_ | refine wps_ret ?_ | refine wps_if ?_ | refine wps_newl ?_ | refine wps_set ?_ | refine wpt_not ?_ | refine wpt_or ?_ | refine wpt_and ?_ | refine wpt_B ?_ | refine wpt_test ?_ | refine wpe_var rfl ?_ | refine wpe_int ?_ | refine wpe_bl ?_ | refine wpe_str ?_ | refine wpe_non ?_ | refine wpe_ty ?_ | refine wpe_andV ?_ | refine wpe_orV ?_ | refine wpe_notV ?_ | refine wpe_if ?_ | refine wpe_call1 ?_ | refine wpe_call2 ?_ | refine wpe_call3 ?_ | refine wpe_callS rfl ?_ | refine wpe_tupL ?_ | refine wpe_lstL ?_ | refine wpe_call0 ?_ | refine wpe_cb1 ?_ | refine wpe_cb2 ?_ | refine wpe_neg ?_ | refine wpe_slice ?_ | refine wpe_op ?_ | refine wpe_chain ?_ | refine wpo_none ?_ | refine wpo_some ?_ | refine wpl_nil ?_ | refine wpl_cons ?_ | refine wpa_cons ?_ | refine wpi_zipL ?_ | refine wpi_enuT1 ?_ | refine wpi_rng1 ?_ | refine wpi_seq ?_ | refine opd_ix (n := 0) (.inr rfl) rfl rfl ?_ | refine opd_ix (n := 1) (.inr rfl) rfl rfl ?_ | refine opd_ix (n := 2) (.inr rfl) rfl rfl ?_ | refine opd_b ?_ | refine opd_l (opd_b ?_) | refine opd_i ?_ | refine opd_l (opd_eqI ?_) | refine opd_l (opd_neI ?_) | refine opd_l (opd_neS ?_) | refine opd_l (opd_eqS ?_) | refine cbd_l (cbd_len (.inr rfl) ?_) | refine cbd_l (cbd_len (.inl rfl) ?_) | refine cbd_int1 ?_ | refine ite_t ?_ | refine ite_f ?_ | refine ⟨_, rfl, ?_⟩)
      refine ⟨ok1, _, rfl, ite_b (fun h => ?_) (fun h => ?_)⟩
      · exact wps_raiseS W.xB ⟨rfl, by rw [toldW_turns (by simpa [intOf] using h)], by rw [toldW_turns (by simpa [intOf] using h)]; exact ne1⟩
      refine wps_nil ?_
      have h1 : areTurns t = true := by simpa using h
      obtain ⟨et, tk⟩ := turns_tD h1
      have elen : ∃ ds, t = .tup ds ∧ ds.length = (tsOf t).length := ⟨_, et, List.length_map ..⟩
      obtain ⟨ds, ed, el⟩ := elen
      repeat (first | with_reducible refine wps_nil ?_ | with_reducible refine wps_seq ?_ | refine wps_ret ?_ | refine wps_if ?_ | refine wps_newl ?_ | refine wps_set ?_ | refine wpt_not ?_ | refine wpt_or ?_ | refine wpt_and ?_ | refine wpt_B ?_ | refine wpt_test ?_ | refine wpe_var rfl ?_ | refine wpe_int ?_ | refine wpe_bl ?_ | refine wpe_str ?_ | refine wpe_non ?_ | refine wpe_ty ?_ | refine wpe_andV ?_ | refine wpe_orV ?_ | refine wpe_notV ?_ | refine wpe_if ?_ | refine wpe_call1 ?_ | refine wpe_call2 ?_ | refine wpe_call3 ?_ | refine wpe_callS rfl ?_ | refine wpe_tupL ?_ | refine wpe_lstL ?_ | refine wpe_call0 ?_ | refine wpe_cb1 ?_ | refine wpe_cb2 ?_ | refine wpe_neg ?_ | refine wpe_slice ?_ | refine wpe_op ?_ | refine wpe_chain ?_ | refine wpo_none ?_ | refine wpo_some ?_ | refine wpl_nil ?_ | refine wpl_cons ?_ | refine wpa_cons ?_ | refine wpi_zipL ?_ | refine wpi_enuT1 ?_ | refine wpi_rng1 ?_ | refine wpi_seq ?_ | refine opd_ix (n := 0) (.inr rfl) rfl rfl ?_ | refine opd_ix (n := 1) (.inr rfl) rfl rfl ?_ | refine opd_ix (n := 2) (.inr rfl) rfl rfl ?_ | refine opd_b ?_ | refine opd_l (opd_b ?_) | refine opd_i ?_ | refine opd_l (opd_eqI ?_) | refine opd_l (opd_neI ?_) | refine opd_l (opd_neS ?_) | refine opd_l (opd_eqS ?_) | refine cbd_l (cbd_len (.inr rfl) ?_) | refine cbd_l (cbd_len (.inl rfl) ?_) | refine cbd_int1 ?_ | refine ite_t ?_ | refine ite_f ?_ | refine ⟨_, rfl, ?_⟩)
      refine cbd_l (cbd_len (.inr ed) ?_)
      rw [el]
      refine ⟨⟨ok2, _, rfl⟩, _, rfl, ite_b (fun h => ?_) (fun h => ?_)⟩
      · exact wps_raiseS W.xB ⟨rfl, by rw [toldW_asks h1 (by simpa [intOf] using h)], by rw [toldW_asks h1 (by simpa [intOf] using h)]; exact ne2⟩
      refine wps_nil ?_
      have h2 : areAsks (tsOf t).length a = true := by simpa [intOf] using h
      repeat (first | with_reducible refine wps_nil ?_ | with_reducible refine wps_seq ?_ | refine wps_ret ?_ | refine wps_if ?_ | refine wps_newl ?_ | refine wps_set ?_ | refine wpt_not ?_ | refine wpt_or ?_ | refine wpt_and ?_ | refine wpt_B ?_ | refine wpt_test ?_ | refine wpe_var rfl ?_ | refine wpe_int ?_ | refine wpe_bl ?_ | refine wpe_str ?_ | refine wpe_non ?_ | refine wpe_ty ?_ | refine wpe_andV ?_ | refine wpe_orV ?_ | refine wpe_notV ?_ | refine wpe_if ?_ | refine wpe_call1 ?_ | refine wpe_call2 ?_ | refine wpe_call3 ?_ | refine wpe_callS rfl ?_ | refine wpe_tupL ?_ | refine wpe_lstL ?_ | refine wpe_call0 ?_ | refine wpe_cb1 ?_ | refine wpe_cb2 ?_ | refine wpe_neg ?_ | refine wpe_slice ?_ | refine wpe_op ?_ | refine wpe_chain ?_ | refine wpo_none ?_ | refine wpo_some ?_ | refine wpl_nil ?_ | refine wpl_cons ?_ | refine wpa_cons ?_ | refine wpi_zipL ?_ | refine wpi_enuT1 ?_ | refine wpi_rng1 ?_ | refine wpi_seq ?_ | refine opd_ix (n := 0) (.inr rfl) rfl rfl ?_ | refine opd_ix (n := 1) (.inr rfl) rfl rfl ?_ | refine opd_ix (n := 2) (.inr rfl) rfl rfl ?_ | refine opd_b ?_ | refine opd_l (opd_b ?_) | refine opd_i ?_ | refine opd_l (opd_eqI ?_) | refine opd_l (opd_neI ?_) | refine opd_l (opd_neS ?_) | refine opd_l (opd_eqS ?_) | refine cbd_l (cbd_len (.inr rfl) ?_) | refine cbd_l (cbd_len (.inl rfl) ?_) | refine cbd_int1 ?_ | refine ite_t ?_ | refine ite_f ?_ | refine ⟨_, rfl, ?_⟩)
      refine cbd_l (cbd_len (.inr ed) ?_)
      rw [el]
      refine ⟨⟨ok3, _, rfl⟩, _, rfl, ite_b (fun h => ?_) (fun h => ?_)⟩
      · exact wps_raiseS W.xB ⟨rfl, by rw [toldW_start h1 h2 (by simpa [intOf] using h)], by rw [toldW_start h1 h2 (by simpa [intOf] using h)]; exact ne3⟩
      refine wps_nil ?_
      have h3 : isIdx (tsOf t).length z = true := by simpa [intOf] using h
      obtain ⟨ea, la, ra⟩ := asks_rows h2
      refine wps_if (wpt_B (wpe_call0 (c := c_is_silent) ?_))
      repeat (first | with_reducible refine wps_nil ?_ | with_reducible refine wps_seq ?_ | refine wps_ret ?_ | refine wps_if ?_ | refine wps_newl ?_ | refine wps_set ?_ | refine wpt_not ?_ | refine wpt_or ?_ | refine wpt_and ?_ | refine wpt_B ?_ | refine wpt_test ?_ | refine wpe_var rfl ?_ | refine wpe_int ?_ | refine wpe_bl ?_ | refine wpe_str ?_ | refine wpe_non ?_ | refine wpe_ty ?_ | refine wpe_andV ?_ | refine wpe_orV ?_ | refine wpe_notV ?_ | refine wpe_if ?_ | refine wpe_call1 ?_ | refine wpe_call2 ?_ | refine wpe_call3 ?_ | refine wpe_callS rfl ?_ | refine wpe_tupL ?_ | refine wpe_lstL ?_ | refine wpe_call0 ?_ | refine wpe_cb1 ?_ | refine wpe_cb2 ?_ | refine wpe_neg ?_ | refine wpe_slice ?_ | refine wpe_op ?_ | refine wpe_chain ?_ | refine wpo_none ?_ | refine wpo_some ?_ | refine wpl_nil ?_ | refine wpl_cons ?_ | refine wpa_cons ?_ | refine wpi_zipL ?_ | refine wpi_enuT1 ?_ | refine wpi_rng1 ?_ | refine wpi_seq ?_ | refine opd_ix (n := 0) (.inr rfl) rfl rfl ?_ | refine opd_ix (n := 1) (.inr rfl) rfl rfl ?_ | refine opd_ix (n := 2) (.inr rfl) rfl rfl ?_ | refine opd_b ?_ | refine opd_l (opd_b ?_) | refine opd_i ?_ | refine opd_l (opd_eqI ?_) | refine opd_l (opd_neI ?_) | refine opd_l (opd_neS ?_) | refine opd_l (opd_eqS ?_) | refine cbd_l (cbd_len (.inr rfl) ?_) | refine cbd_l (cbd_len (.inl rfl) ?_) | refine cbd_int1 ?_ | refine ite_t ?_ | refine ite_f ?_ | refine ⟨_, rfl, ?_⟩)
      refine wpa_nil ⟨rfl, ⟨tsOf t, rowsD a, by rw [← et, ← ea], by have := tk.most; omega, tk.inn, la, ra⟩, fun d pd => ?_, fun _ _ q => q⟩
      obtain ⟨b, rfl, hb⟩ := pd (tsOf t) (rowsD a) (by rw [← et, ← ea])
      refine ⟨b, rfl, ite_b (fun h => ?_) (fun h => ?_)⟩
      · have e := toldW_silent h1 h2 h3 (hb.mp h)
        exact wps_raiseS W.xB ⟨rfl, by rw [e], by rw [e]; exact ne4⟩
      · refine wps_nil ⟨rfl, toldW_made h1 h2 h3 ?_⟩
        exact Classical.byContradiction fun q => by rw [hb.mpr q] at h; cases h
    · subst e
      have st := sB.full
      have hx' : H' x = some (.ins C dx []) := sB.hs _ _ (show H x ≠ none by rw [hx]; exact fun z => nomatch z) hx (fun q => by
        obtain ⟨_, _, _, _, e⟩ := so x q
        rw [hx] at e
        exact nomatch e)
      have gx' : G' x = none := sB.gn _ (show H x ≠ none by rw [hx]; exact fun z => nomatch z) gx
      obtain ⟨o0, e0, rfl⟩ := en'.get 0 _ rfl
      obtain ⟨o1, e1, v1, rfl, a1⟩ := en'.get 1 _ rfl
      obtain ⟨o2, e2, v2, rfl, a2⟩ := en'.get 2 _ rfl
      obtain ⟨o3, e3, v3, rfl, a3⟩ := en'.get 3 _ rfl
      have ht : areTurns t = true := by
        cases q : areTurns t with
        | true => rfl
        | false => rw [toldW_turns q] at hm; exact absurd hm ne1
      obtain ⟨et, tk⟩ := turns_tD ht
      have a1' := a1
      rw [et] at a1'
      obtain ⟨p0, xs, rfl, hp0, al⟩ := at_tup a1'
      have px : p0 ≠ x := fun q => by
        rw [q] at hp0
        rcases hp0 with h | ⟨o, h⟩ <;> (rw [gx'] at h; exact nomatch h)
      have lx : xs.length = (tsOf t).length := by rw [al.length, List.length_map]
      refine ⟨_, e1, _, e0, x, C, dx, _, rfl, hx', W.cl, W.n1, (by show 0 < 1000; decide), ?_⟩
      refine ⟨_, e2, _, e0, x, C, dx, _, rfl, upd_same, W.cl, W.n2, (by show 1 < 1000; decide), ?_⟩
      refine ⟨_, e3, _, e0, x, C, dx, _, rfl, upd_same, W.cl, W.n3, (by show 2 < 1000; decide), ?_⟩
      refine ⟨_, e1, .inl ⟨p0, xs, rfl, .inr (.inl (by
        rcases hp0 with h | ⟨o, h⟩
        · exact .inl (by rw [upd_ne px, upd_ne px, upd_ne px]; exact en'.same _ _ h)
        · exact .inr ⟨o, by rw [upd_ne px, upd_ne px, upd_ne px]; exact en'.same _ _ h⟩)), _, e0, x, C, dx, _, rfl, upd_same, W.cl, W.n4, (by show 3 < 1000; decide), ?_⟩⟩
      rw [upd_upd, upd_upd, upd_upd, lx]
      exact k2 (.ref p0) v2 v3 G' H' hm st en'.same en'.stt hx' gx' a1 a2 a3
end
end Nv
namespace Nv
open PySem PySem.Spec PyProof.Rows L2
abbrev s__law_cell : Stmt := top 31
abbrev s__law_state : Stmt := top 32
abbrev s__law_take : Stmt := top 33
section
variable {P : Program} {w : World} {K : PySem.W.Frag} {mg : Str → Option Value} {base : Heap}
theorem scCell : FnScope ["script", "at"] ["script", "at"] (defScope s__law_cell) :=
  ⟨rfl, rfl, rfl, by decide +kernel, rfl, by decide +kernel, by decide +kernel⟩
theorem ok_cell {f : Addr} {fd : FuncData} (F : Fun K "_law_cell" "_law_cell" s__law_cell f fd) (T : Blt mg) :
    FnOk P w K mg base CX0 1 f fd ["script", "at"] (spCel K) := by
  refine F.ok scCell (fun vs H Q E h => ?_) (fun cdv A outer s H vs Q E hr h => ?_)
  · obtain ⟨a, ns, j, rfl, _⟩ := h
    rfl
  · obtain ⟨a, ns, j, rfl, hs, q⟩ := h
    refine ⟨_, pss_cons (ps_if (pt_cmpR op_lt (pv 1) (pe_callB call_len_seq (by rfl) T.len PySem.boot_len (pa_cons (pv 0) pa_nil)) (nomark _))
      (pss_one (ps_ret (pe_callTy call_int1 (by rfl) T.int PyProof.Rows.boot_int (pa_cons (pe_ix ix_list (pv 0) (pv 1) (fun _ _ => rfl)) pa_nil)))) pss_nil)
      (pss_one (ps_ret pe_int)), ?_⟩
    refine ⟨_, rfl, _, rfl, a, _, rfl, .inl hs, _, _, rfl, rfl, _, rfl, ?_⟩
    refine ite2 (fun h => ?_) (fun h => ?_)
    · have lt : j < ns.length := by
        have := of_decide_eq_true h
        rw [List.length_map] at this
        omega
      refine ⟨_, rfl, _, rfl, a, _, _, _, rfl, rfl, hs, atI_nat (v := .int (ns.getD j 0)) ?_, .inl ⟨_, rfl, q⟩⟩
      rw [List.getElem?_map, List.getElem?_eq_getElem lt, List.getD_eq_getElem?_getD, List.getElem?_eq_getElem lt]
      rfl
    · have ge : ns.length ≤ j := by
        have := of_decide_eq_false (Bool.eq_false_iff.mpr h)
        rw [List.length_map] at this
        omega
      rw [List.getD_eq_getElem?_getD, List.getElem?_eq_none ge] at q
      exact q
theorem scState : FnScope ["cell"] ["cell"] (defScope s__law_state) :=
  ⟨rfl, rfl, rfl, by decide +kernel, rfl, by decide +kernel, by decide +kernel⟩
theorem ok_state {f : Addr} {fd : FuncData} (F : Fun K "_law_state" "_law_state" s__law_state f fd) (T : Blt mg) :
    FnOk P w K mg base CX0 1 f fd ["cell"] spSta := by
  refine F.ok scState (fun vs H Q E h => ?_) (fun cdv A outer s H vs Q E hr h => ?_)
  · obtain ⟨n, rfl, _⟩ := h
    rfl
  · obtain ⟨n, rfl, q⟩ := h
    refine ⟨_, pss_cons (ps_if (pt_cmpR op_ge (pe_callB call_abs (by rfl) T.abs PyProof.Rows.boot_abs (pa_cons (pv 0) pa_nil)) (pe_op op_pow pe_int pe_int) (nomark _))
      (pss_one (ps_ret (pe_lst (pa_cons (pe_callB call_abs (by rfl) T.abs PyProof.Rows.boot_abs (pa_cons (pv 0) pa_nil)) (pa_cons pe_int (pa_cons pe_int pa_nil)))))) pss_nil)
      (pss_one (ps_ret (pe_lst (pa_cons pe_int (pa_cons (pe_op op_mod (pe_callTy call_int1 (by rfl) T.int PyProof.Rows.boot_int (pa_cons (pv 0) pa_nil)) pe_int) (pa_cons pe_int pa_nil)))))), ?_⟩
    refine ⟨_, rfl, _, rfl, _, _, rfl, rfl, ⟨by decide, by decide, by decide⟩, _, _, rfl, rfl, _, rfl, ?_⟩
    refine ite2 (fun h => ?_) (fun h => ?_)
    · exact ⟨_, rfl, _, rfl, (by show 3 ≤ sizeLine; decide), fun p hp => q p _ _ _ hp⟩
    · exact ⟨_, rfl, .inl ⟨_, rfl, _, _, rfl, rfl, (by show (0 : Int) < 2147483563; decide), (by show 3 ≤ sizeLine; decide), fun p hp => q p _ _ _ hp⟩⟩
/-- a draw: some number below many, many of any size in use here -/
def spTakW : Sp := fun vs H Q _ => ∃ (p : Addr) (a b c m : Int), vs = [.ref p, .int m] ∧ 0 < m ∧ m.natAbs < 2 ^ 200 ∧
  H p = some (.lst [.int a, .int b, .int c]) ∧
  ∀ (d a' b' c' : Int), 0 ≤ d → d < m → Q (.int d) (upd H p (.lst [.int a', .int b', .int c']))
theorem scTake : FnScope ["state", "many", "digit", "mixed"] ["state", "many"] (defScope s__law_take) :=
  ⟨rfl, rfl, rfl, by decide +kernel, rfl, by decide +kernel, by decide +kernel⟩
theorem ok_take {f : Addr} {fd : FuncData} (F : Fun K "_law_take" "_law_take" s__law_take f fd) (T : Blt mg) :
    FnOk P w K mg base CX0 1 f fd ["state", "many"] spTakW := by
  refine F.ok scTake (fun vs H Q E h => ?_) (fun cdv A outer s H vs Q E hr h => ?_)
  · obtain ⟨p, a, b, c, m, rfl, _⟩ := h
    rfl
  · obtain ⟨p, a, b, c, m, rfl, m0, m1, hp, q⟩ := h
    refine ⟨_, pss_cons (ps_if (pt_cmpR op_gt (pe_ix ix_list (pv 0) pe_int (fun _ _ => rfl)) pe_int (nomark _))
        (pss_cons (ps_set (i := 2) scTake.nd rfl (Or.inl rfl) (pe_op op_mod (pe_callTy call_int1 (by rfl) T.int PyProof.Rows.boot_int (pa_cons (pe_ix ix_list (pv 0) pe_int (fun _ _ => rfl)) pa_nil)) (pv 1)))
        (pss_cons (ps_asg (pe_op op_fdivW (pe_ix ix_list (pv 0) pe_int (fun _ _ => rfl)) (pv 1)) (pg_sub (pv 0) pe_int set_list))
        (pss_one (ps_ret (pv 2))))) pss_nil)
      (pss_cons (ps_asg (pe_op op_add (pe_ix ix_list (pv 0) pe_int (fun _ _ => rfl)) pe_int) (pg_sub (pv 0) pe_int set_list))
      (pss_cons (ps_set (i := 3) scTake.nd rfl (Or.inl rfl) (pe_op op_mod (pe_callTy call_int1 (by rfl) T.int PyProof.Rows.boot_int (pa_cons (pe_op op_mul (pe_op op_add (pe_op op_add (pe_ix ix_list (pv 0) pe_int (fun _ _ => rfl)) (pe_op op_mul pe_int (pe_ix ix_list (pv 0) pe_int (fun _ _ => rfl)))) pe_int) pe_int) pa_nil)) pe_int))
      (pss_cons (ps_set (i := 3) scTake.nd rfl (Or.inl rfl) (pe_op op_mod (pe_callTy call_int1 (by rfl) T.int PyProof.Rows.boot_int (pa_cons (pe_op op_mul (pv 3) (pe_op op_add (pe_op op_fdivN (pv 3) pe_int) pe_int)) pa_nil)) pe_int))
      (pss_one (ps_ret (pe_op op_mod (pe_callTy call_int1 (by rfl) T.int PyProof.Rows.boot_int (pa_cons (pe_op op_fdivN (pe_op op_mod (pe_op op_mul (pv 3) (pe_op op_add (pe_op op_fdivN (pv 3) pe_int) pe_int)) pe_int) pe_int) pa_nil)) (pv 1))))))), ?_⟩
    have at0 : atI [V.int a, V.int b, V.int c] 0 = some (.int a) := rfl
    refine ⟨_, rfl, p, _, _, _, rfl, rfl, SqL.of hp, at0, _, _, rfl, rfl, _, rfl, ?_⟩
    refine ite2 (fun h => ?_) (fun h => ?_)
    · refine ⟨_, rfl, p, _, _, _, rfl, rfl, SqL.of hp, at0, .inl ⟨_, rfl, _, rfl, _, _, rfl, rfl, m0, ?_⟩⟩
      refine ⟨_, rfl, p, _, _, _, rfl, rfl, SqL.of hp, at0, _, rfl, _, _, rfl, rfl, wide_div m0 m1 (by decide) (by decide), _, rfl, p, _, _, _, rfl, rfl, hp, (by rfl), _, rfl, ?_⟩
      exact q _ _ _ _ (Int.emod_nonneg _ (by omega)) (Int.emod_lt_of_pos _ m0)
    · have h1 : (upd H p (.lst [.int a, .int b, .int (c + 1)])) p = some (.lst [.int a, .int b, .int (c + 1)]) := upd_same
      refine ⟨_, rfl, p, _, _, _, rfl, rfl, SqL.of hp, (by rfl), _, _, rfl, rfl, _, rfl, p, _, _, _, rfl, rfl, hp, (by rfl), ?_⟩
      refine ⟨_, rfl, p, _, _, _, rfl, rfl, SqL.of h1, (by rfl), _, rfl, p, _, _, _, rfl, rfl, SqL.of h1, (by rfl), _, _, rfl, rfl, .inl ⟨by decide, by decide⟩, _, _, rfl, rfl, _, _, rfl, rfl, _, _, rfl, rfl, .inr ⟨by decide, by decide⟩, .inl ⟨_, rfl, _, _, rfl, rfl, (by show (0 : Int) < 2147483647; decide), ?_⟩⟩
      generalize hx : ((b + 6151 * (c + 1) + 17) * 48271) % 2147483647 = x
      have x0 : 0 ≤ x := by rw [← hx]; exact Int.emod_nonneg _ (by decide)
      have x1 : x < 2147483647 := by rw [← hx]; exact Int.emod_lt_of_pos _ (by decide)
      refine ⟨_, rfl, _, rfl, _, _, rfl, rfl, ⟨by decide, by decide⟩, _, _, rfl, rfl, _, _, rfl, rfl, .inl ⟨by omega, by omega⟩, .inl ⟨_, rfl, _, _, rfl, rfl, (by show (0 : Int) < 2147483399; decide), ?_⟩⟩
      generalize hy : (x * (x.fdiv 1361 + 69621)) % 2147483399 = y
      have y0 : 0 ≤ y := by rw [← hy]; exact Int.emod_nonneg _ (by decide)
      have y1 : y < 2147483399 := by rw [← hy]; exact Int.emod_lt_of_pos _ (by decide)
      refine ⟨_, rfl, _, rfl, _, _, rfl, rfl, ⟨by decide, by decide⟩, _, _, rfl, rfl, _, _, rfl, rfl, .inl ⟨by omega, by omega⟩, _, _, rfl, rfl, (by show (0 : Int) < 2147483563; decide), _, _, rfl, rfl, ⟨by decide, by decide⟩, .inl ⟨_, rfl, _, rfl, _, _, rfl, rfl, m0, ?_⟩⟩
      exact q _ _ _ _ (Int.emod_nonneg _ (by omega)) (Int.emod_lt_of_pos _ m0)
end
end Nv
namespace Nv
open PySem PySem.Spec PyProof.Rows L2
section
variable {P : Program} {w : World} {K : PySem.W.Frag} {mg : Str → Option Value} {base : Heap}
abbrev s__law_some : Stmt := top 34
theorem sc__law_some : FnScope ["state", "size", "many", "found", "turn", "number"] ["state", "size", "many"] (defScope s__law_some) :=
  ⟨rfl, rfl, rfl, by decide +kernel, rfl, by decide +kernel, by decide +kernel⟩
abbrev s__law_answers : Stmt := top 35
theorem sc__law_answers : FnScope ["state", "size", "dear", "goals", "goal"] ["state", "size", "dear"] (defScope s__law_answers) :=
  ⟨rfl, rfl, rfl, by decide +kernel, rfl, by decide +kernel, by decide +kernel⟩
abbrev s__law_asks : Stmt := top 36
theorem sc__law_asks : FnScope ["state", "size", "dear", "most", "names", "words", "number"] ["state", "size", "dear", "most"] (defScope s__law_asks) :=
  ⟨rfl, rfl, rfl, by decide +kernel, rfl, by decide +kernel, by decide +kernel⟩
def c_take : Spc := spS (fun ds => ∃ m : Int, ds = [.int m] ∧ 0 < m ∧ m < 1073741824) fun ds d => ∀ m, ds = [.int m] → ∃ z, d = .int z ∧ 0 ≤ z ∧ z < m
theorem d_take {f : Addr} {fd : FuncData} (T : Blt mg) (F : Fn K mg "_law_take" s__law_take ["state", "many"] f fd) : Dk P w K mg base "_law_take" CX0 1 ["state", "many"] (spW c_take 2) := by
  refine ⟨f, fd, (ok_take F.F T).imp fun vs H Q E h => ?_, F.m, F.F.kp, F.b⟩
  obtain ⟨S, G, as, l, sm, so, ar, ⟨a, ds, e, m, em, m0, m1⟩, k, _⟩ := h
  subst em
  subst e
  cases ar with
  | cons h1 t =>
    cases t with
    | cons h2 t =>
      cases t
      obtain ⟨rfl, hS⟩ := h1
      cases h2
      obtain ⟨gn, x, y, z, ha⟩ := so a hS
      refine ⟨a, x, y, z, m, rfl, m0, by omega, ha, fun d a' b' c' d0 d1 => ?_⟩
      refine k _ (.int d) G _ ⟨.refl _, fun b u e n => ?_, fun b e => ?_, fun b e _ => e⟩ (fun b u e => ?_) (fun b hb => ?_) (.int d) (fun a2 ds2 e2 m2 em2 => ?_)
      · rw [upd_ne (fun q => n (by rw [q]; exact hS))]; exact e
      · by_cases q : b = a
        · rw [q, upd_same]; exact fun q => nomatch q
        · rw [upd_ne q]; exact e
      · rw [upd_ne (fun q => by rw [q, gn] at e; exact nomatch e)]; exact sm b u e
      · obtain ⟨g, x2, y2, z2, e2⟩ := so b hb
        by_cases q : b = a
        · subst q
          exact ⟨g, _, _, _, upd_same⟩
        · exact ⟨g, x2, y2, z2, by rw [upd_ne q]; exact e2⟩
      · subst em2
        obtain ⟨_, e3⟩ := List.cons.inj e2
        have := map_da_inj (as := [.int m]) (bs := [.int m2]) e3
        obtain rfl := D.int.inj (List.cons.inj this).1
        exact ⟨d, rfl, d0, d1⟩
/-- _law_one_of(state, items) -/
def c_one : Spc := spS (fun ds => ∃ xs, ds = [.lst xs] ∧ xs ≠ [] ∧ xs.length ≤ 1000) fun ds d => ∀ xs, ds = [.lst xs] → d ∈ xs
/-- _law_some(state, size, many) -/
def Some9 (size many : Int) (d : D) : Prop := ∃ zs : List Int, d = .lst (zs.map D.int) ∧ zs.Pairwise (· < ·) ∧ (∀ z ∈ zs, 0 ≤ z ∧ z < size) ∧ (zs.length : Int) ≤ many ∧ (1 ≤ many → zs ≠ [])
def c_some : Spc := spS (fun ds => ∃ n m : Int, ds = [.int n, .int m] ∧ 0 < n ∧ n < 1000000 ∧ 0 ≤ m ∧ m ≤ 1000) fun ds d => ∀ n m, ds = [.int n, .int m] → Some9 n m d
theorem d_some {f : Addr} {fd : FuncData} (B : Bly mg) (F : Fn K mg "_law_some" s__law_some ["state", "size", "many"] f fd) (D__law_take : Dk P w K mg base "_law_take" CX0 1 ["state", "many"] (spW c_take 2)) :
    Dk P w K mg base "_law_some" CX0 2 ["state", "size", "many"] (spW c_some 3) := by
  refine F.okS sc__law_some rfl fun cdv A outer s H E a ds hr ⟨n, m, e, n0, n1, m0, m1⟩ _ => ⟨_, (pss_cons (ps_set (i := 3) sc__law_some.nd rfl (by first | exact Or.inl rfl | exact Or.inr rfl) (pe_lst pa_nil))
    (pss_cons (ps_for PassesOwn.never rfl (pi_range1 (by rfl) B.rng (pa_cons (pv 2) pa_nil)) (pg_name (i := 4) sc__law_some.nd rfl (by first | exact Or.inl rfl | exact Or.inr rfl)) (pss_cons (ps_set (i := 5) sc__law_some.nd rfl (by first | exact Or.inl rfl | exact Or.inr rfl) (pe_callD D__law_take (hr.mono (by decide)) (by rfl) pass0 (pa_cons (pv 0) (pa_cons (pv 1) pa_nil))))
      (pss_one (ps_if (pt_cmpR (op_notinK (K := K) rfl) (pv 5) (pv 3) (by with_unfolding_all rfl)) (pss_one (ps_expr (pe_bm PySem.F.plainAttrs_list PySem.F.slot_list_append PySem.F.type_list_append mt_append (pv 3) (pa_cons (pv 5) pa_nil)))) pss_nil))))
    (pss_one (ps_ret (pe_callB (cr_sortedK (K := K) rfl) (by rfl) B.srt b_sorted (pa_cons (pe_lc (own := [("number", 5)]) (g := gName 5) (tt := tYes) (by rfl) sc__law_some.nd (pi_seq (pv 3)) (blkOk_by (N := ["state", "size", "many", "found", "turn", "number"]) (sc := defScope s__law_some) (by decide +kernel)) (fun _ _ _ _ _ => pg_name (i := 5) sc__law_some.nd rfl (by first | exact Or.inl rfl | exact Or.inr rfl)) (fun _ _ _ _ _ => pts_nil) (fun _ _ _ _ _ => (pe_callTy call_int1 (by rfl) B.int b_int (pa_cons (pv 5) pa_nil)))) pa_nil)))))), fun T => ?_⟩
  subst e
  refine wps_seq (wps_newl fun p => ?_)
  refine wps_seq (wps_for (js := [4]) (wpi_rng1 (wpe_var rfl ⟨m, rfl, by omega, by omega, ?_⟩)))
  refine ⟨fun i δ' => ∃ (zs : List Int) (x4 x5 : Sl), δ' = [.st a, .da (.int n), .da (.int m), .ow p (zs.map D.int), x4, x5] ∧ zs.Nodup ∧ (∀ z ∈ zs, 0 ≤ z ∧ z < n) ∧ zs.length ≤ i ∧ (1 ≤ i → zs ≠ []), ⟨[], .no, .no, rfl, .nil, by simp, by simp, by simp⟩, ?_, ?_⟩
  · rintro i d δ' ed ⟨zs, x4, x5, rfl, nd, inn, lz, nz⟩
    obtain ⟨rfl, lt⟩ := rngD_at ed
    refine wpg_name ?_
    repeat (first | with_reducible refine wps_nil ?_ | with_reducible refine wps_seq ?_ | refine wps_ret ?_ | refine wps_if ?_ | refine wps_newl ?_ | refine wps_set ?_ | refine wpt_not ?_ | refine wpt_or ?_ | refine wpt_and ?_ | refine wpt_B ?_ | refine wpt_test ?_ | refine wpe_var rfl ?_ | refine wpe_int ?_ | refine wpe_bl ?_ | refine wpe_str ?_ | refine wpe_non ?_ | refine wpe_ty ?_ | refine wpe_andV ?_ | refine wpe_orV ?_ | refine wpe_notV ?_ | refine wpe_if ?_ | refine wpe_call1 ?_ | refine wpe_call2 ?_ | refine wpe_call3 ?_ | refine wpe_callS rfl ?_ | refine wpe_tupL ?_ | refine wpe_lstL ?_ | refine wpe_call0 ?_ | refine wpe_cb1 ?_ | refine wpe_cb2 ?_ | refine wpe_neg ?_ | refine wpe_slice ?_ | refine wpe_op ?_ | refine wpe_chain ?_ | refine wpo_none ?_ | refine wpo_some ?_ | refine wpl_nil ?_ | refine wpl_cons ?_ | refine wpa_cons ?_ | refine wpi_zipL ?_ | refine wpi_enuT1 ?_ | refine wpi_rng1 ?_ | refine wpi_seq ?_ | refine opd_ix (n := 0) (.inr rfl) rfl rfl ?_ | refine opd_ix (n := 1) (.inr rfl) rfl rfl ?_ | refine opd_ix (n := 2) (.inr rfl) rfl rfl ?_ | refine opd_b ?_ | refine opd_l (opd_b ?_) | refine opd_i ?_ | refine opd_l (opd_eqI ?_) | refine opd_l (opd_neI ?_) | refine opd_l (opd_neS ?_) | refine opd_l (opd_eqS ?_) | refine cbd_l (cbd_len (.inr rfl) ?_) | refine cbd_l (cbd_len (.inl rfl) ?_) | refine cbd_int1 ?_ | refine ite_t ?_ | refine ite_f ?_ | refine ⟨_, rfl, ?_⟩)
    refine ⟨rfl, ⟨n, rfl, n0, by omega⟩, fun d hd => ?_⟩
    obtain ⟨z, rfl, z0, z1⟩ := hd _ rfl
    refine wps_if (wpt_test (wpe_inO (i := 3) rfl (wpe_var rfl ⟨z, rfl, _, rfl, ite_b (fun h => ?_) (fun h => ?_)⟩)))
    · have ng : z ∉ zs := by simpa using h
      refine wps_append (i := 3) rfl (by rw [List.length_map]; omega) (wpe_var rfl ⟨zs ++ [z], _, _, by rw [List.map_append]; rfl, ?_, fun y hy => ?_, by rw [List.length_append, List.length_singleton]; omega, fun _ q => by simp at q⟩)
      · rw [List.nodup_append]
        exact ⟨nd, by simp, fun a ha b hb => by rw [List.mem_singleton] at hb; subst hb; exact fun q => ng (by rw [← q]; exact ha)⟩
      · rcases List.mem_append.mp hy with hy | hy
        · exact inn y hy
        · rw [List.mem_singleton] at hy
          subst hy
          exact ⟨z0, z1⟩
    · have ng : z ∈ zs := by simpa using h
      exact wps_nil ⟨zs, _, _, rfl, nd, inn, by omega, fun _ q => by rw [q] at ng; exact nomatch ng⟩
  · rintro δ' ⟨zs, x4, x5, rfl, nd, inn, lz, nz⟩
    rw [rngD_len] at lz nz
    refine wps_freeze (i := 3) rfl ?_
    repeat (first | with_reducible refine wps_nil ?_ | with_reducible refine wps_seq ?_ | refine wps_ret ?_ | refine wps_if ?_ | refine wps_newl ?_ | refine wps_set ?_ | refine wpt_not ?_ | refine wpt_or ?_ | refine wpt_and ?_ | refine wpt_B ?_ | refine wpt_test ?_ | refine wpe_var rfl ?_ | refine wpe_int ?_ | refine wpe_bl ?_ | refine wpe_str ?_ | refine wpe_non ?_ | refine wpe_ty ?_ | refine wpe_andV ?_ | refine wpe_orV ?_ | refine wpe_notV ?_ | refine wpe_if ?_ | refine wpe_call1 ?_ | refine wpe_call2 ?_ | refine wpe_call3 ?_ | refine wpe_callS rfl ?_ | refine wpe_tupL ?_ | refine wpe_lstL ?_ | refine wpe_call0 ?_ | refine wpe_cb1 ?_ | refine wpe_cb2 ?_ | refine wpe_neg ?_ | refine wpe_slice ?_ | refine wpe_op ?_ | refine wpe_chain ?_ | refine wpo_none ?_ | refine wpo_some ?_ | refine wpl_nil ?_ | refine wpl_cons ?_ | refine wpa_cons ?_ | refine wpi_zipL ?_ | refine wpi_enuT1 ?_ | refine wpi_rng1 ?_ | refine wpi_seq ?_ | refine opd_ix (n := 0) (.inr rfl) rfl rfl ?_ | refine opd_ix (n := 1) (.inr rfl) rfl rfl ?_ | refine opd_ix (n := 2) (.inr rfl) rfl rfl ?_ | refine opd_b ?_ | refine opd_l (opd_b ?_) | refine opd_i ?_ | refine opd_l (opd_eqI ?_) | refine opd_l (opd_neI ?_) | refine opd_l (opd_neS ?_) | refine opd_l (opd_eqS ?_) | refine cbd_l (cbd_len (.inr rfl) ?_) | refine cbd_l (cbd_len (.inl rfl) ?_) | refine cbd_int1 ?_ | refine ite_t ?_ | refine ite_f ?_ | refine ⟨_, rfl, ?_⟩)
    refine wpe_map id (by simp) (wpi_seq (wpe_var rfl ⟨_, .inl rfl, by rw [List.length_map]; omega, fun d hd => ?_, ?_⟩))
    · obtain ⟨z, _, rfl⟩ := List.mem_map.mp hd
      repeat (first | with_reducible refine wps_nil ?_ | with_reducible refine wps_seq ?_ | refine wps_ret ?_ | refine wps_if ?_ | refine wps_newl ?_ | refine wps_set ?_ | refine wpt_not ?_ | refine wpt_or ?_ | refine wpt_and ?_ | refine wpt_B ?_ | refine wpt_test ?_ | refine wpe_var rfl ?_ | refine wpe_int ?_ | refine wpe_bl ?_ | refine wpe_str ?_ | refine wpe_non ?_ | refine wpe_ty ?_ | refine wpe_andV ?_ | refine wpe_orV ?_ | refine wpe_notV ?_ | refine wpe_if ?_ | refine wpe_call1 ?_ | refine wpe_call2 ?_ | refine wpe_call3 ?_ | refine wpe_callS rfl ?_ | refine wpe_tupL ?_ | refine wpe_lstL ?_ | refine wpe_call0 ?_ | refine wpe_cb1 ?_ | refine wpe_cb2 ?_ | refine wpe_neg ?_ | refine wpe_slice ?_ | refine wpe_op ?_ | refine wpe_chain ?_ | refine wpo_none ?_ | refine wpo_some ?_ | refine wpl_nil ?_ | refine wpl_cons ?_ | refine wpa_cons ?_ | refine wpi_zipL ?_ | refine wpi_enuT1 ?_ | refine wpi_rng1 ?_ | refine wpi_seq ?_ | refine opd_ix (n := 0) (.inr rfl) rfl rfl ?_ | refine opd_ix (n := 1) (.inr rfl) rfl rfl ?_ | refine opd_ix (n := 2) (.inr rfl) rfl rfl ?_ | refine opd_b ?_ | refine opd_l (opd_b ?_) | refine opd_i ?_ | refine opd_l (opd_eqI ?_) | refine opd_l (opd_neI ?_) | refine opd_l (opd_neS ?_) | refine opd_l (opd_eqS ?_) | refine cbd_l (cbd_len (.inr rfl) ?_) | refine cbd_l (cbd_len (.inl rfl) ?_) | refine cbd_int1 ?_ | refine ite_t ?_ | refine ite_f ?_ | refine ⟨_, rfl, ?_⟩)
      rfl
    · rw [List.map_id]
      refine cbd_sorted fun ys hp hs => ?_
      intro n' m' e
      obtain ⟨e1, e2⟩ := List.cons.inj e
      obtain ⟨e2, _⟩ := List.cons.inj e2
      obtain rfl := D.int.inj e1
      obtain rfl := D.int.inj e2
      refine ⟨ys, rfl, ?_, fun z hz => inn z (hp.mem_iff.mp hz), by rw [hp.length_eq]; omega, fun q e => ?_⟩
      · have nd2 := hp.nodup_iff.mpr nd
        exact (hs.and nd2).imp fun {a b} ⟨h1, h2⟩ => by omega
      · subst e
        exact nz (by omega) (List.eq_nil_of_length_eq_zero (by have := hp.length_eq; simpa using this.symm))
end
end Nv
namespace Nv
open PySem PySem.Spec PyProof.Rows L2
theorem asc_of {α : Type} {r : α → α → Prop} {f : α → D} (hf : ∀ a b, r a b → ltP (.tup [f a, f b]) = true) : ∀ {xs : List α}, xs.Pairwise r → (zipD (xs.map f) ((xs.map f).drop 1)).all ltP = true
  | [], _ => rfl
  | [a], _ => rfl
  | a :: b :: xs, h => by
    obtain ⟨h1, h2⟩ := List.pairwise_cons.mp h
    have ih := asc_of hf (xs := b :: xs) h2
    simp only [List.map_cons, List.drop_succ_cons, List.drop_zero, zipD, List.all_cons, Bool.and_eq_true]
    exact ⟨hf a b (h1 b (by simp)), by simpa only [List.map_cons, List.drop_succ_cons, List.drop_zero] using ih⟩
theorem asc_ints {zs : List Int} (h : zs.Pairwise (· < ·)) : (zipD (zs.map D.int) ((zs.map D.int).drop 1)).all ltP = true := asc_of (f := D.int) (r := fun a b : Int => a < b) (fun a b q => decide_eq_true q) h
theorem okD_tup {ds : List D} (l : ds.length ≤ 1000) (h : ∀ d ∈ ds, okD d = true) : okD (.tup ds) = true := by
  unfold okD
  rw [okAll_of h, decide_eq_true l]
  rfl
theorem okD_lst {ds : List D} (l : ds.length ≤ 1000) (h : ∀ d ∈ ds, okD d = true) : okD (.lst ds) = true := by
  unfold okD
  rw [okAll_of h, decide_eq_true l]
  rfl
def words : List Str := ["a", "ab", "go", "gone", "stayandstayz"]
theorem words_asc : ∀ i j : Fin 5, i < j → (words.getD i "").cps.toList < (words.getD j "").cps.toList := by decide +kernel
theorem words_name : ∀ i : Fin 5, isName (.str (words.getD i "")) = true ∧ (words.getD i "").length ≤ 1000 := by decide +kernel
theorem len_asc {n : Int} {zs : List Int} (h : zs.Pairwise (· < ·)) (inn : ∀ z ∈ zs, 0 ≤ z ∧ z < n) (n0 : 0 ≤ n) : zs.length ≤ n.toNat :=
  bound (n := n.toNat) (fun z hz => by have := inn z hz; omega) (h.imp fun {a b} q => by omega)
/-- prices below r; names of the law's five, at most as many as said -/
def SmlA (r : Int) (d : D) : Prop := ∀ q ∈ rowsD d, ∃ g p : Int, q = .tup [.int g, .int p] ∧ 0 ≤ p ∧ p < r
def SmlR (r : Int) (d : D) : Prop := ∀ a ∈ rowsD d, ∃ (x : Str) (b : D), a = .tup [.str x, b] ∧ x ∈ words ∧ SmlA r b
section
variable {P : Program} {w : World} {K : PySem.W.Frag} {mg : Str → Option Value} {base : Heap}
def c_answers : Spc := spS (fun ds => ∃ n r : Int, ds = [.int n, .int r] ∧ 0 < n ∧ n ≤ 1000 ∧ 0 < r ∧ r < 1073741824) fun ds d => ∀ n r, ds = [.int n, .int r] → areAnswers n d = true ∧ okD d = true ∧ SmlA r d
theorem d_answers {f : Addr} {fd : FuncData} (B : Bly mg) (F : Fn K mg "_law_answers" s__law_answers ["state", "size", "dear"] f fd) (D__law_take : Dk P w K mg base "_law_take" CX0 1 ["state", "many"] (spW c_take 2))
    (D__law_some : Dk P w K mg base "_law_some" CX0 2 ["state", "size", "many"] (spW c_some 3)) : Dk P w K mg base "_law_answers" CX0 3 ["state", "size", "dear"] (spW c_answers 3) := by
  refine F.okS sc__law_answers rfl fun cdv A outer s H E a ds hr ⟨n, r, e, n0, n1, r0, r1⟩ _ => ⟨_, (pss_cons (ps_set (i := 3) sc__law_answers.nd rfl (by first | exact Or.inl rfl | exact Or.inr rfl) (pe_callD D__law_some (hr.mono (by decide)) (by rfl) pass0 (pa_cons (pv 0) (pa_cons (pv 1) (pa_cons (pe_op op_add pe_int (pe_callD D__law_take (hr.mono (by decide)) (by rfl) pass0 (pa_cons (pv 0) (pa_cons pe_int pa_nil)))) pa_nil)))))
    (pss_one (ps_ret (pe_callTy (call_tupleK (K := K) rfl) (by rfl) B.tuple b_tuple (pa_cons (pe_lc (own := [("goal", 4)]) (g := gName 4) (tt := tYes) (by rfl) sc__law_answers.nd (pi_seq (pv 3)) (blkOk_by (N := ["state", "size", "dear", "goals", "goal"]) (sc := defScope s__law_answers) (by decide +kernel)) (fun _ _ _ _ _ => pg_name (i := 4) sc__law_answers.nd rfl (by first | exact Or.inl rfl | exact Or.inr rfl)) (fun _ _ _ _ _ => pts_nil) (fun _ _ _ _ _ => (pe_tup (pa_cons (pv 4) (pa_cons (pe_callD D__law_take (hr.mono (by decide)) (by rfl) pass0 (pa_cons (pv 0) (pa_cons (pv 2) pa_nil))) pa_nil))))) pa_nil))))), fun T => ?_⟩
  subst e
  repeat (first | with_reducible refine wps_nil ?_ | with_reducible refine wps_seq ?_ | refine wps_ret ?_ | refine wps_if ?_ | refine wps_newl ?_ | refine wps_set ?_ | refine wpt_not ?_ | refine wpt_or ?_ | refine wpt_and ?_ | refine wpt_B ?_ | refine wpt_test ?_ | refine wpe_var rfl ?_ | refine wpe_int ?_ | refine wpe_bl ?_ | refine wpe_str ?_ | refine wpe_non ?_ | refine wpe_ty ?_ | refine wpe_andV ?_ | refine wpe_orV ?_ | refine wpe_notV ?_ | refine wpe_if ?_ | refine wpe_call1 ?_ | refine wpe_call2 ?_ | refine wpe_call3 ?_ | refine wpe_callS rfl ?_ | refine wpe_tupL ?_ | refine wpe_lstL ?_ | refine wpe_call0 ?_ | refine wpe_cb1 ?_ | refine wpe_cb2 ?_ | refine wpe_neg ?_ | refine wpe_slice ?_ | refine wpe_op ?_ | refine wpe_chain ?_ | refine wpo_none ?_ | refine wpo_some ?_ | refine wpl_nil ?_ | refine wpl_cons ?_ | refine wpa_cons ?_ | refine wpi_zipL ?_ | refine wpi_enuT1 ?_ | refine wpi_rng1 ?_ | refine wpi_seq ?_ | refine opd_ix (n := 0) (.inr rfl) rfl rfl ?_ | refine opd_ix (n := 1) (.inr rfl) rfl rfl ?_ | refine opd_ix (n := 2) (.inr rfl) rfl rfl ?_ | refine opd_b ?_ | refine opd_l (opd_b ?_) | refine opd_i ?_ | refine opd_l (opd_eqI ?_) | refine opd_l (opd_neI ?_) | refine opd_l (opd_neS ?_) | refine opd_l (opd_eqS ?_) | refine cbd_l (cbd_len (.inr rfl) ?_) | refine cbd_l (cbd_len (.inl rfl) ?_) | refine cbd_int1 ?_ | refine ite_t ?_ | refine ite_f ?_ | refine ⟨_, rfl, ?_⟩)
  refine ⟨rfl, ⟨3, rfl, by decide, by decide⟩, fun d hd => ?_⟩
  obtain ⟨k, rfl, k0, k1⟩ := hd _ rfl
  repeat (first | with_reducible refine wps_nil ?_ | with_reducible refine wps_seq ?_ | refine wps_ret ?_ | refine wps_if ?_ | refine wps_newl ?_ | refine wps_set ?_ | refine wpt_not ?_ | refine wpt_or ?_ | refine wpt_and ?_ | refine wpt_B ?_ | refine wpt_test ?_ | refine wpe_var rfl ?_ | refine wpe_int ?_ | refine wpe_bl ?_ | refine wpe_str ?_ | refine wpe_non ?_ | refine wpe_ty ?_ | refine wpe_andV ?_ | refine wpe_orV ?_ | refine wpe_notV ?_ | refine wpe_if ?_ | refine wpe_call1 ?_ | refine wpe_call2 ?_ | refine wpe_call3 ?_ | refine wpe_callS rfl ?_ | refine wpe_tupL ?_ | refine wpe_lstL ?_ | refine wpe_call0 ?_ | refine wpe_cb1 ?_ | refine wpe_cb2 ?_ | refine wpe_neg ?_ | refine wpe_slice ?_ | refine wpe_op ?_ | refine wpe_chain ?_ | refine wpo_none ?_ | refine wpo_some ?_ | refine wpl_nil ?_ | refine wpl_cons ?_ | refine wpa_cons ?_ | refine wpi_zipL ?_ | refine wpi_enuT1 ?_ | refine wpi_rng1 ?_ | refine wpi_seq ?_ | refine opd_ix (n := 0) (.inr rfl) rfl rfl ?_ | refine opd_ix (n := 1) (.inr rfl) rfl rfl ?_ | refine opd_ix (n := 2) (.inr rfl) rfl rfl ?_ | refine opd_b ?_ | refine opd_l (opd_b ?_) | refine opd_i ?_ | refine opd_l (opd_eqI ?_) | refine opd_l (opd_neI ?_) | refine opd_l (opd_neS ?_) | refine opd_l (opd_eqS ?_) | refine cbd_l (cbd_len (.inr rfl) ?_) | refine cbd_l (cbd_len (.inl rfl) ?_) | refine cbd_int1 ?_ | refine ite_t ?_ | refine ite_f ?_ | refine ⟨_, rfl, ?_⟩)
  refine ⟨rfl, ⟨n, 1 + k, rfl, n0, by omega, by omega, by omega⟩, fun d hd => ?_⟩
  obtain ⟨zs, rfl, asc, inn, lz, nz⟩ := hd n _ rfl
  have lz2 : zs.length ≤ 1000 := by have := len_asc asc inn (by omega); omega
  repeat (first | with_reducible refine wps_nil ?_ | with_reducible refine wps_seq ?_ | refine wps_ret ?_ | refine wps_if ?_ | refine wps_newl ?_ | refine wps_set ?_ | refine wpt_not ?_ | refine wpt_or ?_ | refine wpt_and ?_ | refine wpt_B ?_ | refine wpt_test ?_ | refine wpe_var rfl ?_ | refine wpe_int ?_ | refine wpe_bl ?_ | refine wpe_str ?_ | refine wpe_non ?_ | refine wpe_ty ?_ | refine wpe_andV ?_ | refine wpe_orV ?_ | refine wpe_notV ?_ | refine wpe_if ?_ | refine wpe_call1 ?_ | refine wpe_call2 ?_ | refine wpe_call3 ?_ | refine wpe_callS rfl ?_ | refine wpe_tupL ?_ | refine wpe_lstL ?_ | refine wpe_call0 ?_ | refine wpe_cb1 ?_ | refine wpe_cb2 ?_ | refine wpe_neg ?_ | refine wpe_slice ?_ | refine wpe_op ?_ | refine wpe_chain ?_ | refine wpo_none ?_ | refine wpo_some ?_ | refine wpl_nil ?_ | refine wpl_cons ?_ | refine wpa_cons ?_ | refine wpi_zipL ?_ | refine wpi_enuT1 ?_ | refine wpi_rng1 ?_ | refine wpi_seq ?_ | refine opd_ix (n := 0) (.inr rfl) rfl rfl ?_ | refine opd_ix (n := 1) (.inr rfl) rfl rfl ?_ | refine opd_ix (n := 2) (.inr rfl) rfl rfl ?_ | refine opd_b ?_ | refine opd_l (opd_b ?_) | refine opd_i ?_ | refine opd_l (opd_eqI ?_) | refine opd_l (opd_neI ?_) | refine opd_l (opd_neS ?_) | refine opd_l (opd_eqS ?_) | refine cbd_l (cbd_len (.inr rfl) ?_) | refine cbd_l (cbd_len (.inl rfl) ?_) | refine cbd_int1 ?_ | refine ite_t ?_ | refine ite_f ?_ | refine ⟨_, rfl, ?_⟩)
  refine wpe_lc (js := [4]) (by simp) (wpi_seq (wpe_var rfl ⟨_, .inl rfl, by rw [List.length_map]; omega, fun i acc => acc.map fstD = (zs.take i).map D.int ∧ ∀ d ∈ acc, isAnswer n d = true ∧ okD d = true ∧ ∃ g p : Int, d = .tup [.int g, .int p] ∧ 0 ≤ p ∧ p < r, ⟨rfl, by simp⟩, ?_, ?_⟩))
  · rintro i d acc ed ⟨h1, h2⟩ _
    rw [List.getElem?_map] at ed
    obtain ⟨g, eg, rfl⟩ := Option.map_eq_some_iff.mp ed
    refine wpg_name (wpt_yes (ite_t ?_))
    repeat (first | with_reducible refine wps_nil ?_ | with_reducible refine wps_seq ?_ | refine wps_ret ?_ | refine wps_if ?_ | refine wps_newl ?_ | refine wps_set ?_ | refine wpt_not ?_ | refine wpt_or ?_ | refine wpt_and ?_ | refine wpt_B ?_ | refine wpt_test ?_ | refine wpe_var rfl ?_ | refine wpe_int ?_ | refine wpe_bl ?_ | refine wpe_str ?_ | refine wpe_non ?_ | refine wpe_ty ?_ | refine wpe_andV ?_ | refine wpe_orV ?_ | refine wpe_notV ?_ | refine wpe_if ?_ | refine wpe_call1 ?_ | refine wpe_call2 ?_ | refine wpe_call3 ?_ | refine wpe_callS rfl ?_ | refine wpe_tupL ?_ | refine wpe_lstL ?_ | refine wpe_call0 ?_ | refine wpe_cb1 ?_ | refine wpe_cb2 ?_ | refine wpe_neg ?_ | refine wpe_slice ?_ | refine wpe_op ?_ | refine wpe_chain ?_ | refine wpo_none ?_ | refine wpo_some ?_ | refine wpl_nil ?_ | refine wpl_cons ?_ | refine wpa_cons ?_ | refine wpi_zipL ?_ | refine wpi_enuT1 ?_ | refine wpi_rng1 ?_ | refine wpi_seq ?_ | refine opd_ix (n := 0) (.inr rfl) rfl rfl ?_ | refine opd_ix (n := 1) (.inr rfl) rfl rfl ?_ | refine opd_ix (n := 2) (.inr rfl) rfl rfl ?_ | refine opd_b ?_ | refine opd_l (opd_b ?_) | refine opd_i ?_ | refine opd_l (opd_eqI ?_) | refine opd_l (opd_neI ?_) | refine opd_l (opd_neS ?_) | refine opd_l (opd_eqS ?_) | refine cbd_l (cbd_len (.inr rfl) ?_) | refine cbd_l (cbd_len (.inl rfl) ?_) | refine cbd_int1 ?_ | refine ite_t ?_ | refine ite_f ?_ | refine ⟨_, rfl, ?_⟩)
    refine ⟨rfl, ⟨r, rfl, r0, r1⟩, fun d hd => ?_⟩
    obtain ⟨p, rfl, p0, p1⟩ := hd _ rfl
    repeat (first | with_reducible refine wps_nil ?_ | with_reducible refine wps_seq ?_ | refine wps_ret ?_ | refine wps_if ?_ | refine wps_newl ?_ | refine wps_set ?_ | refine wpt_not ?_ | refine wpt_or ?_ | refine wpt_and ?_ | refine wpt_B ?_ | refine wpt_test ?_ | refine wpe_var rfl ?_ | refine wpe_int ?_ | refine wpe_bl ?_ | refine wpe_str ?_ | refine wpe_non ?_ | refine wpe_ty ?_ | refine wpe_andV ?_ | refine wpe_orV ?_ | refine wpe_notV ?_ | refine wpe_if ?_ | refine wpe_call1 ?_ | refine wpe_call2 ?_ | refine wpe_call3 ?_ | refine wpe_callS rfl ?_ | refine wpe_tupL ?_ | refine wpe_lstL ?_ | refine wpe_call0 ?_ | refine wpe_cb1 ?_ | refine wpe_cb2 ?_ | refine wpe_neg ?_ | refine wpe_slice ?_ | refine wpe_op ?_ | refine wpe_chain ?_ | refine wpo_none ?_ | refine wpo_some ?_ | refine wpl_nil ?_ | refine wpl_cons ?_ | refine wpa_cons ?_ | refine wpi_zipL ?_ | refine wpi_enuT1 ?_ | refine wpi_rng1 ?_ | refine wpi_seq ?_ | refine opd_ix (n := 0) (.inr rfl) rfl rfl ?_ | refine opd_ix (n := 1) (.inr rfl) rfl rfl ?_ | refine opd_ix (n := 2) (.inr rfl) rfl rfl ?_ | refine opd_b ?_ | refine opd_l (opd_b ?_) | refine opd_i ?_ | refine opd_l (opd_eqI ?_) | refine opd_l (opd_neI ?_) | refine opd_l (opd_neS ?_) | refine opd_l (opd_eqS ?_) | refine cbd_l (cbd_len (.inr rfl) ?_) | refine cbd_l (cbd_len (.inl rfl) ?_) | refine cbd_int1 ?_ | refine ite_t ?_ | refine ite_f ?_ | refine ⟨_, rfl, ?_⟩)
    refine ⟨by show 2 ≤ 1000; decide, ?_, fun d hd => ?_⟩
    · rw [List.map_append, h1, List.take_add_one, eg, List.map_append]
      rfl
    · rcases List.mem_append.mp hd with hd | hd
      · exact h2 d hd
      · rw [List.mem_singleton] at hd
        subst hd
        have := inn g (List.mem_of_getElem? eg)
        refine ⟨?_, rfl, g, p, rfl, p0, p1⟩
        simp [isAnswer, isIdx, isNat, this.1, this.2, p0]
  · rintro acc ⟨h1, h2⟩ _
    rw [List.length_map, List.take_length] at h1
    refine cbd_tupL fun n' r' e => ?_
    obtain ⟨e1, e2⟩ := List.cons.inj e
    obtain rfl := D.int.inj e1
    obtain rfl := D.int.inj (List.cons.inj e2).1
    have la : acc.length = zs.length := map_len h1
    refine ⟨?_, okD_tup (by omega) fun d hd => (h2 d hd).2.1, fun q hq => (h2 q hq).2.2⟩
    show (!decide ((acc.length : Int) = 0) && (acc.all (isAnswer n) && (zipD (acc.map fstD) ((acc.map fstD).drop 1)).all ltP)) = true
    have l0 : zs.length ≠ 0 := fun q => nz (by omega) (List.eq_nil_of_length_eq_zero q)
    rw [h1, asc_ints asc, decide_eq_false (by omega), List.all_eq_true.mpr fun d hd => (h2 d hd).1]
    rfl
def c_asks : Spc := spS (fun ds => ∃ n r m : Int, ds = [.int n, .int r, .int m] ∧ 0 < n ∧ n ≤ 1000 ∧ 0 < r ∧ r < 1073741824 ∧ 0 ≤ m ∧ m ≤ 100) fun ds d => ∀ n r m, ds = [.int n, .int r, .int m] → areAsksOf n d = true ∧ okD d = true ∧ SmlR r d ∧ ((rowsD d).length : Int) ≤ m
theorem d_asks {f : Addr} {fd : FuncData} (B : Bly mg) (F : Fn K mg "_law_asks" s__law_asks ["state", "size", "dear", "most"] f fd) (D__law_take : Dk P w K mg base "_law_take" CX0 1 ["state", "many"] (spW c_take 2))
    (D__law_some : Dk P w K mg base "_law_some" CX0 2 ["state", "size", "many"] (spW c_some 3)) (D__law_answers : Dk P w K mg base "_law_answers" CX0 3 ["state", "size", "dear"] (spW c_answers 3)) :
    Dk P w K mg base "_law_asks" CX0 4 ["state", "size", "dear", "most"] (spW c_asks 4) := by
  refine F.okS sc__law_asks rfl fun cdv A outer s H E a ds hr ⟨n, r, m, e, n0, n1, r0, r1, m0, m1⟩ _ => ⟨_, (pss_cons (ps_set (i := 4) sc__law_asks.nd rfl (by first | exact Or.inl rfl | exact Or.inr rfl) (pe_callD D__law_some (hr.mono (by decide)) (by rfl) pass0 (pa_cons (pv 0) (pa_cons pe_int (pa_cons (pe_callD D__law_take (hr.mono (by decide)) (by rfl) pass0 (pa_cons (pv 0) (pa_cons (pe_op op_add (pv 3) pe_int) pa_nil))) pa_nil)))))
    (pss_cons (ps_set (i := 5) sc__law_asks.nd rfl (by first | exact Or.inl rfl | exact Or.inr rfl) (pe_lst (pa_cons pe_str (pa_cons pe_str (pa_cons pe_str (pa_cons pe_str (pa_cons pe_str pa_nil)))))))
    (pss_one (ps_ret (pe_callTy (call_tupleK (K := K) rfl) (by rfl) B.tuple b_tuple (pa_cons (pe_lc (own := [("number", 6)]) (g := gName 6) (tt := tYes) (by rfl) sc__law_asks.nd (pi_seq (pv 4)) (blkOk_by (N := ["state", "size", "dear", "most", "names", "words", "number"]) (sc := defScope s__law_asks) (by decide +kernel)) (fun _ _ _ _ _ => pg_name (i := 6) sc__law_asks.nd rfl (by first | exact Or.inl rfl | exact Or.inr rfl)) (fun _ _ _ _ _ => pts_nil) (fun _ _ _ _ _ => (pe_tup (pa_cons (pe_ix (ix_K (K := K) rfl) (pv 5) (pv 6) (fun _ _ => rfl)) (pa_cons (pe_callD D__law_answers (hr.mono (by decide)) (by rfl) pass0 (pa_cons (pv 0) (pa_cons (pv 1) (pa_cons (pv 2) pa_nil)))) pa_nil))))) pa_nil)))))), fun T => ?_⟩
  subst e
  repeat (first | with_reducible refine wps_nil ?_ | with_reducible refine wps_seq ?_ | refine wps_ret ?_ | refine wps_if ?_ | refine wps_newl ?_ | refine wps_set ?_ | refine wpt_not ?_ | refine wpt_or ?_ | refine wpt_and ?_ | refine wpt_B ?_ | refine wpt_test ?_ | refine wpe_var rfl ?_ | refine wpe_int ?_ | refine wpe_bl ?_ | refine wpe_str ?_ | refine wpe_non ?_ | refine wpe_ty ?_ | refine wpe_andV ?_ | refine wpe_orV ?_ | refine wpe_notV ?_ | refine wpe_if ?_ | refine wpe_call1 ?_ | refine wpe_call2 ?_ | refine wpe_call3 ?_ | refine wpe_callS rfl ?_ | refine wpe_tupL ?_ | refine wpe_lstL ?_ | refine wpe_call0 ?_ | refine wpe_cb1 ?_ | refine wpe_cb2 ?_ | refine wpe_neg ?_ | refine wpe_slice ?_ | refine wpe_op ?_ | refine wpe_chain ?_ | refine wpo_none ?_ | refine wpo_some ?_ | refine wpl_nil ?_ | refine wpl_cons ?_ | refine wpa_cons ?_ | refine wpi_zipL ?_ | refine wpi_enuT1 ?_ | refine wpi_rng1 ?_ | refine wpi_seq ?_ | refine opd_ix (n := 0) (.inr rfl) rfl rfl ?_ | refine opd_ix (n := 1) (.inr rfl) rfl rfl ?_ | refine opd_ix (n := 2) (.inr rfl) rfl rfl ?_ | refine opd_b ?_ | refine opd_l (opd_b ?_) | refine opd_i ?_ | refine opd_l (opd_eqI ?_) | refine opd_l (opd_neI ?_) | refine opd_l (opd_neS ?_) | refine opd_l (opd_eqS ?_) | refine cbd_l (cbd_len (.inr rfl) ?_) | refine cbd_l (cbd_len (.inl rfl) ?_) | refine cbd_int1 ?_ | refine ite_t ?_ | refine ite_f ?_ | refine ⟨_, rfl, ?_⟩)
  refine ⟨rfl, ⟨m + 1, rfl, by omega, by omega⟩, fun d hd => ?_⟩
  obtain ⟨k, rfl, k0, k1⟩ := hd _ rfl
  repeat (first | with_reducible refine wps_nil ?_ | with_reducible refine wps_seq ?_ | refine wps_ret ?_ | refine wps_if ?_ | refine wps_newl ?_ | refine wps_set ?_ | refine wpt_not ?_ | refine wpt_or ?_ | refine wpt_and ?_ | refine wpt_B ?_ | refine wpt_test ?_ | refine wpe_var rfl ?_ | refine wpe_int ?_ | refine wpe_bl ?_ | refine wpe_str ?_ | refine wpe_non ?_ | refine wpe_ty ?_ | refine wpe_andV ?_ | refine wpe_orV ?_ | refine wpe_notV ?_ | refine wpe_if ?_ | refine wpe_call1 ?_ | refine wpe_call2 ?_ | refine wpe_call3 ?_ | refine wpe_callS rfl ?_ | refine wpe_tupL ?_ | refine wpe_lstL ?_ | refine wpe_call0 ?_ | refine wpe_cb1 ?_ | refine wpe_cb2 ?_ | refine wpe_neg ?_ | refine wpe_slice ?_ | refine wpe_op ?_ | refine wpe_chain ?_ | refine wpo_none ?_ | refine wpo_some ?_ | refine wpl_nil ?_ | refine wpl_cons ?_ | refine wpa_cons ?_ | refine wpi_zipL ?_ | refine wpi_enuT1 ?_ | refine wpi_rng1 ?_ | refine wpi_seq ?_ | refine opd_ix (n := 0) (.inr rfl) rfl rfl ?_ | refine opd_ix (n := 1) (.inr rfl) rfl rfl ?_ | refine opd_ix (n := 2) (.inr rfl) rfl rfl ?_ | refine opd_b ?_ | refine opd_l (opd_b ?_) | refine opd_i ?_ | refine opd_l (opd_eqI ?_) | refine opd_l (opd_neI ?_) | refine opd_l (opd_neS ?_) | refine opd_l (opd_eqS ?_) | refine cbd_l (cbd_len (.inr rfl) ?_) | refine cbd_l (cbd_len (.inl rfl) ?_) | refine cbd_int1 ?_ | refine ite_t ?_ | refine ite_f ?_ | refine ⟨_, rfl, ?_⟩)
  refine ⟨rfl, ⟨5, k, rfl, by decide, by decide, by omega, by omega⟩, fun d hd => ?_⟩
  obtain ⟨zs, rfl, asc, inn, lz, nz⟩ := hd 5 _ rfl
  have lz2 : zs.length ≤ 5 := len_asc asc inn (by decide)
  repeat (first | with_reducible refine wps_nil ?_ | with_reducible refine wps_seq ?_ | refine wps_ret ?_ | refine wps_if ?_ | refine wps_newl ?_ | refine wps_set ?_ | refine wpt_not ?_ | refine wpt_or ?_ | refine wpt_and ?_ | refine wpt_B ?_ | refine wpt_test ?_ | refine wpe_var rfl ?_ | refine wpe_int ?_ | refine wpe_bl ?_ | refine wpe_str ?_ | refine wpe_non ?_ | refine wpe_ty ?_ | refine wpe_andV ?_ | refine wpe_orV ?_ | refine wpe_notV ?_ | refine wpe_if ?_ | refine wpe_call1 ?_ | refine wpe_call2 ?_ | refine wpe_call3 ?_ | refine wpe_callS rfl ?_ | refine wpe_tupL ?_ | refine wpe_lstL ?_ | refine wpe_call0 ?_ | refine wpe_cb1 ?_ | refine wpe_cb2 ?_ | refine wpe_neg ?_ | refine wpe_slice ?_ | refine wpe_op ?_ | refine wpe_chain ?_ | refine wpo_none ?_ | refine wpo_some ?_ | refine wpl_nil ?_ | refine wpl_cons ?_ | refine wpa_cons ?_ | refine wpi_zipL ?_ | refine wpi_enuT1 ?_ | refine wpi_rng1 ?_ | refine wpi_seq ?_ | refine opd_ix (n := 0) (.inr rfl) rfl rfl ?_ | refine opd_ix (n := 1) (.inr rfl) rfl rfl ?_ | refine opd_ix (n := 2) (.inr rfl) rfl rfl ?_ | refine opd_b ?_ | refine opd_l (opd_b ?_) | refine opd_i ?_ | refine opd_l (opd_eqI ?_) | refine opd_l (opd_neI ?_) | refine opd_l (opd_neS ?_) | refine opd_l (opd_eqS ?_) | refine cbd_l (cbd_len (.inr rfl) ?_) | refine cbd_l (cbd_len (.inl rfl) ?_) | refine cbd_int1 ?_ | refine ite_t ?_ | refine ite_f ?_ | refine ⟨_, rfl, ?_⟩)
  refine ⟨by show 5 ≤ 1000; decide, ?_⟩
  repeat (first | with_reducible refine wps_nil ?_ | with_reducible refine wps_seq ?_ | refine wps_ret ?_ | refine wps_if ?_ | refine wps_newl ?_ | refine wps_set ?_ | refine wpt_not ?_ | refine wpt_or ?_ | refine wpt_and ?_ | refine wpt_B ?_ | refine wpt_test ?_ | refine wpe_var rfl ?_ | refine wpe_int ?_ | refine wpe_bl ?_ | refine wpe_str ?_ | refine wpe_non ?_ | refine wpe_ty ?_ | refine wpe_andV ?_ | refine wpe_orV ?_ | refine wpe_notV ?_ | refine wpe_if ?_ | refine wpe_call1 ?_ | refine wpe_call2 ?_ | refine wpe_call3 ?_ | refine wpe_callS rfl ?_ | refine wpe_tupL ?_ | refine wpe_lstL ?_ | refine wpe_call0 ?_ | refine wpe_cb1 ?_ | refine wpe_cb2 ?_ | refine wpe_neg ?_ | refine wpe_slice ?_ | refine wpe_op ?_ | refine wpe_chain ?_ | refine wpo_none ?_ | refine wpo_some ?_ | refine wpl_nil ?_ | refine wpl_cons ?_ | refine wpa_cons ?_ | refine wpi_zipL ?_ | refine wpi_enuT1 ?_ | refine wpi_rng1 ?_ | refine wpi_seq ?_ | refine opd_ix (n := 0) (.inr rfl) rfl rfl ?_ | refine opd_ix (n := 1) (.inr rfl) rfl rfl ?_ | refine opd_ix (n := 2) (.inr rfl) rfl rfl ?_ | refine opd_b ?_ | refine opd_l (opd_b ?_) | refine opd_i ?_ | refine opd_l (opd_eqI ?_) | refine opd_l (opd_neI ?_) | refine opd_l (opd_neS ?_) | refine opd_l (opd_eqS ?_) | refine cbd_l (cbd_len (.inr rfl) ?_) | refine cbd_l (cbd_len (.inl rfl) ?_) | refine cbd_int1 ?_ | refine ite_t ?_ | refine ite_f ?_ | refine ⟨_, rfl, ?_⟩)
  refine wpe_lc (js := [6]) (by simp) (wpi_seq (wpe_var rfl ⟨_, .inl rfl, by rw [List.length_map]; omega, fun i acc => acc.map fstD = ((zs.take i).map fun z => words.getD z.toNat "").map D.str ∧ ∀ d ∈ acc, isAsk n d = true ∧ okD d = true ∧ ∃ (x : Str) (b : D), d = .tup [.str x, b] ∧ x ∈ words ∧ SmlA r b, ⟨rfl, by simp⟩, ?_, ?_⟩))
  · rintro i d acc ed ⟨h1, h2⟩ _
    rw [List.getElem?_map] at ed
    obtain ⟨g, eg, rfl⟩ := Option.map_eq_some_iff.mp ed
    obtain ⟨g0, g1⟩ := inn g (List.mem_of_getElem? eg)
    refine wpg_name (wpt_yes (ite_t ?_))
    repeat (first | with_reducible refine wps_nil ?_ | with_reducible refine wps_seq ?_ | refine wps_ret ?_ | refine wps_if ?_ | refine wps_newl ?_ | refine wps_set ?_ | refine wpt_not ?_ | refine wpt_or ?_ | refine wpt_and ?_ | refine wpt_B ?_ | refine wpt_test ?_ | refine wpe_var rfl ?_ | refine wpe_int ?_ | refine wpe_bl ?_ | refine wpe_str ?_ | refine wpe_non ?_ | refine wpe_ty ?_ | refine wpe_andV ?_ | refine wpe_orV ?_ | refine wpe_notV ?_ | refine wpe_if ?_ | refine wpe_call1 ?_ | refine wpe_call2 ?_ | refine wpe_call3 ?_ | refine wpe_callS rfl ?_ | refine wpe_tupL ?_ | refine wpe_lstL ?_ | refine wpe_call0 ?_ | refine wpe_cb1 ?_ | refine wpe_cb2 ?_ | refine wpe_neg ?_ | refine wpe_slice ?_ | refine wpe_op ?_ | refine wpe_chain ?_ | refine wpo_none ?_ | refine wpo_some ?_ | refine wpl_nil ?_ | refine wpl_cons ?_ | refine wpa_cons ?_ | refine wpi_zipL ?_ | refine wpi_enuT1 ?_ | refine wpi_rng1 ?_ | refine wpi_seq ?_ | refine opd_ix (n := 0) (.inr rfl) rfl rfl ?_ | refine opd_ix (n := 1) (.inr rfl) rfl rfl ?_ | refine opd_ix (n := 2) (.inr rfl) rfl rfl ?_ | refine opd_b ?_ | refine opd_l (opd_b ?_) | refine opd_i ?_ | refine opd_l (opd_eqI ?_) | refine opd_l (opd_neI ?_) | refine opd_l (opd_neS ?_) | refine opd_l (opd_eqS ?_) | refine cbd_l (cbd_len (.inr rfl) ?_) | refine cbd_l (cbd_len (.inl rfl) ?_) | refine cbd_int1 ?_ | refine ite_t ?_ | refine ite_f ?_ | refine ⟨_, rfl, ?_⟩)
    have ew : ([.str "a", .str "ab", .str "go", .str "gone", .str "stayandstayz"] : List D)[g.toNat]? = some (.str (words.getD g.toNat "")) := by
      have : g = 0 ∨ g = 1 ∨ g = 2 ∨ g = 3 ∨ g = 4 := by omega
      rcases this with rfl | rfl | rfl | rfl | rfl <;> rfl
    refine opd_ix (n := g.toNat) (.inl rfl) (by omega) ew ?_
    repeat (first | with_reducible refine wps_nil ?_ | with_reducible refine wps_seq ?_ | refine wps_ret ?_ | refine wps_if ?_ | refine wps_newl ?_ | refine wps_set ?_ | refine wpt_not ?_ | refine wpt_or ?_ | refine wpt_and ?_ | refine wpt_B ?_ | refine wpt_test ?_ | refine wpe_var rfl ?_ | refine wpe_int ?_ | refine wpe_bl ?_ | refine wpe_str ?_ | refine wpe_non ?_ | refine wpe_ty ?_ | refine wpe_andV ?_ | refine wpe_orV ?_ | refine wpe_notV ?_ | refine wpe_if ?_ | refine wpe_call1 ?_ | refine wpe_call2 ?_ | refine wpe_call3 ?_ | refine wpe_callS rfl ?_ | refine wpe_tupL ?_ | refine wpe_lstL ?_ | refine wpe_call0 ?_ | refine wpe_cb1 ?_ | refine wpe_cb2 ?_ | refine wpe_neg ?_ | refine wpe_slice ?_ | refine wpe_op ?_ | refine wpe_chain ?_ | refine wpo_none ?_ | refine wpo_some ?_ | refine wpl_nil ?_ | refine wpl_cons ?_ | refine wpa_cons ?_ | refine wpi_zipL ?_ | refine wpi_enuT1 ?_ | refine wpi_rng1 ?_ | refine wpi_seq ?_ | refine opd_ix (n := 0) (.inr rfl) rfl rfl ?_ | refine opd_ix (n := 1) (.inr rfl) rfl rfl ?_ | refine opd_ix (n := 2) (.inr rfl) rfl rfl ?_ | refine opd_b ?_ | refine opd_l (opd_b ?_) | refine opd_i ?_ | refine opd_l (opd_eqI ?_) | refine opd_l (opd_neI ?_) | refine opd_l (opd_neS ?_) | refine opd_l (opd_eqS ?_) | refine cbd_l (cbd_len (.inr rfl) ?_) | refine cbd_l (cbd_len (.inl rfl) ?_) | refine cbd_int1 ?_ | refine ite_t ?_ | refine ite_f ?_ | refine ⟨_, rfl, ?_⟩)
    refine ⟨rfl, ⟨n, r, rfl, n0, n1, r0, r1⟩, fun d hd => ?_⟩
    obtain ⟨q1, q2, q3⟩ := hd n r rfl
    repeat (first | with_reducible refine wps_nil ?_ | with_reducible refine wps_seq ?_ | refine wps_ret ?_ | refine wps_if ?_ | refine wps_newl ?_ | refine wps_set ?_ | refine wpt_not ?_ | refine wpt_or ?_ | refine wpt_and ?_ | refine wpt_B ?_ | refine wpt_test ?_ | refine wpe_var rfl ?_ | refine wpe_int ?_ | refine wpe_bl ?_ | refine wpe_str ?_ | refine wpe_non ?_ | refine wpe_ty ?_ | refine wpe_andV ?_ | refine wpe_orV ?_ | refine wpe_notV ?_ | refine wpe_if ?_ | refine wpe_call1 ?_ | refine wpe_call2 ?_ | refine wpe_call3 ?_ | refine wpe_callS rfl ?_ | refine wpe_tupL ?_ | refine wpe_lstL ?_ | refine wpe_call0 ?_ | refine wpe_cb1 ?_ | refine wpe_cb2 ?_ | refine wpe_neg ?_ | refine wpe_slice ?_ | refine wpe_op ?_ | refine wpe_chain ?_ | refine wpo_none ?_ | refine wpo_some ?_ | refine wpl_nil ?_ | refine wpl_cons ?_ | refine wpa_cons ?_ | refine wpi_zipL ?_ | refine wpi_enuT1 ?_ | refine wpi_rng1 ?_ | refine wpi_seq ?_ | refine opd_ix (n := 0) (.inr rfl) rfl rfl ?_ | refine opd_ix (n := 1) (.inr rfl) rfl rfl ?_ | refine opd_ix (n := 2) (.inr rfl) rfl rfl ?_ | refine opd_b ?_ | refine opd_l (opd_b ?_) | refine opd_i ?_ | refine opd_l (opd_eqI ?_) | refine opd_l (opd_neI ?_) | refine opd_l (opd_neS ?_) | refine opd_l (opd_eqS ?_) | refine cbd_l (cbd_len (.inr rfl) ?_) | refine cbd_l (cbd_len (.inl rfl) ?_) | refine cbd_int1 ?_ | refine ite_t ?_ | refine ite_f ?_ | refine ⟨_, rfl, ?_⟩)
    obtain ⟨w1, w2⟩ := words_name ⟨g.toNat, by omega⟩
    refine ⟨by show 2 ≤ 1000; decide, ?_, fun d' hd => ?_⟩
    · rw [List.map_append, h1, List.take_add_one, eg, List.map_append, List.map_append]
      rfl
    · rcases List.mem_append.mp hd with hd | hd
      · exact h2 d' hd
      · rw [List.mem_singleton] at hd
        subst hd
        refine ⟨?_, okD_tup (by show 2 ≤ 1000; decide) fun e he => ?_, _, _, rfl, ?_, q3⟩
        · show (isName _ && areAnswers n d) = true
          rw [w1, q1]
          rfl
        · rcases List.mem_cons.mp he with rfl | he
          · unfold okD
            exact decide_eq_true w2
          · rw [List.mem_singleton] at he
            rw [he]; exact q2
        · have : g = 0 ∨ g = 1 ∨ g = 2 ∨ g = 3 ∨ g = 4 := by omega
          rcases this with rfl | rfl | rfl | rfl | rfl <;> decide +kernel
  · rintro acc ⟨h1, h2⟩ _
    rw [List.length_map, List.take_length] at h1
    refine cbd_tupL fun n' r' m' e => ?_
    obtain ⟨e1, e2⟩ := List.cons.inj e
    obtain rfl := D.int.inj e1
    obtain ⟨e3, e4⟩ := List.cons.inj e2
    obtain rfl := D.int.inj e3
    obtain rfl := D.int.inj (List.cons.inj e4).1
    have la : acc.length = zs.length := by have := map_len h1; rwa [List.length_map] at this
    refine ⟨?_, okD_tup (by omega) fun d hd => (h2 d hd).2.1, fun q hq => (h2 q hq).2.2, by show (acc.length : Int) ≤ _; omega⟩
    show (decide ((acc.length : Int) ≤ 160) && (acc.all (isAsk n) && (zipD (acc.map fstD) ((acc.map fstD).drop 1)).all ltP)) = true
    rw [h1, decide_eq_true (by omega), List.all_eq_true.mpr fun d hd => (h2 d hd).1, List.map_map, asc_of (r := fun a b : Int => (0 ≤ a ∧ a < 5) ∧ (0 ≤ b ∧ b < 5) ∧ a < b)]
    · rfl
    · rintro x y ⟨hx, hy, lt⟩
      exact decide_eq_true (words_asc ⟨x.toNat, by omega⟩ ⟨y.toNat, by omega⟩ (by show x.toNat < y.toNat; omega))
    · exact (List.Pairwise.and_mem.mp asc).imp fun {x y} ⟨hx, hy, lt⟩ => ⟨inn x hx, inn y hy, lt⟩
end
/-- z is come to from s by turns -/
inductive Rch (ts : List (List Int)) (s : Nat) : Nat → Prop
  | refl : Rch ts s s
  | step {y z : Nat} {zs : List Int} : Rch ts s y → ts[y]? = some zs → (z : Int) ∈ zs → Rch ts s z
theorem Rch.hears {ts : List (List Int)} {rows : List D} {s z : Nat} (h : Rch ts s z) (q : Hears ts rows z) : Hears ts rows s := by
  induction h with
  | refl => exact q
  | step _ e m ih => exact ih (.turn e m q)
section
variable {P : Program} {w : World} {K : PySem.W.Frag} {mg : Str → Option Value} {base : Heap}
abbrev s__law_closure : Stmt := top 37
theorem sc__law_closure : FnScope ["turns", "first", "found", "at", "goal", "standing"] ["turns", "first"] (defScope s__law_closure) :=
  ⟨rfl, rfl, rfl, by decide +kernel, rfl, by decide +kernel, by decide +kernel⟩
def tL (ts : List (List Int)) : D := .lst (ts.map fun zs => .tup (zs.map D.int))
def c_closure : Spc := sp2 (fun x y => ∃ (ts : List (List Int)) (s : Nat), x = tL ts ∧ y = .int s ∧ s < ts.length ∧ ts.length ≤ 1000 ∧ ∀ zs ∈ ts, InN ts.length zs ∧ zs.Nodup) fun _ _ => .non
def c_clo : Spc :=
  { pre := fun as => ∃ (ts : List (List Int)) (s : Nat), as = [.da (tL ts), .da (.int s)] ∧ s < ts.length ∧ ts.length ≤ 400 ∧ ∀ zs ∈ ts, InN ts.length zs ∧ zs.Nodup
    post := fun as d => ∀ (ts : List (List Int)) (s : Nat), as = [.da (tL ts), .da (.int s)] → ∃ ys : List Int, d = .lst (ys.map D.int) ∧ InN ts.length ys ∧ ys.length ≤ 1000 ∧ (s : Int) ∈ ys ∧ ∀ y ∈ ys, Rch ts s y.toNat }
theorem tL_inj {as bs : List (List Int)} (h : tL as = tL bs) : as = bs := tD_inj (congrArg D.tup (D.lst.inj h))
theorem d_closure {f : Addr} {fd : FuncData} (B : Bly mg) (F : Fn K mg "_law_closure" s__law_closure ["turns", "first"] f fd) : Dk P w K mg base "_law_closure" CX0 1 ["turns", "first"] (spW c_clo 2) := by
  refine F.ok sc__law_closure rfl fun cdv A outer s H E as hr ⟨ts, s9, e, lt, ln, rows⟩ _ => ⟨_, (pss_cons (ps_set (i := 2) sc__law_closure.nd rfl (by first | exact Or.inl rfl | exact Or.inr rfl) (pe_lst (pa_cons (pv 1) pa_nil)))
    (pss_cons (ps_for PassesOwn.never rfl (pi_range1 (by rfl) B.rng (pa_cons (pe_callB (call_lenK (K := K) rfl) (by rfl) B.len b_len (pa_cons (pv 0) pa_nil)) pa_nil)) (pg_name (i := 3) sc__law_closure.nd rfl (by first | exact Or.inl rfl | exact Or.inr rfl)) (pss_one (ps_if (pt_cmpR (op_lt.or op_lt_str) (pv 3) (pe_callB (call_lenK (K := K) rfl) (by rfl) B.len b_len (pa_cons (pv 2) pa_nil)) (nomark _)) (pss_one (ps_set (i := 2) sc__law_closure.nd rfl (by first | exact Or.inl rfl | exact Or.inr rfl) (pe_op op_cat (pv 2) (pe_lc (own := [("goal", 4)]) (g := gName 4) (by rfl) sc__law_closure.nd (pi_seq (pe_ix (ix_K (K := K) rfl) (pv 0) (pe_ix (ix_K (K := K) rfl) (pv 2) (pv 3) (fun _ _ => rfl)) (fun _ _ => rfl))) (blkOk_by (N := ["turns", "first", "found", "at", "goal", "standing"]) (sc := defScope s__law_closure) (by decide +kernel)) (fun _ _ _ _ _ => pg_name (i := 4) sc__law_closure.nd rfl (by first | exact Or.inl rfl | exact Or.inr rfl)) (fun _ _ _ _ _ => (pts_one (pt_cmpR (op_notinK (K := K) rfl) (pv 4) (pv 2) (by with_unfolding_all rfl)))) (fun _ _ _ _ _ => (pv 4)))))) pss_nil)))
    (pss_one (ps_ret (pe_callB (cr_sortedK (K := K) rfl) (by rfl) B.srt b_sorted (pa_cons (pe_lc (own := [("standing", 5)]) (g := gName 5) (tt := tYes) (by rfl) sc__law_closure.nd (pi_seq (pv 2)) (blkOk_by (N := ["turns", "first", "found", "at", "goal", "standing"]) (sc := defScope s__law_closure) (by decide +kernel)) (fun _ _ _ _ _ => pg_name (i := 5) sc__law_closure.nd rfl (by first | exact Or.inl rfl | exact Or.inr rfl)) (fun _ _ _ _ _ => pts_nil) (fun _ _ _ _ _ => (pe_callTy call_int1 (by rfl) B.int b_int (pa_cons (pv 5) pa_nil)))) pa_nil)))))), fun T => ?_⟩
  subst e
  repeat (first | with_reducible refine wps_nil ?_ | with_reducible refine wps_seq ?_ | refine wps_ret ?_ | refine wps_if ?_ | refine wps_newl ?_ | refine wps_set ?_ | refine wpt_not ?_ | refine wpt_or ?_ | refine wpt_and ?_ | refine wpt_B ?_ | refine wpt_test ?_ | refine wpe_var rfl ?_ | refine wpe_int ?_ | refine wpe_bl ?_ | refine wpe_str ?_ | refine wpe_non ?_ | refine wpe_ty ?_ | refine wpe_andV ?_ | refine wpe_orV ?_ | refine wpe_notV ?_ | refine wpe_if ?_ | refine wpe_call1 ?_ | refine wpe_call2 ?_ | refine wpe_call3 ?_ | refine wpe_callS rfl ?_ | refine wpe_tupL ?_ | refine wpe_lstL ?_ | refine wpe_call0 ?_ | refine wpe_cb1 ?_ | refine wpe_cb2 ?_ | refine wpe_neg ?_ | refine wpe_slice ?_ | refine wpe_op ?_ | refine wpe_chain ?_ | refine wpo_none ?_ | refine wpo_some ?_ | refine wpl_nil ?_ | refine wpl_cons ?_ | refine wpa_cons ?_ | refine wpi_zipL ?_ | refine wpi_enuT1 ?_ | refine wpi_rng1 ?_ | refine wpi_seq ?_ | refine opd_ix (n := 0) (.inr rfl) rfl rfl ?_ | refine opd_ix (n := 1) (.inr rfl) rfl rfl ?_ | refine opd_ix (n := 2) (.inr rfl) rfl rfl ?_ | refine opd_b ?_ | refine opd_l (opd_b ?_) | refine opd_i ?_ | refine opd_l (opd_eqI ?_) | refine opd_l (opd_neI ?_) | refine opd_l (opd_neS ?_) | refine opd_l (opd_eqS ?_) | refine cbd_l (cbd_len (.inr rfl) ?_) | refine cbd_l (cbd_len (.inl rfl) ?_) | refine cbd_int1 ?_ | refine ite_t ?_ | refine ite_f ?_ | refine ⟨_, rfl, ?_⟩)
  refine ⟨by show 1 ≤ 1000; decide, ?_⟩
  refine wps_seq (wps_for (js := [3]) (wpi_rng1 (wpe_cb1 (wpe_var rfl (cbd_l (cbd_len (.inl rfl) ⟨_, rfl, by omega, by rw [List.length_map]; omega, ?_⟩))))))
  refine ⟨fun i δ' => ∃ (zs : List Int) (x3 x4 x5 : Sl), δ' = [.da (tL ts), .da (.int s9), .da (.lst (zs.map D.int)), x3, x4, x5] ∧ zs.Nodup ∧ InN ts.length zs ∧ (s9 : Int) ∈ zs ∧ ∀ y ∈ zs, Rch ts s9 y.toNat,
    ⟨[(s9 : Int)], .no, .no, .no, rfl, by simp, fun z hz => by simp at hz; omega, by simp, fun y hy => by simp at hy; subst hy; rw [Int.toNat_natCast]; exact .refl⟩, ?_, ?_⟩
  · rintro i d δ' ed ⟨zs, x3, x4, x5, rfl, nd, inn, has, rch⟩
    obtain ⟨rfl, li⟩ := rngD_at ed
    have lz := bound inn nd
    refine wpg_name ?_
    repeat (first | with_reducible refine wps_nil ?_ | with_reducible refine wps_seq ?_ | refine wps_ret ?_ | refine wps_if ?_ | refine wps_newl ?_ | refine wps_set ?_ | refine wpt_not ?_ | refine wpt_or ?_ | refine wpt_and ?_ | refine wpt_B ?_ | refine wpt_test ?_ | refine wpe_var rfl ?_ | refine wpe_int ?_ | refine wpe_bl ?_ | refine wpe_str ?_ | refine wpe_non ?_ | refine wpe_ty ?_ | refine wpe_andV ?_ | refine wpe_orV ?_ | refine wpe_notV ?_ | refine wpe_if ?_ | refine wpe_call1 ?_ | refine wpe_call2 ?_ | refine wpe_call3 ?_ | refine wpe_callS rfl ?_ | refine wpe_tupL ?_ | refine wpe_lstL ?_ | refine wpe_call0 ?_ | refine wpe_cb1 ?_ | refine wpe_cb2 ?_ | refine wpe_neg ?_ | refine wpe_slice ?_ | refine wpe_op ?_ | refine wpe_chain ?_ | refine wpo_none ?_ | refine wpo_some ?_ | refine wpl_nil ?_ | refine wpl_cons ?_ | refine wpa_cons ?_ | refine wpi_zipL ?_ | refine wpi_enuT1 ?_ | refine wpi_rng1 ?_ | refine wpi_seq ?_ | refine opd_ix (n := 0) (.inr rfl) rfl rfl ?_ | refine opd_ix (n := 1) (.inr rfl) rfl rfl ?_ | refine opd_ix (n := 2) (.inr rfl) rfl rfl ?_ | refine opd_b ?_ | refine opd_l (opd_b ?_) | refine opd_i ?_ | refine opd_l (opd_eqI ?_) | refine opd_l (opd_neI ?_) | refine opd_l (opd_neS ?_) | refine opd_l (opd_eqS ?_) | refine cbd_l (cbd_len (.inr rfl) ?_) | refine cbd_l (cbd_len (.inl rfl) ?_) | refine cbd_int1 ?_ | refine ite_t ?_ | refine ite_f ?_ | refine ⟨_, rfl, ?_⟩)
    rw [List.length_map]
    refine ite_b (fun h => ?_) (fun h => ?_)
    · have lt2 : i < zs.length := by have := of_decide_eq_true h; omega
      have eg : zs[i]? = some zs[i] := List.getElem?_eq_getElem lt2
      generalize zs[i] = g at eg
      obtain ⟨g0, g1⟩ := inn g (List.mem_of_getElem? eg)
      have er : ts[g.toNat]? = some ts[g.toNat] := List.getElem?_eq_getElem (by omega)
      generalize ts[g.toNat] = row at er
      obtain ⟨rin, rnd⟩ := rows row (List.mem_of_getElem? er)
      have lrow := bound rin rnd
      refine wps_set (wpe_op (wpe_var rfl ?_))
      refine wpe_lc (js := [4]) (by simp) ?_
      repeat (first | with_reducible refine wps_nil ?_ | with_reducible refine wps_seq ?_ | refine wps_ret ?_ | refine wps_if ?_ | refine wps_newl ?_ | refine wps_set ?_ | refine wpt_not ?_ | refine wpt_or ?_ | refine wpt_and ?_ | refine wpt_B ?_ | refine wpt_test ?_ | refine wpe_var rfl ?_ | refine wpe_int ?_ | refine wpe_bl ?_ | refine wpe_str ?_ | refine wpe_non ?_ | refine wpe_ty ?_ | refine wpe_andV ?_ | refine wpe_orV ?_ | refine wpe_notV ?_ | refine wpe_if ?_ | refine wpe_call1 ?_ | refine wpe_call2 ?_ | refine wpe_call3 ?_ | refine wpe_callS rfl ?_ | refine wpe_tupL ?_ | refine wpe_lstL ?_ | refine wpe_call0 ?_ | refine wpe_cb1 ?_ | refine wpe_cb2 ?_ | refine wpe_neg ?_ | refine wpe_slice ?_ | refine wpe_op ?_ | refine wpe_chain ?_ | refine wpo_none ?_ | refine wpo_some ?_ | refine wpl_nil ?_ | refine wpl_cons ?_ | refine wpa_cons ?_ | refine wpi_zipL ?_ | refine wpi_enuT1 ?_ | refine wpi_rng1 ?_ | refine wpi_seq ?_ | refine opd_ix (n := 0) (.inr rfl) rfl rfl ?_ | refine opd_ix (n := 1) (.inr rfl) rfl rfl ?_ | refine opd_ix (n := 2) (.inr rfl) rfl rfl ?_ | refine opd_b ?_ | refine opd_l (opd_b ?_) | refine opd_i ?_ | refine opd_l (opd_eqI ?_) | refine opd_l (opd_neI ?_) | refine opd_l (opd_neS ?_) | refine opd_l (opd_eqS ?_) | refine cbd_l (cbd_len (.inr rfl) ?_) | refine cbd_l (cbd_len (.inl rfl) ?_) | refine cbd_int1 ?_ | refine ite_t ?_ | refine ite_f ?_ | refine ⟨_, rfl, ?_⟩)
      refine opd_ix (n := i) (.inl rfl) (by omega) (by rw [List.getElem?_map, eg]; rfl) ?_
      refine opd_ix (n := g.toNat) (.inl rfl) (by omega) (by rw [List.getElem?_map, er]; rfl) ?_
      refine ⟨_, .inr rfl, by rw [List.length_map]; omega, ?_⟩
      refine ⟨fun i acc => acc = ((row.take i).filter fun z => !decide (z ∈ zs)).map D.int, rfl, ?_, ?_⟩
      · rintro j d acc ed rfl _
        rw [List.getElem?_map] at ed
        obtain ⟨z, ez, rfl⟩ := Option.map_eq_some_iff.mp ed
        refine wpg_name ?_
        repeat (first | with_reducible refine wps_nil ?_ | with_reducible refine wps_seq ?_ | refine wps_ret ?_ | refine wps_if ?_ | refine wps_newl ?_ | refine wps_set ?_ | refine wpt_not ?_ | refine wpt_or ?_ | refine wpt_and ?_ | refine wpt_B ?_ | refine wpt_test ?_ | refine wpe_var rfl ?_ | refine wpe_int ?_ | refine wpe_bl ?_ | refine wpe_str ?_ | refine wpe_non ?_ | refine wpe_ty ?_ | refine wpe_andV ?_ | refine wpe_orV ?_ | refine wpe_notV ?_ | refine wpe_if ?_ | refine wpe_call1 ?_ | refine wpe_call2 ?_ | refine wpe_call3 ?_ | refine wpe_callS rfl ?_ | refine wpe_tupL ?_ | refine wpe_lstL ?_ | refine wpe_call0 ?_ | refine wpe_cb1 ?_ | refine wpe_cb2 ?_ | refine wpe_neg ?_ | refine wpe_slice ?_ | refine wpe_op ?_ | refine wpe_chain ?_ | refine wpo_none ?_ | refine wpo_some ?_ | refine wpl_nil ?_ | refine wpl_cons ?_ | refine wpa_cons ?_ | refine wpi_zipL ?_ | refine wpi_enuT1 ?_ | refine wpi_rng1 ?_ | refine wpi_seq ?_ | refine opd_ix (n := 0) (.inr rfl) rfl rfl ?_ | refine opd_ix (n := 1) (.inr rfl) rfl rfl ?_ | refine opd_ix (n := 2) (.inr rfl) rfl rfl ?_ | refine opd_b ?_ | refine opd_l (opd_b ?_) | refine opd_i ?_ | refine opd_l (opd_eqI ?_) | refine opd_l (opd_neI ?_) | refine opd_l (opd_neS ?_) | refine opd_l (opd_eqS ?_) | refine cbd_l (cbd_len (.inr rfl) ?_) | refine cbd_l (cbd_len (.inl rfl) ?_) | refine cbd_int1 ?_ | refine ite_t ?_ | refine ite_f ?_ | refine ⟨_, rfl, ?_⟩)
        refine opd_inI (.inl rfl) ⟨_, rfl, ite_b (fun h => ?_) (fun h => ?_)⟩
        · repeat (first | with_reducible refine wps_nil ?_ | with_reducible refine wps_seq ?_ | refine wps_ret ?_ | refine wps_if ?_ | refine wps_newl ?_ | refine wps_set ?_ | refine wpt_not ?_ | refine wpt_or ?_ | refine wpt_and ?_ | refine wpt_B ?_ | refine wpt_test ?_ | refine wpe_var rfl ?_ | refine wpe_int ?_ | refine wpe_bl ?_ | refine wpe_str ?_ | refine wpe_non ?_ | refine wpe_ty ?_ | refine wpe_andV ?_ | refine wpe_orV ?_ | refine wpe_notV ?_ | refine wpe_if ?_ | refine wpe_call1 ?_ | refine wpe_call2 ?_ | refine wpe_call3 ?_ | refine wpe_callS rfl ?_ | refine wpe_tupL ?_ | refine wpe_lstL ?_ | refine wpe_call0 ?_ | refine wpe_cb1 ?_ | refine wpe_cb2 ?_ | refine wpe_neg ?_ | refine wpe_slice ?_ | refine wpe_op ?_ | refine wpe_chain ?_ | refine wpo_none ?_ | refine wpo_some ?_ | refine wpl_nil ?_ | refine wpl_cons ?_ | refine wpa_cons ?_ | refine wpi_zipL ?_ | refine wpi_enuT1 ?_ | refine wpi_rng1 ?_ | refine wpi_seq ?_ | refine opd_ix (n := 0) (.inr rfl) rfl rfl ?_ | refine opd_ix (n := 1) (.inr rfl) rfl rfl ?_ | refine opd_ix (n := 2) (.inr rfl) rfl rfl ?_ | refine opd_b ?_ | refine opd_l (opd_b ?_) | refine opd_i ?_ | refine opd_l (opd_eqI ?_) | refine opd_l (opd_neI ?_) | refine opd_l (opd_neS ?_) | refine opd_l (opd_eqS ?_) | refine cbd_l (cbd_len (.inr rfl) ?_) | refine cbd_l (cbd_len (.inl rfl) ?_) | refine cbd_int1 ?_ | refine ite_t ?_ | refine ite_f ?_ | refine ⟨_, rfl, ?_⟩)
          have h : (!decide (z ∈ zs)) = true := h
          show _ = ((row.take (j + 1)).filter fun z => !decide (z ∈ zs)).map D.int
          rw [List.take_add_one, ez, List.filter_append, List.map_append]
          simp only [Option.toList_some, List.filter_cons, h, if_true, List.filter_nil, List.map_cons, List.map_nil]
        · have h : (!decide (z ∈ zs)) = false := h
          show _ = ((row.take (j + 1)).filter fun z => !decide (z ∈ zs)).map D.int
          rw [List.take_add_one, ez, List.filter_append, List.map_append]
          simp only [Option.toList_some, List.filter_cons, h, List.filter_nil, List.map_nil, List.append_nil]
          simp
      · rintro acc rfl _
        rw [List.length_map, List.take_length]
        have lf := List.length_filter_le (fun z => !decide (z ∈ zs)) row
        refine opd_catL (by rw [List.length_map, List.length_map]; omega) ?_
        rw [← List.map_append]
        refine ⟨_, _, _, _, rfl, ?_, fun z hz => ?_, by simp [has], fun y hy => ?_⟩
        · rw [List.nodup_append]
          refine ⟨nd, rnd.filter _, fun a ha b hb e => ?_⟩
          subst e
          have := (List.mem_filter.mp hb).2
          simp [ha] at this
        · rcases List.mem_append.mp hz with hz | hz
          · exact inn z hz
          · exact rin z (List.mem_filter.mp hz).1
        · rcases List.mem_append.mp hy with hy | hy
          · exact rch y hy
          · have m := (List.mem_filter.mp hy).1
            have := rin y m
            refine .step (rch g (List.mem_of_getElem? eg)) er ?_
            rw [show ((y.toNat : Nat) : Int) = y by omega]
            exact m
    · exact wps_nil ⟨zs, _, _, _, rfl, nd, inn, has, rch⟩
  · rintro δ' ⟨zs, x3, x4, x5, rfl, nd, inn, has, rch⟩
    have lz := bound inn nd
    repeat (first | with_reducible refine wps_nil ?_ | with_reducible refine wps_seq ?_ | refine wps_ret ?_ | refine wps_if ?_ | refine wps_newl ?_ | refine wps_set ?_ | refine wpt_not ?_ | refine wpt_or ?_ | refine wpt_and ?_ | refine wpt_B ?_ | refine wpt_test ?_ | refine wpe_var rfl ?_ | refine wpe_int ?_ | refine wpe_bl ?_ | refine wpe_str ?_ | refine wpe_non ?_ | refine wpe_ty ?_ | refine wpe_andV ?_ | refine wpe_orV ?_ | refine wpe_notV ?_ | refine wpe_if ?_ | refine wpe_call1 ?_ | refine wpe_call2 ?_ | refine wpe_call3 ?_ | refine wpe_callS rfl ?_ | refine wpe_tupL ?_ | refine wpe_lstL ?_ | refine wpe_call0 ?_ | refine wpe_cb1 ?_ | refine wpe_cb2 ?_ | refine wpe_neg ?_ | refine wpe_slice ?_ | refine wpe_op ?_ | refine wpe_chain ?_ | refine wpo_none ?_ | refine wpo_some ?_ | refine wpl_nil ?_ | refine wpl_cons ?_ | refine wpa_cons ?_ | refine wpi_zipL ?_ | refine wpi_enuT1 ?_ | refine wpi_rng1 ?_ | refine wpi_seq ?_ | refine opd_ix (n := 0) (.inr rfl) rfl rfl ?_ | refine opd_ix (n := 1) (.inr rfl) rfl rfl ?_ | refine opd_ix (n := 2) (.inr rfl) rfl rfl ?_ | refine opd_b ?_ | refine opd_l (opd_b ?_) | refine opd_i ?_ | refine opd_l (opd_eqI ?_) | refine opd_l (opd_neI ?_) | refine opd_l (opd_neS ?_) | refine opd_l (opd_eqS ?_) | refine cbd_l (cbd_len (.inr rfl) ?_) | refine cbd_l (cbd_len (.inl rfl) ?_) | refine cbd_int1 ?_ | refine ite_t ?_ | refine ite_f ?_ | refine ⟨_, rfl, ?_⟩)
    refine wpe_map id (by simp) (wpi_seq (wpe_var rfl ⟨_, .inl rfl, by rw [List.length_map]; omega, fun d hd => ?_, ?_⟩))
    · obtain ⟨z, _, rfl⟩ := List.mem_map.mp hd
      repeat (first | with_reducible refine wps_nil ?_ | with_reducible refine wps_seq ?_ | refine wps_ret ?_ | refine wps_if ?_ | refine wps_newl ?_ | refine wps_set ?_ | refine wpt_not ?_ | refine wpt_or ?_ | refine wpt_and ?_ | refine wpt_B ?_ | refine wpt_test ?_ | refine wpe_var rfl ?_ | refine wpe_int ?_ | refine wpe_bl ?_ | refine wpe_str ?_ | refine wpe_non ?_ | refine wpe_ty ?_ | refine wpe_andV ?_ | refine wpe_orV ?_ | refine wpe_notV ?_ | refine wpe_if ?_ | refine wpe_call1 ?_ | refine wpe_call2 ?_ | refine wpe_call3 ?_ | refine wpe_callS rfl ?_ | refine wpe_tupL ?_ | refine wpe_lstL ?_ | refine wpe_call0 ?_ | refine wpe_cb1 ?_ | refine wpe_cb2 ?_ | refine wpe_neg ?_ | refine wpe_slice ?_ | refine wpe_op ?_ | refine wpe_chain ?_ | refine wpo_none ?_ | refine wpo_some ?_ | refine wpl_nil ?_ | refine wpl_cons ?_ | refine wpa_cons ?_ | refine wpi_zipL ?_ | refine wpi_enuT1 ?_ | refine wpi_rng1 ?_ | refine wpi_seq ?_ | refine opd_ix (n := 0) (.inr rfl) rfl rfl ?_ | refine opd_ix (n := 1) (.inr rfl) rfl rfl ?_ | refine opd_ix (n := 2) (.inr rfl) rfl rfl ?_ | refine opd_b ?_ | refine opd_l (opd_b ?_) | refine opd_i ?_ | refine opd_l (opd_eqI ?_) | refine opd_l (opd_neI ?_) | refine opd_l (opd_neS ?_) | refine opd_l (opd_eqS ?_) | refine cbd_l (cbd_len (.inr rfl) ?_) | refine cbd_l (cbd_len (.inl rfl) ?_) | refine cbd_int1 ?_ | refine ite_t ?_ | refine ite_f ?_ | refine ⟨_, rfl, ?_⟩)
      rfl
    · rw [List.map_id]
      refine cbd_sorted fun ys hp hs => ?_
      intro ts' s' e
      obtain ⟨e1, e2⟩ := List.cons.inj e
      obtain ⟨e2, _⟩ := List.cons.inj e2
      obtain rfl := tL_inj (Sl.da.inj e1)
      obtain rfl := Int.ofNat.inj (D.int.inj (Sl.da.inj e2))
      exact ⟨ys, rfl, fun z hz => inn z (hp.mem_iff.mp hz), by rw [hp.length_eq]; omega, hp.mem_iff.mpr has, fun y hy => rch y (hp.mem_iff.mp hy)⟩
end
end Nv
namespace Nv
open PySem PySem.Spec PyProof.Rows L2
mutual
def toPy : D → PyData
  | .non => .none
  | .bl b => .bool b
  | .int i => .int i
  | .str x => .str x
  | .lst ds => .list (toPys ds)
  | .tup ds => .tuple (toPys ds)
  | .dic _ _ => .none
  | .ins _ _ _ => .none
  | .ty _ => .none
def toPys : List D → List PyData
  | [] => []
  | d :: ds => toPy d :: toPys ds
end
mutual
/-- data without dicts, so deep at most -/
def layD : D → Nat → Bool
  | .non, _ => true
  | .bl _, _ => true
  | .int _, _ => true
  | .str x, _ => PyData.strOk x
  | .lst ds, n => decide (1 ≤ n) && layAll ds (n - 1)
  | .tup ds, n => decide (1 ≤ n) && layAll ds (n - 1)
  | .dic _ _, _ => false
  | .ins _ _ _, _ => false
  | .ty _, _ => false
def layAll : List D → Nat → Bool
  | [], _ => true
  | d :: ds, n => layD d n && layAll ds n
end
theorem layAll_of {n : Nat} : ∀ {ds : List D}, (∀ d ∈ ds, layD d n = true) → layAll ds n = true
  | [], _ => rfl
  | d :: ds, h => by
    unfold layAll
    rw [h d (by simp), layAll_of fun e m => h e (by simp [m])]
    rfl
mutual
theorem At.dp {K : PySem.W.Frag} {G H : Hp} (s : Same G H) : ∀ {v : V} {d : D}, At G v d → ∀ n, layD d n = true → Dp K H v (toPy d)
  | _, _, .non, _, _ => .non
  | _, _, .bl b, _, _ => .bl b
  | _, _, .int i, _, _ => .int i
  | _, _, .str x, _, _ => .str x
  | _, _, .lst h t, n, q => by
    unfold layD at q
    rw [Bool.and_eq_true] at q
    exact .lst (sqL_of s h) (AtAll.dp s t _ q.2)
  | _, _, .tup h t, n, q => by
    unfold layD at q
    rw [Bool.and_eq_true] at q
    exact .tup (sqT_of s h) (AtAll.dp s t _ q.2)
  | _, _, .dic _ _, _, q => by unfold layD at q; cases q
  | _, _, .ins _ _, _, q => by unfold layD at q; cases q
  | _, _, .ty _, _, q => by unfold layD at q; cases q
theorem AtAll.dp {K : PySem.W.Frag} {G H : Hp} (s : Same G H) : ∀ {vs : List V} {ds : List D}, AtAll G vs ds → ∀ n, layAll ds n = true → DpAll K H vs (toPys ds)
  | _, _, .nil, _, _ => .nil
  | _, _, .cons a b, n, q => by
    unfold layAll at q
    rw [Bool.and_eq_true] at q
    exact .cons (At.dp s a n q.1) (AtAll.dp s b n q.2)
end
mutual
theorem lay_can : ∀ (d : D) (n : Nat), layD d n = true → (toPy d).canLay0 = true ∧ (toPy d).depth ≤ n
  | .non, n, _ => ⟨rfl, Nat.zero_le _⟩
  | .bl _, n, _ => ⟨rfl, Nat.zero_le _⟩
  | .int _, n, _ => ⟨rfl, Nat.zero_le _⟩
  | .str x, n, q => by
    unfold layD at q
    exact ⟨by unfold toPy PyData.canLay0; exact q, by unfold toPy PyData.depth; exact Nat.zero_le _⟩
  | .lst ds, n, q => by
    unfold layD at q
    rw [Bool.and_eq_true] at q
    obtain ⟨h1, h2⟩ := layAll_can ds _ q.2
    have := of_decide_eq_true q.1
    exact ⟨by unfold toPy PyData.canLay0; exact h1, by unfold toPy PyData.depth; omega⟩
  | .tup ds, n, q => by
    unfold layD at q
    rw [Bool.and_eq_true] at q
    obtain ⟨h1, h2⟩ := layAll_can ds _ q.2
    have := of_decide_eq_true q.1
    exact ⟨by unfold toPy PyData.canLay0; exact h1, by unfold toPy PyData.depth; omega⟩
  | .dic _ _, _, q => by unfold layD at q; cases q
  | .ins _ _ _, _, q => by unfold layD at q; cases q
  | .ty _, _, q => by unfold layD at q; cases q
theorem layAll_can : ∀ (ds : List D) (n : Nat), layAll ds n = true → PyData.canLayAll0 (toPys ds) = true ∧ PyData.depthAll (toPys ds) ≤ n
  | [], n, _ => ⟨by unfold toPys PyData.canLayAll0; rfl, by unfold toPys PyData.depthAll; exact Nat.zero_le _⟩
  | d :: ds, n, q => by
    unfold layAll at q
    rw [Bool.and_eq_true] at q
    obtain ⟨h1, h2⟩ := lay_can d n q.1
    obtain ⟨h3, h4⟩ := layAll_can ds n q.2
    exact ⟨by unfold toPys PyData.canLayAll0; rw [h1, h3]; rfl, by unfold toPys PyData.depthAll; omega⟩
end
theorem shaped_of {d : D} {n : Nat} (h : layD d n = true) (l : n ≤ 64) : SeqAt.shaped (toPy d) = true := by
  obtain ⟨h1, h2⟩ := lay_can d n h
  unfold SeqAt.shaped
  rw [h1, decide_eq_true (by omega)]
  rfl
section
variable {φ : D → Prop} {K : PySem.W.Frag}
theorem opd_neDD {x y : D} {n : Nat} (h1 : layD x n = true) (h2 : layD y n = true) (l : n ≤ 64) (q : φ (.bl (!PyData.eqv (toPy x) (toPy y)))) : OpD (rNeD K) x y φ := fun G H v w s a b Q k =>
  ⟨_, _, a.dp s n h1, b.dp s n h2, shaped_of h1 l, shaped_of h2 l, k _ _ G H .refl s (.bl _) q⟩
theorem opd_eqDD {x y : D} {n : Nat} (h1 : layD x n = true) (h2 : layD y n = true) (l : n ≤ 64) (q : φ (.bl (PyData.eqv (toPy x) (toPy y)))) : OpD (rEqD K) x y φ := fun G H v w s a b Q k =>
  ⟨_, _, a.dp s n h1, b.dp s n h2, shaped_of h1 l, shaped_of h2 l, k _ _ G H .refl s (.bl _) q⟩
end
theorem eqv_self {d : D} {n : Nat} (h : layD d n = true) : PyData.eqv (toPy d) (toPy d) = true := SeqAt.eqv_refl _ (lay_can d n h).1
theorem eqv_nilT {ds : List D} : PyData.eqv (toPy (.tup ds)) (toPy (.tup [])) = ds.isEmpty := by
  cases ds with
  | nil => unfold toPy toPys PyData.eqv PyData.eqvAll; rfl
  | cons d ds => unfold toPy toPys PyData.eqv PyData.eqvAll; rfl
theorem eqv_nilL {ds : List D} : PyData.eqv (toPy (.lst ds)) (toPy (.lst [])) = ds.isEmpty := by
  cases ds with
  | nil => unfold toPy toPys PyData.eqv PyData.eqvAll; rfl
  | cons d ds => unfold toPy toPys PyData.eqv PyData.eqvAll; rfl
theorem lay_ints {zs : List Int} {n : Nat} : layAll (zs.map D.int) n = true := layAll_of fun d hd => by
  obtain ⟨z, _, rfl⟩ := List.mem_map.mp hd
  unfold layD
  rfl
theorem lay_tD {ts : List (List Int)} : layD (tD ts) 4 = true := by
  unfold tD layD
  rw [layAll_of]
  · rfl
  · intro d hd
    obtain ⟨zs, _, rfl⟩ := List.mem_map.mp hd
    unfold layD
    rw [lay_ints]
    rfl
theorem letters_low : letters.cps.toList.all (fun c => decide (c < 0x110000)) = true := by decide +kernel
theorem lay_name {x : Str} (h : isName (.str x) = true) : PyData.strOk x = true := by
  rw [isName_str, Bool.and_eq_true] at h
  unfold PyData.strOk
  rw [← Array.all_toList, List.all_eq_true]
  intro c hc
  have h1 := of_decide_eq_true (List.all_eq_true.mp h.2 c hc)
  exact List.all_eq_true.mp letters_low c h1
theorem lay_ask {n : Int} {d : D} (h : isAsk n d = true) : layD d 4 = true := by
  obtain ⟨x, b, rfl⟩ := ask_pair h
  have h : (isName (.str x) && areAnswers n b) = true := h
  rw [Bool.and_eq_true] at h
  cases b with
  | tup ds =>
    have h2 : (!decide ((ds.length : Int) = 0) && (ds.all (isAnswer n) && ascD (.lst (ds.map fstD)))) = true := h.2
    rw [Bool.and_eq_true, Bool.and_eq_true] at h2
    have hb : layD (.tup ds) 3 = true := by
      unfold layD
      rw [layAll_of]
      · rfl
      · intro d hd
        obtain ⟨i, j, rfl⟩ := ans_pair (List.all_eq_true.mp h2.2.1 d hd)
        rfl
    show (decide (1 ≤ 4) && (layD (.str x) 3 && (layD (.tup ds) 3 && true))) = true
    rw [hb, show layD (.str x) 3 = true from lay_name h.1]
    rfl
  | _ => cases h.2
theorem lay_row {n : Int} {r : D} (h : areAsksOf n r = true) : layD r 5 = true := by
  cases r with
  | tup ds =>
    have h : (decide ((ds.length : Int) ≤ 160) && (ds.all (isAsk n) && ascD (.lst (ds.map fstD)))) = true := h
    rw [Bool.and_eq_true, Bool.and_eq_true] at h
    unfold layD
    rw [layAll_of fun d hd => lay_ask (List.all_eq_true.mp h.2.1 d hd)]
    rfl
  | _ => cases h
theorem lay_asks {n : Int} {a : D} (h : areAsks n a = true) : layD a 6 = true := by
  cases a with
  | tup ds =>
    have h : (decide ((ds.length : Int) = n) && ds.all (areAsksOf n)) = true := h
    rw [Bool.and_eq_true] at h
    unfold layD
    rw [layAll_of fun d hd => lay_row (List.all_eq_true.mp h.2 d hd)]
    rfl
  | _ => cases h
theorem intsD_map {zs : List Int} : intsD (.tup (zs.map D.int)) = zs := by
  show (zs.map D.int).map intOf = zs
  rw [List.map_map]
  exact List.map_id zs
theorem tsOf_tD {ts : List (List Int)} : tsOf (tD ts) = ts := by
  show (ts.map fun zs => D.tup (zs.map D.int)).map intsD = ts
  rw [List.map_map]
  conv => rhs; rw [← List.map_id ts]
  exact List.map_congr_left fun zs _ => intsD_map
theorem turns_row {zs : List Int} {i n : Int} (h1 : zs.Pairwise (· < ·)) (h2 : ∀ z ∈ zs, 0 ≤ z ∧ z < n) (h3 : i ∉ zs) : areTurnsOf (.tup (zs.map D.int)) i n = true := by
  show ((zs.map D.int).all (isIdx n) && ((zipD (zs.map D.int) ((zs.map D.int).drop 1)).all ltP && !decide (i ∈ (zs.map D.int).map intOf))) = true
  rw [show (zs.map D.int).map intOf = zs by rw [List.map_map]; exact List.map_id zs, asc_ints h1, decide_eq_false h3]
  rw [List.all_eq_true.mpr]
  · rfl
  · intro d hd
    obtain ⟨z, m, rfl⟩ := List.mem_map.mp hd
    have := h2 z m
    simp [isIdx, this.1, this.2]
theorem turns_of {ts : List (List Int)} (h : TOk ts) : areTurns (tD ts) = true := by
  show (decide (1 ≤ ((ts.map fun zs => D.tup (zs.map D.int)).length : Int)) && decide (((ts.map fun zs => D.tup (zs.map D.int)).length : Int) ≤ 400) && (enuD (ts.map fun zs => D.tup (zs.map D.int))).all (turnP ((ts.map fun zs => D.tup (zs.map D.int)).length))) = true
  rw [List.length_map]
  have h1 := h.one
  have h2 := h.most
  rw [decide_eq_true (by omega), decide_eq_true (by omega), List.all_eq_true.mpr]
  · rfl
  · intro d hd
    obtain ⟨i, e⟩ := List.mem_iff_getElem?.mp hd
    obtain ⟨x, ex, rfl⟩ := enuD_at e
    rw [List.getElem?_map] at ex
    obtain ⟨zs, ez, rfl⟩ := Option.map_eq_some_iff.mp ex
    obtain ⟨q1, q2, q3⟩ := h.row i zs ez
    exact turns_row q1 q2 q3
/-- a drawn world -/
structure Pl (most : Nat) (ts : List (List Int)) (rows : List D) : Prop where
  t : TOk ts
  a : areAsks ts.length (.tup rows) = true
  h : ∀ k, k < ts.length → Hears ts rows k
  okt : okD (tD ts) = true
  oka : okD (.tup rows) = true
  most : ts.length ≤ most
theorem Hears.mono {ts : List (List Int)} {rs rs' : List D} (m : ∀ k, askB rs k = true → askB rs' k = true) {k : Nat} (h : Hears ts rs k) : Hears ts rs' k := by
  induction h with
  | here h => exact .here (m _ h)
  | turn e q _ ih => exact .turn e q ih
theorem ok_ints {zs : List Int} (l : zs.length ≤ 1000) : okD (.tup (zs.map D.int)) = true := okD_tup (by rw [List.length_map]; exact l) fun d hd => by
  obtain ⟨z, _, rfl⟩ := List.mem_map.mp hd
  rfl
theorem ok_tD {ts : List (List Int)} (l : ts.length ≤ 1000) (h : ∀ zs ∈ ts, zs.length ≤ 1000) : okD (tD ts) = true := okD_tup (by rw [List.length_map]; exact l) fun d hd => by
  obtain ⟨z, m, rfl⟩ := List.mem_map.mp hd
  exact ok_ints (h z m)
section
variable {P : Program} {w : World} {K : PySem.W.Frag} {mg : Str → Option Value} {base : Heap}
abbrev s__law_plain : Stmt := top 38
theorem sc__law_plain : FnScope ["state", "most", "dear", "size", "turns", "asks", "standing", "leads", "heard", "goal", "spot"] ["state", "most", "dear"] (defScope s__law_plain) :=
  ⟨rfl, rfl, rfl, by decide +kernel, rfl, by decide +kernel, by decide +kernel⟩
def c_plain : Spc := spS (fun ds => ∃ m r : Int, ds = [.int m, .int r] ∧ 0 < m ∧ m ≤ 300 ∧ 0 < r ∧ r < 1073741824) fun ds d => ∀ m r, ds = [.int m, .int r] → ∃ ts rows s, d = .tup [tD ts, .tup rows, .int s] ∧ Pl m.toNat ts rows ∧ 0 ≤ s ∧ s < ts.length ∧ ∀ q ∈ rows, SmlR r q ∧ (rowsD q).length ≤ 2
theorem d_plain {f : Addr} {fd : FuncData} (B : Bly mg) (F : Fn K mg "_law_plain" s__law_plain ["state", "most", "dear"] f fd) (D__law_take : Dk P w K mg base "_law_take" CX0 1 ["state", "many"] (spW c_take 2))
    (D__law_some : Dk P w K mg base "_law_some" CX0 2 ["state", "size", "many"] (spW c_some 3)) (D__law_answers : Dk P w K mg base "_law_answers" CX0 3 ["state", "size", "dear"] (spW c_answers 3))
    (D__law_asks : Dk P w K mg base "_law_asks" CX0 4 ["state", "size", "dear", "most"] (spW c_asks 4)) (D__law_closure : Dk P w K mg base "_law_closure" CX0 1 ["turns", "first"] (spW c_clo 2)) :
    Dk P w K mg base "_law_plain" CX0 5 ["state", "most", "dear"] (spW c_plain 3) := by
  refine F.okS sc__law_plain rfl fun cdv A outer s H E a ds hr ⟨m, r, e, m0, m1, r0, r1⟩ _ => ⟨_, (pss_cons (ps_set (i := 3) sc__law_plain.nd rfl (by first | exact Or.inl rfl | exact Or.inr rfl) (pe_op op_add pe_int (pe_callD D__law_take (hr.mono (by decide)) (by rfl) pass0 (pa_cons (pv 0) (pa_cons (pv 1) pa_nil)))))
    (pss_cons (ps_set (i := 4) sc__law_plain.nd rfl (by first | exact Or.inl rfl | exact Or.inr rfl) (pe_lst pa_nil))
    (pss_cons (ps_set (i := 5) sc__law_plain.nd rfl (by first | exact Or.inl rfl | exact Or.inr rfl) (pe_lst pa_nil))
    (pss_cons (ps_for PassesOwn.never rfl (pi_range1 (by rfl) B.rng (pa_cons (pv 3) pa_nil)) (pg_name (i := 6) sc__law_plain.nd rfl (by first | exact Or.inl rfl | exact Or.inr rfl)) (pss_cons (ps_setLc (i := 7) (own := [("goal", 9)]) (g := gName 9) (by rfl) sc__law_plain.nd rfl rfl (sw_true rfl rfl rfl (by decide +kernel)) (pi_seq (pe_callD D__law_some (hr.mono (by decide)) (by rfl) pass0 (pa_cons (pv 0) (pa_cons (pv 3) (pa_cons (pe_callD D__law_take (hr.mono (by decide)) (by rfl) pass0 (pa_cons (pv 0) (pa_cons pe_int pa_nil))) pa_nil))))) (blkOk_by (N := ["state", "most", "dear", "size", "turns", "asks", "standing", "leads", "heard", "goal", "spot"]) (sc := defScope s__law_plain) (by decide +kernel)) (fun _ _ _ _ _ => pg_name (i := 9) sc__law_plain.nd rfl (by first | exact Or.inl rfl | exact Or.inr rfl)) (fun _ _ _ _ _ => (pts_one (pt_cmpR (op_neK (K := K) rfl hr.units) (pv 9) (pv 6) (by with_unfolding_all rfl)))) (fun _ _ _ _ _ => (pv 9)))
      (pss_cons (ps_expr (pe_bm PySem.F.plainAttrs_list PySem.F.slot_list_append PySem.F.type_list_append mt_append (pv 4) (pa_cons (pe_callTy (call_tupleK (K := K) rfl) (by rfl) B.tuple b_tuple (pa_cons (pv 7) pa_nil)) pa_nil)))
      (pss_one (ps_expr (pe_bm PySem.F.plainAttrs_list PySem.F.slot_list_append PySem.F.type_list_append mt_append (pv 5) (pa_cons (pe_callD D__law_asks (hr.mono (by decide)) (by rfl) pass0 (pa_cons (pv 0) (pa_cons (pv 3) (pa_cons (pv 2) (pa_cons pe_int pa_nil))))) pa_nil)))))))
    (pss_cons (ps_for PassesOwn.never rfl (pi_range1 (by rfl) B.rng (pa_cons (pv 3) pa_nil)) (pg_name (i := 6) sc__law_plain.nd rfl (by first | exact Or.inl rfl | exact Or.inr rfl)) (pss_cons (ps_setLc (i := 8) (own := [("spot", 10)]) (g := gName 10) (by rfl) sc__law_plain.nd rfl rfl (sw_true rfl rfl rfl (by decide +kernel)) (pi_seq (pe_callD D__law_closure (hr.mono (by decide)) (by rfl) pass0 (pa_cons (pv 4) (pa_cons (pv 6) pa_nil)))) (blkOk_by (N := ["state", "most", "dear", "size", "turns", "asks", "standing", "leads", "heard", "goal", "spot"]) (sc := defScope s__law_plain) (by decide +kernel)) (fun _ _ _ _ _ => pg_name (i := 10) sc__law_plain.nd rfl (by first | exact Or.inl rfl | exact Or.inr rfl)) (fun _ _ _ _ _ => (pts_one (pt_cmpR (op_neK (K := K) rfl hr.units) (pe_ix (ix_K (K := K) rfl) (pv 5) (pv 10) (fun _ _ => rfl)) (pe_tup pa_nil) (by with_unfolding_all rfl)))) (fun _ _ _ _ _ => (pv 10)))
      (pss_one (ps_if (pt_cmpR (op_eqK (K := K) rfl hr.units) (pv 8) (pe_lst pa_nil) (by with_unfolding_all rfl)) (pss_one (ps_asg (pe_tup (pa_cons (pe_tup (pa_cons pe_str (pa_cons (pe_callD D__law_answers (hr.mono (by decide)) (by rfl) pass0 (pa_cons (pv 0) (pa_cons (pv 3) (pa_cons (pv 2) pa_nil)))) pa_nil))) pa_nil)) (pg_sub (pv 5) (pv 6) set_list))) pss_nil))))
    (pss_one (ps_ret (pe_tup (pa_cons (pe_callTy (call_tupleK (K := K) rfl) (by rfl) B.tuple b_tuple (pa_cons (pv 4) pa_nil)) (pa_cons (pe_callTy (call_tupleK (K := K) rfl) (by rfl) B.tuple b_tuple (pa_cons (pv 5) pa_nil)) (pa_cons (pe_callD D__law_take (hr.mono (by decide)) (by rfl) pass0 (pa_cons (pv 0) (pa_cons (pv 3) pa_nil))) pa_nil))))))))))), fun T => ?_⟩
  subst e
  repeat (first | with_reducible refine wps_nil ?_ | with_reducible refine wps_seq ?_ | refine wps_ret ?_ | refine wps_if ?_ | refine wps_newl ?_ | refine wps_set ?_ | refine wpt_not ?_ | refine wpt_or ?_ | refine wpt_and ?_ | refine wpt_B ?_ | refine wpt_test ?_ | refine wpe_var rfl ?_ | refine wpe_int ?_ | refine wpe_bl ?_ | refine wpe_str ?_ | refine wpe_non ?_ | refine wpe_ty ?_ | refine wpe_andV ?_ | refine wpe_orV ?_ | refine wpe_notV ?_ | refine wpe_if ?_ | refine wpe_call1 ?_ | refine wpe_call2 ?_ | refine wpe_call3 ?_ | refine wpe_callS rfl ?_ | refine wpe_tupL ?_ | refine wpe_lstL ?_ | refine wpe_call0 ?_ | refine wpe_cb1 ?_ | refine wpe_cb2 ?_ | refine wpe_neg ?_ | refine wpe_slice ?_ | refine wpe_op ?_ | refine wpe_chain ?_ | refine wpo_none ?_ | refine wpo_some ?_ | refine wpl_nil ?_ | refine wpl_cons ?_ | refine wpa_cons ?_ | refine wpi_zipL ?_ | refine wpi_enuT1 ?_ | refine wpi_rng1 ?_ | refine wpi_seq ?_ | refine opd_ix (n := 0) (.inr rfl) rfl rfl ?_ | refine opd_ix (n := 1) (.inr rfl) rfl rfl ?_ | refine opd_ix (n := 2) (.inr rfl) rfl rfl ?_ | refine opd_b ?_ | refine opd_l (opd_b ?_) | refine opd_i ?_ | refine opd_l (opd_eqI ?_) | refine opd_l (opd_neI ?_) | refine opd_l (opd_neS ?_) | refine opd_l (opd_eqS ?_) | refine cbd_l (cbd_len (.inr rfl) ?_) | refine cbd_l (cbd_len (.inl rfl) ?_) | refine cbd_int1 ?_ | refine ite_t ?_ | refine ite_f ?_ | refine ⟨_, rfl, ?_⟩)
  refine ⟨rfl, ⟨m, rfl, m0, by omega⟩, fun d hd => ?_⟩
  obtain ⟨k, rfl, k0, k1⟩ := hd _ rfl
  repeat (first | with_reducible refine wps_nil ?_ | with_reducible refine wps_seq ?_ | refine wps_ret ?_ | refine wps_if ?_ | refine wps_newl ?_ | refine wps_set ?_ | refine wpt_not ?_ | refine wpt_or ?_ | refine wpt_and ?_ | refine wpt_B ?_ | refine wpt_test ?_ | refine wpe_var rfl ?_ | refine wpe_int ?_ | refine wpe_bl ?_ | refine wpe_str ?_ | refine wpe_non ?_ | refine wpe_ty ?_ | refine wpe_andV ?_ | refine wpe_orV ?_ | refine wpe_notV ?_ | refine wpe_if ?_ | refine wpe_call1 ?_ | refine wpe_call2 ?_ | refine wpe_call3 ?_ | refine wpe_callS rfl ?_ | refine wpe_tupL ?_ | refine wpe_lstL ?_ | refine wpe_call0 ?_ | refine wpe_cb1 ?_ | refine wpe_cb2 ?_ | refine wpe_neg ?_ | refine wpe_slice ?_ | refine wpe_op ?_ | refine wpe_chain ?_ | refine wpo_none ?_ | refine wpo_some ?_ | refine wpl_nil ?_ | refine wpl_cons ?_ | refine wpa_cons ?_ | refine wpi_zipL ?_ | refine wpi_enuT1 ?_ | refine wpi_rng1 ?_ | refine wpi_seq ?_ | refine opd_ix (n := 0) (.inr rfl) rfl rfl ?_ | refine opd_ix (n := 1) (.inr rfl) rfl rfl ?_ | refine opd_ix (n := 2) (.inr rfl) rfl rfl ?_ | refine opd_b ?_ | refine opd_l (opd_b ?_) | refine opd_i ?_ | refine opd_l (opd_eqI ?_) | refine opd_l (opd_neI ?_) | refine opd_l (opd_neS ?_) | refine opd_l (opd_eqS ?_) | refine cbd_l (cbd_len (.inr rfl) ?_) | refine cbd_l (cbd_len (.inl rfl) ?_) | refine cbd_int1 ?_ | refine ite_t ?_ | refine ite_f ?_ | refine ⟨_, rfl, ?_⟩)
  intro p1
  generalize hn : (1 : Int) + k = n
  refine wps_seq (wps_newl fun p2 => ?_)
  refine wps_seq (wps_for (js := [6]) (wpi_rng1 (wpe_var rfl ⟨n, rfl, by omega, by omega, ?_⟩)))
  refine ⟨fun i δ' => ∃ (ts : List (List Int)) (rs : List D) (x6 x7 : Sl), δ' = [.st a, .da (.int m), .da (.int r), .da (.int n), .ow p1 (ts.map fun zs => .tup (zs.map D.int)), .ow p2 rs, x6, x7, .no, .no, .no] ∧ ts.length = i ∧ rs.length = i ∧
      (∀ (k : Nat) (zs : List Int), ts[k]? = some zs → zs.Pairwise (· < ·) ∧ (∀ z ∈ zs, 0 ≤ z ∧ z < n) ∧ (k : Int) ∉ zs) ∧ ∀ q ∈ rs, areAsksOf n q = true ∧ okD q = true ∧ SmlR r q ∧ (rowsD q).length ≤ 2,
    ⟨[], [], .no, .no, rfl, rfl, rfl, by simp, by simp⟩, ?_, ?_⟩
  · rintro i d δ' ed ⟨ts, rs, x6, x7, rfl, lt, lr, rt, rr⟩
    obtain ⟨rfl, li⟩ := rngD_at ed
    refine wpg_name ?_
    refine wps_seq (wps_set ?_)
    refine wpe_lc (js := [9]) (by simp) ?_
    repeat (first | with_reducible refine wps_nil ?_ | with_reducible refine wps_seq ?_ | refine wps_ret ?_ | refine wps_if ?_ | refine wps_newl ?_ | refine wps_set ?_ | refine wpt_not ?_ | refine wpt_or ?_ | refine wpt_and ?_ | refine wpt_B ?_ | refine wpt_test ?_ | refine wpe_var rfl ?_ | refine wpe_int ?_ | refine wpe_bl ?_ | refine wpe_str ?_ | refine wpe_non ?_ | refine wpe_ty ?_ | refine wpe_andV ?_ | refine wpe_orV ?_ | refine wpe_notV ?_ | refine wpe_if ?_ | refine wpe_call1 ?_ | refine wpe_call2 ?_ | refine wpe_call3 ?_ | refine wpe_callS rfl ?_ | refine wpe_tupL ?_ | refine wpe_lstL ?_ | refine wpe_call0 ?_ | refine wpe_cb1 ?_ | refine wpe_cb2 ?_ | refine wpe_neg ?_ | refine wpe_slice ?_ | refine wpe_op ?_ | refine wpe_chain ?_ | refine wpo_none ?_ | refine wpo_some ?_ | refine wpl_nil ?_ | refine wpl_cons ?_ | refine wpa_cons ?_ | refine wpi_zipL ?_ | refine wpi_enuT1 ?_ | refine wpi_rng1 ?_ | refine wpi_seq ?_ | refine opd_ix (n := 0) (.inr rfl) rfl rfl ?_ | refine opd_ix (n := 1) (.inr rfl) rfl rfl ?_ | refine opd_ix (n := 2) (.inr rfl) rfl rfl ?_ | refine opd_b ?_ | refine opd_l (opd_b ?_) | refine opd_i ?_ | refine opd_l (opd_eqI ?_) | refine opd_l (opd_neI ?_) | refine opd_l (opd_neS ?_) | refine opd_l (opd_eqS ?_) | refine cbd_l (cbd_len (.inr rfl) ?_) | refine cbd_l (cbd_len (.inl rfl) ?_) | refine cbd_int1 ?_ | refine ite_t ?_ | refine ite_f ?_ | refine ⟨_, rfl, ?_⟩)
    refine ⟨rfl, ⟨3, rfl, by decide, by decide⟩, fun d hd => ?_⟩
    obtain ⟨q, rfl, q0, q1⟩ := hd _ rfl
    repeat (first | with_reducible refine wps_nil ?_ | with_reducible refine wps_seq ?_ | refine wps_ret ?_ | refine wps_if ?_ | refine wps_newl ?_ | refine wps_set ?_ | refine wpt_not ?_ | refine wpt_or ?_ | refine wpt_and ?_ | refine wpt_B ?_ | refine wpt_test ?_ | refine wpe_var rfl ?_ | refine wpe_int ?_ | refine wpe_bl ?_ | refine wpe_str ?_ | refine wpe_non ?_ | refine wpe_ty ?_ | refine wpe_andV ?_ | refine wpe_orV ?_ | refine wpe_notV ?_ | refine wpe_if ?_ | refine wpe_call1 ?_ | refine wpe_call2 ?_ | refine wpe_call3 ?_ | refine wpe_callS rfl ?_ | refine wpe_tupL ?_ | refine wpe_lstL ?_ | refine wpe_call0 ?_ | refine wpe_cb1 ?_ | refine wpe_cb2 ?_ | refine wpe_neg ?_ | refine wpe_slice ?_ | refine wpe_op ?_ | refine wpe_chain ?_ | refine wpo_none ?_ | refine wpo_some ?_ | refine wpl_nil ?_ | refine wpl_cons ?_ | refine wpa_cons ?_ | refine wpi_zipL ?_ | refine wpi_enuT1 ?_ | refine wpi_rng1 ?_ | refine wpi_seq ?_ | refine opd_ix (n := 0) (.inr rfl) rfl rfl ?_ | refine opd_ix (n := 1) (.inr rfl) rfl rfl ?_ | refine opd_ix (n := 2) (.inr rfl) rfl rfl ?_ | refine opd_b ?_ | refine opd_l (opd_b ?_) | refine opd_i ?_ | refine opd_l (opd_eqI ?_) | refine opd_l (opd_neI ?_) | refine opd_l (opd_neS ?_) | refine opd_l (opd_eqS ?_) | refine cbd_l (cbd_len (.inr rfl) ?_) | refine cbd_l (cbd_len (.inl rfl) ?_) | refine cbd_int1 ?_ | refine ite_t ?_ | refine ite_f ?_ | refine ⟨_, rfl, ?_⟩)
    refine ⟨rfl, ⟨n, q, rfl, by omega, by omega, by omega, by omega⟩, fun d hd => ?_⟩
    obtain ⟨zs, rfl, asc, inn, lz, nz⟩ := hd n _ rfl
    have lz2 : zs.length ≤ 1000 := by have := len_asc asc inn (by omega); omega
    refine ⟨_, .inl rfl, by rw [List.length_map]; omega, fun j acc => acc = ((zs.take j).filter fun z => !decide (z = 0 + (i : Int))).map D.int, rfl, ?_, ?_⟩
    · rintro j d acc ed rfl _
      rw [List.getElem?_map] at ed
      obtain ⟨z, ez, rfl⟩ := Option.map_eq_some_iff.mp ed
      refine wpg_name ?_
      repeat (first | with_reducible refine wps_nil ?_ | with_reducible refine wps_seq ?_ | refine wps_ret ?_ | refine wps_if ?_ | refine wps_newl ?_ | refine wps_set ?_ | refine wpt_not ?_ | refine wpt_or ?_ | refine wpt_and ?_ | refine wpt_B ?_ | refine wpt_test ?_ | refine wpe_var rfl ?_ | refine wpe_int ?_ | refine wpe_bl ?_ | refine wpe_str ?_ | refine wpe_non ?_ | refine wpe_ty ?_ | refine wpe_andV ?_ | refine wpe_orV ?_ | refine wpe_notV ?_ | refine wpe_if ?_ | refine wpe_call1 ?_ | refine wpe_call2 ?_ | refine wpe_call3 ?_ | refine wpe_callS rfl ?_ | refine wpe_tupL ?_ | refine wpe_lstL ?_ | refine wpe_call0 ?_ | refine wpe_cb1 ?_ | refine wpe_cb2 ?_ | refine wpe_neg ?_ | refine wpe_slice ?_ | refine wpe_op ?_ | refine wpe_chain ?_ | refine wpo_none ?_ | refine wpo_some ?_ | refine wpl_nil ?_ | refine wpl_cons ?_ | refine wpa_cons ?_ | refine wpi_zipL ?_ | refine wpi_enuT1 ?_ | refine wpi_rng1 ?_ | refine wpi_seq ?_ | refine opd_ix (n := 0) (.inr rfl) rfl rfl ?_ | refine opd_ix (n := 1) (.inr rfl) rfl rfl ?_ | refine opd_ix (n := 2) (.inr rfl) rfl rfl ?_ | refine opd_b ?_ | refine opd_l (opd_b ?_) | refine opd_i ?_ | refine opd_l (opd_eqI ?_) | refine opd_l (opd_neI ?_) | refine opd_l (opd_neS ?_) | refine opd_l (opd_eqS ?_) | refine cbd_l (cbd_len (.inr rfl) ?_) | refine cbd_l (cbd_len (.inl rfl) ?_) | refine cbd_int1 ?_ | refine ite_t ?_ | refine ite_f ?_ | refine ⟨_, rfl, ?_⟩)
      refine ite_b (fun h => ?_) (fun h => ?_)
      · repeat (first | with_reducible refine wps_nil ?_ | with_reducible refine wps_seq ?_ | refine wps_ret ?_ | refine wps_if ?_ | refine wps_newl ?_ | refine wps_set ?_ | refine wpt_not ?_ | refine wpt_or ?_ | refine wpt_and ?_ | refine wpt_B ?_ | refine wpt_test ?_ | refine wpe_var rfl ?_ | refine wpe_int ?_ | refine wpe_bl ?_ | refine wpe_str ?_ | refine wpe_non ?_ | refine wpe_ty ?_ | refine wpe_andV ?_ | refine wpe_orV ?_ | refine wpe_notV ?_ | refine wpe_if ?_ | refine wpe_call1 ?_ | refine wpe_call2 ?_ | refine wpe_call3 ?_ | refine wpe_callS rfl ?_ | refine wpe_tupL ?_ | refine wpe_lstL ?_ | refine wpe_call0 ?_ | refine wpe_cb1 ?_ | refine wpe_cb2 ?_ | refine wpe_neg ?_ | refine wpe_slice ?_ | refine wpe_op ?_ | refine wpe_chain ?_ | refine wpo_none ?_ | refine wpo_some ?_ | refine wpl_nil ?_ | refine wpl_cons ?_ | refine wpa_cons ?_ | refine wpi_zipL ?_ | refine wpi_enuT1 ?_ | refine wpi_rng1 ?_ | refine wpi_seq ?_ | refine opd_ix (n := 0) (.inr rfl) rfl rfl ?_ | refine opd_ix (n := 1) (.inr rfl) rfl rfl ?_ | refine opd_ix (n := 2) (.inr rfl) rfl rfl ?_ | refine opd_b ?_ | refine opd_l (opd_b ?_) | refine opd_i ?_ | refine opd_l (opd_eqI ?_) | refine opd_l (opd_neI ?_) | refine opd_l (opd_neS ?_) | refine opd_l (opd_eqS ?_) | refine cbd_l (cbd_len (.inr rfl) ?_) | refine cbd_l (cbd_len (.inl rfl) ?_) | refine cbd_int1 ?_ | refine ite_t ?_ | refine ite_f ?_ | refine ⟨_, rfl, ?_⟩)
        show _ = ((zs.take (j + 1)).filter fun z => !decide (z = 0 + (i : Int))).map D.int
        rw [List.take_add_one, ez, List.filter_append, List.map_append]
        simp only [Option.toList_some, List.filter_cons, h, if_true, List.filter_nil, List.map_cons, List.map_nil]
      · show _ = ((zs.take (j + 1)).filter fun z => !decide (z = 0 + (i : Int))).map D.int
        rw [List.take_add_one, ez, List.filter_append, List.map_append]
        simp only [Option.toList_some, List.filter_cons, h, List.filter_nil, List.map_nil, List.append_nil]
        simp
    · rintro acc rfl _
      rw [List.length_map, List.take_length]
      have lf := List.length_filter_le (fun z => !decide (z = 0 + (i : Int))) zs
      refine wps_seq (wps_append (i := 4) rfl (by rw [List.length_map]; omega) (wpe_cb1 (wpe_var rfl (cbd_tupL ?_))))
      refine wps_append (i := 5) rfl (by omega) ?_
      repeat (first | with_reducible refine wps_nil ?_ | with_reducible refine wps_seq ?_ | refine wps_ret ?_ | refine wps_if ?_ | refine wps_newl ?_ | refine wps_set ?_ | refine wpt_not ?_ | refine wpt_or ?_ | refine wpt_and ?_ | refine wpt_B ?_ | refine wpt_test ?_ | refine wpe_var rfl ?_ | refine wpe_int ?_ | refine wpe_bl ?_ | refine wpe_str ?_ | refine wpe_non ?_ | refine wpe_ty ?_ | refine wpe_andV ?_ | refine wpe_orV ?_ | refine wpe_notV ?_ | refine wpe_if ?_ | refine wpe_call1 ?_ | refine wpe_call2 ?_ | refine wpe_call3 ?_ | refine wpe_callS rfl ?_ | refine wpe_tupL ?_ | refine wpe_lstL ?_ | refine wpe_call0 ?_ | refine wpe_cb1 ?_ | refine wpe_cb2 ?_ | refine wpe_neg ?_ | refine wpe_slice ?_ | refine wpe_op ?_ | refine wpe_chain ?_ | refine wpo_none ?_ | refine wpo_some ?_ | refine wpl_nil ?_ | refine wpl_cons ?_ | refine wpa_cons ?_ | refine wpi_zipL ?_ | refine wpi_enuT1 ?_ | refine wpi_rng1 ?_ | refine wpi_seq ?_ | refine opd_ix (n := 0) (.inr rfl) rfl rfl ?_ | refine opd_ix (n := 1) (.inr rfl) rfl rfl ?_ | refine opd_ix (n := 2) (.inr rfl) rfl rfl ?_ | refine opd_b ?_ | refine opd_l (opd_b ?_) | refine opd_i ?_ | refine opd_l (opd_eqI ?_) | refine opd_l (opd_neI ?_) | refine opd_l (opd_neS ?_) | refine opd_l (opd_eqS ?_) | refine cbd_l (cbd_len (.inr rfl) ?_) | refine cbd_l (cbd_len (.inl rfl) ?_) | refine cbd_int1 ?_ | refine ite_t ?_ | refine ite_f ?_ | refine ⟨_, rfl, ?_⟩)
      refine ⟨rfl, ⟨n, r, 2, rfl, by omega, by omega, r0, r1, by decide, by decide⟩, fun d hd => ?_⟩
      obtain ⟨g1, g2, g3, g4⟩ := hd n r 2 rfl
      refine ⟨ts ++ [zs.filter fun z => !decide (z = 0 + (i : Int))], rs ++ [d], _, _, by rw [List.map_append]; rfl, by rw [List.length_append, lt]; rfl, by rw [List.length_append, lr]; rfl, fun k ys e => ?_, fun q hq => ?_⟩
      · by_cases lk : k < ts.length
        · rw [List.getElem?_append_left lk] at e
          exact rt k ys e
        · have ek : k = ts.length := by
            have := (List.getElem?_eq_some_iff.mp e).1
            rw [List.length_append, List.length_singleton] at this
            omega
          subst ek
          rw [List.getElem?_append_right (Nat.le_refl _), Nat.sub_self] at e
          obtain rfl : zs.filter (fun z => !decide (z = 0 + (i : Int))) = ys := by simpa using e
          refine ⟨asc.filter _, fun z hz => inn z (List.mem_filter.mp hz).1, fun q => ?_⟩
          have := (List.mem_filter.mp q).2
          rw [lt] at this
          simp at this
      · rcases List.mem_append.mp hq with hq | hq
        · exact rr q hq
        · rw [List.mem_singleton] at hq
          subst hq
          exact ⟨g1, g2, g3, by omega⟩
  · rintro δ' ⟨ts, rs, x6, x7, rfl, lt, lr, rt, rr⟩
    rw [rngD_len] at lt lr
    have tok : TOk ts := ⟨by omega, by omega, fun k zs e => by
      obtain ⟨q1, q2, q3⟩ := rt k zs e
      exact ⟨q1, fun z hz => by have := q2 z hz; omega, q3⟩⟩
    have nl : (n : Int) = ts.length := by omega
    refine wps_freeze (i := 4) rfl ?_
    refine wps_seq (wps_for (js := [6]) (wpi_rng1 (wpe_var rfl ⟨n, rfl, by omega, by omega, ?_⟩)))
    refine ⟨fun i δ' => ∃ (rs : List D) (x6 x8 : Sl), δ' = [.st a, .da (.int m), .da (.int r), .da (.int n), .da (tL ts), .ow p2 rs, x6, x7, x8, .no, .no] ∧ rs.length = ts.length ∧ (∀ q ∈ rs, areAsksOf n q = true ∧ okD q = true ∧ SmlR r q ∧ (rowsD q).length ≤ 2) ∧ ∀ k, k < i → Hears ts rs k,
      ⟨rs, _, _, rfl, by omega, rr, by simp⟩, ?_, ?_⟩
    · rintro i d δ' ed ⟨rs, x6, x8, rfl, lr, rr, hk⟩
      obtain ⟨rfl, li⟩ := rngD_at ed
      have rows : ∀ (j : Nat) (q : D), rs[j]? = some q → ∃ es, q = .tup es ∧ askB rs j = !es.isEmpty := fun j q e => by
        have := (rr q (List.mem_of_getElem? e)).1
        cases q with
        | tup es =>
          refine ⟨es, rfl, ?_⟩
          unfold askB
          rw [e]
          cases es <;> rfl
        | _ => cases this
      refine wpg_name ?_
      refine wps_seq (wps_set ?_)
      refine wpe_lc (js := [10]) (by simp) ?_
      repeat (first | with_reducible refine wps_nil ?_ | with_reducible refine wps_seq ?_ | refine wps_ret ?_ | refine wps_if ?_ | refine wps_newl ?_ | refine wps_set ?_ | refine wpt_not ?_ | refine wpt_or ?_ | refine wpt_and ?_ | refine wpt_B ?_ | refine wpt_test ?_ | refine wpe_var rfl ?_ | refine wpe_int ?_ | refine wpe_bl ?_ | refine wpe_str ?_ | refine wpe_non ?_ | refine wpe_ty ?_ | refine wpe_andV ?_ | refine wpe_orV ?_ | refine wpe_notV ?_ | refine wpe_if ?_ | refine wpe_call1 ?_ | refine wpe_call2 ?_ | refine wpe_call3 ?_ | refine wpe_callS rfl ?_ | refine wpe_tupL ?_ | refine wpe_lstL ?_ | refine wpe_call0 ?_ | refine wpe_cb1 ?_ | refine wpe_cb2 ?_ | refine wpe_neg ?_ | refine wpe_slice ?_ | refine wpe_op ?_ | refine wpe_chain ?_ | refine wpo_none ?_ | refine wpo_some ?_ | refine wpl_nil ?_ | refine wpl_cons ?_ | refine wpa_cons ?_ | refine wpi_zipL ?_ | refine wpi_enuT1 ?_ | refine wpi_rng1 ?_ | refine wpi_seq ?_ | refine opd_ix (n := 0) (.inr rfl) rfl rfl ?_ | refine opd_ix (n := 1) (.inr rfl) rfl rfl ?_ | refine opd_ix (n := 2) (.inr rfl) rfl rfl ?_ | refine opd_b ?_ | refine opd_l (opd_b ?_) | refine opd_i ?_ | refine opd_l (opd_eqI ?_) | refine opd_l (opd_neI ?_) | refine opd_l (opd_neS ?_) | refine opd_l (opd_eqS ?_) | refine cbd_l (cbd_len (.inr rfl) ?_) | refine cbd_l (cbd_len (.inl rfl) ?_) | refine cbd_int1 ?_ | refine ite_t ?_ | refine ite_f ?_ | refine ⟨_, rfl, ?_⟩)
      refine wpa_nil ⟨rfl, ⟨ts, i, by rw [Int.zero_add], by omega, by omega, tok.inn⟩, fun d pd => ?_, fun _ _ z => z⟩
      obtain ⟨ys, rfl, yin, ly, hy, ry⟩ := pd ts i (by rw [Int.zero_add])
      refine ⟨_, .inl rfl, by rw [List.length_map]; omega, fun j acc => acc = ((ys.take j).filter fun z => askB rs z.toNat).map D.int, rfl, ?_, ?_⟩
      · rintro j d acc ed rfl _
        rw [List.getElem?_map] at ed
        obtain ⟨z, ez, rfl⟩ := Option.map_eq_some_iff.mp ed
        have hz := yin z (List.mem_of_getElem? ez)
        have eq : rs[z.toNat]? = some rs[z.toNat] := List.getElem?_eq_getElem (by omega)
        generalize rs[z.toNat] = q at eq
        obtain ⟨es, rfl, hb⟩ := rows _ _ eq
        refine wpg_name ?_
        refine wpt_test (wpe_op (wpe_ixO (i := 5) rfl (wpe_var rfl ⟨z.toNat, .tup es, by rw [show ((z.toNat : Nat) : Int) = z by omega], eq, wpe_tupL (wpl_nil ⟨by show 0 ≤ 1000; decide, ?_⟩)⟩)))
        refine opd_r (opd_neDD (n := 5) (lay_row (rr _ (List.mem_of_getElem? eq)).1) rfl (by decide) ?_)
        rw [eqv_nilT, ← hb]
        refine ⟨_, rfl, ite_b (fun h => ?_) (fun h => ?_)⟩
        · repeat (first | with_reducible refine wps_nil ?_ | with_reducible refine wps_seq ?_ | refine wps_ret ?_ | refine wps_if ?_ | refine wps_newl ?_ | refine wps_set ?_ | refine wpt_not ?_ | refine wpt_or ?_ | refine wpt_and ?_ | refine wpt_B ?_ | refine wpt_test ?_ | refine wpe_var rfl ?_ | refine wpe_int ?_ | refine wpe_bl ?_ | refine wpe_str ?_ | refine wpe_non ?_ | refine wpe_ty ?_ | refine wpe_andV ?_ | refine wpe_orV ?_ | refine wpe_notV ?_ | refine wpe_if ?_ | refine wpe_call1 ?_ | refine wpe_call2 ?_ | refine wpe_call3 ?_ | refine wpe_callS rfl ?_ | refine wpe_tupL ?_ | refine wpe_lstL ?_ | refine wpe_call0 ?_ | refine wpe_cb1 ?_ | refine wpe_cb2 ?_ | refine wpe_neg ?_ | refine wpe_slice ?_ | refine wpe_op ?_ | refine wpe_chain ?_ | refine wpo_none ?_ | refine wpo_some ?_ | refine wpl_nil ?_ | refine wpl_cons ?_ | refine wpa_cons ?_ | refine wpi_zipL ?_ | refine wpi_enuT1 ?_ | refine wpi_rng1 ?_ | refine wpi_seq ?_ | refine opd_ix (n := 0) (.inr rfl) rfl rfl ?_ | refine opd_ix (n := 1) (.inr rfl) rfl rfl ?_ | refine opd_ix (n := 2) (.inr rfl) rfl rfl ?_ | refine opd_b ?_ | refine opd_l (opd_b ?_) | refine opd_i ?_ | refine opd_l (opd_eqI ?_) | refine opd_l (opd_neI ?_) | refine opd_l (opd_neS ?_) | refine opd_l (opd_eqS ?_) | refine cbd_l (cbd_len (.inr rfl) ?_) | refine cbd_l (cbd_len (.inl rfl) ?_) | refine cbd_int1 ?_ | refine ite_t ?_ | refine ite_f ?_ | refine ⟨_, rfl, ?_⟩)
          show _ = ((ys.take (j + 1)).filter fun z => askB rs z.toNat).map D.int
          rw [List.take_add_one, ez, List.filter_append, List.map_append]
          simp only [Option.toList_some, List.filter_cons, h, if_true, List.filter_nil, List.map_cons, List.map_nil]
        · show _ = ((ys.take (j + 1)).filter fun z => askB rs z.toNat).map D.int
          rw [List.take_add_one, ez, List.filter_append, List.map_append]
          simp only [Option.toList_some, List.filter_cons, h, List.filter_nil, List.map_nil, List.append_nil]
          simp
      · rintro acc rfl _
        rw [List.length_map, List.take_length]
        refine wps_if (wpt_test (wpe_op (wpe_var rfl (wpe_lstL (wpl_nil ⟨by show 0 ≤ 1000; decide, opd_r (opd_eqDD (n := 5) ?_ rfl (by decide) ?_)⟩)))))
        · unfold layD
          rw [lay_ints]
          rfl
        rw [eqv_nilL]
        refine ⟨_, rfl, ite_b (fun h => ?_) (fun h => ?_)⟩
        · have ena : askB rs i = false := by
            cases q : askB rs i with
            | false => rfl
            | true =>
              have : (i : Int) ∈ ys.filter fun z => askB rs z.toNat := List.mem_filter.mpr ⟨hy, by rw [Int.toNat_natCast]; exact q⟩
              have e9 : (ys.filter fun z => askB rs z.toNat) = [] := by
                rw [List.isEmpty_iff] at h
                exact List.map_eq_nil_iff.mp h
              rw [e9] at this
              exact nomatch this
          refine wps_store (i := 5) rfl ?_
          repeat (first | with_reducible refine wps_nil ?_ | with_reducible refine wps_seq ?_ | refine wps_ret ?_ | refine wps_if ?_ | refine wps_newl ?_ | refine wps_set ?_ | refine wpt_not ?_ | refine wpt_or ?_ | refine wpt_and ?_ | refine wpt_B ?_ | refine wpt_test ?_ | refine wpe_var rfl ?_ | refine wpe_int ?_ | refine wpe_bl ?_ | refine wpe_str ?_ | refine wpe_non ?_ | refine wpe_ty ?_ | refine wpe_andV ?_ | refine wpe_orV ?_ | refine wpe_notV ?_ | refine wpe_if ?_ | refine wpe_call1 ?_ | refine wpe_call2 ?_ | refine wpe_call3 ?_ | refine wpe_callS rfl ?_ | refine wpe_tupL ?_ | refine wpe_lstL ?_ | refine wpe_call0 ?_ | refine wpe_cb1 ?_ | refine wpe_cb2 ?_ | refine wpe_neg ?_ | refine wpe_slice ?_ | refine wpe_op ?_ | refine wpe_chain ?_ | refine wpo_none ?_ | refine wpo_some ?_ | refine wpl_nil ?_ | refine wpl_cons ?_ | refine wpa_cons ?_ | refine wpi_zipL ?_ | refine wpi_enuT1 ?_ | refine wpi_rng1 ?_ | refine wpi_seq ?_ | refine opd_ix (n := 0) (.inr rfl) rfl rfl ?_ | refine opd_ix (n := 1) (.inr rfl) rfl rfl ?_ | refine opd_ix (n := 2) (.inr rfl) rfl rfl ?_ | refine opd_b ?_ | refine opd_l (opd_b ?_) | refine opd_i ?_ | refine opd_l (opd_eqI ?_) | refine opd_l (opd_neI ?_) | refine opd_l (opd_neS ?_) | refine opd_l (opd_eqS ?_) | refine cbd_l (cbd_len (.inr rfl) ?_) | refine cbd_l (cbd_len (.inl rfl) ?_) | refine cbd_int1 ?_ | refine ite_t ?_ | refine ite_f ?_ | refine ⟨_, rfl, ?_⟩)
          refine ⟨rfl, ⟨n, r, rfl, by omega, by omega, r0, r1⟩, fun d hd => ?_⟩
          obtain ⟨g1, g2, g3⟩ := hd n r rfl
          repeat (first | with_reducible refine wps_nil ?_ | with_reducible refine wps_seq ?_ | refine wps_ret ?_ | refine wps_if ?_ | refine wps_newl ?_ | refine wps_set ?_ | refine wpt_not ?_ | refine wpt_or ?_ | refine wpt_and ?_ | refine wpt_B ?_ | refine wpt_test ?_ | refine wpe_var rfl ?_ | refine wpe_int ?_ | refine wpe_bl ?_ | refine wpe_str ?_ | refine wpe_non ?_ | refine wpe_ty ?_ | refine wpe_andV ?_ | refine wpe_orV ?_ | refine wpe_notV ?_ | refine wpe_if ?_ | refine wpe_call1 ?_ | refine wpe_call2 ?_ | refine wpe_call3 ?_ | refine wpe_callS rfl ?_ | refine wpe_tupL ?_ | refine wpe_lstL ?_ | refine wpe_call0 ?_ | refine wpe_cb1 ?_ | refine wpe_cb2 ?_ | refine wpe_neg ?_ | refine wpe_slice ?_ | refine wpe_op ?_ | refine wpe_chain ?_ | refine wpo_none ?_ | refine wpo_some ?_ | refine wpl_nil ?_ | refine wpl_cons ?_ | refine wpa_cons ?_ | refine wpi_zipL ?_ | refine wpi_enuT1 ?_ | refine wpi_rng1 ?_ | refine wpi_seq ?_ | refine opd_ix (n := 0) (.inr rfl) rfl rfl ?_ | refine opd_ix (n := 1) (.inr rfl) rfl rfl ?_ | refine opd_ix (n := 2) (.inr rfl) rfl rfl ?_ | refine opd_b ?_ | refine opd_l (opd_b ?_) | refine opd_i ?_ | refine opd_l (opd_eqI ?_) | refine opd_l (opd_neI ?_) | refine opd_l (opd_neS ?_) | refine opd_l (opd_eqS ?_) | refine cbd_l (cbd_len (.inr rfl) ?_) | refine cbd_l (cbd_len (.inl rfl) ?_) | refine cbd_int1 ?_ | refine ite_t ?_ | refine ite_f ?_ | refine ⟨_, rfl, ?_⟩)
          refine ⟨by show 2 ≤ 1000; decide, ?_⟩
          repeat (first | with_reducible refine wps_nil ?_ | with_reducible refine wps_seq ?_ | refine wps_ret ?_ | refine wps_if ?_ | refine wps_newl ?_ | refine wps_set ?_ | refine wpt_not ?_ | refine wpt_or ?_ | refine wpt_and ?_ | refine wpt_B ?_ | refine wpt_test ?_ | refine wpe_var rfl ?_ | refine wpe_int ?_ | refine wpe_bl ?_ | refine wpe_str ?_ | refine wpe_non ?_ | refine wpe_ty ?_ | refine wpe_andV ?_ | refine wpe_orV ?_ | refine wpe_notV ?_ | refine wpe_if ?_ | refine wpe_call1 ?_ | refine wpe_call2 ?_ | refine wpe_call3 ?_ | refine wpe_callS rfl ?_ | refine wpe_tupL ?_ | refine wpe_lstL ?_ | refine wpe_call0 ?_ | refine wpe_cb1 ?_ | refine wpe_cb2 ?_ | refine wpe_neg ?_ | refine wpe_slice ?_ | refine wpe_op ?_ | refine wpe_chain ?_ | refine wpo_none ?_ | refine wpo_some ?_ | refine wpl_nil ?_ | refine wpl_cons ?_ | refine wpa_cons ?_ | refine wpi_zipL ?_ | refine wpi_enuT1 ?_ | refine wpi_rng1 ?_ | refine wpi_seq ?_ | refine opd_ix (n := 0) (.inr rfl) rfl rfl ?_ | refine opd_ix (n := 1) (.inr rfl) rfl rfl ?_ | refine opd_ix (n := 2) (.inr rfl) rfl rfl ?_ | refine opd_b ?_ | refine opd_l (opd_b ?_) | refine opd_i ?_ | refine opd_l (opd_eqI ?_) | refine opd_l (opd_neI ?_) | refine opd_l (opd_neS ?_) | refine opd_l (opd_eqS ?_) | refine cbd_l (cbd_len (.inr rfl) ?_) | refine cbd_l (cbd_len (.inl rfl) ?_) | refine cbd_int1 ?_ | refine ite_t ?_ | refine ite_f ?_ | refine ⟨_, rfl, ?_⟩)
          refine ⟨by show 1 ≤ 1000; decide, ?_⟩
          repeat (first | with_reducible refine wps_nil ?_ | with_reducible refine wps_seq ?_ | refine wps_ret ?_ | refine wps_if ?_ | refine wps_newl ?_ | refine wps_set ?_ | refine wpt_not ?_ | refine wpt_or ?_ | refine wpt_and ?_ | refine wpt_B ?_ | refine wpt_test ?_ | refine wpe_var rfl ?_ | refine wpe_int ?_ | refine wpe_bl ?_ | refine wpe_str ?_ | refine wpe_non ?_ | refine wpe_ty ?_ | refine wpe_andV ?_ | refine wpe_orV ?_ | refine wpe_notV ?_ | refine wpe_if ?_ | refine wpe_call1 ?_ | refine wpe_call2 ?_ | refine wpe_call3 ?_ | refine wpe_callS rfl ?_ | refine wpe_tupL ?_ | refine wpe_lstL ?_ | refine wpe_call0 ?_ | refine wpe_cb1 ?_ | refine wpe_cb2 ?_ | refine wpe_neg ?_ | refine wpe_slice ?_ | refine wpe_op ?_ | refine wpe_chain ?_ | refine wpo_none ?_ | refine wpo_some ?_ | refine wpl_nil ?_ | refine wpl_cons ?_ | refine wpa_cons ?_ | refine wpi_zipL ?_ | refine wpi_enuT1 ?_ | refine wpi_rng1 ?_ | refine wpi_seq ?_ | refine opd_ix (n := 0) (.inr rfl) rfl rfl ?_ | refine opd_ix (n := 1) (.inr rfl) rfl rfl ?_ | refine opd_ix (n := 2) (.inr rfl) rfl rfl ?_ | refine opd_b ?_ | refine opd_l (opd_b ?_) | refine opd_i ?_ | refine opd_l (opd_eqI ?_) | refine opd_l (opd_neI ?_) | refine opd_l (opd_neS ?_) | refine opd_l (opd_eqS ?_) | refine cbd_l (cbd_len (.inr rfl) ?_) | refine cbd_l (cbd_len (.inl rfl) ?_) | refine cbd_int1 ?_ | refine ite_t ?_ | refine ite_f ?_ | refine ⟨_, rfl, ?_⟩)
          have new : areAsksOf n (.tup [.tup [.str "go", d]]) = true := by
            show (decide (((1 : Nat) : Int) ≤ 160) && ((isName (.str "go") && areAnswers n d) && true && true)) = true
            rw [g1, show isName (.str "go") = true from by decide +kernel]
            rfl
          rw [Nat.zero_add]
          refine ⟨by omega, rs.set i (.tup [.tup [.str "go", d]]), _, _, rfl, by rw [List.length_set]; exact lr, fun q hq => ?_, fun k lk => ?_⟩
          · rcases List.mem_or_eq_of_mem_set hq with hq | rfl
            · exact rr q hq
            · refine ⟨new, okD_tup (by show 1 ≤ 1000; decide) fun e he => ?_, fun a ha => (by
                exact ⟨_, _, List.mem_singleton.mp ha, by decide +kernel, g3⟩), by show 1 ≤ 2; decide⟩
              rw [List.mem_singleton] at he
              subst he
              refine okD_tup (by show 2 ≤ 1000; decide) fun e he => ?_
              rcases List.mem_cons.mp he with rfl | he
              · rfl
              · rw [List.mem_singleton] at he
                rw [he]; exact g2
          · have self : askB (rs.set i (.tup [.tup [.str "go", d]])) i = true := by
              unfold askB
              rw [List.getElem?_set_self (by omega)]
            by_cases e : k = i
            · rw [e]
              exact .here self
            · refine (hk k (by omega)).mono fun j hj => ?_
              by_cases ej : j = i
              · rw [ej]; exact self
              · unfold askB at hj ⊢
                rw [List.getElem?_set_ne (fun q => ej q.symm)]
                exact hj
        · refine wps_nil ⟨rs, _, _, rfl, lr, rr, fun k lk => ?_⟩
          by_cases e : k = i
          · subst e
            have ne : (ys.filter fun z => askB rs z.toNat) ≠ [] := fun q => by rw [q] at h; exact nomatch h
            obtain ⟨z, hz⟩ := List.exists_mem_of_ne_nil _ ne
            obtain ⟨z1, z2⟩ := List.mem_filter.mp hz
            exact (ry z z1).hears (.here z2)
          · exact hk k (by omega)
    · rintro δ' ⟨rs, x6, x8, rfl, lr, rr, hk⟩
      rw [rngD_len] at hk
      refine wps_freeze (i := 5) rfl ?_
      repeat (first | with_reducible refine wps_nil ?_ | with_reducible refine wps_seq ?_ | refine wps_ret ?_ | refine wps_if ?_ | refine wps_newl ?_ | refine wps_set ?_ | refine wpt_not ?_ | refine wpt_or ?_ | refine wpt_and ?_ | refine wpt_B ?_ | refine wpt_test ?_ | refine wpe_var rfl ?_ | refine wpe_int ?_ | refine wpe_bl ?_ | refine wpe_str ?_ | refine wpe_non ?_ | refine wpe_ty ?_ | refine wpe_andV ?_ | refine wpe_orV ?_ | refine wpe_notV ?_ | refine wpe_if ?_ | refine wpe_call1 ?_ | refine wpe_call2 ?_ | refine wpe_call3 ?_ | refine wpe_callS rfl ?_ | refine wpe_tupL ?_ | refine wpe_lstL ?_ | refine wpe_call0 ?_ | refine wpe_cb1 ?_ | refine wpe_cb2 ?_ | refine wpe_neg ?_ | refine wpe_slice ?_ | refine wpe_op ?_ | refine wpe_chain ?_ | refine wpo_none ?_ | refine wpo_some ?_ | refine wpl_nil ?_ | refine wpl_cons ?_ | refine wpa_cons ?_ | refine wpi_zipL ?_ | refine wpi_enuT1 ?_ | refine wpi_rng1 ?_ | refine wpi_seq ?_ | refine opd_ix (n := 0) (.inr rfl) rfl rfl ?_ | refine opd_ix (n := 1) (.inr rfl) rfl rfl ?_ | refine opd_ix (n := 2) (.inr rfl) rfl rfl ?_ | refine opd_b ?_ | refine opd_l (opd_b ?_) | refine opd_i ?_ | refine opd_l (opd_eqI ?_) | refine opd_l (opd_neI ?_) | refine opd_l (opd_neS ?_) | refine opd_l (opd_eqS ?_) | refine cbd_l (cbd_len (.inr rfl) ?_) | refine cbd_l (cbd_len (.inl rfl) ?_) | refine cbd_int1 ?_ | refine ite_t ?_ | refine ite_f ?_ | refine ⟨_, rfl, ?_⟩)
      refine cbd_tupL ?_
      repeat (first | with_reducible refine wps_nil ?_ | with_reducible refine wps_seq ?_ | refine wps_ret ?_ | refine wps_if ?_ | refine wps_newl ?_ | refine wps_set ?_ | refine wpt_not ?_ | refine wpt_or ?_ | refine wpt_and ?_ | refine wpt_B ?_ | refine wpt_test ?_ | refine wpe_var rfl ?_ | refine wpe_int ?_ | refine wpe_bl ?_ | refine wpe_str ?_ | refine wpe_non ?_ | refine wpe_ty ?_ | refine wpe_andV ?_ | refine wpe_orV ?_ | refine wpe_notV ?_ | refine wpe_if ?_ | refine wpe_call1 ?_ | refine wpe_call2 ?_ | refine wpe_call3 ?_ | refine wpe_callS rfl ?_ | refine wpe_tupL ?_ | refine wpe_lstL ?_ | refine wpe_call0 ?_ | refine wpe_cb1 ?_ | refine wpe_cb2 ?_ | refine wpe_neg ?_ | refine wpe_slice ?_ | refine wpe_op ?_ | refine wpe_chain ?_ | refine wpo_none ?_ | refine wpo_some ?_ | refine wpl_nil ?_ | refine wpl_cons ?_ | refine wpa_cons ?_ | refine wpi_zipL ?_ | refine wpi_enuT1 ?_ | refine wpi_rng1 ?_ | refine wpi_seq ?_ | refine opd_ix (n := 0) (.inr rfl) rfl rfl ?_ | refine opd_ix (n := 1) (.inr rfl) rfl rfl ?_ | refine opd_ix (n := 2) (.inr rfl) rfl rfl ?_ | refine opd_b ?_ | refine opd_l (opd_b ?_) | refine opd_i ?_ | refine opd_l (opd_eqI ?_) | refine opd_l (opd_neI ?_) | refine opd_l (opd_neS ?_) | refine opd_l (opd_eqS ?_) | refine cbd_l (cbd_len (.inr rfl) ?_) | refine cbd_l (cbd_len (.inl rfl) ?_) | refine cbd_int1 ?_ | refine ite_t ?_ | refine ite_f ?_ | refine ⟨_, rfl, ?_⟩)
      refine cbd_tupL ?_
      repeat (first | with_reducible refine wps_nil ?_ | with_reducible refine wps_seq ?_ | refine wps_ret ?_ | refine wps_if ?_ | refine wps_newl ?_ | refine wps_set ?_ | refine wpt_not ?_ | refine wpt_or ?_ | refine wpt_and ?_ | refine wpt_B ?_ | refine wpt_test ?_ | refine wpe_var rfl ?_ | refine wpe_int ?_ | refine wpe_bl ?_ | refine wpe_str ?_ | refine wpe_non ?_ | refine wpe_ty ?_ | refine wpe_andV ?_ | refine wpe_orV ?_ | refine wpe_notV ?_ | refine wpe_if ?_ | refine wpe_call1 ?_ | refine wpe_call2 ?_ | refine wpe_call3 ?_ | refine wpe_callS rfl ?_ | refine wpe_tupL ?_ | refine wpe_lstL ?_ | refine wpe_call0 ?_ | refine wpe_cb1 ?_ | refine wpe_cb2 ?_ | refine wpe_neg ?_ | refine wpe_slice ?_ | refine wpe_op ?_ | refine wpe_chain ?_ | refine wpo_none ?_ | refine wpo_some ?_ | refine wpl_nil ?_ | refine wpl_cons ?_ | refine wpa_cons ?_ | refine wpi_zipL ?_ | refine wpi_enuT1 ?_ | refine wpi_rng1 ?_ | refine wpi_seq ?_ | refine opd_ix (n := 0) (.inr rfl) rfl rfl ?_ | refine opd_ix (n := 1) (.inr rfl) rfl rfl ?_ | refine opd_ix (n := 2) (.inr rfl) rfl rfl ?_ | refine opd_b ?_ | refine opd_l (opd_b ?_) | refine opd_i ?_ | refine opd_l (opd_eqI ?_) | refine opd_l (opd_neI ?_) | refine opd_l (opd_neS ?_) | refine opd_l (opd_eqS ?_) | refine cbd_l (cbd_len (.inr rfl) ?_) | refine cbd_l (cbd_len (.inl rfl) ?_) | refine cbd_int1 ?_ | refine ite_t ?_ | refine ite_f ?_ | refine ⟨_, rfl, ?_⟩)
      refine ⟨rfl, ⟨n, rfl, by omega, by omega⟩, fun d hd => ?_⟩
      obtain ⟨z, rfl, z0, z1⟩ := hd _ rfl
      repeat (first | with_reducible refine wps_nil ?_ | with_reducible refine wps_seq ?_ | refine wps_ret ?_ | refine wps_if ?_ | refine wps_newl ?_ | refine wps_set ?_ | refine wpt_not ?_ | refine wpt_or ?_ | refine wpt_and ?_ | refine wpt_B ?_ | refine wpt_test ?_ | refine wpe_var rfl ?_ | refine wpe_int ?_ | refine wpe_bl ?_ | refine wpe_str ?_ | refine wpe_non ?_ | refine wpe_ty ?_ | refine wpe_andV ?_ | refine wpe_orV ?_ | refine wpe_notV ?_ | refine wpe_if ?_ | refine wpe_call1 ?_ | refine wpe_call2 ?_ | refine wpe_call3 ?_ | refine wpe_callS rfl ?_ | refine wpe_tupL ?_ | refine wpe_lstL ?_ | refine wpe_call0 ?_ | refine wpe_cb1 ?_ | refine wpe_cb2 ?_ | refine wpe_neg ?_ | refine wpe_slice ?_ | refine wpe_op ?_ | refine wpe_chain ?_ | refine wpo_none ?_ | refine wpo_some ?_ | refine wpl_nil ?_ | refine wpl_cons ?_ | refine wpa_cons ?_ | refine wpi_zipL ?_ | refine wpi_enuT1 ?_ | refine wpi_rng1 ?_ | refine wpi_seq ?_ | refine opd_ix (n := 0) (.inr rfl) rfl rfl ?_ | refine opd_ix (n := 1) (.inr rfl) rfl rfl ?_ | refine opd_ix (n := 2) (.inr rfl) rfl rfl ?_ | refine opd_b ?_ | refine opd_l (opd_b ?_) | refine opd_i ?_ | refine opd_l (opd_eqI ?_) | refine opd_l (opd_neI ?_) | refine opd_l (opd_neS ?_) | refine opd_l (opd_eqS ?_) | refine cbd_l (cbd_len (.inr rfl) ?_) | refine cbd_l (cbd_len (.inl rfl) ?_) | refine cbd_int1 ?_ | refine ite_t ?_ | refine ite_f ?_ | refine ⟨_, rfl, ?_⟩)
      refine ⟨by show 3 ≤ 1000; decide, fun m' r' e => ?_⟩
      obtain ⟨e1, e2⟩ := List.cons.inj e
      obtain rfl := D.int.inj e1
      obtain rfl := D.int.inj (List.cons.inj e2).1
      refine ⟨ts, rs, z, rfl, ⟨tok, ?_, fun k lk => hk k (by omega), ok_tD (by omega) fun zs hz => ?_, okD_tup (by omega) fun q hq => (rr q hq).2.1, by omega⟩, z0, by omega, fun q hq => (rr q hq).2.2⟩
      · show (decide ((rs.length : Int) = ts.length) && rs.all (areAsksOf ts.length)) = true
        rw [decide_eq_true (by omega), List.all_eq_true.mpr fun q hq => by rw [← nl]; exact (rr q hq).1]
        rfl
      · obtain ⟨h1, h2⟩ := tok.inn zs hz
        have := bound h1 h2
        omega
end
end Nv
namespace Nv
open PySem PySem.Spec PyProof.Rows L2
theorem Vals.rev : ∀ {vs : List V} {us : List Value}, Vals vs us → Vals vs.reverse us.reverse
  | _, _, .nil => .nil
  | _, _, .cons a b => by
    rw [List.reverse_cons, List.reverse_cons]
    exact (Vals.rev b).append (.cons a .nil)
theorem look_what {v : V} : (whatF v).lookup ("what" : Str) = some v := by
  unfold whatF
  simp [List.lookup]
section
variable {P : Program} {w : World} {K : PySem.W.Frag} {mg : Str → Option Value} {base : Heap}
def gC3 : List V → List V → List V := fun vs zs => vs ++ zs
def gC1 : List V → List V → List V := fun vs zs => vs ++ (zs.reverse ++ [.int 0])
theorem kbW3 {f : Addr} {fd : FuncData} (F : FunD K "__init__" "World.__init__" (defArgs s___init__) (defBody s___init__) (defScope s___init__) [] [("start", .int 0)] f fd) :
    KBn K fd ["self", "turns", "asks", "start"] 3 ["start"] (fun us ws => us ++ ws) gC3 := by
  obtain ⟨mv, h⟩ := F.kbinds0 (ps := ["self", "turns", "asks", "start"]) 3 ["start"] [] (fun us _ ws => us ++ ws) (by simp) (by simp) (fun a _ b => a.append b)
    (fun D doc pm an cdv ct us mv ws h1 h2 h3 => match us, mv, ws, h1, h2, h3 with | [_, _, _], [], [_], _, _, _ => rfl)
  exact h
theorem kbW1 {f : Addr} {fd : FuncData} (F : FunD K "__init__" "World.__init__" (defArgs s___init__) (defBody s___init__) (defScope s___init__) [] [("start", .int 0)] f fd) :
    ∃ g, KBn K fd ["self", "turns", "asks", "start"] 1 ["asks", "turns"] g gC1 := by
  obtain ⟨mv, h⟩ := F.kbinds0 (ps := ["self", "turns", "asks", "start"]) 1 ["asks", "turns"] [("start", .int 0)] (fun us mv ws => us ++ (ws.reverse ++ mv)) (by simp) (by simp) (fun a b c => a.append ((Vals.rev c).append b))
    (fun D doc pm an cdv ct us mv ws h1 h2 h3 => match us, mv, ws, h1, h2, h3 with | [_], [_], [_, _], _, _, _ => ⟨_, _, _, _, _, _, rfl, rfl, rfl⟩)
  exact ⟨_, h⟩
end
section
variable {R : Rg} {δ : List Sl} {ta tb tc : TE} {φ : D → Prop} {K : PySem.W.Frag}
theorem world_run {T : Tr} {G H : Hp} {σ : L2.St} {C CB : Addr} {t a s : D} {vt va vz : V} {Q : VK} {E : XK} (en : Ens T G H δ σ) (at1 : At G vt t) (at2 : At G va a) (at3 : At G vz s) (ok1 : okD t = true) (ok2 : okD a = true) (ok3 : plnD s = true)
    (k1 : toldW t a s = "made" → ∀ x G' H', Stp T.S G H G' H' → Ens T G' H' δ σ → At G' (.ref x) (.ins C wN [t, a, s, .int (tsOf t).length]) → Q (.ref x) H')
    (k2 : toldW t a s ≠ "made" → ∀ d G' H', Stp T.S G H G' H' → H' d = some (.xd (whatF (.str (toldW t a s)))) → Same G' H' → StO T.S G' H' → E (.ref CB) (some d) H') :
    ∀ x dx, H x = none → H dx = none → dx ≠ x → spWI C CB [.ref x, vt, va, vz] (upd (upd H dx (.own x)) x (.ins C dx [])) (fun v H3 => v = .non ∧ Q (.ref x) H3) E := fun x dx hx hd ne => by
  have sm : Same H (upd (upd H dx (.own x)) x (.ins C dx [])) := same_new hx hd
  have fx := en.fresh hx
  have fd := en.fresh hd
  have g9 : Stp T.S G H G (upd (upd H dx (.own x)) x (.ins C dx [])) := Stp.grow sm
  have en9 := en.grow sm
  refine ⟨x, dx, T.S, G, t, a, s, vt, va, vz, rfl, upd_same, en9.same, fx.1, en9.stt, at1, at2, at3, ok1, ok2, ok3, fun d G' H' ne' st hd' sm so => k2 ne' d G' H' (g9.trans st) hd' sm so, fun v1 v2 v3 G' H' hm st sm' so' hx' gx' a1 a2 a3 => ⟨rfl, ?_⟩⟩
  have st0 := g9.trans st
  have k : Same G' (upd G' x (.ins C dx (wFs v1 v2 v3 (tsOf t).length))) := same_upd gx'
  have st2 : Stp T.S G H (upd G' x (.ins C dx (wFs v1 v2 v3 (tsOf t).length))) (upd H' x (.ins C dx (wFs v1 v2 v3 (tsOf t).length))) := by
    refine ⟨st0.gs.trans k, fun b u e n => ?_, fun b e => ?_, fun b e1 e2 => ?_⟩
    · rw [upd_ne (ne_of_none e hx)]
      exact st0.hs b u e n
    · by_cases z : b = x
      · rw [z, upd_same]; exact fun q => nomatch q
      · rw [upd_ne z]; exact st0.al b e
    · rw [upd_ne (fun z => e2 (by rw [z]; exact hx))]
      exact st0.gn b e1 e2
  refine k1 hm x _ _ st2 (en.step st2 (fun _ z => z) (upd_same2 sm') fun b hb => ?_) (.ins (fs := wFs v1 v2 v3 (tsOf t).length) upd_same ?_)
  · obtain ⟨g, p, q, r, e⟩ := so' b hb
    have nb : b ≠ x := fun z => fx.2.1 (by rw [← z]; exact hb)
    exact ⟨by rw [upd_ne nb]; exact g, p, q, r, by rw [upd_ne nb]; exact e⟩
  · exact .cons (a1.same k) (.cons (a2.same k) (.cons (a3.same k) (.cons (.int _) .nil)))
theorem wpe_mkW3 {C CB : Addr} {E : XK} (h : WpE R ta δ fun t => WpE R tb δ fun a => WpE R tc δ fun s => okD t = true ∧ okD a = true ∧ plnD s = true ∧ toldW t a s = "made" ∧ φ (.ins C wN [t, a, s, .int (tsOf t).length])) :
    WpE R (tMakeN C 2 1 (spWI C CB) gC3 E (tCons ta (tCons tb tNil)) (tCons tc tNil)) δ φ := fun σ G H en rz Q q =>
  h σ G H en rz _ fun vt t G1 H1 s1 e1 a1 h1 => h1 σ G1 H1 e1 (rz.stepB (s1.toB en.old)) _ fun va a G2 H2 s2 e2 a2 h2 =>
    h2 σ G2 H2 e2 ((rz.stepB (s1.toB en.old)).stepB (s2.toB e1.old)) _ fun vz z G3 H3 s3 e3 a3 ⟨o1, o2, o3, hm, qq⟩ =>
      ⟨rfl, rfl, world_run e3 ((a1.same s2.gs).same s3.gs) (a2.same s3.gs) a3 o1 o2 o3 (fun _ x G' H' st en' at' => q _ _ G' H' (((s1.trans s2).trans s3).trans st) en' at' qq) (fun ne => absurd hm ne)⟩
theorem wpe_mkW1 {C CB : Addr} {E : XK} (h : WpE R ta δ fun a => WpE R tb δ fun t => okD t = true ∧ okD a = true ∧ toldW t a (.int 0) = "made" ∧ φ (.ins C wN [t, a, .int 0, .int (tsOf t).length])) :
    WpE R (tMakeK C 0 2 (spWI C CB) gC1 E tNil (tCons ta (tCons tb tNil))) δ φ := fun σ G H en rz Q q =>
  h σ G H en rz _ fun va a G1 H1 s1 e1 a1 h1 => h1 σ G1 H1 e1 (rz.stepB (s1.toB en.old)) _ fun vt t G2 H2 s2 e2 a2 ⟨o1, o2, hm, qq⟩ =>
      ⟨rfl, rfl, world_run e2 a2 (a1.same s2.gs) (.int 0) o1 o2 rfl (fun _ x G' H' st en' at' => q _ _ G' H' ((s1.trans s2).trans st) en' at' qq) (fun ne => absurd hm ne)⟩
/-- a field of a world -/
theorem wpe_fldW {C : Addr} {x : Str} {i : Nat} (cl : Cls K C) (n1 : NoAttr K C x) (ex : wN[i]? = some x) (h : WpE R ta δ fun y => ∃ ds d, y = .ins C wN ds ∧ ds[i]? = some d ∧ φ d) : WpE R (tFld K ta x) δ φ := fun σ G H en rz Q q =>
  h σ G H en rz _ fun v y G1 H1 s1 e1 a1 ⟨ds, d, e, ed, qd⟩ => by
    subst e
    obtain ⟨p, dx, fs, rfl, hp, en2, al⟩ : ∃ p dx fs, v = .ref p ∧ G1 p = some (.ins C dx fs) ∧ fs.map (·.1) = wN ∧ AtAll G1 (fs.map (·.2)) ds := by
      generalize hn : wN = ns at a1
      cases a1 with
      | ins h t => exact ⟨_, _, _, rfl, h, rfl, t⟩
    obtain ⟨u, eu, au⟩ := al.get ed
    refine ⟨p, C, dx, fs, u, rfl, e1.same _ _ hp, cl, n1, ?_, q u d G1 H1 s1 e1 au qd⟩
    match fs, en2 with
    | [(a, x1), (b, x2), (c, x3), (d, x4)], en2 =>
      simp only [List.map_cons, List.map_nil, wN, List.cons.injEq, and_true] at en2
      obtain ⟨rfl, rfl, rfl, rfl⟩ := en2
      match i, ex with
      | 0, ex =>
        obtain rfl := Option.some.inj ex
        obtain rfl : x1 = u := by simpa using eu
        rfl
      | 1, ex =>
        obtain rfl := Option.some.inj ex
        obtain rfl : x2 = u := by simpa using eu
        rfl
      | 2, ex =>
        obtain rfl := Option.some.inj ex
        obtain rfl : x3 = u := by simpa using eu
        rfl
      | 3, ex =>
        obtain rfl := Option.some.inj ex
        obtain rfl : x4 = u := by simpa using eu
        rfl
      | n + 4, ex => simp [wN] at ex
end
end Nv
namespace Nv
open PySem PySem.Spec PyProof.Rows L2
/-- what a drawn world is: turns, asks, start -/
def PlD (d : D) : Prop := ∃ (ts : List (List Int)) (rows : List D) (s : Int), d = .tup [tD ts, .tup rows, .int s] ∧ Pl 300 ts rows ∧ 0 ≤ s ∧ s < ts.length
theorem made_of {ts : List (List Int)} {rows : List D} {s : Int} (h : TOk ts) (ha : areAsks ts.length (.tup rows) = true) (hh : ∀ k, k < ts.length → Hears ts rows k) (s0 : 0 ≤ s) (s1 : s < ts.length) : toldW (tD ts) (.tup rows) (.int s) = "made" :=
  toldW_made (turns_of h) (by rw [tsOf_tD]; exact ha) (by rw [tsOf_tD]; simp [isIdx, s0, s1]) (by rw [tsOf_tD]; exact hh)
theorem silent_of {ts : List (List Int)} {rows : List D} {s : Int} (h : TOk ts) (ha : areAsks ts.length (.tup rows) = true) (hh : ¬ ∀ k, k < ts.length → Hears ts rows k) (s0 : 0 ≤ s) (s1 : s < ts.length) : toldW (tD ts) (.tup rows) (.int s) = "silent" :=
  toldW_silent (turns_of h) (by rw [tsOf_tD]; exact ha) (by rw [tsOf_tD]; simp [isIdx, s0, s1]) (by rw [tsOf_tD]; exact hh)
theorem start_of {ts : List (List Int)} {rows : List D} {s : D} (h : TOk ts) (ha : areAsks ts.length (.tup rows) = true) (hs : isIdx ts.length s = false) : toldW (tD ts) (.tup rows) s = "start" :=
  toldW_start (turns_of h) (by rw [tsOf_tD]; exact ha) (by rw [tsOf_tD]; exact hs)
theorem asks_of {ts : List (List Int)} {a s : D} (h : TOk ts) (ha : areAsks ts.length a = false) : toldW (tD ts) a s = "asks" :=
  toldW_asks (turns_of h) (by rw [tsOf_tD]; exact ha)
theorem isAnswer_mono {n m : Int} (l : n ≤ m) {d : D} (h : isAnswer n d = true) : isAnswer m d = true := by
  obtain ⟨i, j, rfl⟩ := ans_pair h
  have h : ((decide (0 ≤ i) && decide (i < n)) && decide (j ≥ 0)) = true := h
  show ((decide (0 ≤ i) && decide (i < m)) && decide (j ≥ 0)) = true
  simp only [Bool.and_eq_true, decide_eq_true_eq] at h ⊢
  omega
theorem isAsk_mono {n m : Int} (l : n ≤ m) {d : D} (h : isAsk n d = true) : isAsk m d = true := by
  obtain ⟨x, b, rfl⟩ := ask_pair h
  have h : (isName (.str x) && areAnswers n b) = true := h
  rw [Bool.and_eq_true] at h
  show (isName (.str x) && areAnswers m b) = true
  rw [h.1, Bool.true_and]
  cases b with
  | tup ds =>
    have h2 : (!decide ((ds.length : Int) = 0) && (ds.all (isAnswer n) && ascD (.lst (ds.map fstD)))) = true := h.2
    rw [Bool.and_eq_true, Bool.and_eq_true] at h2
    show (!decide ((ds.length : Int) = 0) && (ds.all (isAnswer m) && ascD (.lst (ds.map fstD)))) = true
    rw [h2.1, h2.2.2, List.all_eq_true.mpr fun d hd => isAnswer_mono l (List.all_eq_true.mp h2.2.1 d hd)]
    rfl
  | _ => cases h.2
theorem row_mono {n m : Int} (l : n ≤ m) {d : D} (h : areAsksOf n d = true) : areAsksOf m d = true := by
  cases d with
  | tup ds =>
    have h : (decide ((ds.length : Int) ≤ 160) && (ds.all (isAsk n) && ascD (.lst (ds.map fstD)))) = true := h
    rw [Bool.and_eq_true, Bool.and_eq_true] at h
    show (decide ((ds.length : Int) ≤ 160) && (ds.all (isAsk m) && ascD (.lst (ds.map fstD)))) = true
    rw [h.1, h.2.2, List.all_eq_true.mpr fun d hd => isAsk_mono l (List.all_eq_true.mp h.2.1 d hd)]
    rfl
  | _ => cases h
section
variable {P : Program} {w : World} {K : PySem.W.Frag} {mg : Str → Option Value} {base : Heap} {C fI fE CB : Addr} {fdI fdE : FuncData}
abbrev s__law_made : Stmt := top 39
theorem sc__law_made : FnScope ["plain"] ["plain"] (defScope s__law_made) :=
  ⟨rfl, rfl, rfl, by decide +kernel, rfl, by decide +kernel, by decide +kernel⟩
def c_made (C : Addr) : Spc := sp1 PlD fun x => match x with
  | .tup [t, a, s] => .ins C wN [t, a, s, .int (tsOf t).length]
  | _ => .non
theorem d_made {f : Addr} {fd : FuncData} (B : Bly mg) (W : TWo K mg C fI fE CB fdI fdE) (GI : FnOk P w K mg base (L2.CX P w) 8 fI fdI ["self", "turns", "asks", "start"] (spWI C CB)) (F : Fn K mg "_law_made" s__law_made ["plain"] f fd) :
    Dk P w K mg base "_law_made" CX0 10 ["plain"] (spW (c_made C) 1) := by
  refine F.ok1 sc__law_made rfl fun cdv A outer s H E x hr ⟨ts, rows, z, e, pl, z0, z1⟩ => ⟨_, (pss_one (ps_ret (pe_makeN W.M GI (hr.mono (by decide)) (by rfl) W.m (kbW3 W.F) passL
    (pa_cons (pe_ix (ix_K (K := K) rfl) (pv 0) pe_int (fun _ _ => rfl)) (pa_cons (pe_ix (ix_K (K := K) rfl) (pv 0) pe_int (fun _ _ => rfl)) pa_nil)) (pk_cons (pe_ix (ix_K (K := K) rfl) (pv 0) pe_int (fun _ _ => rfl)) pk_nil)))), fun T => ?_⟩
  subst e
  refine wps_ret (wpe_mkW3 ?_)
  repeat (first | with_reducible refine wps_nil ?_ | with_reducible refine wps_seq ?_ | refine wps_ret ?_ | refine wps_if ?_ | refine wps_newl ?_ | refine wps_set ?_ | refine wpt_not ?_ | refine wpt_or ?_ | refine wpt_and ?_ | refine wpt_B ?_ | refine wpt_test ?_ | refine wpe_var rfl ?_ | refine wpe_int ?_ | refine wpe_bl ?_ | refine wpe_str ?_ | refine wpe_non ?_ | refine wpe_ty ?_ | refine wpe_andV ?_ | refine wpe_orV ?_ | refine wpe_notV ?_ | refine wpe_if ?_ | refine wpe_call1 ?_ | refine wpe_call2 ?_ | refine wpe_call3 ?_ | refine wpe_callS rfl ?_ | refine wpe_tupL ?_ | refine wpe_lstL ?_ | refine wpe_call0 ?_ | refine wpe_cb1 ?_ | refine wpe_cb2 ?_ | refine wpe_neg ?_ | refine wpe_slice ?_ | refine wpe_op ?_ | refine wpe_chain ?_ | refine wpo_none ?_ | refine wpo_some ?_ | refine wpl_nil ?_ | refine wpl_cons ?_ | refine wpa_cons ?_ | refine wpi_zipL ?_ | refine wpi_enuT1 ?_ | refine wpi_rng1 ?_ | refine wpi_seq ?_ | refine opd_ix (n := 0) (.inr rfl) rfl rfl ?_ | refine opd_ix (n := 1) (.inr rfl) rfl rfl ?_ | refine opd_ix (n := 2) (.inr rfl) rfl rfl ?_ | refine opd_b ?_ | refine opd_l (opd_b ?_) | refine opd_i ?_ | refine opd_l (opd_eqI ?_) | refine opd_l (opd_neI ?_) | refine opd_l (opd_neS ?_) | refine opd_l (opd_eqS ?_) | refine cbd_l (cbd_len (.inr rfl) ?_) | refine cbd_l (cbd_len (.inl rfl) ?_) | refine cbd_int1 ?_ | refine ite_t ?_ | refine ite_f ?_ | refine ⟨_, rfl, ?_⟩)
  exact ⟨pl.okt, pl.oka, rfl, made_of pl.t pl.a pl.h z0 z1, rfl⟩
end
end Nv
namespace Nv
open PySem PySem.Spec PyProof.Rows L2
abbrev s_by_turns : Stmt := inClass (top 18) 3
abbrev s_asked : Stmt := inClass (top 18) 4
abbrev s_reach : Stmt := inClass (top 18) 7
abbrev s__check_standing : Stmt := inClass (top 18) 14
abbrev s__ask_at : Stmt := inClass (top 18) 15
abbrev s__answers_of : Stmt := inClass (top 18) 16
/-- a world of these turns, asks and start -/
structure WdD (C : Addr) (x : D) (ts : List (List Int)) (rows : List D) (s : Int) : Prop where
  e : x = .ins C wN [tD ts, .tup rows, .int s, .int ts.length]
  pl : Pl 400 ts rows
  s0 : 0 ≤ s
  s1 : s < ts.length
theorem WdD.tok {C : Addr} {x : D} {ts : List (List Int)} {rows : List D} {s : Int} (h : WdD C x ts rows s) : TOk ts := h.pl.t
theorem WdD.asks {C : Addr} {x : D} {ts : List (List Int)} {rows : List D} {s : Int} (h : WdD C x ts rows s) : areAsks ts.length (.tup rows) = true := h.pl.a
def sndD : D → D
  | .tup [_, b] => b
  | _ => .non
/-- the next standings of an ask, of a row of asks -/
def goalsA (d : D) : List D := (rowsD (sndD d)).map fstD
def goalsR (r : D) : List D := (rowsD r).flatMap goalsA
def goalsI (r : D) : List Int := (goalsR r).map intOf
/-- the steps of a world -/
def stepsW (ts : List (List Int)) (rows : List D) : List (List Int) := List.zipWith (fun zs r => zs ++ goalsI r) ts rows
section
variable {P : Program} {w : World} {K : PySem.W.Frag} {mg : Str → Option Value} {base : Heap} {C fI fE CB : Addr} {fdI fdE : FuncData}
theorem sc__check_standing : FnScope ["self", "standing"] ["self", "standing"] (defScope s__check_standing) :=
  ⟨rfl, rfl, rfl, by decide +kernel, rfl, by decide +kernel, by decide +kernel⟩
theorem sc_by_turns : FnScope ["self", "standing"] ["self", "standing"] (defScope s_by_turns) :=
  ⟨rfl, rfl, rfl, by decide +kernel, rfl, by decide +kernel, by decide +kernel⟩
theorem sc_reach : FnScope ["self", "standing", "steps", "k"] ["self", "standing"] (defScope s_reach) :=
  ⟨rfl, rfl, rfl, by decide +kernel, rfl, by decide +kernel, by decide +kernel⟩
theorem sc_asked : FnScope ["self", "standing", "ask"] ["self", "standing"] (defScope s_asked) :=
  ⟨rfl, rfl, rfl, by decide +kernel, rfl, by decide +kernel, by decide +kernel⟩
abbrev s_goals_of : Stmt := top 28
theorem sc_goals_of : FnScope ["row", "_", "answers", "goal"] ["row"] (defScope s_goals_of) :=
  ⟨rfl, rfl, rfl, by decide +kernel, rfl, by decide +kernel, by decide +kernel⟩
/-- a world and one of its standings -/
def wdI (C : Addr) (as : List Sl) (ts : List (List Int)) (rows : List D) (i : Nat) : Prop := ∃ x s, as = [.da x, .da (.int i)] ∧ WdD C x ts rows s ∧ i < ts.length
def c_check (C : Addr) : Spc := { pre := fun as => ∃ ts rows i, wdI C as ts rows i, post := fun as d => True }
theorem d_check {f : Addr} {fd : FuncData} (B : Bly mg) (W : TWo K mg C fI fE CB fdI fdE) (F : Mn K C "_check_standing" "World._check_standing" s__check_standing ["self", "standing"] f fd)
    (D_is_index : Dk P w K mg base "is_index" CX0 2 ["value", "size"] (spW c_is_index 2)) : DmX f fd P w K mg base C "_check_standing" CX0 3 ["self", "standing"] (spW (c_check C) 2) := by
  refine F.ok sc__check_standing rfl fun cdv A outer s H E as hr ⟨ts, rows, i, x, s0, e, wd, hi⟩ _ => ?_
  subst e
  obtain rfl := wd.e
  refine ⟨_, (pss_one (ps_if (pt_not (pt_val (pe_callD D_is_index (hr.mono (by decide)) (by rfl) pass0 (pa_cons (pv 1) (pa_cons (pe_fldK (K := K) rfl (pv 0) rfl) pa_nil))))) (pss_one ps_never) pss_nil)), fun T => ?_⟩
  refine wps_if (wpt_not (wpt_test ?_))
  repeat (first | with_reducible refine wps_nil ?_ | with_reducible refine wps_seq ?_ | refine wps_ret ?_ | refine wps_if ?_ | refine wps_newl ?_ | refine wps_set ?_ | refine wpt_not ?_ | refine wpt_or ?_ | refine wpt_and ?_ | refine wpt_B ?_ | refine wpt_test ?_ | refine wpe_var rfl ?_ | refine wpe_int ?_ | refine wpe_bl ?_ | refine wpe_str ?_ | refine wpe_non ?_ | refine wpe_ty ?_ | refine wpe_andV ?_ | refine wpe_orV ?_ | refine wpe_notV ?_ | refine wpe_if ?_ | refine wpe_call1 ?_ | refine wpe_call2 ?_ | refine wpe_call3 ?_ | refine wpe_callS rfl ?_ | refine wpe_tupL ?_ | refine wpe_lstL ?_ | refine wpe_call0 ?_ | refine wpe_cb1 ?_ | refine wpe_cb2 ?_ | refine wpe_neg ?_ | refine wpe_slice ?_ | refine wpe_op ?_ | refine wpe_chain ?_ | refine wpo_none ?_ | refine wpo_some ?_ | refine wpl_nil ?_ | refine wpl_cons ?_ | refine wpa_cons ?_ | refine wpi_zipL ?_ | refine wpi_enuT1 ?_ | refine wpi_rng1 ?_ | refine wpi_seq ?_ | refine opd_ix (n := 0) (.inr rfl) rfl rfl ?_ | refine opd_ix (n := 1) (.inr rfl) rfl rfl ?_ | refine opd_ix (n := 2) (.inr rfl) rfl rfl ?_ | refine opd_b ?_ | refine opd_l (opd_b ?_) | refine opd_i ?_ | refine opd_l (opd_eqI ?_) | refine opd_l (opd_neI ?_) | refine opd_l (opd_neS ?_) | refine opd_l (opd_eqS ?_) | refine cbd_l (cbd_len (.inr rfl) ?_) | refine cbd_l (cbd_len (.inl rfl) ?_) | refine cbd_int1 ?_ | refine ite_t ?_ | refine ite_f ?_ | refine ⟨_, rfl, ?_⟩)
  refine wpe_fldW (i := 3) W.cl W.n4 rfl (wpe_var rfl ⟨_, _, rfl, rfl, ?_⟩)
  repeat (first | with_reducible refine wps_nil ?_ | with_reducible refine wps_seq ?_ | refine wps_ret ?_ | refine wps_if ?_ | refine wps_newl ?_ | refine wps_set ?_ | refine wpt_not ?_ | refine wpt_or ?_ | refine wpt_and ?_ | refine wpt_B ?_ | refine wpt_test ?_ | refine wpe_var rfl ?_ | refine wpe_int ?_ | refine wpe_bl ?_ | refine wpe_str ?_ | refine wpe_non ?_ | refine wpe_ty ?_ | refine wpe_andV ?_ | refine wpe_orV ?_ | refine wpe_notV ?_ | refine wpe_if ?_ | refine wpe_call1 ?_ | refine wpe_call2 ?_ | refine wpe_call3 ?_ | refine wpe_callS rfl ?_ | refine wpe_tupL ?_ | refine wpe_lstL ?_ | refine wpe_call0 ?_ | refine wpe_cb1 ?_ | refine wpe_cb2 ?_ | refine wpe_neg ?_ | refine wpe_slice ?_ | refine wpe_op ?_ | refine wpe_chain ?_ | refine wpo_none ?_ | refine wpo_some ?_ | refine wpl_nil ?_ | refine wpl_cons ?_ | refine wpa_cons ?_ | refine wpi_zipL ?_ | refine wpi_enuT1 ?_ | refine wpi_rng1 ?_ | refine wpi_seq ?_ | refine opd_ix (n := 0) (.inr rfl) rfl rfl ?_ | refine opd_ix (n := 1) (.inr rfl) rfl rfl ?_ | refine opd_ix (n := 2) (.inr rfl) rfl rfl ?_ | refine opd_b ?_ | refine opd_l (opd_b ?_) | refine opd_i ?_ | refine opd_l (opd_eqI ?_) | refine opd_l (opd_neI ?_) | refine opd_l (opd_neS ?_) | refine opd_l (opd_eqS ?_) | refine cbd_l (cbd_len (.inr rfl) ?_) | refine cbd_l (cbd_len (.inl rfl) ?_) | refine cbd_int1 ?_ | refine ite_t ?_ | refine ite_f ?_ | refine ⟨_, rfl, ?_⟩)
  refine ⟨⟨rfl, _, rfl⟩, _, rfl, ite_b (fun h => ?_) (fun h => ?_)⟩
  · exfalso
    have : isIdx (intOf (.int ts.length)) (.int i) = true := by
      show (decide ((0 : Int) ≤ i) && decide ((i : Int) < ts.length)) = true
      rw [decide_eq_true (by omega), decide_eq_true (by omega)]
      rfl
    rw [this] at h
    cases h
  · exact wps_nil trivial
def c_by_turns (C : Addr) : Spc := { pre := fun as => ∃ ts rows i, wdI C as ts rows i, post := fun as d => ∀ ts rows i, wdI C as ts rows i → ∃ ys, d = .lst (ys.map D.int) ∧ Comes [(i : Int)] ts ys }
theorem wd_uniq {as : List Sl} {ts us : List (List Int)} {rs ss : List D} {i j : Nat} (h : wdI C as ts rs i) (g : wdI C as us ss j) : ts = us ∧ rs = ss ∧ i = j := by
  obtain ⟨x, s, e1, w1, _⟩ := h
  obtain ⟨y, z, e2, w2, _⟩ := g
  rw [e1] at e2
  obtain ⟨h1, h2⟩ := List.cons.inj e2
  obtain ⟨h2, _⟩ := List.cons.inj h2
  have hx := Sl.da.inj h1
  rw [w1.e, w2.e] at hx
  obtain ⟨_, _, hl⟩ := D.ins.inj hx
  obtain ⟨a1, hl⟩ := List.cons.inj hl
  obtain ⟨a2, hl⟩ := List.cons.inj hl
  exact ⟨tD_inj a1, D.tup.inj a2, Int.ofNat.inj (D.int.inj (Sl.da.inj h2))⟩
theorem steps_tD {ts : List (List Int)} : StepsD (tD ts) ts := ⟨_, .inr rfl, by rw [List.length_map], fun i r zs e1 e2 => by
  rw [List.getElem?_map, e2] at e1
  obtain rfl := Option.some.inj e1
  exact .inr rfl⟩
theorem d_by_turns {f : Addr} {fd : FuncData} (B : Bly mg) (W : TWo K mg C fI fE CB fdI fdE) (F : Mn K C "by_turns" "World.by_turns" s_by_turns ["self", "standing"] f fd)
    (M__check_standing : Dm P w K mg base C "_check_standing" CX0 3 ["self", "standing"] (spW (c_check C) 2))
    (D_come_to : Dk P w K mg base "come_to" CX0 1 ["starts", "steps"] (spW c_come_to 2)) : DmX f fd P w K mg base C "by_turns" CX0 4 ["self", "standing"] (spW (c_by_turns C) 2) := by
  refine F.ok sc_by_turns rfl fun cdv A outer s H E as hr ⟨ts, rows, i, hw⟩ _ => ?_
  have hw' := hw
  obtain ⟨x, s0, e, wd, hi⟩ := hw
  subst e
  obtain rfl := wd.e
  refine ⟨_, (pss_cons (ps_expr (pe_methD (pv 0) W.cl M__check_standing (hr.mono (by decide)) pass0 (pa_cons (pv 1) pa_nil)))
    (pss_one (ps_ret (pe_callD D_come_to (hr.mono (by decide)) (by rfl) pass0 (pa_cons (pe_lst (pa_cons (pv 1) pa_nil)) (pa_cons (pe_fldK (K := K) rfl (pv 0) rfl) pa_nil)))))), fun T => ?_⟩
  refine wps_seq (wps_drop (wpe_meth (by decide +kernel) (wpe_var rfl ⟨⟨_, rfl⟩, wpa_cons (wpe_var rfl (wpa_nil ⟨rfl, ⟨_, _, _, hw'⟩, fun _ _ => ?_, fun _ _ z => z⟩))⟩)))
  repeat (first | with_reducible refine wps_nil ?_ | with_reducible refine wps_seq ?_ | refine wps_ret ?_ | refine wps_if ?_ | refine wps_newl ?_ | refine wps_set ?_ | refine wpt_not ?_ | refine wpt_or ?_ | refine wpt_and ?_ | refine wpt_B ?_ | refine wpt_test ?_ | refine wpe_var rfl ?_ | refine wpe_int ?_ | refine wpe_bl ?_ | refine wpe_str ?_ | refine wpe_non ?_ | refine wpe_ty ?_ | refine wpe_andV ?_ | refine wpe_orV ?_ | refine wpe_notV ?_ | refine wpe_if ?_ | refine wpe_call1 ?_ | refine wpe_call2 ?_ | refine wpe_call3 ?_ | refine wpe_callS rfl ?_ | refine wpe_tupL ?_ | refine wpe_lstL ?_ | refine wpe_call0 ?_ | refine wpe_cb1 ?_ | refine wpe_cb2 ?_ | refine wpe_neg ?_ | refine wpe_slice ?_ | refine wpe_op ?_ | refine wpe_chain ?_ | refine wpo_none ?_ | refine wpo_some ?_ | refine wpl_nil ?_ | refine wpl_cons ?_ | refine wpa_cons ?_ | refine wpi_zipL ?_ | refine wpi_enuT1 ?_ | refine wpi_rng1 ?_ | refine wpi_seq ?_ | refine opd_ix (n := 0) (.inr rfl) rfl rfl ?_ | refine opd_ix (n := 1) (.inr rfl) rfl rfl ?_ | refine opd_ix (n := 2) (.inr rfl) rfl rfl ?_ | refine opd_b ?_ | refine opd_l (opd_b ?_) | refine opd_i ?_ | refine opd_l (opd_eqI ?_) | refine opd_l (opd_neI ?_) | refine opd_l (opd_neS ?_) | refine opd_l (opd_eqS ?_) | refine cbd_l (cbd_len (.inr rfl) ?_) | refine cbd_l (cbd_len (.inl rfl) ?_) | refine cbd_int1 ?_ | refine ite_t ?_ | refine ite_f ?_ | refine ⟨_, rfl, ?_⟩)
  refine ⟨by show 1 ≤ 1000; decide, ?_⟩
  refine wpa_cons (wpe_fldW (i := 0) W.cl W.n1 rfl (wpe_var rfl ⟨_, _, rfl, rfl, wpa_nil ?_⟩))
  have inn := wd.tok.inn
  refine ⟨rfl, ⟨[(i : Int)], _, ts, rfl, steps_tD, by have := wd.tok.most; omega, fun z hz => ?_, by simp, fun zs hz => ⟨(inn zs hz).1, ?_⟩⟩, fun d hd => ?_, fun _ _ z => z⟩
  · rw [List.mem_singleton] at hz
    subst hz
    exact ⟨by omega, by omega⟩
  · have := bound (inn zs hz).1 (inn zs hz).2
    have := wd.tok.most
    omega
  · intro us ss j g
    obtain ⟨rfl, rfl, rfl⟩ := wd_uniq hw' g
    exact hd _ _ _ rfl steps_tD
end
end Nv
namespace Nv
open PySem PySem.Spec PyProof.Rows L2
/-- an answer, an ask, a row of asks, said by their parts -/
def AnsD (n : Int) (d : D) : Prop := ∃ g q : Int, d = .tup [.int g, .int q] ∧ 0 ≤ g ∧ g < n ∧ 0 ≤ q
def AskD (n : Int) (d : D) : Prop := ∃ (x : Str) (as : List D), d = .tup [.str x, .tup as] ∧ isName (.str x) = true ∧ as ≠ [] ∧ (∀ a ∈ as, AnsD n a) ∧ (as.map fun a => intOf (fstD a)).Pairwise (· < ·)
theorem ans_of {n : Int} {d : D} (h : isAnswer n d = true) : AnsD n d := by
  obtain ⟨i, j, rfl⟩ := ans_pair h
  have h' : ((decide ((0 : Int) ≤ i) && decide (i < n)) && decide (j ≥ 0)) = true := h
  simp only [Bool.and_eq_true, decide_eq_true_eq] at h'
  exact ⟨i, j, rfl, h'.1.1, h'.1.2, h'.2⟩
theorem asc_ints' {zs : List Int} (h : ascD (.lst (zs.map D.int)) = true) : zs.Pairwise (· < ·) := asc_pair h
theorem ask_of {n : Int} {d : D} (h : isAsk n d = true) : AskD n d := by
  obtain ⟨x, b, rfl⟩ := ask_pair h
  have h' : (isName (.str x) && areAnswers n b) = true := h
  rw [Bool.and_eq_true] at h'
  obtain ⟨h1, h2⟩ := h'
  obtain ⟨as, rfl⟩ : ∃ as, b = .tup as := by
    cases b <;> first | exact ⟨_, rfl⟩ | cases h2
  have h3 : (!decide ((as.length : Int) = 0) && (as.all (isAnswer n) && ascD (.lst (as.map fstD)))) = true := h2
  simp only [Bool.and_eq_true, Bool.not_eq_true', decide_eq_false_iff_not] at h3
  obtain ⟨h4, h5, h6⟩ := h3
  have al : ∀ a ∈ as, AnsD n a := fun a ha => ans_of (List.all_eq_true.mp h5 a ha)
  refine ⟨x, as, rfl, h1, fun z => h4 (by rw [z]; rfl), al, asc_ints' ?_⟩
  rw [List.map_map]
  rw [show as.map (D.int ∘ fun a => intOf (fstD a)) = as.map fstD from List.map_congr_left fun a ha => by
    obtain ⟨g, q, rfl, _⟩ := al a ha
    rfl]
  exact h6
theorem row_of {n : Int} {r : D} (h : areAsksOf n r = true) : ∃ asks, r = .tup asks ∧ asks.length ≤ 160 ∧ ∀ a ∈ asks, AskD n a := by
  obtain ⟨as, rfl⟩ : ∃ as, r = .tup as := by
    cases r <;> first | exact ⟨_, rfl⟩ | cases h
  have h3 : (decide ((as.length : Int) ≤ 160) && (as.all (isAsk n) && ascD (.lst (as.map fstD)))) = true := h
  simp only [Bool.and_eq_true, decide_eq_true_eq] at h3
  exact ⟨as, rfl, by omega, fun a ha => ask_of (List.all_eq_true.mp h3.2.1 a ha)⟩
theorem goalsA_int {n : Int} {d : D} (h : AskD n d) : ∀ g ∈ goalsA d, ∃ z : Int, g = .int z ∧ 0 ≤ z ∧ z < n := by
  obtain ⟨x, as, rfl, _, _, al, _⟩ := h
  intro g hg
  obtain ⟨a, ha, rfl⟩ := List.mem_map.mp (show g ∈ as.map fstD from hg)
  obtain ⟨z, q, rfl, z0, z1, _⟩ := al a ha
  exact ⟨z, rfl, z0, z1⟩
theorem goalsR_int {n : Int} {r : D} (h : areAsksOf n r = true) : ∀ g ∈ goalsR r, ∃ z : Int, g = .int z ∧ 0 ≤ z ∧ z < n := by
  obtain ⟨asks, rfl, _, al⟩ := row_of h
  intro g hg
  obtain ⟨a, ha, hg⟩ := List.mem_flatMap.mp (show g ∈ asks.flatMap goalsA from hg)
  exact goalsA_int (al a ha) g hg
theorem goalsR_eq {n : Int} {r : D} (h : areAsksOf n r = true) : goalsR r = (goalsI r).map D.int := by
  unfold goalsI
  rw [List.map_map]
  refine (List.map_id _).symm.trans (List.map_congr_left fun g hg => ?_)
  obtain ⟨z, rfl, _⟩ := goalsR_int h g hg
  rfl
theorem goalsI_in {n : Nat} {r : D} (h : areAsksOf n r = true) : InN n (goalsI r) := fun z hz => by
  obtain ⟨g, hg, rfl⟩ := List.mem_map.mp (show z ∈ (goalsR r).map intOf from hz)
  obtain ⟨z, rfl, a, b⟩ := goalsR_int h g hg
  exact ⟨a, b⟩
section
variable {P : Program} {w : World} {K : PySem.W.Frag} {mg : Str → Option Value} {base : Heap} {C fI fE CB : Addr} {fdI fdE : FuncData}
def c_goals_of : Spc := sp1 (fun x => ∃ n : Int, areAsksOf n x = true ∧ (goalsR x).length ≤ 100000) fun x => .tup (goalsR x)
theorem d_goals_of {f : Addr} {fd : FuncData} (B : Bly mg) (F : Fn K mg "goals_of" s_goals_of ["row"] f fd) : Dk P w K mg base "goals_of" CX0 1 ["row"] (spW c_goals_of 1) := by
  refine F.ok1 sc_goals_of rfl fun cdv A outer s H E x hr ⟨n, ha, hl⟩ => ⟨_, (pss_one (ps_ret (pe_callTy (call_tupleK (K := K) rfl) (by rfl) B.tuple b_tuple (pa_cons (pe_lc2 (own := [("_", 1), ("answers", 2), ("goal", 3)]) (vs1 := [3, 1]) (g := gTup K 2 (gCons (gName 1) (gCons (gName 2) gNil))) (g1 := gTup K 2 (gCons (gName 3) (gCons (gName 1) gNil))) (tt := tYes) (tt1 := tYes) (by rfl) sc_goals_of.nd (pi_seq (pv 0)) (blkOk_by (N := ["row", "_", "answers", "goal"]) (sc := defScope s_goals_of) (by decide +kernel)) (by simp) (fun _ _ _ _ _ => pg_tup rfl (pgs_cons (pg_name (i := 1) sc_goals_of.nd rfl (by first | exact Or.inl rfl | exact Or.inr rfl)) (pgs_cons (pg_name (i := 2) sc_goals_of.nd rfl (by first | exact Or.inl rfl | exact Or.inr rfl)) pgs_nil))) (fun _ _ _ _ _ => pts_nil) (fun _ _ _ _ _ => (pi_seqK (K := K) rfl (pv 2))) (fun _ _ _ _ _ => pg_tup rfl (pgs_cons (pg_name (i := 3) sc_goals_of.nd rfl (by first | exact Or.inl rfl | exact Or.inr rfl)) (pgs_cons (pg_name (i := 1) sc_goals_of.nd rfl (by first | exact Or.inl rfl | exact Or.inr rfl)) pgs_nil))) (fun _ _ _ _ _ => pts_nil) (fun _ _ _ _ _ => (pv 3))) pa_nil)))), fun T => ?_⟩
  obtain ⟨asks, rfl, _, al⟩ := row_of ha
  repeat (first | with_reducible refine wps_nil ?_ | with_reducible refine wps_seq ?_ | refine wps_ret ?_ | refine wps_if ?_ | refine wps_newl ?_ | refine wps_set ?_ | refine wpt_not ?_ | refine wpt_or ?_ | refine wpt_and ?_ | refine wpt_B ?_ | refine wpt_test ?_ | refine wpe_var rfl ?_ | refine wpe_int ?_ | refine wpe_bl ?_ | refine wpe_str ?_ | refine wpe_non ?_ | refine wpe_ty ?_ | refine wpe_andV ?_ | refine wpe_orV ?_ | refine wpe_notV ?_ | refine wpe_if ?_ | refine wpe_call1 ?_ | refine wpe_call2 ?_ | refine wpe_call3 ?_ | refine wpe_callS rfl ?_ | refine wpe_tupL ?_ | refine wpe_lstL ?_ | refine wpe_call0 ?_ | refine wpe_cb1 ?_ | refine wpe_cb2 ?_ | refine wpe_neg ?_ | refine wpe_slice ?_ | refine wpe_op ?_ | refine wpe_chain ?_ | refine wpo_none ?_ | refine wpo_some ?_ | refine wpl_nil ?_ | refine wpl_cons ?_ | refine wpa_cons ?_ | refine wpi_zipL ?_ | refine wpi_enuT1 ?_ | refine wpi_rng1 ?_ | refine wpi_seq ?_ | refine opd_ix (n := 0) (.inr rfl) rfl rfl ?_ | refine opd_ix (n := 1) (.inr rfl) rfl rfl ?_ | refine opd_ix (n := 2) (.inr rfl) rfl rfl ?_ | refine opd_b ?_ | refine opd_l (opd_b ?_) | refine opd_i ?_ | refine opd_l (opd_eqI ?_) | refine opd_l (opd_neI ?_) | refine opd_l (opd_neS ?_) | refine opd_l (opd_eqS ?_) | refine cbd_l (cbd_len (.inr rfl) ?_) | refine cbd_l (cbd_len (.inl rfl) ?_) | refine cbd_int1 ?_ | refine ite_t ?_ | refine ite_f ?_ | refine ⟨_, rfl, ?_⟩)
  refine wpe_lc2 (js := [1, 2]) (js1 := [3, 1]) goalsA fstD (by simp) (by simp) ?_
  repeat (first | with_reducible refine wps_nil ?_ | with_reducible refine wps_seq ?_ | refine wps_ret ?_ | refine wps_if ?_ | refine wps_newl ?_ | refine wps_set ?_ | refine wpt_not ?_ | refine wpt_or ?_ | refine wpt_and ?_ | refine wpt_B ?_ | refine wpt_test ?_ | refine wpe_var rfl ?_ | refine wpe_int ?_ | refine wpe_bl ?_ | refine wpe_str ?_ | refine wpe_non ?_ | refine wpe_ty ?_ | refine wpe_andV ?_ | refine wpe_orV ?_ | refine wpe_notV ?_ | refine wpe_if ?_ | refine wpe_call1 ?_ | refine wpe_call2 ?_ | refine wpe_call3 ?_ | refine wpe_callS rfl ?_ | refine wpe_tupL ?_ | refine wpe_lstL ?_ | refine wpe_call0 ?_ | refine wpe_cb1 ?_ | refine wpe_cb2 ?_ | refine wpe_neg ?_ | refine wpe_slice ?_ | refine wpe_op ?_ | refine wpe_chain ?_ | refine wpo_none ?_ | refine wpo_some ?_ | refine wpl_nil ?_ | refine wpl_cons ?_ | refine wpa_cons ?_ | refine wpi_zipL ?_ | refine wpi_enuT1 ?_ | refine wpi_rng1 ?_ | refine wpi_seq ?_ | refine opd_ix (n := 0) (.inr rfl) rfl rfl ?_ | refine opd_ix (n := 1) (.inr rfl) rfl rfl ?_ | refine opd_ix (n := 2) (.inr rfl) rfl rfl ?_ | refine opd_b ?_ | refine opd_l (opd_b ?_) | refine opd_i ?_ | refine opd_l (opd_eqI ?_) | refine opd_l (opd_neI ?_) | refine opd_l (opd_neS ?_) | refine opd_l (opd_eqS ?_) | refine cbd_l (cbd_len (.inr rfl) ?_) | refine cbd_l (cbd_len (.inl rfl) ?_) | refine cbd_int1 ?_ | refine ite_t ?_ | refine ite_f ?_ | refine ⟨_, rfl, ?_⟩)
  refine ⟨_, .inr rfl, by have : asks.flatMap goalsA = goalsR (.tup asks) := rfl; rw [this]; omega, fun d hd => ?_, cbd_tupL rfl⟩
  obtain ⟨x, as, rfl, _, _, aa, _⟩ := al d hd
  refine wpg_pair ⟨_, _, rfl, ⟨fun i a ds => ?_, fun i a ds => ?_⟩, ?_⟩
  · match i with
    | 0 | 1 | 2 | 3 => simp [wipeD]
    | n + 4 => simp [wipeD]
  · match i with
    | 0 | 1 | 2 | 3 => simp [wipeD]
    | n + 4 => simp [wipeD]
  · repeat (first | with_reducible refine wps_nil ?_ | with_reducible refine wps_seq ?_ | refine wps_ret ?_ | refine wps_if ?_ | refine wps_newl ?_ | refine wps_set ?_ | refine wpt_not ?_ | refine wpt_or ?_ | refine wpt_and ?_ | refine wpt_B ?_ | refine wpt_test ?_ | refine wpe_var rfl ?_ | refine wpe_int ?_ | refine wpe_bl ?_ | refine wpe_str ?_ | refine wpe_non ?_ | refine wpe_ty ?_ | refine wpe_andV ?_ | refine wpe_orV ?_ | refine wpe_notV ?_ | refine wpe_if ?_ | refine wpe_call1 ?_ | refine wpe_call2 ?_ | refine wpe_call3 ?_ | refine wpe_callS rfl ?_ | refine wpe_tupL ?_ | refine wpe_lstL ?_ | refine wpe_call0 ?_ | refine wpe_cb1 ?_ | refine wpe_cb2 ?_ | refine wpe_neg ?_ | refine wpe_slice ?_ | refine wpe_op ?_ | refine wpe_chain ?_ | refine wpo_none ?_ | refine wpo_some ?_ | refine wpl_nil ?_ | refine wpl_cons ?_ | refine wpa_cons ?_ | refine wpi_zipL ?_ | refine wpi_enuT1 ?_ | refine wpi_rng1 ?_ | refine wpi_seq ?_ | refine opd_ix (n := 0) (.inr rfl) rfl rfl ?_ | refine opd_ix (n := 1) (.inr rfl) rfl rfl ?_ | refine opd_ix (n := 2) (.inr rfl) rfl rfl ?_ | refine opd_b ?_ | refine opd_l (opd_b ?_) | refine opd_i ?_ | refine opd_l (opd_eqI ?_) | refine opd_l (opd_neI ?_) | refine opd_l (opd_neS ?_) | refine opd_l (opd_eqS ?_) | refine cbd_l (cbd_len (.inr rfl) ?_) | refine cbd_l (cbd_len (.inl rfl) ?_) | refine cbd_int1 ?_ | refine ite_t ?_ | refine ite_f ?_ | refine ⟨_, rfl, ?_⟩)
    refine ⟨_, .inr rfl, rfl, fun e he => ?_⟩
    obtain ⟨g, q, rfl, _⟩ := aa e he
    refine wpg_pair ⟨_, _, rfl, ?_⟩
    repeat (first | with_reducible refine wps_nil ?_ | with_reducible refine wps_seq ?_ | refine wps_ret ?_ | refine wps_if ?_ | refine wps_newl ?_ | refine wps_set ?_ | refine wpt_not ?_ | refine wpt_or ?_ | refine wpt_and ?_ | refine wpt_B ?_ | refine wpt_test ?_ | refine wpe_var rfl ?_ | refine wpe_int ?_ | refine wpe_bl ?_ | refine wpe_str ?_ | refine wpe_non ?_ | refine wpe_ty ?_ | refine wpe_andV ?_ | refine wpe_orV ?_ | refine wpe_notV ?_ | refine wpe_if ?_ | refine wpe_call1 ?_ | refine wpe_call2 ?_ | refine wpe_call3 ?_ | refine wpe_callS rfl ?_ | refine wpe_tupL ?_ | refine wpe_lstL ?_ | refine wpe_call0 ?_ | refine wpe_cb1 ?_ | refine wpe_cb2 ?_ | refine wpe_neg ?_ | refine wpe_slice ?_ | refine wpe_op ?_ | refine wpe_chain ?_ | refine wpo_none ?_ | refine wpo_some ?_ | refine wpl_nil ?_ | refine wpl_cons ?_ | refine wpa_cons ?_ | refine wpi_zipL ?_ | refine wpi_enuT1 ?_ | refine wpi_rng1 ?_ | refine wpi_seq ?_ | refine opd_ix (n := 0) (.inr rfl) rfl rfl ?_ | refine opd_ix (n := 1) (.inr rfl) rfl rfl ?_ | refine opd_ix (n := 2) (.inr rfl) rfl rfl ?_ | refine opd_b ?_ | refine opd_l (opd_b ?_) | refine opd_i ?_ | refine opd_l (opd_eqI ?_) | refine opd_l (opd_neI ?_) | refine opd_l (opd_neS ?_) | refine opd_l (opd_eqS ?_) | refine cbd_l (cbd_len (.inr rfl) ?_) | refine cbd_l (cbd_len (.inl rfl) ?_) | refine cbd_int1 ?_ | refine ite_t ?_ | refine ite_f ?_ | refine ⟨_, rfl, ?_⟩)
    rfl
def c_reach (C : Addr) : Spc := { pre := fun as => ∃ ts rows i, wdI C as ts rows i ∧ ∀ zs ∈ stepsW ts rows, zs.length ≤ 100000, post := fun as d => ∀ ts rows i, wdI C as ts rows i → ∃ ys, d = .lst (ys.map D.int) ∧ Comes [(i : Int)] (stepsW ts rows) ys }
theorem asks_row {n : Nat} {rows : List D} (h : areAsks n (.tup rows) = true) : rows.length = n ∧ ∀ r ∈ rows, areAsksOf n r = true := by
  have h3 : (decide ((rows.length : Int) = n) && rows.all (areAsksOf n)) = true := h
  simp only [Bool.and_eq_true, decide_eq_true_eq] at h3
  exact ⟨by omega, fun r hr => List.all_eq_true.mp h3.2 r hr⟩
theorem stepsW_len {ts : List (List Int)} {rows : List D} (h : rows.length = ts.length) : (stepsW ts rows).length = ts.length := by
  unfold stepsW
  rw [List.length_zipWith, h, Nat.min_self]
theorem stepsW_get {ts : List (List Int)} {rows : List D} {k : Nat} {zs : List Int} {r : D} (h1 : ts[k]? = some zs) (h2 : rows[k]? = some r) : (stepsW ts rows)[k]? = some (zs ++ goalsI r) := by
  unfold stepsW
  rw [List.getElem?_zipWith, h1, h2]
def stepD (ts : List (List Int)) (rows : List D) (d : D) : D := .tup (((stepsW ts rows).getD (intOf d).toNat []).map D.int)
theorem d_reach {f : Addr} {fd : FuncData} (B : Bly mg) (W : TWo K mg C fI fE CB fdI fdE) (F : Mn K C "reach" "World.reach" s_reach ["self", "standing"] f fd)
    (M__check_standing : Dm P w K mg base C "_check_standing" CX0 3 ["self", "standing"] (spW (c_check C) 2)) (D_goals_of : Dk P w K mg base "goals_of" CX0 1 ["row"] (spW c_goals_of 1))
    (D_come_to : Dk P w K mg base "come_to" CX0 1 ["starts", "steps"] (spW c_come_to 2)) : DmX f fd P w K mg base C "reach" CX0 4 ["self", "standing"] (spW (c_reach C) 2) := by
  refine F.ok sc_reach rfl fun cdv A outer s H E as hr ⟨ts, rows, i, hw, hl⟩ _ => ?_
  have hw' := hw
  obtain ⟨x, s0, e, wd, hi⟩ := hw
  subst e
  obtain rfl := wd.e
  obtain ⟨rl, ra⟩ := asks_row wd.asks
  have sl := stepsW_len rl
  have inn := wd.tok.inn
  have most := wd.tok.most
  refine ⟨_, (pss_cons (ps_expr (pe_methD (pv 0) W.cl M__check_standing (hr.mono (by decide)) pass0 (pa_cons (pv 1) pa_nil)))
    (pss_cons (ps_setLc (i := 2) (own := [("k", 3)]) (g := gName 3) (tt := tYes) (by rfl) sc_reach.nd rfl rfl (sw_true rfl rfl rfl (by decide +kernel)) (pi_range1 (by rfl) B.rng (pa_cons (pe_fldK (K := K) rfl (pv 0) rfl) pa_nil)) (blkOk_by (N := ["self", "standing", "steps", "k"]) (sc := defScope s_reach) (by decide +kernel)) (fun _ _ _ _ _ => pg_name (i := 3) sc_reach.nd rfl (by first | exact Or.inl rfl | exact Or.inr rfl)) (fun _ _ _ _ _ => pts_nil) (fun _ _ _ _ _ => (pe_op (op_catK (K := K) rfl) (pe_ix (ix_K (K := K) rfl) (pe_fldK (K := K) rfl (pv 0) rfl) (pv 3) (fun _ _ => rfl)) (pe_callD D_goals_of (hr.mono (by decide)) (by rfl) pass0 (pa_cons (pe_ix (ix_K (K := K) rfl) (pe_fldK (K := K) rfl (pv 0) rfl) (pv 3) (fun _ _ => rfl)) pa_nil)))))
    (pss_one (ps_ret (pe_callD D_come_to (hr.mono (by decide)) (by rfl) pass0 (pa_cons (pe_lst (pa_cons (pv 1) pa_nil)) (pa_cons (pv 2) pa_nil))))))), fun T => ?_⟩
  refine wps_seq (wps_drop (wpe_meth (by decide +kernel) (wpe_var rfl ⟨⟨_, rfl⟩, wpa_cons (wpe_var rfl (wpa_nil ⟨rfl, ⟨_, _, _, hw'⟩, fun _ _ => ?_, fun _ _ z => z⟩))⟩)))
  refine wps_seq (wps_set (wpe_map (stepD ts rows) (by simp) (wpi_rng1 (wpe_fldW (i := 3) W.cl W.n4 rfl (wpe_var rfl ⟨_, _, rfl, rfl, _, rfl, by omega, by omega, by rw [rngD_len]; omega, fun d hd => ?_, ?_⟩)))))
  · obtain ⟨k, ed⟩ := List.mem_iff_getElem?.mp hd
    have lk : k < ts.length := by
      have := (List.getElem?_eq_some_iff.mp ed).1
      rw [rngD_len] at this
      omega
    rw [rngD_get (by omega)] at ed
    obtain rfl : D.int ((0 : Int) + k) = d := Option.some.inj ed
    have et : ts[k]? = some ts[k] := List.getElem?_eq_getElem lk
    have er : rows[k]? = some rows[k] := List.getElem?_eq_getElem (by omega)
    generalize ts[k] = zs at et
    generalize rows[k] = r at er
    have sg := stepsW_get et er
    have rr := ra r (List.mem_of_getElem? er)
    have ll := hl _ (List.mem_of_getElem? sg)
    rw [List.length_append] at ll
    refine wpe_op (wpe_op (wpe_fldW (i := 0) W.cl W.n1 rfl (wpe_var rfl ⟨_, _, rfl, rfl, wpe_var rfl (opd_ix (n := k) (.inr rfl) (by omega) (by rw [List.getElem?_map, et]; rfl) ?_)⟩)))
    refine wpe_call1 (wpe_op (wpe_fldW (i := 1) W.cl W.n2 rfl (wpe_var rfl ⟨_, _, rfl, rfl, wpe_var rfl (opd_ix (n := k) (.inr rfl) (by omega) er ?_)⟩)))
    rw [goalsR_eq rr]
    refine ⟨⟨_, rr, by rw [List.length_map]; omega⟩, opd_catT (by rw [List.length_map, List.length_map]; omega) ?_⟩
    unfold stepD
    rw [show (intOf (.int ((0 : Int) + k))).toNat = k from by show ((0 : Int) + k).toNat = k; omega, List.getD_eq_getElem?_getD, sg]
    rw [← List.map_append]
    rfl
  · repeat (first | with_reducible refine wps_nil ?_ | with_reducible refine wps_seq ?_ | refine wps_ret ?_ | refine wps_if ?_ | refine wps_newl ?_ | refine wps_set ?_ | refine wpt_not ?_ | refine wpt_or ?_ | refine wpt_and ?_ | refine wpt_B ?_ | refine wpt_test ?_ | refine wpe_var rfl ?_ | refine wpe_int ?_ | refine wpe_bl ?_ | refine wpe_str ?_ | refine wpe_non ?_ | refine wpe_ty ?_ | refine wpe_andV ?_ | refine wpe_orV ?_ | refine wpe_notV ?_ | refine wpe_if ?_ | refine wpe_call1 ?_ | refine wpe_call2 ?_ | refine wpe_call3 ?_ | refine wpe_callS rfl ?_ | refine wpe_tupL ?_ | refine wpe_lstL ?_ | refine wpe_call0 ?_ | refine wpe_cb1 ?_ | refine wpe_cb2 ?_ | refine wpe_neg ?_ | refine wpe_slice ?_ | refine wpe_op ?_ | refine wpe_chain ?_ | refine wpo_none ?_ | refine wpo_some ?_ | refine wpl_nil ?_ | refine wpl_cons ?_ | refine wpa_cons ?_ | refine wpi_zipL ?_ | refine wpi_enuT1 ?_ | refine wpi_rng1 ?_ | refine wpi_seq ?_ | refine opd_ix (n := 0) (.inr rfl) rfl rfl ?_ | refine opd_ix (n := 1) (.inr rfl) rfl rfl ?_ | refine opd_ix (n := 2) (.inr rfl) rfl rfl ?_ | refine opd_b ?_ | refine opd_l (opd_b ?_) | refine opd_i ?_ | refine opd_l (opd_eqI ?_) | refine opd_l (opd_neI ?_) | refine opd_l (opd_neS ?_) | refine opd_l (opd_eqS ?_) | refine cbd_l (cbd_len (.inr rfl) ?_) | refine cbd_l (cbd_len (.inl rfl) ?_) | refine cbd_int1 ?_ | refine ite_t ?_ | refine ite_f ?_ | refine ⟨_, rfl, ?_⟩)
    refine ⟨by show 1 ≤ 1000; decide, ?_⟩
    refine wpa_cons (wpe_var rfl (wpa_nil ?_))
    have sd : StepsD (.lst ((rngD 0 (ts.length : Int).toNat).map (stepD ts rows))) (stepsW ts rows) := by
      refine ⟨_, .inl rfl, by rw [List.length_map, rngD_len]; omega, fun j r zs e1 e2 => ?_⟩
      have lj : j < ts.length := by
        have := (List.getElem?_eq_some_iff.mp e2).1
        omega
      rw [List.getElem?_map, rngD_get (by omega)] at e1
      obtain rfl := Option.some.inj e1
      right
      unfold stepD
      rw [show (intOf (.int ((0 : Int) + j))).toNat = j from by show ((0 : Int) + j).toNat = j; omega, List.getD_eq_getElem?_getD, e2]
      rfl
    refine ⟨rfl, ⟨[(i : Int)], _, stepsW ts rows, rfl, sd, by omega, fun z hz => ?_, by simp, fun zs hz => ⟨?_, hl zs hz⟩⟩, fun d hd => ?_, fun _ _ z => z⟩
    · rw [List.mem_singleton] at hz
      subst hz
      exact ⟨by omega, by omega⟩
    · obtain ⟨k, ek⟩ := List.mem_iff_getElem?.mp hz
      have lk : k < ts.length := by
        have := (List.getElem?_eq_some_iff.mp ek).1
        omega
      have et : ts[k]? = some ts[k] := List.getElem?_eq_getElem lk
      have er : rows[k]? = some rows[k] := List.getElem?_eq_getElem (by omega)
      rw [stepsW_get et er] at ek
      obtain rfl := Option.some.inj ek
      intro z hz
      rw [sl]
      rcases List.mem_append.mp hz with hz | hz
      · exact (inn _ (List.mem_of_getElem? et)).1 z hz
      · exact goalsI_in (ra _ (List.mem_of_getElem? er)) z hz
    · intro us ss j g
      obtain ⟨rfl, rfl, rfl⟩ := wd_uniq hw' g
      exact hd _ _ _ rfl sd
end
end Nv
namespace Nv
open PySem PySem.Spec PyProof.Rows L2
abbrev s_without_answer : Stmt := inClass (top 18) 10
abbrev s__with_answers : Stmt := inClass (top 18) 17
abbrev s__with_row : Stmt := inClass (top 18) 18
theorem asc_pairS : ∀ {zs : List Str}, (zipD (zs.map D.str) ((zs.map D.str).drop 1)).all ltP = true → zs.Pairwise (fun a b => a.cps.toList < b.cps.toList)
  | [], _ => .nil
  | [a], _ => by simp
  | a :: b :: zs, h => by
    simp only [List.map_cons, List.drop_succ_cons, List.drop_zero, zipD, List.all_cons, Bool.and_eq_true] at h
    have ih := asc_pairS (zs := b :: zs) (by simpa only [List.map_cons, List.drop_succ_cons, List.drop_zero] using h.2)
    have lt : a.cps.toList < b.cps.toList := of_decide_eq_true h.1
    refine List.pairwise_cons.mpr ⟨fun c hc => ?_, ih⟩
    rcases List.mem_cons.mp hc with rfl | hc
    · exact lt
    · exact List.lt_trans lt ((List.pairwise_cons.mp ih).1 c hc)
def strOf : D → Str
  | .str x => x
  | _ => ""
/-- a row of asks: its names ascend -/
theorem row_names {n : Int} {asks : List D} (h : areAsksOf n (.tup asks) = true) : asks.map fstD = (asks.map fun a => strOf (fstD a)).map D.str ∧ (asks.map fun a => strOf (fstD a)).Pairwise (fun a b => a.cps.toList < b.cps.toList) := by
  have h3 : (decide ((asks.length : Int) ≤ 160) && (asks.all (isAsk n) && ascD (.lst (asks.map fstD)))) = true := h
  simp only [Bool.and_eq_true] at h3
  have e : asks.map fstD = (asks.map fun a => strOf (fstD a)).map D.str := by
    rw [List.map_map]
    refine List.map_congr_left fun a ha => ?_
    obtain ⟨x, as, rfl, _⟩ := ask_of (List.all_eq_true.mp h3.2.1 a ha)
    rfl
  refine ⟨e, asc_pairS ?_⟩
  rw [← e]
  exact h3.2.2
theorem pw_inj {α β : Type} {r : β → β → Prop} (irr : ∀ a, ¬ r a a) {xs : List α} {f : α → β} (h : (xs.map f).Pairwise r) {i j : Nat} {a b : α} (hi : xs[i]? = some a) (hj : xs[j]? = some b) (e : f a = f b) : i = j := by
  have key : ∀ {i j : Nat} {a b : α}, xs[i]? = some a → xs[j]? = some b → f a = f b → ¬ i < j := by
    intro i j a b hi hj e lt
    have h2 := List.pairwise_iff_getElem.mp h
    obtain ⟨li, ei⟩ := List.getElem?_eq_some_iff.mp hi
    obtain ⟨lj, ej⟩ := List.getElem?_eq_some_iff.mp hj
    have := h2 i j (by rw [List.length_map]; exact li) (by rw [List.length_map]; exact lj) lt
    rw [List.getElem_map, List.getElem_map, ei, ej, e] at this
    exact irr _ this
  have := key hi hj e
  have := key hj hi e.symm
  omega
theorem str_irr (a : Str) : ¬ a.cps.toList < a.cps.toList := List.lt_irrefl _
section
variable {P : Program} {w : World} {K : PySem.W.Frag} {mg : Str → Option Value} {base : Heap} {C fI fE CB : Addr} {fdI fdE : FuncData}
theorem sc__ask_at : FnScope ["self", "standing", "name", "names"] ["self", "standing", "name"] (defScope s__ask_at) :=
  ⟨rfl, rfl, rfl, by decide +kernel, rfl, by decide +kernel, by decide +kernel⟩
theorem sc__answers_of : FnScope ["self", "standing", "at"] ["self", "standing", "at"] (defScope s__answers_of) :=
  ⟨rfl, rfl, rfl, by decide +kernel, rfl, by decide +kernel, by decide +kernel⟩
theorem sc__with_answers : FnScope ["self", "standing", "at", "answers"] ["self", "standing", "at", "answers"] (defScope s__with_answers) :=
  ⟨rfl, rfl, rfl, by decide +kernel, rfl, by decide +kernel, by decide +kernel⟩
theorem sc__with_row : FnScope ["self", "standing", "row"] ["self", "standing", "row"] (defScope s__with_row) :=
  ⟨rfl, rfl, rfl, by decide +kernel, rfl, by decide +kernel, by decide +kernel⟩
theorem sc_without_answer : FnScope ["self", "standing", "name", "goal"] ["self", "standing", "name", "goal"] (defScope s_without_answer) :=
  ⟨rfl, rfl, rfl, by decide +kernel, rfl, by decide +kernel, by decide +kernel⟩
abbrev s_answer_at : Stmt := top 29
theorem sc_answer_at : FnScope ["answers", "goal", "goals", "answer"] ["answers", "goal"] (defScope s_answer_at) :=
  ⟨rfl, rfl, rfl, by decide +kernel, rfl, by decide +kernel, by decide +kernel⟩
def c_asked (C : Addr) : Spc :=
  { pre := fun as => ∃ ts rows i, wdI C as ts rows i
    post := fun as d => match as with
  | [.da (.ins _ _ [_, .tup rows, _, _]), .da (.int i)] => d = .lst ((rowsD (rows.getD i.toNat .non)).map fstD)
  | _ => True }
theorem getD_of {α : Type} {xs : List α} {i : Nat} {a b : α} (h : xs[i]? = some a) : xs.getD i b = a := by rw [List.getD_eq_getElem?_getD, h]; rfl
theorem d_asked {f : Addr} {fd : FuncData} (B : Bly mg) (W : TWo K mg C fI fE CB fdI fdE) (F : Mn K C "asked" "World.asked" s_asked ["self", "standing"] f fd)
    (M__check_standing : Dm P w K mg base C "_check_standing" CX0 3 ["self", "standing"] (spW (c_check C) 2)) : DmX f fd P w K mg base C "asked" CX0 4 ["self", "standing"] (spW (c_asked C) 2) := by
  refine F.ok sc_asked rfl fun cdv A outer s H E as hr ⟨ts, rows, i, hw⟩ _ => ?_
  have hw' := hw
  obtain ⟨x, s0, e, wd, hi⟩ := hw
  subst e
  obtain rfl := wd.e
  obtain ⟨rl, ra⟩ := asks_row wd.asks
  refine ⟨_, (pss_cons (ps_expr (pe_methD (pv 0) W.cl M__check_standing (hr.mono (by decide)) pass0 (pa_cons (pv 1) pa_nil)))
    (pss_one (ps_ret (pe_lc (own := [("ask", 2)]) (g := gName 2) (tt := tYes) (by rfl) sc_asked.nd (pi_seq (pe_ix (ix_K (K := K) rfl) (pe_fldK (K := K) rfl (pv 0) rfl) (pv 1) (fun _ _ => rfl))) (blkOk_by (N := ["self", "standing", "ask"]) (sc := defScope s_asked) (by decide +kernel)) (fun _ _ _ _ _ => pg_name (i := 2) sc_asked.nd rfl (by first | exact Or.inl rfl | exact Or.inr rfl)) (fun _ _ _ _ _ => pts_nil) (fun _ _ _ _ _ => (pe_ix (ix_K (K := K) rfl) (pv 2) pe_int (fun _ _ => rfl))))))), fun T => ?_⟩
  refine wps_seq (wps_drop (wpe_meth (by decide +kernel) (wpe_var rfl ⟨⟨_, rfl⟩, wpa_cons (wpe_var rfl (wpa_nil ⟨rfl, ⟨_, _, _, hw'⟩, fun _ _ => ?_, fun _ _ z => z⟩))⟩)))
  have er : rows[i]? = some rows[i] := List.getElem?_eq_getElem (by omega)
  generalize rows[i] = r at er
  obtain ⟨asks, rfl, l, al⟩ := row_of (ra r (List.mem_of_getElem? er))
  refine wps_ret (wpe_map fstD (by simp) (wpi_seq (wpe_op (wpe_fldW (i := 1) W.cl W.n2 rfl (wpe_var rfl ⟨_, _, rfl, rfl, wpe_var rfl (opd_ix (n := i) (.inr rfl) rfl er ⟨_, .inr rfl, by omega, fun d hd => ?_, ?_⟩)⟩)))))
  · obtain ⟨x, as, rfl, _⟩ := al d hd
    repeat (first | with_reducible refine wps_nil ?_ | with_reducible refine wps_seq ?_ | refine wps_ret ?_ | refine wps_if ?_ | refine wps_newl ?_ | refine wps_set ?_ | refine wpt_not ?_ | refine wpt_or ?_ | refine wpt_and ?_ | refine wpt_B ?_ | refine wpt_test ?_ | refine wpe_var rfl ?_ | refine wpe_int ?_ | refine wpe_bl ?_ | refine wpe_str ?_ | refine wpe_non ?_ | refine wpe_ty ?_ | refine wpe_andV ?_ | refine wpe_orV ?_ | refine wpe_notV ?_ | refine wpe_if ?_ | refine wpe_call1 ?_ | refine wpe_call2 ?_ | refine wpe_call3 ?_ | refine wpe_callS rfl ?_ | refine wpe_tupL ?_ | refine wpe_lstL ?_ | refine wpe_call0 ?_ | refine wpe_cb1 ?_ | refine wpe_cb2 ?_ | refine wpe_neg ?_ | refine wpe_slice ?_ | refine wpe_op ?_ | refine wpe_chain ?_ | refine wpo_none ?_ | refine wpo_some ?_ | refine wpl_nil ?_ | refine wpl_cons ?_ | refine wpa_cons ?_ | refine wpi_zipL ?_ | refine wpi_enuT1 ?_ | refine wpi_rng1 ?_ | refine wpi_seq ?_ | refine opd_ix (n := 0) (.inr rfl) rfl rfl ?_ | refine opd_ix (n := 1) (.inr rfl) rfl rfl ?_ | refine opd_ix (n := 2) (.inr rfl) rfl rfl ?_ | refine opd_b ?_ | refine opd_l (opd_b ?_) | refine opd_i ?_ | refine opd_l (opd_eqI ?_) | refine opd_l (opd_neI ?_) | refine opd_l (opd_neS ?_) | refine opd_l (opd_eqS ?_) | refine cbd_l (cbd_len (.inr rfl) ?_) | refine cbd_l (cbd_len (.inl rfl) ?_) | refine cbd_int1 ?_ | refine ite_t ?_ | refine ite_f ?_ | refine ⟨_, rfl, ?_⟩)
    rfl
  · show D.lst _ = D.lst _
    rw [Int.toNat_natCast, getD_of er]
    rfl
/-- a name that is asked at the standing -/
def c_ask_at (C : Addr) : Spc :=
  { pre := fun as => ∃ W ts rows s i asks x b, as = [.da W, .da (.int (i : Nat)), .da (.str x)] ∧ WdD C W ts rows s ∧ i < ts.length ∧ rows[i]? = some (.tup asks) ∧ D.tup [.str x, b] ∈ asks
    post := fun as d => match as with
  | [.da (.ins _ _ [_, .tup rows, _, _]), .da (.int i), .da (.str x)] => ∃ (k : Nat) (b : D), d = .int k ∧ (rowsD (rows.getD i.toNat .non))[k]? = some (.tup [.str x, b])
  | _ => True }
theorem d_ask_at {f : Addr} {fd : FuncData} (B : Bly mg) (W : TWo K mg C fI fE CB fdI fdE) (F : Mn K C "_ask_at" "World._ask_at" s__ask_at ["self", "standing", "name"] f fd)
    (M_asked : Dm P w K mg base C "asked" CX0 4 ["self", "standing"] (spW (c_asked C) 2)) : DmX f fd P w K mg base C "_ask_at" CX0 5 ["self", "standing", "name"] (spW (c_ask_at C) 3) := by
  refine F.ok sc__ask_at rfl fun cdv A outer s H E as hr ⟨y, ts, rows, s0, i, asks, x, b, e, wd, hi, er, hm⟩ _ => ?_
  subst e
  obtain rfl := wd.e
  obtain ⟨rl, ra⟩ := asks_row wd.asks
  have ha := ra _ (List.mem_of_getElem? er)
  obtain ⟨en, pw⟩ := row_names ha
  obtain ⟨k, ek⟩ := List.mem_iff_getElem?.mp hm
  have enk : (asks.map fun a => strOf (fstD a))[k]? = some x := by rw [List.getElem?_map, ek]; rfl
  refine ⟨_, (pss_cons (ps_set (i := 3) sc__ask_at.nd rfl (by first | exact Or.inl rfl | exact Or.inr rfl) (pe_methD (pv 0) W.cl M_asked (hr.mono (by decide)) pass0 (pa_cons (pv 1) pa_nil)))
    (pss_cons (ps_if (pt_cmpR (op_notinK (K := K) rfl) (pv 2) (pv 3) (by with_unfolding_all rfl)) (pss_one ps_never) pss_nil)
    (pss_one (ps_ret (pe_bm PySem.F.plainAttrs_list PySem.F.slot_list_index PySem.F.type_list_index (mt_indexK rfl) (pv 3) (pa_cons (pv 2) pa_nil)))))), fun T => ?_⟩
  refine wps_seq (wps_set (wpe_meth (by decide +kernel) (wpe_var rfl ⟨⟨_, rfl⟩, wpa_cons (wpe_var rfl (wpa_nil ⟨rfl, ⟨_, _, _, _, _, rfl, wd, hi⟩, fun d hd => ?_, fun _ _ z => z⟩))⟩)))
  obtain rfl : d = .lst ((asks.map fun a => strOf (fstD a)).map D.str) := by
    rw [← en]
    have hd : d = .lst ((rowsD (rows.getD ((i : Int).toNat) .non)).map fstD) := hd
    rw [hd, Int.toNat_natCast, getD_of er]
    rfl
  refine wps_seq (wps_if (wpt_test (wpe_op (wpe_var rfl (wpe_var rfl (opd_inS (.inl rfl) ⟨_, rfl, ite_b (fun h => ?_) (fun h => ?_)⟩))))))
  · exfalso
    have : x ∈ asks.map fun a => strOf (fstD a) := List.mem_of_getElem? enk
    simp [this] at h
  · refine wps_nil (wps_ret (wpe_idxS (wpe_var rfl ⟨_, rfl, wpe_var rfl ⟨x, k, rfl, enk, fun m hm' e => ?_, ?_⟩⟩)))
    · rw [List.getElem?_map] at e
      obtain ⟨a, ea, e2⟩ := Option.map_eq_some_iff.mp e
      have := pw_inj str_irr pw ea ek e2
      omega
    · refine ⟨k, b, rfl, ?_⟩
      rw [Int.toNat_natCast, getD_of er]
      exact ek
def c_answers_of (C : Addr) : Spc :=
  { pre := fun as => ∃ W ts rows s i asks k x b, as = [.da W, .da (.int (i : Nat)), .da (.int (k : Nat))] ∧ WdD C W ts rows s ∧ rows[i]? = some (.tup asks) ∧ asks[k]? = some (.tup [x, b])
    post := fun as d => match as with
  | [.da (.ins _ _ [_, .tup rows, _, _]), .da (.int i), .da (.int k)] => ∀ x b, (rowsD (rows.getD i.toNat .non))[k.toNat]? = some (.tup [x, b]) → d = b
  | _ => True }
theorem d_answers_of {f : Addr} {fd : FuncData} (B : Bly mg) (W : TWo K mg C fI fE CB fdI fdE) (F : Mn K C "_answers_of" "World._answers_of" s__answers_of ["self", "standing", "at"] f fd) :
    DmX f fd P w K mg base C "_answers_of" CX0 1 ["self", "standing", "at"] (spW (c_answers_of C) 3) := by
  refine F.ok sc__answers_of rfl fun cdv A outer s H E as hr ⟨y, ts, rows, s0, i, asks, k, x, b, e, wd, er, ek⟩ _ => ?_
  subst e
  obtain rfl := wd.e
  refine ⟨_, (pss_one (ps_ret (pe_ix (ix_K (K := K) rfl) (pe_ix (ix_K (K := K) rfl) (pe_ix (ix_K (K := K) rfl) (pe_fldK (K := K) rfl (pv 0) rfl) (pv 1) (fun _ _ => rfl)) (pv 2) (fun _ _ => rfl)) pe_int (fun _ _ => rfl)))), fun T => ?_⟩
  refine wps_ret (wpe_op (wpe_op (wpe_op (wpe_fldW (i := 1) W.cl W.n2 rfl (wpe_var rfl ⟨_, _, rfl, rfl, wpe_var rfl (opd_ix (n := i) (.inr rfl) rfl er (wpe_var rfl (opd_ix (n := k) (.inr rfl) rfl ek ?_)))⟩)))))
  repeat (first | with_reducible refine wps_nil ?_ | with_reducible refine wps_seq ?_ | refine wps_ret ?_ | refine wps_if ?_ | refine wps_newl ?_ | refine wps_set ?_ | refine wpt_not ?_ | refine wpt_or ?_ | refine wpt_and ?_ | refine wpt_B ?_ | refine wpt_test ?_ | refine wpe_var rfl ?_ | refine wpe_int ?_ | refine wpe_bl ?_ | refine wpe_str ?_ | refine wpe_non ?_ | refine wpe_ty ?_ | refine wpe_andV ?_ | refine wpe_orV ?_ | refine wpe_notV ?_ | refine wpe_if ?_ | refine wpe_call1 ?_ | refine wpe_call2 ?_ | refine wpe_call3 ?_ | refine wpe_callS rfl ?_ | refine wpe_tupL ?_ | refine wpe_lstL ?_ | refine wpe_call0 ?_ | refine wpe_cb1 ?_ | refine wpe_cb2 ?_ | refine wpe_neg ?_ | refine wpe_slice ?_ | refine wpe_op ?_ | refine wpe_chain ?_ | refine wpo_none ?_ | refine wpo_some ?_ | refine wpl_nil ?_ | refine wpl_cons ?_ | refine wpa_cons ?_ | refine wpi_zipL ?_ | refine wpi_enuT1 ?_ | refine wpi_rng1 ?_ | refine wpi_seq ?_ | refine opd_ix (n := 0) (.inr rfl) rfl rfl ?_ | refine opd_ix (n := 1) (.inr rfl) rfl rfl ?_ | refine opd_ix (n := 2) (.inr rfl) rfl rfl ?_ | refine opd_b ?_ | refine opd_l (opd_b ?_) | refine opd_i ?_ | refine opd_l (opd_eqI ?_) | refine opd_l (opd_neI ?_) | refine opd_l (opd_neS ?_) | refine opd_l (opd_eqS ?_) | refine cbd_l (cbd_len (.inr rfl) ?_) | refine cbd_l (cbd_len (.inl rfl) ?_) | refine cbd_int1 ?_ | refine ite_t ?_ | refine ite_f ?_ | refine ⟨_, rfl, ?_⟩)
  intro x' b' e
  rw [Int.toNat_natCast, Int.toNat_natCast, getD_of er] at e
  have e : asks[k]? = some (.tup [x', b']) := e
  rw [ek] at e
  exact (List.cons.inj (List.cons.inj (D.tup.inj (Option.some.inj e))).2).1
def c_answer_at : Spc :=
  { pre := fun as => ∃ (zs : List D) (g : Int) (j : Nat), as = [.da (.tup zs), .da (.int g)] ∧ (∀ a ∈ zs, ∃ p q : Int, a = .tup [.int p, .int q]) ∧ (zs.map fun a => intOf (fstD a)).Pairwise (· < ·) ∧ (zs.map fun a => intOf (fstD a))[j]? = some g ∧ zs.length ≤ 1000
    post := fun as d => match as with
  | [.da (.tup zs), .da (.int g)] => ∃ j : Nat, d = .int j ∧ (zs.map fun a => intOf (fstD a))[j]? = some g
  | _ => True }
theorem d_answer_at {f : Addr} {fd : FuncData} (B : Bly mg) (F : Fn K mg "answer_at" s_answer_at ["answers", "goal"] f fd) (D_is_integer : Dk P w K mg base "is_integer" CX0 1 ["value"] (spW c_is_integer 1)) :
    Dk P w K mg base "answer_at" CX0 2 ["answers", "goal"] (spW c_answer_at 2) := by
  refine F.ok sc_answer_at rfl fun cdv A outer s H E as hr ⟨zs, g, j, e, pr, pw, ej, l⟩ _ => ?_
  subst e
  refine ⟨_, (pss_cons (ps_setLc (i := 2) (own := [("answer", 3)]) (g := gName 3) (tt := tYes) (by rfl) sc_answer_at.nd rfl rfl (sw_true rfl rfl rfl (by decide +kernel)) (pi_seq (pv 0)) (blkOk_by (N := ["answers", "goal", "goals", "answer"]) (sc := defScope s_answer_at) (by decide +kernel)) (fun _ _ _ _ _ => pg_name (i := 3) sc_answer_at.nd rfl (by first | exact Or.inl rfl | exact Or.inr rfl)) (fun _ _ _ _ _ => pts_nil) (fun _ _ _ _ _ => (pe_ix (ix_K (K := K) rfl) (pv 3) pe_int (fun _ _ => rfl))))
    (pss_cons (ps_if (PW.pt (pw_or (pt_not (pt_val (pe_callD D_is_integer (hr.mono (by decide)) (by rfl) pass0 (pa_cons (pv 1) pa_nil)))) (pw_or1 (pt_cmpR (op_notinK (K := K) rfl) (pv 1) (pv 2) (by with_unfolding_all rfl))))) (pss_one ps_never) pss_nil)
    (pss_one (ps_ret (pe_bm PySem.F.plainAttrs_list PySem.F.slot_list_index PySem.F.type_list_index (mt_indexK rfl) (pv 2) (pa_cons (pv 1) pa_nil)))))), fun T => ?_⟩
  have ez : zs.map fstD = (zs.map fun a => intOf (fstD a)).map D.int := by
    rw [List.map_map]
    refine List.map_congr_left fun a ha => ?_
    obtain ⟨p, q, rfl⟩ := pr a ha
    rfl
  refine wps_seq (wps_set (wpe_map fstD (by simp) (wpi_seq (wpe_var rfl ⟨_, .inr rfl, by omega, fun d hd => ?_, ?_⟩))))
  · obtain ⟨p, q, rfl⟩ := pr d hd
    repeat (first | with_reducible refine wps_nil ?_ | with_reducible refine wps_seq ?_ | refine wps_ret ?_ | refine wps_if ?_ | refine wps_newl ?_ | refine wps_set ?_ | refine wpt_not ?_ | refine wpt_or ?_ | refine wpt_and ?_ | refine wpt_B ?_ | refine wpt_test ?_ | refine wpe_var rfl ?_ | refine wpe_int ?_ | refine wpe_bl ?_ | refine wpe_str ?_ | refine wpe_non ?_ | refine wpe_ty ?_ | refine wpe_andV ?_ | refine wpe_orV ?_ | refine wpe_notV ?_ | refine wpe_if ?_ | refine wpe_call1 ?_ | refine wpe_call2 ?_ | refine wpe_call3 ?_ | refine wpe_callS rfl ?_ | refine wpe_tupL ?_ | refine wpe_lstL ?_ | refine wpe_call0 ?_ | refine wpe_cb1 ?_ | refine wpe_cb2 ?_ | refine wpe_neg ?_ | refine wpe_slice ?_ | refine wpe_op ?_ | refine wpe_chain ?_ | refine wpo_none ?_ | refine wpo_some ?_ | refine wpl_nil ?_ | refine wpl_cons ?_ | refine wpa_cons ?_ | refine wpi_zipL ?_ | refine wpi_enuT1 ?_ | refine wpi_rng1 ?_ | refine wpi_seq ?_ | refine opd_ix (n := 0) (.inr rfl) rfl rfl ?_ | refine opd_ix (n := 1) (.inr rfl) rfl rfl ?_ | refine opd_ix (n := 2) (.inr rfl) rfl rfl ?_ | refine opd_b ?_ | refine opd_l (opd_b ?_) | refine opd_i ?_ | refine opd_l (opd_eqI ?_) | refine opd_l (opd_neI ?_) | refine opd_l (opd_neS ?_) | refine opd_l (opd_eqS ?_) | refine cbd_l (cbd_len (.inr rfl) ?_) | refine cbd_l (cbd_len (.inl rfl) ?_) | refine cbd_int1 ?_ | refine ite_t ?_ | refine ite_f ?_ | refine ⟨_, rfl, ?_⟩)
    rfl
  · rw [ez]
    have hg : g ∈ zs.map fun a => intOf (fstD a) := List.mem_of_getElem? ej
    have last : ∀ {R : Rg}, WpS R (tRet (tBM K "list" (rIndex K) (tVar 2) (tCons (tVar 1) tNil))) [.da (.tup zs), .da (.int g), .da (.lst ((zs.map fun a => intOf (fstD a)).map D.int)), .no] (fun _ => c_answer_at.post [.da (.tup zs), .da (.int g)] .non) (c_answer_at.post [.da (.tup zs), .da (.int g)]) := fun {R} =>
      wps_ret (wpe_idxI (wpe_var rfl ⟨_, rfl, wpe_var rfl ⟨g, j, rfl, ej, fun m hm e => by
        have h2 := List.pairwise_iff_getElem.mp pw
        obtain ⟨lm, em⟩ := List.getElem?_eq_some_iff.mp e
        obtain ⟨lj, ej'⟩ := List.getElem?_eq_some_iff.mp ej
        have := h2 m j lm lj hm
        omega, j, rfl, ej⟩⟩))
    refine wps_seq (wps_if (wpt_or (wpt_not (wpt_test (wpe_call1 (wpe_var rfl ⟨rfl, _, rfl, ?_⟩))))))
    refine ite_b (fun h => absurd (show false = true from h) (by decide)) fun h => ?_
    refine wpt_B (wpe_op (wpe_var rfl (wpe_var rfl (opd_inI (.inl rfl) ⟨_, rfl, ?_⟩))))
    refine ite_b (fun h => ?_) (fun h => ?_)
    · exfalso
      simp [hg] at h
    · exact wps_nil last
end
end Nv
namespace Nv
open PySem PySem.Spec PyProof.Rows L2
theorem at_some {α : Type} {xs : List α} {k n : Nat} (l : xs.length = n) (h : k < n) : ∃ x, xs[k]? = some x := ⟨_, List.getElem?_eq_getElem (by omega)⟩
theorem stepsW_at {ts : List (List Int)} {rows : List D} {i : Nat} {zs : List Int} (l : rows.length = ts.length) (e : (stepsW ts rows)[i]? = some zs) : ∃ t r, ts[i]? = some t ∧ rows[i]? = some r ∧ zs = t ++ goalsI r := by
  have lk := (List.getElem?_eq_some_iff.mp e).1
  rw [stepsW_len l] at lk
  obtain ⟨t, et⟩ := at_some rfl lk
  obtain ⟨r, er⟩ := at_some l lk
  rw [stepsW_get et er] at e
  exact ⟨t, r, et, er, (Option.some.inj e).symm⟩
theorem asc_ext {xs ys : List Int} (hx : xs.Pairwise (· < ·)) (hy : ys.Pairwise (· < ·)) (h : ∀ z, z ∈ xs ↔ z ∈ ys) : xs = ys := by
  have nx : xs.Nodup := hx.imp fun {a b} h e => by omega
  have ny : ys.Nodup := hy.imp fun {a b} h e => by omega
  exact ((List.perm_ext_iff_of_nodup nx ny).mpr h).eq_of_pairwise (fun a b _ _ h1 h2 => by omega) hx hy
theorem Comes.uniq {st : List Int} {ss : List (List Int)} {xs ys : List Int} (c : Comes st ss xs) (d : Comes st ss ys) : xs = ys :=
  asc_ext c.asc d.asc fun z => ⟨c.least (· ∈ ys) d.cl d.has z, d.least (· ∈ xs) c.cl c.has z⟩
theorem ask_len {n : Nat} {a : D} (h : AskD n a) : (goalsA a).length ≤ n := by
  obtain ⟨x, as, rfl, _, _, aa, pz⟩ := h
  have := bound (n := n) (ks := as.map fun a => intOf (fstD a)) (fun z hz => by
    obtain ⟨q, hq, rfl⟩ := List.mem_map.mp hz
    obtain ⟨g, p, rfl, g0, g1, _⟩ := aa q hq
    exact ⟨g0, g1⟩) (pz.imp fun {a b} h e => by omega)
  rw [List.length_map] at this
  show (as.map fstD).length ≤ n
  rw [List.length_map]
  exact this
theorem flat_le {f : D → List D} {B : Nat} : ∀ {xs : List D}, (∀ a ∈ xs, (f a).length ≤ B) → (xs.flatMap f).length ≤ xs.length * B
  | [], _ => by simp
  | a :: xs, h => by
    have ih := flat_le (xs := xs) fun b hb => h b (by simp [hb])
    have h1 := h a (by simp)
    rw [List.flatMap_cons, List.length_append, List.length_cons, Nat.add_mul]
    omega
theorem steps_le {m : Nat} {ts : List (List Int)} {rows : List D} (pl : Pl m ts rows) : ∀ zs ∈ stepsW ts rows, zs.length ≤ 100000 := fun zs hz => by
  obtain ⟨rl, ra⟩ := asks_row pl.a
  obtain ⟨k, ek⟩ := List.mem_iff_getElem?.mp hz
  obtain ⟨t, r, et, er, rfl⟩ := stepsW_at rl ek
  have ii := pl.t.inn t (List.mem_of_getElem? et)
  have l1 := bound ii.1 ii.2
  have most := pl.t.most
  obtain ⟨asks, rfl, l160, al⟩ := row_of (ra r (List.mem_of_getElem? er))
  have l2 := flat_le (f := goalsA) (B := 400) (xs := asks) fun a ha => by have := ask_len (al a ha); omega
  have l3 : (goalsI (.tup asks)).length = (asks.flatMap goalsA).length := List.length_map ..
  rw [List.length_append, l3]
  have : asks.length * 400 ≤ 160 * 400 := Nat.mul_le_mul_right _ l160
  omega
theorem goals_take {asks : List D} {j : Nat} {a : D} (e : asks[j]? = some a) : goalsI (.tup (asks.take (j + 1))) = goalsI (.tup (asks.take j)) ++ (goalsA a).map intOf := by
  show ((asks.take (j + 1)).flatMap goalsA).map intOf = ((asks.take j).flatMap goalsA).map intOf ++ _
  rw [List.take_add_one, e, List.flatMap_append, List.map_append]
  simp
theorem comes_len {st : List Int} {ss : List (List Int)} {ys : List Int} (c : Comes st ss ys) : ys.length ≤ ss.length := bound c.inN (c.asc.imp fun {a b} h e => by omega)
theorem lay_intL {zs : List Int} : layD (.lst (zs.map D.int)) 4 = true := by
  show (decide (1 ≤ 4) && layAll (zs.map D.int) 3) = true
  rw [lay_ints]
  rfl
theorem opd_neL {K : PySem.W.Frag} {φ : D → Prop} {zs : List Int} (q : φ (.bl false)) : OpD (fun x y H Q => rNe x y H Q ∨ rNeD K x y H Q) (.lst (zs.map D.int)) (.lst (zs.map D.int)) φ := by
  refine opd_r (opd_neDD lay_intL lay_intL (by decide) ?_)
  rw [eqv_self lay_intL]
  exact q
theorem opd_eqL {K : PySem.W.Frag} {φ : D → Prop} {zs : List Int} (q : φ (.bl true)) : OpD (fun x y H Q => rEq x y H Q ∨ rEqD K x y H Q) (.lst (zs.map D.int)) (.lst (zs.map D.int)) φ := by
  refine opd_r (opd_eqDD lay_intL lay_intL (by decide) ?_)
  rw [eqv_self lay_intL]
  exact q
theorem goals_mem {asks : List D} {z : Int} : z ∈ goalsI (.tup asks) ↔ ∃ a ∈ asks, ∃ g ∈ goalsA a, z = intOf g := by
  show z ∈ (asks.flatMap goalsA).map intOf ↔ _
  rw [List.mem_map]
  constructor
  · rintro ⟨g, hg, rfl⟩
    obtain ⟨a, ha, hg⟩ := List.mem_flatMap.mp hg
    exact ⟨a, ha, g, hg, rfl⟩
  · rintro ⟨a, ha, g, hg, rfl⟩
    exact ⟨g, List.mem_flatMap.mpr ⟨a, ha, hg⟩, rfl⟩
theorem wd_eq {C : Addr} {x : D} {ts us : List (List Int)} {rs ss : List D} {s z : Int} (w1 : WdD C x ts rs s) (w2 : WdD C x us ss z) : ts = us ∧ rs = ss ∧ s = z := by
  have hx := w1.e.symm.trans w2.e
  obtain ⟨_, _, hl⟩ := D.ins.inj hx
  obtain ⟨a1, hl⟩ := List.cons.inj hl
  obtain ⟨a2, hl⟩ := List.cons.inj hl
  obtain ⟨a3, hl⟩ := List.cons.inj hl
  exact ⟨tD_inj a1, D.tup.inj a2, D.int.inj a3⟩
theorem ite_nt {p q : Prop} (h : q) : (if (!true) = true then p else q) := h
theorem set_same {α : Type} {xs : List α} {i : Nat} {a : α} (h : xs[i]? = some a) : xs.set i a = xs := by
  refine List.ext_getElem? fun j => ?_
  by_cases e : i = j
  · subst e
    obtain ⟨l, e⟩ := List.getElem?_eq_some_iff.mp h
    rw [List.getElem?_set_self l, h]
  · rw [List.getElem?_set_ne e]
end Nv
namespace Nv
open PySem PySem.Spec PyProof.Rows L2
abbrev s_names : Stmt := inClass (top 18) 2
abbrev s_answers : Stmt := inClass (top 18) 5
abbrev s_price : Stmt := inClass (top 18) 6
/-- the names of a row of asks, of all rows -/
def namesA (r : D) : List Str := (rowsD r).map fun a => strOf (fstD a)
def namesR (rows : List D) : List Str := rows.flatMap namesA
/-- few names alone -/
def FewN (rows : List D) : Prop := ∃ U : List Str, U.length ≤ 4000 ∧ ∀ x ∈ namesR rows, x ∈ U
theorem lt_irr (a : Str) : ¬ ltS a a := List.lt_irrefl _
theorem asc_extS {xs ys : List Str} (hx : xs.Pairwise ltS) (hy : ys.Pairwise ltS) (h : ∀ z, z ∈ xs ↔ z ∈ ys) : xs = ys := by
  have nx : xs.Nodup := hx.imp fun {a b} (h : ltS a b) (e : a = b) => lt_irr a (by rw [← e] at h; exact h)
  have ny : ys.Nodup := hy.imp fun {a b} (h : ltS a b) (e : a = b) => lt_irr a (by rw [← e] at h; exact h)
  exact ((List.perm_ext_iff_of_nodup nx ny).mpr h).eq_of_pairwise (fun a b _ _ h1 h2 => absurd h2 (List.lt_asymm h1)) hx hy
section
variable {P : Program} {w : World} {K : PySem.W.Frag} {mg : Str → Option Value} {base : Heap} {C fI fE CB : Addr} {fdI fdE : FuncData}
theorem sc_names : FnScope ["self", "row", "ask"] ["self"] (defScope s_names) :=
  ⟨rfl, rfl, rfl, by decide +kernel, rfl, by decide +kernel, by decide +kernel⟩
theorem sc_answers : FnScope ["self", "standing", "name"] ["self", "standing", "name"] (defScope s_answers) :=
  ⟨rfl, rfl, rfl, by decide +kernel, rfl, by decide +kernel, by decide +kernel⟩
theorem sc_price : FnScope ["self", "standing", "name", "goal", "answers"] ["self", "standing", "name", "goal"] (defScope s_price) :=
  ⟨rfl, rfl, rfl, by decide +kernel, rfl, by decide +kernel, by decide +kernel⟩
def c_names (C : Addr) : Spc :=
  { pre := fun as => ∃ W ts rows s, as = [.da W] ∧ WdD C W ts rows s ∧ FewN rows
    post := fun as d => ∀ W ts rows s, as = [.da W] → WdD C W ts rows s → ∃ ys : List Str, d = .lst (ys.map D.str) ∧ ys.Pairwise ltS ∧ ∀ x, x ∈ ys ↔ x ∈ namesR rows }
theorem wd_rows {C : Addr} {x : D} {ts us : List (List Int)} {rs ss : List D} {s z : Int} (w1 : WdD C x ts rs s) (w2 : WdD C x us ss z) : ts = us ∧ rs = ss ∧ s = z := by
  have hx := w1.e.symm.trans w2.e
  obtain ⟨_, _, hl⟩ := D.ins.inj hx
  obtain ⟨a1, hl⟩ := List.cons.inj hl
  obtain ⟨a2, hl⟩ := List.cons.inj hl
  obtain ⟨a3, hl⟩ := List.cons.inj hl
  exact ⟨tD_inj a1, D.tup.inj a2, D.int.inj a3⟩
theorem dW_names {f : Addr} {fd : FuncData} (B : Bly mg) (W : TWo K mg C fI fE CB fdI fdE) (F : Mn K C "names" "World.names" s_names ["self"] f fd) :
    DmX f fd P w K mg base C "names" CX0 1 ["self"] (spW (c_names C) 1) := by
  refine F.ok sc_names rfl fun cdv A outer s H E as hr ⟨y, ts, rows, s0, e, wd, few⟩ _ => ?_
  subst e
  obtain rfl := wd.e
  obtain ⟨rl, ra⟩ := asks_row wd.asks
  refine ⟨_, (pss_one (ps_ret (pe_callB (cr_srtSTw (w := w) rfl rfl) (by rfl) B.srt b_sorted (pa_cons (pe_sc2 (own := [("row", 1), ("ask", 2)]) (vs1 := [2]) (g := gName 1) (g1 := gName 2) (by rfl) sc_names.nd (pi_seq (pe_fldK (K := K) rfl (pv 0) rfl)) (blkOk_by (N := ["self", "row", "ask"]) (sc := defScope s_names) (by decide +kernel)) (by simp) (fun _ _ _ _ _ => pg_name (i := 1) sc_names.nd rfl (by first | exact Or.inl rfl | exact Or.inr rfl)) (fun _ _ _ _ _ => (pi_seqK (K := K) rfl (pv 1))) (fun _ _ _ _ _ => pg_name (i := 2) sc_names.nd rfl (by first | exact Or.inl rfl | exact Or.inr rfl)) (fun _ _ _ _ _ => (pe_ix (ix_K (K := K) rfl) (pv 2) pe_int (fun _ _ => rfl)))) pa_nil)))), fun T => ?_⟩
  refine wps_ret (wpe_srtSc2 (js := [1]) (js1 := [2]) namesA (fun a => strOf (fstD a)) (by simp) (by simp) ?_)
  refine wpi_seq (wpe_fldW (i := 1) W.cl W.n2 rfl (wpe_var rfl ⟨_, _, rfl, rfl, _, .inr rfl, few, fun r hr => ?_, fun ys hy mem => ?_⟩))
  · obtain ⟨asks, rfl, l, al⟩ := row_of (ra r hr)
    refine wpg_name ⟨⟨fun i a ds => ?_, fun i a ds => ?_⟩, wpi_seq (wpe_var rfl ⟨_, .inr rfl, rfl, fun a ha => wpg_name ?_⟩)⟩
    · match i with
      | 0 | 1 | 2 => simp [wipeD]
      | n + 3 => simp [wipeD]
    · match i with
      | 0 | 1 | 2 => simp [wipeD]
      | n + 3 => simp [wipeD]
    · obtain ⟨x, as, rfl, _⟩ := al a ha
      exact wpe_op (wpe_var rfl (wpe_int (opd_ix (n := 0) (.inr rfl) rfl rfl rfl)))
  · intro W' us ss z e2 w2
    obtain rfl := Sl.da.inj (List.cons.inj e2).1
    obtain ⟨rfl, rfl, rfl⟩ := wd_rows wd w2
    exact ⟨ys, rfl, hy, mem⟩
/-- a name that is asked at the standing, and its answers -/
def c_answersW (C : Addr) : Spc :=
  { pre := fun as => ∃ W ts rows s i asks x zs, as = [.da W, .da (.int (i : Nat)), .da (.str x)] ∧ WdD C W ts rows s ∧ i < ts.length ∧ rows[i]? = some (.tup asks) ∧ D.tup [.str x, .tup zs] ∈ asks
    post := fun as d => ∀ W ts rows s i asks x zs, as = [.da W, .da (.int (i : Nat)), .da (.str x)] → WdD C W ts rows s → rows[i]? = some (.tup asks) → D.tup [.str x, .tup zs] ∈ asks → d = .lst zs }
theorem one_name {n : Int} {asks : List D} {x : Str} {a b : D} (h : areAsksOf n (.tup asks) = true) (h1 : D.tup [.str x, a] ∈ asks) (h2 : D.tup [.str x, b] ∈ asks) : a = b := by
  obtain ⟨_, pw⟩ := row_names h
  obtain ⟨i, ei⟩ := List.mem_iff_getElem?.mp h1
  obtain ⟨j, ej⟩ := List.mem_iff_getElem?.mp h2
  obtain rfl := pw_inj str_irr pw ei ej rfl
  rw [ei] at ej
  exact (List.cons.inj (List.cons.inj (D.tup.inj (Option.some.inj ej))).2).1
theorem ask_get {C : Addr} {W : D} {ts : List (List Int)} {rows asks : List D} {s : Int} {i : Nat} {x : Str} {zs : List D} (wd : WdD C W ts rows s) (er : rows[i]? = some (.tup asks)) (hm : D.tup [.str x, .tup zs] ∈ asks) : (∀ q ∈ zs, AnsD ts.length q) ∧ zs.length ≤ 400 ∧ isName (.str x) = true ∧ (zs.map fun a => intOf (fstD a)).Pairwise (· < ·) := by
  obtain ⟨rl, ra⟩ := asks_row wd.asks
  obtain ⟨asks', e', _, al⟩ := row_of (ra _ (List.mem_of_getElem? er))
  obtain rfl := D.tup.inj e'
  obtain ⟨x', zs', e2, nx, nz, aa, pz⟩ := al _ hm
  obtain ⟨e3, e4⟩ := List.cons.inj (D.tup.inj e2)
  obtain rfl := D.str.inj e3
  obtain rfl := D.tup.inj (List.cons.inj e4).1
  refine ⟨aa, ?_, nx, pz⟩
  have := bound (n := ts.length) (ks := zs.map fun a => intOf (fstD a)) (fun z hz => by
    obtain ⟨q, hq, rfl⟩ := List.mem_map.mp hz
    obtain ⟨g, p, rfl, g0, g1, _⟩ := aa q hq
    exact ⟨g0, g1⟩) (pz.imp fun {a b} h e => by omega)
  rw [List.length_map] at this
  have := wd.tok.most
  omega
theorem dW_answers {f : Addr} {fd : FuncData} (B : Bly mg) (W : TWo K mg C fI fE CB fdI fdE) (F : Mn K C "answers" "World.answers" s_answers ["self", "standing", "name"] f fd)
    (M__ask_at : Dm P w K mg base C "_ask_at" CX0 5 ["self", "standing", "name"] (spW (c_ask_at C) 3)) (M__answers_of : Dm P w K mg base C "_answers_of" CX0 1 ["self", "standing", "at"] (spW (c_answers_of C) 3)) :
    DmX f fd P w K mg base C "answers" CX0 6 ["self", "standing", "name"] (spW (c_answersW C) 3) := by
  refine F.ok sc_answers rfl fun cdv A outer s H E as hr ⟨y, ts, rows, s0, i, asks, x, zs, e, wd, hi, er, hm⟩ _ => ?_
  subst e
  obtain rfl := wd.e
  obtain ⟨rl, ra⟩ := asks_row wd.asks
  refine ⟨_, (pss_one (ps_ret (pe_callTy (call_listK (K := K) rfl) (by rfl) B.list b_list (pa_cons (pe_methD (pv 0) W.cl M__answers_of (hr.mono (by decide)) pass0 (pa_cons (pv 1) (pa_cons (pe_methD (pv 0) W.cl M__ask_at (hr.mono (by decide)) pass0 (pa_cons (pv 1) (pa_cons (pv 2) pa_nil))) pa_nil))) pa_nil)))), fun T => ?_⟩
  refine wps_ret (wpe_cb1 (wpe_meth (by decide +kernel) (wpe_var rfl ⟨⟨_, rfl⟩, wpa_cons (wpe_var rfl (wpa_cons (wpe_meth (by decide +kernel) (wpe_var rfl ⟨⟨_, rfl⟩, wpa_cons (wpe_var rfl (wpa_cons (wpe_var rfl (wpa_nil ⟨rfl, ⟨_, ts, rows, s0, i, asks, x, _, rfl, wd, hi, er, hm⟩, fun d hd => ?_, fun _ _ z => z⟩))))⟩))))⟩)))
  obtain ⟨k, b, rfl, ek⟩ : ∃ (k : Nat) (b : D), d = .int k ∧ (rowsD (rows.getD ((i : Int).toNat) .non))[k]? = some (.tup [.str x, b]) := hd
  rw [Int.toNat_natCast, getD_of er] at ek
  have ek : asks[k]? = some (.tup [.str x, b]) := ek
  obtain rfl : b = .tup zs := one_name (ra _ (List.mem_of_getElem? er)) (List.mem_of_getElem? ek) hm
  refine wpa_nil ⟨rfl, ⟨_, ts, rows, s0, i, asks, k, _, _, rfl, wd, er, ek⟩, fun d hd => ?_, fun _ _ z => z⟩
  have hd := hd (.str x) (.tup zs) (by rw [Int.toNat_natCast, Int.toNat_natCast, getD_of er]; exact ek)
  subst hd
  refine cbd_lstOf (.inr rfl) ?_
  intro W' us ss z j bs x' zs' e2 w2 er2 hm2
  obtain ⟨h1, h2⟩ := List.cons.inj e2
  obtain ⟨h2, h3⟩ := List.cons.inj h2
  obtain rfl := Sl.da.inj h1
  obtain ⟨rfl, rfl, rfl⟩ := wd_rows wd w2
  obtain rfl := Int.ofNat.inj (D.int.inj (Sl.da.inj h2))
  obtain rfl := D.str.inj (Sl.da.inj (List.cons.inj h3).1)
  rw [er] at er2
  obtain rfl := D.tup.inj (Option.some.inj er2)
  exact congrArg D.lst (D.tup.inj (one_name (ra _ (List.mem_of_getElem? er)) hm hm2))
def c_priceW (C : Addr) : Spc :=
  { pre := fun as => ∃ W ts rows s i asks x zs g p, as = [.da W, .da (.int (i : Nat)), .da (.str x), .da (.int g)] ∧ WdD C W ts rows s ∧ i < ts.length ∧ rows[i]? = some (.tup asks) ∧ D.tup [.str x, .tup zs] ∈ asks ∧ D.tup [.int g, .int p] ∈ zs
    post := fun as d => ∀ W ts rows s i asks x zs g p, as = [.da W, .da (.int (i : Nat)), .da (.str x), .da (.int g)] → WdD C W ts rows s → rows[i]? = some (.tup asks) → D.tup [.str x, .tup zs] ∈ asks → D.tup [.int g, .int p] ∈ zs → d = .int p }
theorem dW_price {f : Addr} {fd : FuncData} (B : Bly mg) (W : TWo K mg C fI fE CB fdI fdE) (F : Mn K C "price" "World.price" s_price ["self", "standing", "name", "goal"] f fd)
    (D_answer_at : Dk P w K mg base "answer_at" CX0 2 ["answers", "goal"] (spW c_answer_at 2))
    (M__ask_at : Dm P w K mg base C "_ask_at" CX0 5 ["self", "standing", "name"] (spW (c_ask_at C) 3)) (M__answers_of : Dm P w K mg base C "_answers_of" CX0 1 ["self", "standing", "at"] (spW (c_answers_of C) 3)) :
    DmX f fd P w K mg base C "price" CX0 6 ["self", "standing", "name", "goal"] (spW (c_priceW C) 4) := by
  refine F.ok sc_price rfl fun cdv A outer s H E as hr ⟨y, ts, rows, s0, i, asks, x, zs, g, p, e, wd, hi, er, hm, hz⟩ _ => ?_
  subst e
  obtain rfl := wd.e
  obtain ⟨rl, ra⟩ := asks_row wd.asks
  obtain ⟨an, lz, nx, pz⟩ := ask_get wd er hm
  refine ⟨_, (pss_cons (ps_set (i := 4) sc_price.nd rfl (by first | exact Or.inl rfl | exact Or.inr rfl) (pe_methD (pv 0) W.cl M__answers_of (hr.mono (by decide)) pass0 (pa_cons (pv 1) (pa_cons (pe_methD (pv 0) W.cl M__ask_at (hr.mono (by decide)) pass0 (pa_cons (pv 1) (pa_cons (pv 2) pa_nil))) pa_nil))))
    (pss_one (ps_ret (pe_ix (ix_K (K := K) rfl) (pe_ix (ix_K (K := K) rfl) (pv 4) (pe_callD D_answer_at (hr.mono (by decide)) (by rfl) pass0 (pa_cons (pv 4) (pa_cons (pv 3) pa_nil))) (fun _ _ => rfl)) pe_int (fun _ _ => rfl))))), fun T => ?_⟩
  refine wps_seq (wps_set (wpe_meth (by decide +kernel) (wpe_var rfl ⟨⟨_, rfl⟩, wpa_cons (wpe_var rfl (wpa_cons (wpe_meth (by decide +kernel) (wpe_var rfl ⟨⟨_, rfl⟩, wpa_cons (wpe_var rfl (wpa_cons (wpe_var rfl (wpa_nil ⟨rfl, ⟨_, ts, rows, s0, i, asks, x, _, rfl, wd, hi, er, hm⟩, fun d hd => ?_, fun _ _ z => z⟩))))⟩))))⟩)))
  obtain ⟨k, b, rfl, ek⟩ : ∃ (k : Nat) (b : D), d = .int k ∧ (rowsD (rows.getD ((i : Int).toNat) .non))[k]? = some (.tup [.str x, b]) := hd
  rw [Int.toNat_natCast, getD_of er] at ek
  have ek : asks[k]? = some (.tup [.str x, b]) := ek
  obtain rfl : b = .tup zs := one_name (ra _ (List.mem_of_getElem? er)) (List.mem_of_getElem? ek) hm
  refine wpa_nil ⟨rfl, ⟨_, ts, rows, s0, i, asks, k, _, _, rfl, wd, er, ek⟩, fun d hd => ?_, fun _ _ z => z⟩
  have hd := hd (.str x) (.tup zs) (by rw [Int.toNat_natCast, Int.toNat_natCast, getD_of er]; exact ek)
  subst hd
  obtain ⟨j, ej⟩ := List.mem_iff_getElem?.mp hz
  have ejg : (zs.map fun a => intOf (fstD a))[j]? = some g := by rw [List.getElem?_map, ej]; rfl
  refine wps_ret (wpe_op (wpe_op (wpe_var rfl (wpe_call0 (wpa_cons (wpe_var rfl (wpa_cons (wpe_var rfl (wpa_nil ⟨rfl, ⟨zs, g, j, rfl, fun a ha => (by
    obtain ⟨g, q, rfl, _⟩ := an a ha
    exact ⟨g, q, rfl⟩), pz, ejg, by omega⟩, fun d hd => ?_, fun _ _ z => z⟩)))))))))
  obtain ⟨j', rfl, ej'⟩ : ∃ j : Nat, d = .int j ∧ (zs.map fun a => intOf (fstD a))[j]? = some g := hd
  have ejj : j' = j := pw_inj (f := fun a => intOf (fstD a)) (fun a => Int.lt_irrefl a) pz (show zs[j']? = some (zs[j']'(by have := (List.getElem?_eq_some_iff.mp ej').1; rwa [List.length_map] at this)) from List.getElem?_eq_getElem _) ej (by
    have := List.getElem?_map (f := fun a => intOf (fstD a)) (l := zs) (i := j')
    rw [ej', List.getElem?_eq_getElem (by have := (List.getElem?_eq_some_iff.mp ej').1; rwa [List.length_map] at this)] at this
    exact (Option.some.inj this).symm)
  subst ejj
  refine opd_ix (n := j') (.inr rfl) rfl ej (wpe_int (opd_ix (n := 1) (.inr rfl) rfl rfl ?_))
  intro W' us ss z i' bs x' zs' g' p' e2 w2 er2 hm2 hz2
  obtain ⟨h1, h2⟩ := List.cons.inj e2
  obtain ⟨h2, h3⟩ := List.cons.inj h2
  obtain ⟨h3, h4⟩ := List.cons.inj h3
  obtain rfl := Sl.da.inj h1
  obtain ⟨rfl, rfl, rfl⟩ := wd_rows wd w2
  obtain rfl := Int.ofNat.inj (D.int.inj (Sl.da.inj h2))
  obtain rfl := D.str.inj (Sl.da.inj h3)
  obtain rfl := D.int.inj (Sl.da.inj (List.cons.inj h4).1)
  rw [er] at er2
  obtain rfl := D.tup.inj (Option.some.inj er2)
  obtain rfl := D.tup.inj (one_name (ra _ (List.mem_of_getElem? er)) hm hm2)
  obtain ⟨j2, ej2⟩ := List.mem_iff_getElem?.mp hz2
  obtain rfl := pw_inj (f := fun a => intOf (fstD a)) (fun a => Int.lt_irrefl a) pz ej2 ej rfl
  rw [ej] at ej2
  exact ((List.cons.inj (List.cons.inj (D.tup.inj (Option.some.inj ej2))).2).1)
end
end Nv
namespace Nv
open PySem PySem.Spec PyProof.Rows L2
/-- what is found from f behind i rounds of the law's own search -/
structure BInv (ss : List (List Int)) (f : Int) (i : Nat) (zs : List Int) : Prop where
  nd : zs.Nodup
  inN : InN ss.length zs
  has : f ∈ zs
  least : ∀ P : Int → Prop, Closed ss P → P f → ∀ z ∈ zs, P z
  cl : ∀ j, j < i → ∀ g row, zs[j]? = some g → ss[g.toNat]? = some row → ∀ x ∈ row, x ∈ zs
theorem BInv.start {ss : List (List Int)} {f : Int} (h0 : 0 ≤ f) (h1 : f < ss.length) : BInv ss f 0 [f] :=
  ⟨by simp, fun z hz => by rw [List.mem_singleton] at hz; subst hz; exact ⟨h0, h1⟩, by simp, fun P _ p z hz => by rw [List.mem_singleton] at hz; subst hz; exact p, fun j hj => absurd hj (Nat.not_lt_zero _)⟩
theorem BInv.skip {ss : List (List Int)} {f : Int} {i : Nat} {zs : List Int} (b : BInv ss f i zs) (l : zs.length ≤ i) : BInv ss f (i + 1) zs :=
  ⟨b.nd, b.inN, b.has, b.least, fun j hj g row e => b.cl j (by have := (List.getElem?_eq_some_iff.mp e).1; omega) g row e⟩
theorem BInv.grow {ss : List (List Int)} {f : Int} {i : Nat} {zs ns : List Int} {g : Int} {row : List Int} (b : BInv ss f i zs) (eg : zs[i]? = some g) (er : ss[g.toNat]? = some row) (rin : InN ss.length row)
    (nd : (zs ++ ns).Nodup) (sub : ∀ x ∈ ns, x ∈ row) (all : ∀ x ∈ row, x ∈ zs ++ ns) : BInv ss f (i + 1) (zs ++ ns) := by
  obtain ⟨g0, _⟩ := b.inN g (List.mem_of_getElem? eg)
  refine ⟨nd, fun z hz => ?_, List.mem_append_left _ b.has, fun P hc pf z hz => ?_, fun j hj g' row' e1 e2 x hx => ?_⟩
  · rcases List.mem_append.mp hz with h | h
    · exact b.inN z h
    · exact rin z (sub z h)
  · rcases List.mem_append.mp hz with h | h
    · exact b.least P hc pf z h
    · exact hc g.toNat row er (by rw [Int.toNat_of_nonneg g0]; exact b.least P hc pf g (List.mem_of_getElem? eg)) z (sub z h)
  · have li := (List.getElem?_eq_some_iff.mp eg).1
    rw [List.getElem?_append_left (by omega)] at e1
    by_cases e : j = i
    · subst e
      rw [eg] at e1
      obtain rfl := Option.some.inj e1
      rw [er] at e2
      obtain rfl := Option.some.inj e2
      exact all x hx
    · exact List.mem_append_left _ (b.cl j (by omega) g' row' e1 e2 x hx)
theorem BInv.done {ss : List (List Int)} {f : Int} {zs ys : List Int} (b : BInv ss f ss.length zs) (hp : ys.Perm zs) (hs : ys.Pairwise (· ≤ ·)) : Comes [f] ss ys := by
  have lz := bound b.inN b.nd
  have nd := hp.nodup_iff.mpr b.nd
  refine ⟨(hs.and nd).imp fun {a b} ⟨h1, h2⟩ => by omega, fun z hz => b.inN z (hp.mem_iff.mp hz), fun z hz => ?_, fun i row e hi x hx => ?_, fun P hc hf z hz => b.least P hc (hf f (by simp)) z (hp.mem_iff.mp hz)⟩
  · rw [List.mem_singleton] at hz
    subst hz
    exact hp.mem_iff.mpr b.has
  · obtain ⟨j, ej⟩ := List.mem_iff_getElem?.mp (hp.mem_iff.mp hi)
    have lj := (List.getElem?_eq_some_iff.mp ej).1
    exact hp.mem_iff.mpr (b.cl j (by omega) _ row ej (by rw [Int.toNat_natCast]; exact e) x hx)
section
variable {R : Rg} {δ : List Sl} {te : TE} {Φ : List Sl → Prop} {Ψ : D → Prop}
/-- x = [e], owned -/
theorem wps_newl1 {i : Nat} (h : WpE R te δ fun d => ∀ p, Φ (δ.set i (.ow p [d]))) : WpS R (tAsg (tLst (tCons te tNil)) (gName i)) δ Φ Ψ := fun σ G H en rz Z k1 k2 =>
  h σ G H en rz _ fun v d G1 H1 s1 e1 a1 q => ⟨by show 1 ≤ sizeLine; decide, fun p hp =>
    k1 _ _ G1 _ ((s1.toB en.old).trans ((Stp.grow (S := R.T.S) (same_upd hp)).toB e1.old)) (e1.ownL hp (.cons a1 .nil)) (q p)⟩
end
section
variable {P : Program} {w : World} {K : PySem.W.Frag} {mg : Str → Option Value} {base : Heap} {C fI fE CB : Addr} {fdI fdE : FuncData}
abbrev s__law_reach : Stmt := top 40
theorem sc__law_reach : FnScope ["plain", "first", "found", "at", "leads", "name", "answers", "goal", "price", "standing"] ["plain", "first"] (defScope s__law_reach) :=
  ⟨rfl, rfl, rfl, by decide +kernel, rfl, by decide +kernel, by decide +kernel⟩
abbrev s__law_is_int : Stmt := top 41
theorem sc__law_is_int : FnScope ["value"] ["value"] (defScope s__law_is_int) :=
  ⟨rfl, rfl, rfl, by decide +kernel, rfl, by decide +kernel, by decide +kernel⟩
def c_clo5 : Spc :=
  { pre := fun as => ∃ (ts : List (List Int)) (s : Nat), as = [.da (tD ts), .da (.int s)] ∧ s < ts.length ∧ ts.length ≤ 400 ∧ ∀ zs ∈ ts, InN ts.length zs ∧ zs.Nodup
    post := fun as d => ∀ (ts : List (List Int)) (s : Nat), as = [.da (tD ts), .da (.int s)] → ∃ ys : List Int, d = .lst (ys.map D.int) ∧ Comes [(s : Int)] ts ys }
theorem d_clo5 {f : Addr} {fd : FuncData} (B : Bly mg) (F : Fn K mg "_law_closure" s__law_closure ["turns", "first"] f fd) : Dk P w K mg base "_law_closure" CX0 1 ["turns", "first"] (spW c_clo5 2) := by
  refine F.ok sc__law_closure rfl fun cdv A outer s H E as hr ⟨ts, s9, e, lt, ln, rows⟩ _ => ⟨_, (pss_cons (ps_set (i := 2) sc__law_closure.nd rfl (by first | exact Or.inl rfl | exact Or.inr rfl) (pe_lst (pa_cons (pv 1) pa_nil)))
    (pss_cons (ps_for PassesOwn.never rfl (pi_range1 (by rfl) B.rng (pa_cons (pe_callB (call_lenK (K := K) rfl) (by rfl) B.len b_len (pa_cons (pv 0) pa_nil)) pa_nil)) (pg_name (i := 3) sc__law_closure.nd rfl (by first | exact Or.inl rfl | exact Or.inr rfl)) (pss_one (ps_if (pt_cmpR (op_lt.or op_lt_str) (pv 3) (pe_callB (call_lenK (K := K) rfl) (by rfl) B.len b_len (pa_cons (pv 2) pa_nil)) (nomark _)) (pss_one (ps_set (i := 2) sc__law_closure.nd rfl (by first | exact Or.inl rfl | exact Or.inr rfl) (pe_op op_cat (pv 2) (pe_lc (own := [("goal", 4)]) (g := gName 4) (by rfl) sc__law_closure.nd (pi_seq (pe_ix (ix_K (K := K) rfl) (pv 0) (pe_ix (ix_K (K := K) rfl) (pv 2) (pv 3) (fun _ _ => rfl)) (fun _ _ => rfl))) (blkOk_by (N := ["turns", "first", "found", "at", "goal", "standing"]) (sc := defScope s__law_closure) (by decide +kernel)) (fun _ _ _ _ _ => pg_name (i := 4) sc__law_closure.nd rfl (by first | exact Or.inl rfl | exact Or.inr rfl)) (fun _ _ _ _ _ => (pts_one (pt_cmpR (op_notinK (K := K) rfl) (pv 4) (pv 2) (by with_unfolding_all rfl)))) (fun _ _ _ _ _ => (pv 4)))))) pss_nil)))
    (pss_one (ps_ret (pe_callB (cr_sortedK (K := K) rfl) (by rfl) B.srt b_sorted (pa_cons (pe_lc (own := [("standing", 5)]) (g := gName 5) (tt := tYes) (by rfl) sc__law_closure.nd (pi_seq (pv 2)) (blkOk_by (N := ["turns", "first", "found", "at", "goal", "standing"]) (sc := defScope s__law_closure) (by decide +kernel)) (fun _ _ _ _ _ => pg_name (i := 5) sc__law_closure.nd rfl (by first | exact Or.inl rfl | exact Or.inr rfl)) (fun _ _ _ _ _ => pts_nil) (fun _ _ _ _ _ => (pe_callTy call_int1 (by rfl) B.int b_int (pa_cons (pv 5) pa_nil)))) pa_nil)))))), fun T => ?_⟩
  subst e
  refine wps_seq (wps_set (wpe_lstL (wpl_cons (wpe_var rfl (wpl_nil ⟨by show 1 ≤ 1000; decide, ?_⟩)))))
  refine wps_seq (wps_for (js := [3]) (wpi_rng1 (wpe_cb1 (wpe_var rfl (cbd_l (cbd_len (.inr rfl) ⟨_, rfl, by omega, by rw [List.length_map]; omega, ?_⟩))))))
  rw [List.length_map, Int.toNat_natCast]
  refine ⟨fun i δ' => ∃ (zs : List Int) (x3 x4 x5 : Sl), δ' = [.da (tD ts), .da (.int s9), .da (.lst (zs.map D.int)), x3, x4, x5] ∧ BInv ts s9 i zs, ⟨[(s9 : Int)], _, _, _, rfl, .start (by omega) (by omega)⟩, ?_, ?_⟩
  · rintro i d δ' ed ⟨zs, x3, x4, x5, rfl, b⟩
    obtain ⟨ed, li⟩ := rngD_at ed
    rw [Int.zero_add] at ed
    subst ed
    have lz := bound b.inN b.nd
    refine wpg_name (wps_if (wpt_test (wpe_op (wpe_var rfl (wpe_cb1 (wpe_var rfl (cbd_l (cbd_len (.inl rfl) (opd_l (opd_b ?_))))))))))
    rw [List.length_map]
    refine ⟨_, rfl, ite_b (fun h => ?_) (fun h => ?_)⟩
    · have lt2 : i < zs.length := by have := of_decide_eq_true h; omega
      have eg : zs[i]? = some zs[i] := List.getElem?_eq_getElem lt2
      generalize zs[i] = g at eg
      obtain ⟨g0, g1⟩ := b.inN g (List.mem_of_getElem? eg)
      have er : ts[g.toNat]? = some (ts[g.toNat]'(by omega)) := List.getElem?_eq_getElem _
      generalize ts[g.toNat]'(by omega) = row at er
      obtain ⟨rin, rnd⟩ := rows row (List.mem_of_getElem? er)
      have lrow := bound rin rnd
      refine wps_set (wpe_op (wpe_var rfl (wpe_lc (js := [4]) (by simp) (wpi_seq (wpe_op (wpe_var rfl (wpe_op (wpe_var rfl (wpe_var rfl (opd_ix (n := i) (.inl rfl) rfl (by rw [List.getElem?_map, eg]; rfl) (opd_ix (n := g.toNat) (.inr rfl) (by omega) (by rw [List.getElem?_map, er]; rfl)
        ⟨_, .inr rfl, by rw [List.length_map]; omega, fun j acc => acc = ((row.take j).filter fun z => !decide (z ∈ zs)).map D.int, rfl, ?_, ?_⟩)))))))))))
      · rintro j d acc ed rfl _
        rw [List.getElem?_map] at ed
        obtain ⟨z, ez, rfl⟩ := Option.map_eq_some_iff.mp ed
        refine wpg_name (wpt_test (wpe_op (wpe_var rfl (wpe_var rfl (opd_inI (.inl rfl) ⟨_, rfl, ite_b (fun h => ?_) (fun h => ?_)⟩)))))
        · refine wpe_var rfl ?_
          have h : (!decide (z ∈ zs)) = true := h
          show _ = ((row.take (j + 1)).filter fun z => !decide (z ∈ zs)).map D.int
          rw [List.take_add_one, ez, List.filter_append, List.map_append]
          simp only [Option.toList_some, List.filter_cons, h, if_true, List.filter_nil, List.map_cons, List.map_nil]
        · have h : (!decide (z ∈ zs)) = false := h
          show _ = ((row.take (j + 1)).filter fun z => !decide (z ∈ zs)).map D.int
          rw [List.take_add_one, ez, List.filter_append, List.map_append]
          simp only [Option.toList_some, List.filter_cons, h, List.filter_nil, List.map_nil, List.append_nil]
          simp
      · rintro acc rfl _
        rw [List.length_map, List.take_length]
        have lf := List.length_filter_le (fun z => !decide (z ∈ zs)) row
        refine opd_catL (by rw [List.length_map, List.length_map]; omega) ?_
        rw [← List.map_append]
        refine ⟨_, _, _, _, rfl, b.grow eg er rin ?_ (fun x hx => (List.mem_filter.mp hx).1) fun x hx => ?_⟩
        · rw [List.nodup_append]
          refine ⟨b.nd, rnd.filter _, fun a ha c hc e => ?_⟩
          subst e
          have := (List.mem_filter.mp hc).2
          simp [ha] at this
        · by_cases m : x ∈ zs
          · exact List.mem_append_left _ m
          · exact List.mem_append_right _ (List.mem_filter.mpr ⟨hx, by simp [m]⟩)
    · have ge : zs.length ≤ i := by have := of_decide_eq_false h; omega
      exact wps_nil ⟨zs, _, _, _, rfl, b.skip ge⟩
  · rintro δ' ⟨zs, x3, x4, x5, rfl, b⟩
    rw [rngD_len] at b
    have lz := bound b.inN b.nd
    refine wps_ret (wpe_cb1 (wpe_map id (by simp) (wpi_seq (wpe_var rfl ⟨_, .inl rfl, by rw [List.length_map]; omega, fun d hd => ?_, ?_⟩))))
    · obtain ⟨z, _, rfl⟩ := List.mem_map.mp hd
      exact wpe_cb1 (wpe_var rfl (cbd_int1 rfl))
    · rw [List.map_id]
      refine cbd_sorted fun ys hp hs => ?_
      intro ts' s' e
      obtain ⟨e1, e2⟩ := List.cons.inj e
      obtain ⟨e2, _⟩ := List.cons.inj e2
      obtain rfl := tD_inj (Sl.da.inj e1)
      obtain rfl := Int.ofNat.inj (D.int.inj (Sl.da.inj e2))
      exact ⟨ys, rfl, b.done hp hs⟩
def c_lreach : Spc :=
  { pre := fun as => ∃ (ts : List (List Int)) (rows : List D) (z : Int) (s : Nat), as = [.da (.tup [tD ts, .tup rows, .int z]), .da (.int s)] ∧ s < ts.length ∧ Pl 400 ts rows
    post := fun as d => ∀ (ts : List (List Int)) (rows : List D) (z : Int) (s : Nat), as = [.da (.tup [tD ts, .tup rows, .int z]), .da (.int s)] → ∃ ys : List Int, d = .lst (ys.map D.int) ∧ Comes [(s : Int)] (stepsW ts rows) ys }
theorem d_lreach {f : Addr} {fd : FuncData} (B : Bly mg) (F : Fn K mg "_law_reach" s__law_reach ["plain", "first"] f fd) : Dk P w K mg base "_law_reach" CX0 1 ["plain", "first"] (spW c_lreach 2) := by
  refine F.ok sc__law_reach rfl fun cdv A outer s H E as hr ⟨ts, rows, z0, s9, e, lt, pl⟩ _ => ⟨_, (pss_cons (ps_set (i := 2) sc__law_reach.nd rfl (by first | exact Or.inl rfl | exact Or.inr rfl) (pe_lst (pa_cons (pv 1) pa_nil)))
    (pss_cons (ps_for PassesOwn.never rfl (pi_range1 (by rfl) B.rng (pa_cons (pe_callB (call_lenK (K := K) rfl) (by rfl) B.len b_len (pa_cons (pe_ix (ix_K (K := K) rfl) (pv 0) pe_int (fun _ _ => rfl)) pa_nil)) pa_nil)) (pg_name (i := 3) sc__law_reach.nd rfl (by first | exact Or.inl rfl | exact Or.inr rfl)) (pss_one (ps_if (pt_cmpR (op_lt.or op_lt_str) (pv 3) (pe_callB (call_lenK (K := K) rfl) (by rfl) B.len b_len (pa_cons (pv 2) pa_nil)) (nomark _)) (pss_cons (ps_set (i := 4) sc__law_reach.nd rfl (by first | exact Or.inl rfl | exact Or.inr rfl) (pe_callTy (call_listK (K := K) rfl) (by rfl) B.list b_list (pa_cons (pe_ix (ix_K (K := K) rfl) (pe_ix (ix_K (K := K) rfl) (pv 0) pe_int (fun _ _ => rfl)) (pe_ix (ix_K (K := K) rfl) (pv 2) (pv 3) (fun _ _ => rfl)) (fun _ _ => rfl)) pa_nil)))
        (pss_cons (ps_for PassesOwn.never rfl (pi_seq (pe_ix (ix_K (K := K) rfl) (pe_ix (ix_K (K := K) rfl) (pv 0) pe_int (fun _ _ => rfl)) (pe_ix (ix_K (K := K) rfl) (pv 2) (pv 3) (fun _ _ => rfl)) (fun _ _ => rfl))) (pg_tup rfl (pgs_cons (pg_name (i := 5) sc__law_reach.nd rfl (by first | exact Or.inl rfl | exact Or.inr rfl)) (pgs_cons (pg_name (i := 6) sc__law_reach.nd rfl (by first | exact Or.inl rfl | exact Or.inr rfl)) pgs_nil))) (pss_one (ps_set (i := 4) sc__law_reach.nd rfl (by first | exact Or.inl rfl | exact Or.inr rfl) (pe_op op_cat (pv 4) (pe_lc (own := [("goal", 7), ("price", 8)]) (g := gTup K 2 (gCons (gName 7) (gCons (gName 8) gNil))) (tt := tYes) (by rfl) sc__law_reach.nd (pi_seq (pv 6)) (blkOk_by (N := ["plain", "first", "found", "at", "leads", "name", "answers", "goal", "price", "standing"]) (sc := defScope s__law_reach) (by decide +kernel)) (fun _ _ _ _ _ => pg_tup rfl (pgs_cons (pg_name (i := 7) sc__law_reach.nd rfl (by first | exact Or.inl rfl | exact Or.inr rfl)) (pgs_cons (pg_name (i := 8) sc__law_reach.nd rfl (by first | exact Or.inl rfl | exact Or.inr rfl)) pgs_nil))) (fun _ _ _ _ _ => pts_nil) (fun _ _ _ _ _ => (pv 7)))))))
        (pss_one (ps_for PassesOwn.never rfl (pi_seq (pv 4)) (pg_name (i := 7) sc__law_reach.nd rfl (by first | exact Or.inl rfl | exact Or.inr rfl)) (pss_one (ps_if (pt_cmpR (op_notinK (K := K) rfl) (pv 7) (pv 2) (by with_unfolding_all rfl)) (pss_one (ps_expr (pe_bm PySem.F.plainAttrs_list PySem.F.slot_list_append PySem.F.type_list_append mt_append (pv 2) (pa_cons (pv 7) pa_nil)))) pss_nil)))))) pss_nil)))
    (pss_one (ps_ret (pe_callB (cr_sortedK (K := K) rfl) (by rfl) B.srt b_sorted (pa_cons (pe_lc (own := [("standing", 9)]) (g := gName 9) (tt := tYes) (by rfl) sc__law_reach.nd (pi_seq (pv 2)) (blkOk_by (N := ["plain", "first", "found", "at", "leads", "name", "answers", "goal", "price", "standing"]) (sc := defScope s__law_reach) (by decide +kernel)) (fun _ _ _ _ _ => pg_name (i := 9) sc__law_reach.nd rfl (by first | exact Or.inl rfl | exact Or.inr rfl)) (fun _ _ _ _ _ => pts_nil) (fun _ _ _ _ _ => (pe_callTy call_int1 (by rfl) B.int b_int (pa_cons (pv 9) pa_nil)))) pa_nil)))))), fun T => ?_⟩
  subst e
  obtain ⟨rl, ra⟩ := asks_row pl.a
  have sl := stepsW_len rl
  have sb := steps_le pl
  have most := pl.most
  refine wps_seq (wps_newl1 (wpe_var rfl fun p => ?_))
  refine wps_seq (wps_for (js := [3]) (wpi_rng1 (wpe_cb1 (wpe_op (wpe_var rfl (wpe_int (opd_ix (n := 0) (.inr rfl) rfl rfl (cbd_l (cbd_len (.inr rfl) ⟨_, rfl, by omega, by rw [List.length_map]; omega, ?_⟩)))))))))
  rw [List.length_map, Int.toNat_natCast]
  refine ⟨fun i δ' => ∃ (zs : List Int) (x3 x4 x5 x6 x7 : Sl), δ' = [.da (.tup [tD ts, .tup rows, .int z0]), .da (.int s9), .ow p (zs.map D.int), x3, x4, x5, x6, x7, .no, .no] ∧ BInv (stepsW ts rows) s9 i zs, ⟨[(s9 : Int)], _, _, _, _, _, rfl, .start (by omega) (by rw [sl]; omega)⟩, ?_, ?_⟩
  · rintro i d δ' ed ⟨zs, x3, x4, x5, x6, x7, rfl, b⟩
    obtain ⟨ed, li⟩ := rngD_at ed
    rw [Int.zero_add] at ed
    subst ed
    have lz := bound b.inN b.nd
    rw [sl] at lz
    refine wpg_name (wps_if (wpt_test (wpe_op (wpe_var rfl (wpe_lenO (i := 2) rfl (opd_l (opd_b ?_)))))))
    rw [List.length_map]
    refine ⟨_, rfl, ite_b (fun h => ?_) (fun h => ?_)⟩
    · have lt2 : i < zs.length := by have := of_decide_eq_true h; omega
      have eg : zs[i]? = some zs[i] := List.getElem?_eq_getElem lt2
      generalize zs[i] = g at eg
      obtain ⟨g0, g1⟩ := b.inN g (List.mem_of_getElem? eg)
      rw [sl] at g1
      obtain ⟨t, et⟩ := at_some (xs := ts) (k := g.toNat) rfl (by omega)
      obtain ⟨r, er⟩ := at_some (xs := rows) (k := g.toNat) rl (by omega)
      have ii := pl.t.inn t (List.mem_of_getElem? et)
      obtain ⟨asks, rfl, l160, al⟩ := row_of (ra r (List.mem_of_getElem? er))
      have sg := stepsW_get et er
      have sbb := sb _ (List.mem_of_getElem? sg)
      rw [List.length_append] at sbb
      refine wps_seq (wps_set (wpe_cb1 (wpe_op (wpe_op (wpe_var rfl (wpe_int (opd_ix (n := 0) (.inr rfl) rfl rfl (wpe_ixO (i := 2) rfl (wpe_var rfl ⟨i, _, rfl, by rw [List.getElem?_map, eg]; rfl, opd_ix (n := g.toNat) (.inr rfl) (by omega) (by rw [List.getElem?_map, et]; rfl) (cbd_lstOf (.inr rfl) ?_)⟩)))))))))
      refine wps_seq (wps_for (js := [5, 6]) (wpi_seq (wpe_op (wpe_op (wpe_var rfl (wpe_int (opd_ix (n := 1) (.inr rfl) rfl rfl (wpe_ixO (i := 2) rfl (wpe_var rfl ⟨i, _, rfl, by rw [List.getElem?_map, eg]; rfl, opd_ix (n := g.toNat) (.inr rfl) (by omega) er ⟨_, .inr rfl, ?_⟩⟩)))))))))
      refine ⟨fun j δ' => ∃ x5 x6 : Sl, δ' = [.da (.tup [tD ts, .tup rows, .int z0]), .da (.int s9), .ow p (zs.map D.int), .da (.int i), .da (.lst ((t ++ goalsI (.tup (asks.take j))).map D.int)), x5, x6, x7, .no, .no], ⟨x5, x6, ?_⟩, ?_, ?_⟩
      · rw [List.take_zero, show goalsI (.tup []) = [] from rfl, List.append_nil]
        rfl
      · rintro j d δ' ed ⟨y5, y6, rfl⟩
        obtain ⟨x, as, rfl, nx, nz, aa, pz⟩ := al d (List.mem_of_getElem? ed)
        have gt := goals_take ed
        have lg : (goalsI (.tup (asks.take j))).length + ((goalsA (.tup [.str x, .tup as])).map intOf).length ≤ (goalsI (.tup asks)).length := by
          have e1 : goalsI (.tup asks) = goalsI (.tup (asks.take (j + 1))) ++ goalsI (.tup (asks.drop (j + 1))) := by
            show (asks.flatMap goalsA).map intOf = ((asks.take (j + 1)).flatMap goalsA).map intOf ++ ((asks.drop (j + 1)).flatMap goalsA).map intOf
            rw [← List.map_append, ← List.flatMap_append, List.take_append_drop]
          rw [e1, gt, List.length_append, List.length_append]
          omega
        have la : (goalsA (.tup [.str x, .tup as])).length = as.length := List.length_map ..
        rw [List.length_map, la] at lg
        refine wpg_pair ⟨_, _, rfl, wps_set (wpe_op (wpe_var rfl (wpe_map2 fstD (by simp) (by simp) (wpi_seq (wpe_var rfl ⟨_, .inr rfl, by omega, fun d hd => ?_, opd_catL (by rw [List.length_map, List.length_map, List.length_append]; omega) ?_⟩)))))⟩
        · obtain ⟨g, q, rfl, _⟩ := aa d hd
          exact ⟨_, _, rfl, wpe_var rfl rfl⟩
        · refine ⟨.da (.str x), .da (.tup as), ?_⟩
          rw [gt, ← List.append_assoc, List.map_append (l₁ := t ++ goalsI (.tup (asks.take j)))]
          have e2 : as.map fstD = ((goalsA (.tup [.str x, .tup as])).map intOf).map D.int := by
            show as.map fstD = ((as.map fstD).map intOf).map D.int
            rw [List.map_map, List.map_map]
            refine List.map_congr_left fun b hb => ?_
            obtain ⟨g, q, rfl, _⟩ := aa b hb
            rfl
          rw [e2]
          rfl
      · rintro δ' ⟨y5, y6, rfl⟩
        rw [List.take_length]
        generalize hrow : t ++ goalsI (.tup asks) = row at sg
        have lrow : row.length ≤ 100000 := by rw [← hrow, List.length_append]; exact sbb
        have rin : InN (stepsW ts rows).length row := by
          rw [sl, ← hrow]
          intro v hv
          rcases List.mem_append.mp hv with h | h
          · exact ii.1 v h
          · exact goalsI_in (ra _ (List.mem_of_getElem? er)) v h
        refine wps_for (js := [7]) (wpi_seq (wpe_var rfl ⟨_, .inl rfl, ?_⟩))
        refine ⟨fun j δ' => ∃ (ns : List Int) (x7 : Sl), δ' = [.da (.tup [tD ts, .tup rows, .int z0]), .da (.int s9), .ow p ((zs ++ ns).map D.int), .da (.int i), .da (.lst (row.map D.int)), y5, y6, x7, .no, .no] ∧ (zs ++ ns).Nodup ∧ (∀ x ∈ ns, x ∈ row) ∧ ∀ x ∈ row.take j, x ∈ zs ++ ns,
          ⟨[], x7, by rw [List.append_nil], by rw [List.append_nil]; exact b.nd, by simp, by simp⟩, ?_, ?_⟩
        · rintro j d δ' ed ⟨ns, x7, rfl, nd, sub, tk⟩
          rw [List.getElem?_map] at ed
          obtain ⟨v, ev, rfl⟩ := Option.map_eq_some_iff.mp ed
          have vr := List.mem_of_getElem? ev
          have lzn : (zs ++ ns).length ≤ ts.length := by
            rw [← sl]
            refine bound (fun y hy => ?_) nd
            rcases List.mem_append.mp hy with h | h
            · exact b.inN y h
            · exact rin y (sub y h)
          refine wpg_name (wps_if (wpt_test (wpe_inO (i := 2) rfl (wpe_var rfl ⟨v, rfl, _, rfl, ite_b (fun h => ?_) (fun h => ?_)⟩))))
          · have nv : v ∉ zs ++ ns := fun m => by
              have h : (!decide (v ∈ zs ++ ns)) = true := h
              rw [decide_eq_true m] at h
              cases h
            refine wps_append (i := 2) rfl (by rw [List.length_map]; omega) (wpe_var rfl ⟨ns ++ [v], .da (.int v), ?_, ?_, fun x hx => ?_, fun x hx => ?_⟩)
            · rw [← List.append_assoc, List.map_append (l₁ := zs ++ ns)]
              rfl
            · rw [← List.append_assoc, List.nodup_append]
              exact ⟨nd, by simp, fun a ha c hc => by
                rw [List.mem_singleton] at hc
                subst hc
                exact fun e => nv (by rw [← e]; exact ha)⟩
            · rcases List.mem_append.mp hx with h | h
              · exact sub x h
              · rw [List.mem_singleton] at h
                subst h
                exact vr
            · rw [← List.append_assoc]
              rw [List.take_add_one, ev] at hx
              rcases List.mem_append.mp hx with h | h
              · exact List.mem_append_left _ (tk x h)
              · exact List.mem_append_right _ (by simpa using h)
          · have mv : v ∈ zs ++ ns := by
              have h : (!decide (v ∈ zs ++ ns)) = false := h
              exact of_decide_eq_true (by rw [Bool.not_eq_false'] at h; exact h)
            refine wps_nil ⟨ns, .da (.int v), rfl, nd, sub, fun x hx => ?_⟩
            rw [List.take_add_one, ev] at hx
            rcases List.mem_append.mp hx with h | h
            · exact tk x h
            · obtain rfl : x = v := by simpa using h
              exact mv
        · rintro δ' ⟨ns, x7, rfl, nd, sub, tk⟩
          rw [List.length_map, List.take_length] at tk
          exact ⟨zs ++ ns, _, _, _, _, _, rfl, b.grow eg sg rin nd sub tk⟩
    · have ge : zs.length ≤ i := by have := of_decide_eq_false h; omega
      exact wps_nil ⟨zs, _, _, _, _, _, rfl, b.skip ge⟩
  · rintro δ' ⟨zs, x3, x4, x5, x6, x7, rfl, b⟩
    rw [rngD_len, ← sl] at b
    have lz := bound b.inN b.nd
    rw [sl] at lz
    refine wps_freeze (i := 2) rfl (wps_ret (wpe_cb1 (wpe_map id (by simp) (wpi_seq (wpe_var rfl ⟨_, .inl rfl, by rw [List.length_map]; omega, fun d hd => ?_, ?_⟩)))))
    · obtain ⟨z, _, rfl⟩ := List.mem_map.mp hd
      exact wpe_cb1 (wpe_var rfl (cbd_int1 rfl))
    · rw [List.map_id]
      refine cbd_sorted fun ys hp hs => ?_
      intro ts' rows' z' s' e
      obtain ⟨e1, e2⟩ := List.cons.inj e
      obtain ⟨e2, _⟩ := List.cons.inj e2
      obtain ⟨a1, a2⟩ := List.cons.inj (D.tup.inj (Sl.da.inj e1))
      obtain rfl := tD_inj a1
      obtain rfl := D.tup.inj (List.cons.inj a2).1
      obtain rfl := Int.ofNat.inj (D.int.inj (Sl.da.inj e2))
      exact ⟨ys, rfl, b.done hp hs⟩
def c_lint : Spc := { pre := fun as => ∃ i : Int, as = [.da (.int i)], post := fun _ d => d = .bl true }
theorem d_lint {f : Addr} {fd : FuncData} (B : Bly mg) (F : Fn K mg "_law_is_int" s__law_is_int ["value"] f fd) : Dk P w K mg base "_law_is_int" CX0 1 ["value"] (spW c_lint 1) := by
  refine F.ok sc__law_is_int rfl fun cdv A outer s H E as hr ⟨i, e⟩ _ => ⟨_, (pss_one (ps_ret (pe_and (pe_callB (call_isiK (K := K) rfl) (by rfl) B.isi b_isinstance (pa_cons (pv 0) (pa_cons (pe_bltn (v := .ty "int") (by rfl) B.int b_int rfl) pa_nil))) (pe_one (pe_not (pe_callB (call_isiK (K := K) rfl) (by rfl) B.isi b_isinstance (pa_cons (pv 0) (pa_cons (pe_bltn (v := .ty "bool") (by rfl) B.bool b_bool rfl) pa_nil)))))))), fun T => ?_⟩
  subst e
  refine wps_ret (wpe_andV (wpe_cb2 (wpe_var rfl (wpe_ty (cbd_isI rfl ⟨_, rfl, ite_t ?_⟩)))))
  exact wpe_notV (wpe_cb2 (wpe_var rfl (wpe_ty (cbd_isB rfl ⟨_, rfl, rfl⟩))))
end
end Nv
namespace Nv
open PySem PySem.Spec PyProof.Rows L2
/-! what repr says of data, and how long it is -/
theorem shown_map : ∀ ds : List D, PyData.shownAll (toPys ds) = ds.map fun d => (toPy d).shown
  | [] => by unfold toPys PyData.shownAll; rfl
  | d :: ds => by unfold toPys PyData.shownAll; rw [shown_map ds]; rfl
theorem showable_all : ∀ {ds : List D}, (∀ d ∈ ds, (toPy d).showable = true) → PyData.showableAll (toPys ds) = true
  | [], _ => by unfold toPys PyData.showableAll; rfl
  | d :: ds, h => by
    unfold toPys PyData.showableAll
    rw [h d (by simp), showable_all fun e he => h e (by simp [he])]
    rfl
theorem piled_le {B : Nat} : ∀ {ts : List Str}, (∀ t ∈ ts, t.length ≤ B) → piled ts ≤ ts.length * (B + 2)
  | [], _ => by rw [piled_nil]; exact Nat.zero_le _
  | t :: ts, h => by
    have h1 := h t (by simp)
    have h2 := piled_le (ts := ts) fun u hu => h u (by simp [hu])
    rw [piled_cons, List.length_cons, Nat.add_mul]
    omega
theorem listText_len : ∀ ts : List Str, (listText ts).length ≤ 2 + piled ts
  | [] => by decide +kernel
  | t :: r => by
    have h := textFrom_length_pos r 1 (("[" : Str) ++ (if (0 : Nat) > 0 then ", " else "" : String) ++ t) (Nat.succ_pos 0)
    have e : ((("[" : Str) ++ (if (0 : Nat) > 0 then ", " else "" : String) ++ t)).length = 1 + t.length := by
      rw [strLen_append, strLen_append]; rfl
    have hX : (listText (t :: r)).length = (textFrom 0 "[" (t :: r)).length + 1 := by
      show (textFrom 0 "[" (t :: r) ++ "]").length = _
      rw [strLen_append]; rfl
    have hY : (textFrom 0 "[" (t :: r)).length = (textFrom 1 (("[" : Str) ++ (if (0 : Nat) > 0 then ", " else "" : String) ++ t) r).length := rfl
    rw [hX, hY, h, e, piled_cons]
    omega
theorem tupleText_len (ts : List Str) : (tupleText ts).length ≤ 3 + piled ts := by
  unfold tupleText
  rw [strLen_append, strLen_append]
  have e1 : ((("(" : String) : Str)).length = 1 := rfl
  have e3 : (((if ts.length == 1 then ",)" else ")" : String) : Str)).length ≤ 2 := by split <;> decide
  rw [e1]
  by_cases h : ts = []
  · subst h
    have : (Str.join ", " []).length = 0 := rfl
    rw [this]
    omega
  · have := join_length_add ts h
    omega
def Sh (B : Nat) (d : D) : Prop := (toPy d).showable = true ∧ (toPy d).shown.length ≤ B
theorem Sh.mono {B B' : Nat} {d : D} (h : Sh B d) (l : B ≤ B') : Sh B' d := ⟨h.1, Nat.le_trans h.2 l⟩
theorem sh_small : ∀ i : Fin 400, (PyData.int (i.val : Int)).showable = true ∧ (PyData.int (i.val : Int)).shown.length ≤ 3 := by decide +kernel
theorem sh_words : ∀ x ∈ words, (PyData.str x).shown.length ≤ 40 := by decide +kernel
theorem sh_int {i : Int} (h0 : 0 ≤ i) (h1 : i < 400) : Sh 3 (.int i) := by
  have := sh_small ⟨i.toNat, by omega⟩
  rw [show ((⟨i.toNat, by omega⟩ : Fin 400).val : Int) = i from Int.toNat_of_nonneg h0] at this
  unfold Sh toPy
  exact this
theorem sh_str {x : Str} (h : x ∈ words) : Sh 40 (.str x) := by
  unfold Sh toPy
  exact ⟨by unfold PyData.showable; rfl, sh_words x h⟩
theorem sh_lst {B : Nat} {ds : List D} (h : ∀ d ∈ ds, Sh B d) : Sh (2 + ds.length * (B + 2)) (.lst ds) := by
  unfold Sh toPy PyData.showable PyData.shown
  refine ⟨showable_all fun d hd => (h d hd).1, Nat.le_trans (listText_len _) ?_⟩
  have := piled_le (B := B) (ts := PyData.shownAll (toPys ds)) fun t ht => by
    rw [shown_map] at ht
    obtain ⟨d, hd, rfl⟩ := List.mem_map.mp ht
    exact (h d hd).2
  rw [shown_map, List.length_map] at this
  rw [shown_map]
  omega
theorem sh_tup {B : Nat} {ds : List D} (h : ∀ d ∈ ds, Sh B d) : Sh (3 + ds.length * (B + 2)) (.tup ds) := by
  unfold Sh toPy PyData.showable PyData.shown
  refine ⟨showable_all fun d hd => (h d hd).1, Nat.le_trans (tupleText_len _) ?_⟩
  have := piled_le (B := B) (ts := PyData.shownAll (toPys ds)) fun t ht => by
    rw [shown_map] at ht
    obtain ⟨d, hd, rfl⟩ := List.mem_map.mp ht
    exact (h d hd).2
  rw [shown_map, List.length_map] at this
  rw [shown_map]
  omega
/-- a list that repr can say -/
structure ShL (ds : List D) : Prop where
  lay : layD (.lst ds) 6 = true
  sh : Sh 1000000 (.lst ds)
theorem lay_of {n : Nat} {ds : List D} (h : ∀ d ∈ ds, layD d n = true) : layD (.lst ds) (n + 1) = true := by
  unfold layD
  rw [show n + 1 - 1 = n by omega, layAll_of h, decide_eq_true (by omega)]
  rfl
theorem lay_tup {n : Nat} {ds : List D} (h : ∀ d ∈ ds, layD d n = true) : layD (.tup ds) (n + 1) = true := by
  unfold layD
  rw [show n + 1 - 1 = n by omega, layAll_of h, decide_eq_true (by omega)]
  rfl
theorem shL_ints {zs : List Int} (l : zs.length ≤ 1000) (h : ∀ z ∈ zs, 0 ≤ z ∧ z < 400) : ShL (zs.map D.int) := by
  refine ⟨lay_of fun d hd => ?_, (sh_lst (B := 3) fun d hd => ?_).mono (by rw [List.length_map]; omega)⟩
  · obtain ⟨z, _, rfl⟩ := List.mem_map.mp hd
    rfl
  · obtain ⟨z, hz, rfl⟩ := List.mem_map.mp hd
    exact sh_int (h z hz).1 (h z hz).2
theorem shL_strs {zs : List Str} (l : zs.length ≤ 1000) (h : ∀ z ∈ zs, z ∈ words) : ShL (zs.map D.str) := by
  refine ⟨lay_of fun d hd => ?_, (sh_lst (B := 40) fun d hd => ?_).mono (by rw [List.length_map]; omega)⟩
  · obtain ⟨z, hz, rfl⟩ := List.mem_map.mp hd
    have : ∀ x ∈ words, PyData.strOk x = true := by decide +kernel
    exact this z (h z hz)
  · obtain ⟨z, hz, rfl⟩ := List.mem_map.mp hd
    exact sh_str (h z hz)
theorem shL_ans {n : Int} {zs : List D} (hn : n ≤ 400) (l : zs.length ≤ 1000) (h : ∀ q ∈ zs, AnsD n q) (hs : SmlA 5 (.tup zs)) : ShL zs := by
  refine ⟨lay_of (n := 5) fun d hd => ?_, (sh_lst (B := 13) fun d hd => ?_).mono (by omega)⟩
  · obtain ⟨g, p, rfl, _⟩ := h d hd
    rfl
  · obtain ⟨g, p, rfl, g0, g1, p0⟩ := h d hd
    obtain ⟨g', p', e, _, p1⟩ := hs _ hd
    obtain ⟨e1, e2⟩ := List.cons.inj (D.tup.inj e)
    obtain rfl := D.int.inj (List.cons.inj e2).1
    exact (sh_tup (B := 3) (ds := [.int g, .int p]) fun d hd => by
      rcases List.mem_cons.mp hd with rfl | hd
      · exact sh_int g0 (by omega)
      · rw [List.mem_singleton] at hd
        subst hd
        exact sh_int p0 (by omega)).mono (by show 3 + 2 * 5 ≤ 13; decide)
section
variable {φ : D → Prop} {K : PySem.W.Frag}
theorem cbd_repr {ds : List D} (h : ShL ds) (q : φ (.str (toPy (.lst ds)).shown)) : CbD (rReprN K) [.lst ds] φ := fun G H vs s a Q k => by
  cases a with
  | cons a t =>
    cases t
    have dp := a.dp (K := K) s 6 h.lay
    obtain ⟨p, xs, rfl, _⟩ := at_lst a
    obtain ⟨h1, h2⟩ := lay_can _ _ h.lay
    exact ⟨p, _, rfl, dp, PyData.hasDict_of_canLay _ h1, h.sh.1, by omega, Nat.le_trans h.sh.2 (by decide), k _ _ G H .refl s (.str _) q⟩
theorem opd_eqZ {ds : List D} (h : ShL ds) (q : φ (.bl true)) : OpD (fun x y H Q => rEq x y H Q ∨ rEqD K x y H Q) (.lst ds) (.lst ds) φ := by
  refine opd_r (opd_eqDD h.lay h.lay (by decide) ?_)
  rw [eqv_self h.lay]
  exact q
theorem opd_neZ {ds : List D} (h : ShL ds) (q : φ (.bl false)) : OpD (fun x y H Q => rNe x y H Q ∨ rNeD K x y H Q) (.lst ds) (.lst ds) φ := by
  refine opd_r (opd_neDD h.lay h.lay (by decide) ?_)
  rw [eqv_self h.lay]
  exact q
end
section
variable {P : Program} {w : World} {K : PySem.W.Frag} {mg : Str → Option Value} {base : Heap} {C fI fE CB : Addr} {fdI fdE : FuncData}
abbrev s__law_same : Stmt := top 43
theorem sc__law_same : FnScope ["told", "due"] ["told", "due"] (defScope s__law_same) :=
  ⟨rfl, rfl, rfl, by decide +kernel, rfl, by decide +kernel, by decide +kernel⟩
def c_same : Spc := { pre := fun as => ∃ ds, as = [.da (.lst ds), .da (.lst ds)] ∧ ShL ds, post := fun _ d => d = .bl true }
theorem d_same {f : Addr} {fd : FuncData} (B : Bly mg) (Br : mg "repr" = none) (F : Fn K mg "_law_same" s__law_same ["told", "due"] f fd) : Dg P w K mg base "_law_same" CX0 1 ["told", "due"] (spW c_same 2) := by
  refine F.okG sc__law_same rfl fun cdv A outer s H E as gd hr ⟨ds, e, sh⟩ _ => ⟨_, (pss_one (ps_ret (pe_and (pe_callB (call_isiK (K := K) rfl) (by rfl) B.isi b_isinstance (pa_cons (pv 0) (pa_cons (pe_bltn (v := .ty "list") (by rfl) B.list b_list rfl) pa_nil))) (pe_and (pe_cmpR (op_eqK (K := K) rfl hr.units) (pv 0) (pv 1) (by with_unfolding_all rfl)) (pe_one (pe_cmpR (op_eqK (K := K) rfl hr.units) (pe_callB (call_reprNK (K := K) rfl hr gd) (by rfl) Br b_repr (pa_cons (pv 0) pa_nil)) (pe_callB (call_reprNK (K := K) rfl hr gd) (by rfl) Br b_repr (pa_cons (pv 1) pa_nil)) (by with_unfolding_all rfl))))))), fun T => ?_⟩
  subst e
  refine wps_ret (wpe_andV (wpe_cb2 (wpe_var rfl (wpe_ty (cbd_isL ⟨_, rfl, ite_t ?_⟩)))))
  refine wpe_andV (wpe_op (wpe_var rfl (wpe_var rfl (opd_eqZ sh ⟨_, rfl, ite_t ?_⟩))))
  refine wpe_op (wpe_cb1 (wpe_var rfl (cbd_repr sh (wpe_cb1 (wpe_var rfl (cbd_repr sh (opd_l (opd_eqS ?_))))))))
  rw [decide_eq_true rfl]
  exact rfl
abbrev s__law_pairs : Stmt := top 42
theorem sc__law_pairs : FnScope ["plain", "found", "standing", "name", "answers"] ["plain"] (defScope s__law_pairs) :=
  ⟨rfl, rfl, rfl, by decide +kernel, rfl, by decide +kernel, by decide +kernel⟩
/-- a standing, a name and its answers -/
def PairD (rows : List D) (p : D) : Prop := ∃ (i : Nat) (asks : List D) (x : Str) (zs : List D), p = .tup [.int i, .str x, .tup zs] ∧ rows[i]? = some (.tup asks) ∧ D.tup [.str x, .tup zs] ∈ asks
def HasN (xs : List D) (x : Str) : Prop := ∃ p ∈ xs, ∃ (i : Int) (zs : D), p = .tup [.int i, .str x, zs]
theorem HasN.app {xs ys : List D} {x : Str} (h : HasN xs x) : HasN (xs ++ ys) x := by
  obtain ⟨p, hp, r⟩ := h
  exact ⟨p, List.mem_append_left _ hp, r⟩
theorem namesR_take {rows : List D} {i : Nat} {r : D} (e : rows[i]? = some r) : namesR (rows.take (i + 1)) = namesR (rows.take i) ++ namesA r := by
  unfold namesR
  rw [List.take_add_one, e, List.flatMap_append]
  simp
def c_pairs : Spc :=
  { pre := fun as => ∃ (ts : List (List Int)) (rows : List D) (s : Int), as = [.da (.tup [tD ts, .tup rows, .int s])] ∧ Pl 300 ts rows
    post := fun as d => ∀ (ts : List (List Int)) (rows : List D) (s : Int), as = [.da (.tup [tD ts, .tup rows, .int s])] → ∃ xs, d = .lst xs ∧ xs.length ≤ 48000 ∧ (∀ p ∈ xs, PairD rows p) ∧ ∀ x ∈ namesR rows, HasN xs x }
theorem d_pairs {f : Addr} {fd : FuncData} (B : Bly mg) (F : Fn K mg "_law_pairs" s__law_pairs ["plain"] f fd) : Dk P w K mg base "_law_pairs" CX0 1 ["plain"] (spW c_pairs 1) := by
  refine F.ok sc__law_pairs rfl fun cdv A outer s H E as hr ⟨ts, rows, s0, e, pl⟩ _ => ?_
  subst e
  obtain ⟨rl, ra⟩ := asks_row pl.a
  have most := pl.most
  have hlen : (ts.map fun zs => D.tup (zs.map D.int)).length = ts.length := List.length_map ..
  refine ⟨_, (pss_cons (ps_set (i := 1) sc__law_pairs.nd rfl (by first | exact Or.inl rfl | exact Or.inr rfl) (pe_lst pa_nil))
    (pss_cons (ps_for PassesOwn.never rfl (pi_range1 (by rfl) B.rng (pa_cons (pe_callB (call_lenK (K := K) rfl) (by rfl) B.len b_len (pa_cons (pe_ix (ix_K (K := K) rfl) (pv 0) pe_int (fun _ _ => rfl)) pa_nil)) pa_nil)) (pg_name (i := 2) sc__law_pairs.nd rfl (by first | exact Or.inl rfl | exact Or.inr rfl)) (pss_one (ps_for PassesOwn.never rfl (pi_seq (pe_ix (ix_K (K := K) rfl) (pe_ix (ix_K (K := K) rfl) (pv 0) pe_int (fun _ _ => rfl)) (pv 2) (fun _ _ => rfl))) (pg_tup rfl (pgs_cons (pg_name (i := 3) sc__law_pairs.nd rfl (by first | exact Or.inl rfl | exact Or.inr rfl)) (pgs_cons (pg_name (i := 4) sc__law_pairs.nd rfl (by first | exact Or.inl rfl | exact Or.inr rfl)) pgs_nil))) (pss_one (ps_expr (pe_bm PySem.F.plainAttrs_list PySem.F.slot_list_append PySem.F.type_list_append mt_append (pv 1) (pa_cons (pe_tup (pa_cons (pv 2) (pa_cons (pv 3) (pa_cons (pv 4) pa_nil)))) pa_nil)))))))
    (pss_one (ps_ret (pv 1))))), fun T => ?_⟩
  refine wps_seq (wps_newl fun p => ?_)
  refine wps_seq (wps_for (js := [2]) (wpi_rng1 (wpe_cb1 (wpe_op (wpe_var rfl (wpe_int (opd_ix (n := 0) (.inr rfl) rfl rfl (cbd_l (cbd_len (.inr rfl) ⟨_, rfl, by omega, by omega, ?_⟩)))))))))
  rw [hlen]
  refine ⟨fun i δ' => ∃ (xs : List D) (x2 x3 x4 : Sl), δ' = [.da (.tup [tD ts, .tup rows, .int s0]), .ow p xs, x2, x3, x4] ∧ xs.length ≤ 160 * i ∧ (∀ q ∈ xs, PairD rows q) ∧ ∀ x ∈ namesR (rows.take i), HasN xs x, ⟨[], _, _, _, rfl, by simp, by simp, by simp [namesR]⟩, ?_, ?_⟩
  · rintro i d δ' ed ⟨xs, x2, x3, x4, rfl, lx, ax, hx⟩
    obtain ⟨rfl, li⟩ := rngD_at ed
    rw [Int.toNat_natCast] at li
    have er : rows[i]? = some (rows[i]'(by omega)) := List.getElem?_eq_getElem _
    generalize rows[i]'(by omega) = r at er
    obtain ⟨asks, rfl, l160, al⟩ := row_of (ra r (List.mem_of_getElem? er))
    refine wpg_name (wps_for (js := [3, 4]) (wpi_seq (wpe_op (wpe_op (wpe_var rfl (wpe_int (opd_ix (n := 1) (.inr rfl) rfl rfl (wpe_var rfl (opd_ix (n := i) (.inr rfl) (by omega) er ⟨_, .inr rfl, ?_⟩)))))))))
    refine ⟨fun j δ' => ∃ (xs : List D) (x3 x4 : Sl), δ' = [.da (.tup [tD ts, .tup rows, .int s0]), .ow p xs, .da (.int ((0 : Int) + i)), x3, x4] ∧ xs.length ≤ 160 * i + j ∧ (∀ q ∈ xs, PairD rows q) ∧ (∀ x ∈ namesR (rows.take i), HasN xs x) ∧ ∀ x ∈ namesA (.tup (asks.take j)), HasN xs x,
      ⟨xs, _, _, rfl, lx, ax, hx, by simp [namesA, rowsD]⟩, ?_, ?_⟩
    · rintro j d δ' ed ⟨ys, y3, y4, rfl, ly, ay, hy, iy⟩
      have lj := (List.getElem?_eq_some_iff.mp ed).1
      obtain ⟨x, zs, rfl, _⟩ := al d (List.mem_of_getElem? ed)
      refine wpg_pair ⟨_, _, rfl, ?_⟩
      refine wps_append (i := 1) rfl (by omega) (wpe_tupL (wpl_cons (wpe_var rfl (wpl_cons (wpe_var rfl (wpl_cons (wpe_var rfl (wpl_nil ⟨by show 3 ≤ 1000; decide, ?_⟩))))))))
      refine ⟨_, _, _, rfl, by rw [List.length_append, List.length_singleton]; omega, fun q hq => ?_, fun x hx => (hy x hx).app, fun z hz => ?_⟩
      · rcases List.mem_append.mp hq with hq | hq
        · exact ay q hq
        · rw [List.mem_singleton] at hq
          subst hq
          exact ⟨i, asks, x, zs, by rw [Int.zero_add], er, List.mem_of_getElem? ed⟩
      · have hz : z ∈ (asks.take (j + 1)).map fun a => strOf (fstD a) := hz
        rw [List.take_add_one, ed, List.map_append] at hz
        rcases List.mem_append.mp hz with hz | hz
        · exact (iy z hz).app
        · obtain rfl : z = x := by simpa [strOf, fstD] using hz
          exact ⟨_, List.mem_append_right _ (List.mem_singleton.mpr rfl), _, _, rfl⟩
    · rintro δ' ⟨ys, y3, y4, rfl, ly, ay, hy, iy⟩
      rw [List.take_length] at iy
      refine ⟨ys, _, _, _, rfl, by omega, ay, fun x hx => ?_⟩
      rw [namesR_take er] at hx
      rcases List.mem_append.mp hx with hx | hx
      · exact hy x hx
      · exact iy x hx
  · rintro δ' ⟨xs, x2, x3, x4, rfl, lx, ax, hx⟩
    rw [rngD_len, Int.toNat_natCast] at lx hx
    refine wps_freeze (i := 1) rfl (wps_ret (wpe_var rfl ?_))
    intro us ss z e
    obtain ⟨_, e2⟩ := List.cons.inj (D.tup.inj (Sl.da.inj (List.cons.inj e).1))
    obtain rfl := D.tup.inj (List.cons.inj e2).1
    rw [← rl, List.take_length] at hx
    exact ⟨xs, rfl, by omega, ax, hx⟩
end
end Nv
namespace Nv
open PySem PySem.Spec PyProof.Rows L2
/-- what the law draws: few standings, few names, low prices -/
structure Few (ts : List (List Int)) (rows : List D) : Prop where
  n : ts.length ≤ 20
  a : ∀ q ∈ rows, SmlR 5 q ∧ (rowsD q).length ≤ 2
theorem Few.names {ts : List (List Int)} {rows : List D} (h : Few ts rows) : ∀ x ∈ namesR rows, x ∈ words := fun x hx => by
  obtain ⟨r, hr, hx⟩ := List.mem_flatMap.mp hx
  obtain ⟨a, ha, rfl⟩ := List.mem_map.mp hx
  obtain ⟨y, b, rfl, hy, _⟩ := (h.a r hr).1 a ha
  exact hy
theorem Few.few {ts : List (List Int)} {rows : List D} (h : Few ts rows) : FewN rows := ⟨words, by decide +kernel, h.names⟩
theorem come_shL {st : List Int} {ss : List (List Int)} {ys : List Int} {n : Nat} (c : Comes st ss ys) (l : ss.length = n) (ln : n ≤ 20) : ShL (ys.map D.int) := by
  have := comes_len c
  exact shL_ints (by omega) fun z hz => by have := c.inN z hz; omega
section
variable {P : Program} {w : World} {K : PySem.W.Frag} {mg : Str → Option Value} {base : Heap} {C fI fE CB : Addr} {fdI fdE : FuncData}
abbrev s__law_tells : Stmt := top 44
theorem sc__law_tells : FnScope ["made", "plain", "standing", "closure", "names", "name", "answers", "goal", "price", "told"] ["made", "plain", "standing"] (defScope s__law_tells) :=
  ⟨rfl, rfl, rfl, by decide +kernel, rfl, by decide +kernel, by decide +kernel⟩
abbrev s__law_spoil : Stmt := top 45
theorem sc__law_spoil : FnScope ["made", "standing", "told", "name"] ["made", "standing"] (defScope s__law_spoil) :=
  ⟨rfl, rfl, rfl, by decide +kernel, rfl, by decide +kernel, by decide +kernel⟩
def c_tells (C : Addr) : Spc :=
  { pre := fun as => ∃ W ts rows s k, as = [.da W, .da (.tup [tD ts, .tup rows, .int s]), .da (.int (k : Nat))] ∧ WdD C W ts rows s ∧ k < ts.length ∧ Few ts rows
    post := fun _ d => d = .bl true }
theorem d_tells {f : Addr} {fd : FuncData} (B : Bly mg) (W : TWo K mg C fI fE CB fdI fdE) (F : Fn K mg "_law_tells" s__law_tells ["made", "plain", "standing"] f fd)
    (D__law_closure : Dk P w K mg base "_law_closure" CX0 1 ["turns", "first"] (spW c_clo5 2)) (D__law_reach : Dk P w K mg base "_law_reach" CX0 1 ["plain", "first"] (spW c_lreach 2))
    (D__law_is_int : Dk P w K mg base "_law_is_int" CX0 1 ["value"] (spW c_lint 1)) (D__law_same : Dg P w K mg base "_law_same" CX0 1 ["told", "due"] (spW c_same 2))
    (M_by_turns : Dm P w K mg base C "by_turns" CX0 4 ["self", "standing"] (spW (c_by_turns C) 2)) (M_asked : Dm P w K mg base C "asked" CX0 4 ["self", "standing"] (spW (c_asked C) 2))
    (M_reach : Dm P w K mg base C "reach" CX0 4 ["self", "standing"] (spW (c_reach C) 2)) (M_answers : Dm P w K mg base C "answers" CX0 6 ["self", "standing", "name"] (spW (c_answersW C) 3))
    (M_price : Dm P w K mg base C "price" CX0 6 ["self", "standing", "name", "goal"] (spW (c_priceW C) 4))
    (MK_price : Dmk P w K mg base C "price" CX0 6 ["self", "standing", "name", "goal"] ["goal", "name", "standing"] [2, 1, 0] (spW (c_priceW C) 4))
    (MK_answers : Dmk P w K mg base C "answers" CX0 6 ["self", "standing", "name"] ["name", "standing"] [1, 0] (spW (c_answersW C) 3))
    (MK_reach : Dmk P w K mg base C "reach" CX0 4 ["self", "standing"] ["standing"] [0] (spW (c_reach C) 2))
    (MK_by_turns : Dmk P w K mg base C "by_turns" CX0 4 ["self", "standing"] ["standing"] [0] (spW (c_by_turns C) 2))
    (MK_asked : Dmk P w K mg base C "asked" CX0 4 ["self", "standing"] ["standing"] [0] (spW (c_asked C) 2)) :
    Dg P w K mg base "_law_tells" CX0 7 ["made", "plain", "standing"] (spW (c_tells C) 3) := by
  refine F.okG sc__law_tells rfl fun cdv A outer s H E as gd hr ⟨W0, ts, rows, s0, k, e, wd, lk, few⟩ _ => ⟨_, (pss_cons (ps_set (i := 3) sc__law_tells.nd rfl (by first | exact Or.inl rfl | exact Or.inr rfl) (pe_callD D__law_closure (hr.mono (by decide)) (by rfl) pass0 (pa_cons (pe_ix (ix_K (K := K) rfl) (pv 1) pe_int (fun _ _ => rfl)) (pa_cons (pv 2) pa_nil))))
    (pss_cons (ps_setLc (i := 4) (own := [("name", 5), ("answers", 6)]) (g := gTup K 2 (gCons (gName 5) (gCons (gName 6) gNil))) (tt := tYes) (by rfl) sc__law_tells.nd rfl rfl (sw_true rfl rfl rfl (by decide +kernel)) (pi_seq (pe_ix (ix_K (K := K) rfl) (pe_ix (ix_K (K := K) rfl) (pv 1) pe_int (fun _ _ => rfl)) (pv 2) (fun _ _ => rfl))) (blkOk_by (N := ["made", "plain", "standing", "closure", "names", "name", "answers", "goal", "price", "told"]) (sc := defScope s__law_tells) (by decide +kernel)) (fun _ _ _ _ _ => pg_tup rfl (pgs_cons (pg_name (i := 5) sc__law_tells.nd rfl (by first | exact Or.inl rfl | exact Or.inr rfl)) (pgs_cons (pg_name (i := 6) sc__law_tells.nd rfl (by first | exact Or.inl rfl | exact Or.inr rfl)) pgs_nil))) (fun _ _ _ _ _ => pts_nil) (fun _ _ _ _ _ => (pv 5)))
    (pss_cons (ps_if (PW.pt (pw_or (pt_not (pt_val (pe_callDg D__law_same (hr.mono (by decide)) gd (by rfl) pass0 (pa_cons (pe_methD (pv 0) W.cl M_by_turns (hr.mono (by decide)) pass0 (pa_cons (pv 2) pa_nil)) (pa_cons (pv 3) pa_nil))))) (pw_or1 (pt_not (pt_val (pe_callDg D__law_same (hr.mono (by decide)) gd (by rfl) pass0 (pa_cons (pe_methD (pv 0) W.cl M_asked (hr.mono (by decide)) pass0 (pa_cons (pv 2) pa_nil)) (pa_cons (pv 4) pa_nil)))))))) (pss_one (ps_ret pe_bl)) pss_nil)
    (pss_cons (ps_if (pt_not (pt_val (pe_callDg D__law_same (hr.mono (by decide)) gd (by rfl) pass0 (pa_cons (pe_methD (pv 0) W.cl M_reach (hr.mono (by decide)) pass0 (pa_cons (pv 2) pa_nil)) (pa_cons (pe_callD D__law_reach (hr.mono (by decide)) (by rfl) pass0 (pa_cons (pv 1) (pa_cons (pv 2) pa_nil))) pa_nil))))) (pss_one (ps_ret pe_bl)) pss_nil)
    (pss_cons (ps_for PassesOwn.never rfl (pi_seq (pe_ix (ix_K (K := K) rfl) (pe_ix (ix_K (K := K) rfl) (pv 1) pe_int (fun _ _ => rfl)) (pv 2) (fun _ _ => rfl))) (pg_tup rfl (pgs_cons (pg_name (i := 5) sc__law_tells.nd rfl (by first | exact Or.inl rfl | exact Or.inr rfl)) (pgs_cons (pg_name (i := 6) sc__law_tells.nd rfl (by first | exact Or.inl rfl | exact Or.inr rfl)) pgs_nil))) (pss_cons (ps_if (pt_not (pt_val (pe_callDg D__law_same (hr.mono (by decide)) gd (by rfl) pass0 (pa_cons (pe_methD (pv 0) W.cl M_answers (hr.mono (by decide)) pass0 (pa_cons (pv 2) (pa_cons (pv 5) pa_nil))) (pa_cons (pe_callTy (call_listK (K := K) rfl) (by rfl) B.list b_list (pa_cons (pv 6) pa_nil)) pa_nil))))) (pss_one (ps_ret pe_bl)) pss_nil)
      (pss_cons (ps_for PassesOwn.never rfl (pi_seq (pv 6)) (pg_tup rfl (pgs_cons (pg_name (i := 7) sc__law_tells.nd rfl (by first | exact Or.inl rfl | exact Or.inr rfl)) (pgs_cons (pg_name (i := 8) sc__law_tells.nd rfl (by first | exact Or.inl rfl | exact Or.inr rfl)) pgs_nil))) (pss_cons (ps_set (i := 9) sc__law_tells.nd rfl (by first | exact Or.inl rfl | exact Or.inr rfl) (pe_methD (pv 0) W.cl M_price (hr.mono (by decide)) pass0 (pa_cons (pv 2) (pa_cons (pv 5) (pa_cons (pv 7) pa_nil)))))
        (pss_one (ps_if (PW.pt (pw_or (pt_not (pt_val (pe_callD D__law_is_int (hr.mono (by decide)) (by rfl) pass0 (pa_cons (pv 9) pa_nil)))) (pw_or (pt_cmpR (op_neK (K := K) rfl hr.units) (pv 9) (pv 8) (by with_unfolding_all rfl)) (pw_or1 (pt_cmpR (op_neK (K := K) rfl hr.units) (pe_methDk (pv 0) W.cl MK_price (hr.mono (by decide)) pass0 (pk_cons (pv 7) (pk_cons (pv 5) (pk_cons (pv 2) pk_nil)))) (pv 8) (by with_unfolding_all rfl)))))) (pss_one (ps_ret pe_bl)) pss_nil))))
      (pss_one (ps_if (pt_cmpR (op_neK (K := K) rfl hr.units) (pe_methDk (pv 0) W.cl MK_answers (hr.mono (by decide)) pass0 (pk_cons (pv 5) (pk_cons (pv 2) pk_nil))) (pe_callTy (call_listK (K := K) rfl) (by rfl) B.list b_list (pa_cons (pv 6) pa_nil)) (by with_unfolding_all rfl)) (pss_one (ps_ret pe_bl)) pss_nil)))))
    (pss_cons (ps_if (pt_cmpR (op_neK (K := K) rfl hr.units) (pe_methDk (pv 0) W.cl MK_reach (hr.mono (by decide)) pass0 (pk_cons (pv 2) pk_nil)) (pe_methD (pv 0) W.cl M_reach (hr.mono (by decide)) pass0 (pa_cons (pv 2) pa_nil)) (by with_unfolding_all rfl)) (pss_one (ps_ret pe_bl)) pss_nil)
    (pss_one (ps_ret (pe_and (pe_cmpR (op_eqK (K := K) rfl hr.units) (pe_methDk (pv 0) W.cl MK_by_turns (hr.mono (by decide)) pass0 (pk_cons (pv 2) pk_nil)) (pv 3) (by with_unfolding_all rfl)) (pe_one (pe_cmpR (op_eqK (K := K) rfl hr.units) (pe_methDk (pv 0) W.cl MK_asked (hr.mono (by decide)) pass0 (pk_cons (pv 2) pk_nil)) (pv 4) (by with_unfolding_all rfl)))))))))))), fun T => ?_⟩
  subst e
  obtain ⟨rl, ra⟩ := asks_row wd.asks
  have sl := stepsW_len rl
  have sb := steps_le wd.pl
  have n20 := few.n
  obtain ⟨r, er⟩ := at_some rl lk
  obtain ⟨asks, rfl, l160, al⟩ := row_of (ra r (List.mem_of_getElem? er))
  obtain ⟨sml, l2⟩ := few.a _ (List.mem_of_getElem? er)
  have l2 : asks.length ≤ 2 := l2
  have iW : wdI C [.da W0, .da (.int (k : Nat))] ts rows k := ⟨_, _, rfl, wd, lk⟩
  have e0 := wd.e
  have hnames : asks.map fstD = (asks.map fun a => strOf (fstD a)).map D.str := (row_names (ra _ (List.mem_of_getElem? er))).1
  have shN : ShL (asks.map fstD) := by
    rw [hnames]
    refine shL_strs (by rw [List.length_map]; omega) fun z hz => ?_
    obtain ⟨a, ha, rfl⟩ := List.mem_map.mp hz
    obtain ⟨y, b, rfl, hy, _⟩ := sml a ha
    exact hy
  have askedD : ∀ d, (c_asked C).post [.da W0, .da (.int (k : Nat))] d → d = .lst (asks.map fstD) := fun d hd => by
    rw [wd.e] at hd
    have hd : d = .lst ((rowsD (rows.getD (k : Int).toNat .non)).map fstD) := hd
    rw [Int.toNat_natCast, getD_of er] at hd
    exact hd
  refine wps_seq (wps_set (wpe_call0 (wpa_cons (wpe_op (wpe_var rfl (wpe_int (opd_ix (n := 0) (.inr rfl) rfl rfl (wpa_cons (wpe_var rfl (wpa_nil ⟨rfl, ⟨ts, k, rfl, lk, by omega, fun zs hz => ?_⟩, fun d hd => ?_, fun _ _ z => z⟩))))))))))
  · have ii := wd.tok.inn zs hz
    exact ⟨ii.1, ii.2⟩
  obtain ⟨ys, rfl, cy⟩ := hd ts k rfl
  have shY := come_shL cy rfl n20
  refine wps_seq (wps_set (wpe_map2 fstD (by simp) (by simp) (wpi_seq (wpe_op (wpe_op (wpe_var rfl (wpe_int (opd_ix (n := 1) (.inr rfl) rfl rfl (wpe_var rfl (opd_ix (n := k) (.inr rfl) rfl er ⟨_, .inr rfl, by omega, fun d hd => ?_, ?_⟩))))))))))
  · obtain ⟨x, as, rfl, _⟩ := al d hd
    exact ⟨_, _, rfl, wpe_var rfl rfl⟩
  refine wps_seq (wps_if (wpt_or (wpt_not (wpt_B (wpe_call0 (wpa_cons (wpe_meth (by decide +kernel) (wpe_var rfl ⟨⟨_, e0⟩, wpa_cons (wpe_var rfl (wpa_nil ⟨rfl, ⟨_, _, _, iW⟩, fun d hd => ?_, fun _ _ z => z⟩))⟩))))))))
  obtain ⟨ys1, rfl, cy1⟩ := hd _ _ _ iW
  obtain rfl := cy1.uniq cy
  refine wpa_cons (wpe_var rfl (wpa_nil ⟨rfl, ⟨_, rfl, shY⟩, fun d hd => ?_, fun _ _ z => z⟩))
  obtain rfl : d = .bl true := hd
  refine ⟨_, rfl, ite_nt ?_⟩
  refine wpt_not (wpt_B (wpe_call0 (wpa_cons (wpe_meth (by decide +kernel) (wpe_var rfl ⟨⟨_, e0⟩, wpa_cons (wpe_var rfl (wpa_nil ⟨rfl, ⟨_, _, _, iW⟩, fun d hd => ?_, fun _ _ z => z⟩))⟩)))))
  obtain rfl := askedD d hd
  refine wpa_cons (wpe_var rfl (wpa_nil ⟨rfl, ⟨_, rfl, shN⟩, fun d hd => ?_, fun _ _ z => z⟩))
  obtain rfl : d = .bl true := hd
  refine ⟨_, rfl, ite_nt (wps_nil ?_)⟩
  refine wps_seq (wps_if (wpt_not (wpt_B (wpe_call0 (wpa_cons (wpe_meth (by decide +kernel) (wpe_var rfl ⟨⟨_, e0⟩, wpa_cons (wpe_var rfl (wpa_nil ⟨rfl, ⟨_, _, _, iW, sb⟩, fun d hd => ?_, fun _ _ z => z⟩))⟩)))))))
  obtain ⟨zs, rfl, cz⟩ := hd _ _ _ iW
  have shZ := come_shL cz sl n20
  refine wpa_cons (wpe_call0 (wpa_cons (wpe_var rfl (wpa_cons (wpe_var rfl (wpa_nil ⟨rfl, ⟨ts, rows, s0, k, rfl, lk, wd.pl⟩, fun d hd => ?_, fun _ _ z => z⟩))))))
  obtain ⟨zs1, rfl, cz1⟩ := hd ts rows s0 k rfl
  obtain rfl := cz1.uniq cz
  refine wpa_nil ⟨rfl, ⟨_, rfl, shZ⟩, fun d hd => ?_, fun _ _ z => z⟩
  obtain rfl : d = .bl true := hd
  refine ⟨_, rfl, ite_nt (wps_nil ?_)⟩
  refine wps_seq (wps_for (js := [5, 6]) (wpi_seq (wpe_op (wpe_op (wpe_var rfl (wpe_int (opd_ix (n := 1) (.inr rfl) rfl rfl (wpe_var rfl (opd_ix (n := k) (.inr rfl) rfl er ⟨_, .inr rfl, ?_⟩)))))))))
  refine ⟨fun j δ' => ∃ x5 x6 x7 x8 x9 : Sl, δ' = [.da W0, .da (.tup [tD ts, .tup rows, .int s0]), .da (.int (k : Nat)), .da (.lst (ys1.map D.int)), .da (.lst (asks.map fstD)), x5, x6, x7, x8, x9], ⟨_, _, _, _, _, rfl⟩, ?_, ?_⟩
  · rintro j d δ' ed ⟨x5, x6, x7, x8, x9, rfl⟩
    have hm := List.mem_of_getElem? ed
    obtain ⟨x, zs, rfl, nx, nz, aa, pz⟩ := al d hm
    obtain ⟨an, lz, _, _⟩ := ask_get wd er hm
    have smA : SmlA 5 (.tup zs) := by
      obtain ⟨y, b, e, _, h⟩ := sml _ hm
      obtain rfl := (List.cons.inj (List.cons.inj (D.tup.inj e)).2).1
      exact h
    have shA := shL_ans (n := ts.length) (by omega) (by omega) an smA
    refine wpg_pair ⟨_, _, rfl, ?_⟩
    refine wps_seq (wps_if (wpt_not (wpt_B (wpe_call0 (wpa_cons (wpe_meth (by decide +kernel) (wpe_var rfl ⟨⟨_, e0⟩, wpa_cons (wpe_var rfl (wpa_cons (wpe_var rfl (wpa_nil ⟨rfl, ⟨_, ts, rows, s0, k, asks, x, zs, rfl, wd, lk, er, hm⟩, fun d hd => ?_, fun _ _ z => z⟩))))⟩)))))))
    obtain rfl := hd _ ts rows s0 k asks x zs rfl wd er hm
    refine wpa_cons (wpe_cb1 (wpe_var rfl (cbd_lstOf (.inr rfl) (wpa_nil ⟨rfl, ⟨_, rfl, shA⟩, fun d hd => ?_, fun _ _ z => z⟩))))
    obtain rfl : d = .bl true := hd
    refine ⟨_, rfl, ite_nt (wps_nil ?_)⟩
    refine wps_seq (wps_for (js := [7, 8]) (wpi_seq (wpe_var rfl ⟨_, .inr rfl, ?_⟩)))
    refine ⟨fun j δ' => ∃ x7 x8 x9 : Sl, δ' = [.da W0, .da (.tup [tD ts, .tup rows, .int s0]), .da (.int (k : Nat)), .da (.lst (ys1.map D.int)), .da (.lst (asks.map fstD)), .da (.str x), .da (.tup zs), x7, x8, x9], ⟨_, _, _, rfl⟩, ?_, ?_⟩
    · rintro j d δ' ed ⟨x7, x8, x9, rfl⟩
      have hz := List.mem_of_getElem? ed
      obtain ⟨g, p, rfl, g0, g1, p0⟩ := an d hz
      refine wpg_pair ⟨_, _, rfl, ?_⟩
      refine wps_seq (wps_set (wpe_meth (by decide +kernel) (wpe_var rfl ⟨⟨_, e0⟩, wpa_cons (wpe_var rfl (wpa_cons (wpe_var rfl (wpa_cons (wpe_var rfl (wpa_nil ⟨rfl, ⟨_, ts, rows, s0, k, asks, x, zs, g, p, rfl, wd, lk, er, hm, hz⟩, fun d hd => ?_, fun _ _ z => z⟩))))))⟩)))
      obtain rfl := hd _ ts rows s0 k asks x zs g p rfl wd er hm hz
      refine wps_if (wpt_or (wpt_not (wpt_B (wpe_call0 (wpa_cons (wpe_var rfl (wpa_nil ⟨rfl, ⟨_, rfl⟩, fun d hd => ?_, fun _ _ z => z⟩)))))))
      obtain rfl : d = .bl true := hd
      refine ⟨_, rfl, ite_nt ?_⟩
      refine wpt_or (wpt_test (wpe_op (wpe_var rfl (wpe_var rfl (opd_l (opd_neI ?_))))))
      rw [decide_eq_true rfl]
      refine ⟨_, rfl, ite_nt ?_⟩
      refine wpt_test (wpe_op (wpe_methK (by decide +kernel) (wpe_var rfl ⟨⟨_, e0⟩, wpa_cons (wpe_var rfl (wpa_cons (wpe_var rfl (wpa_cons (wpe_var rfl (wpa_nil ⟨rfl, rfl, ⟨_, ts, rows, s0, k, asks, x, zs, g, p, rfl, wd, lk, er, hm, hz⟩, fun d hd => ?_, fun _ _ z => z⟩))))))⟩)))
      obtain rfl := hd _ ts rows s0 k asks x zs g p rfl wd er hm hz
      refine wpe_var rfl (opd_l (opd_neI ?_))
      rw [decide_eq_true rfl]
      exact ⟨_, rfl, ite_nt (wps_nil ⟨_, _, _, rfl⟩)⟩
    · rintro δ' ⟨x7, x8, x9, rfl⟩
      refine wps_if (wpt_test (wpe_op (wpe_methK (by decide +kernel) (wpe_var rfl ⟨⟨_, e0⟩, wpa_cons (wpe_var rfl (wpa_cons (wpe_var rfl (wpa_nil ⟨rfl, rfl, ⟨_, ts, rows, s0, k, asks, x, zs, rfl, wd, lk, er, hm⟩, fun d hd => ?_, fun _ _ z => z⟩))))⟩))))
      obtain rfl := hd _ ts rows s0 k asks x zs rfl wd er hm
      refine wpe_cb1 (wpe_var rfl (cbd_lstOf (.inr rfl) (opd_neZ shA ⟨_, rfl, ite_f (wps_nil ⟨_, _, _, _, _, rfl⟩)⟩)))
  · rintro δ' ⟨x5, x6, x7, x8, x9, rfl⟩
    refine wps_seq (wps_if (wpt_test (wpe_op (wpe_methK (by decide +kernel) (wpe_var rfl ⟨⟨_, e0⟩, wpa_cons (wpe_var rfl (wpa_nil ⟨rfl, rfl, ⟨_, _, _, iW, sb⟩, fun d hd => ?_, fun _ _ z => z⟩))⟩)))))
    obtain ⟨v1, rfl, c1⟩ := hd _ _ _ iW
    refine wpe_meth (by decide +kernel) (wpe_var rfl ⟨⟨_, e0⟩, wpa_cons (wpe_var rfl (wpa_nil ⟨rfl, ⟨_, _, _, iW, sb⟩, fun d hd => ?_, fun _ _ z => z⟩))⟩)
    obtain ⟨v2, rfl, c2⟩ := hd _ _ _ iW
    obtain rfl := c1.uniq c2
    refine opd_neZ (come_shL c2 sl n20) ⟨_, rfl, ite_f (wps_nil ?_)⟩
    refine wps_ret (wpe_andV (wpe_op (wpe_methK (by decide +kernel) (wpe_var rfl ⟨⟨_, e0⟩, wpa_cons (wpe_var rfl (wpa_nil ⟨rfl, rfl, ⟨_, _, _, iW⟩, fun d hd => ?_, fun _ _ z => z⟩))⟩))))
    obtain ⟨v3, rfl, c3⟩ := hd _ _ _ iW
    obtain rfl := c3.uniq cy
    refine wpe_var rfl (opd_eqZ shY ⟨_, rfl, ite_t ?_⟩)
    refine wpe_op (wpe_methK (by decide +kernel) (wpe_var rfl ⟨⟨_, e0⟩, wpa_cons (wpe_var rfl (wpa_nil ⟨rfl, rfl, ⟨_, _, _, iW⟩, fun d hd => ?_, fun _ _ z => z⟩))⟩))
    obtain rfl := askedD d hd
    exact wpe_var rfl (opd_eqZ shN rfl)
end
end Nv
namespace Nv
open PySem PySem.Spec PyProof.Rows L2
theorem noL_ints {zs : List Int} : NoL (.tup (zs.map D.int)) := .tup fun d hd => by
  obtain ⟨z, _, rfl⟩ := List.mem_map.mp hd
  exact .int z
theorem noL_tD {ts : List (List Int)} : NoL (tD ts) := .tup fun d hd => by
  obtain ⟨z, _, rfl⟩ := List.mem_map.mp hd
  exact noL_ints
theorem noL_rows {n : Nat} {rows : List D} (h : areAsks n (.tup rows) = true) : NoL (.tup rows) := .tup fun r hr => by
  obtain ⟨asks, rfl, _, al⟩ := row_of ((asks_row h).2 r hr)
  refine .tup fun a ha => ?_
  obtain ⟨x, as, rfl, _, _, aa, _⟩ := al a ha
  refine .tup fun d hd => ?_
  rcases List.mem_cons.mp hd with rfl | hd
  · exact .str x
  · rw [List.mem_singleton] at hd
    subst hd
    refine .tup fun q hq => ?_
    obtain ⟨g, p, rfl, _⟩ := aa q hq
    refine .tup fun d hd => ?_
    rcases List.mem_cons.mp hd with rfl | hd
    · exact .int g
    · rw [List.mem_singleton] at hd
      subst hd
      exact .int p
theorem WdD.noL {C : Addr} {x : D} {ts : List (List Int)} {rows : List D} {s : Int} (h : WdD C x ts rows s) : NoL x := by
  rw [h.e]
  refine .ins fun d hd => ?_
  rcases List.mem_cons.mp hd with rfl | hd
  · exact noL_tD
  rcases List.mem_cons.mp hd with rfl | hd
  · exact noL_rows h.asks
  rcases List.mem_cons.mp hd with rfl | hd
  · exact .int _
  · rw [List.mem_singleton] at hd
    subst hd
    exact .int _
theorem names_le {ys : List Str} {rows : List D} {ts : List (List Int)} (few : Few ts rows) (pw : ys.Pairwise ltS) (m : ∀ x, x ∈ ys ↔ x ∈ namesR rows) : (∀ x ∈ ys, x ∈ words) ∧ ys.length ≤ 5 := by
  have h : ∀ x ∈ ys, x ∈ words := fun x hx => few.names x ((m x).mp hx)
  exact ⟨h, nodup_le (U := words) (pw.imp fun {a b} (h : ltS a b) (e : a = b) => lt_irr a (by rw [← e] at h; exact h)) h⟩
section
variable {P : Program} {w : World} {K : PySem.W.Frag} {mg : Str → Option Value} {base : Heap} {C fI fE CB : Addr} {fdI fdE : FuncData}
def c_spoil (C : Addr) : Spc :=
  { pre := fun as => ∃ W ts rows s k, as = [.da W, .da (.int (k : Nat))] ∧ WdD C W ts rows s ∧ k < ts.length ∧ Few ts rows
    post := fun _ _ => True }
theorem d_spoil {f : Addr} {fd : FuncData} (B : Bly mg) (W : TWo K mg C fI fE CB fdI fdE) (F : Fn K mg "_law_spoil" s__law_spoil ["made", "standing"] f fd)
    (M_names : Dm P w K mg base C "names" CX0 1 ["self"] (spW (c_names C) 1))
    (M_by_turns : Dm P w K mg base C "by_turns" CX0 4 ["self", "standing"] (spW (c_by_turns C) 2)) (M_asked : Dm P w K mg base C "asked" CX0 4 ["self", "standing"] (spW (c_asked C) 2))
    (M_reach : Dm P w K mg base C "reach" CX0 4 ["self", "standing"] (spW (c_reach C) 2)) (M_answers : Dm P w K mg base C "answers" CX0 6 ["self", "standing", "name"] (spW (c_answersW C) 3)) :
    Dk P w K mg base "_law_spoil" CX0 7 ["made", "standing"] (spW (c_spoil C) 2) := by
  refine F.ok sc__law_spoil rfl fun cdv A outer s H E as hr ⟨W0, ts, rows, s0, k, e, wd, lk, few⟩ _ => ⟨_, (pss_cons (ps_for PassesOwn.never rfl (pi_seq (pe_lst (pa_cons (pe_methD0 (pv 0) W.cl M_names (hr.mono (by decide)) pass0) (pa_cons (pe_methD (pv 0) W.cl M_by_turns (hr.mono (by decide)) pass0 (pa_cons (pv 1) pa_nil)) (pa_cons (pe_methD (pv 0) W.cl M_asked (hr.mono (by decide)) pass0 (pa_cons (pv 1) pa_nil)) (pa_cons (pe_methD (pv 0) W.cl M_reach (hr.mono (by decide)) pass0 (pa_cons (pv 1) pa_nil)) pa_nil)))))) (pg_name (i := 2) sc__law_spoil.nd rfl (by first | exact Or.inl rfl | exact Or.inr rfl)) (pss_cons (ps_expr (pe_bm PySem.F.plainAttrs_list PySem.F.slot_list_append PySem.F.type_list_append mt_append (pv 2) (pa_cons pe_str pa_nil)))
      (pss_one (ps_expr (pe_bm0 PySem.F.plainAttrs_list PySem.F.slot_list_reverse PySem.F.type_list_reverse mt_reverse (pv 2))))))
    (pss_one (ps_for PassesOwn.never rfl (pi_seq (pe_methD (pv 0) W.cl M_asked (hr.mono (by decide)) pass0 (pa_cons (pv 1) pa_nil))) (pg_name (i := 3) sc__law_spoil.nd rfl (by first | exact Or.inl rfl | exact Or.inr rfl)) (pss_one (ps_expr (pe_bm PySem.F.plainAttrs_list PySem.F.slot_list_append PySem.F.type_list_append mt_append (pe_methD (pv 0) W.cl M_answers (hr.mono (by decide)) pass0 (pa_cons (pv 1) (pa_cons (pv 3) pa_nil))) (pa_cons (pe_tup (pa_cons pe_int (pa_cons pe_int pa_nil))) pa_nil))))))), fun T => ?_⟩
  subst e
  obtain ⟨rl, ra⟩ := asks_row wd.asks
  have sl := stepsW_len rl
  have sb := steps_le wd.pl
  have n20 := few.n
  obtain ⟨r, er⟩ := at_some rl lk
  obtain ⟨asks, rfl, l160, al⟩ := row_of (ra r (List.mem_of_getElem? er))
  have iW : wdI C [.da W0, .da (.int (k : Nat))] ts rows k := ⟨_, _, rfl, wd, lk⟩
  have e0 := wd.e
  have askedD : ∀ d, (c_asked C).post [.da W0, .da (.int (k : Nat))] d → d = .lst (asks.map fstD) := fun d hd => by
    rw [wd.e] at hd
    have hd : d = .lst ((rowsD (rows.getD (k : Int).toNat .non)).map fstD) := hd
    rw [Int.toNat_natCast, getD_of er] at hd
    exact hd
  refine (?_ : WpS ⟨E, fun _ _ => False, T⟩ _ [.da W0, .da (.int (k : Nat)), .no, .no] (fun _ => True) (fun _ => True))
  have nl : ∀ s3 : Sl, NlS s3 → Nls [.da W0, .da (.int (k : Nat)), .no, s3] := fun s3 h => nls_cons (.da wd.noL) (nls_cons (.da (.int _)) (nls_cons .no (nls_cons h nls_nil)))
  refine wps_seq (wps_spoil (nl _ .no) rfl (n := 4) (by decide) (wpfs_cons (wpf_of (nl _ .no) ?_) (wpfs_cons (wpf_of (nl _ .no) ?_) (wpfs_cons (wpf_of (nl _ .no) ?_) (wpfs_cons (wpf_of (nl _ .no) ?_) wpfs_nil)))) ?_)
  · refine wpe_meth (by decide +kernel) (wpe_var rfl ⟨⟨_, e0⟩, wpa_nil ⟨rfl, ⟨_, ts, rows, s0, rfl, wd, few.few⟩, fun d hd => ?_, fun _ _ z => z⟩⟩)
    obtain ⟨ys, rfl, pw, m⟩ := hd _ ts rows s0 rfl wd
    have := (names_le few pw m).2
    exact ⟨_, rfl, by rw [List.length_map]; omega⟩
  · refine wpe_meth (by decide +kernel) (wpe_var rfl ⟨⟨_, e0⟩, wpa_cons (wpe_var rfl (wpa_nil ⟨rfl, ⟨_, _, _, iW⟩, fun d hd => ?_, fun _ _ z => z⟩))⟩)
    obtain ⟨ys, rfl, cy⟩ := hd _ _ _ iW
    have := comes_len cy
    exact ⟨_, rfl, by rw [List.length_map]; omega⟩
  · refine wpe_meth (by decide +kernel) (wpe_var rfl ⟨⟨_, e0⟩, wpa_cons (wpe_var rfl (wpa_nil ⟨rfl, ⟨_, _, _, iW⟩, fun d hd => ?_, fun _ _ z => z⟩))⟩)
    obtain rfl := askedD d hd
    exact ⟨_, rfl, by rw [List.length_map]; omega⟩
  · refine wpe_meth (by decide +kernel) (wpe_var rfl ⟨⟨_, e0⟩, wpa_cons (wpe_var rfl (wpa_nil ⟨rfl, ⟨_, _, _, iW, sb⟩, fun d hd => ?_, fun _ _ z => z⟩))⟩)
    obtain ⟨ys, rfl, cy⟩ := hd _ _ _ iW
    have := comes_len cy
    exact ⟨_, rfl, by rw [List.length_map]; omega⟩
  refine wps_for (js := [3]) (wpi_seq (wpe_meth (by decide +kernel) (wpe_var rfl ⟨⟨_, e0⟩, wpa_cons (wpe_var rfl (wpa_nil ⟨rfl, ⟨_, _, _, iW⟩, fun d hd => ?_, fun _ _ z => z⟩))⟩)))
  obtain rfl := askedD d hd
  refine ⟨_, .inl rfl, fun j δ' => ∃ x3 : Sl, NlS x3 ∧ δ' = [.da W0, .da (.int (k : Nat)), .no, x3], ⟨_, .no, rfl⟩, ?_, fun _ _ => trivial⟩
  rintro j d δ' ed ⟨x3, n3, rfl⟩
  rw [List.getElem?_map] at ed
  obtain ⟨a, ea, rfl⟩ := Option.map_eq_some_iff.mp ed
  have hm := List.mem_of_getElem? ea
  obtain ⟨x, zs, rfl, nx, nz, aa, pz⟩ := al a hm
  obtain ⟨an, lz, _, _⟩ := ask_get wd er hm
  refine wpg_name (wps_appF (nl _ (.da (.str x))) (wpf_of (nl _ (.da (.str x))) ?_) ?_ (fun _ _ => rz0) ⟨_, .da (.str x), rfl⟩)
  · refine wpe_meth (by decide +kernel) (wpe_var rfl ⟨⟨_, e0⟩, wpa_cons (wpe_var rfl (wpa_cons (wpe_var rfl (wpa_nil ⟨rfl, ⟨_, ts, rows, s0, k, asks, x, zs, rfl, wd, lk, er, hm⟩, fun d hd => ?_, fun _ _ z => z⟩))))⟩)
    obtain rfl := hd _ ts rows s0 k asks x zs rfl wd er hm
    exact ⟨_, rfl, by omega⟩
  · exact wpe_tupL (wpl_cons (wpe_int (wpl_cons (wpe_int (wpl_nil ⟨by show 2 ≤ 1000; decide, trivial⟩)))))
end
end Nv
namespace Nv
open PySem PySem.Spec PyProof.Rows L2
section
variable {P : Program} {w : World} {K : PySem.W.Frag} {mg : Str → Option Value} {base : Heap} {C fI fE CB : Addr} {fdI fdE : FuncData}
abbrev s_law : Stmt := top 46
theorem sc_law : FnScope ["script", "state", "plain", "made", "names", "standing", "name", "answers", "due", "turn"] ["script"] (defScope s_law) :=
  ⟨rfl, rfl, rfl, by decide +kernel, rfl, by decide +kernel, by decide +kernel⟩
theorem ok_law {f : Addr} {fd : FuncData} (B : Bly mg) (W : TWo K mg C fI fE CB fdI fdE) (F : Fun K "law" "law" s_law f fd)
    (D__law_cell : Dk P w K mg base "_law_cell" CX0 1 ["script", "at"] (spCel K)) (D__law_state : Dk P w K mg base "_law_state" CX0 1 ["cell"] spSta)
    (D__law_take : Dk P w K mg base "_law_take" CX0 1 ["state", "many"] (spW c_take 2)) (D__law_plain : Dk P w K mg base "_law_plain" CX0 5 ["state", "most", "dear"] (spW c_plain 3))
    (D__law_made : Dk P w K mg base "_law_made" CX0 10 ["plain"] (spW (c_made C) 1)) (D__law_pairs : Dk P w K mg base "_law_pairs" CX0 1 ["plain"] (spW c_pairs 1))
    (D__law_same : Dg P w K mg base "_law_same" CX0 1 ["told", "due"] (spW c_same 2)) (D__law_tells : Dg P w K mg base "_law_tells" CX0 7 ["made", "plain", "standing"] (spW (c_tells C) 3))
    (D__law_spoil : Dk P w K mg base "_law_spoil" CX0 7 ["made", "standing"] (spW (c_spoil C) 2)) (M_names : Dm P w K mg base C "names" CX0 1 ["self"] (spW (c_names C) 1)) :
    FnG P w K mg base CX0 11 f fd ["script"] (spLaw K) := by
  refine fnG_ok F sc_law (fun vs H Q E h => ?_) (fun cdv A outer s H vs Q E gd hr h => ?_)
  · obtain ⟨a, ns, rfl, _⟩ := h
    rfl
  · obtain ⟨a, ns, rfl, hl, hs, q⟩ := h
    refine ⟨_, (pss_cons (ps_set (i := 1) sc_law.nd rfl (by first | exact Or.inl rfl | exact Or.inr rfl) (pe_callD D__law_state (hr.mono (by decide)) (by rfl) pass0 (pa_cons (pe_callD D__law_cell (hr.mono (by decide)) (by rfl) pass0 (pa_cons (pv 0) (pa_cons pe_int pa_nil))) pa_nil)))
    (pss_cons (ps_set (i := 2) sc_law.nd rfl (by first | exact Or.inl rfl | exact Or.inr rfl) (pe_callD D__law_plain (hr.mono (by decide)) (by rfl) pass0 (pa_cons (pv 1) (pa_cons (pe_ix (ix_K (K := K) rfl) (pe_lst (pa_cons pe_int (pa_cons pe_int (pa_cons pe_int (pa_cons pe_int pa_nil))))) (pe_callD D__law_take (hr.mono (by decide)) (by rfl) pass0 (pa_cons (pv 1) (pa_cons pe_int pa_nil))) (fun _ _ => rfl)) (pa_cons pe_int pa_nil)))))
    (pss_cons (ps_set (i := 3) sc_law.nd rfl (by first | exact Or.inl rfl | exact Or.inr rfl) (pe_callD D__law_made (hr.mono (by decide)) (by rfl) pass0 (pa_cons (pv 2) pa_nil)))
    (pss_cons (ps_set (i := 4) sc_law.nd rfl (by first | exact Or.inl rfl | exact Or.inr rfl) (pe_lst pa_nil))
    (pss_cons (ps_for PassesOwn.never rfl (pi_seq (pe_callD D__law_pairs (hr.mono (by decide)) (by rfl) pass0 (pa_cons (pv 2) pa_nil))) (pg_tup rfl (pgs_cons (pg_name (i := 5) sc_law.nd rfl (by first | exact Or.inl rfl | exact Or.inr rfl)) (pgs_cons (pg_name (i := 6) sc_law.nd rfl (by first | exact Or.inl rfl | exact Or.inr rfl)) (pgs_cons (pg_name (i := 7) sc_law.nd rfl (by first | exact Or.inl rfl | exact Or.inr rfl)) pgs_nil)))) (pss_one (ps_if (pt_cmpR (op_notinK (K := K) rfl) (pv 6) (pv 4) (by with_unfolding_all rfl)) (pss_one (ps_expr (pe_bm PySem.F.plainAttrs_list PySem.F.slot_list_append PySem.F.type_list_append mt_append (pv 4) (pa_cons (pv 6) pa_nil)))) pss_nil)))
    (pss_cons (ps_set (i := 8) sc_law.nd rfl (by first | exact Or.inl rfl | exact Or.inr rfl) (pe_callB (cr_srtTK (K := K) rfl) (by rfl) B.srt b_sorted (pa_cons (pe_lc (own := [("name", 6)]) (g := gName 6) (tt := tYes) (by rfl) sc_law.nd (pi_seq (pv 4)) (blkOk_by (N := ["script", "state", "plain", "made", "names", "standing", "name", "answers", "due", "turn"]) (sc := defScope s_law) (by decide +kernel)) (fun _ _ _ _ _ => pg_name (i := 6) sc_law.nd rfl (by first | exact Or.inl rfl | exact Or.inr rfl)) (fun _ _ _ _ _ => pts_nil) (fun _ _ _ _ _ => (pe_callTy call_str1 (by rfl) B.str b_str (pa_cons (pv 6) pa_nil)))) pa_nil)))
    (pss_cons (ps_for PassesOwn.never rfl (pi_range1 (by rfl) B.rng (pa_cons pe_int pa_nil)) (pg_name (i := 9) sc_law.nd rfl (by first | exact Or.inl rfl | exact Or.inr rfl)) (pss_cons (ps_if (pt_not (pt_val (pe_callDg D__law_same (hr.mono (by decide)) gd (by rfl) pass0 (pa_cons (pe_methD0 (pv 3) W.cl M_names (hr.mono (by decide)) pass0) (pa_cons (pv 8) pa_nil))))) (pss_one (ps_ret pe_bl)) pss_nil)
      (pss_one (ps_for PassesOwn.never rfl (pi_range1 (by rfl) B.rng (pa_cons (pe_fldK (K := K) rfl (pv 3) rfl) pa_nil)) (pg_name (i := 5) sc_law.nd rfl (by first | exact Or.inl rfl | exact Or.inr rfl)) (pss_cons (ps_if (pt_not (pt_val (pe_callDg D__law_tells (hr.mono (by decide)) gd (by rfl) pass0 (pa_cons (pv 3) (pa_cons (pv 2) (pa_cons (pv 5) pa_nil)))))) (pss_one (ps_ret pe_bl)) pss_nil)
        (pss_one (ps_expr (pe_callD D__law_spoil (hr.mono (by decide)) (by rfl) pass0 (pa_cons (pv 3) (pa_cons (pv 5) pa_nil))))))))))
    (pss_one (ps_ret (pe_and (pe_cmpR (op_eqK (K := K) rfl hr.units) (pe_fldK (K := K) rfl (pv 3) rfl) (pe_ix (ix_K (K := K) rfl) (pv 2) pe_int (fun _ _ => rfl)) (by with_unfolding_all rfl)) (pe_and (pe_cmpR (op_eqK (K := K) rfl hr.units) (pe_fldK (K := K) rfl (pv 3) rfl) (pe_ix (ix_K (K := K) rfl) (pv 2) pe_int (fun _ _ => rfl)) (by with_unfolding_all rfl)) (pe_one (pe_cmpR (op_eqK (K := K) rfl hr.units) (pe_fldK (K := K) rfl (pv 3) rfl) (pe_ix (ix_K (K := K) rfl) (pv 2) pe_int (fun _ _ => rfl)) (by with_unfolding_all rfl)))))))))))))), ?_⟩
    let T : Tr := ⟨fun b => H b ≠ none, fun _ => False, fun b u => b = a ∧ H b = some u⟩
    have sq : ∀ H', (∀ u, T.F a u → H' a = some u) → SqL K H' a (ns.map V.int) := fun H' h => sq_inv (fun u hu => h u ⟨rfl, hu⟩) hs
    have en : Ens T (fun _ => none) H [.fx (.ref a), .no, .no, .no, .no, .no, .no, .no, .no, .no] (some (.ref a) :: List.replicate 9 none) := ens_law (n := 9)
    refine (?_ : WpS ⟨E, fun _ _ => False, T⟩ _ [.fx (.ref a), .no, .no, .no, .no, .no, .no, .no, .no, .no] (fun _ => False) (fun d => d = .bl true)) _ _ H en rz0 _ (fun _ _ _ _ _ _ z => z.elim) (fun v d G' H' _ _ _ at' e => by
      subst e
      cases at'
      exact q H')
    refine wps_state (wpe_cell rfl sq (wpe_int ⟨⟨0, rfl⟩, fun n => ⟨⟨n, rfl⟩, fun p np => ?_⟩⟩))
    refine wps_seq (wps_set (wpe_callS rfl (wpl_cons (wpe_op (wpe_lstL (wpl_cons (wpe_int (wpl_cons (wpe_int (wpl_cons (wpe_int (wpl_cons (wpe_int (wpl_nil ⟨by show 4 ≤ 1000; decide, ?_⟩))))))))))))))
    refine wpe_callS rfl (wpl_cons (wpe_int (wpl_nil ⟨rfl, ⟨4, rfl, by decide, by decide⟩, fun d hd => ?_⟩)))
    obtain ⟨k, rfl, k0, k1⟩ := hd _ rfl
    obtain ⟨m, em, m0, m1⟩ : ∃ m : Int, ([.int 9, .int 9, .int 9, .int 20] : List D)[k.toNat]? = some (.int m) ∧ 0 < m ∧ m ≤ 20 := by
      have : k = 0 ∨ k = 1 ∨ k = 2 ∨ k = 3 := by omega
      rcases this with rfl | rfl | rfl | rfl
      · exact ⟨9, rfl, by decide, by decide⟩
      · exact ⟨9, rfl, by decide, by decide⟩
      · exact ⟨9, rfl, by decide, by decide⟩
      · exact ⟨20, rfl, by decide, by decide⟩
    refine opd_ix (n := k.toNat) (.inl rfl) (by omega) em (wpl_cons (wpe_int (wpl_nil ⟨rfl, ⟨m, 5, rfl, m0, by omega, by decide, by decide⟩, fun d hd => ?_⟩)))
    obtain ⟨ts, rows, z, rfl, pl, z0, z1, sm⟩ := hd m 5 rfl
    have lm : ts.length ≤ 20 := by have := pl.most; omega
    have few : Few ts rows := ⟨lm, sm⟩
    have pl3 : Pl 300 ts rows := ⟨pl.t, pl.a, pl.h, pl.okt, pl.oka, by omega⟩
    have pl4 : Pl 400 ts rows := ⟨pl.t, pl.a, pl.h, pl.okt, pl.oka, by omega⟩
    refine wps_seq (wps_set (wpe_call1 (wpe_var rfl ⟨⟨ts, rows, z, rfl, pl3, z0, z1⟩, ?_⟩)))
    have wd : WdD C (.ins C wN [tD ts, .tup rows, .int z, .int (tsOf (tD ts)).length]) ts rows z := ⟨by rw [tsOf_tD], pl4, z0, z1⟩
    show WpS _ _ (List.set _ 3 (.da (.ins C wN [tD ts, .tup rows, .int z, .int (tsOf (tD ts)).length]))) _ _
    generalize D.ins C wN [tD ts, .tup rows, .int z, .int (tsOf (tD ts)).length] = W0 at wd
    refine wps_seq (wps_newl fun p4 => ?_)
    refine wps_seq (wps_for (js := [5, 6, 7]) (wpi_seq (wpe_call0 (wpa_cons (wpe_var rfl (wpa_nil ⟨rfl, ⟨ts, rows, z, rfl, pl3⟩, fun d hd => ?_, fun _ _ z => z⟩))))))
    obtain ⟨xs, rfl, lx, ax, cov⟩ := hd ts rows z rfl
    refine ⟨_, .inl rfl, fun i δ' => ∃ (zs : List Str) (x5 x6 x7 : Sl), δ' = [.fx (.ref a), .st p, .da (.tup [tD ts, .tup rows, .int z]), .da W0, .ow p4 (zs.map D.str), x5, x6, x7, .no, .no] ∧ zs.Nodup ∧ (∀ x ∈ zs, x ∈ namesR rows) ∧ ∀ q ∈ xs.take i, ∀ n x b, q = .tup [.int n, .str x, b] → x ∈ zs,
      ⟨[], _, _, _, rfl, List.nodup_nil, by simp, by simp⟩, ?_, ?_⟩
    · rintro i d δ' ed ⟨zs, x5, x6, x7, rfl, nd, sub, tk⟩
      obtain ⟨n5, asks, x, as, rfl, er, hm⟩ := ax d (List.mem_of_getElem? ed)
      have lz : zs.length ≤ 5 := nodup_le (U := words) nd fun y hy => few.names y (sub y hy)
      refine wpg_tri ⟨_, _, _, rfl, wps_if (wpt_test (wpe_inOT (i := 4) rfl (wpe_var rfl ⟨x, rfl, _, rfl, ite_b (fun h => ?_) (fun h => ?_)⟩)))⟩
      · have nx : x ∉ zs := fun q => by
          have h : (!decide (x ∈ zs)) = true := h
          rw [decide_eq_true q] at h
          cases h
        refine wps_append (i := 4) rfl (by rw [List.length_map]; omega) (wpe_var rfl ⟨zs ++ [x], _, _, _, by rw [List.map_append]; rfl, ?_, fun y hy => ?_, fun q hq n y b e => ?_⟩)
        · rw [List.nodup_append]
          exact ⟨nd, by simp, fun a ha c hc => by
            rw [List.mem_singleton] at hc
            subst hc
            exact fun e => nx (by rw [← e]; exact ha)⟩
        · rcases List.mem_append.mp hy with hy | hy
          · exact sub y hy
          · rw [List.mem_singleton] at hy
            subst hy
            exact List.mem_flatMap.mpr ⟨_, List.mem_of_getElem? er, List.mem_map.mpr ⟨_, hm, rfl⟩⟩
        · rw [List.take_add_one, ed] at hq
          rcases List.mem_append.mp hq with hq | hq
          · exact List.mem_append_left _ (tk q hq n y b e)
          · obtain rfl : q = _ := by simpa using hq
            have := D.tup.inj e
            obtain rfl := D.str.inj (List.cons.inj (List.cons.inj this).2).1
            exact List.mem_append_right _ (List.mem_singleton.mpr rfl)
      · have mx : x ∈ zs := by
          have h : (!decide (x ∈ zs)) = false := h
          exact of_decide_eq_true (by rw [Bool.not_eq_false'] at h; exact h)
        refine wps_nil ⟨zs, _, _, _, rfl, nd, sub, fun q hq n y b e => ?_⟩
        rw [List.take_add_one, ed] at hq
        rcases List.mem_append.mp hq with hq | hq
        · exact tk q hq n y b e
        · obtain rfl : q = _ := by simpa using hq
          have := D.tup.inj e
          obtain rfl := D.str.inj (List.cons.inj (List.cons.inj this).2).1
          exact mx
    rintro δ' ⟨zs, x5, x6, x7, rfl, nd, sub, tk⟩
    rw [List.take_length] at tk
    have lz : zs.length ≤ 5 := nodup_le (U := words) nd fun y hy => few.names y (sub y hy)
    refine wps_freeze (i := 4) rfl ?_
    refine wps_seq (wps_set (wpe_cb1 (wpe_map id (by simp) (wpi_seq (wpe_var rfl ⟨_, .inl rfl, by rw [List.length_map]; omega, fun d hd => ?_, ?_⟩)))))
    · obtain ⟨y, _, rfl⟩ := List.mem_map.mp hd
      exact wpe_cb1 (wpe_var rfl (cbd_str1 rfl))
    rw [List.map_id]
    refine cbd_srtT fun ys hp hsd => ?_
    have ay : ys.Pairwise ltS := asc_strs hsd (hp.nodup_iff.mpr nd)
    have my : ∀ x, x ∈ ys ↔ x ∈ namesR rows := fun x => by
      rw [hp.mem_iff]
      refine ⟨sub x, fun hx => ?_⟩
      obtain ⟨q, hq, n, b, e⟩ := cov x hx
      exact tk q hq n x b e
    obtain ⟨wy, ly⟩ := names_le few ay my
    have shD := shL_strs (by omega) wy
    refine wps_seq (wps_for (js := [9]) (wpi_rng1 (wpe_int ⟨2, rfl, by decide, by decide, fun i δ' => ∃ x5 x9 : Sl, δ' = [.fx (.ref a), .st p, .da (.tup [tD ts, .tup rows, .int z]), .da W0, .da (.lst (zs.map D.str)), x5, x6, x7, .da (.lst (ys.map D.str)), x9], ⟨_, _, rfl⟩, ?_, ?_⟩)))
    · rintro i d δ' ed ⟨x5, x9, rfl⟩
      refine wpg_name (wps_seq (wps_if (wpt_not (wpt_B (wpe_call0 (wpa_cons (wpe_meth (by decide +kernel) (wpe_var rfl ⟨⟨_, wd.e⟩, wpa_nil ⟨rfl, ⟨_, ts, rows, z, rfl, wd, few.few⟩, fun d hd => ?_, fun _ _ z => z⟩⟩))))))))
      obtain ⟨ys1, rfl, pw, my1⟩ := hd _ ts rows z rfl wd
      obtain rfl : ys1 = ys := asc_extS pw ay fun x => (my1 x).trans (my x).symm
      refine wpa_cons (wpe_var rfl (wpa_nil ⟨rfl, ⟨_, rfl, shD⟩, fun d hd => ?_, fun _ _ z => z⟩))
      obtain rfl : d = .bl true := hd
      refine ⟨_, rfl, ite_nt (wps_nil ?_)⟩
      refine wps_for (js := [5]) (wpi_rng1 (wpe_fldW (i := 3) W.cl W.n4 rfl (wpe_var rfl ⟨_, _, wd.e, rfl, ts.length, rfl, by omega, by omega, ?_⟩)))
      rw [Int.toNat_natCast]
      refine ⟨fun j δ' => ∃ x5 : Sl, δ' = [.fx (.ref a), .st p, .da (.tup [tD ts, .tup rows, .int z]), .da W0, .da (.lst (zs.map D.str)), x5, x6, x7, .da (.lst (ys1.map D.str)), .da _], ⟨_, rfl⟩, ?_, ?_⟩
      · rintro j d δ' ed ⟨x5, rfl⟩
        obtain ⟨ed, li⟩ := rngD_at ed
        rw [Int.zero_add] at ed
        subst ed
        refine wpg_name (wps_seq (wps_if (wpt_not (wpt_B (wpe_call0 (wpa_cons (wpe_var rfl (wpa_cons (wpe_var rfl (wpa_cons (wpe_var rfl (wpa_nil ⟨rfl, ⟨W0, ts, rows, z, j, rfl, wd, li, few⟩, fun d hd => ?_, fun _ _ z => z⟩))))))))))))
        obtain rfl : d = .bl true := hd
        refine ⟨_, rfl, ite_nt (wps_nil ?_)⟩
        exact wps_drop (wpe_call0 (wpa_cons (wpe_var rfl (wpa_cons (wpe_var rfl (wpa_nil ⟨rfl, ⟨W0, ts, rows, z, j, rfl, wd, li, few⟩, fun d hd => ⟨_, rfl⟩, fun _ _ z => z⟩))))))
      · rintro δ' ⟨x5, rfl⟩
        exact ⟨_, _, rfl⟩
    rintro δ' ⟨x5, x9, rfl⟩
    refine wps_ret (wpe_andV (wpe_op (wpe_fldW (i := 0) W.cl W.n1 rfl (wpe_var rfl ⟨_, _, wd.e, rfl, wpe_op (wpe_var rfl (wpe_int (opd_ix (n := 0) (.inr rfl) rfl rfl (opd_r (opd_eqDD lay_tD lay_tD (by decide) ?_)))))⟩))))
    rw [eqv_self lay_tD]
    refine ⟨_, rfl, ite_t ?_⟩
    refine wpe_andV (wpe_op (wpe_fldW (i := 1) W.cl W.n2 rfl (wpe_var rfl ⟨_, _, wd.e, rfl, wpe_op (wpe_var rfl (wpe_int (opd_ix (n := 1) (.inr rfl) rfl rfl (opd_r (opd_eqDD (lay_asks wd.asks) (lay_asks wd.asks) (by decide) ?_)))))⟩)))
    rw [eqv_self (lay_asks wd.asks)]
    refine ⟨_, rfl, ite_t ?_⟩
    refine wpe_op (wpe_fldW (i := 2) W.cl W.n3 rfl (wpe_var rfl ⟨_, _, wd.e, rfl, wpe_op (wpe_var rfl (wpe_int (opd_ix (n := 2) (.inr rfl) rfl rfl (opd_l (opd_eqI ?_)))))⟩))
    rw [decide_eq_true rfl]
end
end Nv
namespace Nv
open PySem PySem.Spec PyProof.Rows L2
theorem all_mk {P : Program} {w : World} {K : PySem.W.Frag} {h : Heap} {mg : Str → Option Value} {fa C CB fE fI TE KD f_d0 f_d1 f_d2 f_d3 f_d4 f_d5 f_d6 f_d7 f_d8 f_d9 f_d10 f_d11 f_d12 f_d13 f_d14 f_d15 f_d16 f_d17 f_d18 f_d19 f_d20 f_d21 f_d22 f_d23 f_d24 f_d25 f_d26 f_d27 f_d28 f_d29 f_d30 f_d31 f_d32 f_d33 f_d34 f_d35 f_d36 f_d37 f_d38 f_d39 f_d40 : Addr} (X : K.In h) (G : h.Ns mainGlobals mg) (hfa : mg "law" = some (.ref fa))
    {odE anE odI anI od_d0 an_d0 od_d1 an_d1 od_d2 an_d2 od_d3 an_d3 od_d4 an_d4 od_d5 an_d5 od_d6 an_d6 od_d7 an_d7 od_d8 an_d8 od_d9 an_d9 od_d10 an_d10 od_d11 an_d11 od_d12 an_d12 od_d13 an_d13 od_d14 an_d14 od_d15 an_d15 od_d16 an_d16 od_d17 an_d17 od_d18 an_d18 od_d19 an_d19 od_d20 an_d20 od_d21 an_d21 od_d22 an_d22 od_d23 an_d23 od_d24 an_d24 od_d25 an_d25 od_d26 an_d26 od_d27 an_d27 od_d28 an_d28 od_d29 an_d29 od_d30 an_d30 od_d31 an_d31 od_d32 an_d32 od_d33 an_d33 od_d34 an_d34 od_d35 an_d35 od_d36 an_d36 od_d37 an_d37 od_d38 an_d38 od_d39 an_d39 od_d40 an_d40 : Option Addr} {slE slI sl_d0 sl_d1 sl_d2 sl_d3 sl_d4 sl_d5 sl_d6 sl_d7 sl_d8 sl_d9 sl_d10 sl_d11 sl_d12 sl_d13 sl_d14 sl_d15 sl_d16 sl_d17 sl_d18 sl_d19 sl_d20 sl_d21 sl_d22 sl_d23 sl_d24 sl_d25 sl_d26 sl_d27 sl_d28 sl_d29 sl_d30 sl_d31 sl_d32 sl_d33 sl_d34 sl_d35 sl_d36 sl_d37 sl_d38 sl_d39 sl_d40 : Array (Option Value)}
    {ocE kVE dcE pmE cdE ctE ocI dcI pmI cdI ctI oc_d0 kV_d0 dc_d0 pm_d0 cd_d0 ct_d0 oc_d1 kV_d1 dc_d1 pm_d1 cd_d1 ct_d1 oc_d2 kV_d2 dc_d2 pm_d2 cd_d2 ct_d2 oc_d3 kV_d3 dc_d3 pm_d3 cd_d3 ct_d3 oc_d4 kV_d4 dc_d4 pm_d4 cd_d4 ct_d4 oc_d5 kV_d5 dc_d5 pm_d5 cd_d5 ct_d5 oc_d6 kV_d6 dc_d6 pm_d6 cd_d6 ct_d6 oc_d7 kV_d7 dc_d7 pm_d7 cd_d7 ct_d7 oc_d8 kV_d8 dc_d8 pm_d8 cd_d8 ct_d8 oc_d9 kV_d9 dc_d9 pm_d9 cd_d9 ct_d9 oc_d10 kV_d10 dc_d10 pm_d10 cd_d10 ct_d10 oc_d11 kV_d11 dc_d11 pm_d11 cd_d11 ct_d11 oc_d12 kV_d12 dc_d12 pm_d12 cd_d12 ct_d12 oc_d13 kV_d13 dc_d13 pm_d13 cd_d13 ct_d13 oc_d14 kV_d14 dc_d14 pm_d14 cd_d14 ct_d14 oc_d15 kV_d15 dc_d15 pm_d15 cd_d15 ct_d15 oc_d16 kV_d16 dc_d16 pm_d16 cd_d16 ct_d16 oc_d17 kV_d17 dc_d17 pm_d17 cd_d17 ct_d17 oc_d18 kV_d18 dc_d18 pm_d18 cd_d18 ct_d18 oc_d19 kV_d19 dc_d19 pm_d19 cd_d19 ct_d19 oc_d20 kV_d20 dc_d20 pm_d20 cd_d20 ct_d20 oc_d21 kV_d21 dc_d21 pm_d21 cd_d21 ct_d21 oc_d22 kV_d22 dc_d22 pm_d22 cd_d22 ct_d22 oc_d23 kV_d23 dc_d23 pm_d23 cd_d23 ct_d23 oc_d24 kV_d24 dc_d24 pm_d24 cd_d24 ct_d24 oc_d25 kV_d25 dc_d25 pm_d25 cd_d25 ct_d25 oc_d26 kV_d26 dc_d26 pm_d26 cd_d26 ct_d26 oc_d27 kV_d27 dc_d27 pm_d27 cd_d27 ct_d27 oc_d28 kV_d28 dc_d28 pm_d28 cd_d28 ct_d28 oc_d29 kV_d29 dc_d29 pm_d29 cd_d29 ct_d29 oc_d30 kV_d30 dc_d30 pm_d30 cd_d30 ct_d30 oc_d31 kV_d31 dc_d31 pm_d31 cd_d31 ct_d31 oc_d32 kV_d32 dc_d32 pm_d32 cd_d32 ct_d32 oc_d33 kV_d33 dc_d33 pm_d33 cd_d33 ct_d33 oc_d34 kV_d34 dc_d34 pm_d34 cd_d34 ct_d34 oc_d35 kV_d35 dc_d35 pm_d35 cd_d35 ct_d35 oc_d36 kV_d36 dc_d36 pm_d36 cd_d36 ct_d36 oc_d37 kV_d37 dc_d37 pm_d37 cd_d37 ct_d37 oc_d38 kV_d38 dc_d38 pm_d38 cd_d38 ct_d38 oc_d39 kV_d39 dc_d39 pm_d39 cd_d39 ct_d39 oc_d40 kV_d40 dc_d40 pm_d40 cd_d40 ct_d40 : Value}
    {nm q : Str} {N : Addr} {bs bm : List Value} {sn : List Str} {sub : List Value} {ab : Bool} {col : Option Bool} {dd : Option Addr} {m0 m1 m2 m3 m5 : Option Value} {oE : Obj} {nE : Nat} {tkL tkN tkS tkA tk0 : Tok}
    (z_len : PySem.W.nsIn K mainGlobals "len" = some none)
    (z_int : PySem.W.nsIn K mainGlobals "int" = some none)
    (z_bool : PySem.W.nsIn K mainGlobals "bool" = some none)
    (z_str : PySem.W.nsIn K mainGlobals "str" = some none)
    (z_tuple : PySem.W.nsIn K mainGlobals "tuple" = some none)
    (z_list : PySem.W.nsIn K mainGlobals "list" = some none)
    (z_abs : PySem.W.nsIn K mainGlobals "abs" = some none)
    (z_isinstance : PySem.W.nsIn K mainGlobals "isinstance" = some none)
    (z_range : PySem.W.nsIn K mainGlobals "range" = some none)
    (z_zip : PySem.W.nsIn K mainGlobals "zip" = some none)
    (z_enumerate : PySem.W.nsIn K mainGlobals "enumerate" = some none)
    (z_all : PySem.W.nsIn K mainGlobals "all" = some none)
    (z_sorted : PySem.W.nsIn K mainGlobals "sorted" = some none)
    (z_repr : PySem.W.nsIn K mainGlobals "repr" = some none)
    (gL : PySem.W.nsIn K mainGlobals "LETTERS" = some (some (.str letters tkL)))
    (gN : PySem.W.nsIn K mainGlobals "LONGEST_NAME" = some (some (.int 12 tkN)))
    (gS : PySem.W.nsIn K mainGlobals "MOST_STANDINGS" = some (some (.int 400 tkS)))
    (gA : PySem.W.nsIn K mainGlobals "MOST_ASKS" = some (some (.int 160 tkA)))
    (aB : PySem.W.nsIn K mainGlobals "BadWorld" = some (some (.ref CB)))
    (xL : K.lookup CB = some (excClassObj nm q CB N bs bm true sn sub ab col dd m0 m1 m2 m3 m5 "ValueError.__new__"))
    (rV : PySem.HandSPX.refsVE bm = true)
    (sB : PySem.W.findIn K (.ref CB) "__setattr__" = some (some (.builtin "object.__setattr__")))
    (gB : PySem.W.findIn K (.ref CB) "__getattribute__" = some (some (.builtin "BaseException.__getattribute__")))
    (ggB : PySem.W.findIn K (.ref CB) "__getattr__" = some none)
    (nB : PySem.W.findIn K (.ref CB) "what" = some none)
    (iB : PySem.W.findIn K (.ref CB) "__init__" = some (some (.ref fE)))
    (tE : PySem.W.typeIn K (.ref fE) = some (.type "function"))
    (kB : PySem.W.keepIn K (.ref CB) = true)
    (eB : PySem.W.subIn K (.ref CB) (.type "BaseException") = some true)
    (tB : PySem.W.typeIn K (.ref CB) = some (.type "type"))
    (hB : PySem.W.hasDictIn K CB = true)
    (cB : PySem.W.isClsIn K CB = true)
    (ssB : PySem.W.subIn K (.ref CB) (.ref CB) = some true)
    (lE : K.lookup fE = some ⟨ocE, odE, .func (PySem.W.fnOf "__init__" "OweError.__init__" (defArgs sExI) (defBody sExI) (defScope sExI) (.ref TE) kVE dcE pmE anE cdE ctE), slE⟩)
    (cE : PySem.W.codeIn K cdE "OweError.__init__" = true)
    (kE : PySem.W.keepIn K (.ref fE) = true)
    (tlE : K.lookup TE = some oE)
    (tdE : oE.data = .seq [Value.none].toArray nE)
    (aC : PySem.W.nsIn K mainGlobals "World" = some (some (.ref C)))
    (aI : PySem.W.findIn K (.ref C) "__init__" = some (some (.ref fI)))
    (iI : PySem.W.isFn K (.ref fI) = true)
    (lI : K.lookup fI = some ⟨ocI, odI, .func (PySem.W.fnOf "__init__" "World.__init__" (defArgs s___init__) (defBody s___init__) (defScope s___init__) .none (.ref KD) dcI pmI anI cdI ctI), slI⟩)
    (cI : PySem.W.codeIn K cdI "World.__init__" = true)
    (kI : PySem.W.keepIn K (.ref fI) = true)
    (dI : PySem.W.nsIn K KD "start" = some (some (.int 0 tk0)))
    (pg : PySem.W.plainGet K C Str.empty = true)
    (hd : PySem.W.hasDictIn K C = true)
    (po : PySem.W.plainOver K C = true)
    (sa : PySem.W.findIn K (.ref C) "__setattr__" = some (some (.builtin "object.__setattr__")))
    (mk : PySem.W.makesIn K C = true)
    (kc : PySem.W.keepIn K (.ref C) = true)
    (n1 : PySem.W.findIn K (.ref C) "turns" = some none)
    (n2 : PySem.W.findIn K (.ref C) "asks" = some none)
    (n3 : PySem.W.findIn K (.ref C) "start" = some none)
    (n4 : PySem.W.findIn K (.ref C) "size" = some none)
    (a_d0 : PySem.W.nsIn K mainGlobals "is_integer" = some (some (.ref f_d0)))
    (l_d0 : K.lookup f_d0 = some ⟨oc_d0, od_d0, .func (PySem.W.fnOf "is_integer" "is_integer" (defArgs s_is_integer) (defBody s_is_integer) (defScope s_is_integer) .none kV_d0 dc_d0 pm_d0 an_d0 cd_d0 ct_d0), sl_d0⟩)
    (c_d0 : PySem.W.codeIn K cd_d0 "is_integer" = true)
    (k_d0 : PySem.W.keepIn K (.ref f_d0) = true)
    (a_d1 : PySem.W.nsIn K mainGlobals "is_from_zero" = some (some (.ref f_d1)))
    (l_d1 : K.lookup f_d1 = some ⟨oc_d1, od_d1, .func (PySem.W.fnOf "is_from_zero" "is_from_zero" (defArgs s_is_from_zero) (defBody s_is_from_zero) (defScope s_is_from_zero) .none kV_d1 dc_d1 pm_d1 an_d1 cd_d1 ct_d1), sl_d1⟩)
    (c_d1 : PySem.W.codeIn K cd_d1 "is_from_zero" = true)
    (k_d1 : PySem.W.keepIn K (.ref f_d1) = true)
    (a_d2 : PySem.W.nsIn K mainGlobals "is_index" = some (some (.ref f_d2)))
    (l_d2 : K.lookup f_d2 = some ⟨oc_d2, od_d2, .func (PySem.W.fnOf "is_index" "is_index" (defArgs s_is_index) (defBody s_is_index) (defScope s_is_index) .none kV_d2 dc_d2 pm_d2 an_d2 cd_d2 ct_d2), sl_d2⟩)
    (c_d2 : PySem.W.codeIn K cd_d2 "is_index" = true)
    (k_d2 : PySem.W.keepIn K (.ref f_d2) = true)
    (a_d3 : PySem.W.nsIn K mainGlobals "is_name" = some (some (.ref f_d3)))
    (l_d3 : K.lookup f_d3 = some ⟨oc_d3, od_d3, .func (PySem.W.fnOf "is_name" "is_name" (defArgs s_is_name) (defBody s_is_name) (defScope s_is_name) .none kV_d3 dc_d3 pm_d3 an_d3 cd_d3 ct_d3), sl_d3⟩)
    (c_d3 : PySem.W.codeIn K cd_d3 "is_name" = true)
    (k_d3 : PySem.W.keepIn K (.ref f_d3) = true)
    (a_d4 : PySem.W.nsIn K mainGlobals "is_ascending" = some (some (.ref f_d4)))
    (l_d4 : K.lookup f_d4 = some ⟨oc_d4, od_d4, .func (PySem.W.fnOf "is_ascending" "is_ascending" (defArgs s_is_ascending) (defBody s_is_ascending) (defScope s_is_ascending) .none kV_d4 dc_d4 pm_d4 an_d4 cd_d4 ct_d4), sl_d4⟩)
    (c_d4 : PySem.W.codeIn K cd_d4 "is_ascending" = true)
    (k_d4 : PySem.W.keepIn K (.ref f_d4) = true)
    (a_d5 : PySem.W.nsIn K mainGlobals "is_answer" = some (some (.ref f_d5)))
    (l_d5 : K.lookup f_d5 = some ⟨oc_d5, od_d5, .func (PySem.W.fnOf "is_answer" "is_answer" (defArgs s_is_answer) (defBody s_is_answer) (defScope s_is_answer) .none kV_d5 dc_d5 pm_d5 an_d5 cd_d5 ct_d5), sl_d5⟩)
    (c_d5 : PySem.W.codeIn K cd_d5 "is_answer" = true)
    (k_d5 : PySem.W.keepIn K (.ref f_d5) = true)
    (a_d6 : PySem.W.nsIn K mainGlobals "are_answers" = some (some (.ref f_d6)))
    (l_d6 : K.lookup f_d6 = some ⟨oc_d6, od_d6, .func (PySem.W.fnOf "are_answers" "are_answers" (defArgs s_are_answers) (defBody s_are_answers) (defScope s_are_answers) .none kV_d6 dc_d6 pm_d6 an_d6 cd_d6 ct_d6), sl_d6⟩)
    (c_d6 : PySem.W.codeIn K cd_d6 "are_answers" = true)
    (k_d6 : PySem.W.keepIn K (.ref f_d6) = true)
    (a_d7 : PySem.W.nsIn K mainGlobals "is_ask" = some (some (.ref f_d7)))
    (l_d7 : K.lookup f_d7 = some ⟨oc_d7, od_d7, .func (PySem.W.fnOf "is_ask" "is_ask" (defArgs s_is_ask) (defBody s_is_ask) (defScope s_is_ask) .none kV_d7 dc_d7 pm_d7 an_d7 cd_d7 ct_d7), sl_d7⟩)
    (c_d7 : PySem.W.codeIn K cd_d7 "is_ask" = true)
    (k_d7 : PySem.W.keepIn K (.ref f_d7) = true)
    (a_d8 : PySem.W.nsIn K mainGlobals "are_asks_of" = some (some (.ref f_d8)))
    (l_d8 : K.lookup f_d8 = some ⟨oc_d8, od_d8, .func (PySem.W.fnOf "are_asks_of" "are_asks_of" (defArgs s_are_asks_of) (defBody s_are_asks_of) (defScope s_are_asks_of) .none kV_d8 dc_d8 pm_d8 an_d8 cd_d8 ct_d8), sl_d8⟩)
    (c_d8 : PySem.W.codeIn K cd_d8 "are_asks_of" = true)
    (k_d8 : PySem.W.keepIn K (.ref f_d8) = true)
    (a_d9 : PySem.W.nsIn K mainGlobals "are_asks" = some (some (.ref f_d9)))
    (l_d9 : K.lookup f_d9 = some ⟨oc_d9, od_d9, .func (PySem.W.fnOf "are_asks" "are_asks" (defArgs s_are_asks) (defBody s_are_asks) (defScope s_are_asks) .none kV_d9 dc_d9 pm_d9 an_d9 cd_d9 ct_d9), sl_d9⟩)
    (c_d9 : PySem.W.codeIn K cd_d9 "are_asks" = true)
    (k_d9 : PySem.W.keepIn K (.ref f_d9) = true)
    (a_d10 : PySem.W.nsIn K mainGlobals "are_turns_of" = some (some (.ref f_d10)))
    (l_d10 : K.lookup f_d10 = some ⟨oc_d10, od_d10, .func (PySem.W.fnOf "are_turns_of" "are_turns_of" (defArgs s_are_turns_of) (defBody s_are_turns_of) (defScope s_are_turns_of) .none kV_d10 dc_d10 pm_d10 an_d10 cd_d10 ct_d10), sl_d10⟩)
    (c_d10 : PySem.W.codeIn K cd_d10 "are_turns_of" = true)
    (k_d10 : PySem.W.keepIn K (.ref f_d10) = true)
    (a_d11 : PySem.W.nsIn K mainGlobals "are_turns" = some (some (.ref f_d11)))
    (l_d11 : K.lookup f_d11 = some ⟨oc_d11, od_d11, .func (PySem.W.fnOf "are_turns" "are_turns" (defArgs s_are_turns) (defBody s_are_turns) (defScope s_are_turns) .none kV_d11 dc_d11 pm_d11 an_d11 cd_d11 ct_d11), sl_d11⟩)
    (c_d11 : PySem.W.codeIn K cd_d11 "are_turns" = true)
    (k_d11 : PySem.W.keepIn K (.ref f_d11) = true)
    (a_d12 : PySem.W.nsIn K mainGlobals "come_to" = some (some (.ref f_d12)))
    (l_d12 : K.lookup f_d12 = some ⟨oc_d12, od_d12, .func (PySem.W.fnOf "come_to" "come_to" (defArgs s_come_to) (defBody s_come_to) (defScope s_come_to) .none kV_d12 dc_d12 pm_d12 an_d12 cd_d12 ct_d12), sl_d12⟩)
    (c_d12 : PySem.W.codeIn K cd_d12 "come_to" = true)
    (k_d12 : PySem.W.keepIn K (.ref f_d12) = true)
    (a_d13 : PySem.W.nsIn K mainGlobals "is_silent" = some (some (.ref f_d13)))
    (l_d13 : K.lookup f_d13 = some ⟨oc_d13, od_d13, .func (PySem.W.fnOf "is_silent" "is_silent" (defArgs s_is_silent) (defBody s_is_silent) (defScope s_is_silent) .none kV_d13 dc_d13 pm_d13 an_d13 cd_d13 ct_d13), sl_d13⟩)
    (c_d13 : PySem.W.codeIn K cd_d13 "is_silent" = true)
    (k_d13 : PySem.W.keepIn K (.ref f_d13) = true)
    (a_d14 : PySem.W.findIn K (.ref C) "_check_standing" = some (some (.ref f_d14)))
    (i_d14 : PySem.W.isFn K (.ref f_d14) = true)
    (l_d14 : K.lookup f_d14 = some ⟨oc_d14, od_d14, .func (PySem.W.fnOf "_check_standing" "World._check_standing" (defArgs s__check_standing) (defBody s__check_standing) (defScope s__check_standing) .none kV_d14 dc_d14 pm_d14 an_d14 cd_d14 ct_d14), sl_d14⟩)
    (c_d14 : PySem.W.codeIn K cd_d14 "World._check_standing" = true)
    (k_d14 : PySem.W.keepIn K (.ref f_d14) = true)
    (a_d15 : PySem.W.findIn K (.ref C) "by_turns" = some (some (.ref f_d15)))
    (i_d15 : PySem.W.isFn K (.ref f_d15) = true)
    (l_d15 : K.lookup f_d15 = some ⟨oc_d15, od_d15, .func (PySem.W.fnOf "by_turns" "World.by_turns" (defArgs s_by_turns) (defBody s_by_turns) (defScope s_by_turns) .none kV_d15 dc_d15 pm_d15 an_d15 cd_d15 ct_d15), sl_d15⟩)
    (c_d15 : PySem.W.codeIn K cd_d15 "World.by_turns" = true)
    (k_d15 : PySem.W.keepIn K (.ref f_d15) = true)
    (a_d16 : PySem.W.nsIn K mainGlobals "goals_of" = some (some (.ref f_d16)))
    (l_d16 : K.lookup f_d16 = some ⟨oc_d16, od_d16, .func (PySem.W.fnOf "goals_of" "goals_of" (defArgs s_goals_of) (defBody s_goals_of) (defScope s_goals_of) .none kV_d16 dc_d16 pm_d16 an_d16 cd_d16 ct_d16), sl_d16⟩)
    (c_d16 : PySem.W.codeIn K cd_d16 "goals_of" = true)
    (k_d16 : PySem.W.keepIn K (.ref f_d16) = true)
    (a_d17 : PySem.W.findIn K (.ref C) "reach" = some (some (.ref f_d17)))
    (i_d17 : PySem.W.isFn K (.ref f_d17) = true)
    (l_d17 : K.lookup f_d17 = some ⟨oc_d17, od_d17, .func (PySem.W.fnOf "reach" "World.reach" (defArgs s_reach) (defBody s_reach) (defScope s_reach) .none kV_d17 dc_d17 pm_d17 an_d17 cd_d17 ct_d17), sl_d17⟩)
    (c_d17 : PySem.W.codeIn K cd_d17 "World.reach" = true)
    (k_d17 : PySem.W.keepIn K (.ref f_d17) = true)
    (a_d18 : PySem.W.findIn K (.ref C) "asked" = some (some (.ref f_d18)))
    (i_d18 : PySem.W.isFn K (.ref f_d18) = true)
    (l_d18 : K.lookup f_d18 = some ⟨oc_d18, od_d18, .func (PySem.W.fnOf "asked" "World.asked" (defArgs s_asked) (defBody s_asked) (defScope s_asked) .none kV_d18 dc_d18 pm_d18 an_d18 cd_d18 ct_d18), sl_d18⟩)
    (c_d18 : PySem.W.codeIn K cd_d18 "World.asked" = true)
    (k_d18 : PySem.W.keepIn K (.ref f_d18) = true)
    (a_d19 : PySem.W.findIn K (.ref C) "_ask_at" = some (some (.ref f_d19)))
    (i_d19 : PySem.W.isFn K (.ref f_d19) = true)
    (l_d19 : K.lookup f_d19 = some ⟨oc_d19, od_d19, .func (PySem.W.fnOf "_ask_at" "World._ask_at" (defArgs s__ask_at) (defBody s__ask_at) (defScope s__ask_at) .none kV_d19 dc_d19 pm_d19 an_d19 cd_d19 ct_d19), sl_d19⟩)
    (c_d19 : PySem.W.codeIn K cd_d19 "World._ask_at" = true)
    (k_d19 : PySem.W.keepIn K (.ref f_d19) = true)
    (a_d20 : PySem.W.findIn K (.ref C) "_answers_of" = some (some (.ref f_d20)))
    (i_d20 : PySem.W.isFn K (.ref f_d20) = true)
    (l_d20 : K.lookup f_d20 = some ⟨oc_d20, od_d20, .func (PySem.W.fnOf "_answers_of" "World._answers_of" (defArgs s__answers_of) (defBody s__answers_of) (defScope s__answers_of) .none kV_d20 dc_d20 pm_d20 an_d20 cd_d20 ct_d20), sl_d20⟩)
    (c_d20 : PySem.W.codeIn K cd_d20 "World._answers_of" = true)
    (k_d20 : PySem.W.keepIn K (.ref f_d20) = true)
    (a_d21 : PySem.W.nsIn K mainGlobals "answer_at" = some (some (.ref f_d21)))
    (l_d21 : K.lookup f_d21 = some ⟨oc_d21, od_d21, .func (PySem.W.fnOf "answer_at" "answer_at" (defArgs s_answer_at) (defBody s_answer_at) (defScope s_answer_at) .none kV_d21 dc_d21 pm_d21 an_d21 cd_d21 ct_d21), sl_d21⟩)
    (c_d21 : PySem.W.codeIn K cd_d21 "answer_at" = true)
    (k_d21 : PySem.W.keepIn K (.ref f_d21) = true)
    (a_d22 : PySem.W.findIn K (.ref C) "names" = some (some (.ref f_d22)))
    (i_d22 : PySem.W.isFn K (.ref f_d22) = true)
    (l_d22 : K.lookup f_d22 = some ⟨oc_d22, od_d22, .func (PySem.W.fnOf "names" "World.names" (defArgs s_names) (defBody s_names) (defScope s_names) .none kV_d22 dc_d22 pm_d22 an_d22 cd_d22 ct_d22), sl_d22⟩)
    (c_d22 : PySem.W.codeIn K cd_d22 "World.names" = true)
    (k_d22 : PySem.W.keepIn K (.ref f_d22) = true)
    (a_d23 : PySem.W.findIn K (.ref C) "answers" = some (some (.ref f_d23)))
    (i_d23 : PySem.W.isFn K (.ref f_d23) = true)
    (l_d23 : K.lookup f_d23 = some ⟨oc_d23, od_d23, .func (PySem.W.fnOf "answers" "World.answers" (defArgs s_answers) (defBody s_answers) (defScope s_answers) .none kV_d23 dc_d23 pm_d23 an_d23 cd_d23 ct_d23), sl_d23⟩)
    (c_d23 : PySem.W.codeIn K cd_d23 "World.answers" = true)
    (k_d23 : PySem.W.keepIn K (.ref f_d23) = true)
    (a_d24 : PySem.W.findIn K (.ref C) "price" = some (some (.ref f_d24)))
    (i_d24 : PySem.W.isFn K (.ref f_d24) = true)
    (l_d24 : K.lookup f_d24 = some ⟨oc_d24, od_d24, .func (PySem.W.fnOf "price" "World.price" (defArgs s_price) (defBody s_price) (defScope s_price) .none kV_d24 dc_d24 pm_d24 an_d24 cd_d24 ct_d24), sl_d24⟩)
    (c_d24 : PySem.W.codeIn K cd_d24 "World.price" = true)
    (k_d24 : PySem.W.keepIn K (.ref f_d24) = true)
    (a_d25 : PySem.W.nsIn K mainGlobals "_law_cell" = some (some (.ref f_d25)))
    (l_d25 : K.lookup f_d25 = some ⟨oc_d25, od_d25, .func (PySem.W.fnOf "_law_cell" "_law_cell" (defArgs s__law_cell) (defBody s__law_cell) (defScope s__law_cell) .none kV_d25 dc_d25 pm_d25 an_d25 cd_d25 ct_d25), sl_d25⟩)
    (c_d25 : PySem.W.codeIn K cd_d25 "_law_cell" = true)
    (k_d25 : PySem.W.keepIn K (.ref f_d25) = true)
    (a_d26 : PySem.W.nsIn K mainGlobals "_law_state" = some (some (.ref f_d26)))
    (l_d26 : K.lookup f_d26 = some ⟨oc_d26, od_d26, .func (PySem.W.fnOf "_law_state" "_law_state" (defArgs s__law_state) (defBody s__law_state) (defScope s__law_state) .none kV_d26 dc_d26 pm_d26 an_d26 cd_d26 ct_d26), sl_d26⟩)
    (c_d26 : PySem.W.codeIn K cd_d26 "_law_state" = true)
    (k_d26 : PySem.W.keepIn K (.ref f_d26) = true)
    (a_d27 : PySem.W.nsIn K mainGlobals "_law_take" = some (some (.ref f_d27)))
    (l_d27 : K.lookup f_d27 = some ⟨oc_d27, od_d27, .func (PySem.W.fnOf "_law_take" "_law_take" (defArgs s__law_take) (defBody s__law_take) (defScope s__law_take) .none kV_d27 dc_d27 pm_d27 an_d27 cd_d27 ct_d27), sl_d27⟩)
    (c_d27 : PySem.W.codeIn K cd_d27 "_law_take" = true)
    (k_d27 : PySem.W.keepIn K (.ref f_d27) = true)
    (a_d28 : PySem.W.nsIn K mainGlobals "_law_some" = some (some (.ref f_d28)))
    (l_d28 : K.lookup f_d28 = some ⟨oc_d28, od_d28, .func (PySem.W.fnOf "_law_some" "_law_some" (defArgs s__law_some) (defBody s__law_some) (defScope s__law_some) .none kV_d28 dc_d28 pm_d28 an_d28 cd_d28 ct_d28), sl_d28⟩)
    (c_d28 : PySem.W.codeIn K cd_d28 "_law_some" = true)
    (k_d28 : PySem.W.keepIn K (.ref f_d28) = true)
    (a_d29 : PySem.W.nsIn K mainGlobals "_law_answers" = some (some (.ref f_d29)))
    (l_d29 : K.lookup f_d29 = some ⟨oc_d29, od_d29, .func (PySem.W.fnOf "_law_answers" "_law_answers" (defArgs s__law_answers) (defBody s__law_answers) (defScope s__law_answers) .none kV_d29 dc_d29 pm_d29 an_d29 cd_d29 ct_d29), sl_d29⟩)
    (c_d29 : PySem.W.codeIn K cd_d29 "_law_answers" = true)
    (k_d29 : PySem.W.keepIn K (.ref f_d29) = true)
    (a_d30 : PySem.W.nsIn K mainGlobals "_law_asks" = some (some (.ref f_d30)))
    (l_d30 : K.lookup f_d30 = some ⟨oc_d30, od_d30, .func (PySem.W.fnOf "_law_asks" "_law_asks" (defArgs s__law_asks) (defBody s__law_asks) (defScope s__law_asks) .none kV_d30 dc_d30 pm_d30 an_d30 cd_d30 ct_d30), sl_d30⟩)
    (c_d30 : PySem.W.codeIn K cd_d30 "_law_asks" = true)
    (k_d30 : PySem.W.keepIn K (.ref f_d30) = true)
    (a_d31 : PySem.W.nsIn K mainGlobals "_law_closure" = some (some (.ref f_d31)))
    (l_d31 : K.lookup f_d31 = some ⟨oc_d31, od_d31, .func (PySem.W.fnOf "_law_closure" "_law_closure" (defArgs s__law_closure) (defBody s__law_closure) (defScope s__law_closure) .none kV_d31 dc_d31 pm_d31 an_d31 cd_d31 ct_d31), sl_d31⟩)
    (c_d31 : PySem.W.codeIn K cd_d31 "_law_closure" = true)
    (k_d31 : PySem.W.keepIn K (.ref f_d31) = true)
    (a_d32 : PySem.W.nsIn K mainGlobals "_law_plain" = some (some (.ref f_d32)))
    (l_d32 : K.lookup f_d32 = some ⟨oc_d32, od_d32, .func (PySem.W.fnOf "_law_plain" "_law_plain" (defArgs s__law_plain) (defBody s__law_plain) (defScope s__law_plain) .none kV_d32 dc_d32 pm_d32 an_d32 cd_d32 ct_d32), sl_d32⟩)
    (c_d32 : PySem.W.codeIn K cd_d32 "_law_plain" = true)
    (k_d32 : PySem.W.keepIn K (.ref f_d32) = true)
    (a_d33 : PySem.W.nsIn K mainGlobals "_law_made" = some (some (.ref f_d33)))
    (l_d33 : K.lookup f_d33 = some ⟨oc_d33, od_d33, .func (PySem.W.fnOf "_law_made" "_law_made" (defArgs s__law_made) (defBody s__law_made) (defScope s__law_made) .none kV_d33 dc_d33 pm_d33 an_d33 cd_d33 ct_d33), sl_d33⟩)
    (c_d33 : PySem.W.codeIn K cd_d33 "_law_made" = true)
    (k_d33 : PySem.W.keepIn K (.ref f_d33) = true)
    (a_d34 : PySem.W.nsIn K mainGlobals "_law_reach" = some (some (.ref f_d34)))
    (l_d34 : K.lookup f_d34 = some ⟨oc_d34, od_d34, .func (PySem.W.fnOf "_law_reach" "_law_reach" (defArgs s__law_reach) (defBody s__law_reach) (defScope s__law_reach) .none kV_d34 dc_d34 pm_d34 an_d34 cd_d34 ct_d34), sl_d34⟩)
    (c_d34 : PySem.W.codeIn K cd_d34 "_law_reach" = true)
    (k_d34 : PySem.W.keepIn K (.ref f_d34) = true)
    (a_d35 : PySem.W.nsIn K mainGlobals "_law_is_int" = some (some (.ref f_d35)))
    (l_d35 : K.lookup f_d35 = some ⟨oc_d35, od_d35, .func (PySem.W.fnOf "_law_is_int" "_law_is_int" (defArgs s__law_is_int) (defBody s__law_is_int) (defScope s__law_is_int) .none kV_d35 dc_d35 pm_d35 an_d35 cd_d35 ct_d35), sl_d35⟩)
    (c_d35 : PySem.W.codeIn K cd_d35 "_law_is_int" = true)
    (k_d35 : PySem.W.keepIn K (.ref f_d35) = true)
    (a_d36 : PySem.W.nsIn K mainGlobals "_law_pairs" = some (some (.ref f_d36)))
    (l_d36 : K.lookup f_d36 = some ⟨oc_d36, od_d36, .func (PySem.W.fnOf "_law_pairs" "_law_pairs" (defArgs s__law_pairs) (defBody s__law_pairs) (defScope s__law_pairs) .none kV_d36 dc_d36 pm_d36 an_d36 cd_d36 ct_d36), sl_d36⟩)
    (c_d36 : PySem.W.codeIn K cd_d36 "_law_pairs" = true)
    (k_d36 : PySem.W.keepIn K (.ref f_d36) = true)
    (a_d37 : PySem.W.nsIn K mainGlobals "_law_same" = some (some (.ref f_d37)))
    (l_d37 : K.lookup f_d37 = some ⟨oc_d37, od_d37, .func (PySem.W.fnOf "_law_same" "_law_same" (defArgs s__law_same) (defBody s__law_same) (defScope s__law_same) .none kV_d37 dc_d37 pm_d37 an_d37 cd_d37 ct_d37), sl_d37⟩)
    (c_d37 : PySem.W.codeIn K cd_d37 "_law_same" = true)
    (k_d37 : PySem.W.keepIn K (.ref f_d37) = true)
    (a_d38 : PySem.W.nsIn K mainGlobals "_law_tells" = some (some (.ref f_d38)))
    (l_d38 : K.lookup f_d38 = some ⟨oc_d38, od_d38, .func (PySem.W.fnOf "_law_tells" "_law_tells" (defArgs s__law_tells) (defBody s__law_tells) (defScope s__law_tells) .none kV_d38 dc_d38 pm_d38 an_d38 cd_d38 ct_d38), sl_d38⟩)
    (c_d38 : PySem.W.codeIn K cd_d38 "_law_tells" = true)
    (k_d38 : PySem.W.keepIn K (.ref f_d38) = true)
    (a_d39 : PySem.W.nsIn K mainGlobals "_law_spoil" = some (some (.ref f_d39)))
    (l_d39 : K.lookup f_d39 = some ⟨oc_d39, od_d39, .func (PySem.W.fnOf "_law_spoil" "_law_spoil" (defArgs s__law_spoil) (defBody s__law_spoil) (defScope s__law_spoil) .none kV_d39 dc_d39 pm_d39 an_d39 cd_d39 ct_d39), sl_d39⟩)
    (c_d39 : PySem.W.codeIn K cd_d39 "_law_spoil" = true)
    (k_d39 : PySem.W.keepIn K (.ref f_d39) = true)
    (a_d40 : PySem.W.nsIn K mainGlobals "law" = some (some (.ref f_d40)))
    (l_d40 : K.lookup f_d40 = some ⟨oc_d40, od_d40, .func (PySem.W.fnOf "law" "law" (defArgs s_law) (defBody s_law) (defScope s_law) .none kV_d40 dc_d40 pm_d40 an_d40 cd_d40 ct_d40), sl_d40⟩)
    (c_d40 : PySem.W.codeIn K cd_d40 "law" = true)
    (k_d40 : PySem.W.keepIn K (.ref f_d40) = true) :
    ∃ fd : FuncData, (∀ (s : Shared) (v : Value), BindsTo s fd ⟨[v], []⟩ [("script", v)]) ∧ ∀ base : Heap, K.In base → base.Ns mainGlobals mg → FnG P w K mg base CX0 11 fa fd ["script"] (spLaw K) := by
  have e := hfa.symm.trans (PySem.W.mg_of X G a_d40)
  cases e
  have B : Bly mg := ⟨PySem.W.mg_none_of X G z_len, PySem.W.mg_none_of X G z_int, PySem.W.mg_none_of X G z_bool, PySem.W.mg_none_of X G z_str, PySem.W.mg_none_of X G z_tuple, PySem.W.mg_none_of X G z_list, PySem.W.mg_none_of X G z_abs, PySem.W.mg_none_of X G z_isinstance, PySem.W.mg_none_of X G z_range, PySem.W.mg_none_of X G z_zip, PySem.W.mg_none_of X G z_enumerate, PySem.W.mg_none_of X G z_all, PySem.W.mg_none_of X G z_sorted⟩
  have T : Blt mg := ⟨PySem.W.mg_none_of X G z_len, PySem.W.mg_none_of X G z_int, PySem.W.mg_none_of X G z_bool, PySem.W.mg_none_of X G z_abs, PySem.W.mg_none_of X G z_isinstance, PySem.W.mg_none_of X G z_repr, PySem.W.mg_none_of X G z_range⟩
  have G_LETTERS : Gv mg "LETTERS" (.str letters) := ⟨_, PySem.W.mg_of X G gL, _, rfl⟩
  have G_LONGEST_NAME : Gv mg "LONGEST_NAME" (.int 12) := ⟨_, PySem.W.mg_of X G gN, _, rfl⟩
  have G_MOST_STANDINGS : Gv mg "MOST_STANDINGS" (.int 400) := ⟨_, PySem.W.mg_of X G gS, _, rfl⟩
  have G_MOST_ASKS : Gv mg "MOST_ASKS" (.int 160) := ⟨_, PySem.W.mg_of X G gA, _, rfl⟩
  have FE := funD_mk (st := sExI) (dvs := [.non]) lE cE kE tlE tdE (.cons rfl .nil) (by simp)
  obtain ⟨dsE, rE, bE⟩ := FE.binds1 (ps := ["self", "what"]) 2 1 (by simp) rfl
    (fun T kV doc pm an cdv ct us its h1 h2 => match us, its, h1, h2 with | [_, _], [_], _, _ => ⟨_, rfl, rfl⟩)
  cases rE
  have FI : FunD K "__init__" "World.__init__" (defArgs s___init__) (defBody s___init__) (defScope s___init__) [] [("start", .int 0)] fI _ :=
    ⟨⟨_, _, _, _, _, _, _, _, _, _, rfl, lI, cI, .inl ⟨rfl, rfl⟩, .inr ⟨KD, rfl, fun q hq => by rw [List.mem_singleton] at hq; subst hq; exact ⟨_, dI, _, rfl⟩⟩⟩, kI⟩
  have xB : ExC K mg "BadWorld" CB fE := exC_mk (PySem.W.mg_of X G aB) xL rV sB gB ggB nB iB tE kB eB tB hB cB ssB
  have W : TWo K mg C fI fE CB _ _ := ⟨⟨pg, hd, po, sa⟩, n1, n2, n3, n4, ⟨mk, aI, iI, kc⟩, PySem.W.mg_of X G aC, FI, FE, bE, xB⟩
  have F_d0 := fun_mk (st := s_is_integer) l_d0 c_d0 k_d0
  have N_d0 : Fn K mg "is_integer" s_is_integer ["value"] _ _ := ⟨F_d0, PySem.W.mg_of X G a_d0, F_d0.binds (ps := ["value"]) fun _ _ _ _ _ _ us hl => match us, hl with | [_], _ => rfl⟩
  have F_d1 := fun_mk (st := s_is_from_zero) l_d1 c_d1 k_d1
  have N_d1 : Fn K mg "is_from_zero" s_is_from_zero ["value"] _ _ := ⟨F_d1, PySem.W.mg_of X G a_d1, F_d1.binds (ps := ["value"]) fun _ _ _ _ _ _ us hl => match us, hl with | [_], _ => rfl⟩
  have F_d2 := fun_mk (st := s_is_index) l_d2 c_d2 k_d2
  have N_d2 : Fn K mg "is_index" s_is_index ["value", "size"] _ _ := ⟨F_d2, PySem.W.mg_of X G a_d2, F_d2.binds (ps := ["value", "size"]) fun _ _ _ _ _ _ us hl => match us, hl with | [_, _], _ => rfl⟩
  have F_d3 := fun_mk (st := s_is_name) l_d3 c_d3 k_d3
  have N_d3 : Fn K mg "is_name" s_is_name ["value"] _ _ := ⟨F_d3, PySem.W.mg_of X G a_d3, F_d3.binds (ps := ["value"]) fun _ _ _ _ _ _ us hl => match us, hl with | [_], _ => rfl⟩
  have F_d4 := fun_mk (st := s_is_ascending) l_d4 c_d4 k_d4
  have N_d4 : Fn K mg "is_ascending" s_is_ascending ["items"] _ _ := ⟨F_d4, PySem.W.mg_of X G a_d4, F_d4.binds (ps := ["items"]) fun _ _ _ _ _ _ us hl => match us, hl with | [_], _ => rfl⟩
  have F_d5 := fun_mk (st := s_is_answer) l_d5 c_d5 k_d5
  have N_d5 : Fn K mg "is_answer" s_is_answer ["answer", "size"] _ _ := ⟨F_d5, PySem.W.mg_of X G a_d5, F_d5.binds (ps := ["answer", "size"]) fun _ _ _ _ _ _ us hl => match us, hl with | [_, _], _ => rfl⟩
  have F_d6 := fun_mk (st := s_are_answers) l_d6 c_d6 k_d6
  have N_d6 : Fn K mg "are_answers" s_are_answers ["answers", "size"] _ _ := ⟨F_d6, PySem.W.mg_of X G a_d6, F_d6.binds (ps := ["answers", "size"]) fun _ _ _ _ _ _ us hl => match us, hl with | [_, _], _ => rfl⟩
  have F_d7 := fun_mk (st := s_is_ask) l_d7 c_d7 k_d7
  have N_d7 : Fn K mg "is_ask" s_is_ask ["ask", "size"] _ _ := ⟨F_d7, PySem.W.mg_of X G a_d7, F_d7.binds (ps := ["ask", "size"]) fun _ _ _ _ _ _ us hl => match us, hl with | [_, _], _ => rfl⟩
  have F_d8 := fun_mk (st := s_are_asks_of) l_d8 c_d8 k_d8
  have N_d8 : Fn K mg "are_asks_of" s_are_asks_of ["row", "size"] _ _ := ⟨F_d8, PySem.W.mg_of X G a_d8, F_d8.binds (ps := ["row", "size"]) fun _ _ _ _ _ _ us hl => match us, hl with | [_, _], _ => rfl⟩
  have F_d9 := fun_mk (st := s_are_asks) l_d9 c_d9 k_d9
  have N_d9 : Fn K mg "are_asks" s_are_asks ["asks", "size"] _ _ := ⟨F_d9, PySem.W.mg_of X G a_d9, F_d9.binds (ps := ["asks", "size"]) fun _ _ _ _ _ _ us hl => match us, hl with | [_, _], _ => rfl⟩
  have F_d10 := fun_mk (st := s_are_turns_of) l_d10 c_d10 k_d10
  have N_d10 : Fn K mg "are_turns_of" s_are_turns_of ["row", "standing", "size"] _ _ := ⟨F_d10, PySem.W.mg_of X G a_d10, F_d10.binds (ps := ["row", "standing", "size"]) fun _ _ _ _ _ _ us hl => match us, hl with | [_, _, _], _ => rfl⟩
  have F_d11 := fun_mk (st := s_are_turns) l_d11 c_d11 k_d11
  have N_d11 : Fn K mg "are_turns" s_are_turns ["turns"] _ _ := ⟨F_d11, PySem.W.mg_of X G a_d11, F_d11.binds (ps := ["turns"]) fun _ _ _ _ _ _ us hl => match us, hl with | [_], _ => rfl⟩
  have F_d12 := fun_mk (st := s_come_to) l_d12 c_d12 k_d12
  have N_d12 : Fn K mg "come_to" s_come_to ["starts", "steps"] _ _ := ⟨F_d12, PySem.W.mg_of X G a_d12, F_d12.binds (ps := ["starts", "steps"]) fun _ _ _ _ _ _ us hl => match us, hl with | [_, _], _ => rfl⟩
  have F_d13 := fun_mk (st := s_is_silent) l_d13 c_d13 k_d13
  have N_d13 : Fn K mg "is_silent" s_is_silent ["turns", "asks"] _ _ := ⟨F_d13, PySem.W.mg_of X G a_d13, F_d13.binds (ps := ["turns", "asks"]) fun _ _ _ _ _ _ us hl => match us, hl with | [_, _], _ => rfl⟩
  have F_d14 := fun_mk (st := s__check_standing) l_d14 c_d14 k_d14
  have N_d14 : Mn K C "_check_standing" "World._check_standing" s__check_standing ["self", "standing"] _ _ := ⟨F_d14, ⟨a_d14, i_d14, k_d14⟩, F_d14.binds (ps := ["self", "standing"]) fun _ _ _ _ _ _ us hl => match us, hl with | [_, _], _ => rfl⟩
  have F_d15 := fun_mk (st := s_by_turns) l_d15 c_d15 k_d15
  have N_d15 : Mn K C "by_turns" "World.by_turns" s_by_turns ["self", "standing"] _ _ := ⟨F_d15, ⟨a_d15, i_d15, k_d15⟩, F_d15.binds (ps := ["self", "standing"]) fun _ _ _ _ _ _ us hl => match us, hl with | [_, _], _ => rfl⟩
  have F_d16 := fun_mk (st := s_goals_of) l_d16 c_d16 k_d16
  have N_d16 : Fn K mg "goals_of" s_goals_of ["row"] _ _ := ⟨F_d16, PySem.W.mg_of X G a_d16, F_d16.binds (ps := ["row"]) fun _ _ _ _ _ _ us hl => match us, hl with | [_], _ => rfl⟩
  have F_d17 := fun_mk (st := s_reach) l_d17 c_d17 k_d17
  have N_d17 : Mn K C "reach" "World.reach" s_reach ["self", "standing"] _ _ := ⟨F_d17, ⟨a_d17, i_d17, k_d17⟩, F_d17.binds (ps := ["self", "standing"]) fun _ _ _ _ _ _ us hl => match us, hl with | [_, _], _ => rfl⟩
  have F_d18 := fun_mk (st := s_asked) l_d18 c_d18 k_d18
  have N_d18 : Mn K C "asked" "World.asked" s_asked ["self", "standing"] _ _ := ⟨F_d18, ⟨a_d18, i_d18, k_d18⟩, F_d18.binds (ps := ["self", "standing"]) fun _ _ _ _ _ _ us hl => match us, hl with | [_, _], _ => rfl⟩
  have F_d19 := fun_mk (st := s__ask_at) l_d19 c_d19 k_d19
  have N_d19 : Mn K C "_ask_at" "World._ask_at" s__ask_at ["self", "standing", "name"] _ _ := ⟨F_d19, ⟨a_d19, i_d19, k_d19⟩, F_d19.binds (ps := ["self", "standing", "name"]) fun _ _ _ _ _ _ us hl => match us, hl with | [_, _, _], _ => rfl⟩
  have F_d20 := fun_mk (st := s__answers_of) l_d20 c_d20 k_d20
  have N_d20 : Mn K C "_answers_of" "World._answers_of" s__answers_of ["self", "standing", "at"] _ _ := ⟨F_d20, ⟨a_d20, i_d20, k_d20⟩, F_d20.binds (ps := ["self", "standing", "at"]) fun _ _ _ _ _ _ us hl => match us, hl with | [_, _, _], _ => rfl⟩
  have F_d21 := fun_mk (st := s_answer_at) l_d21 c_d21 k_d21
  have N_d21 : Fn K mg "answer_at" s_answer_at ["answers", "goal"] _ _ := ⟨F_d21, PySem.W.mg_of X G a_d21, F_d21.binds (ps := ["answers", "goal"]) fun _ _ _ _ _ _ us hl => match us, hl with | [_, _], _ => rfl⟩
  have F_d22 := fun_mk (st := s_names) l_d22 c_d22 k_d22
  have N_d22 : Mn K C "names" "World.names" s_names ["self"] _ _ := ⟨F_d22, ⟨a_d22, i_d22, k_d22⟩, F_d22.binds (ps := ["self"]) fun _ _ _ _ _ _ us hl => match us, hl with | [_], _ => rfl⟩
  have F_d23 := fun_mk (st := s_answers) l_d23 c_d23 k_d23
  have N_d23 : Mn K C "answers" "World.answers" s_answers ["self", "standing", "name"] _ _ := ⟨F_d23, ⟨a_d23, i_d23, k_d23⟩, F_d23.binds (ps := ["self", "standing", "name"]) fun _ _ _ _ _ _ us hl => match us, hl with | [_, _, _], _ => rfl⟩
  have F_d24 := fun_mk (st := s_price) l_d24 c_d24 k_d24
  have N_d24 : Mn K C "price" "World.price" s_price ["self", "standing", "name", "goal"] _ _ := ⟨F_d24, ⟨a_d24, i_d24, k_d24⟩, F_d24.binds (ps := ["self", "standing", "name", "goal"]) fun _ _ _ _ _ _ us hl => match us, hl with | [_, _, _, _], _ => rfl⟩
  have F_d25 := fun_mk (st := s__law_cell) l_d25 c_d25 k_d25
  have N_d25 : Fn K mg "_law_cell" s__law_cell ["script", "at"] _ _ := ⟨F_d25, PySem.W.mg_of X G a_d25, F_d25.binds (ps := ["script", "at"]) fun _ _ _ _ _ _ us hl => match us, hl with | [_, _], _ => rfl⟩
  have F_d26 := fun_mk (st := s__law_state) l_d26 c_d26 k_d26
  have N_d26 : Fn K mg "_law_state" s__law_state ["cell"] _ _ := ⟨F_d26, PySem.W.mg_of X G a_d26, F_d26.binds (ps := ["cell"]) fun _ _ _ _ _ _ us hl => match us, hl with | [_], _ => rfl⟩
  have F_d27 := fun_mk (st := s__law_take) l_d27 c_d27 k_d27
  have N_d27 : Fn K mg "_law_take" s__law_take ["state", "many"] _ _ := ⟨F_d27, PySem.W.mg_of X G a_d27, F_d27.binds (ps := ["state", "many"]) fun _ _ _ _ _ _ us hl => match us, hl with | [_, _], _ => rfl⟩
  have F_d28 := fun_mk (st := s__law_some) l_d28 c_d28 k_d28
  have N_d28 : Fn K mg "_law_some" s__law_some ["state", "size", "many"] _ _ := ⟨F_d28, PySem.W.mg_of X G a_d28, F_d28.binds (ps := ["state", "size", "many"]) fun _ _ _ _ _ _ us hl => match us, hl with | [_, _, _], _ => rfl⟩
  have F_d29 := fun_mk (st := s__law_answers) l_d29 c_d29 k_d29
  have N_d29 : Fn K mg "_law_answers" s__law_answers ["state", "size", "dear"] _ _ := ⟨F_d29, PySem.W.mg_of X G a_d29, F_d29.binds (ps := ["state", "size", "dear"]) fun _ _ _ _ _ _ us hl => match us, hl with | [_, _, _], _ => rfl⟩
  have F_d30 := fun_mk (st := s__law_asks) l_d30 c_d30 k_d30
  have N_d30 : Fn K mg "_law_asks" s__law_asks ["state", "size", "dear", "most"] _ _ := ⟨F_d30, PySem.W.mg_of X G a_d30, F_d30.binds (ps := ["state", "size", "dear", "most"]) fun _ _ _ _ _ _ us hl => match us, hl with | [_, _, _, _], _ => rfl⟩
  have F_d31 := fun_mk (st := s__law_closure) l_d31 c_d31 k_d31
  have N_d31 : Fn K mg "_law_closure" s__law_closure ["turns", "first"] _ _ := ⟨F_d31, PySem.W.mg_of X G a_d31, F_d31.binds (ps := ["turns", "first"]) fun _ _ _ _ _ _ us hl => match us, hl with | [_, _], _ => rfl⟩
  have F_d32 := fun_mk (st := s__law_plain) l_d32 c_d32 k_d32
  have N_d32 : Fn K mg "_law_plain" s__law_plain ["state", "most", "dear"] _ _ := ⟨F_d32, PySem.W.mg_of X G a_d32, F_d32.binds (ps := ["state", "most", "dear"]) fun _ _ _ _ _ _ us hl => match us, hl with | [_, _, _], _ => rfl⟩
  have F_d33 := fun_mk (st := s__law_made) l_d33 c_d33 k_d33
  have N_d33 : Fn K mg "_law_made" s__law_made ["plain"] _ _ := ⟨F_d33, PySem.W.mg_of X G a_d33, F_d33.binds (ps := ["plain"]) fun _ _ _ _ _ _ us hl => match us, hl with | [_], _ => rfl⟩
  have F_d34 := fun_mk (st := s__law_reach) l_d34 c_d34 k_d34
  have N_d34 : Fn K mg "_law_reach" s__law_reach ["plain", "first"] _ _ := ⟨F_d34, PySem.W.mg_of X G a_d34, F_d34.binds (ps := ["plain", "first"]) fun _ _ _ _ _ _ us hl => match us, hl with | [_, _], _ => rfl⟩
  have F_d35 := fun_mk (st := s__law_is_int) l_d35 c_d35 k_d35
  have N_d35 : Fn K mg "_law_is_int" s__law_is_int ["value"] _ _ := ⟨F_d35, PySem.W.mg_of X G a_d35, F_d35.binds (ps := ["value"]) fun _ _ _ _ _ _ us hl => match us, hl with | [_], _ => rfl⟩
  have F_d36 := fun_mk (st := s__law_pairs) l_d36 c_d36 k_d36
  have N_d36 : Fn K mg "_law_pairs" s__law_pairs ["plain"] _ _ := ⟨F_d36, PySem.W.mg_of X G a_d36, F_d36.binds (ps := ["plain"]) fun _ _ _ _ _ _ us hl => match us, hl with | [_], _ => rfl⟩
  have F_d37 := fun_mk (st := s__law_same) l_d37 c_d37 k_d37
  have N_d37 : Fn K mg "_law_same" s__law_same ["told", "due"] _ _ := ⟨F_d37, PySem.W.mg_of X G a_d37, F_d37.binds (ps := ["told", "due"]) fun _ _ _ _ _ _ us hl => match us, hl with | [_, _], _ => rfl⟩
  have F_d38 := fun_mk (st := s__law_tells) l_d38 c_d38 k_d38
  have N_d38 : Fn K mg "_law_tells" s__law_tells ["made", "plain", "standing"] _ _ := ⟨F_d38, PySem.W.mg_of X G a_d38, F_d38.binds (ps := ["made", "plain", "standing"]) fun _ _ _ _ _ _ us hl => match us, hl with | [_, _, _], _ => rfl⟩
  have F_d39 := fun_mk (st := s__law_spoil) l_d39 c_d39 k_d39
  have N_d39 : Fn K mg "_law_spoil" s__law_spoil ["made", "standing"] _ _ := ⟨F_d39, PySem.W.mg_of X G a_d39, F_d39.binds (ps := ["made", "standing"]) fun _ _ _ _ _ _ us hl => match us, hl with | [_, _], _ => rfl⟩
  have F_d40 := fun_mk (st := s_law) l_d40 c_d40 k_d40
  refine ⟨PySem.W.fnOf "law" "law" (defArgs s_law) (defBody s_law) (defScope s_law) .none kV_d40 dc_d40 pm_d40 an_d40 cd_d40 ct_d40, fun s v => .of_eq rfl, fun base _ _ => ?_⟩
  have D_is_integer := d_is_integer (P := P) (w := w) (base := base) B N_d0
  have D_is_from_zero := d_is_from_zero (P := P) (w := w) (base := base) B N_d1 D_is_integer
  have D_is_index := d_is_index (P := P) (w := w) (base := base) B N_d2 D_is_integer
  have D_is_name := d_is_name (P := P) (w := w) (base := base) B N_d3 G_LETTERS G_LONGEST_NAME
  have D_is_ascending := d_is_ascending (P := P) (w := w) (base := base) B N_d4
  have D_is_answer := d_is_answer (P := P) (w := w) (base := base) B N_d5 D_is_index D_is_from_zero
  have D_are_answers := d_are_answers (P := P) (w := w) (base := base) B N_d6 D_is_answer D_is_ascending
  have D_is_ask := d_is_ask (P := P) (w := w) (base := base) B N_d7 D_is_name D_are_answers
  have D_are_asks_of := d_are_asks_of (P := P) (w := w) (base := base) B N_d8 G_MOST_ASKS D_is_ask D_is_ascending
  have D_are_asks := d_are_asks (P := P) (w := w) (base := base) B N_d9 D_are_asks_of
  have D_are_turns_of := d_are_turns_of (P := P) (w := w) (base := base) B N_d10 D_is_index D_is_ascending
  have D_are_turns := d_are_turns (P := P) (w := w) (base := base) B N_d11 G_MOST_STANDINGS D_are_turns_of
  have D_come_to := d_come_to (P := P) (w := w) (base := base) B N_d12
  have D_is_silent := d_is_silent (P := P) (w := w) (base := base) B N_d13 D_come_to
  have GI := ok_wI (P := P) (w := w) (base := base) B W D_are_turns D_are_asks D_is_index D_is_silent
  have XM__check_standing := d_check (P := P) (w := w) (base := base) B W N_d14 D_is_index
  have M__check_standing := XM__check_standing.dm
  have XM_by_turns := d_by_turns (P := P) (w := w) (base := base) B W N_d15 M__check_standing D_come_to
  have M_by_turns := XM_by_turns.dm
  have D_goals_of := d_goals_of (P := P) (w := w) (base := base) B N_d16
  have XM_reach := d_reach (P := P) (w := w) (base := base) B W N_d17 M__check_standing D_goals_of D_come_to
  have M_reach := XM_reach.dm
  have XM_asked := d_asked (P := P) (w := w) (base := base) B W N_d18 M__check_standing
  have M_asked := XM_asked.dm
  have XM__ask_at := d_ask_at (P := P) (w := w) (base := base) B W N_d19 M_asked
  have M__ask_at := XM__ask_at.dm
  have XM__answers_of := d_answers_of (P := P) (w := w) (base := base) B W N_d20 
  have M__answers_of := XM__answers_of.dm
  have D_answer_at := d_answer_at (P := P) (w := w) (base := base) B N_d21 D_is_integer
  have XM_names := dW_names (P := P) (w := w) (base := base) B W N_d22 
  have M_names := XM_names.dm
  have XM_answers := dW_answers (P := P) (w := w) (base := base) B W N_d23 M__ask_at M__answers_of
  have M_answers := XM_answers.dm
  have XM_price := dW_price (P := P) (w := w) (base := base) B W N_d24 D_answer_at M__ask_at M__answers_of
  have M_price := XM_price.dm
  have D__law_cell : Dk P w K mg base "_law_cell" CX0 1 ["script", "at"] (spCel K) := ⟨_, _, ok_cell F_d25 T, N_d25.m, N_d25.F.kp, N_d25.b⟩
  have D__law_state : Dk P w K mg base "_law_state" CX0 1 ["cell"] spSta := ⟨_, _, ok_state F_d26 T, N_d26.m, N_d26.F.kp, N_d26.b⟩
  have D__law_take := d_take (P := P) (w := w) (base := base) T N_d27
  have D__law_some := d_some (P := P) (w := w) (base := base) B N_d28 D__law_take
  have D__law_answers := d_answers (P := P) (w := w) (base := base) B N_d29 D__law_take D__law_some
  have D__law_asks := d_asks (P := P) (w := w) (base := base) B N_d30 D__law_take D__law_some D__law_answers
  have D__law_closure := d_closure (P := P) (w := w) (base := base) B N_d31
  have D__law_plain := d_plain (P := P) (w := w) (base := base) B N_d32 D__law_take D__law_some D__law_answers D__law_asks D__law_closure
  have D__law_made := d_made (P := P) (w := w) (base := base) B W GI N_d33
  have D__law_closure5 := d_clo5 (P := P) (w := w) (base := base) B N_d31
  have Br : mg "repr" = none := PySem.W.mg_none_of X G z_repr
  have D__law_reach := d_lreach (P := P) (w := w) (base := base) B N_d34
  have D__law_is_int := d_lint (P := P) (w := w) (base := base) B N_d35
  have D__law_pairs := d_pairs (P := P) (w := w) (base := base) B N_d36
  have D__law_same := d_same (P := P) (w := w) (base := base) B Br N_d37
  have MK_price := XM_price.kw (fun_kbi (ps := _) (ks := ["goal", "name", "standing"]) (n := 1) [2, 1, 0] F_d24 (fun _ _ _ _ _ _ us ws h1 h2 => match us, ws, h1, h2 with | [_], [_, _, _], _, _ => rfl))
  have MK_answers := XM_answers.kw (fun_kbi (ps := _) (ks := ["name", "standing"]) (n := 1) [1, 0] F_d23 (fun _ _ _ _ _ _ us ws h1 h2 => match us, ws, h1, h2 with | [_], [_, _], _, _ => rfl))
  have MK_reach := XM_reach.kw (fun_kbi (ps := _) (ks := ["standing"]) (n := 1) [0] F_d17 (fun _ _ _ _ _ _ us ws h1 h2 => match us, ws, h1, h2 with | [_], [_], _, _ => rfl))
  have MK_by_turns := XM_by_turns.kw (fun_kbi (ps := _) (ks := ["standing"]) (n := 1) [0] F_d15 (fun _ _ _ _ _ _ us ws h1 h2 => match us, ws, h1, h2 with | [_], [_], _, _ => rfl))
  have MK_asked := XM_asked.kw (fun_kbi (ps := _) (ks := ["standing"]) (n := 1) [0] F_d18 (fun _ _ _ _ _ _ us ws h1 h2 => match us, ws, h1, h2 with | [_], [_], _, _ => rfl))
  have D__law_tells := d_tells (P := P) (w := w) (base := base) B W N_d38 D__law_closure5 D__law_reach D__law_is_int D__law_same M_by_turns M_asked M_reach M_answers M_price MK_price MK_answers MK_reach MK_by_turns MK_asked
  have D__law_spoil := d_spoil (P := P) (w := w) (base := base) B W N_d39 M_names M_by_turns M_asked M_reach M_answers
  exact ok_law B W F_d40 D__law_cell D__law_state D__law_take D__law_plain D__law_made D__law_pairs D__law_same D__law_tells D__law_spoil M_names
theorem walk {l : PySem.W.OpenLaw} {q : Program} {loose : List Str} {XP : (Str → Option Value) → Heap → Prop} {YP : World → Heap → Prop} {d : DefRec} {K : Params → PySem.W.Frag}
    (hn : l.most = some 63) (hdf : d.params.defaults = []) (him : importsNone q = true) (hY : ∀ (w : World) (h : Heap), YP w h → (K w.params).In h)
    (F : ∀ (w : World) (mg : Str → Option Value) (fa : Addr) (h : Heap), (K w.params).In h → h.Ns mainGlobals mg → mg d.name = some (.ref fa) →
      ∃ fd : FuncData, (∀ (s : Shared) (u : Value), BindsTo s fd ⟨[u], []⟩ [("script", u)]) ∧ ∀ base : Heap, (K w.params).In base → base.Ns mainGlobals mg →
        FnG l.prog w (K w.params) mg base CX0 11 fa fd ["script"] (spLaw (K w.params))) :
    PySem.W.WalkO q loose XP YP l.row.toRowW d [] (fun f vs => PySem.call f vs) :=
  law_walk (n := 63) (k := 11) (x := "script") (sp := fun w => spLaw (K w.params)) hn (by decide) hdf ⟨rfl, by decide, by decide⟩ him hY F
    (fun w H a ns hl _ hS => ⟨a, ns, rfl, hl, hS, fun _ => rfl⟩)
end Nv
open PySem PySem.W PyProof.Rows
set_option maxRecDepth 100000 in
set_option maxHeartbeats 0 in
theorem PySem.Challenge.cw_neverowing_k05_what_worlds_tell_holds : PySem.Challenge.rw_neverowing_k05_what_worlds_tell.Holds := by
  w_on; o_law; k_head; (case hw => w_witness2)
  k_fill
  refine Nv.walk (l := PySem.Challenge.rw_neverowing_k05_what_worlds_tell) rfl rfl (by decide +kernel) (fun w h Y => PySem.W.kIn_of Y) ?F
  case F =>
    intro w mg fa h KX G hmg
    refine' Nv.all_mk KX G hmg ?z_len ?z_int ?z_bool ?z_str ?z_tuple ?z_list ?z_abs ?z_isinstance ?z_range ?z_zip ?z_enumerate ?z_all ?z_sorted ?z_repr ?gL ?gN ?gS ?gA ?aB ?xL ?rV ?sB ?gB ?ggB ?nB ?iB ?tE ?kB ?eB ?tB ?hB ?cB ?ssB ?lE ?cE ?kE ?tlE ?tdE ?aC ?aI ?iI ?lI ?cI ?kI ?dI ?pg ?hd ?po ?sa ?mk ?kc ?n1 ?n2 ?n3 ?n4 ?a_d0 ?l_d0 ?c_d0 ?k_d0 ?a_d1 ?l_d1 ?c_d1 ?k_d1 ?a_d2 ?l_d2 ?c_d2 ?k_d2 ?a_d3 ?l_d3 ?c_d3 ?k_d3 ?a_d4 ?l_d4 ?c_d4 ?k_d4 ?a_d5 ?l_d5 ?c_d5 ?k_d5 ?a_d6 ?l_d6 ?c_d6 ?k_d6 ?a_d7 ?l_d7 ?c_d7 ?k_d7 ?a_d8 ?l_d8 ?c_d8 ?k_d8 ?a_d9 ?l_d9 ?c_d9 ?k_d9 ?a_d10 ?l_d10 ?c_d10 ?k_d10 ?a_d11 ?l_d11 ?c_d11 ?k_d11 ?a_d12 ?l_d12 ?c_d12 ?k_d12 ?a_d13 ?l_d13 ?c_d13 ?k_d13 ?a_d14 ?i_d14 ?l_d14 ?c_d14 ?k_d14 ?a_d15 ?i_d15 ?l_d15 ?c_d15 ?k_d15 ?a_d16 ?l_d16 ?c_d16 ?k_d16 ?a_d17 ?i_d17 ?l_d17 ?c_d17 ?k_d17 ?a_d18 ?i_d18 ?l_d18 ?c_d18 ?k_d18 ?a_d19 ?i_d19 ?l_d19 ?c_d19 ?k_d19 ?a_d20 ?i_d20 ?l_d20 ?c_d20 ?k_d20 ?a_d21 ?l_d21 ?c_d21 ?k_d21 ?a_d22 ?i_d22 ?l_d22 ?c_d22 ?k_d22 ?a_d23 ?i_d23 ?l_d23 ?c_d23 ?k_d23 ?a_d24 ?i_d24 ?l_d24 ?c_d24 ?k_d24 ?a_d25 ?l_d25 ?c_d25 ?k_d25 ?a_d26 ?l_d26 ?c_d26 ?k_d26 ?a_d27 ?l_d27 ?c_d27 ?k_d27 ?a_d28 ?l_d28 ?c_d28 ?k_d28 ?a_d29 ?l_d29 ?c_d29 ?k_d29 ?a_d30 ?l_d30 ?c_d30 ?k_d30 ?a_d31 ?l_d31 ?c_d31 ?k_d31 ?a_d32 ?l_d32 ?c_d32 ?k_d32 ?a_d33 ?l_d33 ?c_d33 ?k_d33 ?a_d34 ?l_d34 ?c_d34 ?k_d34 ?a_d35 ?l_d35 ?c_d35 ?k_d35 ?a_d36 ?l_d36 ?c_d36 ?k_d36 ?a_d37 ?l_d37 ?c_d37 ?k_d37 ?a_d38 ?l_d38 ?c_d38 ?k_d38 ?a_d39 ?l_d39 ?c_d39 ?k_d39 ?a_d40 ?l_d40 ?c_d40 ?k_d40
    (case z_len => k_is); (case z_int => k_is); (case z_bool => k_is); (case z_str => k_is); (case z_tuple => k_is); (case z_list => k_is)
    (case z_abs => k_is); (case z_isinstance => k_is); (case z_range => k_is); (case z_zip => k_is); (case z_enumerate => k_is); (case z_all => k_is)
    (case z_sorted => k_is); (case z_repr => k_is); (case gL => k_is); (case gN => k_is); (case gS => k_is); (case gA => k_is)
    (case aB => k_is); (case xL => k_is); (case rV => first | rfl | decide +kernel); (case sB => k_is); (case gB => k_is); (case ggB => k_is)
    (case nB => k_is); (case iB => k_is); (case tE => k_is); (case kB => k_is); (case eB => k_is); (case tB => k_is)
    (case hB => k_is); (case cB => k_is); (case ssB => first | rfl | k_is); (case lE => k_is); (case cE => k_is); (case kE => k_is)
    (case tlE => k_is); (case tdE => rfl); (case aC => k_is); (case aI => k_is); (case iI => k_is); (case lI => k_is)
    (case cI => k_is); (case kI => k_is); (case dI => k_is); (case pg => k_is); (case hd => k_is); (case po => k_is)
    (case sa => k_is); (case mk => k_is); (case kc => k_is); (case n1 => k_is); (case n2 => k_is); (case n3 => k_is)
    (case n4 => k_is); (case a_d0 => k_is); (case l_d0 => k_is); (case c_d0 => k_is); (case k_d0 => k_is); (case a_d1 => k_is)
    (case l_d1 => k_is); (case c_d1 => k_is); (case k_d1 => k_is); (case a_d2 => k_is); (case l_d2 => k_is); (case c_d2 => k_is)
    (case k_d2 => k_is); (case a_d3 => k_is); (case l_d3 => k_is); (case c_d3 => k_is); (case k_d3 => k_is); (case a_d4 => k_is)
    (case l_d4 => k_is); (case c_d4 => k_is); (case k_d4 => k_is); (case a_d5 => k_is); (case l_d5 => k_is); (case c_d5 => k_is)
    (case k_d5 => k_is); (case a_d6 => k_is); (case l_d6 => k_is); (case c_d6 => k_is); (case k_d6 => k_is); (case a_d7 => k_is)
    (case l_d7 => k_is); (case c_d7 => k_is); (case k_d7 => k_is); (case a_d8 => k_is); (case l_d8 => k_is); (case c_d8 => k_is)
    (case k_d8 => k_is); (case a_d9 => k_is); (case l_d9 => k_is); (case c_d9 => k_is); (case k_d9 => k_is); (case a_d10 => k_is)
    (case l_d10 => k_is); (case c_d10 => k_is); (case k_d10 => k_is); (case a_d11 => k_is); (case l_d11 => k_is); (case c_d11 => k_is)
    (case k_d11 => k_is); (case a_d12 => k_is); (case l_d12 => k_is); (case c_d12 => k_is); (case k_d12 => k_is); (case a_d13 => k_is)
    (case l_d13 => k_is); (case c_d13 => k_is); (case k_d13 => k_is); (case a_d14 => k_is); (case i_d14 => k_is); (case l_d14 => k_is)
    (case c_d14 => k_is); (case k_d14 => k_is); (case a_d15 => k_is); (case i_d15 => k_is); (case l_d15 => k_is); (case c_d15 => k_is)
    (case k_d15 => k_is); (case a_d16 => k_is); (case l_d16 => k_is); (case c_d16 => k_is); (case k_d16 => k_is); (case a_d17 => k_is)
    (case i_d17 => k_is); (case l_d17 => k_is); (case c_d17 => k_is); (case k_d17 => k_is); (case a_d18 => k_is); (case i_d18 => k_is)
    (case l_d18 => k_is); (case c_d18 => k_is); (case k_d18 => k_is); (case a_d19 => k_is); (case i_d19 => k_is); (case l_d19 => k_is)
    (case c_d19 => k_is); (case k_d19 => k_is); (case a_d20 => k_is); (case i_d20 => k_is); (case l_d20 => k_is); (case c_d20 => k_is)
    (case k_d20 => k_is); (case a_d21 => k_is); (case l_d21 => k_is); (case c_d21 => k_is); (case k_d21 => k_is); (case a_d22 => k_is)
    (case i_d22 => k_is); (case l_d22 => k_is); (case c_d22 => k_is); (case k_d22 => k_is); (case a_d23 => k_is); (case i_d23 => k_is)
    (case l_d23 => k_is); (case c_d23 => k_is); (case k_d23 => k_is); (case a_d24 => k_is); (case i_d24 => k_is); (case l_d24 => k_is)
    (case c_d24 => k_is); (case k_d24 => k_is); (case a_d25 => k_is); (case l_d25 => k_is); (case c_d25 => k_is); (case k_d25 => k_is)
    (case a_d26 => k_is); (case l_d26 => k_is); (case c_d26 => k_is); (case k_d26 => k_is); (case a_d27 => k_is); (case l_d27 => k_is)
    (case c_d27 => k_is); (case k_d27 => k_is); (case a_d28 => k_is); (case l_d28 => k_is); (case c_d28 => k_is); (case k_d28 => k_is)
    (case a_d29 => k_is); (case l_d29 => k_is); (case c_d29 => k_is); (case k_d29 => k_is); (case a_d30 => k_is); (case l_d30 => k_is)
    (case c_d30 => k_is); (case k_d30 => k_is); (case a_d31 => k_is); (case l_d31 => k_is); (case c_d31 => k_is); (case k_d31 => k_is)
    (case a_d32 => k_is); (case l_d32 => k_is); (case c_d32 => k_is); (case k_d32 => k_is); (case a_d33 => k_is); (case l_d33 => k_is)
    (case c_d33 => k_is); (case k_d33 => k_is); (case a_d34 => k_is); (case l_d34 => k_is); (case c_d34 => k_is); (case k_d34 => k_is)
    (case a_d35 => k_is); (case l_d35 => k_is); (case c_d35 => k_is); (case k_d35 => k_is); (case a_d36 => k_is); (case l_d36 => k_is)
    (case c_d36 => k_is); (case k_d36 => k_is); (case a_d37 => k_is); (case l_d37 => k_is); (case c_d37 => k_is); (case k_d37 => k_is)
    (case a_d38 => k_is); (case l_d38 => k_is); (case c_d38 => k_is); (case k_d38 => k_is); (case a_d39 => k_is); (case l_d39 => k_is)
    (case c_d39 => k_is); (case k_d39 => k_is); (case a_d40 => k_is); (case l_d40 => k_is); (case c_d40 => k_is); (case k_d40 => k_is)
