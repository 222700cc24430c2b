import PyProof.Rows.All
import Wide.All
import OpenK.AllK
import Wide.FinOn
import PyProof.ReprRoads
import HandS.ForMost
import HandS.ForExc
import HandS.IsInst
import HandS.Gcd
import HandS.Defaults
import HandS.MakeKw
import HandS.MakeKwOnly
import HandS.ExcInit
import HandS.ExcField
import HandS.Wide
import HandS.Walk
import HandS.Zip
import HandS.TupAny
import HandS.TupMul
import HandS.Conv
import HandS.DictComp
import HandS.SortInts
import HandS.Lambda
import HandS.Iter
import PyProof.Draws
import PyProof.EnumMake
import HandS.Text
import HandS.Small
import HandS.Strs
import HandS.SortRule
import HandS.SetBool
import HandS.SetKeys
import HandS.SortOrd
import PyProof.Rows.SortStr
import HandS.TupLe
import HandS.RaiseMore
import HandS.MapObj
import HandS.RepeatKit
import HandS.ExcValue
import HandS.TryMany
import HandS.ExcOwn
import HandS.DeepEq
import HandS.Deep
import PyProof.NeKinds
import KE.KRevSl
import KE.DatumOrd
import HandS.SortKw
import KE.SortKeyHeap
import KE.KDictDisplayH
import KE.SortData
import HandS.TupSets
import HandS.SetFor
import KE.KExcIs
import HandS.ExcIs
import HandS.EndTab
import PySem.Challenge.RW_neverowing_k51_relabelled_things
set_option linter.all false
set_option maxRecDepth 100000
set_option maxHeartbeats 8000000
set_option exponentiation.threshold 20000
set_option Elab.async false
/-! Nv: what the laws of this program share. Part A: promises that know that no repr is under way; repr of plain data. -/
namespace Nv
open PySem PySem.Spec PyProof.Rows L2

/-! ### a promise kept where no repr is under way -/
structure FnG (P : Program) (w : World) (K : PySem.W.Frag) (mg : Str → Option Value) (base : Heap)
    (CX : CXT) (k : Nat) (f : Addr) (fd : FuncData) (ps : List Str) (sp : Sp) : Prop where
  len : ∀ vs H Q E, sp vs H Q E → vs.length = ps.length
  run : ∀ (A : Around) (outer : List Env) (s : Shared) (H : Hp) (args : Args) (us : List Value) (vs : List V)
    (Q : VK) (E : XK), Room k A → A.guards = some [] → Env0 P w K mg base A outer s H →
    BindsTo s fd args (ps.zip us) → Vals vs us → sp vs H Q E →
    codeAny (model P w) A (.call (.ref f) args) (CR CX outer P w H s Q E) s

section
variable {P : Program} {w : World} {K : PySem.W.Frag} {mg : Str → Option Value} {base : Heap} {CX : CXT}
  {k : Nat} {f : Addr} {fd : FuncData} {ps : List Str} {sp : Sp}

theorem FnG.of (F : FnOk P w K mg base CX k f fd ps sp) : FnG P w K mg base CX k f fd ps sp :=
  ⟨F.len, fun A o s H a us vs Q E r _ => F.run A o s H a us vs Q E r⟩

theorem FnG.mk_of {N : List Str} {x qual : Str} {st : Stmt} (F : Fun K x qual st f fd)
    (S : FnScope N ps (defScope st)) (len : ∀ vs H Q E, sp vs H Q E → vs.length = ps.length)
    (body : ∀ (cdv : Value) (A : Around) (outer : List Env) (s : Shared) (H : Hp) (vs : List V) (Q : VK) (E : XK),
      A.guards = some [] → Room k (A.deeper (envOfC qual (defScope st) s.heap.objs.size f cdv)) → sp vs H Q E →
      ∃ t, PSs (cxOf CX P w K mg base N qual (defScope st) f cdv A outer s H E) (defBody st) t ∧
        t { nx := fun _ H' => Q .non H', rt := Q } (start N vs) H) :
    FnG P w K mg base CX (k + 1) f fd ps sp := by
  obtain ⟨oc, od, kV, doc, pm, an, cdv, ct, osl, rfl, lk, hcd⟩ := F.ex
  refine ⟨len, fun A outer s H args us vs Q E room gd en bi rv q => ?_⟩
  have inS : K.In s.heap := en.mod.kin.keeps fun b o z => (en.bs b o z).1
  have noL : s.heap.NoLimit := en.mod.nolimit.keeps fun b o z => (en.bs b o z).1
  refine codeAny_call_function room.depth (inS _ _ lk) rfl S.co S.gen rfl (PySem.W.codeRec_of inS hcd) (bi _ _ _ _ ?_)
  refine wpAny_newFunctionEnv_cells S.kind (fun y hy => ?_) fun env he s1 ic => ?_
  · obtain ⟨n, v⟩ := y
    have mem := (List.of_mem_zip hy).1
    cases S.par n mem with
    | inl z => exact Or.inl z
    | inr z => exact Or.inr ⟨z, PySem.W.cellsFrom_some _ _ _ (Or.inl z)⟩
  · subst he
    refine ⟨noL.keeps ic.toInCall.keep, codeAny_func ?_⟩
    obtain ⟨t, ht, hq⟩ := body cdv A outer s H vs Q E gd (room.deeper _) q
    have J := inv_start (CX := CX) (E := E) S room.hd en (len _ _ _ _ q) rv ic
    have close : ∀ {σ' : L2.St} {H' : Hp} {v : V} {u : Value} {s' : Shared},
        Inv (cxOf CX P w K mg base N qual (defScope st) f cdv A outer s H E) [] σ' H' s' → RelV v u → Q v H' →
        CE outer P w H s Q u s' := fun I rel z => ⟨_, _, I.os, I.bare, I.base, I.hok, rel, z⟩
    refine wpAny_mono (ht.run [] s1 (start N vs) H _ J hq) (fun fl s' z => ?_) fun _ _ z => z
    cases fl with
    | ret u =>
      obtain ⟨v, σ', H', I, rel, z⟩ := z
      exact close I rel z
    | next =>
      obtain ⟨σ', H', I, z⟩ := z
      exact close (v := V.non) (u := Value.none) I rfl z
    | brk => exact False.elim z.choose_spec.choose_spec.2
    | cont => exact False.elim z.choose_spec.choose_spec.2
end

section
variable {X : Cx} {CX : CXT} {k : Nat} {f : Addr} {fd : FuncData} {ps : List Str} {sp : Sp} {dvs : List V}
  {ds : List Value} {E : XK} {x : Str} {p pos : Pos} {e : Expr} {es : List Expr} {t : TA}
/-- f(e, ..) of such a promise -/
theorem pe_callG (F : FnG X.prog X.w X.K X.mg X.base CX k f fd ps sp) (hr : Room k X.A) (gd : X.A.guards = some [])
    (hg : Gl X x) (hm : X.mg x = some (.ref f)) (hk : PySem.W.keepIn X.K (.ref f) = true)
    (hb : Binds X.K fd ps ds) (hd : Vals dvs ds) (hx : Passes CX X E) (ha : PA X (e :: es) t)
    (hdb : (x == ("__debug__" : Str)) = false := by decide)
    (he : starEach (e :: es) X.env = (false, eval e X.env) :: starEach es X.env := by rfl)
    (hpl : (backTo pos (starEach es X.env)).any (·.1) = false := by rfl) :
    PE X (.Call (.Name x p) (e :: es) [] pos) (tCall sp dvs E t) := by
  refine ⟨fun pins s σ H Q I h => wpAny_Call_Name_kw (ld_glob I hg hm ?_ hdb)⟩
  refine PySem.W.callWith_K (h₀ := X.base) I.ok.mod.kin hk
    (thn (ha.run pos pins s σ H _ I h) fun us s1 ⟨vs, H1, I1, r, q⟩ => ⟨I1.kIn, ?_⟩) he hpl
  have r2 : Vals (vs ++ dvs) (us ++ ds) := r.append hd
  have hl : (us ++ ds).length = ps.length := r2.length.symm.trans (F.len _ _ _ _ q)
  refine wpAny_call (codeAny_mono (F.run X.A X.stack s1 H1 ⟨us, []⟩ (us ++ ds) _ Q E hr gd I1.env0
    (hb s1 us I1.kIn hl) r2 q) fun r s' z => ?_)
  match r, z with
  | .error e, z => exact hx pins σ H1 s1 e s' I1 z
  | .ok (.ret u), z => exact I1.after z
  | .ok .next, z => exact False.elim z
  | .ok .brk, z => exact False.elim z
  | .ok .cont, z => exact False.elim z
end

/-! ### the law's own end, of such a promise; the address of sys.modules is taken -/
def Sys (K : PySem.W.Frag) (H : Hp) : Prop :=
  (∃ o, K.lookup sysModules = some o) ∨ ∃ o u, H sysModules = some (.frz o u)
theorem Sys.same {K : PySem.W.Frag} {H H' : Hp} (z : Sys K H) (k : Same H H') : Sys K H' := by
  rcases z with z | ⟨o, u, z⟩
  · exact Or.inl z
  · exact Or.inr ⟨o, u, k _ _ z⟩
theorem Sys.ne {X : Cx} {pins : List (Addr × Obj)} {σ : L2.St} {H : Hp} {s : Shared} (I : Inv X pins σ H s) (z : Sys X.K H)
    {a : Addr} {u : HO} (h : H a = some u) (nf : ∀ o v, u ≠ .frz o v) : a ≠ sysModules := fun e => by
  subst e
  rcases z with ⟨o, z⟩ | ⟨o, v, z⟩
  · have b := I.ok.mod.kin _ _ z
    rw [(I.bs _ _ b).2] at h
    exact nomatch h
  · rw [z] at h
    exact nf _ _ (Option.some.inj h).symm

theorem law_end {P : Program} {w : World} {K : PySem.W.Frag} {mg mb : Str → Option Value} {k : Nat} {fa a : Addr}
    {fd : FuncData} {x : Str} {sp : Sp} {s₁ : Shared} {vs : List Value} {ns : List Int}
    (KX : K.In s₁.heap) (hns : s₁.heap.Ns mainGlobals mg) (hb : s₁.heap.Ns builtinsNs mb)
    (hbb : ∀ x : Str, x ≠ "__name__" → mb x = bootBuiltins x) (hlim : s₁.heap.NoLimit) (hg : s₁.gens = #[])
    (ha : s₁.heap.get? a = some { cls := .type "list", data := .seq vs.toArray }) (hi : IntsAre vs ns)
    (hl : ns.length ≤ sizeLine) (hr : Room k callerA) (hsm : ∃ o, s₁.heap.get? sysModules = some o)
    (F : ∀ base : Heap, K.In base → base.Ns mainGlobals mg → FnG P w K mg base CX0 k fa fd [x] sp)
    (hbind : ∀ (s : Shared) (u : Value), BindsTo s fd ⟨[u], []⟩ [(x, u)])
    (hsp : ∀ H : Hp, Sys K H → SqL K H a (ns.map V.int) → sp [.ref a] H (fun v _ => v = .bl true) fun _ _ _ => False) :
    codeAny (model P w) callerA (.call (.ref fa) ⟨[.ref a], []⟩)
      (fun r s' => r = .ok (.ret (.bool true)) ∧ OldK s₁.heap s'.heap ∧ s'.os = s₁.os ∧ AllBare s'.gens) s₁ := by
  have rel := vals_ints hi
  have main : ∀ H : Hp, (∀ b, H b = none ∨ ∃ o u, H b = some (.frz o u)) → Sys K H → SqL K H a (ns.map V.int) →
      HOk P w H s₁.heap → (∀ b, H b ≠ none → b = a ∨ b = sysModules) → (∀ b, H b ≠ none → K.lookup b = none) →
      codeAny (model P w) callerA (.call (.ref fa) ⟨[.ref a], []⟩)
        (fun r s' => r = .ok (.ret (.bool true)) ∧ OldK s₁.heap s'.heap ∧ s'.os = s₁.os ∧ AllBare s'.gens) s₁ := by
    intro H only sys sq ok at1 noK
    have none_if : ∀ {b : Addr}, ¬ b = a → ¬ b = sysModules → H b = none := fun {b} h h' => by
      cases q : H b with
      | none => rfl
      | some u =>
        rcases at1 b (by rw [q]; exact fun z => nomatch z) with z | z
        · exact absurd z h
        · exact absurd z h'
    have down : ∀ {b : Addr} {o : Obj}, s₁.heap.get? b = some o → H b = none → (hidT s₁.heap H).get? b = some o :=
      fun z n => hidT_get z n
    have nsDown : ∀ {b : Addr} {m : Str → Option Value}, b ≠ sysModules → s₁.heap.Ns b m → (hidT s₁.heap H).Ns b m := fun {b m} ne z => by
      obtain ⟨o, es, ep, z1, z2, z3⟩ := z
      refine ⟨o, es, ep, down z1 (none_if (fun h => ?_) ne), z2, z3⟩
      subst h
      rw [ha] at z1
      obtain rfl := Option.some.inj z1
      exact absurd (show Data.seq vs.toArray _ = Data.dict es ep from z2) (fun q => nomatch q)
    have kinB : K.In (hidT s₁.heap H) := fun b o z => down (KX b o z) (by
      cases q : H b with
      | none => rfl
      | some u =>
        have y := noK b (by rw [q]; exact fun y => nomatch y)
        rw [y] at z
        exact absurd z (fun y => nomatch y))
    have md : Mod K mg (hidT s₁.heap H) :=
      ⟨kinB, nsDown (by decide) hns, ⟨mb, nsDown (by decide) hb, hbb⟩, by obtain ⟨mc, z1, z2⟩ := hlim; exact ⟨mc, nsDown (by decide) z1, z2⟩⟩
    have en : Env0 P w K mg (hidT s₁.heap H) callerA [] s₁ H :=
      ⟨rfl, md, fun b o z => of_hidT z, Nat.le_of_eq (hidT_size _ _), trivial,
        fun b z => absurd (show b ∈ ([] : List Addr) from z) (by simp), ok, .of_eq hg⟩
    refine codeAny_mono ((F _ kinB (nsDown (by decide) hns)).run callerA [] s₁ H ⟨[.ref a], []⟩ [.ref a] [.ref a] _ _ hr rfl en
      (hbind s₁ (.ref a)) (.cons rfl .nil) (hsp H sys sq)) fun r s' z => ?_
    match r, z with
    | .error _, z => exact False.elim z
    | .ok .next, z => exact False.elim z
    | .ok .brk, z => exact False.elim z
    | .ok .cont, z => exact False.elim z
    | .ok (.ret u), z =>
      obtain ⟨v, H', os, bare, un, ok', rv, q⟩ := z
      have q' : v = .bl true := q
      subst q'
      have hu : u = Value.bool true := rv
      subst hu
      refine ⟨rfl, OldK.of_keep fun b o z => ?_, os, bare⟩
      rcases only b with n | ⟨ob, xs, n⟩
      · exact un.keep b o z n (fun y => absurd (show b ∈ ([] : List Addr) from y) (by simp)) (by simp)
      · have y1 : s₁.heap.get? b = some ob := (ok b _ n).1
        have y2 : s'.heap.get? b = some ob := (ok' b _ (un.frzs b ob _ n)).1
        rw [z] at y1
        rw [y2, Option.some.inj y1]
  -- what stands at sys.modules' address
  obtain ⟨om, hom⟩ := hsm
  let fz : HO := .frz om (.ext fun h => h.get? sysModules = some om)
  have fzOk : ∀ H : Hp, ObjOk P w H s₁.heap sysModules fz := fun H =>
    ⟨hom, hom, ⟨om, hom⟩, fun h1 h2 z k => k _ z⟩
  let sz : HO := .frz { cls := .type "list", data := .seq vs.toArray } (.lst (ns.map V.int))
  have szOk : ∀ H : Hp, ObjOk P w H s₁.heap a sz := fun H =>
    ⟨ha, by rw [List.length_map]; exact hl, vs, _, rel, ha⟩
  let H : Hp := fun b => if b = a ∧ K.lookup a = none then some sz else if b = sysModules ∧ K.lookup sysModules = none then some fz else none
  have cs : ∀ b, (b = a ∧ K.lookup a = none ∧ H b = some sz) ∨ (b = sysModules ∧ K.lookup sysModules = none ∧ H b = some fz) ∨ H b = none := fun b => by
    by_cases h1 : b = a ∧ K.lookup a = none
    · exact Or.inl ⟨h1.1, h1.2, if_pos h1⟩
    · by_cases h2 : b = sysModules ∧ K.lookup sysModules = none
      · exact Or.inr (Or.inl ⟨h2.1, h2.2, (if_neg h1).trans (if_pos h2)⟩)
      · exact Or.inr (Or.inr ((if_neg h1).trans (if_neg h2)))
  refine main H (fun b => ?_) ?_ ?_ (fun b u z => ?_) (fun b z => ?_) (fun b z => ?_)
  · rcases cs b with ⟨_, _, h⟩ | ⟨_, _, h⟩ | h
    · exact Or.inr ⟨_, _, h⟩
    · exact Or.inr ⟨_, _, h⟩
    · exact Or.inl h
  · cases q : K.lookup sysModules with
    | some o => exact Or.inl ⟨o, q⟩
    | none =>
      rcases cs sysModules with ⟨_, _, h⟩ | ⟨_, _, h⟩ | h
      · exact Or.inr ⟨_, _, h⟩
      · exact Or.inr ⟨_, _, h⟩
      · exfalso
        by_cases h1 : sysModules = a ∧ K.lookup a = none
        · rw [show H sysModules = some sz from if_pos h1] at h
          exact nomatch h
        · rw [show H sysModules = some fz from (if_neg h1).trans (if_pos ⟨rfl, q⟩)] at h
          exact nomatch h
  · cases q : K.lookup a with
    | some o =>
      have z := KX a o q
      rw [ha] at z
      obtain rfl := Option.some.inj z
      exact Or.inr ⟨_, vs.toArray, _, q, rfl, rfl, rfl, by rw [List.size_toArray, hi.length]; exact hl, by simpa using rel⟩
    | none => exact Or.inl (Or.inr ⟨{ cls := .type "list", data := .seq vs.toArray }, if_pos ⟨rfl, q⟩⟩)
  · rcases cs b with ⟨e, _, h⟩ | ⟨e, _, h⟩ | h
    · rw [z] at h
      obtain rfl := Option.some.inj h
      rw [e]
      exact szOk H
    · rw [z] at h
      obtain rfl := Option.some.inj h
      rw [e]
      exact fzOk H
    · rw [z] at h
      exact nomatch h
  · rcases cs b with ⟨e, _, h⟩ | ⟨e, _, h⟩ | h
    · exact Or.inl e
    · exact Or.inr e
    · exact absurd h z
  · rcases cs b with ⟨e, l, h⟩ | ⟨e, l, h⟩ | h
    · rw [e]; exact l
    · rw [e]; exact l
    · exact absurd h z

theorem law_walk {l : PySem.W.OpenLaw} {n k : Nat} {q : Program} {loose : List Str} {XP : (Str → Option Value) → Heap → Prop}
    {YP : World → Heap → Prop} {d : DefRec} {K : Params → PySem.W.Frag} {sp : World → Sp} {x : Str}
    (hn : l.most = some n) (hn2 : n ≤ sizeLine) (hdf : d.params.defaults = []) (hr : Room k callerA)
    (him : importsNone q = true)
    (hY : ∀ (w : World) (h : Heap), YP w h → (K w.params).In h)
    (F : ∀ (w : World) (mg : Str → Option Value) (fa : Addr) (h : Heap), (K w.params).In h → h.Ns mainGlobals mg →
      mg d.name = some (.ref fa) → ∃ fd : FuncData, (∀ (s : Shared) (u : Value), BindsTo s fd ⟨[u], []⟩ [(x, u)]) ∧
        ∀ base : Heap, (K w.params).In base → base.Ns mainGlobals mg → FnG l.prog w (K w.params) mg base CX0 k fa fd [x] (sp w))
    (hsp : ∀ (w : World) (H : Hp) (a : Addr) (ns : List Int), ns.length ≤ n → Sys (K w.params) H → SqL (K w.params) H a (ns.map V.int) →
      sp w [.ref a] H (fun v _ => v = .bl true) fun _ _ _ => False) :
    PySem.W.WalkO q loose XP YP l.row.toRowW d [] (fun f vs => PySem.call f vs) := by
  refine Att.attach_call hn hdf fun w s₀ s₁ mg mb fa o pm cd doc a vs ns G Y ho hd hcd hmg hobj hints hlen hg => ?_
  have inK := hY w _ Y
  obtain ⟨fd, bi, run⟩ := F w mg fa _ inK G.T.g hmg
  have hsm : ∃ o, s₁.heap.get? sysModules = some o := by
    obtain ⟨mm, ⟨o, _, _, z, _⟩, _⟩ := (G.T.seer him).mods
    exact ⟨o, z⟩
  exact law_end inK G.T.g G.T.b G.T.builtins G.T.nolimit hg hobj hints (Nat.le_trans hlen hn2) hr hsm run bi
    fun H h1 h2 => hsp w H a ns hlen h1 h2
end Nv
/-! Nv, part B: data with dicts in it, and what repr says of it. -/
namespace Nv
open PySem PySem.Spec PyProof.Rows L2

def keyD : Key → PyData
  | .inl i => .int i
  | .inr x => .str x

mutual
inductive Dq (H : Hp) : V → PyData → Prop
  | non : Dq H .non .none
  | bl (b : Bool) : Dq H (.bl b) (.bool b)
  | int (i : Int) : Dq H (.int i) (.int i)
  | str (x : Str) : Dq H (.str x) (.str x)
  | lst {a : Addr} {xs : List V} {ds : List PyData} : H a = some (.lst xs) → DqAll H xs ds → Dq H (.ref a) (.list ds)
  | tup {a : Addr} {xs : List V} {ds : List PyData} : H a = some (.tup xs) → DqAll H xs ds → Dq H (.ref a) (.tuple ds)
  | dic {a : Addr} {kvs : List (Key × V)} {ds : List PyData} : H a = some (.dK kvs) → DqAll H (kvs.map (·.2)) ds →
      Dq H (.ref a) (.dict ((kvs.map fun p => keyD p.1).zip ds))
inductive DqAll (H : Hp) : List V → List PyData → Prop
  | nil : DqAll H [] []
  | cons {v : V} {vs : List V} {d : PyData} {ds : List PyData} : Dq H v d → DqAll H vs ds → DqAll H (v :: vs) (d :: ds)
end

mutual
theorem Dq.same {H H' : Hp} (k : Same H H') : ∀ {v : V} {d : PyData}, Dq H v d → Dq H' v d
  | _, _, .non => .non
  | _, _, .bl b => .bl b
  | _, _, .int i => .int i
  | _, _, .str x => .str x
  | _, _, .lst h t => .lst (k _ _ h) (DqAll.same k t)
  | _, _, .tup h t => .tup (k _ _ h) (DqAll.same k t)
  | _, _, .dic h t => .dic (k _ _ h) (DqAll.same k t)
theorem DqAll.same {H H' : Hp} (k : Same H H') : ∀ {vs : List V} {ds : List PyData}, DqAll H vs ds → DqAll H' vs ds
  | _, _, .nil => .nil
  | _, _, .cons a b => .cons (Dq.same k a) (DqAll.same k b)
end

theorem reads_keys {P : Program} {w : World} {h : Heap} : ∀ {es : List DictEntry} {vs : List (Key × Value)},
    Pairs (mixKind P w) es vs → ReadsAll h (es.map (·.key)) (vs.map fun p => keyD p.1) []
  | _, _, .nil => .nil
  | _, _, .cons (e := e) (kv := kv) h1 h2 t => by
    have tl := reads_keys (h := h) t
    have h1' : keyIs kv.1 e.key = true := h1
    rcases keyIs_shape h1' with ⟨i, tk, z1, z2⟩ | ⟨x, tk, z1, z2⟩
    · have hd : Reads h e.key (keyD kv.1) [] := by rw [z1, z2]; exact .int i tk
      exact ReadsAll.cons hd tl
    · have hd : Reads h e.key (keyD kv.1) [] := by rw [z1, z2]; exact .str x tk
      exact ReadsAll.cons hd tl
theorem pairs_vals {P : Program} {w : World} : ∀ {es : List DictEntry} {vs : List (Key × Value)},
    Pairs (mixKind P w) es vs → es.map (·.val) = vs.map (·.2)
  | _, _, .nil => rfl
  | _, _, .cons h1 h2 t => by
    rw [List.map_cons, List.map_cons, h2, pairs_vals t]
theorem kv_keys : ∀ {kvs : List (Key × V)} {vs : List (Key × Value)}, KV kvs vs →
    (kvs.map fun p => keyD p.1) = vs.map fun p => keyD p.1
  | _, _, .nil => rfl
  | _, _, .cons h t => by
    rw [List.map_cons, List.map_cons, kv_keys t, h.1]
theorem kv_vals : ∀ {kvs : List (Key × V)} {vs : List (Key × Value)}, KV kvs vs → Vals (kvs.map (·.2)) (vs.map (·.2))
  | _, _, .nil => .nil
  | _, _, .cons h t => .cons h.2 (kv_vals t)
theorem dqAll_len {H : Hp} : ∀ {vs : List V} {ds : List PyData}, DqAll H vs ds → vs.length = ds.length
  | _, _, .nil => rfl
  | _, _, .cons _ t => congrArg Nat.succ (dqAll_len t)
theorem map_fst_zip {α β : Type} : ∀ (xs : List α) (ys : List β), xs.length = ys.length → (xs.zip ys).map (·.1) = xs
  | [], [], _ => rfl
  | x :: xs, y :: ys, h => by
    rw [List.zip_cons_cons, List.map_cons, map_fst_zip xs ys (Nat.succ.inj h)]
theorem map_snd_zip {α β : Type} : ∀ (xs : List α) (ys : List β), xs.length = ys.length → (xs.zip ys).map (·.2) = ys
  | [], [], _ => rfl
  | x :: xs, y :: ys, h => by
    rw [List.zip_cons_cons, List.map_cons, map_snd_zip xs ys (Nat.succ.inj h)]

section
variable {X : Cx} {pins : List (Addr × Obj)} {σ : L2.St} {H : Hp} {s : Shared}
mutual
theorem Dq.reads (I : Inv X pins σ H s) (h1 : Sys X.K H) : ∀ {v : V} {d : PyData} {u : Value}, Dq H v d → RelV v u →
    ∃ as, Reads s.heap u d as ∧ sysModules ∉ as
  | _, _, _, .non, r => by
    cases r
    exact ⟨_, .none, by simp⟩
  | _, _, _, .bl b, r => by
    cases r
    exact ⟨_, .bool b, by simp⟩
  | _, _, _, .int i, r => by
    obtain ⟨t, rfl⟩ := r
    exact ⟨_, .int i t, by simp⟩
  | _, _, _, .str x, r => by
    obtain ⟨t, rfl⟩ := r
    exact ⟨_, .str x t, by simp⟩
  | _, _, _, .lst (a := a) hs ha, r => by
    cases r
    obtain ⟨_, its, n, rv, ho⟩ : _ ∧ _ := I.hok a _ hs
    obtain ⟨as, hr, na⟩ := DqAll.reads I h1 ha rv
    have ne : a ≠ sysModules := h1.ne I hs (fun _ _ z => nomatch z)
    refine ⟨_, Reads.list ho rfl rfl hr, fun z => ?_⟩
    rcases List.mem_cons.mp z with z | z
    · exact ne z.symm
    · exact na z
  | _, _, _, .tup (a := a) hs ha, r => by
    cases r
    obtain ⟨_, its, rv, o, ho, hc, n, hd⟩ : _ ∧ _ := I.hok a _ hs
    obtain ⟨as, hr, na⟩ := DqAll.reads I h1 ha rv
    exact ⟨_, Reads.tuple ho hc hd hr, na⟩
  | _, _, _, .dic (a := a) (kvs := kvs) (ds := ds) hs ha, r => by
    cases r
    obtain ⟨_, _, vs, rel, o, es, ep, ho, ex, hd, _, pr, _⟩ : _ ∧ _ := I.hok a _ hs
    obtain ⟨bs, hr, nb⟩ := DqAll.reads I h1 ha (kv_vals rel)
    have ne : a ≠ sysModules := h1.ne I hs (fun _ _ z => nomatch z)
    have ll : (kvs.map fun p => keyD p.1).length = ds.length := by
      rw [List.length_map, ← dqAll_len ha, List.length_map]
    have k1 : ReadsAll s.heap (es.toList.map (·.key)) (((kvs.map fun p => keyD p.1).zip ds).map (·.1)) [] := by
      rw [map_fst_zip _ _ ll, kv_keys rel]
      exact reads_keys pr
    have k2 : ReadsAll s.heap (es.toList.map (·.val)) (((kvs.map fun p => keyD p.1).zip ds).map (·.2)) bs := by
      rw [map_snd_zip _ _ ll, pairs_vals pr]
      exact hr
    refine ⟨_, Reads.dict ho ex.1 hd k1 k2, fun z => ?_⟩
    rcases List.mem_cons.mp z with z | z
    · exact ne z.symm
    · exact nb z
theorem DqAll.reads (I : Inv X pins σ H s) (h1 : Sys X.K H) : ∀ {vs : List V} {ds : List PyData} {us : List Value},
    DqAll H vs ds → Vals vs us → ∃ as, ReadsAll s.heap us ds as ∧ sysModules ∉ as
  | _, _, _, .nil, r => by
    cases r
    exact ⟨_, .nil, by simp⟩
  | _, _, _, .cons a b, r => by
    cases r with
    | cons r1 r2 =>
      obtain ⟨as, q1, n1⟩ := Dq.reads I h1 a r1
      obtain ⟨bs, q2, n2⟩ := DqAll.reads I h1 b r2
      exact ⟨_, .cons q1 q2, fun z => by
        rcases List.mem_append.mp z with z | z
        · exact n1 z
        · exact n2 z⟩
end
end

/-- repr(v), v a list, a tuple or a dict of plain data -/
def rRepr (K : PySem.W.Frag) : List V → Hp → VK → Prop := fun vs H Q => ∃ (a : Addr) (d : PyData), vs = [.ref a] ∧ Sys K H ∧ Dq H (.ref a) d ∧
  d.showable = true ∧ d.depth ≤ 30 ∧ d.shown.length ≤ sizeLine ∧ Q (.str d.shown) H
theorem call_reprD {X : Cx} {k : Nat} (hr : Room k X.A) (gd : X.A.guards = some []) : CallR X (.builtin "repr") (rRepr X.K) := by
  intro pins s σ H vs us Q I r h
  obtain ⟨a, d, rfl, h1, dq, sh, dp, sz, q⟩ := h
  obtain ⟨u, rfl, ru⟩ := vals1 r
  cases ru
  obtain ⟨as, rd, na⟩ := Dq.reads I h1 dq rfl
  have un := hr.un
  exact repr_of_reads' rd sh (fun _ => na) gd (by omega) (fun _ _ z => z) (fun h' u tk kp => ⟨.str d.shown, H, I.kept kp, ⟨u, rfl⟩, q⟩) sz
end Nv
/-! Nv, part C: instances made where what is raised is wished for at the slots; errors with a what; kinds. -/
namespace Nv
open PySem PySem.Spec PyProof.Rows L2

section
variable {X : Cx} {CX : CXT} {k n : Nat} {f C : Addr} {fd : FuncData} {ps ks : List Str} {sp : Sp} {E : L2.St → XK} {x : Str}
  {p pos : Pos} {e : Expr} {es : List Expr} {kws : List Keyword} {t tk : TA} {g : List Value → List Value → List Value}
  {gV : List V → List V → List V}
/-- C(e, .., k = v, ..); what is raised is wished for at the slots -/
def tMkS (C : Addr) (n m : Nat) (sp : Sp) (gV : List V → List V → List V) (E : L2.St → XK) (t tk : TA) : TE := fun σ H Q =>
  t σ H fun vs H1 => tk σ H1 fun zs H2 => vs.length = n ∧ zs.length = m ∧ ∀ x dx, H2 x = none → H2 dx = none → dx ≠ x →
    sp (gV (.ref x :: vs) zs) (upd (upd H2 dx (.own x)) x (.ins C dx [])) (fun v H3 => v = .non ∧ Q (.ref x) H3) (E σ)
theorem run_mkS {pins : List (Addr × Obj)} {σ : L2.St} {H : Hp} {s : Shared} {Q : VK} {us ws : List Value} {vs zs : List V}
    (M : Mk X.K C f) (F : FnOk X.prog X.w X.K X.mg X.base CX k f fd ps sp) (hr : Room (k + 1) X.A)
    (hb : KBn X.K fd ps (n + 1) ks g gV) (hx : PassesAt CX X σ (E σ)) (I : Inv X pins σ H s) (r : Vals vs us) (rz : Vals zs ws)
    (l1 : vs.length = n) (l2 : zs.length = ks.length)
    (h : ∀ x dx, H x = none → H dx = none → dx ≠ x → sp (gV (.ref x :: vs) zs) (upd (upd H dx (.own x)) x (.ins C dx []))
      (fun v H2 => v = .non ∧ Q (.ref x) H2) (E σ)) :
    wpAny (model X.prog X.w) X.A (call (.ref C) us (ks.zip ws)) (EP X pins σ Q) X.xe s := by
  have big := h (s.heap.objs.size + 1) s.heap.objs.size (I.hok.fresh (Nat.le_succ _)) (I.hok.fresh (Nat.le_refl _))
    (Nat.ne_of_lt (Nat.lt_succ_self _))
  have J := Inv.made (C := C) I
  have q1 : Vals (V.ref (s.heap.objs.size + 1) :: vs) (Value.ref (s.heap.objs.size + 1) :: us) := .cons rfl r
  have n1 : (Value.ref (s.heap.objs.size + 1) :: us).length = n + 1 := q1.length.symm.trans (congrArg Nat.succ l1)
  have n2 : ws.length = ks.length := rz.length.symm.trans l2
  refine wpAny_call (make_map (f := f) I.kIn M.makes M.init (beq_iff_eq.mp M.fn) (codeAny_mono
    (F.run _ X.stack _ _ ⟨Value.ref (s.heap.objs.size + 1) :: us, ks.zip ws⟩ (g (Value.ref (s.heap.objs.size + 1) :: us) ws) _ _ (E σ)
      (hr.make C us (ks.zip ws)) (J.env0.make C us (ks.zip ws)) (hb.to _ (Value.ref (s.heap.objs.size + 1) :: us) ws J.kIn n1 n2)
      (hb.rel q1 rz) big) fun r s' z => ?_))
  match r, z with
  | .error e, z => exact hx pins _ _ e s' J z
  | .ok .next, z => exact False.elim z
  | .ok .brk, z => exact False.elim z
  | .ok .cont, z => exact False.elim z
  | .ok (.ret u), z =>
    obtain ⟨v, H', I3, rv, ev, q3⟩ := J.after z
    subst ev
    exact ⟨rv, ⟨V.ref (s.heap.objs.size + 1), H', I3, rfl, q3⟩⟩
theorem pe_mkS (M : Mk X.K C f) (F : FnOk X.prog X.w X.K X.mg X.base CX k f fd ps sp) (hr : Room (k + 1) X.A) (hg : Gl X x)
    (hm : X.mg x = some (.ref C)) (hb : KBn X.K fd ps (n + 1) ks g gV) (hx : ∀ σ, PassesAt CX X σ (E σ))
    (ha : PA X (e :: es) t) (hkw : PK X kws tk) (hall : (backToKw pos (keywordEach kws X.env)).all (·.1.isSome) = true := by rfl)
    (hks : (backToKw pos (keywordEach kws X.env)).filterMap (·.1) = ks := by rfl) (hdb : (x == ("__debug__" : Str)) = false := by decide)
    (he : starEach (e :: es) X.env = (false, eval e X.env) :: starEach es X.env := by rfl)
    (hpl : ((backTo pos (starEach (e :: es) X.env)).any (·.1) || (backToKw pos (keywordEach kws X.env)).any (·.1.isNone)) = false := by rfl) :
    PE X (.Call (.Name x p) (e :: es) kws pos) (tMkS C n ks.length sp gV E t tk) := by
  refine ⟨fun pins s σ H Q I h => wpAny_Call_Name_kw (ld_glob I hg hm ?_ hdb)⟩
  refine PySem.W.callWith_KW (h₀ := X.base) I.ok.mod.kin M.kp hall
    (thn (ha.run pos pins s σ H _ I h) fun us s1 ⟨vs, H1, I1, r, q⟩ => ?_) hpl he
  refine thn (hkw.run pos pins s1 σ H1 _ I1 q) fun ws s2 ⟨zs, H2, I2, rz, l1, l2, q2⟩ => ⟨I2.kIn, ?_⟩
  rw [hks]
  exact run_mkS M F hr hb (hx σ) I2 r rz l1 l2 q2
theorem pe_mkS0 (M : Mk X.K C f) (F : FnOk X.prog X.w X.K X.mg X.base CX k f fd ps sp) (hr : Room (k + 1) X.A) (hg : Gl X x)
    (hm : X.mg x = some (.ref C)) (hb : KBn X.K fd ps 1 ks g gV) (hx : ∀ σ, PassesAt CX X σ (E σ)) (hkw : PK X kws tk)
    (hall : (backToKw pos (keywordEach kws X.env)).all (·.1.isSome) = true := by rfl)
    (hks : (backToKw pos (keywordEach kws X.env)).filterMap (·.1) = ks := by rfl) (hdb : (x == ("__debug__" : Str)) = false := by decide)
    (hpl : ((backTo pos (starEach [] X.env)).any (·.1) || (backToKw pos (keywordEach kws X.env)).any (·.1.isNone)) = false := by rfl) :
    PE X (.Call (.Name x p) [] kws pos) (tMkS C 0 ks.length sp gV E tNil tk) := by
  refine ⟨fun pins s σ H Q I h => wpAny_Call_Name_kw (ld_glob I hg hm ?_ hdb)⟩
  refine PySem.W.callWith_KW0 (h₀ := X.base) I.ok.mod.kin M.kp hall ?_ hpl
  refine thn (hkw.run pos pins s σ H _ I h) fun ws s2 ⟨zs, H2, I2, rz, l1, l2, q2⟩ => ⟨I2.kIn, ?_⟩
  rw [hks]
  exact run_mkS (us := []) (vs := []) M F hr hb (hx σ) I2 .nil rz rfl l2 q2
end

/-! ### kinds -/
def isI : V → Bool
  | .int _ => true
  | _ => false
/-- what isinstance of int and of bool say of x: is it an integer and no flag -/
structure KdOf (K : PySem.W.Frag) (H : Hp) (x : V) : Prop where
  ex : ∃ (t : Value) (b1 b2 : Bool), TyX K H x t ∧ PySem.W.kitOne K t (.type "int") = some b1 ∧
    PySem.W.kitOne K t (.type "bool") = some b2 ∧ (b1 && !b2) = isI x
theorem kd_non {K : PySem.W.Frag} {H : Hp} : KdOf K H .non :=
  ⟨_, false, false, .base .non, kit_ty (by decide +kernel), kit_ty (by decide +kernel), rfl⟩
theorem kd_bl {K : PySem.W.Frag} {H : Hp} (b : Bool) : KdOf K H (.bl b) :=
  ⟨_, true, true, .base (.bl b), kit_ty (by decide +kernel), kit_ty (by decide +kernel), rfl⟩
theorem kd_int {K : PySem.W.Frag} {H : Hp} (i : Int) : KdOf K H (.int i) :=
  ⟨_, true, false, .base (.int i), kit_ty (by decide +kernel), kit_ty (by decide +kernel), rfl⟩
theorem kd_str {K : PySem.W.Frag} {H : Hp} (x : Str) : KdOf K H (.str x) :=
  ⟨_, false, false, .base (.str x), kit_ty (by decide +kernel), kit_ty (by decide +kernel), rfl⟩
theorem kd_lst {K : PySem.W.Frag} {H : Hp} {a : Addr} {xs : List V} (h : H a = some (.lst xs)) : KdOf K H (.ref a) :=
  ⟨_, false, false, .base (.lst h), kit_ty (by decide +kernel), kit_ty (by decide +kernel), rfl⟩
theorem kd_tup {K : PySem.W.Frag} {H : Hp} {a : Addr} {xs : List V} (h : H a = some (.tup xs)) : KdOf K H (.ref a) :=
  ⟨_, false, false, .base (.tup h), kit_ty (by decide +kernel), kit_ty (by decide +kernel), rfl⟩
theorem kd_dK {K : PySem.W.Frag} {H : Hp} {a : Addr} {kvs : List (Key × V)} (h : H a = some (.dK kvs)) : KdOf K H (.ref a) :=
  ⟨_, false, false, .base (.dK h), kit_ty (by decide +kernel), kit_ty (by decide +kernel), rfl⟩
/-- what isinstance asks of an own class -/
structure IsC (K : PySem.W.Frag) (C : Addr) : Prop where
  cl : Cls K C
  ha : PySem.W.findIn K (.ref C) "__class__" = some (some (.builtin "object.__class__"))
  hn : PySem.W.specialIn K (.builtin "object.__class__") "__get__" = some (some (.builtin "getset_descriptor.__get__"))
  htk : PySem.W.takesIn K (.builtin "object.__class__") = some true
  hm : PySem.W.mroIn K C (.type "object") = some true
  ki : PySem.W.kitOne K (.ref C) (.type "int") = some false
  kb : PySem.W.kitOne K (.ref C) (.type "bool") = some false
theorem kd_ins {K : PySem.W.Frag} {H : Hp} {a C dx : Addr} {fs : List (Str × V)} (c : IsC K C) (h : H a = some (.ins C dx fs)) : KdOf K H (.ref a) :=
  ⟨_, false, false, .base (.ins h c.cl c.ha c.hn c.htk c.hm), c.ki, c.kb, rfl⟩
theorem TyOf.same {K : PySem.W.Frag} {H H' : Hp} {x : V} {t : Value} (k : Same H H') (h : TyOf K H x t) : TyOf K H' x t := by
  cases h with
  | non => exact .non
  | bl b => exact .bl b
  | int i => exact .int i
  | str y => exact .str y
  | flt y => exact .flt y
  | lst e => exact .lst (k _ _ e)
  | frz e => exact .frz (k _ _ e)
  | tup e => exact .tup (k _ _ e)
  | dK e => exact .dK (k _ _ e)
  | dT e => exact .dT (k _ _ e)
  | ins e cl ha hn htk hm => exact .ins (k _ _ e) cl ha hn htk hm
theorem TyX.same {K : PySem.W.Frag} {H H' : Hp} {x : V} {t : Value} (k : Same H H') (h : TyX K H x t) : TyX K H' x t := by
  cases h with
  | base h => exact .base (TyOf.same k h)
  | byt b => exact .byt b
  | set e => exact .set (k _ _ e)
  | kList e c => exact .kList e c
  | kTuple e c => exact .kTuple e c
  | kDict e c => exact .kDict e c
  | fTuple e => exact .fTuple (k _ _ e)
  | fDict e => exact .fDict (k _ _ e)
theorem KdOf.same {K : PySem.W.Frag} {H H' : Hp} {x : V} (k : Same H H') (h : KdOf K H x) : KdOf K H' x := by
  obtain ⟨t, b1, b2, a, b, c, d⟩ := h.ex
  exact ⟨t, b1, b2, TyX.same k a, b, c, d⟩

/-! ### errors with a what -/
def whatF (v : V) : List (Str × V) := [("what", v)]
/-- what the written part says of an own error class without an __init__ of its own -/
structure ExC (K : PySem.W.Frag) (mg : Str → Option Value) (x : Str) (C fI : Addr) : Prop where
  gC : mg x = some (.ref C)
  ox : OexC K C
  iC : PySem.W.findIn K (.ref C) "__init__" = some (some (.ref fI))
  tI : PySem.W.typeIn K (.ref fI) = some (.type "function")
  no : PySem.W.findIn K (.ref C) "what" = some none
  xf : XfC K C
  te : PySem.W.exmOne K (.ref C) (.ref C) = some true
/-- __init__(self, what) of the errors -/
def spExI (K : PySem.W.Frag) : Sp := fun vs H Q _ => ∃ (a C : Addr) (v : V), vs = [.ref a, v] ∧ OexC K C ∧
  PySem.W.findIn K (.ref C) "what" = some none ∧ H a = some (exo a C none) ∧
  ∀ dx, H dx = none → dx ≠ a → Q .non (upd (upd H dx (exd dx (whatF v))) a (exo a C (some dx)))
theorem heap_back {H : Hp} {a dx : Addr} {o1 o2 o3 o4 : HO} (ha : H a = none) (ne : dx ≠ a) :
    upd (L2.del (upd (upd (upd H a o1) dx o2) a o3) a) dx o4 = upd H dx o4 := by
  funext b
  by_cases h : b = dx
  · subst h
    rw [upd_same, upd_same]
  · rw [upd_ne h, upd_ne h]
    by_cases h2 : b = a
    · subst h2
      rw [L2.del_same, ha]
    · rw [L2.del_ne h2, upd_ne h2, upd_ne h, upd_ne h2]
theorem mk_err {K : PySem.W.Frag} {mg : Str → Option Value} {x : Str} {C fI : Addr} (T : ExC K mg x C fI) {te : TE} {σ : L2.St} {H : Hp} {Q : XK}
    (h : te σ H fun v H1 => ∀ d, H1 d = none → Q (.ref C) (some d) (upd H1 d (.xd (whatF v)))) (mono : ∀ {A B : V → Hp → Prop}, (∀ v H, A v H → B v H) → te σ H A → te σ H B) :
    tMkO C (spExI K) [] (tCons te tNil) σ H Q := by
  refine mono (fun v H1 q => ?_) h
  show [v].length ≤ 1000 ∧ _
  refine ⟨by show 1 ≤ 1000; decide, fun a ha => ⟨a, C, v, rfl, T.ox, T.no, upd_same, fun dx hdx ne => ⟨rfl, dx, whatF v, upd_same, ?_, ?_, ?_⟩⟩⟩
  · rw [upd_ne ne, upd_same]
  · rw [upd_ne ne] at hdx
    exact hdx
  · rw [upd_ne ne] at hdx
    rw [heap_back ha ne]
    exact q dx hdx
end Nv
/-! Nv, part D: the laws' own helpers: a cell, the generator's state, a draw; how what stands is carried over draws. -/
namespace Nv
open PySem PySem.Spec PyProof.Rows L2
/-- what the built-ins' names hold -/
structure Blt (mg : Str → Option Value) : Prop where
  len : mg "len" = none
  int : mg "int" = none
  bool : mg "bool" = none
  abs : mg "abs" = none
  isi : mg "isinstance" = none
  rep : mg "repr" = none
  rng : mg "range" = none
/-- a cell of the script -/
def spCel (K : PySem.W.Frag) : Sp := fun vs H Q _ => ∃ (a : Addr) (ns : List Int) (j : Nat),
  vs = [.ref a, .int (j : Int)] ∧ SqL K H a (ns.map V.int) ∧ Q (.int (ns.getD j 0)) H
/-- the generator's state -/
def spSta : Sp := fun vs H Q _ => ∃ (n : Int), vs = [.int n] ∧
  ∀ (p : Addr) (a b c : Int), H p = none → Q (.ref p) (upd H p (.lst [.int a, .int b, .int c]))
/-- a draw: some number below many -/
def spTak : Sp := fun vs H Q _ => ∃ (p : Addr) (a b c m : Int), vs = [.ref p, .int m] ∧ 0 < m ∧ m < 1073741824 ∧
  H p = some (.lst [.int a, .int b, .int c]) ∧
  ∀ (d a' b' c' : Int), 0 ≤ d → d < m → Q (.int d) (upd H p (.lst [.int a', .int b', .int c']))
theorem same_new {H : Hp} {p dx : Addr} {o1 o2 : HO} (hp : H p = none) (hd : H dx = none) : Same H (upd (upd H dx o1) p o2) := fun b o e => by
  rw [upd_ne (ne_of_none e hp), upd_ne (ne_of_none e hd)]
  exact e
theorem same_upd {H : Hp} {p : Addr} {o : HO} (hp : H p = none) : Same H (upd H p o) := fun b u e => by
  rw [upd_ne (ne_of_none e hp)]
  exact e

/-- a law's def: nothing is let out, no repr is under way -/
theorem FnG.mk0 {P : Program} {w : World} {K : PySem.W.Frag} {mg : Str → Option Value} {base : Heap} {k : Nat} {f : Addr} {fd : FuncData}
    {N ps : List Str} {sp : Sp} {x qual : Str} {st : Stmt} (F : Fun K x qual st f fd)
    (S : FnScope N ps (defScope st)) (len : ∀ vs H Q E, sp vs H Q E → vs.length = ps.length)
    (body : ∀ (cdv : Value) (A : Around) (outer : List Env) (s : Shared) (H : Hp) (vs : List V) (Q : VK) (E : XK),
      A.guards = some [] → Room k (A.deeper (envOfC qual (defScope st) s.heap.objs.size f cdv)) → sp vs H Q E →
      ∃ t, PSs (cxOf CX0 P w K mg base N qual (defScope st) f cdv A outer s H E).nox (defBody st) t ∧
        t { nx := fun _ H' => Q .non H', rt := Q } (start N vs) H) :
    FnG P w K mg base CX0 (k + 1) f fd ps sp :=
  FnG.mk_of F S len fun cdv A outer s H vs Q E gd hr q => by
    obtain ⟨t, h1, h2⟩ := body cdv A outer s H vs Q E gd hr q
    exact ⟨t, h1.nox, h2⟩

/-- G stands beside the generator's state at st -/
structure Dr (G : Hp) (st : Addr) (H : Hp) : Prop where
  same : Same G H
  free : G st = none
  at_ : ∃ a b c : Int, H st = some (.lst [.int a, .int b, .int c])
theorem Dr.mono {G : Hp} {st : Addr} {H H' : Hp} (d : Dr G st H) (k : Same H H') : Dr G st H' := by
  obtain ⟨a, b, c, h⟩ := d.at_
  exact ⟨d.same.trans k, d.free, a, b, c, k _ _ h⟩
theorem Dr.put {G : Hp} {st : Addr} {H : Hp} {a b c : Int} (d : Dr G st H) : Dr G st (upd H st (.lst [.int a, .int b, .int c])) :=
  ⟨fun x o e => by rw [upd_ne (ne_of_none e d.free)]; exact d.same x o e, d.free, a, b, c, upd_same⟩
/-- something new that is to stand -/
theorem Dr.new {G : Hp} {st : Addr} {H : Hp} {q : Addr} {o : HO} (d : Dr G st H) (n : H q = none) : Dr (upd G q o) st (upd H q o) := by
  obtain ⟨a, b, c, h⟩ := d.at_
  have ne : st ≠ q := ne_of_none h n
  refine ⟨fun x u e => ?_, ?_, a, b, c, ?_⟩
  · by_cases hx : x = q
    · subst hx
      rw [upd_same] at e ⊢
      exact e
    · rw [upd_ne hx] at e ⊢
      exact d.same x u e
  · rw [upd_ne ne]
    exact d.free
  · rw [upd_ne ne]
    exact h
theorem Dr.news {G : Hp} {st : Addr} {H : Hp} {q : Addr} {o : HO} (d : Dr G st H) (n : H q = none) : Same G (upd G q o) :=
  same_upd (d.same.free n)
theorem Dr.add {G : Hp} {st : Addr} {H : Hp} {q : Addr} {o : HO} (d : Dr G st H) (h : H q = some o) (ne : st ≠ q) : Dr (upd G q o) st H := by
  refine ⟨fun x u e => ?_, ?_, d.at_⟩
  · by_cases hx : x = q
    · subst hx
      rw [upd_same] at e
      rw [h]
      exact e
    · rw [upd_ne hx] at e
      exact d.same x u e
  · rw [upd_ne ne]
    exact d.free
theorem Dr.ne {G : Hp} {st : Addr} {H : Hp} {q : Addr} (d : Dr G st H) (n : H q = none) : st ≠ q := by
  obtain ⟨a, b, c, h⟩ := d.at_
  exact ne_of_none h n
theorem Dr.start {H : Hp} {st : Addr} {a b c : Int} (n : H st = none) : Dr H st (upd H st (.lst [.int a, .int b, .int c])) :=
  ⟨same_upd n, n, a, b, c, upd_same⟩
/-- a draw is read -/
theorem take_read {G : Hp} {st : Addr} {H : Hp} {m : Int} {Q : VK} {E : XK} (d : Dr G st H) (m0 : 0 < m) (m1 : m < 1073741824)
    (h : ∀ (z : Int) (H' : Hp), 0 ≤ z → z < m → Dr G st H' → Q (.int z) H') : spTak [.ref st, .int m] H Q E := by
  obtain ⟨a, b, c, e⟩ := d.at_
  exact ⟨st, a, b, c, m, rfl, m0, m1, e, fun z a' b' c' z0 z1 => h z _ z0 z1 d.put⟩
theorem atI_in {xs : List V} {z : Int} (z0 : 0 ≤ z) (z1 : z < (xs.length : Int)) : ∃ v, atI xs z = some v ∧ v ∈ xs := by
  have lt : z.toNat < xs.length := by omega
  refine ⟨xs[z.toNat], at_of (j := z.toNat) (by omega) (List.getElem?_eq_getElem lt), List.getElem_mem lt⟩
end Nv
/-! Nv, part FT: tuples that the run makes, told as objects with no dict of their own. -/
namespace Nv
open PySem PySem.Spec PyProof.Rows L2
variable {X : Cx}
/-- the object of such a tuple -/
abbrev TpO (o : Obj) (xs : List V) : HO := .frz o (.tup xs)
def tTupF (t : TA) : TE := fun σ H Q => t σ H fun xs H1 => xs.length ≤ sizeLine ∧ ∀ (p : Addr) (o : Obj), H1 p = none → o.dict = none → Q (.ref p) (upd H1 p (TpO o xs))
theorem pe_tupF {es : List Expr} {t : TA} {pos : Pos} {x1} (h : PA X es t) : PE X (.Tuple es x1 pos) (tTupF t) := by
  refine ⟨fun pins s σ H Q I hq => ?_⟩
  refine wpAny_Tuple_spliced (thn (h.run pos pins s σ H _ I hq) fun us s1 ⟨xs, H1, I1, r, z, q⟩ => ⟨by rw [← r.length]; exact z, ?_⟩)
  have hf : H1 s1.heap.objs.size = none := I1.hok.fresh (Nat.le_refl _)
  refine ⟨.ref s1.heap.objs.size, upd H1 s1.heap.objs.size (TpO { cls := .type "tuple", data := .seq us.toArray } xs), I1.laid (t' := s1.toks) (fun b u e => Heap.get?_push_of_some _ e) (Nat.le_refl _) ?_, rfl, q _ _ hf rfl⟩
  exact ⟨Heap.get?_push_size _ rfl, z, us, r, IsTup.new _ _⟩
def tTupRgF (te : L2.St → Hp → (Int → Int → Hp → Prop) → Prop) : TE := fun σ H Q => te σ H fun a b H1 => RgOk a b ∧ ∀ (q : Addr) (o : Obj), H1 q = none → o.dict = none → Q (.ref q) (upd H1 q (TpO o (rgV a b)))
theorem pe_tupRgF {e : Expr} {te : L2.St → Hp → (Int → Int → Hp → Prop) → Prop} {p pos : Pos} (hc : X.calm = true) (hg : Gl X "tuple") (hm : X.mg "tuple" = none) (he : PRg X e te) (na : starEach [e] X.env = (false, eval e X.env) :: starEach [] X.env := by rfl) : PE X (.Call (.Name "tuple" p) [e] [] pos) (tTupRgF te) := by
  refine ⟨fun pins s σ H Q I h => ?_⟩
  refine Call_ (ld_blt I hg hm boot_tuple (PyProof.Rows.callWith_type1 (args_cons (thn (he pins s σ H _ I h) fun x s1 ⟨r, a, b, t, u, v, H1, ex, hr, I1, ok, q⟩ => args_nil ?_) na) na))
  subst ex
  obtain ⟨b1, b2, b3, b4, b5⟩ := ok
  refine call_tuple_range (n := (b - a).toNat) (I1.ok.hd hc) hr (small_one b1 b2 b3 b4) (rangeSize_nat a b) b5 fun h' tk acc hk hi => ?_
  have I2 : Inv X pins σ H1 { s1 with heap := h', toks := tk } := I1.kept hk
  refine ⟨.ref h'.objs.size, upd H1 h'.objs.size (TpO { cls := .type "tuple", data := .seq acc } (rgV a b)), I2.laid (t' := tk) (fun c o e => Heap.get?_push_of_some _ e) (Nat.le_refl _) ⟨Heap.get?_push_size _ rfl, ?_, acc.toList, vals_rg hi, ?_⟩, rfl, q _ _ (I2.hok.fresh (Nat.le_refl _)) rfl⟩
  · rw [rgV_length, sizeLine_eq]; omega
  · rw [Array.toArray_toList]; exact IsTup.new _ _
def rCatF (K : PySem.W.Frag) : R2 := fun x y H Q => ∃ a b xs ys, x = .ref a ∧ y = .ref b ∧ SqT K H a xs ∧ SqT K H b ys ∧ xs.length + ys.length ≤ sizeLine ∧
  (xs = [] → Q (.ref b) H) ∧ (xs ≠ [] → ys = [] → Q (.ref a) H) ∧ (xs ≠ [] → ys ≠ [] → ∀ (p : Addr) (o : Obj), H p = none → o.dict = none → Q (.ref p) (upd H p (TpO o (xs ++ ys))))
theorem op_catF : OpR X (binaryOp .Add) (rCatF X.K) := by
  intro pins s σ H x y v u Q I rx ry h
  obtain ⟨a, b, xs, ys, rfl, rfl, ha, hb, hz, q0, q1, q2⟩ := h
  cases rx
  cases ry
  obtain ⟨its, r1, p1, _⟩ := I.tuple ha
  obtain ⟨its2, r2, p2, _⟩ := I.tuple hb
  by_cases hx : xs = []
  · subst hx
    cases r1
    exact cat_tup0 p1 p2 ⟨.ref b, H, I, rfl, q0 rfl⟩
  · refine HT.cat_tup p1 p2 (fun z => hx (r1.nil_iff.mp z)) (fun z => ⟨.ref a, H, I, rfl, q1 hx (r2.nil_iff.mp z)⟩) (fun z => ?_) (by rw [← r1.length, ← r2.length]; exact hz)
    refine ⟨.ref s.heap.objs.size, upd H s.heap.objs.size (TpO _ (xs ++ ys)), I.laid (t' := s.toks) (fun b ob q => Heap.get?_push_of_some _ q) (Nat.le_refl _) ⟨Heap.get?_push_size _ rfl, by rw [List.length_append]; exact hz, _, r1.append r2, IsTup.new _ _⟩, rfl, q2 hx (fun w => z (r2.nil_iff.mpr w)) _ _ (I.hok.fresh (Nat.le_refl _)) rfl⟩
def rSlF (K : PySem.W.Frag) : V → Option Int → Option Int → Hp → VK → Prop := fun x lo hi H Q => ∃ a xs, x = .ref a ∧ SqT K H a xs ∧
  (HT.sIx xs.length 0 lo = 0 ∧ HT.sIx xs.length xs.length hi = xs.length → Q (.ref a) H) ∧ (¬ (HT.sIx xs.length 0 lo = 0 ∧ HT.sIx xs.length xs.length hi = xs.length) → ∀ (p : Addr) (o : Obj), H p = none → o.dict = none → Q (.ref p) (upd H p (TpO o (cutV xs lo hi))))
theorem sl_tupF : L2.SlR X (rSlF X.K) := by
  intro pins s σ H x v vl vu lo hi sl Q I rx hs pl pu h
  obtain ⟨a, xs, rfl, hx, q1, q2⟩ := h
  cases rx
  obtain ⟨its, r, ht, hz⟩ := I.tuple hx
  have hlen : its.toArray.size = xs.length := by rw [List.size_toArray]; exact r.length.symm
  by_cases hw : HT.sIx xs.length 0 lo = 0 ∧ HT.sIx xs.length xs.length hi = xs.length
  · refine ⟨"tuple", _, PyProof.Rows.slot_tuple_getitem.lookup, ht.typeIs, ?_⟩
    exact getItem_tuple_whole ht hs pl pu (by rw [hlen]; exact hw) ⟨.ref a, H, I, rfl, q1 hw⟩
  · refine ⟨"tuple", _, PyProof.Rows.slot_tuple_getitem.lookup, ht.typeIs, ?_⟩
    refine HT.getItem_tuple_cut ht hs pl pu (by rw [hlen]; exact hw) ?_ (by rw [hlen]; exact hz)
    rw [hlen]
    refine ⟨.ref s.heap.objs.size, upd H s.heap.objs.size (TpO _ (cutV xs lo hi)), I.laid (t' := s.toks) (fun b ob q => Heap.get?_push_of_some _ q) (Nat.le_refl _) ⟨Heap.get?_push_size _ rfl, Nat.le_trans (cutV_length xs lo hi) hz, _, (r.drop (HT.sIx xs.length 0 lo)).take (HT.sIx xs.length xs.length hi - HT.sIx xs.length 0 lo), IsTup.new _ _⟩, rfl, q2 hw _ _ (I.hok.fresh (Nat.le_refl _)) rfl⟩
def rTupLF (K : PySem.W.Frag) : List V → Hp → VK → Prop := fun xs H Q => ∃ p ys, xs = [.ref p] ∧ ((SqL K H p ys ∧ ∀ (l : Addr) (o : Obj), H l = none → o.dict = none → Q (.ref l) (upd H l (TpO o ys))) ∨ (SqT K H p ys ∧ Q (.ref p) H))
theorem call_tupLF : CallR X (.type "tuple") (rTupLF X.K) := by
  intro pins s σ H xs us Q I r ⟨p, ys, ex, h⟩
  subst ex
  obtain ⟨u, hu, ru⟩ := vals1 r
  subst hu
  cases ru
  rcases h with ⟨sq, q⟩ | ⟨sq, q⟩
  · obtain ⟨its, rv, lay, fits⟩ := I.list sq
    have same := rv.length
    refine call_tuple_list lay.isList (fun hp kp => ?_) (by rw [List.size_toArray]; omega)
    have J : Inv X pins σ H { s with heap := hp } := I.kept (t' := s.toks) kp
    have fresh := J.hok.fresh (Nat.le_refl _)
    refine ⟨.ref hp.objs.size, upd H hp.objs.size (TpO { cls := .type "tuple", data := .seq its.toArray } ys), ?_, rfl, q _ _ fresh rfl⟩
    exact J.laid (t' := s.toks) (fun b o e => Heap.get?_push_of_some _ e) (Nat.le_refl _) ⟨Heap.get?_push_size _ rfl, fits, its, rv, IsTup.new _ _⟩
  · obtain ⟨its, _, p1, _⟩ := I.tuple sq
    exact call_tuple_same (items := its.toArray) p1 ⟨.ref p, H, I, rfl, q⟩
end Nv
/-! Nv, part P: readings over data alone. D: data; At: what stands in the heap; Ens: what the slots hold;
WpE, WpT, WpA, WpS, WpI, WpG: what must hold of the data so that a reading ends as wished. -/
namespace Nv
open PySem PySem.Spec PyProof.Rows L2

/-- the tables of code objects in use, and the name of the lambdas that each tells -/
class Tb where
  U : Addr → Prop
  nm : Addr → Str
  kw : World
/-- an object that stands at a -/
def DObj (a : Addr) (o : Obj) : HO := .ext fun h => h.get? a = some o
/-- the hash of a tuple of keys -/
def khash (w : World) (ks : List Key) : Int := reduceHash (Builtin.Tuple.tupleHashOf (ks.map (keyH w)))
/-- o is a dict of just these keys (at these addresses), in this order, with these values -/
def DRaw (w : World) (a : Addr) (o : Obj) (kvs : List (List Key × Addr × V)) : Prop := (a == sysModules) = false ∧ o.ExactDict ∧ kvs.length ≤ sizeLine ∧ (kvs.map (·.1)).Nodup ∧
  ∃ (xs : List (List Key × Addr × Value)) (es : Array DictEntry) (ep : Nat), Paired (fun p q => p.1 = q.1 ∧ p.2.1 = q.2.1 ∧ RelV p.2.2 q.2.2) kvs xs ∧ o.data = .dict es ep ∧
    es.toList = xs.map fun x => ⟨khash w x.1, .ref x.2.1, x.2.2⟩
/-- what stands in a generator's state -/
class Ls where
  ok : Hp → List V → Prop
  keep : ∀ {G G' : Hp} {xs : List V}, Same G G' → ok G xs → ok G' xs
/-- the table tells lambdas all of the name q -/
structure TabOk (H : Hp) (q : Str) (ps : Array Value) : Prop where
  tr : TriplesOk ps.toList
  co : ∀ (pos : Pos) (cv : Value), codeAmong pos ps.toList = some cv → ∃ c, cv = .ref c ∧ H c = some (LamX.CodeO c q)
theorem TabOk.same {G G' : Hp} {q : Str} {ps : Array Value} (k : Same G G') (t : TabOk G q ps) : TabOk G' q ps := ⟨t.tr, fun pos cv h => by
  obtain ⟨c, e, r⟩ := t.co pos cv h
  exact ⟨c, e, k _ _ r⟩⟩
variable [Tb] [Ls]
/-- what may change: a generator's state, a table -/
def Mo (a : Addr) (G : Hp) (o : HO) : Prop := (¬ Tb.U a ∧ ∃ xs, o = .lst xs ∧ Ls.ok G xs) ∨ (Tb.U a ∧ ∃ ps, o = .tbl ps ∧ TabOk G (Tb.nm a) ps)
theorem Mo.same {a : Addr} {G G' : Hp} {o : HO} (k : Same G G') (h : Mo a G o) : Mo a G' o := by
  rcases h with ⟨n, xs, e, h⟩ | ⟨n, ps, e, h⟩
  · exact .inl ⟨n, xs, e, Ls.keep k h⟩
  · exact .inr ⟨n, ps, e, h.same k⟩
inductive D where
  | non
  | bl (b : Bool)
  | int (i : Int)
  | str (x : Str)
  | ty (T : String)
  | lst (ds : List D)
  | tup (ds : List D)
  | dic (ks : List Key) (ds : List D)
  | dct (ks : List (List Key)) (ds : List D)
  | ins (C : Addr) (ns : List Str) (ds : List D)
/-- an int or a text, as data -/
def kyD : Key → D
  | .inl i => .int i
  | .inr x => .str x
/-- read as it stands, or frozen -/
theorem rdS {G G' : Hp} {a : Addr} {u : HO} (k : Same G G') (r : Rd G a u) : Rd G' a u := by
  rcases r with r | ⟨o, r⟩
  · exact .inl (k _ _ r)
  · exact .inr ⟨o, k _ _ r⟩
def isPair : D → Bool
  | .tup [_, _] => true
  | _ => false
/-- all are pairs -/
def dictable (ds : List D) : Bool := ds.all isPair
/-- a tuple that lies at a: with no dict of its own, or not all pairs -/
def TupR (G : Hp) (a : Addr) (xs : List V) (ds : List D) : Prop := (∃ ob : Obj, G a = some (TpO ob xs) ∧ ob.dict = none) ∨ (Rd G a (.tup xs) ∧ dictable ds = false)
theorem TupR.rd {G : Hp} {a : Addr} {xs : List V} {ds : List D} (h : TupR G a xs ds) : Rd G a (.tup xs) := by
  rcases h with ⟨o, h, _⟩ | ⟨h, _⟩
  · exact .inr ⟨o, h⟩
  · exact h
theorem TupR.same {G G' : Hp} {a : Addr} {xs : List V} {ds : List D} (k : Same G G') (h : TupR G a xs ds) : TupR G' a xs ds := by
  rcases h with ⟨o, h, n⟩ | ⟨h, n⟩
  · exact .inl ⟨o, k _ _ h, n⟩
  · exact .inr ⟨rdS k h, n⟩
theorem TupR.no {G : Hp} {a : Addr} {xs : List V} {ds : List D} (h : TupR G a xs ds) (e : dictable ds = true) : ∃ ob : Obj, G a = some (TpO ob xs) ∧ ob.dict = none := by
  rcases h with h | ⟨_, n⟩
  · exact h
  · rw [e] at n; exact nomatch n
mutual
inductive At (G : Hp) : V → D → Prop
  | non : At G .non .non
  | bl (b : Bool) : At G (.bl b) (.bl b)
  | int (i : Int) : At G (.int i) (.int i)
  | str (x : Str) : At G (.str x) (.str x)
  | ty (T : String) : At G (.ty T) (.ty T)
  | lst {a : Addr} {xs : List V} {ds : List D} : G a = some (.lst xs) → AtAll G xs ds → At G (.ref a) (.lst ds)
  | tup {a : Addr} {xs : List V} {ds : List D} : TupR G a xs ds → AtAll G xs ds → At G (.ref a) (.tup ds)
  | dic {a : Addr} {kvs : List (Key × V)} {ds : List D} : G a = some (.dK kvs) → AtAll G (kvs.map (·.2)) ds →
      At G (.ref a) (.dic (kvs.map (·.1)) ds)
  | dct {a : Addr} {o : Obj} {kvs : List (List Key × Addr × V)} {ds : List D} : G a = some (DObj a o) → DRaw Tb.kw a o kvs → (∀ p ∈ kvs, TupR G p.2.1 (p.1.map kV) (p.1.map kyD)) → AtAll G (kvs.map (·.2.2)) ds →
      At G (.ref a) (.dct (kvs.map (·.1)) ds)
  | ins {a C dx : Addr} {fs : List (Str × V)} {ds : List D} : G a = some (.ins C dx fs) → AtAll G (fs.map (·.2)) ds →
      At G (.ref a) (.ins C (fs.map (·.1)) ds)
inductive AtAll (G : Hp) : List V → List D → Prop
  | nil : AtAll G [] []
  | cons {v : V} {vs : List V} {d : D} {ds : List D} : At G v d → AtAll G vs ds → AtAll G (v :: vs) (d :: ds)
end
mutual
theorem At.same {G G' : Hp} (k : Same G G') : ∀ {v : V} {d : D}, At G v d → At G' v d
  | _, _, .non => .non
  | _, _, .bl b => .bl b
  | _, _, .int i => .int i
  | _, _, .str x => .str x
  | _, _, .ty x => .ty x
  | _, _, .lst h t => .lst (k _ _ h) (AtAll.same k t)
  | _, _, .tup h t => .tup (h.same k) (AtAll.same k t)
  | _, _, .dic h t => .dic (k _ _ h) (AtAll.same k t)
  | _, _, .dct h r e t => .dct (k _ _ h) r (fun p hp => (e p hp).same k) (AtAll.same k t)
  | _, _, .ins h t => .ins (k _ _ h) (AtAll.same k t)
theorem AtAll.same {G G' : Hp} (k : Same G G') : ∀ {vs : List V} {ds : List D}, AtAll G vs ds → AtAll G' vs ds
  | _, _, .nil => .nil
  | _, _, .cons a b => .cons (At.same k a) (AtAll.same k b)
end
theorem AtAll.length {G : Hp} : ∀ {vs : List V} {ds : List D}, AtAll G vs ds → vs.length = ds.length
  | _, _, .nil => rfl
  | _, _, .cons _ t => congrArg Nat.succ (AtAll.length t)
theorem AtAll.get {G : Hp} : ∀ {vs : List V} {ds : List D}, AtAll G vs ds → ∀ {i : Nat} {d : D}, ds[i]? = some d → ∃ v, vs[i]? = some v ∧ At G v d
  | _, _, .nil, i, d, h => by simp at h
  | _, _, .cons (v := v) a t, 0, d, h => by
    simp at h
    subst h
    exact ⟨v, rfl, a⟩
  | _, _, .cons a t, i + 1, d, h => by
    simpa using AtAll.get t (i := i) (d := d) (by simpa using h)
theorem AtAll.getV {G : Hp} {vs : List V} {ds : List D} (h : AtAll G vs ds) {i : Nat} {v : V} (e : vs[i]? = some v) : ∃ d, ds[i]? = some d ∧ At G v d := by
  have lt : i < ds.length := by
    rw [← h.length]
    exact (List.getElem?_eq_some_iff.mp e).1
  obtain ⟨w, e2, a⟩ := h.get (List.getElem?_eq_getElem lt)
  rw [e] at e2
  cases e2
  exact ⟨_, List.getElem?_eq_getElem lt, a⟩
theorem AtAll.app {G : Hp} : ∀ {vs ws : List V} {ds es : List D}, AtAll G vs ds → AtAll G ws es → AtAll G (vs ++ ws) (ds ++ es)
  | _, _, _, _, .nil, t => t
  | _, _, _, _, .cons a b, t => .cons a (AtAll.app b t)
theorem AtAll.take {G : Hp} : ∀ {vs : List V} {ds : List D} (n : Nat), AtAll G vs ds → AtAll G (vs.take n) (ds.take n)
  | _, _, 0, _ => by simp; exact .nil
  | _, _, n + 1, .nil => .nil
  | _, _, n + 1, .cons a b => .cons a (AtAll.take n b)
theorem AtAll.drop {G : Hp} : ∀ {vs : List V} {ds : List D} (n : Nat), AtAll G vs ds → AtAll G (vs.drop n) (ds.drop n)
  | _, _, 0, h => h
  | _, _, n + 1, .nil => .nil
  | _, _, n + 1, .cons a b => AtAll.drop n b
theorem atAll_ints {G : Hp} : ∀ {vs : List V} {zs : List Int}, AtAll G vs (zs.map D.int) → vs = zs.map V.int
  | _, [], .nil => rfl
  | _, z :: zs, .cons (.int _) t => by rw [List.map_cons, atAll_ints t]
theorem ints_atAll {G : Hp} : ∀ (zs : List Int), AtAll G (zs.map V.int) (zs.map D.int)
  | [] => .nil
  | z :: zs => .cons (.int z) (ints_atAll zs)
theorem bls_atAll {G : Hp} : ∀ {vs : List V} {zs : List Bool}, AtAll G vs (zs.map D.bl) → vs = zs.map V.bl
  | _, [], .nil => rfl
  | _, z :: zs, .cons (.bl _) t => by rw [List.map_cons, bls_atAll t]
theorem strs_atAll {G : Hp} : ∀ {vs : List V} {zs : List Str}, AtAll G vs (zs.map D.str) → vs = zs.map V.str
  | _, [], .nil => rfl
  | _, z :: zs, .cons (.str _) t => by rw [List.map_cons, strs_atAll t]

/-! ### steps -/
/-- G, H to G', H': what was told stays; of what stood only S may change; nothing that stood untold is told -/
structure Stp (S : Addr → Prop) (G H G' H' : Hp) : Prop where
  gs : Same G G'
  hs : ∀ b u, H b = some u → ¬ S b → H' b = some u
  al : ∀ b, H b ≠ none → H' b ≠ none
  gn : ∀ b, G b = none → H b ≠ none → G' b = none
theorem Stp.refl {S : Addr → Prop} {G H : Hp} : Stp S G H G H := ⟨.refl _, fun _ _ h _ => h, fun _ h => h, fun _ h _ => h⟩
theorem Stp.trans {S : Addr → Prop} {G H G1 H1 G2 H2 : Hp} (a : Stp S G H G1 H1) (b : Stp S G1 H1 G2 H2) : Stp S G H G2 H2 :=
  ⟨a.gs.trans b.gs, fun x u e n => b.hs x u (a.hs x u e n) n, fun x e => b.al x (a.al x e), fun x e h => b.gn x (a.gn x e h) (a.al x h)⟩
theorem Stp.mono {S S' : Addr → Prop} {G H G' H' : Hp} (h : ∀ a, S a → S' a) (a : Stp S G H G' H') : Stp S' G H G' H' :=
  ⟨a.gs, fun x u e n => a.hs x u e fun z => n (h x z), a.al, a.gn⟩
abbrev S0 : Addr → Prop := fun _ => False
theorem Stp.zero {S : Addr → Prop} {G H G' H' : Hp} (a : Stp S0 G H G' H') : Stp S G H G' H' := a.mono fun _ z => z.elim
theorem Stp.new {S : Addr → Prop} {G H : Hp} {p : Addr} {o : HO} (sm : Same G H) (n : H p = none) : Stp S G H (upd G p o) (upd H p o) :=
  ⟨same_upd (sm.free n), fun b u e _ => by rw [upd_ne (ne_of_none e n)]; exact e, fun b e => by
    by_cases z : b = p
    · rw [z, upd_same]; exact fun q => nomatch q
    · rw [upd_ne z]; exact e, fun b e h => by
    rw [upd_ne (fun z => h (by rw [z]; exact n))]; exact e⟩
/-- something stands that is not told -/
theorem Stp.grow {S : Addr → Prop} {G H H' : Hp} (s : Same H H') : Stp S G H G H' :=
  ⟨.refl _, fun b u e _ => s b u e, fun b e z => e (s.free z), fun b e _ => e⟩
theorem Stp.same {G H G' H' : Hp} (a : Stp S0 G H G' H') : Same H H' := fun b u e => a.hs b u e fun z => z
theorem upd_same2 {G H : Hp} {p : Addr} {o : HO} (s : Same G H) : Same (upd G p o) (upd H p o) := fun b u e => by
  by_cases z : b = p
  · subst z
    rw [upd_same] at e ⊢
    exact e
  · rw [upd_ne z] at e ⊢
    exact s b u e

/-- as Stp; but only of what stood at the entry (O) -/
structure StB (O S : Addr → Prop) (G H G' H' : Hp) : Prop where
  gs : Same G G'
  hs : ∀ b u, O b → H b = some u → ¬ S b → H' b = some u
  al : ∀ b, H b ≠ none → H' b ≠ none
  gn : ∀ b, O b → G b = none → G' b = none
theorem StB.refl {O S : Addr → Prop} {G H : Hp} : StB O S G H G H := ⟨.refl _, fun _ _ _ h _ => h, fun _ h => h, fun _ _ h => h⟩
theorem StB.trans {O S : Addr → Prop} {G H G1 H1 G2 H2 : Hp} (a : StB O S G H G1 H1) (b : StB O S G1 H1 G2 H2) : StB O S G H G2 H2 :=
  ⟨a.gs.trans b.gs, fun x u o e n => b.hs x u o (a.hs x u o e n) n, fun x e => b.al x (a.al x e), fun x o e => b.gn x o (a.gn x o e)⟩
theorem Stp.toB {O S : Addr → Prop} {G H G' H' : Hp} (a : Stp S G H G' H') (o : ∀ b, O b → H b ≠ none) : StB O S G H G' H' :=
  ⟨a.gs, fun b u _ => a.hs b u, a.al, fun b q e => a.gn b e (o b q)⟩
theorem StB.full {S : Addr → Prop} {G H G' H' : Hp} (a : StB (fun b => H b ≠ none) S G H G' H') : Stp S G H G' H' :=
  ⟨a.gs, fun b u e => a.hs b u (by rw [e]; exact fun z => nomatch z) e, a.al, fun b e q => a.gn b q e⟩
theorem StB.old {O S : Addr → Prop} {G H G' H' : Hp} (a : StB O S G H G' H') (o : ∀ b, O b → H b ≠ none) : ∀ b, O b → H' b ≠ none := fun b q => a.al b (o b q)

/-- what stood at the entry, the generator's states -/
structure Tr where
  O : Addr → Prop
  S : Addr → Prop
  F : Addr → HO → Prop := fun _ _ => False
/-! ### slots -/
/-- an own object: a dict keyed by ints and texts, one keyed by tuples, a tuple -/
inductive Oo where
  | dK (kvs : List (Key × V))
  | dT (kvs : List (List Key × V))
  | tp (xs : List V)
  | dct (a : Addr) (o : Obj) (kvs : List (List Key × Addr × V)) (ds : List D)
  | ins (C dx : Addr) (fs : List (Str × V)) (ds : List D)
def Oo.ho : Oo → HO
  | .dK kvs => .dK kvs
  | .dT kvs => .dT kvs
  | .tp xs => .tup xs
  | .dct a o _ _ => DObj a o
  | .ins C dx fs _ => .ins C dx fs
/-- what an own object holds, as data -/
def OwR (G : Hp) : Oo → Prop
  | .dct a o kvs ds => DRaw Tb.kw a o kvs ∧ (∀ p ∈ kvs, TupR G p.2.1 (p.1.map kV) (p.1.map kyD)) ∧ AtAll G (kvs.map (·.2.2)) ds
  | .ins _ _ fs ds => AtAll G (fs.map (·.2)) ds
  | _ => True
theorem OwR.same {G G' : Hp} (k : Same G G') : ∀ {u : Oo}, OwR G u → OwR G' u
  | .dct _ _ _ _, h => ⟨h.1, fun p hp => (h.2.1 p hp).same k, AtAll.same k h.2.2⟩
  | .ins _ _ _ _, h => AtAll.same k h
  | .dK _, h => h
  | .dT _, h => h
  | .tp _, h => h
theorem Oo.nl {u : Oo} {xs : List V} (h : some (HO.lst xs) = some u.ho) : False := by
  cases u <;> exact nomatch h
theorem Oo.nr {u : Oo} {xs : List V} (h : some u.ho = some (HO.lst xs)) : False := Oo.nl h.symm
inductive Sl where
  | no
  | fx (v : V)
  | da (d : D)
  | st (a : Addr)
  | ow (a : Addr) (ds : List D)
  | od (a : Addr) (u : Oo)
  | fz (a : Addr) (ds : List D)
/-- a dict of such keys, each with True -/
def dTru (ks : List Int) : Oo := .dK (ks.map fun k => (Sum.inl k, V.bl true))
def dTrue (ks : List Int) : HO := (dTru ks).ho
def SlR (T : Tr) (G H : Hp) : Sl → Option V → Prop
  | .no, _ => True
  | .fx v, o => o = some v
  | .da d, o => ∃ v, o = some v ∧ At G v d
  | .st a, o => o = some (.ref a) ∧ T.S a ∧ ¬ Tb.U a
  | .ow a ds, o => o = some (.ref a) ∧ (¬ T.S a ∧ ¬ T.O a) ∧ G a = none ∧ ∃ xs, H a = some (.lst xs) ∧ AtAll G xs ds
  | .od a ks, o => o = some (.ref a) ∧ (¬ T.S a ∧ ¬ T.O a) ∧ G a = none ∧ H a = some ks.ho ∧ OwR G ks
  | .fz a ds, o => o = some (.ref a) ∧ ∃ ob xs, G a = some (.frz ob (.tup xs)) ∧ ob.dict = none ∧ AtAll G xs ds
/-- the generator's states -/
def StO (S : Addr → Prop) (G H : Hp) : Prop := ∀ a, S a → G a = none ∧ ∃ o, H a = some o ∧ Mo a G o
theorem StO.step {S S' : Addr → Prop} {G H G' H' : Hp} (en : StO S G H) (st : Stp S' G H G' H') (so : StO S' G' H') : StO S G' H' := fun a h => by
  obtain ⟨g, o, e, mo⟩ := en a h
  by_cases q : S' a
  · exact so a q
  · exact ⟨st.gn a g (by rw [e]; exact fun z => nomatch z), o, st.hs a _ e q, mo.same st.gs⟩
theorem sto0 {G H : Hp} : StO S0 G H := fun _ z => z.elim
structure Ens (T : Tr) (G H : Hp) (δ : List Sl) (σ : L2.St) : Prop where
  same : Same G H
  len : δ.length = σ.length
  get : ∀ (i : Nat) (s : Sl), δ[i]? = some s → ∃ o, σ[i]? = some o ∧ SlR T G H s o
  stt : StO T.S G H
  old : ∀ b, T.O b → H b ≠ none
  inv : ∀ b u, T.F b u → H b = some u ∧ ¬ T.S b ∧ T.O b
  nd : ∀ (i j : Nat) (a : Addr) (ds es : List D), δ[i]? = some (.ow a ds) → δ[j]? = some (.ow a es) → i = j
  nd2 : ∀ (i j : Nat) (a : Addr) (ds es : Oo), δ[i]? = some (.od a ds) → δ[j]? = some (.od a es) → i = j
theorem Ens.step {T : Tr} {S' : Addr → Prop} {G H G' H' : Hp} {δ : List Sl} {σ : L2.St} (en : Ens T G H δ σ) (st : Stp S' G H G' H') (hS : ∀ a, S' a → T.S a)
    (sm : Same G' H') (so : StO S' G' H') : Ens T G' H' δ σ := by
  refine ⟨sm, en.len, fun i s e => ?_, en.stt.step st so, fun b q => st.al b (en.old b q), fun b u q => ⟨st.hs b u (en.inv b u q).1 fun z => (en.inv b u q).2.1 (hS b z), (en.inv b u q).2⟩, en.nd, en.nd2⟩
  obtain ⟨o, e1, r⟩ := en.get i s e
  refine ⟨o, e1, ?_⟩
  cases s with
  | no => trivial
  | fx v => exact r
  | da d =>
    obtain ⟨v, e2, a⟩ := r
    exact ⟨v, e2, a.same st.gs⟩
  | fz a ds =>
    obtain ⟨r1, ob, xs, r2, r3, r4⟩ := r
    exact ⟨r1, ob, xs, st.gs _ _ r2, r3, r4.same st.gs⟩
  | st a => exact r
  | ow a ds =>
    obtain ⟨r1, r2, r3, xs, r4, r5⟩ := r
    refine ⟨r1, r2, st.gn a r3 (by rw [r4]; exact fun z => nomatch z), xs, st.hs a _ r4 (fun z => r2.1 (hS a z)), r5.same st.gs⟩
  | od a ks =>
    obtain ⟨r1, r2, r3, r4, r5⟩ := r
    exact ⟨r1, r2, st.gn a r3 (by rw [r4]; exact fun z => nomatch z), st.hs a _ r4 (fun z => r2.1 (hS a z)), r5.same st.gs⟩
theorem Ens.step0 {T : Tr} {G H G' H' : Hp} {δ : List Sl} {σ : L2.St} (en : Ens T G H δ σ) (st : Stp S0 G H G' H') (sm : Same G' H') : Ens T G' H' δ σ :=
  en.step st (fun _ z => z.elim) sm sto0
theorem get_set {α : Type} {l : List α} {i j : Nat} {x y : α} (h : (l.set i x)[j]? = some y) : (j = i ∧ y = x) ∨ (j ≠ i ∧ l[j]? = some y) := by
  by_cases e : j = i
  · subst e
    by_cases lt : j < l.length
    · rw [List.getElem?_set_self lt] at h
      exact .inl ⟨rfl, (Option.some.inj h).symm⟩
    · rw [List.getElem?_eq_none (by rw [List.length_set]; omega)] at h
      exact nomatch h
  · rw [List.getElem?_set_ne (fun z => e z.symm)] at h
    exact .inr ⟨e, h⟩
theorem Ens.setD {T : Tr} {G H : Hp} {δ : List Sl} {σ : L2.St} (en : Ens T G H δ σ) {i : Nat} {v : V} {d : D} (a : At G v d) : Ens T G H (δ.set i (.da d)) (σ.set i (some v)) := by
  refine ⟨en.same, by rw [List.length_set, List.length_set]; exact en.len, fun j s e => ?_, en.stt, en.old, en.inv, fun j k a ds es e1 e2 => ?_, fun j k a ds es e1 e2 => ?_⟩
  · rcases get_set e with ⟨rfl, rfl⟩ | ⟨ne, e⟩
    · have lt : j < σ.length := by
        rw [← en.len]
        have := (List.getElem?_eq_some_iff.mp e).1
        rw [List.length_set] at this
        exact this
      exact ⟨some v, List.getElem?_set_self lt, v, rfl, a⟩
    · obtain ⟨o, e1, r⟩ := en.get j s e
      exact ⟨o, by rw [List.getElem?_set_ne (fun z => ne z.symm)]; exact e1, r⟩
  · rcases get_set e1 with ⟨_, z⟩ | ⟨_, e1⟩
    · exact nomatch z
    · rcases get_set e2 with ⟨_, z⟩ | ⟨_, e2⟩
      · exact nomatch z
      · exact en.nd j k a ds es e1 e2
  · rcases get_set e1 with ⟨_, z⟩ | ⟨_, m1⟩
    · exact nomatch z
    · rcases get_set e2 with ⟨_, z⟩ | ⟨_, m2⟩
      · exact nomatch z
      · exact en.nd2 j k a ds es m1 m2
theorem Ens.forget {T : Tr} {G H : Hp} {δ : List Sl} {σ : L2.St} (en : Ens T G H δ σ) {i : Nat} {o : Option V} : Ens T G H (δ.set i .no) (σ.set i o) := by
  refine ⟨en.same, by rw [List.length_set, List.length_set]; exact en.len, fun j s e => ?_, en.stt, en.old, en.inv, fun j k a ds es e1 e2 => ?_, fun j k a ds es e1 e2 => ?_⟩
  · rcases get_set e with ⟨rfl, rfl⟩ | ⟨ne, e⟩
    · have lt : j < σ.length := by
        rw [← en.len]
        have := (List.getElem?_eq_some_iff.mp e).1
        rw [List.length_set] at this
        exact this
      exact ⟨o, List.getElem?_set_self lt, trivial⟩
    · obtain ⟨o, e1, r⟩ := en.get j s e
      exact ⟨o, by rw [List.getElem?_set_ne (fun z => ne z.symm)]; exact e1, r⟩
  · rcases get_set e1 with ⟨_, z⟩ | ⟨_, e1⟩
    · exact nomatch z
    · rcases get_set e2 with ⟨_, z⟩ | ⟨_, e2⟩
      · exact nomatch z
      · exact en.nd j k a ds es e1 e2
  · rcases get_set e1 with ⟨_, z⟩ | ⟨_, m1⟩
    · exact nomatch z
    · rcases get_set e2 with ⟨_, z⟩ | ⟨_, m2⟩
      · exact nomatch z
      · exact en.nd2 j k a ds es m1 m2
/-- a list that a slot owns is told from now on -/
theorem Ens.freeze {T : Tr} {G H : Hp} {δ : List Sl} {σ : L2.St} (en : Ens T G H δ σ) {i : Nat} {a : Addr} {ds : List D} (e : δ[i]? = some (.ow a ds)) :
    ∃ G', Same G G' ∧ (∀ b, b ≠ a → G' b = G b) ∧ Ens T G' H (δ.set i (.da (.lst ds))) σ := by
  obtain ⟨o, e1, rfl, nS, gn, xs, hx, al⟩ := en.get i _ e
  have k : Same G (upd G a (.lst xs)) := same_upd gn
  refine ⟨upd G a (.lst xs), k, fun b nb => upd_ne nb, fun b u z => ?_, by rw [List.length_set]; exact en.len, fun j s z => ?_, fun b hb => ?_, en.old, en.inv, fun j l b es fs z1 z2 => ?_, fun j l b es fs z1 z2 => ?_⟩
  · by_cases q : b = a
    · subst q
      rw [upd_same] at z
      rw [← z]
      exact hx
    · rw [upd_ne q] at z
      exact en.same b u z
  · rcases get_set z with ⟨rfl, rfl⟩ | ⟨ne, z⟩
    · exact ⟨_, e1, _, rfl, .lst upd_same (al.same k)⟩
    · obtain ⟨o, e2, r⟩ := en.get j s z
      refine ⟨o, e2, ?_⟩
      cases s with
      | no => trivial
      | fx v => exact r
      | da d =>
        obtain ⟨v, q1, q2⟩ := r
        exact ⟨v, q1, q2.same k⟩
      | fz b es =>
        obtain ⟨r1, ob, ys, r2, r3, r4⟩ := r
        exact ⟨r1, ob, ys, k _ _ r2, r3, r4.same k⟩
      | st b => exact r
      | ow b es =>
        obtain ⟨r1, r2, r3, ys, r4, r5⟩ := r
        have nb : b ≠ a := fun q => ne (by subst q; exact en.nd j i b es ds z e)
        exact ⟨r1, r2, by rw [upd_ne nb]; exact r3, ys, r4, r5.same k⟩
      | od b ks =>
        obtain ⟨r1, r2, r3, r4, r5⟩ := r
        have nb : b ≠ a := fun q => by rw [q, hx] at r4; exact Oo.nl r4
        exact ⟨r1, r2, by rw [upd_ne nb]; exact r3, r4, r5.same k⟩
  · obtain ⟨g, o, e, mo⟩ := en.stt b hb
    exact ⟨by rw [upd_ne (fun q => nS.1 (by rw [← q]; exact hb))]; exact g, o, e, mo.same k⟩
  · rcases get_set z1 with ⟨_, q⟩ | ⟨_, m1⟩
    · exact nomatch q
    · rcases get_set z2 with ⟨_, q⟩ | ⟨_, m2⟩
      · exact nomatch q
      · exact en.nd j l b es fs m1 m2
  · rcases get_set z1 with ⟨_, q⟩ | ⟨_, m1⟩
    · exact nomatch q
    · rcases get_set z2 with ⟨_, q⟩ | ⟨_, m2⟩
      · exact nomatch q
      · exact en.nd2 j l b es fs m1 m2
end Nv
/-! Nv, part Q: what must hold of the data so that a reading ends as wished. -/
namespace Nv
open PySem PySem.Spec PyProof.Rows L2
variable [Tb] [Ls]

/-- what is wished of an error (E), which errors may come with which what (X), the generator's states (S) -/
structure Rg where
  E : XK
  X : Addr → D → Prop
  T : Tr
def Rz (R : Rg) (G H : Hp) : Prop := ∀ C dd w d G' H', StB R.T.O R.T.S G H G' H' → H' dd = some (.xd (whatF w)) → At G' w d → R.X C d → Same G' H' → StO R.T.S G' H' → R.E (.ref C) (some dd) H'
theorem Rz.stepB {R : Rg} {G H G' H' : Hp} (r : Rz R G H) (s : StB R.T.O R.T.S G H G' H') : Rz R G' H' := fun C dd w d G2 H2 s2 => r C dd w d G2 H2 (s.trans s2)
theorem rz0 {T : Tr} {E : XK} {G H : Hp} : Rz ⟨E, fun _ _ => False, T⟩ G H := fun _ _ _ _ _ _ _ _ _ z _ _ => z.elim

def WpE (R : Rg) (te : TE) (δ : List Sl) (φ : D → Prop) : Prop := ∀ σ G H, Ens R.T G H δ σ → Rz R G H → ∀ Q : VK,
  (∀ v d G' H', Stp R.T.S G H G' H' → Ens R.T G' H' δ σ → At G' v d → φ d → Q v H') → te σ H Q
def WpT (R : Rg) (tt : TT) (δ : List Sl) (φ : Bool → Prop) : Prop := ∀ σ G H, Ens R.T G H δ σ → Rz R G H → ∀ Q : Bool → Hp → Prop,
  (∀ b G' H', Stp R.T.S G H G' H' → Ens R.T G' H' δ σ → φ b → Q b H') → tt σ H Q
def ArgR (S : Addr → Prop) (G : Hp) : Sl → V → Prop
  | .da d, v => At G v d
  | .st a, v => v = .ref a ∧ S a ∧ ¬ Tb.U a
  | .fz a ds, v => v = .ref a ∧ ∃ ob xs, G a = some (.frz ob (.tup xs)) ∧ ob.dict = none ∧ AtAll G xs ds
  | _, _ => False
inductive Args (S : Addr → Prop) (G : Hp) : List Sl → List V → Prop
  | nil : Args S G [] []
  | cons {s : Sl} {v : V} {as : List Sl} {vs : List V} : ArgR S G s v → Args S G as vs → Args S G (s :: as) (v :: vs)
theorem ArgR.same {S : Addr → Prop} {G G' : Hp} (k : Same G G') : ∀ {s : Sl} {v : V}, ArgR S G s v → ArgR S G' s v
  | .da _, _, h => At.same k h
  | .st _, _, h => h
  | .no, _, h => h.elim
  | .fx _, _, h => h.elim
  | .ow _ _, _, h => h.elim
  | .od _ _, _, h => h.elim
  | .fz _ _, _, ⟨h, ob, xs, e, d, al⟩ => ⟨h, ob, xs, k _ _ e, d, AtAll.same k al⟩
theorem Args.same {S : Addr → Prop} {G G' : Hp} (k : Same G G') : ∀ {as : List Sl} {vs : List V}, Args S G as vs → Args S G' as vs
  | _, _, .nil => .nil
  | _, _, .cons a b => .cons (ArgR.same k a) (Args.same k b)
theorem Args.length {S : Addr → Prop} {G : Hp} : ∀ {as : List Sl} {vs : List V}, Args S G as vs → as.length = vs.length
  | _, _, .nil => rfl
  | _, _, .cons _ b => congrArg Nat.succ (Args.length b)
theorem Args.get {S : Addr → Prop} {G : Hp} : ∀ {as : List Sl} {vs : List V}, Args S G as vs → ∀ {i : Nat} {s : Sl}, as[i]? = some s → ∃ v, vs[i]? = some v ∧ ArgR S G s v
  | _, _, .nil, i, s, h => by simp at h
  | _, _, .cons (v := v) a b, 0, s, h => by
    simp at h
    subst h
    exact ⟨v, rfl, a⟩
  | _, _, .cons a b, i + 1, s, h => by simpa using Args.get b (i := i) (s := s) (by simpa using h)
theorem Args.das {S : Addr → Prop} {G : Hp} : ∀ {ds : List D} {vs : List V}, Args S G (ds.map Sl.da) vs → AtAll G vs ds
  | [], _, .nil => .nil
  | _ :: _, _, .cons a b => .cons a (Args.das b)
def WpA (R : Rg) (t : TA) (δ : List Sl) (φ : List Sl → Prop) : Prop := ∀ σ G H, Ens R.T G H δ σ → Rz R G H → ∀ Q : List V → Hp → Prop,
  (∀ vs as G' H', Stp R.T.S G H G' H' → Ens R.T G' H' δ σ → Args R.T.S G' as vs → φ as → Q vs H') → t σ H Q
def WpS (R : Rg) (ts : TS) (δ : List Sl) (Φ : List Sl → Prop) (Ψ : D → Prop) : Prop := ∀ σ G H, Ens R.T G H δ σ → Rz R G H → ∀ Z : Ends,
  (∀ δ' σ' G' H', StB R.T.O R.T.S G H G' H' → Ens R.T G' H' δ' σ' → Φ δ' → Z.nx σ' H') →
  (∀ v d G' H', StB R.T.O R.T.S G H G' H' → Same G' H' → StO R.T.S G' H' → At G' v d → Ψ d → Z.rt v H') → ts Z σ H
/-- an operation on values -/
def OpD (r : R2) (x y : D) (φ : D → Prop) : Prop := ∀ G H v w, Same G H → At G v x → At G w y → ∀ Q : VK,
  (∀ z d G' H', Stp S0 G H G' H' → Same G' H' → At G' z d → φ d → Q z H') → r v w H Q
def UnD (r : V → Hp → VK → Prop) (x : D) (φ : D → Prop) : Prop := ∀ G H v, Same G H → At G v x → ∀ Q : VK,
  (∀ z d G' H', Stp S0 G H G' H' → Same G' H' → At G' z d → φ d → Q z H') → r v H Q
def CbD (r : List V → Hp → VK → Prop) (xs : List D) (φ : D → Prop) : Prop := ∀ G H vs, Same G H → AtAll G vs xs → ∀ Q : VK,
  (∀ z d G' H', Stp S0 G H G' H' → Same G' H' → At G' z d → φ d → Q z H') → r vs H Q

section
variable {R : Rg} {δ : List Sl} {te ta tb tc : TE} {t u : TT} {tr : TA} {φ : D → Prop}
theorem wpe_mono {ψ : D → Prop} (h : WpE R te δ φ) (m : ∀ d, φ d → ψ d) : WpE R te δ ψ := fun σ G H en rz Q q => h σ G H en rz Q fun v d G' H' a b c e => q v d G' H' a b c (m d e)
theorem wpt_mono {φ ψ : Bool → Prop} (h : WpT R t δ φ) (m : ∀ d, φ d → ψ d) : WpT R t δ ψ := fun σ G H en rz Q q => h σ G H en rz Q fun b G' H' a c e => q b G' H' a c (m b e)
theorem wpe_var {i : Nat} {d : D} (e : δ[i]? = some (.da d)) (q : φ d) : WpE R (tVar i) δ φ := fun σ G H en rz Q k => by
  obtain ⟨o, e1, v, rfl, a⟩ := en.get i _ e
  exact ⟨v, e1, k v d G H .refl en a q⟩
theorem wpe_int {i : Int} (q : φ (.int i)) : WpE R (tC (.int i)) δ φ := fun σ G H en rz Q k => k _ _ G H .refl en (.int i) q
theorem wpe_bl {b : Bool} (q : φ (.bl b)) : WpE R (tC (.bl b)) δ φ := fun σ G H en rz Q k => k _ _ G H .refl en (.bl b) q
theorem wpe_str {x : Str} (q : φ (.str x)) : WpE R (tC (.str x)) δ φ := fun σ G H en rz Q k => k _ _ G H .refl en (.str x) q
theorem wpe_non (q : φ .non) : WpE R (tC .non) δ φ := fun σ G H en rz Q k => k _ _ G H .refl en .non q
theorem wpe_op {r : R2} (h : WpE R ta δ fun x => WpE R tb δ fun y => OpD r x y φ) : WpE R (tOp r ta tb) δ φ := fun σ G H en rz Q k =>
  h σ G H en rz _ fun v x G1 H1 s1 e1 a1 h1 => h1 σ G1 H1 e1 (rz.stepB (s1.toB en.old)) _ fun w y G2 H2 s2 e2 a2 h2 =>
    h2 G2 H2 v w e2.same (a1.same s2.gs) a2 Q fun z d G3 H3 s3 sm a3 q => k z d G3 H3 ((s1.trans s2).trans s3.zero) (e2.step0 s3 sm) a3 q
theorem wpe_un {r : V → Hp → VK → Prop} (h : WpE R ta δ fun x => UnD r x φ) : WpE R (tUn r ta) δ φ := fun σ G H en rz Q k =>
  h σ G H en rz _ fun v x G1 H1 s1 e1 a1 h1 => h1 G1 H1 v e1.same a1 Q fun z d G3 H3 s3 sm a3 q => k z d G3 H3 (s1.trans s3.zero) (e1.step0 s3 sm) a3 q
theorem wpe_chain {r r' : R2} (h : WpE R ta δ fun x => WpE R tb δ fun y => OpD r x y fun z => ∃ k, z = .bl k ∧ (if k = true then WpE R tc δ fun w => OpD r' y w φ else φ (.bl false))) :
    WpE R (tChain r r' ta tb tc) δ φ := fun σ G H en rz Q k =>
  h σ G H en rz _ fun v x G1 H1 s1 e1 a1 h1 => h1 σ G1 H1 e1 (rz.stepB (s1.toB en.old)) _ fun w y G2 H2 s2 e2 a2 h2 =>
    h2 G2 H2 v w e2.same (a1.same s2.gs) a2 _ fun z d G3 H3 s3 sm a3 ⟨b, eb, q⟩ => by
      subst eb
      cases a3
      have e3 := e2.step0 s3 sm
      refine ⟨b, rfl, ?_⟩
      cases b with
      | false => exact iteF (k _ _ G3 H3 ((s1.trans s2).trans s3.zero) e3 (.bl false) q)
      | true =>
        refine iteT ?_
        exact q σ G3 H3 e3 (rz.stepB (((s1.trans s2).trans s3.zero).toB en.old)) _ fun w' d' G4 H4 s4 e4 a4 h4 =>
          h4 G4 H4 w w' e4.same ((a2.same s3.gs).same s4.gs) a4 Q fun z' d'' G5 H5 s5 sm5 a5 q5 =>
            k z' d'' G5 H5 ((((s1.trans s2).trans s3.zero).trans s4).trans s5.zero) (e4.step0 s5 sm5) a5 q5
theorem wpt_test {φ : Bool → Prop} (h : WpE R te δ fun d => ∃ b, d = .bl b ∧ φ b) : WpT R (tTest te) δ φ := fun σ G H en rz Q k =>
  h σ G H en rz _ fun v x G1 H1 s1 e1 a1 ⟨b, eb, q⟩ => by
    subst eb
    cases a1
    exact ⟨b, rfl, k b G1 H1 s1 e1 q⟩
theorem wpt_B {φ : Bool → Prop} (h : WpE R te δ fun d => ∃ b, d = .bl b ∧ φ b) : WpT R (tB te) δ φ := fun σ G H en rz Q k =>
  h σ G H en rz _ fun v x G1 H1 s1 e1 a1 ⟨b, eb, q⟩ => by
    subst eb
    cases a1
    exact ⟨b, rfl, k b G1 H1 s1 e1 q⟩
theorem wpt_not {φ : Bool → Prop} (h : WpT R t δ fun b => φ (!b)) : WpT R (tNot t) δ φ := fun σ G H en rz Q k =>
  h σ G H en rz _ fun b G1 H1 s1 e1 q => k (!b) G1 H1 s1 e1 q
theorem wpt_and {φ : Bool → Prop} (h : WpT R t δ fun b => if b = true then WpT R u δ φ else φ false) : WpT R (tAnd t u) δ φ := fun σ G H en rz Q k =>
  h σ G H en rz _ fun b G1 H1 s1 e1 q => by
    cases b with
    | false => exact iteF (k false G1 H1 s1 e1 q)
    | true => exact iteT (q σ G1 H1 e1 (rz.stepB (s1.toB en.old)) Q fun b G2 H2 s2 e2 q2 => k b G2 H2 (s1.trans s2) e2 q2)
theorem wpt_or {φ : Bool → Prop} (h : WpT R t δ fun b => if b = true then φ true else WpT R u δ φ) : WpT R (tOr t u) δ φ := fun σ G H en rz Q k =>
  h σ G H en rz _ fun b G1 H1 s1 e1 q => by
    cases b with
    | true => exact iteT (k true G1 H1 s1 e1 q)
    | false => exact iteF (WpT.elim_ q σ G1 H1 e1 (rz.stepB (s1.toB en.old)) Q fun b G2 H2 s2 e2 q2 => k b G2 H2 (s1.trans s2) e2 q2)
where WpT.elim_ {φ : Bool → Prop} (h : WpT R u δ φ) := h
theorem wpe_andV (h : WpE R ta δ fun x => ∃ b, x = .bl b ∧ (if b = true then WpE R tb δ φ else φ (.bl false))) : WpE R (tAndV ta tb) δ φ := fun σ G H en rz Q k =>
  h σ G H en rz _ fun v x G1 H1 s1 e1 a1 ⟨b, eb, q⟩ => by
    subst eb
    cases a1
    refine ⟨b, rfl, ?_⟩
    cases b with
    | false => exact iteF (k _ _ G1 H1 s1 e1 (.bl false) q)
    | true =>
      have q' : WpE R tb δ φ := q
      exact iteT (q' σ G1 H1 e1 (rz.stepB (s1.toB en.old)) Q fun w d G2 H2 s2 e2 a2 q2 => k w d G2 H2 (s1.trans s2) e2 a2 q2)
theorem wpe_orV (h : WpE R ta δ fun x => ∃ b, x = .bl b ∧ (if b = true then φ (.bl true) else WpE R tb δ φ)) : WpE R (tOrV ta tb) δ φ := fun σ G H en rz Q k =>
  h σ G H en rz _ fun v x G1 H1 s1 e1 a1 ⟨b, eb, q⟩ => by
    subst eb
    cases a1
    refine ⟨b, rfl, ?_⟩
    cases b with
    | true => exact iteT (k _ _ G1 H1 s1 e1 (.bl true) q)
    | false =>
      have q' : WpE R tb δ φ := q
      exact iteF (q' σ G1 H1 e1 (rz.stepB (s1.toB en.old)) Q fun w d G2 H2 s2 e2 a2 q2 => k w d G2 H2 (s1.trans s2) e2 a2 q2)
theorem wpe_notV (h : WpE R ta δ fun x => ∃ b, x = .bl b ∧ φ (.bl (!b))) : WpE R (tNotV ta) δ φ := fun σ G H en rz Q k =>
  h σ G H en rz _ fun v x G1 H1 s1 e1 a1 ⟨b, eb, q⟩ => by
    subst eb
    cases a1
    exact ⟨b, rfl, k _ _ G1 H1 s1 e1 (.bl _) q⟩
theorem wpe_if (h : WpT R t δ fun b => if b = true then WpE R ta δ φ else WpE R tb δ φ) : WpE R (tIf t ta tb) δ φ := fun σ G H en rz Q k =>
  h σ G H en rz _ fun b G1 H1 s1 e1 q => by
    cases b with
    | true =>
      have q' : WpE R ta δ φ := q
      exact iteT (q' σ G1 H1 e1 (rz.stepB (s1.toB en.old)) Q fun w d G2 H2 s2 e2 a2 q2 => k w d G2 H2 (s1.trans s2) e2 a2 q2)
    | false =>
      have q' : WpE R tb δ φ := q
      exact iteF (q' σ G1 H1 e1 (rz.stepB (s1.toB en.old)) Q fun w d G2 H2 s2 e2 a2 q2 => k w d G2 H2 (s1.trans s2) e2 a2 q2)
/-! arguments -/
theorem wpa_nil {φ : List Sl → Prop} (q : φ []) : WpA R tNil δ φ := fun σ G H en rz Q k => k [] [] G H .refl en .nil q
theorem wpa_cons {φ : List Sl → Prop} (h : WpE R te δ fun d => WpA R tr δ fun as => φ (.da d :: as)) : WpA R (tCons te tr) δ φ := fun σ G H en rz Q k =>
  h σ G H en rz _ fun v x G1 H1 s1 e1 a1 h1 => h1 σ G1 H1 e1 (rz.stepB (s1.toB en.old)) _ fun vs as G2 H2 s2 e2 a2 q =>
    k (v :: vs) (.da x :: as) G2 H2 (s1.trans s2) e2 (.cons (At.same s2.gs a1) a2) q
theorem wpa_st {φ : List Sl → Prop} {i : Nat} {a : Addr} (e : δ[i]? = some (.st a)) (h : WpA R tr δ fun as => φ (.st a :: as)) : WpA R (tCons (tVar i) tr) δ φ := fun σ G H en rz Q k => by
  obtain ⟨o, e1, rfl, hS⟩ := en.get i _ e
  exact ⟨_, e1, h σ G H en rz _ fun vs as G2 H2 s2 e2 a2 q => k (.ref a :: vs) (.st a :: as) G2 H2 s2 e2 (.cons ⟨rfl, hS⟩ a2) q⟩
theorem wpe_tup (h : WpA R tr δ fun as => ∃ ds : List D, as = ds.map Sl.da ∧ ds.length ≤ 1000 ∧ φ (.tup ds)) : WpE R (tTupF tr) δ φ := fun σ G H en rz Q k =>
  h σ G H en rz _ fun vs as G1 H1 s1 e1 a1 ⟨ds, e, l, q⟩ => by
    subst e
    have al := a1.das
    refine ⟨by rw [al.length]; exact Nat.le_trans l (by decide), fun p o hp hd => ?_⟩
    have s2 : Stp S0 G1 H1 (upd G1 p (TpO o vs)) (upd H1 p (TpO o vs)) := .new e1.same hp
    exact k _ _ _ _ (s1.trans s2.zero) (e1.step0 s2 (upd_same2 e1.same)) (.tup (.inl ⟨_, upd_same, hd⟩) (al.same s2.gs)) q
theorem wpe_lst (h : WpA R tr δ fun as => ∃ ds : List D, as = ds.map Sl.da ∧ ds.length ≤ 1000 ∧ φ (.lst ds)) : WpE R (tLst tr) δ φ := fun σ G H en rz Q k =>
  h σ G H en rz _ fun vs as G1 H1 s1 e1 a1 ⟨ds, e, l, q⟩ => by
    subst e
    have al := a1.das
    refine ⟨by rw [al.length]; exact Nat.le_trans l (by decide), fun p hp => ?_⟩
    have s2 : Stp S0 G1 H1 (upd G1 p (.lst vs)) (upd H1 p (.lst vs)) := .new e1.same hp
    exact k _ _ _ _ (s1.trans s2.zero) (e1.step0 s2 (upd_same2 e1.same)) (.lst upd_same (al.same s2.gs)) q
/-- a built-in function -/
theorem wpe_cb {r : List V → Hp → VK → Prop} (h : WpA R tr δ fun as => ∃ ds : List D, as = ds.map Sl.da ∧ CbD r ds φ) : WpE R (tCB r tr) δ φ := fun σ G H en rz Q k =>
  h σ G H en rz _ fun vs as G1 H1 s1 e1 a1 ⟨ds, e, q⟩ => by
    subst e
    exact q G1 H1 vs e1.same a1.das Q fun z d G3 H3 s3 sm a3 q => k z d G3 H3 (s1.trans s3.zero) (e1.step0 s3 sm) a3 q
end

/-! ### statements -/
section
variable {R : Rg} {δ : List Sl} {te : TE} {tt : TT} {t u : TS} {Φ : List Sl → Prop} {Ψ : D → Prop}
theorem wps_mono {Φ' : List Sl → Prop} {Ψ' : D → Prop} (h : WpS R t δ Φ Ψ) (m1 : ∀ d, Φ d → Φ' d) (m2 : ∀ d, Ψ d → Ψ' d) : WpS R t δ Φ' Ψ' := fun σ G H en rz Z k1 k2 =>
  h σ G H en rz Z (fun δ' σ' G' H' a b c => k1 δ' σ' G' H' a b (m1 _ c)) fun v d G' H' a b c e f => k2 v d G' H' a b c e (m2 _ f)
theorem wps_nil (q : Φ δ) : WpS R tNext δ Φ Ψ := fun σ G H en rz Z k1 k2 => k1 δ σ G H .refl en q
theorem wps_seq (h : WpS R t δ (fun δ' => WpS R u δ' Φ Ψ) Ψ) : WpS R (tSeq t u) δ Φ Ψ := fun σ G H en rz Z k1 k2 =>
  h σ G H en rz _ (fun δ' σ' G' H' sB e1 q => q σ' G' H' e1 (rz.stepB sB) Z (fun δ2 σ2 G2 H2 s2 e2 q2 => k1 δ2 σ2 G2 H2 (sB.trans s2) e2 q2)
    fun v d G2 H2 s2 sm so a q2 => k2 v d G2 H2 (sB.trans s2) sm so a q2) k2
theorem wps_ret (h : WpE R te δ Ψ) : WpS R (tRet te) δ Φ Ψ := fun σ G H en rz Z k1 k2 =>
  h σ G H en rz _ fun v d G1 H1 s1 e1 a q => k2 v d G1 H1 (s1.toB en.old) e1.same e1.stt a q
theorem wps_retN (q : Ψ .non) : WpS R tRetN δ Φ Ψ := fun σ G H en rz Z k1 k2 => k2 _ _ G H .refl en.same en.stt .non q
theorem wps_if (h : WpT R tt δ fun b => if b = true then WpS R t δ Φ Ψ else WpS R u δ Φ Ψ) : WpS R (tIfS tt t u) δ Φ Ψ := fun σ G H en rz Z k1 k2 =>
  h σ G H en rz _ fun b G1 H1 s1 e1 q => by
    have sB := s1.toB en.old
    cases b with
    | true =>
      have q' : WpS R t δ Φ Ψ := q
      exact iteT (q' σ G1 H1 e1 (rz.stepB (s1.toB en.old)) Z (fun δ2 σ2 G2 H2 s2 e2 q2 => k1 δ2 σ2 G2 H2 (sB.trans s2) e2 q2) fun v d G2 H2 s2 sm so a q2 => k2 v d G2 H2 (sB.trans s2) sm so a q2)
    | false =>
      have q' : WpS R u δ Φ Ψ := q
      exact iteF (q' σ G1 H1 e1 (rz.stepB (s1.toB en.old)) Z (fun δ2 σ2 G2 H2 s2 e2 q2 => k1 δ2 σ2 G2 H2 (sB.trans s2) e2 q2) fun v d G2 H2 s2 sm so a q2 => k2 v d G2 H2 (sB.trans s2) sm so a q2)
theorem wps_set {i : Nat} (h : WpE R te δ fun d => Φ (δ.set i (.da d))) : WpS R (tAsg te (gName i)) δ Φ Ψ := fun σ G H en rz Z k1 k2 =>
  h σ G H en rz _ fun v d G1 H1 s1 e1 a q => k1 _ _ G1 H1 (s1.toB en.old) (e1.setD a) q
theorem wps_drop (h : WpE R te δ fun _ => Φ δ) : WpS R (tDrop te) δ Φ Ψ := fun σ G H en rz Z k1 k2 =>
  h σ G H en rz _ fun v d G1 H1 s1 e1 a q => k1 _ _ G1 H1 (s1.toB en.old) e1 q
/-- from here on the list that the slot owns is told -/
theorem wps_freeze {i : Nat} {a : Addr} {ds : List D} (e : δ[i]? = some (.ow a ds)) (h : WpS R t (δ.set i (.da (.lst ds))) Φ Ψ) : WpS R t δ Φ Ψ := fun σ G H en rz Z k1 k2 => by
  obtain ⟨G', sm, oth, en'⟩ := en.freeze e
  obtain ⟨o, e1, rfl, nS, gn, xs, hx, al⟩ := en.get i _ e
  have sB : StB R.T.O R.T.S G H G' H := ⟨sm, fun b u _ z _ => z, fun b z => z, fun b q z => by rw [oth b (fun w => nS.2 (by rw [← w]; exact q))]; exact z⟩
  exact h σ G' H en' (rz.stepB sB) Z (fun δ' σ' G2 H2 s2 e2 q => k1 δ' σ' G2 H2 (sB.trans s2) e2 q) fun v d G2 H2 s2 a b c q => k2 v d G2 H2 (sB.trans s2) a b c q
end
end Nv
/-! Nv, part T: enumerate of a tuple. -/
namespace Nv
open PySem PySem.Spec PyProof.Rows L2
theorem meets_enumT (l : Addr) (items : Array Value) (n : Nat) (dct : Option Addr) (sl : Array (Option Value)) :
    Meets (Builtin.«enumerate.__new__» ⟨[.type "enumerate", .ref l], []⟩) (fun _ R s => s.heap.get? l = some { cls := .type "tuple", dict := dct, data := .seq items n, slots := sl } ∧
      R (.ok (.ret (.ref (s.heap.push { cls := .type "tuple_iterator", data := .fields #[.ref l, .int 0 0] }).objs.size)))
        { s with heap := (s.heap.push { cls := .type "tuple_iterator", data := .fields #[.ref l, .int 0 0] }).push { cls := .type "enumerate", data := .fields #[.none, .bool false, .ref s.heap.objs.size, rawInt 0, .none, .none] } }) :=
  .of_wp fun prog w A R s h => by
    obtain ⟨hp, g, d, tk, os⟩ := s
    obtain ⟨hl, h⟩ := h
    have hsub := sub_enumerate
    have tT : Heap.IsTuple (Shared.heap ⟨hp, g, d, tk, os⟩) l items := ⟨_, hl, rfl, n, rfl⟩
    wp_walk using AutoSeq1.wpAny_loadPart' hl
    refine wpAny_stack_any fun _ => wpAny_pure ?_
    split
    · rename_i c _ _ _ _ _
      cases (c == Value.type "enumerate")
      · wp_walk using AutoSeq1.wpAny_loadPart' hl, wpAny_pyIter_tuple tT
        exact ⟨_, rfl, h⟩
      · wp_walk using AutoSeq1.wpAny_loadPart' hl, wpAny_pyIter_tuple tT
        exact ⟨_, rfl, h⟩
    · wp_walk using AutoSeq1.wpAny_loadPart' hl, wpAny_pyIter_tuple tT
      exact ⟨_, rfl, h⟩
section
variable {prog : Program} {w : World} {A : Around} {E : Value → Shared → Prop} {s : Shared}
theorem call_enumT {l : Addr} {items : Array Value} {Q : Value → Shared → Prop} (hL : s.heap.IsTuple l items)
    (h : ∀ h', IsEnum h' (s.heap.objs.size + 1) s.heap.objs.size 0 .none → h'.IsTupleIter s.heap.objs.size l 0 → h'.objs.size = s.heap.objs.size + 2 → (∀ b o, s.heap.get? b = some o → h'.get? b = some o) →
      Q (.ref (s.heap.objs.size + 1)) { s with heap := h' }) :
    wpAny (model prog w) A (call (.type "enumerate") [.ref l]) Q E s := by
  obtain ⟨⟨c, dct, dt, sl⟩, hl, hc, n, hd⟩ := hL
  have hc' : c = .type "tuple" := hc
  have hd' : dt = .seq items n := hd
  subst hc' hd'
  refine callType_new F.called_enumerate (by decide) (F.typeCall_enumerate_1 _) (F.newCall_enumerate_1 _) (fun obj => F.args_object_init_2 obj _) F.entry_enumerate_new (meets_enumT l items n dct sl) ⟨hl, ?_⟩
  let h1 := s.heap.push { cls := .type "tuple_iterator", data := .fields #[.ref l, .int 0 0] }
  have hz : h1.objs.size = s.heap.objs.size + 1 := Heap.size_push ..
  have he : IsEnum (h1.push { cls := .type "enumerate", data := .fields #[.none, .bool false, .ref s.heap.objs.size, rawInt 0, .none, .none] }) (s.heap.objs.size + 1) s.heap.objs.size 0 .none := by
    have q := Heap.get?_push_size h1 (o := { cls := .type "enumerate", data := .fields #[.none, .bool false, .ref s.heap.objs.size, rawInt 0, .none, .none] }) rfl
    rw [hz] at q
    exact q
  show (∃ o, (h1.push _).get? h1.objs.size = some o ∧ _) ∧ Q (.ref h1.objs.size) _
  rw [hz]
  exact ⟨⟨_, he, rfl⟩, h _ he ⟨_, Heap.get?_push_of_some _ (Heap.get?_push_size _ rfl), rfl, rfl⟩ (by rw [Heap.size_push, hz]) fun b o x => Heap.get?_push_of_some _ (Heap.get?_push_of_some _ x)⟩
theorem draws_tuple (hh : A.handled = none) (it a : Addr) (ne : it ≠ a) (items : Array Value) :
    Draws prog w A it [it, a] items.size (fun i x => items[i]? = some x) (fun i h => h.IsTupleIter it a i ∧ h.IsTuple a items) where
  live := fun i h st => by
    obtain ⟨⟨o, e, _⟩, _⟩ := st
    exact ⟨o, e⟩
  frame := fun i h h' st k => ⟨st.1.at fun o e => k it (by simp) o e, st.2.at fun o e => k a (by simp) o e⟩
  item := fun i s Q E hi st hQ => RZ.nextOf_tuple_item st.1 st.2 (x := items[i]) (by simp [hi]) fun h' st' sb => hQ _ h' s.toks (by simp [hi])
    ⟨st', st.2.at fun o e => (sb.2 a (fun z => ne z.symm)).trans e⟩ sb
  done := fun s Q E st hE => RZ.nextOf_tuple_end hh st.1 st.2 (by simp) hE
end
/-- the tuple at a, each item in a new pair -/
def IteT (K : PySem.W.Frag) (a : Addr) : It where
  go := fun i H => ∃ (xs : List V) (x : V), SqT K H a xs ∧ xs[i]? = some x
  yld := fun i H v H' => ∃ T x, v = .ref T ∧ H T = none ∧ H' = upd H T (.tup [.int (i : Nat), x]) ∧ ∀ xs, SqT K H a xs → xs[i]? = some x
  stop := fun i H => ∃ xs : List V, SqT K H a xs ∧ xs.length ≤ i
theorem turn_enumT {P : Program} {w : World} {K : PySem.W.Frag} {elts : List Expr} {kk : Nat} {tpos : Pos} (a e it : Addr) :
    Turn P w K (.Tuple elts kk tpos) (IteT K a) [e, it] e (fun i h => (∃ old, IsEnum h e it ((i : Nat) : Int) old) ∧ h.IsTupleIter it a i ∧ e ≠ it ∧ e ≠ a ∧ it ≠ a) := by
  refine ⟨by simp, fun i h st b hb => ?_, fun i h h' st k => ?_, ?_, ?_, fun A i s Q E st h => ?_⟩
  · obtain ⟨⟨old, he⟩, ⟨o, ho, hc, hd⟩, _⟩ := st
    rcases List.mem_cons.mp hb with z | z
    · subst z
      exact ⟨_, he, fun v q => nomatch q⟩
    · rw [List.mem_singleton.mp z]
      exact ⟨o, ho, fun v q => nomatch hd.symm.trans q⟩
  · obtain ⟨⟨old, he⟩, hi, ne⟩ := st
    exact ⟨⟨old, k e (by simp) _ he⟩, hi.at fun o q => k it (by simp) o q, ne⟩
  · intro X hP hw hK hc i pins s σ H E I hf st hg
    subst hP hw hK
    obtain ⟨⟨old, he⟩, hit, n1, n2, n3⟩ := st
    obtain ⟨xs, x, hq, hx⟩ := hg
    obtain ⟨its, rv, p, hz⟩ := I.tuple hq
    obtain ⟨u, hu, ru⟩ := rv.get hx
    have hel : e < s.heap.objs.size := Heap.lt_size he
    have hil : it < s.heap.objs.size := by
      obtain ⟨_, q, _⟩ := hit
      exact Heap.lt_size q
    have D := draws_tuple (prog := X.prog) (w := X.w) (A := X.A.in1) (I.ok.hd hc) it a n3 its.toArray
    have lt : i < its.toArray.size := by
      rw [List.size_toArray]
      exact (List.getElem?_eq_some_iff.mp hu).1
    refine wpAny_pyNext_enum_itemD D he ⟨hit, p⟩ lt n1 (by simp [n1, n2]) fun u' h' tk hP ho hit' hT hsz hk => ?_
    have eu : u' = u := by
      have q : its[i]? = some u' := by simpa using hP
      rw [hu] at q
      exact (Option.some.inj q).symm
    subst eu
    refine ⟨_, rfl, wpAny_letOwnedTupleGo_enum (s := { s with heap := h', toks := tk + 1 }) ho fun h'' he' sb => ?_⟩
    have hT2 : h''.get? s.heap.objs.size = some { cls := .type "tuple", data := .seq #[.int i tk, u'] } := (sb.2 _ (Nat.ne_of_gt hel)).trans hT
    have new : ObjOk X.prog X.w (upd H s.heap.objs.size (.tup [.int (i : Nat), x])) h'' s.heap.objs.size (.tup [.int (i : Nat), x]) :=
      ⟨by show 2 ≤ sizeLine; decide, [.int i tk, u'], .cons ⟨_, rfl⟩ (.cons ru .nil), _, hT2, rfl, _, rfl⟩
    have I1 : Inv X pins σ (upd H s.heap.objs.size (.tup [.int (i : Nat), x])) { s with heap := h'', toks := tk + 1 } :=
      I.turnedNew (ch := [e, it]) (fun b ob hb q => (sb.2 b fun z => hb (by simp [z])).trans (hk b ob (fun z => hb (by simp [z])) (fun z => hb (by simp [z])) q)) hf (Nat.le_refl _) new
    refine ⟨.ref s.heap.objs.size, _, I1, rfl, ⟨_, x, rfl, I.hok.fresh (Nat.le_refl _), rfl, fun ys hy => ?_⟩, ⟨⟨u', ?_⟩, hit'.1.at fun o q => (sb.2 it (Ne.symm n1)).trans q, n1, n2, n3⟩, fun b hb => ?_⟩
    · rw [I.tuple_inj hy hq]
      exact hx
    · have e1 : ((i + 1 : Nat) : Int) = (i : Int) + 1 := by omega
      rw [e1]
      exact he'
    · have lb : b < s.heap.objs.size := by
        rcases List.mem_cons.mp hb with z | z
        · rw [z]; exact hel
        · rw [List.mem_singleton.mp z]; exact hil
      rw [upd_ne (Nat.ne_of_lt lb)]
      exact (hf b hb).1
  · intro X hP hw hK hc i pins s σ H E I hf st hg
    subst hP hw hK
    obtain ⟨⟨old, he⟩, hit, n1, n2, n3⟩ := st
    obtain ⟨xs, hq, hx⟩ := hg
    obtain ⟨its, rv, p, hz⟩ := I.tuple hq
    obtain ⟨f0, f1, f2, f3, f4, f5⟩ := hf it (by simp)
    have hl := rv.length
    have hT : s.TypeIs (.ref e) "enumerate" := ⟨_, he, rfl⟩
    unfold pyNext
    refine wpAny_bind (wpAny_attempt (wpAny_callSpecial?_slot (name := Str.ofString "__next__") hT F.slot_enumerate_next (wpAny_call_entry F.slot_enumerate_next hT F.entry_enumerate_next ?_ (F.args_enumerate_next_1 _))))
    show wpAny _ _ (field (.ref e) 2 >>= _) _ _ _
    refine wpAny_bind (wpAny_field he rfl (x := .ref it) rfl (wpAny_bind (RZ.nextOf_tuple_end (I.ok.hd hc) hit (show s.heap.IsTuple a its.toArray from p) (by simp; omega) fun h' y he' hx' => ?_)))
    obtain ⟨o, ho, hc⟩ := hx'
    refine wpAny_bind (wpAny_isInstance (T := "StopIteration") (b := true) ⟨o, ho, hc⟩ isSubtype_stop (wpAny_pure ⟨rfl, ?_⟩))
    exact I.turned (t' := s.toks) (fun b o hb q => he' b o hb q) f0 f1 f3 f4 f5
  · obtain ⟨⟨_, he⟩, _⟩ := st
    exact wpAny_pyIter_enum he h
def iEnumT (K : PySem.W.Frag) (ta : TA) : TI := fun σ H R => ta σ H fun vs H1 => ∃ a xs, vs = [.ref a] ∧ SqT K H1 a xs ∧ R (IteT K a) H1
theorem pi_enumT {X : Cx} {e : Expr} {ta : TA} {p pos tpos : Pos} {elts : List Expr} {kk : Nat} (hg : Gl X "enumerate") (hm : X.mg "enumerate" = none) (ha : PA X [e] ta)
    (hs : starEach [e] X.env = [(false, eval e X.env)] := by rfl) : PI X (.Tuple elts kk tpos) (.Call (.Name "enumerate" p) [e] [] pos) (iEnumT X.K ta) := by
  refine ⟨fun pins s σ H R I h => Call_ (ld_blt I hg hm boot_enumerate (PyProof.Rows.callWith_type1 (thn (ha.run pos pins s σ H _ I h) fun us s1 ⟨vs, H1, I1, r1, q1⟩ => ?_) hs rfl))⟩
  obtain ⟨a, xs, rfl, hq, q⟩ := q1
  obtain ⟨u, rfl, ru⟩ := vals1 r1
  cases ru
  obtain ⟨its, rv, p', hz⟩ := I1.tuple hq
  have la : a < s1.heap.objs.size := by
    obtain ⟨_, z, _⟩ := p'
    exact Heap.lt_size z
  refine call_enumT (show s1.heap.IsTuple a its.toArray from p') fun h' he hit hsz hk => wpAny_pyIter_enum he ?_
  have I2 : Inv X pins σ H1 { s1 with heap := h' } := I1.kept (t' := s1.toks) hk
  refine ⟨s1.heap.objs.size + 1, [s1.heap.objs.size + 1, s1.heap.objs.size], _, _, H1, rfl, I2, turn_enumT a (s1.heap.objs.size + 1) s1.heap.objs.size,
    ⟨⟨.none, he⟩, hit, Nat.succ_ne_self _, Nat.ne_of_gt (Nat.lt_succ_of_lt la), Nat.ne_of_gt la⟩, fun b hb => ?_, q⟩
  have hle : s1.heap.objs.size ≤ b := by
    rcases List.mem_cons.mp hb with z | z
    · rw [z]; exact Nat.le_add_right _ _
    · rw [List.mem_singleton.mp z]; exact Nat.le_refl _
  exact I1.fpOk hle (I1.hok.fresh hle)
end Nv
/-! Nv, part R: what is walked, targets, loops, comprehensions; a def's promise over data. -/
namespace Nv
open PySem PySem.Spec PyProof.Rows L2
variable [Tb] [Ls]

/-- J gives just ds, one a turn -/
def Wk (J : It) (ds : List D) (G : Hp) : Prop := ∀ G1 H1, Same G G1 → Same G1 H1 → (∀ i, i < ds.length → J.go i H1) ∧ J.stop ds.length H1 ∧
  ∀ i x H2, i < ds.length → J.yld i H1 x H2 → ∃ d G2, ds[i]? = some d ∧ Stp S0 G1 H1 G2 H2 ∧ Same G2 H2 ∧ At G2 x d
def WpI (R : Rg) (wi : TI) (δ : List Sl) (φ : List D → Prop) : Prop := ∀ σ G H, Ens R.T G H δ σ → Rz R G H → ∀ K : It → Hp → Prop,
  (∀ J ds G' H', Stp R.T.S G H G' H' → Ens R.T G' H' δ σ → Wk J ds G' → φ ds → K J H') → wi σ H K
/-- a target: only the slots js change -/
def WpG (R : Rg) (g : TG) (d : D) (δ : List Sl) (js : List Nat) (φ : List Sl → Prop) : Prop := ∀ σ G H v, Ens R.T G H δ σ → At G v d → ∀ Q : L2.St → Hp → Prop,
  (∀ σ2 δ2, Ens R.T G H δ2 σ2 → (∀ k, k ∉ js → σ2[k]? = σ[k]?) → σ2.length = σ.length → φ δ2 → Q σ2 H) → g v σ H Q
section
variable {R : Rg} {δ : List Sl}
theorem wpg_name {i : Nat} {d : D} {φ : List Sl → Prop} (q : φ (δ.set i (.da d))) : WpG R (gName i) d δ [i] φ := fun σ G H v en a Q k =>
  k _ _ (en.setD a) (fun j hj => List.getElem?_set_ne (fun z => hj (by simp [z]))) (by rw [List.length_set]) q
theorem wpg_pair {K : PySem.W.Frag} {i j : Nat} {d : D} {φ : List Sl → Prop} (q : ∃ x y, d = .tup [x, y] ∧ φ ((δ.set i (.da x)).set j (.da y))) :
    WpG R (gTup K 2 (gCons (gName i) (gCons (gName j) gNil))) d δ [i, j] φ := fun σ G H v en a Q k => by
  obtain ⟨x, y, rfl, q⟩ := q
  cases a with
  | tup h t =>
    cases t with
    | cons a1 t =>
      cases t with
      | cons a2 t =>
        cases t
        refine ⟨_, _, rfl, .inl (rdS en.same h.rd), rfl, _, _, rfl, _, _, rfl, rfl, ?_⟩
        exact k _ _ ((en.setD a1).setD a2) (fun l hl => by rw [List.getElem?_set_ne (fun z => hl (by simp [z])), List.getElem?_set_ne (fun z => hl (by simp [z]))]) (by rw [List.length_set, List.length_set]) q

theorem wps_for {wi : TI} {g : TG} {tb : TS} {js : List Nat} {Φ : List Sl → Prop} {Ψ : D → Prop}
    (h : WpI R wi δ fun ds => ∃ I : Nat → List Sl → Prop, I 0 δ ∧ (∀ i d δ', ds[i]? = some d → I i δ' → WpG R g d δ' js fun δ2 => WpS R tb δ2 (I (i + 1)) Ψ) ∧ ∀ δ', I ds.length δ' → Φ δ') :
    WpS R (tFor wi g tb) δ Φ Ψ := fun σ G H en rz Z k1 k2 => by
  refine h σ G H en rz _ fun J ds G1 H1 s1 e1 wk ⟨I, i0, step, fin⟩ => ?_
  refine ⟨fun i m σ' H' => m = ds.length - i ∧ i ≤ ds.length ∧ ∃ δ' G', StB R.T.O R.T.S G H G' H' ∧ Same G1 G' ∧ Ens R.T G' H' δ' σ' ∧ I i δ',
    ⟨_, rfl, Nat.zero_le _, δ, G1, s1.toB en.old, .refl _, e1, i0⟩, ?_⟩
  rintro i m σ' H' ⟨rfl, hi, δ', G', sB, sm, e', inv⟩
  obtain ⟨go, stop, yld⟩ := wk G' H' sm e'.same
  by_cases lt : i < ds.length
  · refine .inr ⟨go i lt, fun σ2 H2 => ∃ δ2 G2, StB R.T.O R.T.S G H G2 H2 ∧ Same G1 G2 ∧ Ens R.T G2 H2 δ2 σ2 ∧ I (i + 1) δ2, ?_, ?_⟩
    · rintro σ2 H2 ⟨δ2, G2, a, b, c, d⟩
      exact ⟨ds.length - (i + 1), by omega, rfl, lt, δ2, G2, a, b, c, d⟩
    · intro x H2 y
      obtain ⟨d, G2, ed, s2, sm2, at2⟩ := yld i x H2 lt y
      have e2 := e'.step0 s2 sm2
      have sB2 := sB.trans ((s2.zero (S := R.T.S)).toB e'.old)
      refine step i d δ' ed inv σ' G2 H2 x e2 at2 _ fun σ3 δ3 e3 _ _ w => ?_
      exact w σ3 G2 H2 e3 (rz.stepB sB2) _ (fun δ4 σ4 G4 H4 s4 e4 q => ⟨δ4, G4, sB2.trans s4, (sm.trans s2.gs).trans s4.gs, e4, q⟩) fun v dd G4 H4 s4 a b c q => k2 v dd G4 H4 (sB2.trans s4) a b c q
  · have e : i = ds.length := by omega
    subst e
    exact .inl ⟨stop, k1 δ' σ' G' H' sB e' (fin δ' inv)⟩

/-! ### comprehensions -/
def wipeD (δ : List Sl) : List Nat → List Sl
  | [] => δ
  | v :: vs => (wipeD δ vs).set v .no
theorem Ens.wipe {T : Tr} {G H : Hp} {σ : L2.St} (en : Ens T G H δ σ) : ∀ vs, Ens T G H (wipeD δ vs) (L2.wipe σ vs)
  | [] => en
  | v :: vs => (Ens.wipe en vs).forget
theorem wipe_get {σ : L2.St} {k : Nat} : ∀ {vs : List Nat}, (L2.wipe σ vs)[k]? = if k ∈ vs then (if k < σ.length then some none else none) else σ[k]?
  | [] => by simp [L2.wipe]
  | v :: vs => by
    unfold L2.wipe
    by_cases h : v = k
    · subst h
      rw [if_pos (by simp)]
      by_cases lt : v < σ.length
      · rw [List.getElem?_set_self (by rw [wipe_length]; exact lt), if_pos lt]
      · rw [List.getElem?_eq_none (by rw [List.length_set, wipe_length]; omega), if_neg lt]
    · rw [List.getElem?_set_ne h, wipe_get (vs := vs)]
      have e : (k ∈ v :: vs) ↔ k ∈ vs := by
        rw [List.mem_cons]
        exact ⟨fun z => z.resolve_left fun q => h q.symm, .inr⟩
      by_cases m : k ∈ vs
      · rw [if_pos m, if_pos (e.mpr m)]
      · rw [if_neg m, if_neg (fun z => m (e.mp z))]
theorem wipe_eq {σ σ2 : L2.St} {js vs : List Nat} (hj : ∀ j ∈ js, j ∈ vs) (h : ∀ k, k ∉ js → σ2[k]? = (L2.wipe σ vs)[k]?) (l : σ2.length = (L2.wipe σ vs).length) : L2.wipe σ2 vs = L2.wipe σ vs := by
  refine List.ext_getElem? fun k => ?_
  rw [wipe_get (σ := σ2)]
  rw [wipe_length] at l
  by_cases m : k ∈ vs
  · rw [if_pos m, l, wipe_get, if_pos m]
  · rw [if_neg m, h k (fun z => m (hj k z))]
theorem wpe_lc {wi : TI} {g : TG} {tt : TT} {te : TE} {vs js : List Nat} {φ : D → Prop} (hjs : ∀ j ∈ js, j ∈ vs)
    (h : WpI R wi δ fun ds => ds.length ≤ 100000 ∧ ∃ I : Nat → List D → Prop, I 0 [] ∧ (∀ i d acc, ds[i]? = some d → I i acc → acc.length ≤ i → WpG R g d (wipeD δ vs) js fun δ2 => WpT R tt δ2 fun b =>
      if b = true then WpE R te δ2 fun y => I (i + 1) (acc ++ [y]) else I (i + 1) acc) ∧ ∀ acc, I ds.length acc → acc.length ≤ ds.length → φ (.lst acc)) :
    WpE R (tLc wi g tt te vs) δ φ := fun σ G H en rz Q k => by
  refine h σ G H en rz _ fun J ds G1 H1 s1 e1 wk ⟨hl, I, i0, step, fin⟩ => ?_
  intro Dl hD
  have gD : G1 Dl = none := e1.same.free hD
  have nS : ¬ R.T.S Dl := fun z => by
    obtain ⟨_, w, e, _⟩ := e1.stt Dl z
    rw [hD] at e
    exact nomatch e
  have ew := e1.wipe vs
  let Nx : Nat → Hp → Prop := fun i H' => ∃ acc xs G', Stp R.T.S G1 H1 G' H' ∧ Same G' H' ∧ StO R.T.S G' H' ∧ G' Dl = none ∧ H' Dl = some (.lst xs) ∧ AtAll G' xs acc ∧ acc.length ≤ i ∧ I i acc
  refine ⟨fun i m H' => m = ds.length - i ∧ i ≤ ds.length ∧ Nx i H', ⟨_, rfl, Nat.zero_le _, [], [], G1, Stp.grow (same_upd hD), e1.same.trans (same_upd hD), fun a ha => ?_, gD, upd_same, .nil, Nat.le_refl _, i0⟩, ?_⟩
  · obtain ⟨q, w, e, mo⟩ := e1.stt a ha
    exact ⟨q, w, by rw [upd_ne (ne_of_none e hD)]; exact e, mo⟩
  rintro i m H' ⟨rfl, hi, acc, xs, G', st, sm, so, gd, hd, al, la, inv⟩
  have e' : Ens R.T G' H' (wipeD δ vs) (L2.wipe σ vs) := ew.step st (fun _ z => z) sm so
  obtain ⟨go, stop, yld⟩ := wk G' H' st.gs sm
  by_cases lt : i < ds.length
  · refine .inr ⟨go i lt, Nx (i + 1), fun H2 z => ⟨ds.length - (i + 1), by omega, rfl, lt, z⟩, fun x H2 y => ?_⟩
    obtain ⟨d, G2, ed, s2, sm2, at2⟩ := yld i x H2 lt y
    have e2 := e'.step0 s2 sm2
    have st2 := st.trans s2.zero
    have gd2 : G2 Dl = none := s2.gn Dl gd (by rw [hd]; exact fun z => nomatch z)
    have hd2 : H2 Dl = some (.lst xs) := s2.same _ _ hd
    refine step i d acc ed inv la (L2.wipe σ vs) G2 H2 x e2 at2 _ fun σ3 δ3 e3 ag ln w => ⟨wipe_eq hjs ag ln, ?_⟩
    have rz2 : Rz R G2 H2 := (rz.stepB (s1.toB en.old)).stepB (st2.toB e1.old)
    refine w σ3 G2 H2 e3 rz2 _ fun b G4 H4 s4 e4 q => ?_
    have gd4 : G4 Dl = none := s4.gn Dl gd2 (by rw [hd2]; exact fun z => nomatch z)
    have hd4 : H4 Dl = some (.lst xs) := s4.hs _ _ hd2 nS
    have st4 := st2.trans s4
    have al4 := (al.same s2.gs).same s4.gs
    cases b with
    | false => exact iteF ⟨acc, xs, G4, st4, e4.same, e4.stt, gd4, hd4, al4, Nat.le_succ_of_le la, q⟩
    | true =>
      have q' : WpE R te δ3 _ := q
      refine iteT (q' σ3 G4 H4 e4 (rz2.stepB (s4.toB e3.old)) _ fun v y2 G5 H5 s5 e5 a5 q5 => ?_)
      have gd5 : G5 Dl = none := s5.gn Dl gd4 (by rw [hd4]; exact fun z => nomatch z)
      have hd5 : H5 Dl = some (.lst xs) := s5.hs _ _ hd4 nS
      have st5 := st4.trans s5
      refine ⟨xs, hd5, ?_, acc ++ [y2], xs ++ [v], G5, ⟨st5.gs, fun b u e n => ?_, fun b e => ?_, st5.gn⟩, fun b u e => ?_, fun a ha => ?_, gd5, upd_same, (al4.same s5.gs).app (.cons a5 .nil), by rw [List.length_append]; exact Nat.succ_le_succ la, q5⟩
      · rw [al.length]
        exact Nat.lt_of_le_of_lt (Nat.le_trans la (Nat.le_trans hi hl)) (by decide)
      · rw [upd_ne (ne_of_none e hD)]
        exact st5.hs b u e n
      · by_cases z : b = Dl
        · rw [z, upd_same]; exact fun q => nomatch q
        · rw [upd_ne z]; exact st5.al b e
      · rw [upd_ne (ne_of_none e gd5)]
        exact e5.same b u e
      · obtain ⟨q1, w1, q2, mo⟩ := e5.stt a ha
        exact ⟨q1, w1, by rw [upd_ne (show a ≠ Dl from fun z => nS (by rw [← z]; exact ha))]; exact q2, mo⟩
  · have e : i = ds.length := by omega
    subst e
    refine .inl ⟨stop, ?_⟩
    have sp : Stp R.T.S G1 H1 (upd G' Dl (.lst xs)) H' := ⟨st.gs.trans (same_upd gd), st.hs, st.al, fun b e1' e2' => by rw [upd_ne (fun z => e2' (by rw [z]; exact hD))]; exact st.gn b e1' e2'⟩
    have sm' : Same (upd G' Dl (.lst xs)) H' := fun b u e => by
      by_cases z : b = Dl
      · subst z
        rw [upd_same] at e
        rw [← e]
        exact hd
      · rw [upd_ne z] at e
        exact sm b u e
    refine k _ _ _ _ (s1.trans sp) (e1.step sp (fun _ z => z) sm' fun a ha => ?_) (.lst upd_same (al.same (same_upd gd))) (fin acc inv la)
    obtain ⟨q1, w, q2, mo⟩ := so a ha
    exact ⟨by rw [upd_ne (show a ≠ Dl from fun z => nS (by rw [← z]; exact ha))]; exact q1, w, q2, mo.same (same_upd gd)⟩
theorem wpt_yes {φ : Bool → Prop} (q : φ true) : WpT R tYes δ φ := fun σ G H en rz Q k => k true G H .refl en q
/-! ### what is walked -/
theorem wpi_mono {wi : TI} {φ ψ : List D → Prop} (h : WpI R wi δ φ) (m : ∀ d, φ d → ψ d) : WpI R wi δ ψ := fun σ G H en rz K k => h σ G H en rz K fun J ds G' H' a b c e => k J ds G' H' a b c (m ds e)
theorem wk_list {K : PySem.W.Frag} {G : Hp} {a : Addr} {xs : List V} {ds : List D} (h : G a = some (.lst xs)) (al : AtAll G xs ds) : Wk (Itl K a) ds G := fun G1 H1 s1 s2 => by
  have q : SqL K H1 a xs := .inl (.inl (s2 _ _ (s1 _ _ h)))
  have e := al.length
  refine ⟨fun i hi => ⟨xs, xs[i]'(by omega), q, by simp [e, hi]⟩, ⟨xs, q, by omega⟩, fun i x H2 hi y => ?_⟩
  obtain ⟨rfl, y⟩ := y
  obtain ⟨d, ed, a⟩ := al.getV (y xs q)
  exact ⟨d, G1, ed, .refl, s2, a.same s1⟩
theorem wk_tup {K : PySem.W.Frag} {G : Hp} {a : Addr} {xs : List V} {ds : List D} (h : Rd G a (.tup xs)) (al : AtAll G xs ds) : Wk (Itt K a) ds G := fun G1 H1 s1 s2 => by
  have q : SqT K H1 a xs := .inl (rdS s2 (rdS s1 h))
  have e := al.length
  refine ⟨fun i hi => ⟨xs, xs[i]'(by omega), q, by simp [e, hi]⟩, ⟨xs, q, by omega⟩, fun i x H2 hi y => ?_⟩
  obtain ⟨rfl, y⟩ := y
  obtain ⟨d, ed, a⟩ := al.getV (y xs q)
  exact ⟨d, G1, ed, .refl, s2, a.same s1⟩
theorem wpi_list {K : PySem.W.Frag} {te : TE} {φ : List D → Prop} (h : WpE R te δ fun d => ∃ ds, d = .lst ds ∧ φ ds) : WpI R (iList K te) δ φ := fun σ G H en rz Kk k =>
  h σ G H en rz _ fun v d G1 H1 s1 e1 a ⟨ds, e, q⟩ => by
    subst e
    cases a with
    | lst ha al => exact ⟨_, rfl, ⟨_, .inl (.inl (e1.same _ _ ha))⟩, k _ ds G1 H1 s1 e1 (wk_list ha al) q⟩
theorem wpi_tup {K : PySem.W.Frag} {te : TE} {φ : List D → Prop} (h : WpE R te δ fun d => ∃ ds, d = .tup ds ∧ φ ds) : WpI R (iTup K te) δ φ := fun σ G H en rz Kk k =>
  h σ G H en rz _ fun v d G1 H1 s1 e1 a ⟨ds, e, q⟩ => by
    subst e
    cases a with
    | tup ha al => exact ⟨_, rfl, ⟨_, .inl (rdS e1.same ha.rd)⟩, k _ ds G1 H1 s1 e1 (wk_tup ha.rd al) q⟩
def rngD (lo : Int) (n : Nat) : List D := (List.range n).map fun (i : Nat) => D.int (lo + i)
theorem rngD_len {lo : Int} {n : Nat} : (rngD lo n).length = n := by unfold rngD; rw [List.length_map, List.length_range]
theorem rngD_get {lo : Int} {n i : Nat} (h : i < n) : (rngD lo n)[i]? = some (.int (lo + i)) := by
  unfold rngD
  rw [List.getElem?_map, List.getElem?_range h]
  rfl
theorem rngD_at {lo : Int} {n i : Nat} {d : D} (h : (rngD lo n)[i]? = some d) : d = .int (lo + i) ∧ i < n := by
  have lt : i < n := by
    have := (List.getElem?_eq_some_iff.mp h).1
    rw [rngD_len] at this
    exact this
  rw [rngD_get lt] at h
  exact ⟨(Option.some.inj h).symm, lt⟩
theorem wk_range {G : Hp} {lo : Int} {n : Nat} : Wk (Itr lo n) (rngD lo n) G := fun G1 H1 s1 s2 => by
  refine ⟨fun i hi => by rw [rngD_len] at hi; exact hi, by rw [rngD_len]; exact Nat.le_refl n, fun i x H2 hi y => ?_⟩
  obtain ⟨rfl, rfl⟩ := y
  rw [rngD_len] at hi
  exact ⟨_, G1, rngD_get hi, .refl, s2, .int _⟩
theorem wpi_range1 {tr : TA} {φ : List D → Prop} (h : WpA R tr δ fun as => ∃ j : Int, as = [.da (.int j)] ∧ -1000000 ≤ j ∧ j < 1000000 ∧ φ (rngD 0 j.toNat)) : WpI R (iRng1 tr) δ φ := fun σ G H en rz Kk k =>
  h σ G H en rz _ fun vs as G1 H1 s1 e1 a ⟨j, e, l1, l2, q⟩ => by
    subst e
    cases a with
    | cons a t =>
      cases t
      cases a
      exact ⟨j, rfl, by omega, by omega, k _ _ G1 H1 s1 e1 wk_range q⟩
def zipD : List D → List D → List D
  | x :: xs, y :: ys => .tup [x, y] :: zipD xs ys
  | _, _ => []
theorem zipD_len : ∀ {xs ys : List D}, (zipD xs ys).length = min xs.length ys.length
  | [], ys => by simp [zipD]
  | x :: xs, [] => by simp [zipD]
  | x :: xs, y :: ys => by simp only [zipD, List.length_cons, zipD_len (xs := xs) (ys := ys)]; omega
theorem zipD_get : ∀ {xs ys : List D} {i : Nat} {x y : D}, xs[i]? = some x → ys[i]? = some y → (zipD xs ys)[i]? = some (.tup [x, y])
  | [], _, _, _, _, h, _ => by simp at h
  | _ :: _, [], _, _, _, _, h => by simp at h
  | x :: xs, y :: ys, 0, _, _, h, h2 => by simp at h h2; subst h; subst h2; rfl
  | x :: xs, y :: ys, i + 1, _, _, h, h2 => by
    simp only [zipD, List.getElem?_cons_succ]
    exact zipD_get (by simpa using h) (by simpa using h2)
theorem zipD_at : ∀ {xs ys : List D} {i : Nat} {d : D}, (zipD xs ys)[i]? = some d → ∃ x y, xs[i]? = some x ∧ ys[i]? = some y ∧ d = .tup [x, y] := fun {xs ys i d} h => by
  have lt := (List.getElem?_eq_some_iff.mp h).1
  rw [zipD_len] at lt
  have h1 : xs[i]? = some (xs[i]'(by omega)) := List.getElem?_eq_getElem _
  have h2 : ys[i]? = some (ys[i]'(by omega)) := List.getElem?_eq_getElem _
  rw [zipD_get h1 h2] at h
  exact ⟨_, _, h1, h2, (Option.some.inj h).symm⟩
theorem yld_pair {G1 H1 : Hp} {T : Addr} {x y : V} {dx dy : D} (sm : Same G1 H1) (hT : H1 T = none) (ax : At G1 x dx) (ay : At G1 y dy) (np : dictable [dx, dy] = false) :
    Stp S0 G1 H1 (upd G1 T (.tup [x, y])) (upd H1 T (.tup [x, y])) ∧ Same (upd G1 T (.tup [x, y])) (upd H1 T (.tup [x, y])) ∧ At (upd G1 T (.tup [x, y])) (.ref T) (.tup [dx, dy]) := by
  have s : Stp S0 G1 H1 (upd G1 T (.tup [x, y])) (upd H1 T (.tup [x, y])) := .new sm hT
  exact ⟨s, upd_same2 sm, .tup (.inr ⟨.inl upd_same, np⟩) (.cons (ax.same s.gs) (.cons (ay.same s.gs) .nil))⟩
/-- no pair of pairs comes of these -/
def NoPr (ds es : List D) : Prop := (∀ d ∈ ds, isPair d = false) ∨ (∀ d ∈ es, isPair d = false)
theorem NoPr.no {ds es : List D} (h : NoPr ds es) {i : Nat} {x y : D} (e : ds[i]? = some x) (f : es[i]? = some y) : dictable [x, y] = false := by
  rcases h with h | h
  · simp [dictable, h x (List.mem_of_getElem? e)]
  · simp [dictable, h y (List.mem_of_getElem? f)]
theorem wk_zipL {K : PySem.W.Frag} {G : Hp} {a b : Addr} {xs ys : List V} {ds es : List D} (h : G a = some (.lst xs)) (al : AtAll G xs ds) (h2 : G b = some (.lst ys)) (al2 : AtAll G ys es) (np : NoPr ds es) : Wk (Itz K a b) (zipD ds es) G := fun G1 H1 s1 s2 => by
  have q : SqL K H1 a xs := .inl (.inl (s2 _ _ (s1 _ _ h)))
  have q2 : SqL K H1 b ys := .inl (.inl (s2 _ _ (s1 _ _ h2)))
  have e := al.length
  have e2 := al2.length
  have W : Walk (Itz K a b) (zipD ds es).length _ _ := walk_zip (K := K) (a := a) (b := b) (xs := xs) (ys := ys) (by rw [zipD_len]; omega)
  refine ⟨fun i hi => W.goes i H1 hi ⟨q, q2⟩, W.stops H1 ⟨q, q2⟩, fun i x H2 hi y => ?_⟩
  obtain ⟨T, u, v, rfl, hT, rfl, z1, z2⟩ := W.yields i H1 x H2 hi ⟨q, q2⟩ y
  obtain ⟨d1, m1, a1⟩ := al.getV z1
  obtain ⟨d2, m2, a2⟩ := al2.getV z2
  obtain ⟨t1, t2, t3⟩ := yld_pair s2 hT (a1.same s1) (a2.same s1) (np.no m1 m2)
  exact ⟨_, _, zipD_get m1 m2, t1, t2, t3⟩
theorem wk_zipT {K : PySem.W.Frag} {G : Hp} {a b : Addr} {xs ys : List V} {ds es : List D} (h : Rd G a (.tup xs)) (al : AtAll G xs ds) (h2 : Rd G b (.tup ys)) (al2 : AtAll G ys es) (np : NoPr ds es) : Wk (RZ.ItzT K a b) (zipD ds es) G := fun G1 H1 s1 s2 => by
  have q : SqT K H1 a xs := .inl (rdS s2 (rdS s1 h))
  have q2 : SqT K H1 b ys := .inl (rdS s2 (rdS s1 h2))
  have e := al.length
  have e2 := al2.length
  refine ⟨fun i hi => ?_, ⟨xs, ys, q, q2, by rw [zipD_len]; omega⟩, fun i x H2 hi y => ?_⟩
  · rw [zipD_len] at hi
    exact ⟨xs, ys, xs[i]'(by omega), ys[i]'(by omega), q, q2, List.getElem?_eq_getElem _, List.getElem?_eq_getElem _⟩
  · obtain ⟨T, u, v, rfl, hT, rfl, z1, z2⟩ := y
    obtain ⟨d1, m1, a1⟩ := al.getV (z1 xs q)
    obtain ⟨d2, m2, a2⟩ := al2.getV (z2 ys q2)
    obtain ⟨t1, t2, t3⟩ := yld_pair s2 hT (a1.same s1) (a2.same s1) (np.no m1 m2)
    exact ⟨_, _, zipD_get m1 m2, t1, t2, t3⟩
theorem wpi_zip {K : PySem.W.Frag} {tr : TA} {φ : List D → Prop} (h : WpA R tr δ fun as => ∃ ds es, (as = [.da (.lst ds), .da (.lst es)] ∨ as = [.da (.tup ds), .da (.tup es)]) ∧ NoPr ds es ∧ φ (zipD ds es)) : WpI R (RZ.iZipA K tr) δ φ := fun σ G H en rz Kk k =>
  h σ G H en rz _ fun vs as G1 H1 s1 e1 a ⟨ds, es, e, np, q⟩ => by
    rcases e with e | e
    · subst e
      cases a with
      | cons a t =>
        cases t with
        | cons b t =>
          cases t
          cases a with
          | lst ha al =>
            cases b with
            | lst hb bl => exact ⟨_, _, _, _, rfl, .inl ⟨.inl (.inl (e1.same _ _ ha)), .inl (.inl (e1.same _ _ hb)), k _ _ G1 H1 s1 e1 (wk_zipL ha al hb bl np) q⟩⟩
    · subst e
      cases a with
      | cons a t =>
        cases t with
        | cons b t =>
          cases t
          cases a with
          | tup ha al =>
            cases b with
            | tup hb bl => exact ⟨_, _, _, _, rfl, .inr ⟨.inl (rdS e1.same ha.rd), .inl (rdS e1.same hb.rd), k _ _ G1 H1 s1 e1 (wk_zipT ha.rd al hb.rd bl np) q⟩⟩
def enuD (ds : List D) : List D := zipD (rngD 0 ds.length) ds
theorem wk_enuT {K : PySem.W.Frag} {G : Hp} {a : Addr} {xs : List V} {ds : List D} (h : Rd G a (.tup xs)) (al : AtAll G xs ds) : Wk (IteT K a) (enuD ds) G := fun G1 H1 s1 s2 => by
  have q : SqT K H1 a xs := .inl (rdS s2 (rdS s1 h))
  have e := al.length
  have le : (enuD ds).length = ds.length := by unfold enuD; rw [zipD_len, rngD_len, Nat.min_self]
  refine ⟨fun i hi => ⟨xs, xs[i]'(by omega), q, List.getElem?_eq_getElem _⟩, ⟨xs, q, by omega⟩, fun i x H2 hi y => ?_⟩
  obtain ⟨T, u, rfl, hT, rfl, z1⟩ := y
  obtain ⟨d1, m1, a1⟩ := al.getV (z1 xs q)
  obtain ⟨t1, t2, t3⟩ := yld_pair s2 hT (.int (i : Nat)) (a1.same s1) rfl
  refine ⟨_, _, zipD_get (x := .int (i : Nat)) ?_ m1, t1, t2, t3⟩
  rw [rngD_get (by omega), Int.zero_add]
theorem wk_enuL {K : PySem.W.Frag} {G : Hp} {a : Addr} {xs : List V} {ds : List D} (h : G a = some (.lst xs)) (al : AtAll G xs ds) : Wk (Ite K a) (enuD ds) G := fun G1 H1 s1 s2 => by
  have q : SqL K H1 a xs := .inl (.inl (s2 _ _ (s1 _ _ h)))
  have e := al.length
  have le : (enuD ds).length = ds.length := by unfold enuD; rw [zipD_len, rngD_len, Nat.min_self]
  refine ⟨fun i hi => ⟨xs, xs[i]'(by omega), q, List.getElem?_eq_getElem _⟩, ⟨xs, q, by omega⟩, fun i x H2 hi y => ?_⟩
  obtain ⟨T, u, rfl, hT, rfl, z1⟩ := y
  obtain ⟨d1, m1, a1⟩ := al.getV (z1 xs q)
  obtain ⟨t1, t2, t3⟩ := yld_pair s2 hT (.int (i : Nat)) (a1.same s1) rfl
  refine ⟨_, _, zipD_get (x := .int (i : Nat)) ?_ m1, t1, t2, t3⟩
  rw [rngD_get (by omega), Int.zero_add]
theorem enuD_at {ds : List D} {i : Nat} {d : D} (h : (enuD ds)[i]? = some d) : ∃ x, ds[i]? = some x ∧ d = .tup [.int i, x] := by
  obtain ⟨x, y, h1, h2, rfl⟩ := zipD_at h
  obtain ⟨rfl, _⟩ := rngD_at h1
  exact ⟨y, h2, by rw [Int.zero_add]⟩
theorem enuD_len {ds : List D} : (enuD ds).length = ds.length := by unfold enuD; rw [zipD_len, rngD_len, Nat.min_self]
theorem wpi_enuT {K : PySem.W.Frag} {tr : TA} {φ : List D → Prop} (h : WpA R tr δ fun as => ∃ ds, as = [.da (.tup ds)] ∧ φ (enuD ds)) : WpI R (iEnumT K tr) δ φ := fun σ G H en rz Kk k =>
  h σ G H en rz _ fun vs as G1 H1 s1 e1 a ⟨ds, e, q⟩ => by
    subst e
    cases a with
    | cons a t =>
      cases t
      cases a with
      | tup ha al => exact ⟨_, _, rfl, .inl (rdS e1.same ha.rd), k _ _ G1 H1 s1 e1 (wk_enuT ha.rd al) q⟩
theorem wpi_enuL {K : PySem.W.Frag} {tr : TA} {φ : List D → Prop} (h : WpA R tr δ fun as => ∃ ds, as = [.da (.lst ds)] ∧ φ (enuD ds)) : WpI R (iEnum K tr) δ φ := fun σ G H en rz Kk k =>
  h σ G H en rz _ fun vs as G1 H1 s1 e1 a ⟨ds, e, q⟩ => by
    subst e
    cases a with
    | cons a t =>
      cases t
      cases a with
      | lst ha al => exact ⟨_, _, rfl, .inl (.inl (e1.same _ _ ha)), k _ _ G1 H1 s1 e1 (wk_enuL ha al) q⟩
def chrs (x : Str) : List D := x.cps.toList.map fun c => D.str ⟨#[c]⟩
theorem wpi_str {te : TE} {φ : List D → Prop} (h : WpE R te δ fun d => ∃ x, d = .str x ∧ φ (chrs x)) : WpI R (iStr te) δ φ := fun σ G H en rz Kk k =>
  h σ G H en rz _ fun v d G1 H1 s1 e1 a ⟨x, e, q⟩ => by
    subst e
    cases a
    have le : (chrs x).length = x.cps.size := by unfold chrs; rw [List.length_map, Array.length_toList]
    refine ⟨x, rfl, k _ _ G1 H1 s1 e1 (fun G2 H2 t1 t2 => ⟨fun i hi => ?_, ?_, fun i y H3 hi z => ?_⟩) q⟩
    · rw [le] at hi; exact hi
    · rw [le]; exact Nat.le_refl _
    · obtain ⟨rfl, c, hc, rfl⟩ := z
      refine ⟨_, G2, ?_, .refl, t2, .str _⟩
      unfold chrs
      rw [List.getElem?_map, Array.getElem?_toList, hc]
      rfl
end
end Nv
/-! Nv, part S: operators and built-ins over data. -/
namespace Nv
open PySem PySem.Spec PyProof.Rows L2
variable [Tb] [Ls]

theorem at_lst {G : Hp} {v : V} {ds : List D} (h : At G v (.lst ds)) : ∃ a xs, v = .ref a ∧ G a = some (.lst xs) ∧ AtAll G xs ds := by
  cases h with
  | lst e t => exact ⟨_, _, rfl, e, t⟩
theorem at_tup {G : Hp} {v : V} {ds : List D} (h : At G v (.tup ds)) : ∃ a xs, v = .ref a ∧ Rd G a (.tup xs) ∧ AtAll G xs ds := by
  cases h with
  | tup e t => exact ⟨_, _, rfl, e.rd, t⟩
theorem sqL_of {K : PySem.W.Frag} {G H : Hp} {a : Addr} {xs : List V} (s : Same G H) (h : G a = some (.lst xs)) : SqL K H a xs := .inl (.inl (s _ _ h))
theorem sqT_of {K : PySem.W.Frag} {G H : Hp} {a : Addr} {xs : List V} (s : Same G H) (h : Rd G a (.tup xs)) : SqT K H a xs := .inl (rdS s h)

/-! ### walking a list or a tuple -/
def iSeq (K : PySem.W.Frag) (tl : TE) : TI := fun σ H R => tl σ H fun x H1 => ∃ a, x = .ref a ∧ (((∃ xs, SqL K H1 a xs) ∧ R (Itl K a) H1) ∨ ((∃ xs, SqT K H1 a xs) ∧ R (Itt K a) H1))
theorem pi_seq {X : Cx} {tg l : Expr} {tl : TE} (hl : PE X l tl) : PI X tg l (iSeq X.K tl) := by
  refine ⟨fun pins s σ H R I h => ?_⟩
  refine thn (hl.run pins s σ H _ I h) fun v s1 ⟨x, H1, I1, r1, q1⟩ => ?_
  obtain ⟨a, e, q⟩ := q1
  subst e
  cases r1
  rcases q with ⟨⟨xs, hq⟩, q⟩ | ⟨⟨xs, hq⟩, q⟩
  · obtain ⟨its, rv, p, hz⟩ := I1.list hq
    refine wpAny_pyIter_list p.isList ?_
    refine ⟨s1.heap.objs.size, [s1.heap.objs.size], _, _, H1, rfl, I1.kept (t' := s1.toks) fun b o e => Heap.get?_push_of_some _ e, turn_list a _, ⟨_, Heap.get?_push_size _ rfl, rfl, rfl⟩, fun b hb => ?_, q⟩
    have e : b = s1.heap.objs.size := by simpa using hb
    subst e
    exact I1.fpOk (Nat.le_refl _) (I1.hok.fresh (Nat.le_refl _))
  · obtain ⟨its, rv, p, hz⟩ := I1.tuple hq
    refine wpAny_pyIter_tuple (show s1.heap.IsTuple a its.toArray from p) ?_
    refine ⟨s1.heap.objs.size, [s1.heap.objs.size], _, _, H1, rfl, I1.kept (t' := s1.toks) fun b o e => Heap.get?_push_of_some _ e, turn_tuple a _, ⟨_, Heap.get?_push_size _ rfl, rfl, rfl⟩, fun b hb => ?_, q⟩
    have e : b = s1.heap.objs.size := by simpa using hb
    subst e
    exact I1.fpOk (Nat.le_refl _) (I1.hok.fresh (Nat.le_refl _))
section
variable {R : Rg} {δ : List Sl} {te ta tb tc : TE} {t u : TT} {tr : TA} {φ : D → Prop} {K : PySem.W.Frag}
theorem wpi_seq {φ : List D → Prop} (h : WpE R te δ fun d => ∃ ds, (d = .lst ds ∨ d = .tup ds) ∧ φ ds) : WpI R (iSeq K te) δ φ := fun σ G H en rz Kk k =>
  h σ G H en rz _ fun v d G1 H1 s1 e1 a ⟨ds, e, q⟩ => by
    rcases e with e | e
    · subst e
      obtain ⟨a, xs, rfl, ha, al⟩ := at_lst a
      exact ⟨_, rfl, .inl ⟨⟨_, sqL_of e1.same ha⟩, k _ ds G1 H1 s1 e1 (wk_list ha al) q⟩⟩
    · subst e
      obtain ⟨a, xs, rfl, ha, al⟩ := at_tup a
      exact ⟨_, rfl, .inr ⟨⟨_, sqT_of e1.same ha⟩, k _ ds G1 H1 s1 e1 (wk_tup ha al) q⟩⟩
/-- [f(d) for d in ..] -/
theorem wpe_map {wi : TI} {i : Nat} {vs : List Nat} (f : D → D) (hi : i ∈ vs)
    (h : WpI R wi δ fun ds => ds.length ≤ 100000 ∧ (∀ d ∈ ds, WpE R te ((wipeD δ vs).set i (.da d)) fun y => y = f d) ∧ φ (.lst (ds.map f))) :
    WpE R (tLc wi (gName i) tYes te vs) δ φ := by
  refine wpe_lc (js := [i]) (by simpa using hi) (wpi_mono h fun ds ⟨l, h1, h2⟩ => ⟨l, fun j acc => acc = (ds.take j).map f, by simp, fun j d acc e ih _ => ?_, fun acc ih _ => ?_⟩)
  · refine wpg_name (wpt_yes ?_)
    rw [if_pos rfl]
    have hd : d ∈ ds := List.mem_of_getElem? e
    refine wpe_mono (h1 d hd) fun y ey => ?_
    show acc ++ [y] = (ds.take (j + 1)).map f
    rw [ey, ih, List.take_add_one, e]
    simp
  · rw [ih, List.take_length]
    exact h2
/-! ### operators -/
theorem opd_l {r r' : R2} {x y : D} (h : OpD r x y φ) : OpD (fun x y H Q => r x y H Q ∨ r' x y H Q) x y φ := fun G H v w s a b Q k => .inl (h G H v w s a b Q k)
theorem opd_r {r r' : R2} {x y : D} (h : OpD r' x y φ) : OpD (fun x y H Q => r x y H Q ∨ r' x y H Q) x y φ := fun G H v w s a b Q k => .inr (h G H v w s a b Q k)
theorem cbd_l {r r' : List V → Hp → VK → Prop} {xs : List D} (h : CbD r xs φ) : CbD (fun xs H Q => r xs H Q ∨ r' xs H Q) xs φ := fun G H vs s a Q k => .inl (h G H vs s a Q k)
theorem cbd_r {r r' : List V → Hp → VK → Prop} {xs : List D} (h : CbD r' xs φ) : CbD (fun xs H Q => r xs H Q ∨ r' xs H Q) xs φ := fun G H vs s a Q k => .inr (h G H vs s a Q k)
theorem opd_b {g : Int → Int → Bool} {i j : Int} (q : φ (.bl (g i j))) : OpD (rI0 fun i j => .bl (g i j)) (.int i) (.int j) φ := fun G H v w s a b Q k => by
  cases a
  cases b
  exact ⟨_, _, rfl, rfl, k _ _ G H .refl s (.bl _) q⟩
theorem opd_i {g : Int → Int → Int} {i j : Int} (q : φ (.int (g i j))) : OpD (rI0 fun i j => .int (g i j)) (.int i) (.int j) φ := fun G H v w s a b Q k => by
  cases a
  cases b
  exact ⟨_, _, rfl, rfl, k _ _ G H .refl s (.int _) q⟩
theorem opd_c {C : Int → Int → Prop} {g : Int → Int → Int} {i j : Int} (c : C i j) (q : φ (.int (g i j))) : OpD (rI C fun i j => .int (g i j)) (.int i) (.int j) φ := fun G H v w s a b Q k => by
  cases a
  cases b
  exact ⟨_, _, rfl, rfl, c, k _ _ G H .refl s (.int _) q⟩
theorem opd_ltS {x y : Str} (q : φ (.bl (decide (x.cps.toList < y.cps.toList)))) :
    OpD (fun x y H Q => ∃ i j, x = .str i ∧ y = .str j ∧ Q (.bl (decide (i.cps.toList < j.cps.toList))) H) (.str x) (.str y) φ := fun G H v w s a b Q k => by
  cases a
  cases b
  exact ⟨_, _, rfl, rfl, k _ _ G H .refl s (.bl _) q⟩
theorem opd_addS {x y : Str} (l : x.length + y.length ≤ 1000) (q : φ (.str (x ++ y))) :
    OpD (fun x y H Q => ∃ i j, x = .str i ∧ y = .str j ∧ i.length + j.length ≤ sizeLine ∧ Q (.str (i ++ j)) H) (.str x) (.str y) φ := fun G H v w s a b Q k => by
  cases a
  cases b
  exact ⟨_, _, rfl, rfl, Nat.le_trans l (by decide), k _ _ G H .refl s (.str _) q⟩
theorem opd_eqI {i j : Int} (q : φ (.bl (decide (i = j)))) : OpD rEq (.int i) (.int j) φ := fun G H v w s a b Q k => by
  cases a
  cases b
  refine ⟨rfl, k _ _ G H .refl s (.bl _) ?_⟩
  rw [show decide (V.int i = V.int j) = decide (i = j) from decide_eq_decide.mpr ⟨V.int.inj, congrArg _⟩]
  exact q
theorem opd_neI {i j : Int} (q : φ (.bl (!decide (i = j)))) : OpD rNe (.int i) (.int j) φ := fun G H v w s a b Q k => by
  cases a
  cases b
  refine ⟨rfl, k _ _ G H .refl s (.bl _) ?_⟩
  rw [show decide (V.int i = V.int j) = decide (i = j) from decide_eq_decide.mpr ⟨V.int.inj, congrArg _⟩]
  exact q
theorem opd_neS {i j : Str} (q : φ (.bl (!decide (i = j)))) : OpD rNe (.str i) (.str j) φ := fun G H v w s a b Q k => by
  cases a
  cases b
  refine ⟨rfl, k _ _ G H .refl s (.bl _) ?_⟩
  rw [show decide (V.str i = V.str j) = decide (i = j) from decide_eq_decide.mpr ⟨V.str.inj, congrArg _⟩]
  exact q
theorem opd_eqS {i j : Str} (q : φ (.bl (decide (i = j)))) : OpD rEq (.str i) (.str j) φ := fun G H v w s a b Q k => by
  cases a
  cases b
  refine ⟨rfl, k _ _ G H .refl s (.bl _) ?_⟩
  rw [show decide (V.str i = V.str j) = decide (i = j) from decide_eq_decide.mpr ⟨V.str.inj, congrArg _⟩]
  exact q
theorem inV_ints {i : Int} : ∀ {zs : List Int}, inV (.int i) (zs.map V.int) = decide (i ∈ zs)
  | [] => by simp [inV]
  | z :: zs => by
    have ih := inV_ints (i := i) (zs := zs)
    unfold inV at ih ⊢
    rw [List.map_cons, List.any_cons, ih]
    show (z == i || decide (i ∈ zs)) = _
    by_cases h : z = i
    · subst h; simp
    · have h' : ¬ i = z := fun q => h q.symm
      simp [h, h']
theorem opd_inI {neg : Bool} {i : Int} {zs : List Int} {y : D} (e : y = .lst (zs.map D.int) ∨ y = .tup (zs.map D.int)) (q : φ (.bl (if neg then !decide (i ∈ zs) else decide (i ∈ zs)))) :
    OpD (rIn K neg) (.int i) y φ := fun G H v w s a b Q k => by
  cases a
  have fl : (zs.map V.int).all flatV = true := by
    rw [List.all_map]
    exact List.all_eq_true.mpr fun _ _ => rfl
  rcases e with rfl | rfl
  · obtain ⟨p0, xs, rfl, ha, al⟩ := at_lst b
    obtain rfl := atAll_ints al
    refine ⟨p0, _, rfl, .inl (sqL_of s ha), rfl, fl, ?_⟩
    rw [inV_ints]
    exact k _ _ G H .refl s (.bl _) q
  · obtain ⟨p0, xs, rfl, ha, al⟩ := at_tup b
    obtain rfl := atAll_ints al
    refine ⟨p0, _, rfl, .inr (sqT_of s ha), rfl, fl, ?_⟩
    rw [inV_ints]
    exact k _ _ G H .refl s (.bl _) q
theorem opd_sign {c : Nat} {z : Str} (q : φ (.bl (decide (c ∈ z.cps.toList)))) :
    OpD (fun x y H Q => ∃ (c : Nat) (z : Str), x = .str ⟨#[c]⟩ ∧ y = .str z ∧ Q (.bl (decide (c ∈ z.cps.toList))) H) (.str ⟨#[c]⟩) (.str z) φ := fun G H v w s a b Q k => by
  cases a
  cases b
  exact ⟨_, _, rfl, rfl, k _ _ G H .refl s (.bl _) q⟩
theorem opd_ix {y : D} {ds : List D} {n : Nat} {i : Int} {d : D} (ey : y = .lst ds ∨ y = .tup ds) (ei : i = (n : Int)) (e : ds[n]? = some d) (q : φ d) : OpD (rIx K) y (.int i) φ := fun G H v w s aa b Q k => by
  cases b
  subst ei
  rcases ey with rfl | rfl
  · obtain ⟨p0, xs, rfl, ha, al⟩ := at_lst aa
    obtain ⟨v, e2, av⟩ := al.get e
    exact .inl ⟨p0, xs, _, v, rfl, rfl, sqL_of s ha, atI_nat e2, k _ _ G H .refl s av q⟩
  · obtain ⟨p0, xs, rfl, ha, al⟩ := at_tup aa
    obtain ⟨v, e2, av⟩ := al.get e
    exact .inr (.inl ⟨p0, xs, _, v, rfl, rfl, sqT_of s ha, atI_nat e2, k _ _ G H .refl s av q⟩)
theorem opd_ixS {z : Str} {n : Nat} {i : Int} {c : Nat} (l : z.length ≤ 1000) (ei : i = (n : Int)) (e : z.cps.toList[n]? = some c) (q : φ (.str ⟨#[c]⟩)) : OpD (rIx K) (.str z) (.int i) φ := fun G H v w s a b Q k => by
  cases a
  cases b
  subst ei
  refine .inr (.inr ⟨z, _, c, rfl, rfl, Nat.le_trans l (by decide), ?_, k _ _ G H .refl s (.str _) q⟩)
  have lt := (List.getElem?_eq_some_iff.mp e).1
  unfold atI ixN
  rw [if_pos (by omega), if_pos (by omega)]
  simpa using e
/-! tuples put together -/
theorem opd_catT {ds es : List D} (l : ds.length + es.length ≤ 100000) (q : φ (.tup (ds ++ es))) : OpD (rCatF K) (.tup ds) (.tup es) φ := fun G H v w s a b Q k => by
  obtain ⟨p0, xs, rfl, ha, al⟩ := at_tup a
  obtain ⟨p1, ys, rfl, hb, bl⟩ := at_tup b
  refine ⟨p0, p1, xs, ys, rfl, rfl, sqT_of s ha, sqT_of s hb, by rw [al.length, bl.length]; exact Nat.le_trans l (by decide), fun e => ?_, fun _ e => ?_, fun _ _ p o hp hd => ?_⟩
  · subst e
    cases al
    exact k _ _ G H .refl s b q
  · subst e
    cases bl
    rw [List.append_nil] at q
    exact k _ _ G H .refl s a q
  · have st : Stp S0 G H (upd G p (TpO o (xs ++ ys))) (upd H p (TpO o (xs ++ ys))) := .new s hp
    exact k _ _ _ _ st (upd_same2 s) (.tup (.inl ⟨_, upd_same, hd⟩) ((al.app bl).same st.gs)) q
theorem opd_catL {ds es : List D} (l : ds.length + es.length ≤ 100000) (q : φ (.lst (ds ++ es))) : OpD rCat (.lst ds) (.lst es) φ := fun G H v w s a b Q k => by
  obtain ⟨p0, xs, rfl, ha, al⟩ := at_lst a
  obtain ⟨p1, ys, rfl, hb, bl⟩ := at_lst b
  refine ⟨p0, p1, xs, ys, rfl, rfl, s _ _ ha, s _ _ hb, by rw [al.length, bl.length]; exact Nat.le_trans l (by decide), fun p hp => ?_⟩
  have st : Stp S0 G H (upd G p (.lst (xs ++ ys))) (upd H p (.lst (xs ++ ys))) := .new s hp
  exact k _ _ _ _ st (upd_same2 s) (.lst upd_same ((al.app bl).same st.gs)) q
theorem AtAll.rep {G : Hp} {vs : List V} {ds : List D} (h : AtAll G vs ds) : ∀ n, AtAll G (List.replicate n vs).flatten (List.replicate n ds).flatten
  | 0 => .nil
  | n + 1 => by
    rw [List.replicate_succ, List.replicate_succ, List.flatten_cons, List.flatten_cons]
    exact h.app (AtAll.rep h n)
theorem opd_repT {d : D} {n : Nat} {i : Int} (ei : i = (n : Int)) (l1 : 2 ≤ n) (l2 : n ≤ 1000) (q : φ (.tup (List.replicate n d))) (np : isPair d = false := by rfl) : OpD (rRepT K) (.tup [d]) (.int i) φ := fun G H v w s a b Q k => by
  obtain ⟨p0, xs, rfl, ha, al⟩ := at_tup a
  cases b
  subst ei
  have ne : xs ≠ [] := fun z => by subst z; cases al
  refine ⟨p0, _, xs, rfl, rfl, sqT_of s ha, ne, by omega, by omega, by rw [al.length]; show 1 ≤ 1000; decide, fun p hp => ?_⟩
  have st : Stp S0 G H (upd G p (.tup (List.replicate (n : Int).toNat xs).flatten)) (upd H p (.tup (List.replicate (n : Int).toNat xs).flatten)) := .new s hp
  have e : (List.replicate (n : Int).toNat [d]).flatten = List.replicate n d := by
    rw [Int.toNat_natCast]
    clear l1 l2 q a ha al ne hp st k s
    induction n with
    | zero => rfl
    | succ n ih => rw [List.replicate_succ, List.replicate_succ, List.flatten_cons, ih]; rfl
  refine k _ _ _ _ st (upd_same2 s) (.tup (.inr ⟨.inl upd_same, ?_⟩) ((al.rep _).same st.gs)) (by rw [e]; exact q)
  rw [e]
  obtain ⟨m, rfl⟩ : ∃ m, n = m + 1 := ⟨n - 1, by omega⟩
  rw [List.replicate_succ]
  show (isPair d && _) = false
  rw [np]
  rfl
/-! slices -/
def SlD (r : V → Option Int → Option Int → Hp → VK → Prop) (x : D) (lo hi : Option Int) (φ : D → Prop) : Prop := ∀ G H v, Same G H → At G v x → ∀ Q : VK,
  (∀ z d G' H', Stp S0 G H G' H' → Same G' H' → At G' z d → φ d → Q z H') → r v lo hi H Q
def cutD (ds : List D) (lo hi : Option Int) : List D := (ds.drop (HT.sIx ds.length 0 lo)).take (HT.sIx ds.length ds.length hi - HT.sIx ds.length 0 lo)
theorem AtAll.cut {G : Hp} {vs : List V} {ds : List D} (h : AtAll G vs ds) {lo hi : Option Int} : AtAll G (cutV vs lo hi) (cutD ds lo hi) := by
  unfold cutV cutD
  rw [h.length]
  exact (h.drop _).take _
theorem sld_L {ds : List D} {lo hi : Option Int} (q : φ (.lst (cutD ds lo hi))) : SlD (rSlL K) (.lst ds) lo hi φ := fun G H v s a Q k => by
  obtain ⟨p0, xs, rfl, ha, al⟩ := at_lst a
  refine ⟨p0, xs, rfl, sqL_of s ha, fun p hp => ?_⟩
  have st : Stp S0 G H (upd G p (.lst (cutV xs lo hi))) (upd H p (.lst (cutV xs lo hi))) := .new s hp
  exact k _ _ _ _ st (upd_same2 s) (.lst upd_same (al.cut.same st.gs)) q
theorem sld_T {ds : List D} {lo hi : Option Int} (q : φ (.tup (cutD ds lo hi))) : SlD (rSlF K) (.tup ds) lo hi φ := fun G H v s a Q k => by
  obtain ⟨p0, xs, rfl, ha, al⟩ := at_tup a
  refine ⟨p0, xs, rfl, sqT_of s ha, fun e => ?_, fun _ p o hp hd => ?_⟩
  · have ec : cutD ds lo hi = ds := by
      unfold cutD
      rw [← al.length, e.1, e.2, List.drop_zero, Nat.sub_zero, al.length, List.take_length]
    rw [ec] at q
    exact k _ _ G H .refl s a q
  · have st : Stp S0 G H (upd G p (TpO o (cutV xs lo hi))) (upd H p (TpO o (cutV xs lo hi))) := .new s hp
    exact k _ _ _ _ st (upd_same2 s) (.tup (.inl ⟨_, upd_same, hd⟩) (al.cut.same st.gs)) q
theorem sld_l {r r' : V → Option Int → Option Int → Hp → VK → Prop} {x : D} {lo hi : Option Int} (h : SlD r x lo hi φ) : SlD (fun x lo hi H Q => r x lo hi H Q ∨ r' x lo hi H Q) x lo hi φ := fun G H v s a Q k => .inl (h G H v s a Q k)
theorem sld_r {r r' : V → Option Int → Option Int → Hp → VK → Prop} {x : D} {lo hi : Option Int} (h : SlD r' x lo hi φ) : SlD (fun x lo hi H Q => r x lo hi H Q ∨ r' x lo hi H Q) x lo hi φ := fun G H v s a Q k => .inr (h G H v s a Q k)
def WpO (R : Rg) (t : TO) (δ : List Sl) (φ : Option Int → Prop) : Prop := ∀ σ G H, Ens R.T G H δ σ → Rz R G H → ∀ Q : Option Int → Hp → Prop,
  (∀ v G' H', Stp R.T.S G H G' H' → Ens R.T G' H' δ σ → φ v → Q v H') → t σ H Q
theorem wpe_slice {r : V → Option Int → Option Int → Hp → VK → Prop} {tl th : TO} (h : WpE R te δ fun x => WpO R tl δ fun l => WpO R th δ fun u => SlD r x l u φ) : WpE R (tSl r te tl th) δ φ := fun σ G H en rz Q k =>
  h σ G H en rz _ fun v x G1 H1 s1 e1 a1 h1 => h1 σ G1 H1 e1 (rz.stepB (s1.toB en.old)) _ fun l G2 H2 s2 e2 h2 =>
    h2 σ G2 H2 e2 ((rz.stepB (s1.toB en.old)).stepB (s2.toB e1.old)) _ fun u G3 H3 s3 e3 h3 =>
      h3 G3 H3 v e3.same ((a1.same s2.gs).same s3.gs) Q fun z d G4 H4 s4 sm a4 q => k z d G4 H4 (((s1.trans s2).trans s3).trans s4.zero) (e3.step0 s4 sm) a4 q
/-! ### built-ins -/
theorem cbd_len {y : D} {ds : List D} (e : y = .lst ds ∨ y = .tup ds) (q : φ (.int ds.length)) :
    CbD (fun xs H Q => ∃ p ys, xs = [.ref p] ∧ (SqL K H p ys ∨ SqT K H p ys) ∧ Q (.int ys.length) H) [y] φ := fun G H vs s a Q k => by
  cases a with
  | cons a t =>
    cases t
    rcases e with rfl | rfl
    · obtain ⟨p0, xs, rfl, ha, al⟩ := at_lst a
      refine ⟨p0, xs, rfl, .inl (sqL_of s ha), ?_⟩
      rw [al.length]
      exact k _ _ G H .refl s (.int _) q
    · obtain ⟨p0, xs, rfl, ha, al⟩ := at_tup a
      refine ⟨p0, xs, rfl, .inr (sqT_of s ha), ?_⟩
      rw [al.length]
      exact k _ _ G H .refl s (.int _) q
theorem cbd_lenS {z : Str} (l : z.length ≤ 1000) (q : φ (.int z.length)) : CbD (fun xs H Q => ∃ z, xs = [.str z] ∧ z.length ≤ sizeLine ∧ Q (.int z.length) H) [.str z] φ := fun G H vs s a Q k => by
  cases a with
  | cons a t =>
    cases t
    cases a
    exact ⟨z, rfl, Nat.le_trans l (by decide), k _ _ G H .refl s (.int _) q⟩
theorem cbd_all {bs : List Bool} (q : φ (.bl (bs.all id))) : CbD (rAll K) [.lst (bs.map D.bl)] φ := fun G H vs s a Q k => by
  cases a with
  | cons a t =>
    cases t
    obtain ⟨p0, xs, rfl, ha, al⟩ := at_lst a
    obtain rfl := bls_atAll al
    exact ⟨p0, bs, rfl, sqL_of s ha, k _ _ G H .refl s (.bl _) q⟩
/-- is every item so -/
theorem cbd_allm {ds : List D} {f : D → Bool} (q : φ (.bl (ds.all f))) : CbD (rAll K) [.lst (ds.map fun d => D.bl (f d))] φ := by
  have e : (ds.map fun d => D.bl (f d)) = (ds.map f).map D.bl := by rw [List.map_map]; rfl
  rw [e]
  refine cbd_all ?_
  rw [List.all_map]
  exact q
theorem cbd_sorted {zs : List Int} (q : ∀ ys : List Int, ys.Perm zs → ys.Pairwise (· ≤ ·) → φ (.lst (ys.map D.int))) : CbD (rSortedI K) [.lst (zs.map D.int)] φ := fun G H vs s a Q k => by
  cases a with
  | cons a t =>
    cases t
    obtain ⟨p0, xs, rfl, ha, al⟩ := at_lst a
    obtain rfl := atAll_ints al
    refine ⟨p0, zs, rfl, sqL_of s ha, fun ys p h1 h2 hp => ?_⟩
    have st : Stp S0 G H (upd G p (.lst (ys.map V.int))) (upd H p (.lst (ys.map V.int))) := .new s hp
    exact k _ _ _ _ st (upd_same2 s) (.lst upd_same (ints_atAll ys)) (q ys h1 h2)
theorem cbd_tupL {ds : List D} (q : φ (.tup ds)) : CbD (rTupLF K) [.lst ds] φ := fun G H vs s a Q k => by
  cases a with
  | cons a t =>
    cases t
    obtain ⟨p0, xs, rfl, ha, al⟩ := at_lst a
    refine ⟨p0, xs, rfl, .inl ⟨sqL_of s ha, fun p o hp hd => ?_⟩⟩
    have st : Stp S0 G H (upd G p (TpO o xs)) (upd H p (TpO o xs)) := .new s hp
    exact k _ _ _ _ st (upd_same2 s) (.tup (.inl ⟨_, upd_same, hd⟩) (al.same st.gs)) q
theorem cbd_lstOf {ds : List D} {y : D} (e : y = .lst ds ∨ y = .tup ds) (q : φ (.lst ds)) :
    CbD (fun xs H Q => ∃ p ys, xs = [.ref p] ∧ (SqL K H p ys ∨ SqT K H p ys) ∧ ∀ l, H l = none → Q (.ref l) (upd H l (.lst ys))) [y] φ := fun G H vs s a Q k => by
  cases a with
  | cons a t =>
    cases t
    rcases e with rfl | rfl
    · obtain ⟨p0, xs, rfl, ha, al⟩ := at_lst a
      refine ⟨p0, xs, rfl, .inl (sqL_of s ha), fun p hp => ?_⟩
      have st : Stp S0 G H (upd G p (.lst xs)) (upd H p (.lst xs)) := .new s hp
      exact k _ _ _ _ st (upd_same2 s) (.lst upd_same (al.same st.gs)) q
    · obtain ⟨p0, xs, rfl, ha, al⟩ := at_tup a
      refine ⟨p0, xs, rfl, .inr (sqT_of s ha), fun p hp => ?_⟩
      have st : Stp S0 G H (upd G p (.lst xs)) (upd H p (.lst xs)) := .new s hp
      exact k _ _ _ _ st (upd_same2 s) (.lst upd_same (al.same st.gs)) q
/-! kinds -/
def isIntD : D → Bool
  | .int _ => true
  | .bl _ => true
  | _ => false
def isBlD : D → Bool
  | .bl _ => true
  | _ => false
def isStrD : D → Bool
  | .str _ => true
  | _ => false
def isTupD : D → Bool
  | .tup _ => true
  | _ => false
/-- no instance, no class -/
def plnD : D → Bool
  | .ins _ _ _ => false
  | .ty _ => false
  | .dct _ _ => false
  | _ => true
theorem ty_of {G H : Hp} {v : V} {d : D} (s : Same G H) (a : At G v d) (p : plnD d = true) : ∃ T : String, TyX K H v (.type T) ∧ PySem.W.kitOne K (.type T) (.type "int") = some (isIntD d) ∧
    PySem.W.kitOne K (.type T) (.type "bool") = some (isBlD d) ∧ PySem.W.kitOne K (.type T) (.type "str") = some (isStrD d) ∧ PySem.W.kitOne K (.type T) (.type "tuple") = some (isTupD d) := by
  cases a with
  | non => exact ⟨_, .base .non, kit_ty (show kitB "NoneType" "int" = some false by decide +kernel), kit_ty (show kitB "NoneType" "bool" = some false by decide +kernel), kit_ty (show kitB "NoneType" "str" = some false by decide +kernel), kit_ty (show kitB "NoneType" "tuple" = some false by decide +kernel)⟩
  | bl b => exact ⟨_, .base (.bl b), kit_ty (show kitB "bool" "int" = some true by decide +kernel), kit_ty (show kitB "bool" "bool" = some true by decide +kernel), kit_ty (show kitB "bool" "str" = some false by decide +kernel), kit_ty (show kitB "bool" "tuple" = some false by decide +kernel)⟩
  | int i => exact ⟨_, .base (.int i), kit_ty (show kitB "int" "int" = some true by decide +kernel), kit_ty (show kitB "int" "bool" = some false by decide +kernel), kit_ty (show kitB "int" "str" = some false by decide +kernel), kit_ty (show kitB "int" "tuple" = some false by decide +kernel)⟩
  | str x => exact ⟨_, .base (.str x), kit_ty (show kitB "str" "int" = some false by decide +kernel), kit_ty (show kitB "str" "bool" = some false by decide +kernel), kit_ty (show kitB "str" "str" = some true by decide +kernel), kit_ty (show kitB "str" "tuple" = some false by decide +kernel)⟩
  | lst e t => exact ⟨_, .base (.lst (s _ _ e)), kit_ty (show kitB "list" "int" = some false by decide +kernel), kit_ty (show kitB "list" "bool" = some false by decide +kernel), kit_ty (show kitB "list" "str" = some false by decide +kernel), kit_ty (show kitB "list" "tuple" = some false by decide +kernel)⟩
  | tup e t =>
    replace e := e.rd
    rcases e with e | ⟨o, e⟩
    · exact ⟨_, .base (.tup (s _ _ e)), kit_ty (show kitB "tuple" "int" = some false by decide +kernel), kit_ty (show kitB "tuple" "bool" = some false by decide +kernel), kit_ty (show kitB "tuple" "str" = some false by decide +kernel), kit_ty (show kitB "tuple" "tuple" = some true by decide +kernel)⟩
    · exact ⟨_, .fTuple (s _ _ e), kit_ty (show kitB "tuple" "int" = some false by decide +kernel), kit_ty (show kitB "tuple" "bool" = some false by decide +kernel), kit_ty (show kitB "tuple" "str" = some false by decide +kernel), kit_ty (show kitB "tuple" "tuple" = some true by decide +kernel)⟩
  | dic e t => exact ⟨_, .base (.dK (s _ _ e)), kit_ty (show kitB "dict" "int" = some false by decide +kernel), kit_ty (show kitB "dict" "bool" = some false by decide +kernel), kit_ty (show kitB "dict" "str" = some false by decide +kernel), kit_ty (show kitB "dict" "tuple" = some false by decide +kernel)⟩
  | ty T => cases p
  | ins e t => cases p
  | dct e t => cases p
theorem cbd_isI {d : D} (p : plnD d = true) (q : φ (.bl (isIntD d))) : CbD (rIsi K) [d, .ty "int"] φ := fun G H vs s a Q k => by
  cases a with
  | cons a t => cases t with
    | cons b t =>
      cases t
      cases b
      obtain ⟨T, h1, h2, h3, h4, h5⟩ := ty_of (K := K) s a p
      exact ⟨_, _, _, _, _, rfl, .ty _, h1, h2, k _ _ G H .refl s (.bl _) q⟩
theorem cbd_isB {d : D} (p : plnD d = true) (q : φ (.bl (isBlD d))) : CbD (rIsi K) [d, .ty "bool"] φ := fun G H vs s a Q k => by
  cases a with
  | cons a t => cases t with
    | cons b t =>
      cases t
      cases b
      obtain ⟨T, h1, h2, h3, h4, h5⟩ := ty_of (K := K) s a p
      exact ⟨_, _, _, _, _, rfl, .ty _, h1, h3, k _ _ G H .refl s (.bl _) q⟩
theorem cbd_isS {d : D} (p : plnD d = true) (q : φ (.bl (isStrD d))) : CbD (rIsi K) [d, .ty "str"] φ := fun G H vs s a Q k => by
  cases a with
  | cons a t => cases t with
    | cons b t =>
      cases t
      cases b
      obtain ⟨T, h1, h2, h3, h4, h5⟩ := ty_of (K := K) s a p
      exact ⟨_, _, _, _, _, rfl, .ty _, h1, h4, k _ _ G H .refl s (.bl _) q⟩
theorem cbd_isT {d : D} (p : plnD d = true) (q : φ (.bl (isTupD d))) : CbD (rIsi K) [d, .ty "tuple"] φ := fun G H vs s a Q k => by
  cases a with
  | cons a t => cases t with
    | cons b t =>
      cases t
      cases b
      obtain ⟨T, h1, h2, h3, h4, h5⟩ := ty_of (K := K) s a p
      exact ⟨_, _, _, _, _, rfl, .ty _, h1, h5, k _ _ G H .refl s (.bl _) q⟩
theorem wpe_ty {T : String} (q : φ (.ty T)) : WpE R (tC (.ty T)) δ φ := fun σ G H en rz Q k => k _ _ G H .refl en (.ty T) q
end
end Nv
/-! Nv, part U: promises of defs over data; calls; lists that a slot owns. -/
namespace Nv
open PySem PySem.Spec PyProof.Rows L2
variable [Tb] [Ls]

/-- what a def over data wants, tells, and raises -/
structure Spc where
  pre : List Sl → Prop
  post : List Sl → D → Prop
  err : List Sl → Addr → D → Prop := fun _ _ _ => False
/-- what is raised -/
def RzW (S : Addr → Prop) (E : XK) (X : Addr → D → Prop) (G H : Hp) : Prop := ∀ C dd w d G' H', Stp S G H G' H' → H' dd = some (.xd (whatF w)) → At G' w d → X C d → Same G' H' → StO S G' H' → E (.ref C) (some dd) H'
def spW (c : Spc) (n : Nat) : Sp := fun vs H Q E => ∃ (S : Addr → Prop) (G : Hp) (as : List Sl), as.length = n ∧ Same G H ∧ StO S G H ∧ Args S G as vs ∧ c.pre as ∧
  (∀ v d G' H', Stp S G H G' H' → Same G' H' → StO S G' H' → At G' v d → c.post as d → Q v H') ∧ RzW S E (c.err as) G H
theorem replicate_get {α : Type} {n i : Nat} {x y : α} (h : (List.replicate n x)[i]? = some y) : y = x := by
  rw [List.getElem?_replicate] at h
  split at h
  · exact (Option.some.inj h).symm
  · exact nomatch h
theorem ens_start {S : Addr → Prop} {F : Addr → HO → Prop} {G H : Hp} {N : List Str} {vs : List V} {as : List Sl} (sm : Same G H) (st : StO S G H) (ar : Args S G as vs)
    (hF : ∀ b u, F b u → H b = some u ∧ ¬ S b ∧ H b ≠ none) : Ens ⟨fun b => H b ≠ none, S, F⟩ G H (as ++ List.replicate (N.length - as.length) .no) (L2.start N vs) := by
  have e := ar.length
  refine ⟨sm, by unfold L2.start; rw [List.length_append, List.length_append, List.length_map, List.length_replicate, List.length_replicate, e], fun i s h => ?_, st, fun b h => h, hF, fun i j a ds es h1 _ => ?_, fun i j a ds es h1 _ => ?_⟩
  · unfold L2.start
    by_cases lt : i < as.length
    · rw [List.getElem?_append_left lt] at h
      rw [List.getElem?_append_left (by rw [List.length_map, ← e]; exact lt)]
      obtain ⟨v, h2, r⟩ := ar.get h
      refine ⟨some v, by rw [List.getElem?_map, h2]; rfl, ?_⟩
      cases s with
      | no => trivial
      | fx _ => exact r.elim
      | da d => exact ⟨v, rfl, r⟩
      | st a =>
        obtain ⟨r1, r2⟩ := r
        exact ⟨by rw [r1], r2⟩
      | ow _ _ => exact r.elim
      | od _ _ => exact r.elim
      | fz a ds =>
        obtain ⟨r1, r2⟩ := r
        exact ⟨by rw [r1], r2⟩
    · rw [List.getElem?_append_right (by omega)] at h
      have hs := replicate_get h
      subst hs
      rw [List.getElem?_append_right (by rw [List.length_map]; omega), List.length_map]
      have lt2 := (List.getElem?_eq_some_iff.mp h).1
      rw [List.length_replicate] at lt2
      exact ⟨none, by rw [List.getElem?_replicate, if_pos (by omega)], trivial⟩
  · exfalso
    by_cases lt : i < as.length
    · rw [List.getElem?_append_left lt] at h1
      obtain ⟨v, _, r⟩ := ar.get h1
      exact r.elim
    · rw [List.getElem?_append_right (by omega)] at h1
      exact nomatch replicate_get h1
  · exfalso
    by_cases lt : i < as.length
    · rw [List.getElem?_append_left lt] at h1
      obtain ⟨v, _, r⟩ := ar.get h1
      exact r.elim
    · rw [List.getElem?_append_right (by omega)] at h1
      exact nomatch replicate_get h1
theorem RzW.rz {S : Addr → Prop} {E : XK} {X : Addr → D → Prop} {F : Addr → HO → Prop} {G H : Hp} (r : RzW S E X G H) : Rz ⟨E, X, ⟨fun b => H b ≠ none, S, F⟩⟩ G H :=
  fun C dd w d G' H' s => r C dd w d G' H' s.full
/-- from the reading over data to the promise -/
theorem wps_run {N : List Str} {c : Spc} {n : Nat} {t : TS} {vs : List V} {H : Hp} {Q : VK} {E : XK} {S : Addr → Prop} {G : Hp} {as : List Sl} (l : as.length = n) (sm : Same G H) (st : StO S G H) (ar : Args S G as vs)
    (k : ∀ v d G' H', Stp S G H G' H' → Same G' H' → StO S G' H' → At G' v d → c.post as d → Q v H') (r : RzW S E (c.err as) G H)
    (h : ∀ T : Tr, WpS ⟨E, c.err as, T⟩ t (as ++ List.replicate (N.length - n) .no) (fun _ => c.post as .non) (c.post as)) :
    t { nx := fun _ H' => Q .non H', rt := Q } (L2.start N vs) H := by
  subst l
  refine h ⟨fun b => H b ≠ none, S, fun _ _ => False⟩ _ G H (ens_start sm st ar fun _ _ z => z.elim) r.rz _ (fun δ' σ' G' H' sB en q => ?_) fun v d G' H' sB sm' so a q => ?_
  · exact k _ _ G' H' sB.full en.same en.stt .non q
  · exact k v d G' H' sB.full sm' so a q
section
variable {P : Program} {w : World} {K : PySem.W.Frag} {mg : Str → Option Value} {base : Heap}
/-- a def as it stands behind the top -/
structure Fn (K : PySem.W.Frag) (mg : Str → Option Value) (x : Str) (st : Stmt) (ps : List Str) (f : Addr) (fd : FuncData) : Prop where
  F : Fun K x x st f fd
  m : mg x = some (.ref f)
  b : Binds K fd ps []
/-- such a def keeps a promise -/
structure Dk (P : Program) (w : World) (K : PySem.W.Frag) (mg : Str → Option Value) (base : Heap) (x : Str) (CX : CXT) (k : Nat) (ps : List Str) (sp : Sp) : Prop where
  ex : ∃ f fd, FnOk P w K mg base CX k f fd ps sp ∧ mg x = some (.ref f) ∧ PySem.W.keepIn K (.ref f) = true ∧ Binds K fd ps []
theorem Dk.mono {x : Str} {CX : CXT} {k j : Nat} {ps : List Str} {sp : Sp} (h : Dk P w K mg base x CX k ps sp) (l : k ≤ j) : Dk P w K mg base x CX j ps sp := by
  obtain ⟨f, fd, F, r⟩ := h.ex
  exact ⟨f, fd, F.mono l, r⟩
theorem Fn.ok {x : Str} {st : Stmt} {N ps : List Str} {f : Addr} {fd : FuncData} {n k : Nat} {c : Spc} (F : Fn K mg x st ps f fd) (S : FnScope N ps (defScope st)) (hn : ps.length = n)
    (h : ∀ (cdv : Value) (A : Around) (outer : List Env) (s : Shared) (H : Hp) (E : XK) (as : List Sl), Room k (A.deeper (envOfC x (defScope st) s.heap.objs.size f cdv)) → c.pre as → as.length = n →
      ∃ t, PSs (cxOf CX0 P w K mg base N x (defScope st) f cdv A outer s H E).nox (defBody st) t ∧
        ∀ T : Tr, WpS ⟨E, c.err as, T⟩ t (as ++ List.replicate (N.length - n) .no) (fun _ => c.post as .non) (c.post as)) :
    Dk P w K mg base x CX0 (k + 1) ps (spW c n) := by
  refine ⟨f, fd, F.F.ok S (fun vs H Q E h => ?_) (fun cdv A outer s H vs Q E hr q => ?_), F.m, F.F.kp, F.b⟩
  · obtain ⟨S, G, as, l, _, _, ar, _⟩ := h
    rw [← ar.length, l, hn]
  · obtain ⟨S, G, as, l, sm, so, ar, p, k, r⟩ := q
    obtain ⟨t, h1, h2⟩ := h cdv A outer s H E as hr p l
    exact ⟨t, h1, wps_run l sm so ar k r h2⟩
end
section
variable {X : Cx} {CX : CXT} {k : Nat} {ps : List Str} {sp : Sp} {E : XK} {x : Str} {p pos : Pos} {e : Expr} {es : List Expr} {t : TA}
/-- f(e, ..) -/
theorem pe_callD (F : Dk X.prog X.w X.K X.mg X.base x CX k ps sp) (hr : Room k X.A) (hg : Gl X x) (hx : Passes CX X E) (ha : PA X (e :: es) t)
    (hdb : (x == ("__debug__" : Str)) = false := by decide)
    (he : starEach (e :: es) X.env = (false, eval e X.env) :: starEach es X.env := by rfl)
    (hpl : (backTo pos (starEach es X.env)).any (·.1) = false := by rfl) :
    PE X (.Call (.Name x p) (e :: es) [] pos) (tCall sp [] E t) := by
  obtain ⟨f, fd, h1, h2, h3, h4⟩ := F.ex
  exact pe_call h1 hr hg h2 h3 h4 .nil hx ha hdb he hpl
end
theorem AtAll.setD {G : Hp} : ∀ {vs : List V} {ds : List D}, AtAll G vs ds → ∀ {v : V} {d : D}, At G v d → ∀ {n : Nat}, AtAll G (vs.set n v) (ds.set n d)
  | _, _, .nil, _, _, _, _ => .nil
  | _, _, .cons a b, _, _, h, 0 => .cons h b
  | _, _, .cons a b, _, _, h, _ + 1 => .cons a (AtAll.setD b h)
section
variable {R : Rg} {δ : List Sl} {te ta tb tc : TE} {t u : TT} {tr : TA} {φ : D → Prop} {K : PySem.W.Frag}
theorem wpe_call {c : Spc} {n : Nat} (h : WpA R tr δ fun as => as.length = n ∧ c.pre as ∧ (∀ d, c.post as d → φ d) ∧ ∀ C d, c.err as C d → R.X C d) : WpE R (tCall (spW c n) [] R.E tr) δ φ := fun σ G H en rz Q k =>
  h σ G H en rz _ fun vs as G1 H1 s1 e1 a1 ⟨l, p, q, r⟩ => by
    show spW c n (vs ++ []) H1 Q R.E
    rw [List.append_nil]
    refine ⟨R.T.S, G1, as, l, e1.same, e1.stt, a1, p, fun v d G' H' st sm so a pq => k v d G' H' (s1.trans st) (e1.step st (fun _ z => z) sm so) a (q d pq), fun C dd w d G' H' st hx a x sm so => ?_⟩
    exact rz C dd w d G' H' ((s1.toB en.old).trans (st.toB e1.old)) hx a (r C d x) sm so
/-- a def that raises nothing, any E -/
theorem wpe_call0 {c : Spc} {n : Nat} {E : XK} (h : WpA R tr δ fun as => as.length = n ∧ c.pre as ∧ (∀ d, c.post as d → φ d) ∧ ∀ C d, ¬ c.err as C d) : WpE R (tCall (spW c n) [] E tr) δ φ := fun σ G H en rz Q k =>
  h σ G H en rz _ fun vs as G1 H1 s1 e1 a1 ⟨l, p, q, r⟩ => by
    show spW c n (vs ++ []) H1 Q E
    rw [List.append_nil]
    exact ⟨R.T.S, G1, as, l, e1.same, e1.stt, a1, p, fun v d G' H' st sm so a pq => k v d G' H' (s1.trans st) (e1.step st (fun _ z => z) sm so) a (q d pq), fun C dd w d G' H' st hx a x => (r C d x).elim⟩
/-! ### lists that a slot owns -/
theorem Ens.grow {T : Tr} {G H H' : Hp} {σ : L2.St} (en : Ens T G H δ σ) (s : Same H H') : Ens T G H' δ σ :=
  en.step (S' := S0) (Stp.grow s) (fun _ z => z.elim) (en.same.trans s) sto0
theorem Ens.own {T : Tr} {G H : Hp} {σ : L2.St} (en : Ens T G H δ σ) {i : Nat} {p : Addr} (hp : H p = none) : Ens T G (upd H p (.lst [])) (δ.set i (.ow p [])) (σ.set i (some (.ref p))) := by
  have e1 : Ens T G (upd H p (.lst [])) δ σ := en.grow (same_upd hp)
  have nS : ¬ T.S p := fun z => by
    obtain ⟨_, w, e, _⟩ := en.stt p z
    rw [hp] at e
    exact nomatch e
  have nO : ¬ T.O p := fun z => en.old p z hp
  have nG : G p = none := en.same.free hp
  have no : ∀ (k : Nat) (ds : List D), ¬ δ[k]? = some (.ow p ds) := fun k ds z => by
    obtain ⟨o, _, _, _, _, xs, r, _⟩ := en.get k _ z
    rw [hp] at r
    exact nomatch r
  refine ⟨e1.same, by rw [List.length_set, List.length_set]; exact e1.len, fun j s e => ?_, e1.stt, e1.old, e1.inv, fun j k a ds es q1 q2 => ?_, fun j k a ds es q1 q2 => ?_⟩
  · rcases get_set e with ⟨rfl, rfl⟩ | ⟨ne, e⟩
    · have lt : j < σ.length := by
        rw [← e1.len]
        have := (List.getElem?_eq_some_iff.mp e).1
        rw [List.length_set] at this
        exact this
      exact ⟨some (.ref p), List.getElem?_set_self lt, rfl, ⟨nS, nO⟩, nG, [], upd_same, .nil⟩
    · obtain ⟨o, e2, r⟩ := e1.get j s e
      exact ⟨o, by rw [List.getElem?_set_ne (fun z => ne z.symm)]; exact e2, r⟩
  · rcases get_set q1 with ⟨rfl, z⟩ | ⟨n1, m1⟩
    · rcases get_set q2 with ⟨rfl, _⟩ | ⟨n2, m2⟩
      · rfl
      · obtain ⟨rfl, rfl⟩ := Sl.ow.inj z
        exact (no k es m2).elim
    · rcases get_set q2 with ⟨rfl, z⟩ | ⟨n2, m2⟩
      · obtain ⟨rfl, rfl⟩ := Sl.ow.inj z
        exact (no j ds m1).elim
      · exact e1.nd j k a ds es m1 m2
  · rcases get_set q1 with ⟨_, z⟩ | ⟨_, m1⟩
    · exact nomatch z
    · rcases get_set q2 with ⟨_, z⟩ | ⟨_, m2⟩
      · exact nomatch z
      · exact e1.nd2 j k a ds es m1 m2
/-- x = [] -/
theorem wps_newl {i : Nat} {Φ : List Sl → Prop} {Ψ : D → Prop} (h : ∀ p, Φ (δ.set i (.ow p []))) : WpS R (tAsg (tLst tNil) (gName i)) δ Φ Ψ := fun σ G H en rz Z k1 k2 =>
  ⟨Nat.zero_le _, fun p hp => k1 _ _ G _ ((Stp.grow (same_upd hp)).toB en.old) (en.own hp) (h p)⟩
/-- the list of slot i changed -/
theorem Ens.put {T : Tr} {G H : Hp} {σ : L2.St} (en : Ens T G H δ σ) {i : Nat} {p : Addr} {ds es : List D} {ys : List V} (e : δ[i]? = some (.ow p ds)) (a : AtAll G ys es) :
    Ens T G (upd H p (.lst ys)) (δ.set i (.ow p es)) σ := by
  obtain ⟨o, e1, rfl, nS, nG, xs, hx, al⟩ := en.get i _ e
  refine ⟨fun b u q => ?_, by rw [List.length_set]; exact en.len, fun j s q => ?_, fun b q => ?_, fun b q => ?_, fun b u q => ?_, fun j k b fs gs q1 q2 => ?_, fun j k b fs gs q1 q2 => ?_⟩
  · rw [upd_ne (fun z => by rw [z, nG] at q; exact nomatch q)]
    exact en.same b u q
  · rcases get_set q with ⟨rfl, rfl⟩ | ⟨ne, m⟩
    · exact ⟨_, e1, rfl, nS, nG, ys, upd_same, a⟩
    · obtain ⟨o, q2, r⟩ := en.get j s m
      refine ⟨o, q2, ?_⟩
      cases s with
      | no => trivial
      | fx v => exact r
      | da d => exact r
      | fz _ _ => exact r
      | st b => exact r
      | ow b fs =>
        obtain ⟨r1, r2, r3, zs, r4, r5⟩ := r
        have nb : b ≠ p := fun z => ne (by subst z; exact en.nd j i b fs ds m e)
        exact ⟨r1, r2, r3, zs, by rw [upd_ne nb]; exact r4, r5⟩
      | od b ks =>
        obtain ⟨r1, r2, r3, r4, r5⟩ := r
        have nb : b ≠ p := fun z => by rw [z, hx] at r4; exact Oo.nl r4
        exact ⟨r1, r2, r3, by rw [upd_ne nb]; exact r4, r5⟩
  · obtain ⟨g, w, q2, mo⟩ := en.stt b q
    exact ⟨g, w, by rw [upd_ne (fun z => nS.1 (by rw [← z]; exact q))]; exact q2, mo⟩
  · by_cases z : b = p
    · rw [z, upd_same]; exact fun q => nomatch q
    · rw [upd_ne z]; exact en.old b q
  · obtain ⟨f1, f2⟩ := en.inv b u q
    refine ⟨?_, f2⟩
    rw [upd_ne (fun z => nS.2 (by rw [← z]; exact f2.2))]
    exact f1
  · rcases get_set q1 with ⟨rfl, z⟩ | ⟨n1, m1⟩
    · obtain ⟨rfl, rfl⟩ := Sl.ow.inj z
      rcases get_set q2 with ⟨rfl, _⟩ | ⟨n2, m2⟩
      · rfl
      · exact en.nd j k _ ds gs e m2
    · rcases get_set q2 with ⟨rfl, z⟩ | ⟨n2, m2⟩
      · obtain ⟨rfl, rfl⟩ := Sl.ow.inj z
        exact en.nd j k _ fs ds m1 e
      · exact en.nd j k b fs gs m1 m2
  · rcases get_set q1 with ⟨_, z⟩ | ⟨_, m1⟩
    · exact nomatch z
    · rcases get_set q2 with ⟨_, z⟩ | ⟨_, m2⟩
      · exact nomatch z
      · exact en.nd2 j k b fs gs m1 m2
theorem Ens.putB {T : Tr} {G H : Hp} {σ : L2.St} (en : Ens T G H δ σ) {i : Nat} {p : Addr} {ds : List D} {ys : List V} (e : δ[i]? = some (.ow p ds)) : StB T.O T.S G H G (upd H p (.lst ys)) := by
  obtain ⟨o, e1, rfl, nS, nG, xs, hx, al⟩ := en.get i _ e
  exact ⟨.refl _, fun b u o q n => by rw [upd_ne (fun z => nS.2 (by rw [← z]; exact o))]; exact q, fun b q => by
    by_cases z : b = p
    · rw [z, upd_same]; exact fun q => nomatch q
    · rw [upd_ne z]; exact q, fun b _ q => q⟩
/-- x.append(e) -/
theorem wps_append {i : Nat} {p : Addr} {ds : List D} {Φ : List Sl → Prop} {Ψ : D → Prop} (e : δ[i]? = some (.ow p ds)) (l : ds.length ≤ 100000) (h : WpE R te δ fun d => Φ (δ.set i (.ow p (ds ++ [d])))) :
    WpS R (tDrop (tBM K "list" rAppend (tVar i) (tCons te tNil))) δ Φ Ψ := fun σ G H en rz Z k1 k2 => by
  obtain ⟨o, e1, rfl, nS, nG, xs, hx, al⟩ := en.get i _ e
  refine ⟨_, e1, .inl ⟨rfl, xs, .inl (.inl hx)⟩, h σ G H en rz _ fun v d G1 H1 s1 en1 a q => ?_⟩
  obtain ⟨o, _, e2, nS1, nG1, ys, hy, bl⟩ := en1.get i _ e
  have hy2 := s1.hs _ _ hx nS.1
  rw [hy] at hy2
  obtain rfl := HO.lst.inj (Option.some.inj hy2)
  refine ⟨_, ys, v, rfl, rfl, hy, by rw [bl.length]; exact Nat.lt_of_le_of_lt l (by decide), ?_⟩
  exact k1 _ _ G1 _ ((s1.toB en.old).trans (en1.putB e)) (en1.put e (bl.app (.cons a .nil))) q
/-- x[j] = e -/
theorem wps_store {i : Nat} {p : Addr} {ds : List D} {Φ : List Sl → Prop} {Ψ : D → Prop} (e : δ[i]? = some (.ow p ds)) (h : WpE R te δ fun d => WpE R ta δ fun j => ∃ n : Nat, j = .int n ∧ n < ds.length ∧ Φ (δ.set i (.ow p (ds.set n d)))) :
    WpS R (tAsg te (gSub (tVar i) ta rSetL)) δ Φ Ψ := fun σ G H en rz Z k1 k2 =>
  h σ G H en rz _ fun v d G1 H1 s1 en1 a h2 => by
    obtain ⟨o, e1, rfl, nS, nG, xs, hx, al⟩ := en1.get i _ e
    refine ⟨_, e1, h2 σ G1 H1 en1 (rz.stepB (s1.toB en.old)) _ fun w j G2 H2 s2 en2 a2 ⟨n, ej, lt, q⟩ => ?_⟩
    subst ej
    cases a2
    obtain ⟨o, _, e2, nS1, nG1, ys, hy, bl⟩ := en2.get i _ e
    have hy2 := s2.hs _ _ hx nS.1
    rw [hy] at hy2
    obtain rfl := HO.lst.inj (Option.some.inj hy2)
    refine ⟨_, ys, _, n, rfl, rfl, hy, ?_, ?_⟩
    · have := bl.length
      unfold ixN
      rw [if_pos (by omega), if_pos (by omega), Int.toNat_natCast]
    · exact k1 _ _ G2 _ (((s1.toB en.old).trans (s2.toB en1.old)).trans (en2.putB e)) (en2.put e (bl.setD (a.same s2.gs))) q
/-- x[j], the list of slot i read -/
theorem wpe_ixO {i : Nat} {p : Addr} {ds : List D} (e : δ[i]? = some (.ow p ds)) (h : WpE R ta δ fun j => ∃ (n : Nat) (d : D), j = .int n ∧ ds[n]? = some d ∧ φ d) : WpE R (tOp (rIx K) (tVar i) ta) δ φ := fun σ G H en rz Q k => by
  obtain ⟨o, e1, rfl, nS, nG, xs, hx, al⟩ := en.get i _ e
  refine ⟨_, e1, h σ G H en rz _ fun w j G2 H2 s2 en2 a2 ⟨n, d, ej, ed, q⟩ => ?_⟩
  subst ej
  cases a2
  have al2 := al.same s2.gs
  obtain ⟨v, ev, av⟩ := al2.get ed
  exact .inl ⟨p, xs, _, v, rfl, rfl, .inl (.inl (s2.hs _ _ hx nS.1)), atI_nat ev, k v d G2 H2 s2 en2 av q⟩
/-- j in x, the list of slot i read -/
theorem wpe_inO {neg : Bool} {i : Nat} {p : Addr} {zs : List Int} (e : δ[i]? = some (.ow p (zs.map D.int))) (h : WpE R ta δ fun j => ∃ n : Int, j = .int n ∧ φ (.bl (if neg then !decide (n ∈ zs) else decide (n ∈ zs)))) :
    WpE R (tOp (rIn K neg) ta (tVar i)) δ φ := fun σ G H en rz Q k =>
  h σ G H en rz _ fun w j G2 H2 s2 en2 a2 ⟨n, ej, q⟩ => by
    subst ej
    cases a2
    obtain ⟨o, e1, rfl, nS, nG, xs, hx, al⟩ := en2.get i _ e
    obtain rfl := atAll_ints al
    have fl : (zs.map V.int).all flatV = true := by
      rw [List.all_map]
      exact List.all_eq_true.mpr fun _ _ => rfl
    refine ⟨_, e1, p, _, rfl, .inl (.inl (.inl hx)), rfl, fl, ?_⟩
    rw [inV_ints]
    exact k _ _ G2 H2 s2 en2 (.bl _) q
end
end Nv
/-! Nv, part V: promises by number of arguments; the word wp. -/
namespace Nv
open PySem PySem.Spec PyProof.Rows L2
variable [Tb] [Ls]
theorem ite_b {b : Bool} {p q : Prop} (h1 : b = true → p) (h2 : b = false → q) : if b = true then p else q := by
  cases b with
  | true => exact h1 rfl
  | false => exact h2 rfl
theorem ite_t {p q : Prop} (h : p) : if true = true then p else q := h
theorem ite_f {p q : Prop} (h : q) : if false = true then p else q := h
/-- what a name of the module holds -/
structure Gv (mg : Str → Option Value) (x : Str) (v : V) : Prop where
  ex : ∃ u, mg x = some u ∧ RelV v u
theorem pe_gv {X : Cx} {x : Str} {v : V} {pos : Pos} (g : Gv X.mg x v) (hg : Gl X x) (hdb : (x == ("__debug__" : Str)) = false := by decide) : PE X (.Name x pos) (tC v) := by
  obtain ⟨u, h, r⟩ := g.ex
  exact pe_glob hg h r hdb
/-- built-in names -/
structure Bly (mg : Str → Option Value) : Prop where
  len : mg "len" = none
  int : mg "int" = none
  bool : mg "bool" = none
  str : mg "str" = none
  tuple : mg "tuple" = none
  list : mg "list" = none
  abs : mg "abs" = none
  isi : mg "isinstance" = none
  rng : mg "range" = none
  zip : mg "zip" = none
  enu : mg "enumerate" = none
  all : mg "all" = none
  srt : mg "sorted" = none
theorem b_len : bootBuiltins "len" = some (.builtin "len") := by decide +kernel
theorem b_all : bootBuiltins "all" = some (.builtin "all") := by decide +kernel
theorem b_sorted : bootBuiltins "sorted" = some (.builtin "sorted") := by decide +kernel
theorem b_abs : bootBuiltins "abs" = some (.builtin "abs") := by decide +kernel
theorem b_isinstance : bootBuiltins "isinstance" = some (.builtin "isinstance") := by decide +kernel
theorem b_int : bootBuiltins "int" = some (.type "int") := by decide +kernel
theorem b_bool : bootBuiltins "bool" = some (.type "bool") := by decide +kernel
theorem b_str : bootBuiltins "str" = some (.type "str") := by decide +kernel
theorem b_tuple : bootBuiltins "tuple" = some (.type "tuple") := by decide +kernel
theorem b_list : bootBuiltins "list" = some (.type "list") := by decide +kernel
section
variable {R : Rg} {δ : List Sl} {te ta tb tc : TE} {t u : TT} {tr : TA} {φ : D → Prop} {K : PySem.W.Frag}
theorem wpe_cb1 {r : List V → Hp → VK → Prop} (h : WpE R ta δ fun x => CbD r [x] φ) : WpE R (tCB r (tCons ta tNil)) δ φ := wpe_cb (wpa_cons (wpe_mono h fun x q => wpa_nil ⟨[x], rfl, q⟩))
theorem wpe_cb2 {r : List V → Hp → VK → Prop} (h : WpE R ta δ fun x => WpE R tb δ fun y => CbD r [x, y] φ) : WpE R (tCB r (tCons ta (tCons tb tNil))) δ φ :=
  wpe_cb (wpa_cons (wpe_mono h fun x q => wpa_cons (wpe_mono q fun y q => wpa_nil ⟨[x, y], rfl, q⟩)))
/-- arguments that are data -/
def WpL (R : Rg) (t : TA) (δ : List Sl) (φ : List D → Prop) : Prop := WpA R t δ fun as => ∃ ds, as = ds.map Sl.da ∧ φ ds
theorem wpl_nil {φ : List D → Prop} (q : φ []) : WpL R tNil δ φ := wpa_nil ⟨[], rfl, q⟩
theorem wpa_mono {φ ψ : List Sl → Prop} (h : WpA R tr δ φ) (m : ∀ d, φ d → ψ d) : WpA R tr δ ψ := fun σ G H en rz Q q => h σ G H en rz Q fun vs as G' H' a b c e => q vs as G' H' a b c (m as e)
theorem wpl_cons {φ : List D → Prop} (h : WpE R te δ fun d => WpL R tr δ fun ds => φ (d :: ds)) : WpL R (tCons te tr) δ φ :=
  wpa_cons (wpe_mono h fun d q => wpa_mono q fun as ⟨ds, e, p⟩ => ⟨d :: ds, by rw [e]; rfl, p⟩)
theorem wpe_tupL (h : WpL R tr δ fun ds => ds.length ≤ 1000 ∧ φ (.tup ds)) : WpE R (tTupF tr) δ φ := wpe_tup h
theorem wpe_lstL (h : WpL R tr δ fun ds => ds.length ≤ 1000 ∧ φ (.lst ds)) : WpE R (tLst tr) δ φ := wpe_lst h
theorem wpi_zipL {φ : List D → Prop} (h : WpE R ta δ fun x => WpE R tb δ fun y => ∃ ds es, ((x = .lst ds ∧ y = .lst es) ∨ (x = .tup ds ∧ y = .tup es)) ∧ NoPr ds es ∧ φ (zipD ds es)) : WpI R (RZ.iZipA K (tCons ta (tCons tb tNil))) δ φ :=
  wpi_zip (wpa_cons (wpe_mono h fun x q => wpa_cons (wpe_mono q fun y ⟨ds, es, e, q⟩ => wpa_nil ⟨ds, es, by rcases e with ⟨rfl, rfl⟩ | ⟨rfl, rfl⟩ <;> simp, q⟩)))
theorem wpi_enuT1 {φ : List D → Prop} (h : WpE R ta δ fun x => ∃ ds, x = .tup ds ∧ φ (enuD ds)) : WpI R (iEnumT K (tCons ta tNil)) δ φ :=
  wpi_enuT (wpa_cons (wpe_mono h fun x ⟨ds, e, q⟩ => wpa_nil ⟨ds, by rw [e], q⟩))
theorem wpi_rng1 {φ : List D → Prop} (h : WpE R ta δ fun x => ∃ j : Int, x = .int j ∧ -1000000 ≤ j ∧ j < 1000000 ∧ φ (rngD 0 j.toNat)) : WpI R (iRng1 (tCons ta tNil)) δ φ :=
  wpi_range1 (wpa_cons (wpe_mono h fun x ⟨j, e, q⟩ => wpa_nil ⟨j, by rw [e], q⟩))
theorem wpo_none {φ : Option Int → Prop} (q : φ none) : WpO R tNoPart δ φ := fun σ G H en rz Q k => k none G H .refl en q
theorem wpo_some {φ : Option Int → Prop} (h : WpE R te δ fun d => ∃ i : Int, d = .int i ∧ φ (some i)) : WpO R (tPart te) δ φ := fun σ G H en rz Q k =>
  h σ G H en rz _ fun v d G1 H1 s1 e1 a ⟨i, e, q⟩ => by
    subst e
    cases a
    exact ⟨i, rfl, k _ G1 H1 s1 e1 q⟩
theorem wpe_neg {ta : TE} (h : WpE R ta δ fun x => ∃ i, x = .int i ∧ φ (.int (-i))) : WpE R (tUn (rU fun i => .int (-i)) ta) δ φ :=
  wpe_un (wpe_mono h fun x ⟨i, e, q⟩ => by
    subst e
    intro G H v s a Q k
    cases a
    exact ⟨i, rfl, k _ _ G H .refl s (.int _) q⟩)
theorem cbd_int1 {i : Int} (q : φ (.int i)) : CbD (fun xs H Q => (∃ i, xs = [.int i] ∧ Q (.int i) H) ∨ ∃ k, xs = [.bl k] ∧ Q (.int (if k then 1 else 0)) H) [.int i] φ := fun G H vs s a Q k => by
  cases a with
  | cons a t =>
    cases t
    cases a
    exact .inl ⟨i, rfl, k _ _ G H .refl s (.int _) q⟩
/-- [f(x, y) for x, y in ..] -/
theorem wpe_map2 {wi : TI} {i j : Nat} {vs : List Nat} (f : D → D) (hi : i ∈ vs) (hj : j ∈ vs)
    (h : WpI R wi δ fun ds => ds.length ≤ 100000 ∧ (∀ d ∈ ds, ∃ x y, d = .tup [x, y] ∧ WpE R te (((wipeD δ vs).set i (.da x)).set j (.da y)) fun y => y = f d) ∧ φ (.lst (ds.map f))) :
    WpE R (tLc wi (gTup K 2 (gCons (gName i) (gCons (gName j) gNil))) tYes te vs) δ φ := by
  refine wpe_lc (js := [i, j]) (by simpa using ⟨hi, hj⟩) (wpi_mono h fun ds ⟨l, h1, h2⟩ => ⟨l, fun k acc => acc = (ds.take k).map f, by simp, fun k d acc e ih _ => ?_, fun acc ih _ => ?_⟩)
  · have hd : d ∈ ds := List.mem_of_getElem? e
    obtain ⟨x, y, ed, q⟩ := h1 d hd
    refine wpg_pair ⟨x, y, ed, wpt_yes ?_⟩
    rw [if_pos rfl]
    refine wpe_mono q fun y ey => ?_
    show acc ++ [y] = (ds.take (k + 1)).map f
    rw [ey, ih, List.take_add_one, e]
    simp
  · rw [ih, List.take_length]
    exact h2
theorem cutD_from {ds : List D} {k : Nat} : cutD ds (some (k : Int)) none = ds.drop k := by
  unfold cutD
  rw [HT.sIx_nat, HT.sIx_none]
  by_cases h : k ≤ ds.length
  · rw [Nat.min_eq_left h, List.take_of_length_le (by rw [List.length_drop]; omega)]
  · rw [Nat.min_eq_right (by omega), List.drop_length, List.drop_of_length_le (by omega), List.take_nil]
theorem cutD_to {ds : List D} {k : Nat} : cutD ds none (some (k : Int)) = ds.take k := by
  unfold cutD
  rw [HT.sIx_nat, HT.sIx_none, List.drop_zero, Nat.sub_zero]
  by_cases h : k ≤ ds.length
  · rw [Nat.min_eq_left h]
  · rw [Nat.min_eq_right (by omega), List.take_length, List.take_of_length_le (by omega)]
/-! promises by number of arguments -/
def sp1 (dom : D → Prop) (f : D → D) : Spc := { pre := fun as => ∃ x, as = [.da x] ∧ dom x, post := fun as d => ∀ x, as = [.da x] → d = f x }
def sp2 (dom : D → D → Prop) (f : D → D → D) : Spc := { pre := fun as => ∃ x y, as = [.da x, .da y] ∧ dom x y, post := fun as d => ∀ x y, as = [.da x, .da y] → d = f x y }
def sp3 (dom : D → D → D → Prop) (f : D → D → D → D) : Spc := { pre := fun as => ∃ x y z, as = [.da x, .da y, .da z] ∧ dom x y z, post := fun as d => ∀ x y z, as = [.da x, .da y, .da z] → d = f x y z }
/-- of a generator's state and data -/
def spS (dom : List D → Prop) (rel : List D → D → Prop) : Spc := { pre := fun as => ∃ a ds, as = .st a :: ds.map Sl.da ∧ dom ds, post := fun as d => ∀ a ds, as = .st a :: ds.map Sl.da → rel ds d }
theorem wpe_call1 {dom : D → Prop} {f : D → D} {E : XK} (h : WpE R ta δ fun x => dom x ∧ φ (f x)) : WpE R (tCall (spW (sp1 dom f) 1) [] E (tCons ta tNil)) δ φ :=
  wpe_call0 (wpa_cons (wpe_mono h fun x ⟨p, q⟩ => wpa_nil ⟨rfl, ⟨x, rfl, p⟩, fun d e => by rw [e x rfl]; exact q, fun _ _ z => z⟩))
theorem wpe_call2 {dom : D → D → Prop} {f : D → D → D} {E : XK} (h : WpE R ta δ fun x => WpE R tb δ fun y => dom x y ∧ φ (f x y)) : WpE R (tCall (spW (sp2 dom f) 2) [] E (tCons ta (tCons tb tNil))) δ φ :=
  wpe_call0 (wpa_cons (wpe_mono h fun x q => wpa_cons (wpe_mono q fun y ⟨p, q⟩ => wpa_nil ⟨rfl, ⟨x, y, rfl, p⟩, fun d e => by rw [e x y rfl]; exact q, fun _ _ z => z⟩)))
theorem wpe_call3 {dom : D → D → D → Prop} {f : D → D → D → D} {E : XK} (h : WpE R ta δ fun x => WpE R tb δ fun y => WpE R tc δ fun z => dom x y z ∧ φ (f x y z)) : WpE R (tCall (spW (sp3 dom f) 3) [] E (tCons ta (tCons tb (tCons tc tNil)))) δ φ :=
  wpe_call0 (wpa_cons (wpe_mono h fun x q => wpa_cons (wpe_mono q fun y q => wpa_cons (wpe_mono q fun z ⟨p, q⟩ => wpa_nil ⟨rfl, ⟨x, y, z, rfl, p⟩, fun d e => by rw [e x y z rfl]; exact q, fun _ _ z => z⟩))))
theorem map_da_inj : ∀ {as bs : List D}, as.map Sl.da = bs.map Sl.da → as = bs
  | [], [], _ => rfl
  | [], _ :: _, h => nomatch h
  | _ :: _, [], h => nomatch h
  | a :: as, b :: bs, h => by
    rw [List.map_cons, List.map_cons] at h
    obtain ⟨h1, h2⟩ := List.cons.inj h
    rw [Sl.da.inj h1, map_da_inj h2]
theorem wpe_callS {dom : List D → Prop} {rel : List D → D → Prop} {E : XK} {i n : Nat} {a : Addr} (e : δ[i]? = some (.st a)) (h : WpL R tr δ fun ds => ds.length + 1 = n ∧ dom ds ∧ ∀ d, rel ds d → φ d) :
    WpE R (tCall (spW (spS dom rel) n) [] E (tCons (tVar i) tr)) δ φ :=
  wpe_call0 (wpa_st e (wpa_mono h fun as ⟨ds, ea, l, p, q⟩ => by
    subst ea
    exact ⟨by rw [List.length_cons, List.length_map]; exact l, ⟨a, ds, rfl, p⟩, fun d r => q d (r a ds rfl), fun _ _ z => z⟩))
end
section
variable {P : Program} {w : World} {K : PySem.W.Frag} {mg : Str → Option Value} {base : Heap}
theorem Fn.ok1 {x : Str} {st : Stmt} {N ps : List Str} {f : Addr} {fd : FuncData} {k : Nat} {dom : D → Prop} {g : D → D} (F : Fn K mg x st ps f fd) (S : FnScope N ps (defScope st)) (hn : ps.length = 1)
    (h : ∀ (cdv : Value) (A : Around) (outer : List Env) (s : Shared) (H : Hp) (E : XK) (x' : D), Room k (A.deeper (envOfC x (defScope st) s.heap.objs.size f cdv)) → dom x' →
      ∃ t, PSs (cxOf CX0 P w K mg base N x (defScope st) f cdv A outer s H E).nox (defBody st) t ∧
        ∀ T : Tr, WpS ⟨E, fun _ _ => False, T⟩ t (.da x' :: List.replicate (N.length - 1) .no) (fun _ => False) fun d => d = g x') :
    Dk P w K mg base x CX0 (k + 1) ps (spW (sp1 dom g) 1) := by
  refine F.ok S hn fun cdv A outer s H E as hr ⟨y, e, p⟩ _ => ?_
  subst e
  obtain ⟨t, h1, h2⟩ := h cdv A outer s H E y hr p
  exact ⟨t, h1, fun T => wps_mono (h2 T) (fun _ z => z.elim) fun d q x e => by cases e; exact q⟩
theorem Fn.ok2 {x : Str} {st : Stmt} {N ps : List Str} {f : Addr} {fd : FuncData} {k : Nat} {dom : D → D → Prop} {g : D → D → D} (F : Fn K mg x st ps f fd) (S : FnScope N ps (defScope st)) (hn : ps.length = 2)
    (h : ∀ (cdv : Value) (A : Around) (outer : List Env) (s : Shared) (H : Hp) (E : XK) (x' y : D), Room k (A.deeper (envOfC x (defScope st) s.heap.objs.size f cdv)) → dom x' y →
      ∃ t, PSs (cxOf CX0 P w K mg base N x (defScope st) f cdv A outer s H E).nox (defBody st) t ∧
        ∀ T : Tr, WpS ⟨E, fun _ _ => False, T⟩ t (.da x' :: .da y :: List.replicate (N.length - 2) .no) (fun _ => False) fun d => d = g x' y) :
    Dk P w K mg base x CX0 (k + 1) ps (spW (sp2 dom g) 2) := by
  refine F.ok S hn fun cdv A outer s H E as hr ⟨y, z, e, p⟩ _ => ?_
  subst e
  obtain ⟨t, h1, h2⟩ := h cdv A outer s H E y z hr p
  exact ⟨t, h1, fun T => wps_mono (h2 T) (fun _ z => z.elim) fun d q x y e => by cases e; exact q⟩
theorem Fn.ok3 {x : Str} {st : Stmt} {N ps : List Str} {f : Addr} {fd : FuncData} {k : Nat} {dom : D → D → D → Prop} {g : D → D → D → D} (F : Fn K mg x st ps f fd) (S : FnScope N ps (defScope st)) (hn : ps.length = 3)
    (h : ∀ (cdv : Value) (A : Around) (outer : List Env) (s : Shared) (H : Hp) (E : XK) (x' y z : D), Room k (A.deeper (envOfC x (defScope st) s.heap.objs.size f cdv)) → dom x' y z →
      ∃ t, PSs (cxOf CX0 P w K mg base N x (defScope st) f cdv A outer s H E).nox (defBody st) t ∧
        ∀ T : Tr, WpS ⟨E, fun _ _ => False, T⟩ t (.da x' :: .da y :: .da z :: List.replicate (N.length - 3) .no) (fun _ => False) fun d => d = g x' y z) :
    Dk P w K mg base x CX0 (k + 1) ps (spW (sp3 dom g) 3) := by
  refine F.ok S hn fun cdv A outer s H E as hr ⟨y, z, v, e, p⟩ _ => ?_
  subst e
  obtain ⟨t, h1, h2⟩ := h cdv A outer s H E y z v hr p
  exact ⟨t, h1, fun T => wps_mono (h2 T) (fun _ z => z.elim) fun d q x y z e => by cases e; exact q⟩
theorem Fn.okS {x : Str} {st : Stmt} {N ps : List Str} {f : Addr} {fd : FuncData} {k n : Nat} {dom : List D → Prop} {rel : List D → D → Prop} (F : Fn K mg x st ps f fd) (S : FnScope N ps (defScope st)) (hn : ps.length = n)
    (h : ∀ (cdv : Value) (A : Around) (outer : List Env) (s : Shared) (H : Hp) (E : XK) (a : Addr) (ds : List D), Room k (A.deeper (envOfC x (defScope st) s.heap.objs.size f cdv)) → dom ds → ds.length + 1 = n →
      ∃ t, PSs (cxOf CX0 P w K mg base N x (defScope st) f cdv A outer s H E).nox (defBody st) t ∧
        ∀ T : Tr, WpS ⟨E, fun _ _ => False, T⟩ t (.st a :: (ds.map Sl.da ++ List.replicate (N.length - n) .no)) (fun _ => False) (rel ds)) :
    Dk P w K mg base x CX0 (k + 1) ps (spW (spS dom rel) n) := by
  refine F.ok S hn fun cdv A outer s H E as hr ⟨a, ds, e, p⟩ l => ?_
  subst e
  rw [List.length_cons, List.length_map] at l
  obtain ⟨t, h1, h2⟩ := h cdv A outer s H E a ds hr p l
  refine ⟨t, h1, fun T => wps_mono (h2 T) (fun _ z => z.elim) fun d q a' es e => ?_⟩
  obtain ⟨_, e2⟩ := List.cons.inj e
  rw [← map_da_inj e2]
  exact q
end
/-! the rules that name the written part, for the blocks of comprehensions -/
section
variable {X : Cx} {K : PySem.W.Frag}
theorem call_isiK (h : X.K = K) : CallR X (.builtin "isinstance") (rIsi K) := h ▸ call_isi
theorem call_lenK (h : X.K = K) : CallR X (.builtin "len") (fun xs H Q => (∃ p ys, xs = [.ref p] ∧ (SqL K H p ys ∨ SqT K H p ys) ∧ Q (.int ys.length) H) ∨ (∃ z, xs = [.str z] ∧ z.length ≤ sizeLine ∧ Q (.int z.length) H)) := h ▸ call_len_seq.or call_len_str
theorem cr_allK (h : X.K = K) (hc : X.calm = true) : CallR X (.builtin "all") (rAll K) := h ▸ cr_all hc
theorem cr_sortedK (h : X.K = K) : CallR X (.builtin "sorted") (rSortedI K) := h ▸ cr_sortedI
theorem call_tupleK (h : X.K = K) : CallR X (.type "tuple") (rTupLF K) := h ▸ call_tupLF
theorem call_listK (h : X.K = K) : CallR X (.type "list") (fun xs H Q => ∃ p ys, xs = [.ref p] ∧ (SqL K H p ys ∨ SqT K H p ys) ∧ ∀ l, H l = none → Q (.ref l) (upd H l (.lst ys))) := h ▸ call_list_of
theorem ix_K (h : X.K = K) : IxR X (rIx K) := h ▸ ix_seq
theorem sl_K (h : X.K = K) : L2.SlR X (fun x lo hi H Q => rSlL K x lo hi H Q ∨ rSlF K x lo hi H Q) := h ▸ L2.SlR.or sl_list sl_tupF
theorem op_inK (h : X.K = K) : OpR X (compareOp .In) (rIn K false) := h ▸ op_in_seq
theorem op_notinK (h : X.K = K) : OpR X (compareOp .NotIn) (rIn K true) := h ▸ op_notIn_seq
theorem op_eqK (h : X.K = K) (hu : X.A.units + 64 < cLine) : OpR X (compareOp .Eq) (fun x y H Q => rEq x y H Q ∨ rEqD K x y H Q) := h ▸ op_eq.or (op_eqD hu)
theorem op_neK (h : X.K = K) (hu : X.A.units + 64 < cLine) : OpR X (compareOp .NotEq) (fun x y H Q => rNe x y H Q ∨ rNeD K x y H Q) := h ▸ op_ne.or (op_neD hu)
theorem op_catK (h : X.K = K) : OpR X (binaryOp .Add) (rCatF K) := h ▸ op_catF
theorem op_repK (h : X.K = K) : OpR X (binaryOp .Mult) (rRepT K) := h ▸ op_repT
end
end Nv
/-! Nv, part L5: a generator's state of five: the cells, where it is, what is left of a great cell, the seed, the steps. -/
namespace Nv
open PySem PySem.Spec PyProof.Rows L2
def okSt (G : Hp) (xs : List V) : Prop := ∃ (c : Addr) (cs : List Int) (p q s n : Int), xs = [.ref c, .int p, .int q, .int s, .int n] ∧ G c = some (.lst (cs.map V.int)) ∧ 0 ≤ p ∧ 0 ≤ q
instance ls5 : Ls := ⟨okSt, fun k ⟨c, cs, p, q, s, n, e, g, r⟩ => ⟨c, cs, p, q, s, n, e, k _ _ g, r⟩⟩
end Nv
/-! Nv, part W: while; a dict that a slot owns; a list that is popped. -/
namespace Nv
open PySem PySem.Spec PyProof.Rows L2
variable [Tb] [Ls]
section
variable {X : Cx}
theorem sw_trueD {kx vx : Expr} {gs : List Comprehension} {scope : Scope} {pos py : Pos} {y : Str} {l : Nat} {env : Env} (hk : env.scope.kind = .function) (hy : env.scope.names.lookup y = some .local) (hl : (py.line == pos.line) = true)
    (ha : (scope.names.any fun (n, k) => n == y && (k == .local || k == .cell)) = false) : swapsWith (.DictComp kx vx gs scope pos) (some (.Name y py)) l env = pure true := by
  have ky : env.kindOf y = some .local := hy
  have hb : env.blockKind = .function := by unfold Env.blockKind; rw [hk]; rfl
  unfold swapsWith
  simp only [hb, ky, ha, Expr.pos, hl]
  rfl
theorem ps_setDc {i : Nat} {y : Str} {py : Pos} {kx vx tg iter : Expr} {ifs : List Expr} {scope : Scope} {own : List (Str × Nat)} {pos spos : Pos} {wi : TI} {g : TG} {tt : TT} {tk tv : TE} (hc : X.calm = true) (hN : X.N.Nodup) (hy : X.N[i]? = some y) (hyl : X.env.scope.names.lookup y = some .local)
    (hsw : swapsWith (.DictComp kx vx [⟨tg, iter, ifs, 0⟩] scope pos) (some (.Name y py)) spos.line X.env = pure true) (hi : PI X tg iter wi) (ok : BlkOk X.N X.env.scope scope own)
    (hg : ∀ (s : Shared) (H : Hp) (C : Addr) (cl : List (Str × Addr)) (fp : List Addr), PG (X.blk s H scope (compEnvC scope cl C X.env) fp) tg g) (ht : ∀ (s : Shared) (H : Hp) (C : Addr) (cl : List (Str × Addr)) (fp : List Addr), PTs (X.blk s H scope (compEnvC scope cl C X.env) fp) ifs tt)
    (hk : ∀ (s : Shared) (H : Hp) (C : Addr) (cl : List (Str × Addr)) (fp : List Addr), PE (X.blk s H scope (compEnvC scope cl C X.env) fp) kx tk)
    (he : ∀ (s : Shared) (H : Hp) (C : Addr) (cl : List (Str × Addr)) (fp : List Addr), PE (X.blk s H scope (compEnvC scope cl C X.env) fp) vx tv) (hs : ∀ x, foldedSetIterable iter X.env x = pure x := by intro _; rfl) :
    PS X (.Assign [.Name y py] (.DictComp kx vx [⟨tg, iter, ifs, 0⟩] scope pos) spos) (tAsg (tDc wi g tt tk tv (own.map (·.2))) (gName i)) := by
  refine ⟨fun pins s σ H D I h => ?_⟩
  rw [exec_Assign_Name_used _ _ _ _ hsw]
  refine wpAny_bind (wpAny_standAt (wpAny_bind ?_))
  show wpAny _ X.A (do let _ ← comprehension (.DictComp kx vx [⟨tg, iter, ifs, 0⟩] scope pos) scope X.env (firstIterPos [⟨tg, iter, ifs, 0⟩] pos) newDict false (eval iter X.env) (some (assign (.Name y py) X.env))) _ _ s
  have h : tDc wi g tt tk tv (own.map (·.2)) σ H (fun x H1 => gName i x σ H1 D.nx) := h
  refine wpAny_bind (thn (dc_core (Qf := fun _ s' => SP X pins D .next s') hc hN I hi ok hg ht hk he hs h fun L C s' m H' I' q hn f => ?_) fun _ s' hq => wpAny_pure (wpAny_pure hq))
  show wpAny _ _ (assign (.Name y py) X.env (.ref L)) _ _ _
  refine wpAny_assign_Name (store_ok2 (v := V.ref L) I' hN hy (.inl hyl) rfl (fun s2 I2 ⟨a, sb, ha⟩ => ?_) (.inr hyl))
  obtain ⟨f0, f1, f2, f3, f4, f5⟩ := f
  have haC : C ≠ a := by
    rcases ha with z | z
    · rw [z]; exact f1
    · exact fun e => f4 y a z e.symm
  refine ⟨m, hn.sameBut sb haC, fun h3 sb3 => ?_⟩
  exact ⟨_, H', I2.turned (t' := s2.toks) (fun b o hb e => (sb3.2 b hb).trans e) f0 f1 f3 f4 f5, q⟩
end
section
variable {R : Rg} {δ : List Sl} {te ta tb tc : TE} {t u : TT} {tr : TA} {φ : D → Prop} {K : PySem.W.Frag} {Φ : List Sl → Prop} {Ψ : D → Prop}
theorem wps_while {ts : TS} (W : Nat → List Sl → Prop) (h0 : ∃ m, W m δ)
    (h : ∀ m δ', W m δ' → WpT R t δ' fun b => if b = true then WpS R ts δ' (fun δ2 => ∃ m', m' < m ∧ W m' δ2) Ψ else Φ δ') : WpS R (tWhile t ts) δ Φ Ψ := fun σ G H en rz Z k1 k2 => by
  obtain ⟨m0, w0⟩ := h0
  refine ⟨fun m σ' H' => ∃ δ' G', StB R.T.O R.T.S G H G' H' ∧ Ens R.T G' H' δ' σ' ∧ W m δ', ⟨m0, δ, G, .refl, en, w0⟩, ?_⟩
  rintro m σ' H' ⟨δ', G', sB, e', wm⟩
  refine h m δ' wm σ' G' H' e' (rz.stepB sB) _ fun b G1 H1 s1 e1 q => ?_
  have sB1 := sB.trans (s1.toB e'.old)
  cases b with
  | false => exact iteF (k1 δ' σ' G1 H1 sB1 e1 q)
  | true =>
    have q' : WpS R ts δ' (fun δ2 => ∃ m', m' < m ∧ W m' δ2) Ψ := q
    refine iteT ⟨fun σ2 H2 => ∃ m', m' < m ∧ ∃ δ2 G2, StB R.T.O R.T.S G H G2 H2 ∧ Ens R.T G2 H2 δ2 σ2 ∧ W m' δ2, fun σ2 H2 z => z, ?_⟩
    exact q' σ' G1 H1 e1 (rz.stepB sB1) _ (fun δ2 σ2 G2 H2 s2 e2 ⟨m', lt, w⟩ => ⟨m', lt, δ2, G2, sB1.trans s2, e2, w⟩) fun v d G2 H2 s2 a b c q => k2 v d G2 H2 (sB1.trans s2) a b c q
/-- a new list becomes a slot's own -/
theorem Ens.ownL {T : Tr} {G H : Hp} {σ : L2.St} (en : Ens T G H δ σ) {i : Nat} {p : Addr} {xs : List V} {ds : List D} (hp : H p = none) (al : AtAll G xs ds) : Ens T G (upd H p (.lst xs)) (δ.set i (.ow p ds)) (σ.set i (some (.ref p))) := by
  have e1 := en.own (i := i) hp
  have e2 := en.own (i := i) hp
  by_cases lt : i < δ.length
  · have e3 := e2.put (i := i) (p := p) (ds := []) (es := ds) (ys := xs) (List.getElem?_set_self lt) al
    rw [List.set_set] at e3
    rw [show upd (upd H p (.lst [])) p (.lst xs) = upd H p (.lst xs) from upd_upd] at e3
    exact e3
  · rw [List.set_eq_of_length_le (by omega), List.set_eq_of_length_le (by rw [← en.len]; omega)]
    exact en.grow (same_upd hp)
/-- x = list(y) -/
theorem wps_setList {i : Nat} (h : WpE R te δ fun y => ∃ ds, (y = .lst ds ∨ y = .tup ds) ∧ ∀ p, Φ (δ.set i (.ow p ds))) :
    WpS R (tAsg (tCB (fun xs H Q => ∃ p ys, xs = [.ref p] ∧ (SqL K H p ys ∨ SqT K H p ys) ∧ ∀ l, H l = none → Q (.ref l) (upd H l (.lst ys))) (tCons te tNil)) (gName i)) δ Φ Ψ := fun σ G H en rz Z k1 k2 =>
  h σ G H en rz _ fun v y G1 H1 s1 e1 a ⟨ds, ey, q⟩ => by
    rcases ey with rfl | rfl
    · obtain ⟨p0, xs, rfl, ha, al⟩ := at_lst a
      exact ⟨p0, xs, rfl, .inl (sqL_of e1.same ha), fun p hp => k1 _ _ G1 _ ((s1.trans (Stp.grow (same_upd hp))).toB en.old) (e1.ownL hp al) (q p)⟩
    · obtain ⟨p0, xs, rfl, ha, al⟩ := at_tup a
      exact ⟨p0, xs, rfl, .inr (sqT_of e1.same ha), fun p hp => k1 _ _ G1 _ ((s1.trans (Stp.grow (same_upd hp))).toB en.old) (e1.ownL hp al) (q p)⟩
/-- len of the list of slot i -/
theorem wpe_lenO {i : Nat} {p : Addr} {ds : List D} (e : δ[i]? = some (.ow p ds)) (q : φ (.int ds.length)) :
    WpE R (tCB (fun xs H Q => (∃ p ys, xs = [.ref p] ∧ (SqL K H p ys ∨ SqT K H p ys) ∧ Q (.int ys.length) H) ∨ (∃ z, xs = [.str z] ∧ z.length ≤ sizeLine ∧ Q (.int z.length) H)) (tCons (tVar i) tNil)) δ φ := fun σ G H en rz Q k => by
  obtain ⟨o, e1, rfl, nS, nG, xs, hx, al⟩ := en.get i _ e
  refine ⟨_, e1, .inl ⟨p, xs, rfl, .inl (.inl (.inl hx)), ?_⟩⟩
  rw [al.length]
  exact k _ _ G H .refl en (.int _) q
/-- j = x.pop() -/
theorem wps_pop {i j : Nat} {p : Addr} {ds : List D} {d : D} (e : δ[i]? = some (.ow p ds)) (ed : ds[ds.length - 1]? = some d) (q : Φ ((δ.set i (.ow p ds.dropLast)).set j (.da d))) :
    WpS R (tAsg (tBM0 K "list" rPop (tVar i)) (gName j)) δ Φ Ψ := fun σ G H en rz Z k1 k2 => by
  obtain ⟨o, e1, rfl, nS, nG, xs, hx, al⟩ := en.get i _ e
  obtain ⟨v, ev, av⟩ := al.get ed
  have al2 : AtAll G xs.dropLast ds.dropLast := by
    rw [List.dropLast_eq_take, List.dropLast_eq_take, al.length]
    exact al.take _
  refine ⟨_, e1, .inl ⟨rfl, xs, .inl (.inl hx)⟩, p, xs, v, rfl, rfl, hx, by rw [al.length]; exact ev, ?_⟩
  exact k1 _ _ G _ (en.putB e) ((en.put e al2).setD av) q
/-! a dict of keys -/
theorem Ens.putD {T : Tr} {G H : Hp} {σ : L2.St} (en : Ens T G H δ σ) {i : Nat} {p : Addr} {ks ls : Oo} (e : δ[i]? = some (.od p ks)) (ow : OwR G ls := by exact trivial) :
    Ens T G (upd H p ls.ho) (δ.set i (.od p ls)) σ := by
  obtain ⟨o, e1, rfl, nS, nG, hx, _⟩ := en.get i _ e
  refine ⟨fun b u q => ?_, by rw [List.length_set]; exact en.len, fun j s q => ?_, fun b q => ?_, fun b q => ?_, fun b u q => ?_, fun j k b fs gs q1 q2 => ?_, fun j k b fs gs q1 q2 => ?_⟩
  · rw [upd_ne (fun z => by rw [z, nG] at q; exact nomatch q)]
    exact en.same b u q
  · rcases get_set q with ⟨rfl, rfl⟩ | ⟨ne, m⟩
    · exact ⟨_, e1, rfl, nS, nG, upd_same, ow⟩
    · obtain ⟨o, q2, r⟩ := en.get j s m
      refine ⟨o, q2, ?_⟩
      cases s with
      | no => trivial
      | fx v => exact r
      | da d => exact r
      | fz _ _ => exact r
      | st b => exact r
      | ow b fs =>
        obtain ⟨r1, r2, r3, zs, r4, r5⟩ := r
        have nb : b ≠ p := fun z => by rw [z, hx] at r4; exact Oo.nr r4
        exact ⟨r1, r2, r3, zs, by rw [upd_ne nb]; exact r4, r5⟩
      | od b fs =>
        obtain ⟨r1, r2, r3, r4, r5⟩ := r
        have nb : b ≠ p := fun z => ne (by subst z; exact en.nd2 j i b fs ks m e)
        exact ⟨r1, r2, r3, by rw [upd_ne nb]; exact r4, r5⟩
  · obtain ⟨g, w, q2, mo⟩ := en.stt b q
    exact ⟨g, w, by rw [upd_ne (fun z => nS.1 (by rw [← z]; exact q))]; exact q2, mo⟩
  · by_cases z : b = p
    · rw [z, upd_same]; exact fun q => nomatch q
    · rw [upd_ne z]; exact en.old b q
  · obtain ⟨f1, f2⟩ := en.inv b u q
    refine ⟨?_, f2⟩
    rw [upd_ne (fun z => nS.2 (by rw [← z]; exact f2.2))]
    exact f1
  · rcases get_set q1 with ⟨_, z⟩ | ⟨_, m1⟩
    · exact nomatch z
    · rcases get_set q2 with ⟨_, z⟩ | ⟨_, m2⟩
      · exact nomatch z
      · exact en.nd j k b fs gs m1 m2
  · rcases get_set q1 with ⟨rfl, z⟩ | ⟨n1, m1⟩
    · obtain ⟨rfl, rfl⟩ := Sl.od.inj z
      rcases get_set q2 with ⟨rfl, _⟩ | ⟨n2, m2⟩
      · rfl
      · exact en.nd2 j k _ ks gs e m2
    · rcases get_set q2 with ⟨rfl, z⟩ | ⟨n2, m2⟩
      · obtain ⟨rfl, rfl⟩ := Sl.od.inj z
        exact en.nd2 j k _ fs ks m1 e
      · exact en.nd2 j k b fs gs m1 m2
theorem Ens.putDB {T : Tr} {G H : Hp} {σ : L2.St} (en : Ens T G H δ σ) {i : Nat} {p : Addr} {ks : Oo} {o' : HO} (e : δ[i]? = some (.od p ks)) : StB T.O T.S G H G (upd H p o') := by
  obtain ⟨o, e1, rfl, nS, nG, hx, _⟩ := en.get i _ e
  exact ⟨.refl _, fun b u o q n => by rw [upd_ne (fun z => nS.2 (by rw [← z]; exact o))]; exact q, fun b q => by
    by_cases z : b = p
    · rw [z, upd_same]; exact fun q => nomatch q
    · rw [upd_ne z]; exact q, fun b _ q => q⟩
theorem Ens.ownD {T : Tr} {G H : Hp} {σ : L2.St} (en : Ens T G H δ σ) {i : Nat} {p : Addr} {ks : Oo} (hp : H p = none) (ow : OwR G ks := by exact trivial) : Ens T G (upd H p ks.ho) (δ.set i (.od p ks)) (σ.set i (some (.ref p))) := by
  have e1 : Ens T G (upd H p ks.ho) δ σ := en.grow (same_upd hp)
  have nS : ¬ T.S p := fun z => by
    obtain ⟨_, w, e, _⟩ := en.stt p z
    rw [hp] at e
    exact nomatch e
  have nO : ¬ T.O p := fun z => en.old p z hp
  have nG : G p = none := en.same.free hp
  have no : ∀ (k : Nat) (ds : Oo), ¬ δ[k]? = some (.od p ds) := fun k ds z => by
    obtain ⟨o, _, _, _, _, r⟩ := en.get k _ z
    rw [hp] at r
    exact nomatch r
  refine ⟨e1.same, by rw [List.length_set, List.length_set]; exact e1.len, fun j s e => ?_, e1.stt, e1.old, e1.inv, fun j k a ds es q1 q2 => ?_, fun j k a ds es q1 q2 => ?_⟩
  · rcases get_set e with ⟨rfl, rfl⟩ | ⟨ne, e⟩
    · have lt : j < σ.length := by
        rw [← e1.len]
        have := (List.getElem?_eq_some_iff.mp e).1
        rw [List.length_set] at this
        exact this
      exact ⟨some (.ref p), List.getElem?_set_self lt, rfl, ⟨nS, nO⟩, nG, upd_same, ow⟩
    · obtain ⟨o, e2, r⟩ := e1.get j s e
      exact ⟨o, by rw [List.getElem?_set_ne (fun z => ne z.symm)]; exact e2, r⟩
  · rcases get_set q1 with ⟨_, z⟩ | ⟨_, m1⟩
    · exact nomatch z
    · rcases get_set q2 with ⟨_, z⟩ | ⟨_, m2⟩
      · exact nomatch z
      · exact e1.nd j k a ds es m1 m2
  · rcases get_set q1 with ⟨rfl, z⟩ | ⟨n1, m1⟩
    · rcases get_set q2 with ⟨rfl, _⟩ | ⟨n2, m2⟩
      · rfl
      · obtain ⟨rfl, rfl⟩ := Sl.od.inj z
        exact (no k es m2).elim
    · rcases get_set q2 with ⟨rfl, z⟩ | ⟨n2, m2⟩
      · obtain ⟨rfl, rfl⟩ := Sl.od.inj z
        exact (no j ds m1).elim
      · exact e1.nd2 j k a ds es m1 m2
theorem valT {k : Int} : ∀ {ks : List Int}, (valV (ks.map fun k => ((Sum.inl k : Key), V.bl true)) (Sum.inl k)).isSome = decide (k ∈ ks)
  | [] => by simp [valV]
  | a :: ks => by
    rw [List.map_cons]
    by_cases h : a = k
    · subst h
      rw [valV_pos rfl]
      simp
    · have ne : ¬ ((Sum.inl a : Key), V.bl true).1 = Sum.inl k := fun z => h (Sum.inl.inj z)
      have ih := valT (k := k) (ks := ks)
      unfold valV at ih ⊢
      rw [List.find?_cons, decide_eq_false ne]
      rw [ih]
      have h' : ¬ k = a := fun z => h z.symm
      simp [h']
theorem putT {k : Int} {ks : List Int} (h : k ∉ ks) : putK (ks.map fun k => ((Sum.inl k : Key), V.bl true)) (Sum.inl k) (V.bl true) = (ks ++ [k]).map fun k => ((Sum.inl k : Key), V.bl true) := by
  unfold putK
  rw [if_neg, List.map_append]
  · rfl
  · intro z
    rw [List.any_map, List.any_eq_true] at z
    obtain ⟨x, m, e⟩ := z
    have e' := of_decide_eq_true e
    exact h (by rw [← Sum.inl.inj e']; exact m)
/-- k not in d -/
theorem wpt_ninD {i : Nat} {p : Addr} {ks : List Int} {φ : Bool → Prop} (e : δ[i]? = some (.od p (dTru ks))) (h : WpE R ta δ fun j => ∃ n : Int, j = .int n ∧ φ (!decide (n ∈ ks))) : WpT R (tB (tDNotIn ta (tVar i))) δ φ := fun σ G H en rz Q k =>
  h σ G H en rz _ fun w j G2 H2 s2 en2 a2 ⟨n, ej, q⟩ => by
    subst ej
    cases a2
    obtain ⟨o, e1, rfl, nS, nG, hx, _⟩ := en2.get i _ e
    refine ⟨_, e1, p, _, rfl, .inl ⟨_, Sum.inl n, .inl hx, rfl, rfl⟩, _, rfl, ?_⟩
    rw [valT]
    exact k _ G2 H2 s2 en2 q
/-- d[k] = True -/
theorem wps_putD {i : Nat} {p : Addr} {ks : List Int} (e : δ[i]? = some (.od p (dTru ks))) (l : ks.length ≤ 100000) (h : WpE R ta δ fun j => ∃ n : Int, j = .int n ∧ n ∉ ks ∧ Φ (δ.set i (.od p (dTru (ks ++ [n]))))) :
    WpS R (tAsg (tC (.bl true)) (gSub (tVar i) ta rSetD)) δ Φ Ψ := fun σ G H en rz Z k1 k2 => by
  obtain ⟨o, e1, rfl, nS, nG, hx, _⟩ := en.get i _ e
  refine ⟨_, e1, h σ G H en rz _ fun w j G2 H2 s2 en2 a2 ⟨n, ej, nk, q⟩ => ?_⟩
  subst ej
  cases a2
  obtain ⟨o, _, e2, nS1, nG1, hy, _⟩ := en2.get i _ e
  refine ⟨p, _, rfl, .inl ⟨_, Sum.inl n, hy, rfl, by rw [List.length_map]; exact Nat.lt_of_le_of_lt l (by decide), rfl⟩, ?_⟩
  rw [putT nk]
  exact k1 _ _ G2 _ ((s2.toB en.old).trans (en2.putDB e)) (en2.putD (ls := dTru (ks ++ [n])) e) q
/-- d = {k: True for k in ..} -/
theorem wps_setDc {wi : TI} {i j : Nat} {vs : List Nat} (hj : j ∈ vs) (hjl : j < δ.length)
    (h : WpI R wi δ fun ds => ∃ zs : List Int, ds = zs.map D.int ∧ zs.Nodup ∧ zs.length ≤ 100000 ∧ ∀ p, Φ (δ.set i (.od p (dTru zs)))) :
    WpS R (tAsg (tDc wi (gName j) tYes (tVar j) (tC (.bl true)) vs) (gName i)) δ Φ Ψ := fun σ G H en rz Z k1 k2 => by
  refine h σ G H en rz _ fun J ds G1 H1 s1 e1 wk ⟨zs, ed, nd, hl, q⟩ => ?_
  subst ed
  intro Dl hD
  have gD : G1 Dl = none := e1.same.free hD
  let Nx : Nat → Hp → Prop := fun i H' => ∃ G', Stp S0 G1 H1 G' H' ∧ Same G' H' ∧ G' Dl = none ∧ H' Dl = some (dTrue (zs.take i))
  have len : (zs.map D.int).length = zs.length := List.length_map ..
  refine ⟨fun i m H' => m = zs.length - i ∧ i ≤ zs.length ∧ Nx i H', ⟨_, rfl, Nat.zero_le _, G1, Stp.grow (same_upd hD), e1.same.trans (same_upd hD), gD, upd_same⟩, ?_⟩
  rintro k m H' ⟨rfl, hi, G', st, sm, gd, hd⟩
  obtain ⟨go, stop, yld⟩ := wk G' H' st.gs sm
  rw [len] at go stop yld
  by_cases lt : k < zs.length
  · refine .inr ⟨go k lt, Nx (k + 1), fun H2 z => ⟨zs.length - (k + 1), by omega, rfl, lt, z⟩, fun x H2 y => ?_⟩
    obtain ⟨d, G2, ed, s2, sm2, at2⟩ := yld k x H2 lt y
    rw [List.getElem?_map, List.getElem?_eq_getElem lt] at ed
    obtain rfl := Option.some.inj ed
    cases at2
    have st2 := st.trans s2
    have gd2 : G2 Dl = none := s2.gn Dl gd (by rw [hd]; exact fun z => nomatch z)
    have hd2 : H2 Dl = some (dTrue (zs.take k)) := s2.same _ _ hd
    have nk : zs[k] ∉ zs.take k := by
      intro z
      obtain ⟨a, la, ea⟩ := List.mem_take_iff_getElem.mp z
      have := (List.getElem_inj nd).mp ea
      omega
    show L2.wipe ((L2.wipe σ vs).set j (some (V.int zs[k]))) vs = L2.wipe σ vs ∧ _
    refine ⟨wipe_eq (js := [j]) (by simpa using hj) (fun k hk => List.getElem?_set_ne (fun z => hk (by simp [z]))) (by rw [List.length_set]), ?_⟩
    refine iteT (B := Nx (k + 1) H2) ?_
    refine ⟨_, List.getElem?_set_self (by rw [wipe_length, ← en.len]; exact hjl), _, Sum.inl zs[k], rfl, hd2, by rw [List.length_map, List.length_take]; exact Nat.lt_of_le_of_lt (Nat.le_trans (Nat.min_le_right _ _) hl) (by decide), G2, ?_⟩
    rw [putT nk]
    have e9 : zs.take k ++ [zs[k]] = zs.take (k + 1) := by rw [List.take_add_one, List.getElem?_eq_getElem lt]; rfl
    rw [e9]
    refine ⟨⟨st2.gs, fun b u e n => ?_, fun b e => ?_, st2.gn⟩, fun b u e => ?_, gd2, upd_same⟩
    · rw [upd_ne (ne_of_none e hD)]
      exact st2.hs b u e n
    · by_cases z : b = Dl
      · rw [z, upd_same]; exact fun q => nomatch q
      · rw [upd_ne z]; exact st2.al b e
    · rw [upd_ne (ne_of_none e gd2)]
      exact sm2 b u e
  · have e : k = zs.length := by omega
    subst e
    refine .inl ⟨stop, ?_⟩
    rw [List.take_length] at hd
    have e2 : Ens R.T G' H' δ σ := e1.step (S' := S0) st (fun _ z => z.elim) sm sto0
    -- the dict stands already: forget it and lay it anew
    have nS : ¬ R.T.S Dl := fun z => by
      obtain ⟨_, w, e, _⟩ := e1.stt Dl z
      rw [hD] at e
      exact nomatch e
    have nO : ¬ R.T.O Dl := fun z => e1.old Dl z hD
    have no : ∀ (k : Nat) (ds : Oo), ¬ δ[k]? = some (.od Dl ds) := fun k ds z => by
      obtain ⟨o, _, _, _, _, r⟩ := e1.get k _ z
      rw [hD] at r
      exact nomatch r
    refine k1 _ _ G' H' ((s1.toB en.old).trans ((st.zero (S := R.T.S)).toB e1.old)) ?_ (q Dl)
    refine ⟨e2.same, by rw [List.length_set, List.length_set]; exact e2.len, fun j s e => ?_, e2.stt, e2.old, e2.inv, fun j k a ds es q1 q2 => ?_, fun j k a ds es q1 q2 => ?_⟩
    · rcases get_set e with ⟨rfl, rfl⟩ | ⟨ne, e⟩
      · have lt : j < σ.length := by
          rw [← e1.len]
          have := (List.getElem?_eq_some_iff.mp e).1
          rw [List.length_set] at this
          exact this
        exact ⟨some (.ref Dl), List.getElem?_set_self lt, rfl, ⟨nS, nO⟩, gd, hd, trivial⟩
      · obtain ⟨o, e3, r⟩ := e2.get j s e
        exact ⟨o, by rw [List.getElem?_set_ne (fun z => ne z.symm)]; exact e3, r⟩
    · rcases get_set q1 with ⟨_, z⟩ | ⟨_, m1⟩
      · exact nomatch z
      · rcases get_set q2 with ⟨_, z⟩ | ⟨_, m2⟩
        · exact nomatch z
        · exact e2.nd j k a ds es m1 m2
    · rcases get_set q1 with ⟨rfl, z⟩ | ⟨n1, m1⟩
      · rcases get_set q2 with ⟨rfl, _⟩ | ⟨n2, m2⟩
        · rfl
        · obtain ⟨rfl, rfl⟩ := Sl.od.inj z
          exact (no k es m2).elim
      · rcases get_set q2 with ⟨rfl, z⟩ | ⟨n2, m2⟩
        · obtain ⟨rfl, rfl⟩ := Sl.od.inj z
          exact (no j ds m1).elim
        · exact e2.nd2 j k a ds es m1 m2
/-- list(d) -/
theorem wpe_keysD {i : Nat} {p : Addr} {ks : List Int} (e : δ[i]? = some (.od p (dTru ks))) (q : φ (.lst (ks.map D.int))) : WpE R (tCB rListD (tCons (tVar i) tNil)) δ φ := fun σ G H en rz Q k => by
  obtain ⟨o, e1, rfl, nS, nG, hx, _⟩ := en.get i _ e
  refine ⟨_, e1, p, _, rfl, hx, fun l hl => ?_⟩
  have e9 : ((ks.map fun k => ((Sum.inl k : Key), V.bl true)).map fun kv => kV kv.1) = ks.map V.int := by rw [List.map_map]; rfl
  rw [e9]
  have st : Stp S0 G H (upd G l (.lst (ks.map V.int))) (upd H l (.lst (ks.map V.int))) := .new en.same hl
  exact k _ _ _ _ st.zero (en.step0 st (upd_same2 en.same)) (.lst upd_same (ints_atAll ks)) q
end
end Nv
/-! Nv, part Y: methods of an own class over data; comprehensions with two loops. -/
namespace Nv
open PySem PySem.Spec PyProof.Rows L2
variable [Tb] [Ls]
/-- a method of the class at C keeps a promise -/
structure Dm (P : Program) (w : World) (K : PySem.W.Frag) (mg : Str → Option Value) (base : Heap) (C : Addr) (m : Str) (CX : CXT) (k : Nat) (ps : List Str) (sp : Sp) : Prop where
  ex : ∃ f fd, FnOk P w K mg base CX k f fd ps sp ∧ Meth K C m f ∧ Binds K fd ps []
/-- a method as it stands behind the top -/
structure Mn (K : PySem.W.Frag) (C : Addr) (m qual : Str) (st : Stmt) (ps : List Str) (f : Addr) (fd : FuncData) : Prop where
  F : Fun K m qual st f fd
  h : Meth K C m f
  b : Binds K fd ps []
/-- as Dm, the function named -/
structure DmX (f : Addr) (fd : FuncData) (P : Program) (w : World) (K : PySem.W.Frag) (mg : Str → Option Value) (base : Heap) (C : Addr) (m : Str) (CX : CXT) (k : Nat) (ps : List Str) (sp : Sp) : Prop where
  ok : FnOk P w K mg base CX k f fd ps sp
  h : Meth K C m f
  b : Binds K fd ps []
theorem DmX.dm {f : Addr} {fd : FuncData} {P : Program} {w : World} {K : PySem.W.Frag} {mg : Str → Option Value} {base : Heap} {C : Addr} {m : Str} {CX : CXT} {k : Nat} {ps : List Str} {sp : Sp} (d : DmX f fd P w K mg base C m CX k ps sp) : Dm P w K mg base C m CX k ps sp := ⟨f, fd, d.ok, d.h, d.b⟩
section
variable {X : Cx} {CX : CXT} {k : Nat} {C : Addr} {m : Str} {ps : List Str} {sp : Sp} {E : XK} {p pos apos : Pos} {o e : Expr} {es : List Expr} {t : TA} {ta : TE}
theorem pe_methD {pl : Sem Bool} (he : PE X o ta) (c : Cls X.K C) (F : Dm X.prog X.w X.K X.mg X.base C m CX k ps sp) (hr : Room k X.A) (hx : Passes CX X E) (ha : PA X (e :: es) t)
    (hst : starEach (e :: es) X.env = (false, eval e X.env) :: starEach es X.env := by rfl) (hpl : (backTo pos (starEach es X.env)).any (·.1) = false := by rfl)
    (ht : eval (.Call (.Attribute o m apos) (e :: es) [] pos) X.env = (do
      let ov ← eval o X.env
      standAt apos.atName
      let (f, first) ← holding [ov] (getMethod ov m pl)
      callWith pos f first (backTo pos (starEach (e :: es) X.env)) (backToKw pos (keywordEach [] X.env))) := by rfl) :
    PE X (.Call (.Attribute o m apos) (e :: es) [] pos) (tMeth C m sp [] E ta t) := by
  obtain ⟨f, fd, h1, h2, h3⟩ := F.ex
  exact pe_meth he c h2 h1 hr h3 .nil hx ha hst hpl ht
end
section
variable {P : Program} {w : World} {K : PySem.W.Frag} {mg : Str → Option Value} {base : Heap}
theorem Mn.ok {x qual : Str} {C : Addr} {st : Stmt} {N ps : List Str} {f : Addr} {fd : FuncData} {n k : Nat} {c : Spc} (F : Mn K C x qual st ps f fd) (S : FnScope N ps (defScope st)) (hn : ps.length = n)
    (h : ∀ (cdv : Value) (A : Around) (outer : List Env) (s : Shared) (H : Hp) (E : XK) (as : List Sl), Room k (A.deeper (envOfC qual (defScope st) s.heap.objs.size f cdv)) → c.pre as → as.length = n →
      ∃ t, PSs (cxOf CX0 P w K mg base N qual (defScope st) f cdv A outer s H E).nox (defBody st) t ∧
        ∀ T : Tr, WpS ⟨E, c.err as, T⟩ t (as ++ List.replicate (N.length - n) .no) (fun _ => c.post as .non) (c.post as)) :
    DmX f fd P w K mg base C x CX0 (k + 1) ps (spW c n) := by
  refine ⟨F.F.ok S (fun vs H Q E h => ?_) (fun cdv A outer s H vs Q E hr q => ?_), F.h, F.b⟩
  · obtain ⟨S, G, as, l, _, _, ar, _⟩ := h
    rw [← ar.length, l, hn]
  · obtain ⟨S, G, as, l, sm, so, ar, p, k, r⟩ := q
    obtain ⟨t, h1, h2⟩ := h cdv A outer s H E as hr p l
    exact ⟨t, h1, wps_run l sm so ar k r h2⟩
end
theorem pi_seqK {X : Cx} {K : PySem.W.Frag} {tg l : Expr} {tl : TE} (h : X.K = K) (hl : PE X l tl) : PI X tg l (iSeq K tl) := h ▸ pi_seq hl
theorem pe_fldK {X : Cx} {K : PySem.W.Frag} {e : Expr} {f : Str} {pos : Pos} {ta : TE} (h : X.K = K) (he : PE X e ta) (hb : attributeBase e f X.env (eval e X.env) = eval e X.env) : PE X (.Attribute e f pos) (tFld K ta f) := h ▸ pe_fld he hb
theorem look_none {m : Str} {β : Type} : ∀ {fs : List (Str × β)}, (∀ y ∈ fs.map (·.1), (m == y) = false) → fs.lookup m = none
  | [], _ => rfl
  | (a, b) :: fs, h => by
    rw [List.lookup_cons, h a (by simp), look_none fun y hy => h y (by rw [List.map_cons]; exact List.mem_cons_of_mem _ hy)]
section
variable {R : Rg} {δ : List Sl} {te ta tb tc : TE} {tr : TA} {φ : D → Prop} {K : PySem.W.Frag}
theorem wpe_meth {c : Spc} {n : Nat} {E : XK} {C : Addr} {ns : List Str} {m : Str} (hm : ∀ y ∈ ns, (m == y) = false)
    (h : WpE R ta δ fun x => (∃ ds, x = .ins C ns ds) ∧ WpA R tr δ fun as => as.length + 1 = n ∧ c.pre (.da x :: as) ∧ (∀ d, c.post (.da x :: as) d → φ d) ∧ ∀ C d, ¬ c.err (.da x :: as) C d) :
    WpE R (tMeth C m (spW c n) [] E ta tr) δ φ := fun σ G H en rz Q k =>
  h σ G H en rz _ fun v x G1 H1 s1 e1 a1 ⟨⟨ds, ex⟩, h2⟩ => by
    subst ex
    have a1' := a1
    generalize hns : ns = ns' at a1
    cases a1 with
    | @ins p _ dx fs _ hp al =>
      refine ⟨p, dx, fs, rfl, e1.same _ _ hp, look_none (by rw [← hns]; exact hm), ?_⟩
      refine h2 σ G1 H1 e1 (rz.stepB (s1.toB en.old)) _ fun vs as G2 H2 s2 e2 a2 ⟨l, pr, q, r⟩ => ?_
      show spW c n (.ref p :: (vs ++ [])) H2 Q E
      rw [List.append_nil]
      exact ⟨R.T.S, G2, _, by rw [List.length_cons]; exact l, e2.same, e2.stt, .cons (show ArgR R.T.S G2 (.da (.ins C ns ds)) (.ref p) from a1'.same s2.gs) a2, pr, fun v d G' H' st sm so a pq => k v d G' H' ((s1.trans s2).trans st) (e2.step st (fun _ z => z) sm so) a (q d pq), fun C dd w d G' H' st hx a x => (r C d x).elim⟩
/-- an address that no slot knows is written -/
theorem Ens.side {T : Tr} {G H : Hp} {δ : List Sl} {σ : L2.St} (en : Ens T G H δ σ) {p : Addr} {o' : HO} (gp : G p = none) (nS : ¬ T.S p) (nO : ¬ T.O p)
    (no : ∀ (i : Nat) (a : Addr) (ds : List D), ¬ δ[i]? = some (.ow a ds)) (no2 : ∀ (i : Nat) (a : Addr) (ds : Oo), ¬ δ[i]? = some (.od a ds)) : Ens T G (upd H p o') δ σ := by
  refine ⟨fun b u e => by rw [upd_ne (ne_of_none e gp)]; exact en.same b u e, en.len, fun i s e => ?_, fun a ha => ?_, fun b hb => ?_, fun b u q => ?_, en.nd, en.nd2⟩
  · obtain ⟨o, e1, r⟩ := en.get i s e
    refine ⟨o, e1, ?_⟩
    cases s with
    | no => trivial
    | fx v => exact r
    | da d => exact r
    | fz _ _ => exact r
    | st a => exact r
    | ow a ds => exact (no i a ds e).elim
    | od a ks => exact (no2 i a ks e).elim
  · obtain ⟨q1, w1, q2, mo⟩ := en.stt a ha
    exact ⟨q1, w1, by rw [upd_ne (show a ≠ p from fun z => nS (by rw [← z]; exact ha))]; exact q2, mo⟩
  · rw [upd_ne (show b ≠ p from fun z => nO (by rw [← z]; exact hb))]
    exact en.old b hb
  · obtain ⟨q1, q2, q3⟩ := en.inv b u q
    exact ⟨by rw [upd_ne (show b ≠ p from fun z => nO (by rw [← z]; exact q3))]; exact q1, q2, q3⟩
/-- [h(e) for d in .. for e in ..] -/
theorem wpe_lc2 {wi wi1 : TI} {g g1 : TG} {vs vs1 js js1 : List Nat} (f : D → List D) (hd : D → D) (hjs : ∀ j ∈ js, j ∈ vs) (hjs1 : ∀ j ∈ js1, j ∈ vs1)
    (h : WpI R wi δ fun ds => (ds.flatMap f).length ≤ 1000000 ∧ (∀ d ∈ ds, WpG R g d (wipeD δ vs) js fun δ2 => ((∀ (i : Nat) (a : Addr) (ds : List D), ¬ δ2[i]? = some (.ow a ds)) ∧ (∀ (i : Nat) (a : Addr) (ds : Oo), ¬ δ2[i]? = some (.od a ds))) ∧ WpI R wi1 δ2 fun es => es.map hd = f d ∧ ∀ e ∈ es, WpG R g1 e (wipeD δ2 vs1) js1 fun δ3 => WpE R te δ3 fun y => y = hd e) ∧ φ (.lst (ds.flatMap f))) :
    WpE R (tLc2 wi g tYes wi1 g1 tYes te vs vs1) δ φ := fun σ G H en rz Q k => by
  refine h σ G H en rz _ fun J ds G1 H1 s1 e1 wk ⟨hl, step, fin⟩ => ?_
  intro Dl hD
  have gD : G1 Dl = none := e1.same.free hD
  have fD : ¬ R.T.S Dl ∧ ¬ R.T.O Dl := by
    refine ⟨fun z => ?_, fun z => e1.old Dl z hD⟩
    obtain ⟨_, w, e, _⟩ := e1.stt Dl z
    rw [hD] at e
    exact nomatch e
  have ew := e1.wipe vs
  let Nx : Nat → List D → Hp → Prop := fun i more H' => ∃ xs G', Stp R.T.S G1 H1 G' H' ∧ Same G' H' ∧ StO R.T.S G' H' ∧ G' Dl = none ∧ H' Dl = some (.lst xs) ∧ AtAll G' xs ((ds.take i).flatMap f ++ more)
  refine ⟨fun i m H' => m = ds.length - i ∧ i ≤ ds.length ∧ Nx i [] H', ⟨_, rfl, Nat.zero_le _, [], G1, Stp.grow (same_upd hD), e1.same.trans (same_upd hD), fun a ha => ?_, gD, upd_same, .nil⟩, ?_⟩
  · obtain ⟨q, w, e, mo⟩ := e1.stt a ha
    exact ⟨q, w, by rw [upd_ne (ne_of_none e hD)]; exact e, mo⟩
  rintro i m H' ⟨rfl, hi, xs, G', st, sm, so, gd, hd', al⟩
  have e' : Ens R.T G' H' (wipeD δ vs) (L2.wipe σ vs) := ew.step st (fun _ z => z) sm so
  obtain ⟨go, stop, yld⟩ := wk G' H' st.gs sm
  by_cases lt : i < ds.length
  · refine .inr ⟨go i lt, Nx (i + 1) [], fun H2 z => ⟨ds.length - (i + 1), by omega, rfl, lt, z⟩, fun x H2 y => ?_⟩
    obtain ⟨d, G2, ed, s2, sm2, at2⟩ := yld i x H2 lt y
    have tk : ds.take (i + 1) = ds.take i ++ [d] := by rw [List.take_add_one, ed]; rfl
    have e2 := e'.step0 s2 sm2
    have st2 := st.trans s2.zero
    have gd2 : G2 Dl = none := s2.gn Dl gd (by rw [hd']; exact fun z => nomatch z)
    have hd2 : H2 Dl = some (.lst xs) := s2.same _ _ hd'
    refine step d (List.mem_of_getElem? ed) (L2.wipe σ vs) G2 H2 x e2 at2 _ fun σ3 δ3 e3 ag ln ⟨no, w⟩ => ⟨wipe_eq hjs ag ln, ?_⟩
    have rz2 : Rz R G2 H2 := (rz.stepB (s1.toB en.old)).stepB (st2.toB e1.old)
    refine iteT (B := Nx (i + 1) [] H2) ?_
    refine w σ3 G2 H2 e3 rz2 _ fun J1 es G4 H4 s4 e4 wk1 ⟨ef, each⟩ => ?_
    have gd4 : G4 Dl = none := s4.gn Dl gd2 (by rw [hd2]; exact fun z => nomatch z)
    have hd4 : H4 Dl = some (.lst xs) := s4.hs _ _ hd2 fD.1
    have st4 := st2.trans s4
    have al4 := (al.same s2.gs).same s4.gs
    have ew1 := e4.wipe vs1
    let N5 : Nat → Hp → Prop := fun j H5 => ∃ G5, Same G4 G5 ∧ ∃ xs, Stp R.T.S G1 H1 G5 H5 ∧ Same G5 H5 ∧ StO R.T.S G5 H5 ∧ G5 Dl = none ∧ H5 Dl = some (.lst xs) ∧ AtAll G5 xs ((ds.take i).flatMap f ++ (es.take j).map hd) ∧ Ens R.T G5 H5 δ3 σ3
    refine ⟨fun j k H5 => k = es.length - j ∧ j ≤ es.length ∧ N5 j H5,
      ⟨_, rfl, Nat.zero_le _, G4, .refl _, xs, st4, e4.same, e4.stt, gd4, hd4, al4, e4⟩, ?_⟩
    rintro j k5 H5 ⟨rfl, hj, G5, g45, ys, st5, sm5, so5, gd5, hd5, al5, en5⟩
    obtain ⟨go1, stop1, yld1⟩ := wk1 G5 H5 g45 sm5
    by_cases lt1 : j < es.length
    · refine .inr ⟨go1 j lt1, N5 (j + 1),
        fun H6 z => ⟨es.length - (j + 1), by omega, rfl, lt1, z⟩, fun x6 H6 y6 => ?_⟩
      obtain ⟨d6, G6, ed6, s6, sm6, at6⟩ := yld1 j x6 H6 lt1 y6
      have en6 := en5.step0 s6 sm6
      have st6 := st5.trans s6.zero
      have gd6 : G6 Dl = none := s6.gn Dl gd5 (by rw [hd5]; exact fun z => nomatch z)
      have hd6 : H6 Dl = some (.lst ys) := s6.same _ _ hd5
      refine each d6 (List.mem_of_getElem? ed6) (L2.wipe σ3 vs1) G6 H6 x6 (en6.wipe vs1) at6 _ fun σ7 δ7 e7 ag7 ln7 w7 => ⟨wipe_eq hjs1 ag7 ln7, ?_⟩
      have rz6 : Rz R G6 H6 := (rz.stepB (s1.toB en.old)).stepB (st6.toB e1.old)
      refine iteT (B := N5 (j + 1) H6) ?_
      refine w7 σ7 G6 H6 e7 rz6 _ fun v y8 G8 H8 s8 e8 a8 q8 => ?_
      subst q8
      have gd8 : G8 Dl = none := s8.gn Dl gd6 (by rw [hd6]; exact fun z => nomatch z)
      have hd8 : H8 Dl = some (.lst ys) := s8.hs _ _ hd6 fD.1
      have st8 := st6.trans s8
      have al8 := (al5.same s6.gs).same s8.gs
      have tk1 : (es.take (j + 1)).map hd = (es.take j).map hd ++ [hd d6] := by rw [List.take_add_one, ed6, List.map_append]; rfl
      have sm9 : Same G8 (upd H8 Dl (.lst (ys ++ [v]))) := fun b u e => by rw [upd_ne (ne_of_none e gd8)]; exact e8.same b u e
      have so9 : StO R.T.S G8 (upd H8 Dl (.lst (ys ++ [v]))) := fun a ha => by
        obtain ⟨q1, w1, q2, mo⟩ := e8.stt a ha
        exact ⟨q1, w1, by rw [upd_ne (show a ≠ Dl from fun z => fD.1 (by rw [← z]; exact ha))]; exact q2, mo⟩
      have st9 : Stp R.T.S G1 H1 G8 (upd H8 Dl (.lst (ys ++ [v]))) := ⟨st8.gs, fun b u e n => by rw [upd_ne (ne_of_none e hD)]; exact st8.hs b u e n, fun b e => by
        by_cases z : b = Dl
        · rw [z, upd_same]; exact fun q => nomatch q
        · rw [upd_ne z]; exact st8.al b e, st8.gn⟩
      refine ⟨ys, hd8, ?_, G8, (g45.trans s6.gs).trans s8.gs, ys ++ [v], st9, sm9, so9, gd8, upd_same, ?_, ?_⟩
      · rw [al5.length, List.length_append, List.length_map]
        refine Nat.lt_of_lt_of_le (m := 1000001) ?_ (by decide)
        have h1 : ((ds.take i).flatMap f).length + (es.map hd).length ≤ (ds.flatMap f).length := by
          have e9 : ds.flatMap f = (ds.take (i + 1)).flatMap f ++ (ds.drop (i + 1)).flatMap f := by rw [← List.flatMap_append, List.take_append_drop]
          rw [e9, tk, List.flatMap_append, List.length_append, List.length_append, ef]
          simp only [List.flatMap_cons, List.flatMap_nil, List.append_nil]
          omega
        rw [List.length_map] at h1
        have h2 := List.length_take_le j es
        omega
      · rw [tk1, ← List.append_assoc]
        exact al8.app (.cons a8 .nil)
      · exact (en6.step s8 (fun _ z => z) e8.same e8.stt).side gd8 fD.1 fD.2 no.1 no.2
    · have e : j = es.length := by omega
      subst e
      refine .inl ⟨stop1, ys, G5, st5, sm5, so5, gd5, hd5, ?_⟩
      rw [List.take_length, ef] at al5
      rw [tk, List.flatMap_append, List.append_nil]
      simpa using al5
  · have e : i = ds.length := by omega
    subst e
    refine .inl ⟨stop, ?_⟩
    rw [List.take_length, List.append_nil] at al
    have sp : Stp R.T.S G1 H1 (upd G' Dl (.lst xs)) H' := ⟨st.gs.trans (same_upd gd), st.hs, st.al, fun b e1' e2' => by rw [upd_ne (fun z => e2' (by rw [z]; exact hD))]; exact st.gn b e1' e2'⟩
    have sm' : Same (upd G' Dl (.lst xs)) H' := fun b u e => by
      by_cases z : b = Dl
      · subst z
        rw [upd_same] at e
        rw [← e]
        exact hd'
      · rw [upd_ne z] at e
        exact sm b u e
    refine k _ _ _ _ (s1.trans sp) (e1.step sp (fun _ z => z) sm' fun a ha => ?_) (.lst upd_same (al.same (same_upd gd))) fin
    obtain ⟨q1, w, q2, mo⟩ := so a ha
    exact ⟨by rw [upd_ne (show a ≠ Dl from fun z => fD.1 (by rw [← z]; exact ha))]; exact q1, w, q2, mo.same (same_upd gd)⟩
end
end Nv
/-! Nv, part Z: xs.index(x), names among names. -/
namespace Nv
open PySem PySem.Spec PyProof.Rows L2
variable [Tb] [Ls]
section
variable {R : Rg} {δ : List Sl} {ta tb : TE} {φ : D → Prop} {K : PySem.W.Frag}
theorem mt_indexK {X : Cx} {K : PySem.W.Frag} (h : X.K = K) : MtR X "list.index" (rIndex K) := h ▸ mt_index
theorem wpe_idx {α : Type} [DecidableEq α] (f : α → D) (g : α → V) (k1 : ∀ G xs (as : List α), AtAll G xs (as.map f) → xs = as.map g) (k2 : ∀ G v a, At G v (f a) → v = g a)
    (k3 : ∀ a, flatV (g a) = true) (k4 : ∀ a b, eqV (g a) (g b) = decide (a = b))
    (h : WpE R ta δ fun x => ∃ as : List α, x = .lst (as.map f) ∧ WpE R tb δ fun y => ∃ (a : α) (j : Nat), y = f a ∧ as[j]? = some a ∧ (∀ m, m < j → as[m]? ≠ some a) ∧ φ (.int j)) :
    WpE R (tBM K "list" (rIndex K) ta (tCons tb tNil)) δ φ := fun σ G H en rz Q k =>
  h σ G H en rz _ fun v x G1 H1 s1 e1 a1 ⟨as, ex, h2⟩ => by
    subst ex
    obtain ⟨p, xs, rfl, hp, al⟩ := at_lst a1
    obtain rfl := k1 _ _ _ al
    refine ⟨.inl ⟨rfl, _, sqL_of e1.same hp⟩, ?_⟩
    refine h2 σ G1 H1 e1 (rz.stepB (s1.toB en.old)) _ fun u y G2 H2 s2 e2 a2 ⟨a, j, ey, ej, nj, q⟩ => ?_
    subst ey
    obtain rfl := k2 _ _ _ a2
    refine ⟨p, as.map g, g a, j, g a, rfl, rfl, sqL_of e2.same (s2.gs _ _ hp), k3 a, List.all_eq_true.mpr fun z hz => ?_, by rw [List.getElem?_map, ej]; rfl, by rw [k4]; simp, fun m z hm e => ?_, k _ _ G2 H2 (s1.trans s2) e2 (.int _) q⟩
    · obtain ⟨b, _, rfl⟩ := List.mem_map.mp hz
      exact k3 b
    · rw [List.getElem?_map] at e
      obtain ⟨b, eb, rfl⟩ := Option.map_eq_some_iff.mp e
      rw [k4]
      exact decide_eq_false fun z => nj m hm (by rw [eb, z])
theorem wpe_idxI (h : WpE R ta δ fun x => ∃ as : List Int, x = .lst (as.map D.int) ∧ WpE R tb δ fun y => ∃ (a : Int) (j : Nat), y = .int a ∧ as[j]? = some a ∧ (∀ m, m < j → as[m]? ≠ some a) ∧ φ (.int j)) :
    WpE R (tBM K "list" (rIndex K) ta (tCons tb tNil)) δ φ :=
  wpe_idx D.int V.int (fun _ _ _ h => atAll_ints h) (fun _ _ _ h => by cases h; rfl) (fun _ => rfl) (fun a b => by show (a == b) = _; by_cases e : a = b <;> simp [e]) h
theorem wpe_idxS (h : WpE R ta δ fun x => ∃ as : List Str, x = .lst (as.map D.str) ∧ WpE R tb δ fun y => ∃ (a : Str) (j : Nat), y = .str a ∧ as[j]? = some a ∧ (∀ m, m < j → as[m]? ≠ some a) ∧ φ (.int j)) :
    WpE R (tBM K "list" (rIndex K) ta (tCons tb tNil)) δ φ :=
  wpe_idx D.str V.str (fun _ _ _ h => strs_atAll h) (fun _ _ _ h => by cases h; rfl) (fun _ => rfl) (fun a b => by show (a == b) = _; by_cases e : a = b <;> simp [e]) h
theorem inV_strs {z : Str} : ∀ {zs : List Str}, inV (.str z) (zs.map V.str) = decide (z ∈ zs)
  | [] => rfl
  | a :: zs => by
    rw [List.map_cons]
    show (eqV (.str a) (.str z) || inV (.str z) (zs.map V.str)) = _
    rw [inV_strs]
    show ((a == z) || _) = _
    by_cases e : a = z
    · subst e; simp
    · have e' : ¬ z = a := fun q => e q.symm
      simp [e, e']
theorem opd_inS {neg : Bool} {z : Str} {zs : List Str} {y : D} (e : y = .lst (zs.map D.str) ∨ y = .tup (zs.map D.str)) (q : φ (.bl (if neg then !decide (z ∈ zs) else decide (z ∈ zs)))) :
    OpD (rIn K neg) (.str z) y φ := fun G H v w s a b Q k => by
  cases a
  have fl : (zs.map V.str).all flatV = true := by
    rw [List.all_map]
    exact List.all_eq_true.mpr fun _ _ => rfl
  rcases e with rfl | rfl
  · obtain ⟨p0, xs, rfl, ha, al⟩ := at_lst b
    obtain rfl := strs_atAll al
    refine ⟨p0, _, rfl, .inl (sqL_of s ha), rfl, fl, ?_⟩
    rw [inV_strs]
    exact k _ _ G H .refl s (.bl _) q
  · obtain ⟨p0, xs, rfl, ha, al⟩ := at_tup b
    obtain rfl := strs_atAll al
    refine ⟨p0, _, rfl, .inr (sqT_of s ha), rfl, fl, ?_⟩
    rw [inV_strs]
    exact k _ _ G H .refl s (.bl _) q
end
end Nv
/-! Nv, part N: dicts of numbers; pairs in order; the place in a tuple. -/
namespace Nv
open PySem PySem.Spec PyProof.Rows L2
variable [Tb] [Ls]
section
variable {X : Cx}
theorem flat_nums (ns : List Int) : (ns.map V.int).all flatV = true := by
  rw [List.all_map, List.all_eq_true]
  exact fun _ _ => rfl
def rTupI (K : PySem.W.Frag) : V → List V → Hp → VK → Prop := fun x xs H Q => ∃ (p : Addr) (ns : List Int) (c : Int) (j : Nat), x = .ref p ∧ xs = [.int c] ∧ SqT K H p (ns.map V.int) ∧ ns[j]? = some c ∧ (∀ m, m < j → ns[m]? ≠ some c) ∧ Q (.int (j : Nat)) H
theorem mt_tupI : MtR X "tuple.index" (rTupI X.K) := by
  intro pins s σ H x xs v us Q I rx rs ⟨p, ns, c, j, ex, exs, sq, hit, no, q⟩
  subst ex
  subst exs
  cases rx
  obtain ⟨u, hu, t, ht⟩ := vals1 rs
  subst hu
  subst ht
  obtain ⟨its, rr, ob, lk⟩ := I.tuple sq
  obtain ⟨⟨cl, dd, da, sl⟩, ho, hcl, n, hda⟩ := ob
  obtain rfl : cl = _ := hcl
  obtain rfl : da = _ := hda
  have sz : its.toArray.size = ns.length := by rw [List.size_toArray, ← rr.length, List.length_map]
  have item : ∀ (m : Nat) (lm : m < its.toArray.size), ∃ (b : Int) (tk : Tok), ns[m]? = some b ∧ its.toArray[m] = Value.int b tk := by
    intro m lm
    have lm2 : m < ns.length := Nat.lt_of_lt_of_eq lm sz
    obtain ⟨w, ew, tk, etk⟩ := rr.get (i := m) (x := .int ns[m]) (by simp [lm2])
    have e9 := (List.getElem?_eq_some_iff.mp ew).2
    exact ⟨ns[m], tk, List.getElem?_eq_getElem lm2, by rw [← etk, ← e9]; simp⟩
  have lj : j < its.toArray.size := Nat.lt_of_lt_of_eq (List.getElem?_eq_some_iff.mp hit).1 sz.symm
  refine call_meets PySem.F.slot_tuple_index ⟨_, ho, rfl⟩ PySem.F.entry_tuple_index (PySem.F.args_tuple_index_2 _ _)
    (TI.tuple_indexAt p its.toArray n dd sl (.int c t) (eqU (.int c)) j lj ?_ ?_) ⟨ho, fun w hw => ?_, ⟨.int (j : Nat), H, I.tok _, ⟨_, rfl⟩, q⟩⟩
  · obtain ⟨b, tk, e1, e2⟩ := item j lj
    rw [hit] at e1
    obtain rfl := Option.some.inj e1
    rw [e2]
    exact beq_self_eq_true c
  · intro m lm lt
    obtain ⟨b, tk, e1, e2⟩ := item m lm
    rw [e2]
    have nb : b ≠ c := fun z => no m lt (by rw [e1, z])
    show (b == c) = false
    exact beq_false_of_ne nb
  · exact mem_eqAt (x := .int c) ⟨t, rfl⟩ rfl rr (flat_nums ns) w (by simpa using hw)
theorem mt_tupIK {X : Cx} {K : PySem.W.Frag} (h : X.K = K) : MtR X "tuple.index" (rTupI K) := h ▸ mt_tupI
end
section
variable {R : Rg} {δ : List Sl} {ta tb tc : TE} {tr : TA} {φ : D → Prop} {K : PySem.W.Frag}
/-- a dict of numbers -/
def numD (ks : List Int) (vs : List D) : D := .dic (ks.map Sum.inl) vs
theorem val_num : ∀ {kvs : List (Key × V)} {ks : List Int} {j : Nat} {z : Int} {v : V}, kvs.map (·.1) = ks.map Sum.inl → ks.Nodup → ks[j]? = some z → (kvs.map (·.2))[j]? = some v → valV kvs (Sum.inl z) = some v
  | [], _, j, _, _, _, _, _, e => by simp at e
  | (a, b) :: kvs, [], _, _, _, h, _, _, _ => by simp at h
  | (a, b) :: kvs, y :: ks, j, z, v, h, nd, e1, e2 => by
    rw [List.map_cons, List.map_cons] at h
    obtain ⟨h1, h2⟩ := List.cons.inj h
    obtain ⟨n1, n2⟩ := List.nodup_cons.mp nd
    match j, e1, e2 with
    | 0, e1, e2 =>
      obtain rfl : y = z := by simpa using e1
      obtain rfl : b = v := by simpa using e2
      exact valV_pos h1
    | j + 1, e1, e2 =>
      have m : z ∈ ks := List.mem_of_getElem? (by simpa using e1)
      rw [valV_neg (fun q => n1 (by
        rw [h1] at q
        rw [Sum.inl.inj q]
        exact m))]
      exact val_num h2 n2 (by simpa using e1) (by simpa using e2)
theorem at_num {G : Hp} {v : V} {ks : List Int} {ds : List D} (h : At G v (numD ks ds)) : ∃ (p : Addr) (kvs : List (Key × V)), v = .ref p ∧ G p = some (.dK kvs) ∧ kvs.map (·.1) = ks.map Sum.inl ∧ AtAll G (kvs.map (·.2)) ds := by
  unfold numD at h
  generalize hk : ks.map (Sum.inl (β := Str)) = kk at h
  cases h with
  | dic e t => exact ⟨_, _, rfl, e, rfl, t⟩
/-- d[k] -/
theorem wpe_getN (h : WpE R ta δ fun x => ∃ (ks : List Int) (ds : List D), x = numD ks ds ∧ ks.Nodup ∧ WpE R tb δ fun y => ∃ (z : Int) (j : Nat) (d : D), y = .int z ∧ ks[j]? = some z ∧ ds[j]? = some d ∧ φ d) : WpE R (tDGet ta tb) δ φ := fun σ G H en rz Q k =>
  h σ G H en rz _ fun v x G1 H1 s1 e1 a1 ⟨ks, ds, ex, nd, h2⟩ => by
    subst ex
    obtain ⟨p, kvs, rfl, hp, hk, al⟩ := at_num a1
    refine h2 σ G1 H1 e1 (rz.stepB (s1.toB en.old)) _ fun u y G2 H2 s2 e2 a2 ⟨z, j, d, ey, ej, ed, q⟩ => ?_
    subst ey
    cases a2
    obtain ⟨w, ew, aw⟩ := al.get ed
    refine ⟨p, w, rfl, .inl ⟨kvs, Sum.inl z, .inl (e2.same _ _ (s2.gs _ _ hp)), rfl, (val_num hk nd ej ew).symm⟩, k _ _ G2 H2 (s1.trans s2) e2 (aw.same s2.gs) q⟩
end
end Nv
/-! Nv, part O: a tuple that is known as an object: its index. -/
namespace Nv
open PySem PySem.Spec PyProof.Rows L2
variable [Tb] [Ls]
def rTupF (K : PySem.W.Frag) : List V → Hp → VK → Prop := fun xs H Q => ∃ p ys, xs = [.ref p] ∧ SqL K H p ys ∧ ∀ (l : Addr) (o : Obj), H l = none → o.dict = none → Q (.ref l) (upd H l (.frz o (.tup ys)))
theorem call_tupF {X : Cx} : CallR X (.type "tuple") (rTupF X.K) := by
  intro pins s σ H xs us Q I r ⟨p, ys, ex, sq, q⟩
  subst ex
  obtain ⟨u, hu, ru⟩ := vals1 r
  subst hu
  cases ru
  obtain ⟨its, rv, lay, fits⟩ := I.list sq
  have same := rv.length
  refine call_tuple_list lay.isList (fun hp kp => ?_) (by rw [List.size_toArray]; omega)
  have J : Inv X pins σ H { s with heap := hp } := I.kept (t' := s.toks) kp
  have fresh := J.hok.fresh (Nat.le_refl _)
  refine ⟨.ref hp.objs.size, upd H hp.objs.size (.frz { cls := .type "tuple", data := .seq its.toArray } (.tup ys)), ?_, rfl, q _ _ fresh rfl⟩
  refine J.laid (t' := s.toks) (fun b o e => Heap.get?_push_of_some _ e) (Nat.le_refl _) ⟨Heap.get?_push_size _ rfl, fits, its, rv, IsTup.new _ _⟩
/-- the slot of such a tuple, read -/
theorem wpe_varF {R : Rg} {δ : List Sl} {φ : D → Prop} {i : Nat} {a : Addr} {ds : List D} (e : δ[i]? = some (.fz a ds)) (q : φ (.tup ds)) : WpE R (tVar i) δ φ := fun σ G H en rz Q k => by
  obtain ⟨o, e1, rfl, ob, xs, hg, hd, al⟩ := en.get i _ e
  exact ⟨_, e1, k _ _ G H .refl en (.tup (.inl ⟨ob, hg, hd⟩) al) q⟩
theorem Ens.setF {T : Tr} {G H : Hp} {δ : List Sl} {σ : L2.St} (en : Ens T G H δ σ) {i : Nat} {a : Addr} {ob : Obj} {xs : List V} {ds : List D} (hg : G a = some (.frz ob (.tup xs))) (hd : ob.dict = none) (al : AtAll G xs ds) :
    Ens T G H (δ.set i (.fz a ds)) (σ.set i (some (.ref a))) := by
  have e0 := en.setD (i := i) (v := .ref a) (d := .tup ds) (.tup (.inl ⟨ob, hg, hd⟩) al)
  refine ⟨en.same, by rw [List.length_set, List.length_set]; exact en.len, fun j s e => ?_, en.stt, en.old, en.inv, fun j k b es fs h1 h2 => ?_, fun j k b es fs h1 h2 => ?_⟩
  · rcases get_set e with ⟨rfl, rfl⟩ | ⟨ne, e2⟩
    · have lt : j < σ.length := by
        rw [← en.len]
        have := (List.getElem?_eq_some_iff.mp e).1
        rwa [List.length_set] at this
      exact ⟨_, List.getElem?_set_self lt, rfl, ob, xs, hg, hd, al⟩
    · exact e0.get j s (by rw [List.getElem?_set_ne (fun z => ne z.symm)]; exact e2)
  · rcases get_set h1 with ⟨_, z⟩ | ⟨_, m1⟩
    · exact nomatch z
    · rcases get_set h2 with ⟨_, z⟩ | ⟨_, m2⟩
      · exact nomatch z
      · exact en.nd j k b es fs m1 m2
  · rcases get_set h1 with ⟨_, z⟩ | ⟨_, m1⟩
    · exact nomatch z
    · rcases get_set h2 with ⟨_, z⟩ | ⟨_, m2⟩
      · exact nomatch z
      · exact en.nd2 j k b es fs m1 m2
/-- x = tuple(..), known as an object -/
theorem wps_setF {R : Rg} {δ : List Sl} {Φ : List Sl → Prop} {Ψ : D → Prop} {K : PySem.W.Frag} {ta : TE} {i : Nat} (h : WpE R ta δ fun x => ∃ ds, x = .lst ds ∧ ∀ a, Φ (δ.set i (.fz a ds))) :
    WpS R (tAsg (tCB (rTupF K) (tCons ta tNil)) (gName i)) δ Φ Ψ := fun σ G H en rz Z k1 k2 =>
  h σ G H en rz _ fun v x G1 H1 s1 e1 a1 ⟨ds, ex, q⟩ => by
    subst ex
    obtain ⟨p, xs, rfl, hp, al⟩ := at_lst a1
    refine ⟨p, xs, rfl, sqL_of e1.same hp, fun l ob hl hd => ?_⟩
    have gl : G1 l = none := e1.same.free hl
    have gs : Same G1 (upd G1 l (.frz ob (.tup xs))) := same_upd gl
    have st : Stp R.T.S G1 H1 (upd G1 l (.frz ob (.tup xs))) (upd H1 l (.frz ob (.tup xs))) := by
      refine ⟨gs, fun b u e n => by rw [upd_ne (ne_of_none e hl)]; exact e, fun b e => ?_, fun b e1' e2' => ?_⟩
      · by_cases z : b = l
        · rw [z, upd_same]; exact fun q => nomatch q
        · rw [upd_ne z]; exact e
      · rw [upd_ne (fun z => e2' (by rw [z]; exact hl))]
        exact e1'
    have so : StO R.T.S (upd G1 l (.frz ob (.tup xs))) (upd H1 l (.frz ob (.tup xs))) := fun b hb => by
      obtain ⟨q1, w1, q2, mo⟩ := e1.stt b hb
      have nb : b ≠ l := ne_of_none q2 hl
      exact ⟨by rw [upd_ne nb]; exact q1, w1, by rw [upd_ne nb]; exact q2, mo.same (same_upd (e1.same.free hl))⟩
    have e2 := e1.step st (fun _ z => z) (upd_same2 e1.same) so
    exact k1 _ _ _ _ (((s1.trans st)).toB en.old) (e2.setF upd_same hd (al.same gs)) (q l)
/-- t.index(x) of such a tuple -/
def tIdxF (K : PySem.W.Frag) (to : TE) (t : TA) : TE := fun σ H Q => to σ H fun x H1 => (∃ (a : Addr) (ob : Obj) (xs : List V), x = .ref a ∧ H1 a = some (.frz ob (.tup xs)) ∧ ob.dict = none) ∧ t σ H1 fun vs H2 => rTupI K x vs H2 Q
theorem pe_idxF {X : Cx} {K : PySem.W.Frag} {o e : Expr} {to : TE} {t : TA} {apos cp : Pos} (hK : X.K = K) (ho : PE X o to) (ha : PA X [e] t)
    (b1 : attributeBase o "index" X.env (eval o X.env) = eval o X.env := by rfl)
    (b2 : ((backTo cp (starEach [e] X.env)).all (fun x => !x.1) && (backToKw cp (keywordEach [] X.env)).all (fun x => x.1.isSome) && decide ([e].length + ([] : List Keyword).length + (if ([] : List Keyword).isEmpty then 0 else 1) < 30)) = true := by rfl)
    (b3 : (apos.endLine == cp.line) = true := by rfl) (b4 : (backTo cp (starEach [e] X.env)).any (·.1) = false := by rfl)
    (b5 : starEach [e] X.env = (false, eval e X.env) :: starEach [] X.env := by rfl) :
    PE X (.Call (.Attribute o "index" apos) [e] [] cp) (tIdxF K to t) := by
  subst hK
  constructor
  intro pins s σ H Q I h
  apply wpAny_Call_method_late b1 b2 b3 rfl
  refine thn (ho.run pins s σ H _ I h) fun v s1 hv => ?_
  obtain ⟨x, H1, I1, r1, ⟨a, ob, xs, ex, hf, hd⟩, q1⟩ := hv
  subst ex
  cases r1
  obtain ⟨g1, _, its, _, o', g2, g3, _⟩ := (show ObjOk X.prog X.w H1 s1.heap a (.frz ob (.tup xs)) from I1.hok a _ hf)
  refine ⟨"tuple", "tuple.index", PySem.F.plainAttrs_tuple, PySem.F.slot_tuple_index, PySem.F.type_tuple_index, ⟨o', g2, g3⟩, fun b eb => ?_, ?_⟩
  · cases eb
    exact ⟨ob, g1, hd⟩
  · apply Calls.callWith_builtin b4
    have run := ha.run cp pins s1 σ H1 _ I1 q1
    rw [b5] at run ⊢
    exact Calls.evalArgs_plain (thn run fun us s2 ⟨vs, H2, I2, r2, q2⟩ => mt_tupI pins s2 σ H2 (.ref a) vs _ us Q I2 rfl r2 q2)
theorem wpe_idxF {R : Rg} {δ : List Sl} {φ : D → Prop} {K : PySem.W.Frag} {tb : TE} {i : Nat} {a : Addr} {ns : List Int} (e : δ[i]? = some (.fz a (ns.map D.int)))
    (h : WpE R tb δ fun y => ∃ (c : Int) (j : Nat), y = .int c ∧ ns[j]? = some c ∧ (∀ m, m < j → ns[m]? ≠ some c) ∧ φ (.int j)) : WpE R (tIdxF K (tVar i) (tCons tb tNil)) δ φ := fun σ G H en rz Q k => by
  obtain ⟨o, e1, rfl, ob, xs, hg, hd, al⟩ := en.get i _ e
  obtain rfl := atAll_ints al
  refine ⟨_, e1, ⟨a, ob, _, rfl, en.same _ _ hg, hd⟩, h σ G H en rz _ fun u y G2 H2 s2 e2 a2 ⟨c, j, ey, ej, nj, q⟩ => ?_⟩
  subst ey
  cases a2
  exact ⟨a, ns, c, j, rfl, rfl, .inl (.inr ⟨ob, e2.same _ _ (s2.gs _ _ hg)⟩), ej, nj, k _ _ G2 H2 s2 e2 (.int _) q⟩
end Nv
/-! Nv, part I: a dict of numbers made by a comprehension; pairs in order. -/
namespace Nv
open PySem PySem.Spec PyProof.Rows L2
variable [Tb] [Ls]
section
variable {R : Rg} {δ : List Sl} {φ : D → Prop} {K : PySem.W.Frag}
theorem valV_none {kvs : List (Key × V)} {k : Key} (h : ∀ p ∈ kvs, p.1 ≠ k) : valV kvs k = none := by
  unfold valV
  rw [List.find?_eq_none.mpr fun p hp => by simpa using h p hp]
  rfl
theorem wpe_dcN {wi : TI} {g : TG} {tk tv : TE} {vs js : List Nat} (hjs : ∀ j ∈ js, j ∈ vs) (kf : D → Int) (vf : D → D)
    (h : WpI R wi δ fun ds => ds.length ≤ 100000 ∧ (ds.map kf).Nodup ∧ (∀ d ∈ ds, WpG R g d (wipeD δ vs) js fun δ2 => WpE R tk δ2 fun y => y = .int (kf d) ∧ WpE R tv δ2 fun z => z = vf d) ∧ φ (numD (ds.map kf) (ds.map vf))) :
    WpE R (tDc wi g tYes tk tv vs) δ φ := fun σ G H en rz Q k => by
  refine h σ G H en rz _ fun J ds G1 H1 s1 e1 wk ⟨hl, nd, step, fin⟩ => ?_
  intro Dl hD
  have gD : G1 Dl = none := e1.same.free hD
  have nS : ¬ R.T.S Dl := fun z => by
    obtain ⟨_, w, e, _⟩ := e1.stt Dl z
    rw [hD] at e
    exact nomatch e
  have ew := e1.wipe vs
  let Nx : Nat → Hp → Prop := fun i H' => ∃ (kvs : List (Key × V)) (G' : Hp), Stp R.T.S G1 H1 G' H' ∧ Same G' H' ∧ StO R.T.S G' H' ∧ G' Dl = none ∧ H' Dl = some (.dK kvs) ∧ kvs.map (·.1) = ((ds.take i).map kf).map Sum.inl ∧ AtAll G' (kvs.map (·.2)) ((ds.take i).map vf)
  refine ⟨fun i m H' => m = ds.length - i ∧ i ≤ ds.length ∧ Nx i H', ⟨_, rfl, Nat.zero_le _, [], G1, Stp.grow (same_upd hD), e1.same.trans (same_upd hD), fun a ha => ?_, gD, upd_same, rfl, .nil⟩, ?_⟩
  · obtain ⟨q, w, e, mo⟩ := e1.stt a ha
    exact ⟨q, w, by rw [upd_ne (ne_of_none e hD)]; exact e, mo⟩
  rintro i m H' ⟨rfl, hi, kvs, G', st, sm, so, gd, hd, hk, al⟩
  have e' : Ens R.T G' H' (wipeD δ vs) (L2.wipe σ vs) := ew.step st (fun _ z => z) sm so
  obtain ⟨go, stop, yld⟩ := wk G' H' st.gs sm
  by_cases lt : i < ds.length
  · refine .inr ⟨go i lt, Nx (i + 1), fun H2 z => ⟨ds.length - (i + 1), by omega, rfl, lt, z⟩, fun x H2 y => ?_⟩
    obtain ⟨d, G2, ed, s2, sm2, at2⟩ := yld i x H2 lt y
    have e2 := e'.step0 s2 sm2
    have st2 := st.trans s2.zero
    have gd2 : G2 Dl = none := s2.gn Dl gd (by rw [hd]; exact fun z => nomatch z)
    have hd2 : H2 Dl = some (.dK kvs) := s2.same _ _ hd
    refine step d (List.mem_of_getElem? ed) (L2.wipe σ vs) G2 H2 x e2 at2 _ fun σ3 δ3 e3 ag ln w => ⟨wipe_eq hjs ag ln, ?_⟩
    have rz2 : Rz R G2 H2 := (rz.stepB (s1.toB en.old)).stepB (st2.toB e1.old)
    refine iteT (B := Nx (i + 1) H2) ?_
    refine w σ3 G2 H2 e3 rz2 _ fun v y4 G4 H4 s4 e4 a4 ⟨ey, w2⟩ => ?_
    subst ey
    cases a4
    refine w2 σ3 G4 H4 e4 (rz2.stepB (s4.toB e3.old)) _ fun v5 y5 G5 H5 s5 e5 a5 ey5 => ?_
    subst ey5
    have st5 := (st2.trans s4).trans s5
    have gd4 : G4 Dl = none := s4.gn Dl gd2 (by rw [hd2]; exact fun z => nomatch z)
    have hd4 : H4 Dl = some (.dK kvs) := s4.hs _ _ hd2 nS
    have gd5 : G5 Dl = none := s5.gn Dl gd4 (by rw [hd4]; exact fun z => nomatch z)
    have hd5 : H5 Dl = some (.dK kvs) := s5.hs _ _ hd4 nS
    have al5 := ((al.same s2.gs).same s4.gs).same s5.gs
    have tk1 : ds.take (i + 1) = ds.take i ++ [d] := by rw [List.take_add_one, ed]; rfl
    have len : kvs.length = i := by
      have := congrArg List.length hk
      rw [List.length_map, List.length_map, List.length_map, List.length_take] at this
      omega
    have nk : ∀ p ∈ kvs, p.1 ≠ Sum.inl (kf d) := fun p hp e => by
      have m : p.1 ∈ kvs.map (·.1) := List.mem_map.mpr ⟨p, hp, rfl⟩
      rw [hk, e] at m
      obtain ⟨z, hz, ez⟩ := List.mem_map.mp m
      have : z = kf d := Sum.inl.inj ez
      subst this
      have nd2 : ((ds.take (i + 1)).map kf).Nodup := nd.sublist ((List.take_sublist _ _).map _)
      rw [tk1, List.map_append, List.nodup_append] at nd2
      exact nd2.2.2 _ hz _ (by simp) rfl
    refine ⟨kvs, Sum.inl (kf d), rfl, hd5, by rw [len]; exact Nat.lt_of_le_of_lt (Nat.le_trans hi hl) (by decide), ?_⟩
    rw [putK_new v5 (valV_none nk)]
    refine ⟨kvs ++ [(Sum.inl (kf d), v5)], G5, ⟨st5.gs, fun b u e n => ?_, fun b e => ?_, st5.gn⟩, fun b u e => ?_, fun a ha => ?_, gd5, upd_same, ?_, ?_⟩
    · rw [upd_ne (ne_of_none e hD)]
      exact st5.hs b u e n
    · by_cases z : b = Dl
      · rw [z, upd_same]; exact fun q => nomatch q
      · rw [upd_ne z]; exact st5.al b e
    · rw [upd_ne (ne_of_none e gd5)]
      exact e5.same b u e
    · obtain ⟨q1, w1, q2, mo⟩ := e5.stt a ha
      exact ⟨q1, w1, by rw [upd_ne (show a ≠ Dl from fun z => nS (by rw [← z]; exact ha))]; exact q2, mo⟩
    · rw [List.map_append, hk, tk1, List.map_append, List.map_append]
      rfl
    · rw [List.map_append, tk1, List.map_append]
      exact al5.app (.cons a5 .nil)
  · have e : i = ds.length := by omega
    subst e
    refine .inl ⟨stop, ?_⟩
    rw [List.take_length] at hk al
    have sp : Stp R.T.S G1 H1 (upd G' Dl (.dK kvs)) H' := ⟨st.gs.trans (same_upd gd), st.hs, st.al, fun b e1' e2' => by rw [upd_ne (fun z => e2' (by rw [z]; exact hD))]; exact st.gn b e1' e2'⟩
    have sm' : Same (upd G' Dl (.dK kvs)) H' := fun b u e => by
      by_cases z : b = Dl
      · subst z
        rw [upd_same] at e
        rw [← e]
        exact hd
      · rw [upd_ne z] at e
        exact sm b u e
    have atD : At (upd G' Dl (.dK kvs)) (.ref Dl) (numD (ds.map kf) (ds.map vf)) := by
      unfold numD
      rw [← hk]
      exact .dic upd_same (al.same (same_upd gd))
    refine k _ _ _ _ (s1.trans sp) (e1.step sp (fun _ z => z) sm' fun a ha => ?_) atD fin
    obtain ⟨q1, w, q2, mo⟩ := so a ha
    exact ⟨by rw [upd_ne (show a ≠ Dl from fun z => nS (by rw [← z]; exact ha))]; exact q1, w, q2, mo.same (same_upd gd)⟩
end
section
variable {X : Cx}
/-- sorted(..) of a list of pairs of numbers, frozen or not -/
def rSortP2 (K : PySem.W.Frag) : List V → Hp → VK → Prop := fun vs H Q => ∃ (l : Addr) (ws : List V) (f : V → Int × Int), vs = [V.ref l] ∧ SqL K H l ws ∧ (∀ w ∈ ws, ∃ b, w = V.ref b ∧ Rd H b (.tup [.int (f w).1, .int (f w).2])) ∧
  ∀ zs q, SrtO.Srtd (ltP f) zs → SrtO.Stb (ltP f) zs ws → H q = none → Q (.ref q) (upd H q (.lst zs))
theorem cr_sortP2 : CallR X (.builtin "sorted") (rSortP2 X.K) := by
  intro pn st sg Hh args vals Kq J rel hyp
  obtain ⟨l, ws, f, ea, sq, each, fin⟩ := hyp
  subst ea
  obtain ⟨items, rvs, lay, fit⟩ := J.list sq
  obtain ⟨arg, earg, rarg⟩ := vals1 rel
  subst earg
  cases rarg
  have isr : ∀ w ∈ ws, ∃ b, w = V.ref b := fun w m => (each w m).imp fun b z => z.1
  obtain ⟨back, refs⟩ := refs_back rvs isr
  have lens : items.length ≤ sizeLine := Nat.le_trans (Nat.le_of_eq rvs.length.symm) fit
  refine SrtO.sorted_pairsO (k := fun v => f (backV v)) lay.isList lens ?_ ?_
  · intro v mv
    obtain ⟨b, eb⟩ := refs v mv
    subst eb
    have mem : V.ref b ∈ ws := by rw [back]; exact List.mem_map_of_mem mv
    obtain ⟨c, ec, rd⟩ := each _ mem
    obtain rfl := V.ref.inj ec
    obtain ⟨_, two, rtwo, ob, go, gc, gn, gd⟩ := rd.ok J.hok
    obtain ⟨v1, v2, etwo, rv1, rv2⟩ := vals2 rtwo
    subst etwo
    obtain ⟨k1, z1⟩ := rv1
    obtain ⟨k2, z2⟩ := rv2
    subst z1
    subst z2
    exact ⟨b, ob, k1, k2, gn, rfl, go, gc, gd⟩
  · intro hp dl outs s1 s2 kept isnew hn
    obtain ⟨nn, enn⟩ := hn
    have allr : ∀ v ∈ outs, ∃ b, v = Value.ref b := fun v mv => refs v (s2.perm.mem_iff.mp mv)
    have stb : SrtO.Stb (ltP f) (outs.map backV) ws := by rw [back]; exact SrtO.Stb.map (ltP_swo f) backV s2
    have fit2 : (outs.map backV).length ≤ sizeLine := Nat.le_trans (Nat.le_of_eq stb.len) fit
    exact ⟨.ref dl, upd Hh dl (.lst (outs.map backV)), J.laid (t' := st.toks) kept isnew ⟨fit2, outs, nn, vals_back allr, enn⟩, rfl, fin _ dl (SrtO.srtd_map s1) stb (J.hok.fresh isnew)⟩
end
section
variable {φ : D → Prop} {K : PySem.W.Frag}
def pairD (p : Int × Int) : D := .tup [.int p.1, .int p.2]
theorem at_pair {G : Hp} {v : V} {p : Int × Int} (h : At G v (pairD p)) : ∃ t, v = .ref t ∧ Rd G t (.tup [.int p.1, .int p.2]) := by
  obtain ⟨t, xs, rfl, ht, al⟩ := at_tup h
  cases al with
  | cons a1 al =>
    cases al with
    | cons a2 al =>
      cases al
      cases a1
      cases a2
      exact ⟨t, rfl, ht⟩
theorem pair_uniq {G : Hp} {t : Addr} {p q : Int × Int} (h1 : Rd G t (.tup [.int p.1, .int p.2])) (h2 : Rd G t (.tup [.int q.1, .int q.2])) : p = q := by
  have key : ∀ {a b c d : Int}, HO.tup [V.int a, V.int b] = HO.tup [V.int c, V.int d] → a = c ∧ b = d := fun e => by
    obtain ⟨e1, e2⟩ := List.cons.inj (HO.tup.inj e)
    exact ⟨V.int.inj e1, V.int.inj (List.cons.inj e2).1⟩
  have fin : p.1 = q.1 ∧ p.2 = q.2 → p = q := fun ⟨a, b⟩ => Prod.ext a b
  rcases h1 with h1 | ⟨o, h1⟩ <;> rcases h2 with h2 | ⟨o2, h2⟩ <;> rw [h1] at h2 <;> have h3 := Option.some.inj h2
  · exact fin (key h3)
  · exact nomatch h3
  · exact nomatch h3
  · exact fin (key (HO.frz.inj h3).2)
theorem cbd_sortP {ps : List (Int × Int)} (q : ∀ qs : List (Int × Int), qs.Perm ps → qs.Pairwise (fun a b => a.1 ≤ b.1) → φ (.lst (qs.map pairD))) : CbD (rSortP2 K) [.lst (ps.map pairD)] φ := fun G H vs s a Q k => by
  cases a with
  | cons a t =>
    cases t
    obtain ⟨p0, xs, rfl, ha, al⟩ := at_lst a
    let F : V → Int × Int → Prop := fun v p => ∃ t, v = .ref t ∧ Rd G t (.tup [.int p.1, .int p.2])
    have uniq : ∀ {v : V} {p r : Int × Int}, F v p → F v r → p = r := fun ⟨t, e, h1⟩ ⟨t2, e2, h2⟩ => by
      subst e
      obtain rfl := V.ref.inj e2
      exact pair_uniq h1 h2
    let f : V → Int × Int := fun v => @dite _ (∃ p, F v p) (Classical.propDecidable _) (fun h => Classical.choose h) (fun _ => (0, 0))
    have fs : ∀ {v : V} {p : Int × Int}, F v p → f v = p := fun {v p} h => by
      have ex : ∃ p, F v p := ⟨p, h⟩
      show @dite _ (∃ p, F v p) (Classical.propDecidable _) (fun h => Classical.choose h) (fun _ => (0, 0)) = p
      rw [dif_pos ex]
      exact uniq (Classical.choose_spec ex) h
    have all : ∀ {xs : List V} {ps : List (Int × Int)}, AtAll G xs (ps.map pairD) → xs.map f = ps ∧ ∀ x ∈ xs, F x (f x) := by
      intro xs ps
      induction ps generalizing xs with
      | nil =>
        intro al
        cases al
        exact ⟨rfl, fun x hx => nomatch hx⟩
      | cons p ps ih =>
        intro al
        rw [List.map_cons] at al
        cases al with
        | cons a1 a2 =>
          have h1 : F _ p := at_pair a1
          obtain ⟨i1, i2⟩ := ih a2
          refine ⟨by rw [List.map_cons, i1, fs h1], fun x hx => ?_⟩
          rcases List.mem_cons.mp hx with rfl | hx
          · rw [fs h1]; exact h1
          · exact i2 x hx
    obtain ⟨e1, e2⟩ := all al
    refine ⟨p0, xs, f, rfl, sqL_of s ha, fun x hx => ?_, fun ys p h1 h2 hp => ?_⟩
    · obtain ⟨t, e, h⟩ := e2 x hx
      exact ⟨t, e, rdS s h⟩
    · have st : Stp S0 G H (upd G p (.lst ys)) (upd H p (.lst ys)) := .new s hp
      have yal : ∀ {ys : List V}, (∀ y ∈ ys, F y (f y)) → AtAll G ys ((ys.map f).map pairD) := by
        intro ys
        induction ys with
        | nil => exact fun _ => .nil
        | cons y ys ih =>
          intro h
          obtain ⟨t, e, hr⟩ := h y (by simp)
          rw [List.map_cons, List.map_cons]
          refine .cons ?_ (ih fun z hz => h z (List.mem_cons_of_mem _ hz))
          generalize f y = r at hr
          subst e
          exact .tup (.inr ⟨hr, rfl⟩) (.cons (.int _) (.cons (.int _) .nil))
      have ya : AtAll G ys ((ys.map f).map pairD) := yal fun y hy => e2 y (h2.perm.mem_iff.mp hy)
      refine k _ _ _ _ st (upd_same2 s) (.lst upd_same (ya.same st.gs)) (q _ ?_ ?_)
      · rw [← e1]
        exact h2.perm.map f
      · refine List.pairwise_map.mpr (h1.imp fun {a b} h => ?_)
        have := SrtO.lexB_no.mp h
        omega
end
end Nv
/-! Nv, part J: sorted(t), t a tuple of numbers. -/
namespace Nv
open PySem PySem.Spec PyProof.Rows L2 SrtO
variable [Tb] [Ls]
section
variable {prog : Program} {w : World} {A : Around} {E : Value → Shared → Prop} {s : Shared}
theorem collect_tupN {t : Addr} {us : List Value} {Q : List Value → Shared → Prop} (ht : IsTup s.heap t us.toArray) (fit : us.length ≤ sizeLine)
    (q : Q us { s with heap := (s.heap.push (seqObj "list" #[] 0)).update s.heap.objs.size (Obj.mapSeq (· ++ us.toArray)) }) :
    wpAny (model prog w) A (collect (.ref t)) Q E s := by
  obtain ⟨ob, g, gc, k, gd⟩ := ht
  unfold collect
  apply wpAny_bind
  apply wpAny_runValue
  apply codeAny_builtin entry_proto_collect'
  show wpAny _ _ (do again (.builtin "list.__iadd__" ⟨[← newList [], .ref t], []⟩)) _ _ s
  apply wpAny_bind
  refine wpAny_newList ?_
  refine wpAny_pure ⟨Code.quiet_builtin _ (by decide +kernel), ?_⟩
  apply codeAny_builtin entry_list_iadd'
  show wpAny _ _ (Builtin.List.listExtendWith (.ref s.heap.objs.size) (.ref t) (.ref s.heap.objs.size)) _ _ { s with heap := s.heap.push (seqObj "list" #[] 0) }
  unfold Builtin.List.listExtendWith
  have g2 : (s.heap.push (seqObj "list" #[] 0)).get? t = some ob := Heap.get?_push_of_some _ g
  apply wpAny_bind
  refine wpAny_typeOf (T := "tuple") ⟨ob, g2, gc⟩ ?_
  have tt : (Value.type "tuple" == Value.type "tuple") = true := rfl
  rw [if_pos (by rw [tt]; simp)]
  apply wpAny_bind
  refine listItems_at g2 gd ?_
  apply wpAny_bind
  refine listItems_at (xs := #[]) (n := 0) (Heap.get?_push_size _ rfl) rfl ?_
  rw [if_neg (by simp)]
  apply wpAny_bind
  refine listUpdate_at (xs := #[]) (n := 0) (Heap.get?_push_size _ rfl) rfl ?_ (Nat.zero_le _) (by
    show (#[] ++ us.toArray).size ≤ sizeLine + 1
    rw [Array.size_append, List.size_toArray]
    show 0 + us.length ≤ _
    omega)
  apply wpAny_pure
  apply wpAny_bind
  refine wpAny_load (get?_update_seq (Heap.get?_push_size _ rfl) _) ?_
  show wpAny _ _ (pure ((#[] : Array Value) ++ us.toArray).toList) Q E _
  have e9 : ((#[] : Array Value) ++ us.toArray).toList = us := by simp
  rw [e9]
  exact wpAny_pure q
theorem sorted_tupN {t : Addr} {us : List Value} {ns : List Int} {Q : Value → Shared → Prop} (ht : IsTup s.heap t us.toArray) (fit : us.length ≤ sizeLine) (inn : IntsAre us ns)
    (q : ∀ outs : List Value, Srtd ltIv outs → Stb ltIv outs us → Q (.ref (s.heap.objs.size + 1)) { s with heap := sortedAll s.heap us outs.toArray }) :
    wpAny (model prog w) A (call (.builtin "sorted") [.ref t]) Q E s := by
  apply Calls.call_function_entry kind_sorted plain_sorted entry_sorted (args_sorted1 _)
  unfold Builtin.«sorted»
  apply wpAny_bind (m := checkCount "sorted" 1 1 _)
  apply wpAny_pure
  apply wpAny_bind
  refine collect_tupN ht fit ?_
  apply wpAny_bind
  refine wpAny_newList ?_ fit
  generalize hH : (s.heap.push (seqObj "list" #[] 0)).update s.heap.objs.size (Obj.mapSeq (· ++ us.toArray)) = Hc
  have size : Hc.objs.size = s.heap.objs.size + 1 := by rw [← hH, Heap.size_update, size_push']
  have place : (Hc.push (seqObj "list" us.toArray 0)).get? (s.heap.objs.size + 1) = some (seqObj "list" us.toArray 0) := by
    rw [← size]
    exact Heap.get?_push_size _ rfl
  show wpAny _ _ _ _ _ { s with heap := Hc.push (seqObj "list" us.toArray 0) }
  rw [size]
  apply wpAny_bind
  apply wpAny_holding
  refine wpAny_call_entry slot_list_sort ⟨_, place, rfl⟩ entry_list_sort (list_sort_ord swo_int place fit (fun two => ints_sortable inn two) fun outs k1 k2 => ⟨_, rfl, ?_⟩) (args_list_sort _)
  refine wpAny_pure ⟨_, rfl, ?_⟩
  have last := q outs k1 k2
  unfold sortedAll at last
  rw [hH] at last
  exact last
end
section
variable {X : Cx}
/-- sorted(t), t a tuple of numbers -/
def rSortT (K : PySem.W.Frag) : List V → Hp → VK → Prop := fun vs H Q => ∃ (t : Addr) (ns : List Int), vs = [V.ref t] ∧ SqT K H t (ns.map V.int) ∧ ∀ (ms : List Int) (p : Addr), ms.Perm ns → ms.Pairwise (· ≤ ·) → H p = none → Q (.ref p) (upd H p (.lst (ms.map V.int)))
theorem cr_sortT2 : CallR X (.builtin "sorted") (rSortT X.K) := by
  intro pn st sg Hh args vals Kq J rel hyp
  obtain ⟨t, ns, ea, sq, fin⟩ := hyp
  subst ea
  obtain ⟨items, rvs, lay, fit⟩ := J.tuple sq
  rw [Vals.ref1 rel]
  have inn := rvs.ints
  have fit2 : items.length ≤ sizeLine := Nat.le_trans (Nat.le_of_eq rvs.length.symm) fit
  refine sorted_tupN lay fit2 inn fun outs s1 s2 => ?_
  obtain ⟨o1, o2, o3⟩ := ints_out inn s1 s2
  obtain ⟨epoch, placed⟩ := PyProof.Rows.sortedAll_at st.heap items outs.toArray
  have fit3 : ((outs.map iv).map V.int).length ≤ sizeLine := by
    rw [List.length_map, o2.length_eq]
    rwa [List.length_map] at fit
  have J2 := J.laid (t' := st.toks) (o := .lst ((outs.map iv).map V.int)) (fun _ _ => PyProof.Rows.sortedAll_old) (Nat.le_succ _) ⟨fit3, outs, epoch, vals_of_ints o1, placed⟩
  exact ⟨.ref _, _, J2, rfl, fin _ _ o2 o3 (J.hok.fresh (Nat.le_succ _))⟩
theorem cr_sortT2K {K : PySem.W.Frag} (h : X.K = K) : CallR X (.builtin "sorted") (rSortT K) := h ▸ cr_sortT2
theorem cr_sortP2K {K : PySem.W.Frag} (h : X.K = K) : CallR X (.builtin "sorted") (rSortP2 K) := h ▸ cr_sortP2
end
section
variable {φ : D → Prop} {K : PySem.W.Frag}
theorem cbd_sortT {zs : List Int} (q : ∀ ys : List Int, ys.Perm zs → ys.Pairwise (· ≤ ·) → φ (.lst (ys.map D.int))) : CbD (rSortT K) [.tup (zs.map D.int)] φ := fun G H vs s a Q k => by
  cases a with
  | cons a t =>
    cases t
    obtain ⟨p0, xs, rfl, ha, al⟩ := at_tup a
    obtain rfl := atAll_ints al
    refine ⟨p0, zs, rfl, sqT_of s ha, fun ys p h1 h2 hp => ?_⟩
    have st : Stp S0 G H (upd G p (.lst (ys.map V.int))) (upd H p (.lst (ys.map V.int))) := .new s hp
    exact k _ _ _ _ st (upd_same2 s) (.lst upd_same (ints_atAll ys)) (q ys h1 h2)
end
end Nv
/-! Nv, part K: list(range(..)). -/
namespace Nv
open PySem PySem.Spec PyProof.Rows L2
variable [Tb] [Ls]
section
variable {R : Rg} {δ : List Sl} {ta tb : TE} {φ : D → Prop} {K : PySem.W.Frag}
/-- the whole numbers from a to b - 1 -/
def rgI (a b : Int) : List Int := (List.range (b - a).toNat).map fun i => a + (i : Nat)
theorem rgV_int {a b : Int} : rgV a b = (rgI a b).map V.int := by
  unfold rgV rgI
  rw [List.map_map]
  rfl
theorem rg_new {σ : L2.St} {G H : Hp} {Q : VK} {a b : Int} {T : Tr} (en : Ens T G H δ σ) (k : ∀ v d G' H', Stp T.S G H G' H' → Ens T G' H' δ σ → At G' v d → φ d → Q v H') (q : φ (.lst ((rgI a b).map D.int))) :
    ∀ p, H p = none → Q (.ref p) (upd H p (.lst (rgV a b))) := fun p hp => by
  rw [rgV_int]
  have st : Stp S0 G H (upd G p (.lst ((rgI a b).map V.int))) (upd H p (.lst ((rgI a b).map V.int))) := .new en.same hp
  exact k _ _ _ _ st.zero (en.step0 st (upd_same2 en.same)) (.lst upd_same (ints_atAll _)) q
theorem wpe_lrg1 (h : WpE R ta δ fun x => ∃ n : Int, x = .int n ∧ 0 ≤ n ∧ n ≤ 100000 ∧ φ (.lst ((rgI 0 n).map D.int))) : WpE R (tLstRg (tRg1 ta)) δ φ := fun σ G H en rz Q k =>
  h σ G H en rz _ fun v x G1 H1 s1 e1 a1 ⟨n, ex, n0, n1, q⟩ => by
    subst ex
    cases a1
    exact ⟨n, rfl, .of_le (by omega) (by omega) (by omega) n0, rg_new e1 (fun v d G' H' st e a z => k v d G' H' (s1.trans st) e a z) q⟩
theorem wpe_lrg2 (h : WpE R ta δ fun x => WpE R tb δ fun y => ∃ m n : Int, x = .int m ∧ y = .int n ∧ 0 ≤ m ∧ m ≤ 100000 ∧ 0 ≤ n ∧ n ≤ 100000 ∧ φ (.lst ((rgI m n).map D.int))) : WpE R (tLstRg (tRg2 ta tb)) δ φ := fun σ G H en rz Q k =>
  h σ G H en rz _ fun v x G1 H1 s1 e1 a1 h2 => h2 σ G1 H1 e1 (rz.stepB (s1.toB en.old)) _ fun u y G2 H2 s2 e2 a2 ⟨m, n, ex, ey, m0, m1, n0, n1, q⟩ => by
    subst ex
    subst ey
    cases a1
    cases a2
    exact ⟨m, n, rfl, rfl, .of_le m0 (by omega) (by omega) n0, rg_new e2 (fun v d G' H' st e a z => k v d G' H' ((s1.trans s2).trans st) e a z) q⟩
end
end Nv
/-! Nv, part L: sets of numbers and texts, each key once; sorted of them. -/
namespace Nv
open PySem PySem.Spec PyProof.Rows L2
/-- the key of what a set stores -/
def ky (p : Int × Value) : Key :=
  match p.2 with
  | .int i _ => .inl i
  | .str x _ => .inr x
  | _ => .inl 0
theorem ky_of {k : Key} {p : Int × Value} (h : keyIs k p.2 = true) : ky p = k := by
  unfold ky
  rcases keyIs_shape h with ⟨i, t, rfl, e⟩ | ⟨x, t, rfl, e⟩ <;> rw [e]
structure Kp (w : World) (p : Int × Value) : Prop where
  is : keyIs (ky p) p.2 = true
  hs : p.1 = keyH w (ky p)
theorem Kp.scan {w : World} {p : Int × Value} (h : Kp w p) : p.2.scannable = true := by
  rcases keyIs_shape h.is with ⟨i, t, _, e⟩ | ⟨x, t, _, e⟩ <;> rw [e] <;> rfl
theorem kp_elems {P : Program} {w : World} {l : List (Int × Value)} (g : ∀ p ∈ l, Kp w p) : ElemsOf (mixKind P w) l :=
  fun p hp => ⟨⟨ky p, (g p hp).is, (g p hp).hs⟩, (g p hp).scan⟩
/-- one key more, if it is new -/
noncomputable def insK (ks : List Key) (k : Key) : List Key := @ite _ (k ∈ ks) (Classical.propDecidable _) ks (ks ++ [k])
theorem insK_old {ks : List Key} {k : Key} (h : k ∈ ks) : insK ks k = ks := by unfold insK; exact if_pos h
theorem insK_new {ks : List Key} {k : Key} (h : k ∉ ks) : insK ks k = ks ++ [k] := by unfold insK; exact if_neg h
theorem insK_mem {ks : List Key} {k j : Key} : j ∈ insK ks k ↔ j ∈ ks ∨ j = k := by
  by_cases h : k ∈ ks
  · rw [insK_old h]
    exact ⟨.inl, fun z => z.elim id fun e => e ▸ h⟩
  · rw [insK_new h, List.mem_append, List.mem_singleton]
theorem insK_len {ks : List Key} {k : Key} : (insK ks k).length ≤ ks.length + 1 := by
  by_cases h : k ∈ ks
  · rw [insK_old h]
    exact Nat.le_succ _
  · rw [insK_new h, List.length_append]
    exact Nat.le_refl _
/-- what the set at an address stores, as lists: elements, table -/
structure StA (w : World) (es : Array (Int × Value)) (t : SetTable) (ks : List Key) : Prop where
  kp : ∀ p ∈ es.toList, Kp w p
  nd : ks.Nodup
  pm : (es.toList.map ky).Perm ks
  sz : es.size < scanBound
  fit : t.fits es.size = true
  ris : Ris t.place.toList
  led : w.params.followText "set-order" = true ∨ t.led = true
theorem StA.len {w : World} {es : Array (Int × Value)} {t : SetTable} {ks : List Key} (h : StA w es t ks) : es.size = ks.length := by
  rw [← h.pm.length_eq, List.length_map, Array.length_toList]
/-- the set at a holds these keys -/
def StT (w : World) (h : Heap) (a : Addr) (ks : List Key) : Prop := ∃ o es ep t, h.get? a = some o ∧ o.ExactSet ∧ o.data = .set es ep t ∧ StA w es t ks
theorem StT.at {w : World} {h h' : Heap} {a : Addr} {ks : List Key} (r : StT w h a ks) (k : ∀ o, h.get? a = some o → h'.get? a = some o) : StT w h' a ks :=
  match r with
  | ⟨o, es, ep, t, e, q⟩ => ⟨o, es, ep, t, k o e, q⟩
theorem keep_put {h : Heap} {a : Addr} {o : Obj} {es fs : Array (Int × Value)} {ep : Nat} {t u : SetTable} (e : h.get? a = some o) (d : o.data = .set es ep t) :
    (h.update a (Obj.putSet fs u)).get? a = some { o with data := .set fs (ep + 1) u } := by
  rw [Heap.get?_update_self (Obj.putSet fs u) e (by rw [putSet_of fs u d]; rfl), putSet_of fs u d]
section
variable {P : Program} {w : World} {A : Around} {E : Value → Shared → Prop} {s : Shared} {a : Addr} {ks : List Key}
/-- behind the new element: the store, and the table made greater where it is too full -/
theorem stT_store {gave : Bool → Sem Unit} (hg : ∀ (b : Bool) (s1 : Shared) (R : Unit → Shared → Prop), R () s1 → wpAny (model P w) A (gave b) R E s1)
    {o : Obj} {es fs : Array (Int × Value)} {ep : Nat} {t u : SetTable} (ho : s.heap.get? a = some o) (hx : o.ExactSet) (hd : o.data = .set es ep t) (n : StA w fs u ks) {dm : Bool} {R : Option Bool → Shared → Prop}
    (q : ∀ h', Heap.SameBut a s.heap h' → StT w h' a ks → R (some true) { s with heap := h' }) :
    wpAny (model P w) A (do
        storeSet a fs u
        if (!dm && u.tooFull) = true then do
            gave (relayAll u fs (SetTable.grown fs.size)).2.2
            storeSet a (relayAll u fs (SetTable.grown fs.size)).1 (relayAll u fs (SetTable.grown fs.size)).2.1
            pure (some true)
          else pure (some true)) R E s := by
  have e1 := keep_put (fs := fs) (u := u) ho hd
  have b1 := Heap.SameBut.update s.heap a (Obj.putSet fs u)
  refine wpAny_bind (wpAny_storeSet_of ho hd ?_ (fits_of_scanBound n.sz))
  split
  · obtain ⟨p1, p2⟩ := And.intro (relayAll_perm u fs (SetTable.grown fs.size)) (relayAll_fits u fs (SetTable.grown fs.size))
    obtain ⟨p3, p4⟩ := And.intro (relayAll_ris u fs (SetTable.grown fs.size)) (relayAll_led u fs (SetTable.grown fs.size))
    revert p1 p2 p3 p4
    generalize relayAll u fs (SetTable.grown fs.size) = T
    obtain ⟨gs, v, gv⟩ := T
    intro p1 p2 p3 p4
    dsimp only at p1 p2 p3 p4 ⊢
    have lz : gs.size = fs.size := by
      have := p1.length_eq
      rwa [Array.length_toList, Array.length_toList] at this
    have sz2 : gs.size < scanBound := lz ▸ n.sz
    refine wpAny_bind (hg gv _ _ (wpAny_bind (wpAny_storeSet_of e1 rfl (wpAny_pure (q _ (b1.trans (Heap.SameBut.update _ a _)) ?_)) (fits_of_scanBound sz2))))
    refine ⟨_, gs, _, v, keep_put e1 rfl, hx, rfl, fun p hp => n.kp p (p1.mem_iff.mp hp), n.nd, (p1.map ky).trans n.pm, sz2, p2, p3, ?_⟩
    rcases n.led with z | z
    · exact .inl z
    · exact .inr (p4.trans z)
  · exact wpAny_pure (q _ b1 ⟨_, fs, _, u, e1, hx, rfl, n⟩)
theorem stT_hashed {k : Key} {v : Value} {Q : Bool → Shared → Prop} (hv : keyIs k v = true) (r : StT w s.heap a ks) (room : ks.length + 1 < scanBound)
    (q : ∀ (b : Bool) h', Heap.SameBut a s.heap h' → StT w h' a (insK ks k) → Q b { s with heap := h' }) :
    wpAny (model P w) A (setAddHashed a v ((mixKind P w).hash k)) Q E s := by
  obtain ⟨o, es, ep, t, ho, hx, hd, n⟩ := r
  have sc : v.scannable = true := by
    rcases keyIs_shape hv with ⟨i, t, _, e⟩ | ⟨x, t, _, e⟩ <;> rw [e] <;> rfl
  have el := kp_elems (P := P) n.kp
  have mem : ∀ j, j ∈ ks ↔ ∃ p ∈ es.toList, keyIs j p.2 = true := fun j => by
    rw [← n.pm.mem_iff, List.mem_map]
    constructor
    · rintro ⟨p, hp, rfl⟩
      exact ⟨p, hp, (n.kp p hp).is⟩
    · rintro ⟨p, hp, z⟩
      exact ⟨p, hp, ky_of z⟩
  unfold setAddHashed setAddHashedIn
  refine wpAny_holding (wpAny_bind (wpAny_setState_of ho hd n.fit ?_))
  dsimp only
  rw [byScan_of sc n.sz el]
  simp only [↓reduceIte]
  unfold setAddByScan
  refine wpAny_bind (wpAny_bind (wpAny_rule (wpAny_bind (wpAny_setScan_of (knd := mixKind P w) (k := k) hv ho hd n.fit el ?_))))
  cases fi : List.findIdx? (fun p => (mixKind P w).is k p.2) es.toList with
  | some j =>
    dsimp only
    obtain ⟨lj, ej, _⟩ := List.findIdx?_eq_some_iff_getElem.mp fi
    have hk : k ∈ ks := (mem k).mpr ⟨_, List.getElem_mem lj, ej⟩
    refine wpAny_pure (wpAny_pure (q _ s.heap (Heap.SameBut.refl a s.heap) ⟨o, es, ep, t, ho, hx, hd, ?_⟩))
    rw [insK_old hk]
    exact n
  | none =>
    dsimp only
    have nk : k ∉ ks := fun z => by
      obtain ⟨p, hp, e⟩ := (mem k).mp z
      have c := List.findIdx?_eq_none_iff.mp fi p hp
      have e : (mixKind P w).is k p.2 = true := e
      rw [e] at c
      cases c
    have way : ∀ (b : Bool) {s1 : Shared} {R : Unit → Shared → Prop}, R () s1 → wpAny (model P w) A (match b with | true => rule "set.scan.the-table-gave-way" | false => pure ()) R E s1 :=
      fun b s1 R z => match b with
      | true => wpAny_rule z
      | false => wpAny_pure z
    have c1 := layNew_perm t es ((mixKind P w).hash k) v
    have c2 := layNew_fits t es ((mixKind P w).hash k) v
    have c3 := layNew_ris t es ((mixKind P w).hash k) v n.ris
    have c4 := layNew_led t es ((mixKind P w).hash k) v
    revert c1 c2 c3 c4
    generalize layNew t es ((mixKind P w).hash k) v = T
    obtain ⟨fs, u, dm, gv⟩ := T
    intro c1 c2 c3 c4
    dsimp only at c1 c2 c3 c4 ⊢
    rw [Array.toList_push] at c1
    have kk : ky ((mixKind P w).hash k, v) = k := ky_of hv
    have p2 : (fs.toList.map ky).Perm (ks ++ [k]) := by
      refine (c1.map ky).trans ?_
      rw [List.map_append, List.map_singleton, kk]
      exact n.pm.append_right [k]
    have new : ∀ (z : SetTable), z.fits fs.size = true → z.place = u.place → z.led = u.led → StA w fs z (insK ks k) := fun z z1 z2 z3 => by
      rw [insK_new nk]
      refine ⟨fun p hp => ?_, ?_, p2, ?_, z1, by rw [z2]; exact c3, ?_⟩
      · rcases List.mem_append.mp (c1.mem_iff.mp hp) with m | m
        · exact n.kp p m
        · rw [List.mem_singleton] at m
          subst m
          exact ⟨by rw [kk]; exact hv, by rw [kk]; rfl⟩
      · rw [List.nodup_append]
        exact ⟨n.nd, by simp, fun x hx y hy => by
          rw [List.mem_singleton] at hy
          subst hy
          exact fun e => nk (by rw [← e]; exact hx)⟩
      · rw [← Array.length_toList, ← List.length_map (f := ky), p2.length_eq, List.length_append]
        exact room
      · rcases n.led with y | y
        · exact .inl y
        · exact .inr (by rw [z3, c4]; exact y)
    refine wpAny_bind (way _ ?_)
    split
    · refine wpAny_bind ?_
      rw [hashByValue_scannable 8 sc]
      refine wpAny_pure (stT_store (ks := insK ks k) ?_ ho hx hd ?_ ?_)
      · intro b s1 R z
        exact way b z
      · first
          | (split <;> first | exact new _ c2 rfl rfl | exact new _ (SetTable.fits_plain_off c2) rfl rfl)
          | exact new _ c2 rfl rfl
      · intro h' sb z
        dsimp only
        exact wpAny_pure (q _ h' sb z)
    · refine wpAny_bind (wpAny_pure ?_)
      simp only [↓reduceIte]
      refine stT_store (ks := insK ks k) ?_ ho hx hd (new _ c2 rfl rfl) ?_
      · intro b s1 R z
        exact way b z
      · intro h' sb z
        dsimp only
        exact wpAny_pure (q _ h' sb z)
theorem stT_of {r : StT w s.heap a ks} : s.heap.SetOf (mixKind P w) a (fun k => @decide (k ∈ ks) (Classical.propDecidable _)) ks.length := by
  obtain ⟨o, es, ep, t, ho, hx, hd, n⟩ := r
  refine ⟨o, es, ep, t, ho, hx, hd, kp_elems n.kp, fun k => ?_, n.sz, n.fit, n.len⟩
  rw [@decide_eq_true_eq _ (Classical.propDecidable _), ← n.pm.mem_iff, List.mem_map]
  constructor
  · rintro ⟨p, hp, rfl⟩
    exact ⟨p, hp, (n.kp p hp).is⟩
  · rintro ⟨p, hp, z⟩
    exact ⟨p, hp, ky_of z⟩
/-- x.add(v) -/
theorem stT_add {k : Key} {v : Value} {Q : Value → Shared → Prop} (hv : keyIs k v = true) (r : StT w s.heap a ks) (room : ks.length + 1 < scanBound)
    (q : ∀ h', Heap.SameBut a s.heap h' → StT w h' a (insK ks k) → Q .none { s with heap := h', toks := s.toks + 1 }) : wpAny (model P w) A (call (.builtin "set.add") [.ref a, v]) Q E s := by
  have ty := (stT_of (P := P) (r := r)).typeIs
  refine wpAny_call_entry F.slot_set_add ty F.entry_set_add ?_ (F.args_set_add_2 _ _)
  unfold Builtin.«set.add» Builtin.Frozenset.oneOther
  simp only [List.isEmpty_nil, bind_assoc]
  unfold Builtin.Frozenset.addrOf setAdd
  refine wpAny_bind (wpAny_pure ?_)
  try dsimp only
  refine wpAny_bind (wpAny_pure ?_)
  try dsimp only
  refine wpAny_bind (wpAny_holding (wpAny_bind ((mixKind P w).pyHash hv ?_)))
  refine stT_hashed (s := { s with toks := s.toks + 1 }) hv r room fun b h' sb z => ?_
  show wpAny _ _ (ret Value.none) _ _ _
  exact wpAny_pure ⟨_, rfl, q h' sb z⟩
end
theorem stT_new {h : Heap} (w : World) : StT w (h.push { cls := .type "set", dict := none, data := .set #[] 0 (.fresh 0 0 (!w.params.followText "set-order")) }) h.objs.size [] := by
  refine ⟨_, #[], 0, _, Heap.get?_push_size _ rfl, ⟨rfl, rfl, rfl⟩, rfl, by simp, .nil, .refl _, by decide, rfl, .nil, ?_⟩
  cases e : w.params.followText "set-order"
  · exact .inr rfl
  · exact .inl rfl
end Nv
/-! Nv, part La: texts in order: sorted of a list of them, of a set of them. -/
namespace Nv
open PySem PySem.Spec PyProof.Rows L2 SrtO Srt
def tv : Value → Str
  | .str x _ => x
  | _ => Str.empty
def ltTv (v u : Value) : Bool := decide ((tv v).cps.toList < (tv u).cps.toList)
theorem swo_tv : Swo ltTv := by
  refine ⟨fun x y h => ?_, fun x y z h1 h2 => ?_⟩
  · have a : (tv x).cps.toList < (tv y).cps.toList := of_decide_eq_true h
    exact decide_eq_false (List.lt_asymm a)
  · have a : ¬ (tv y).cps.toList < (tv x).cps.toList := of_decide_eq_false h1
    have b : ¬ (tv z).cps.toList < (tv y).cps.toList := of_decide_eq_false h2
    exact decide_eq_false (List.not_lt.mpr (List.le_trans (List.not_lt.mp a) (List.not_lt.mp b)))
theorem strs_tv : ∀ {vs : List Value}, (∀ v ∈ vs, ∃ x t, v = Value.str x t) → StrsAre vs (vs.map tv)
  | [], _ => .nil
  | v :: vs, h => by
    obtain ⟨x, t, rfl⟩ := h v (by simp)
    exact .cons x t (strs_tv fun u hu => h u (by simp [hu]))
theorem strs_in : ∀ {vs : List Value} {xs : List Str}, StrsAre vs xs → ∀ v ∈ vs, ∃ x t, v = Value.str x t
  | _, _, .nil, v, h => nomatch h
  | _, _, .cons x t r, v, h => by
    rcases List.mem_cons.mp h with rfl | h
    · exact ⟨x, t, rfl⟩
    · exact strs_in r v h
theorem tv_strs : ∀ {vs : List Value} {xs : List Str}, StrsAre vs xs → vs.map tv = xs
  | _, _, .nil => rfl
  | _, _, .cons x t r => by rw [List.map_cons, tv_strs r]; rfl
def unR : Key → Str
  | .inr x => x
  | .inl _ => Str.empty
theorem unR_map : ∀ {l : List Str}, (l.map (Sum.inr (α := Int))).map unR = l
  | [] => rfl
  | x :: l => congrArg (x :: ·) unR_map
section
variable {P : Program} {w : World} {A : Around} {E : Value → Shared → Prop} {s : Shared} {a : Addr} {ks : List Key}
theorem strs_sortable {vs : List Value} (h : ∀ v ∈ vs, ∃ x t, v = Value.str x t) (two : 2 ≤ vs.length) : SortableO P w A s a vs ltTv := by
  intro h' _
  refine ⟨oneType', fun Q E q => ?_, fun p q hp hq => ?_⟩
  · have all := strs_tv h
    match vs, all, two with
    | v :: u :: r, all, _ =>
      rw [keyKind_strs all]
      exact wpAny_pure q
    | [_], _, z => exact absurd z (by simp)
    | [], _, z => exact absurd z (by simp)
  · obtain ⟨x, t, e⟩ := h _ hp
    obtain ⟨y, u, f⟩ := h _ hq
    show wpAny (model P w) A (keyLt' oneType' p.1 q.1) (fun r s' => s' = _ ∧ r = ltTv p.1 q.1) (fun _ _ => False) _
    rw [e, f, keyLt'_oneType]
    exact oneLt_str ⟨rfl, rfl⟩
/-- what comes out of the sort -/
theorem strs_out {vs out : List Value} (h : ∀ v ∈ vs, ∃ x t, v = Value.str x t) (h1 : Srtd ltTv out) (h2 : Stb ltTv out vs) :
    StrsAre out (out.map tv) ∧ (out.map tv).Perm (vs.map tv) ∧ (out.map tv).Pairwise (fun a b => ¬ b.cps.toList < a.cps.toList) :=
  ⟨strs_tv fun v hv => h v (h2.perm.mem_iff.mp hv), h2.perm.map tv, List.pairwise_map.mpr (h1.imp fun {x y} q => of_decide_eq_false q)⟩
theorem stT_sorted {xs : List Str} {Q : Value → Shared → Prop} (r : StT w s.heap a (xs.map Sum.inr)) (hh : A.handled = none)
    (q : ∀ (s1 : Shared) (p : Addr) (out : List Value) (c : Nat), (∀ b o, s.heap.get? b = some o → s1.heap.get? b = some o) → s1.gens = s.gens → s1.os = s.os → s.heap.objs.size ≤ p →
      s1.heap.get? p = some (seqObj "list" out.toArray c) → StrsAre out (out.map tv) → (out.map tv).Perm xs → (out.map tv).Pairwise (fun a b => ¬ b.cps.toList < a.cps.toList) → Q (.ref p) s1) :
    wpAny (model P w) A (call (.builtin "sorted") [.ref a]) Q E s := by
  obtain ⟨o, es, ep, t, ho, hx, hd, n⟩ := r
  refine Calls.call_function_entry kind_sorted plain_sorted entry_sorted (args_sorted1 _) ?_
  unfold Builtin.«sorted»
  refine wpAny_bind (m := checkCount "sorted" 1 1 _) (wpAny_pure ?_)
  refine wpAny_bind (collect_set (A := A.in1) hh ⟨o, ho, hx.1, hd⟩ n.fit n.sz n.ris n.led fun s1 vs keep big gen os pm => ?_)
  have lv : vs.length ≤ sizeLine := by
    rw [pm.length_eq, List.length_map, Array.length_toList]
    exact fits_of_scanBound n.sz
  have all : ∀ v ∈ vs, ∃ x t, v = Value.str x t := fun v hv => by
    obtain ⟨e, he, rfl⟩ := List.mem_map.mp (pm.mem_iff.mp hv)
    have hk : ky e ∈ xs.map Sum.inr := n.pm.mem_iff.mp (List.mem_map.mpr ⟨e, he, rfl⟩)
    obtain ⟨x, _, ex⟩ := List.mem_map.mp hk
    rcases keyIs_shape (n.kp e he).is with ⟨i, t, e1, _⟩ | ⟨y, t, _, e2⟩
    · rw [← ex] at e1
      exact nomatch e1
    · exact ⟨y, t, e2⟩
  have px : (vs.map tv).Perm xs := by
    have h1 : (vs.map tv).map (Sum.inr (α := Int)) = vs.map fun v => ky (0, v) := by
      rw [List.map_map]
      refine List.map_congr_left fun v hv => ?_
      obtain ⟨x, t, rfl⟩ := all v hv
      rfl
    have h2 : (vs.map fun v => ky (0, v)).Perm (es.toList.map ky) := by
      have h3 := pm.map fun v => ky (0, v)
      rw [List.map_map] at h3
      exact h3
    have h4 : ((vs.map tv).map (Sum.inr (α := Int))).Perm (xs.map Sum.inr) := by
      rw [h1]
      exact h2.trans n.pm
    have h5 := h4.map unR
    rw [unR_map, unR_map] at h5
    exact h5
  have new : (s1.heap.push (seqObj "list" vs.toArray 0)).get? s1.heap.objs.size = some (seqObj "list" vs.toArray 0) := Heap.get?_push_size _ rfl
  refine wpAny_bind (wpAny_newList ?_ lv)
  refine wpAny_bind (wpAny_holding (wpAny_call_entry slot_list_sort ⟨_, new, rfl⟩ entry_list_sort (list_sort_ord swo_tv new lv (fun two => strs_sortable all two) fun out h1 h2 => ⟨_, rfl, ?_⟩) (args_list_sort _)))
  obtain ⟨k1, k2, k3⟩ := strs_out all h1 h2
  obtain ⟨c, hc⟩ := sortedHeap_at (vs := vs) (out := out.toArray) new
  refine wpAny_pure ⟨_, rfl, q _ s1.heap.objs.size out c (fun b u e => ?_) gen os big hc k1 (k2.trans px) k3⟩
  have e9 := keep b u e
  have lt := Heap.lt_size e9
  show (sortedHeap _ _ _ _).get? b = some u
  rw [sortedHeap_old (Nat.ne_of_lt lt) (by rw [size_push']; exact Nat.lt_succ_of_lt lt)]
  exact Heap.get?_push_of_some _ e9
end
/-- the set of these keys, as a tracked thing -/
def SetTO (w : World) (a : Addr) (ks : List Key) : HO := .ext fun h => StT w h a ks
theorem setTO_ok {w : World} {P : Program} {H : Hp} {h : Heap} {a : Addr} {ks : List Key} (r : StT w h a ks) : ObjOk P w H h a (SetTO w a ks) :=
  ⟨r, r.imp fun o ⟨_, _, _, e, _⟩ => e, fun _ _ p k => StT.at p k⟩
theorem vals_strs : ∀ {us : List Value} {xs : List Str}, StrsAre us xs → Vals (xs.map V.str) us
  | _, _, .nil => .nil
  | _, _, .cons x t r => .cons ⟨t, rfl⟩ (vals_strs r)
theorem strs_vals : ∀ {xs : List Str} {us : List Value}, Vals (xs.map V.str) us → StrsAre us xs
  | [], _, .nil => .nil
  | x :: xs, _, .cons ⟨t, e⟩ r => by
    subst e
    exact .cons x t (strs_vals r)
section
variable {X : Cx}
theorem setTO_get {pins : List (Addr × Obj)} {σ : L2.St} {H : Hp} {s : Shared} {a : Addr} {ks : List Key} (I : Inv X pins σ H s) (e : H a = some (SetTO X.w a ks)) : StT X.w s.heap a ks := (I.hok a _ e).1
/-- sorted(a set of texts) -/
def rSrtST (w : World) : List V → Hp → VK → Prop := fun vs H Q => ∃ (a : Addr) (xs : List Str), vs = [V.ref a] ∧ H a = some (SetTO w a (xs.map Sum.inr)) ∧
  ∀ (ys : List Str) (p : Addr), ys.Perm xs → ys.Pairwise (fun a b => ¬ b.cps.toList < a.cps.toList) → H p = none → Q (.ref p) (upd H p (.lst (ys.map V.str)))
theorem cr_srtST (hc : X.calm = true) : CallR X (.builtin "sorted") (rSrtST X.w) := by
  intro pn st sg Hh args vals Kq J rel ⟨a, xs, ea, hs, q⟩
  subst ea
  have R := setTO_get J hs
  rw [Vals.ref1 rel]
  refine stT_sorted R (J.ok.hd hc) fun s1 p out c keep gen os big at_ k1 k2 k3 => ?_
  have free : Hh p = none := J.hok.fresh big
  have len : ((out.map tv).map V.str).length ≤ sizeLine := by
    obtain ⟨o, es, ep, t, _, _, _, n⟩ := R
    rw [List.length_map, k2.length_eq, ← List.length_map (f := (Sum.inr : Str → Key)), ← n.len]
    exact fits_of_scanBound n.sz
  have J2 : Inv X pn sg (upd Hh p (.lst ((out.map tv).map V.str))) { st with heap := s1.heap, gens := s1.gens, drawn := s1.drawn, toks := s1.toks } :=
    J.call (ch := []) (Un.laid keep big free) (J.hok.laid keep big ⟨len, out, c, vals_strs k1, at_⟩) (by rw [gen]; exact J.bare) (fun _ z => nomatch z)
  have e : s1 = { st with heap := s1.heap, gens := s1.gens, drawn := s1.drawn, toks := s1.toks } := by
    obtain ⟨_, _, _, _, _⟩ := s1
    obtain ⟨_, _, _, _, _⟩ := st
    cases os
    rfl
  rw [e]
  exact ⟨.ref p, _, J2, rfl, q _ p k2 k3 free⟩
/-- sorted(a list of texts) -/
def rSrtT (K : PySem.W.Frag) : List V → Hp → VK → Prop := fun vs H Q => ∃ (a : Addr) (xs : List Str), vs = [V.ref a] ∧ SqL K H a (xs.map V.str) ∧
  ∀ (ys : List Str) (p : Addr), ys.Perm xs → ys.Pairwise (fun a b => ¬ b.cps.toList < a.cps.toList) → H p = none → Q (.ref p) (upd H p (.lst (ys.map V.str)))
theorem cr_srtT : CallR X (.builtin "sorted") (rSrtT X.K) := by
  intro pn st sg Hh args vals Kq J rel ⟨a, xs, ea, sq, q⟩
  subst ea
  obtain ⟨its, rv, lay, fit⟩ := J.list sq
  have sa := strs_vals rv
  have all := strs_in sa
  rw [Vals.ref1 rel]
  refine sorted_ord swo_tv lay.isList (by rw [← rv.length]; exact fit) (fun two _ _ _ _ => strs_sortable all two) fun out h1 h2 => ?_
  obtain ⟨k1, k2, k3⟩ := strs_out all h1 h2
  rw [tv_strs sa] at k2
  obtain ⟨ep, at_⟩ := PyProof.Rows.sortedAll_at st.heap its out.toArray
  have len : ((out.map tv).map V.str).length ≤ sizeLine := by
    rw [List.length_map, k2.length_eq]
    rw [List.length_map] at fit
    exact fit
  exact ⟨.ref _, upd Hh (st.heap.objs.size + 1) (.lst ((out.map tv).map V.str)), J.laid (t' := st.toks) (fun _ _ => PyProof.Rows.sortedAll_old) (Nat.le_succ _) ⟨len, out, ep, vals_strs k1, at_⟩, rfl, q _ _ k2 k3 (J.hok.fresh (Nat.le_succ _))⟩
end
end Nv
/-! Nv, part Lb: {e for a in .. for b in ..}. -/
namespace Nv
open PySem PySem.Spec PyProof.Rows L2 PpSet
section
variable {elt t0 i0 t1 i1 : Expr} {sc : Scope} {pos : Pos} {it acc : Value} {env : Env}
abbrev sc2E (elt t0 i0 t1 i1 : Expr) (sc : Scope) (pos : Pos) : Expr := .SetComp elt [⟨t0, i0, [], 0⟩, ⟨t1, i1, [], 0⟩] sc pos
def bodyO (comp i1 : Expr) (acc : Value) (env : Env) : Sem Unit := do
  let x ← eval i1 env
  standAt i1.pos
  let y ← foldedSetIterable i1 env x
  let _ ← runOwn (.compStart comp 1 (← holding [y] (pyIter y)) acc env) env
def bodyI (elt : Expr) (acc : Value) (env : Env) : Sem Unit := do
  let v ← eval elt env
  standAt elt.pos
  let _ ← call (.builtin "set.add") [acc, v]
theorem turnO : compTurn (sc2E elt t0 i0 t1 i1 sc pos) 0 it acc env = (do
    standAt i0.pos
    match ← pyNext it with
    | none => pure (.done .next)
    | some v =>
      letOwnedTupleGo t0 it v
      assign t0 env v
      bodyO (sc2E elt t0 i0 t1 i1 sc pos) i1 acc env
      again (.compLoop (sc2E elt t0 i0 t1 i1 sc pos) 0 it acc env)) := by
  unfold bodyO
  simp only [bind_assoc]
  rfl
theorem turnI : compTurn (sc2E elt t0 i0 t1 i1 sc pos) 1 it acc env = (do
    standAt i1.pos
    match ← pyNext it with
    | none => pure (.done .next)
    | some v =>
      letOwnedTupleGo t1 it v
      assign t1 env v
      bodyI elt acc env
      again (.compLoop (sc2E elt t0 i0 t1 i1 sc pos) 1 it acc env)) := by rfl
end
section
variable {X : Cx}
/-- one clause's loop: behind the store of each item the body, which is to reach the next wish -/
theorem loop_walk {elt t0 i0 t1 i1 : Expr} {sc : Scope} {pos : Pos} {tg : Expr} {ci : Nat} {ip : Pos} {body : Sem Unit} {itr : Addr} {acc : Value} {J : It} {fp : List Addr} {tn : Nat → Heap → Prop} {g : TG} {pins : List (Addr × Obj)} {τ : L2.St} {R : Result → Shared → Prop}
    (heq : compTurn (sc2E elt t0 i0 t1 i1 sc pos) ci (.ref itr) acc X.env = (do
      standAt ip
      match ← pyNext (.ref itr) with
      | none => pure (.done .next)
      | some v =>
        letOwnedTupleGo tg (.ref itr) v
        assign tg X.env v
        body
        again (.compLoop (sc2E elt t0 i0 t1 i1 sc pos) ci (.ref itr) acc X.env)))
    (hc : X.calm = true) (hx : X.xe = fun _ _ => False) (T : Turn X.prog X.w X.K tg J fp itr tn) (pg : PG X tg g)
    (fpo : ∀ {σ' : L2.St} {H' : Hp} {s' : Shared}, Inv X pins σ' H' s' → (∀ b ∈ fp, H' b = none) → ∀ b ∈ fp, FpOk X pins H' b) (W : Nat → Nat → Hp → Prop)
    (turn : ∀ i m H, W i m H → (J.stop i H ∧ ∀ s', Inv X pins τ H s' → R (.ok .next) s') ∨
      (J.go i H ∧ ∃ Nx : Hp → Prop, (∀ H', Nx H' → ∃ m', m' < m ∧ W (i + 1) m' H') ∧ ∀ x H', J.yld i H x H' → ∃ C : L2.St → Hp → Prop, g x τ H' C ∧ ∀ σ2 H2, C σ2 H2 →
        ∀ pl s2, Inv X (pins ++ pl) σ2 H2 s2 → wpAny (model X.prog X.w) X.A body (fun _ s3 => ∃ σ3 H3, Inv X (pins ++ pl) σ3 H3 s3 ∧ τ.length = σ3.length ∧ (∀ (j : Nat) v, τ[j]? = some (some v) → σ3[j]? = some (some v)) ∧ Nx H3) (fun _ _ => False) s2))
    {s : Shared} {m0 : Nat} {H0 : Hp} (I : Inv X pins τ H0 s) (tt0 : tn 0 s.heap) (n0 : ∀ b ∈ fp, H0 b = none) (w0 : W 0 m0 H0) :
    codeAny (model X.prog X.w) X.A (.compLoop (sc2E elt t0 i0 t1 i1 sc pos) ci (.ref itr) acc X.env) R s := by
  refine codeAny_loop rfl (fun m s' => ∃ i H', Inv X pins τ H' s' ∧ tn i s'.heap ∧ (∀ b ∈ fp, H' b = none) ∧ W i m H') (fun m s5 ⟨i, H5, I5, t5, n5, w5⟩ => ?_) m0 ⟨0, H0, I, tt0, n0, w0⟩
  show wpAny _ X.A ((compTurn (sc2E elt t0 i0 t1 i1 sc pos) ci (.ref itr) acc X.env).onRaise fun x => do noteFrame x X.env; theTreesLotGoes x) _ _ s5
  refine wpAny_noted ?_
  rw [heq]
  refine wpAny_bind (wpAny_standAt (wpAny_bind ?_))
  rcases turn i m H5 w5 with ⟨stop, fin⟩ | ⟨go, Nx, nx, step⟩
  · refine thnF (T.done X rfl rfl rfl hc i pins s5 τ H5 (fun _ _ => False) I5 (fpo I5 n5) t5 stop) fun r s6 ⟨er, I6⟩ => ?_
    subst er
    exact wpAny_pure (fin s6 I6)
  · refine thnF (T.item X rfl rfl rfl hc i pins s5 τ H5 (fun _ _ => False) I5 (fpo I5 n5) t5 go) fun r s6 ⟨u, er, h6⟩ => ?_
    subst er
    refine wpAny_bind (thnF h6 fun _ s7 ⟨x, H7, I7, rx, y7, t7, n7⟩ => ?_)
    have ob := T.obj _ _ t7
    have I8 := I7.pinned (fpo I7 n7) ob
    refine wpAny_bind ?_
    obtain ⟨C, c1, c2⟩ := step x H7 y7
    have st := pg.run _ s7 τ H7 x u _ I8 rx c1
    rw [hx] at st
    refine thnF st fun _ s8 ⟨σ8, H8, I9, q8⟩ => wpAny_bind (thnF (c2 _ _ q8 _ s8 I9) fun _ s9 ⟨σ9, H9, I10, l9, k9, z⟩ => ?_)
    obtain ⟨m', lt, w'⟩ := nx H9 z
    have stay : ∀ b ∈ fp, ∀ o, s7.heap.get? b = some o → s9.heap.get? b = some o ∧ H9 b = none := fun b hb o e => by
      have := I10.pin (b, o) (List.mem_append_right _ (List.mem_append_right _ (mem_pinsAt hb e)))
      exact ⟨this.1, this.2.1⟩
    refine wpAny_pure ⟨rfl, m', lt, i + 1, H9, I10.unpinned.weak l9 k9, T.keep _ _ _ t7 fun b hb o e => (stay b hb o e).1, fun b hb => ?_, w'⟩
    obtain ⟨o, e, _⟩ := ob b hb
    exact (stay b hb o e).2
end
end Nv
/-! Nv, part Lc: {e for a in .. for b in ..} as a rule. -/
namespace Nv
open PySem PySem.Spec PyProof.Rows L2 PpSet
/-- {elt for tg in iter for tg1 in iter1}; D: the new set, W: what holds ahead of each turn -/
def tSc2 (w : World) (wi : TI) (g : TG) (wi1 : TI) (g1 : TG) (te : TE) (vs vs1 : List Nat) : TE := fun σ H Q => wi σ H fun J H1 => ∀ D, H1 D = none → ∃ W : Nat → Nat → Hp → Prop, (∃ m, W 0 m (upd H1 D (SetTO w D []))) ∧
  ∀ i m H2, W i m H2 → (J.stop i H2 ∧ Q (.ref D) H2) ∨ (J.go i H2 ∧ ∃ Nx : Hp → Prop, (∀ H', Nx H' → ∃ m', m' < m ∧ W (i + 1) m' H') ∧
    ∀ x H3, J.yld i H2 x H3 → g x (wipe σ vs) H3 fun σ2 H4 => wipe σ2 vs = wipe σ vs ∧ wi1 σ2 H4 fun J1 H5 => ∃ W1 : Nat → Nat → Hp → Prop, (∃ m, W1 0 m H5) ∧
      ∀ j k H6, W1 j k H6 → (J1.stop j H6 ∧ Nx H6) ∨ (J1.go j H6 ∧ ∃ Nx1 : Hp → Prop, (∀ H', Nx1 H' → ∃ k', k' < k ∧ W1 (j + 1) k' H') ∧
        ∀ y H7, J1.yld j H6 y H7 → g1 y (wipe σ2 vs1) H7 fun σ3 H8 => wipe σ3 vs1 = wipe σ2 vs1 ∧
          te σ3 H8 fun z H9 => ∃ k ks, z = kV k ∧ H9 D = some (SetTO w D ks) ∧ ks.length + 1 < scanBound ∧ Nx1 (upd H9 D (SetTO w D (insK ks k)))))
section
variable {P : Program} {w : World} {A : Around} {R : Result → Shared → Prop} {s : Shared} {elt t0 i0 t1 i1 : Expr} {sc : Scope} {pos : Pos} {it acc : Value} {env : Env}
/-- the second clause begins -/
theorem start1 (h0 : codeAny (model P w) A (.compLoop (sc2E elt t0 i0 t1 i1 sc pos) 1 it acc env) R s)
    (h : wpAny (model P w) A (pyIter it) (fun it' s' => codeAny (model P w) A (.compLoop (sc2E elt t0 i0 t1 i1 sc pos) 1 it' acc env) R s') (notedBy (model P w) A env fun x s' => R (.error x) s') s) :
    codeAny (model P w) A (.compStart (sc2E elt t0 i0 t1 i1 sc pos) 1 it acc env) R s := by
  refine codeAny_of_tree ?_
  show wpAny _ _ ((compStart (sc2E elt t0 i0 t1 i1 sc pos) 1 it acc env).onRaise (fun x => do noteFrame x env; standAt theWindowsPlace)) _ _ s
  refine wpAny_notedAt ?_
  unfold compStart
  show wpAny _ _ (ask >>= _) _ _ s
  refine wpAny_bind (wpAny_askSetting (wpAny_ite ?_))
  split
  · first
      | exact wpAny_bind (wpAny_pure (wpAny_pure (And.intro rfl h0)))
      | exact wpAny_pure (And.intro rfl h0)
  · refine wpAny_bind (wpAny_rule ?_)
    show wpAny _ _ (standAt i1.pos >>= _) _ _ s
    exact wpAny_bind (wpAny_standAt (wpAny_bind (wpAny_mono h (fun it' s' z => wpAny_pure (And.intro rfl z)) fun _ _ x => x)))
end
section
variable {X : Cx}
theorem kV_is' (X : Cx) {k : Key} {v : Value} (r : RelV (kV k) v) : keyIs k v = true := kV_is (P := X.prog) (w := X.w) r
/-- x.add(v) on a tracked set -/
theorem addK_ok {pins : List (Addr × Obj)} {σ : L2.St} {H : Hp} {s : Shared} {E : Value → Shared → Prop} {D : Addr} {ks : List Key} {k : Key} {v : Value} {Q : Value → Shared → Prop} (I : Inv X pins σ H s) (hD : H D = some (SetTO X.w D ks)) (rv : RelV (kV k) v) (room : ks.length + 1 < scanBound)
    (q : ∀ s', Inv X pins σ (upd H D (SetTO X.w D (insK ks k))) s' → Q .none s') : wpAny (model X.prog X.w) X.A (call (.builtin "set.add") [.ref D, v]) Q E s := by
  refine stT_add (kV_is' X rv) (setTO_get I hD) room fun h' sb new => q _ (I.write (e := D) (t' := s.toks + 1) (by rw [hD]; trivial) (.inl rfl) (fun b u nb e => (sb.2 b nb).trans e) ?_ (setTO_ok new))
  exact new.imp fun o ⟨_, _, _, e, _⟩ => e
theorem pe_sc2 {elt tg iter tg1 iter1 : Expr} {scope : Scope} {own : List (Str × Nat)} {vs1 : List Nat} {pos : Pos} {wi wi1 : TI} {g g1 : TG} {te : TE} (hc : X.calm = true) (hN : X.N.Nodup) (hi : PI X tg iter wi) (ok : BlkOk X.N X.env.scope scope own) (hv : ∀ i ∈ vs1, i ∈ own.map (·.2))
    (hg : ∀ s H C cl fp, PG (X.blk s H scope (compEnvC scope cl C X.env) fp) tg g) (hi1 : ∀ s H C cl fp, PI (X.blk s H scope (compEnvC scope cl C X.env) fp) tg1 iter1 wi1) (hg1 : ∀ s H C cl fp, PG (X.blk s H scope (compEnvC scope cl C X.env) fp) tg1 g1)
    (he : ∀ s H C cl fp, PE (X.blk s H scope (compEnvC scope cl C X.env) fp) elt te) (hs : ∀ x, foldedSetIterable iter X.env x = pure x := by intro _; rfl) (hs1 : ∀ env x, foldedSetIterable iter1 env x = pure x := by intro _ _; rfl) :
    PE X (sc2E elt tg iter tg1 iter1 scope pos) (tSc2 X.w wi g wi1 g1 te (own.map (·.2)) vs1) := by
  constructor
  intro pins s σ H Q I h
  have known : ∀ y ∈ scope.names, y.2 = .free → ∃ c, X.env.cells.lookup y.1 = some c := fun y hy e => (ok.free y hy e).elim (fun z => I.ok.has _ (.inl z)) fun z => I.ok.has _ (.inr z)
  show wpAny (model X.prog X.w) X.A (comprehension (sc2E elt tg iter tg1 iter1 scope pos) scope X.env _ (newSet (.type "set")) false (eval iter X.env)) _ X.xe s
  refine wpAny_comprehension_free (use := none) rfl hs (closure_ok known) ok.kind (fun y hy e => (ok.uniq y hy).trans (congrArg some e)) (thn (hi.run pins s σ H _ I h) fun xv s1 hx => thn hx fun itv s2 ⟨itr, fp, tn, J, H2, ei, I2, T, t2, f2, q⟩ => ?_)
  subst ei
  refine newSet_ok (newEnv_comp ?_)
  generalize eD : s2.heap.objs.size = D at q ⊢
  obtain ⟨W, ⟨m0, w0⟩, turn⟩ := q D (I2.hok.fresh (Nat.le_of_eq eD))
  generalize es3 : ({ s2 with heap := s2.heap.push { cls := .type "set", dict := none, data := .set #[] 0 (.fresh 0 0 (!X.w.params.followText "set-order")) } } : Shared) = s3
  have h3 : s3.heap = s2.heap.push { cls := .type "set", dict := none, data := .set #[] 0 (.fresh 0 0 (!X.w.params.followText "set-order")) } := by rw [← es3]
  have I3 : Inv X pins σ (upd H2 D (SetTO X.w D [])) s3 := by
    rw [← es3]
    exact I2.laid (t' := s2.toks) (fun b o e => Heap.get?_push_of_some _ e) (Nat.le_of_eq eD) (setTO_ok (by rw [← eD]; exact stT_new X.w))
  generalize eH3 : upd H2 D (SetTO X.w D []) = H3 at I3 w0
  have old : ∀ b ∈ fp, FpOk X pins H3 b ∧ b < s3.heap.objs.size := fun b hb => by
    obtain ⟨o, e, _⟩ := T.obj _ _ t2 b hb
    have lt := Heap.lt_size e
    refine ⟨⟨?_, (f2 b hb).2⟩, by rw [h3, Heap.size_push]; exact Nat.lt_succ_of_lt lt⟩
    rw [← eH3, upd_ne (by rw [← eD]; exact Nat.ne_of_lt lt)]
    exact (f2 b hb).1
  have t3 : tn 0 s3.heap := T.keep _ _ _ t2 fun b _ o e => by rw [h3]; exact Heap.get?_push_of_some _ e
  have I4 := block_start I3 ok hN old
  have pg := hg s3 H3 s3.heap.objs.size (cellsFrom (s3.heap.objs.size + 1) scope.names (cloFrom X.env.cells scope.names [])) fp
  have pi1 := hi1 s3 H3 s3.heap.objs.size (cellsFrom (s3.heap.objs.size + 1) scope.names (cloFrom X.env.cells scope.names [])) fp
  have pg1 := hg1 s3 H3 s3.heap.objs.size (cellsFrom (s3.heap.objs.size + 1) scope.names (cloFrom X.env.cells scope.names [])) fp
  have pe := he s3 H3 s3.heap.objs.size (cellsFrom (s3.heap.objs.size + 1) scope.names (cloFrom X.env.cells scope.names [])) fp
  show codeAny _ _ (.compStart (sc2E elt tg iter tg1 iter1 scope pos) 0 (.ref itr) (.ref D) (compEnvC scope (cellsFrom (s3.heap.objs.size + 1) scope.names (cloFrom X.env.cells scope.names [])) s3.heap.objs.size X.env)) (compPost (model X.prog X.w) X.A X.xe none _ (.ref D) s3.heap.objs.size) { s3 with heap := pushCells (s3.heap.push { cls := .type "dict", data := .dict #[] }) scope.names }
  have eL : (compEnvC scope (cellsFrom (s3.heap.objs.size + 1) scope.names (cloFrom X.env.cells scope.names [])) s3.heap.objs.size X.env).locals = s3.heap.objs.size := rfl
  generalize compEnvC scope (cellsFrom (s3.heap.objs.size + 1) scope.names (cloFrom X.env.cells scope.names [])) s3.heap.objs.size X.env = ce at I4 pg pi1 pg1 pe eL ⊢
  generalize es4 : ({ s3 with heap := pushCells (s3.heap.push { cls := .type "dict", data := .dict #[] }) scope.names } : Shared) = s4 at I4 ⊢
  have t4 : tn 0 s4.heap := T.keep _ _ _ t3 fun b _ o e => by rw [← es4]; exact pushCells_keeps _ _ _ _ (Heap.get?_push_of_some _ e)
  let Y : Cx := X.blk s3 H3 scope ce fp
  have fpo : ∀ {σ' : L2.St} {H' : Hp} {s' : Shared}, Inv Y [] σ' H' s' → (∀ b ∈ fp, H' b = none) → ∀ b ∈ fp, FpOk Y [] H' b := fun {σ' H' s'} J' no b hb =>
    ⟨no b hb, (J'.ok.exf b hb).1, J'.ok.exfs b hb, .inl hb, (J'.ok.exf b hb).2, fun p hp => by simp [Y] at hp⟩
  have lw : ∀ (τ : L2.St) vs, (wipe τ vs).length = τ.length := fun τ vs => wipe_length τ vs
  have walk : codeAny (model X.prog X.w) X.A (.compLoop (sc2E elt tg iter tg1 iter1 scope pos) 0 (.ref itr) (.ref D) ce) (compPost (model X.prog X.w) X.A X.xe none (fun v s' => EP X pins σ Q v s') (.ref D) s3.heap.objs.size) s4 := by
    refine loop_walk (X := Y) (pins := []) (τ := wipe σ (own.map (·.2))) turnO hc rfl T pg fpo W (fun i m H5 w5 => ?_) I4 t4 (fun b hb => (old b hb).1.1) w0
    rcases turn i m H5 w5 with ⟨stop, qq⟩ | ⟨go, Nx, nx, step⟩
    · refine .inl ⟨stop, fun s' I6 => ?_⟩
      have I7 : Inv X pins σ H5 s' := I3.call' (ch := fp) I6.os I6.base I6.hok I6.bare fun b hb => ⟨(old b hb).1.2.2.2.1, (old b hb).1.2.1, (old b hb).1.2.2.2.2.1, (old b hb).1.2.2.2.2.2⟩
      obtain ⟨mm, hn, _⟩ := I6.loc
      have hn : s'.heap.Ns ce.locals mm := hn
      have none5 : H5 ce.locals = none := I6.free
      rw [eL] at hn none5
      obtain ⟨f0, f1, f2, f3, f4, f5⟩ := I3.fpOk (Nat.le_refl _) none5
      exact ⟨mm, hn, fun h'' sb => ⟨.ref D, H5, I7.turned (t' := s'.toks) (fun b o nb e => (sb.2 b nb).trans e) f0 f1 f3 f4 f5, rfl, qq⟩⟩
    · refine .inr ⟨go, Nx, nx, fun x H6 y6 => ?_⟩
      refine ⟨_, step x H6 y6, fun σ2 H7 ⟨e2, q2⟩ pl s6 I6 => ?_⟩
      have l2 : (wipe σ (own.map (·.2))).length = σ2.length := by rw [← e2, lw]
      have k2 : ∀ (j : Nat) v, (wipe σ (own.map (·.2)))[j]? = some (some v) → (wipe σ2 vs1)[j]? = some (some v) := fun j v e => by
        rw [← e2] at e
        obtain ⟨e5, e6⟩ := wipe_some e
        rw [wipe_out fun z => e6 (hv j z)]
        exact e5
      unfold bodyO
      refine wpAny_bind (thnF (pi1.run _ s6 σ2 H7 _ I6 q2) fun xv s7 hx => wpAny_bind (wpAny_standAt (wpAny_bind (wpAny_of_eq (hs1 ce xv) (wpAny_bind (wpAny_holding (thnF hx fun itv s8 ⟨it1, fp1, tn1, J1, H8, e8, I8, T1, t8, f8, W1, ⟨m1, w1⟩, turn1⟩ => ?_)))))))
      subst e8
      refine wpAny_bind (wpAny_runOwn ?_)
      rw [Around.mark_none]
      have inner : codeAny (model X.prog X.w) X.A (.compLoop (sc2E elt tg iter tg1 iter1 scope pos) 1 (.ref it1) (.ref D) ce)
          (fun r s' => match r with
            | .ok _ => ∃ σ3 H3', Inv Y ([] ++ pl) σ3 H3' s' ∧ (wipe σ (own.map (·.2))).length = σ3.length ∧ (∀ (j : Nat) v, (wipe σ (own.map (·.2)))[j]? = some (some v) → σ3[j]? = some (some v)) ∧ Nx H3'
            | .error _ => False) s8 := by
        refine loop_walk (X := Y) (pins := [] ++ pl) (τ := wipe σ2 vs1) turnI hc rfl T1 pg1 (fun {σ' H' s'} J' no b hb => ⟨no b hb, (f8 b hb).2⟩) W1 (fun j k H9 w9 => ?_) (I8.weak (lw _ _) fun j v e => (wipe_some e).1) t8 (fun b hb => (f8 b hb).1) w1
        rcases turn1 j k H9 w9 with ⟨stop1, nx1⟩ | ⟨go1, Nx1, hn1, step1⟩
        · exact .inl ⟨stop1, fun s' I9 => ⟨_, H9, I9, l2.trans (lw σ2 vs1).symm, k2, nx1⟩⟩
        · refine .inr ⟨go1, Nx1, hn1, fun y H10 y10 => ⟨_, step1 y H10 y10, fun σ3 H11 ⟨e3, q3⟩ pl1 s9 I9 => ?_⟩⟩
          unfold bodyI
          refine wpAny_bind (thnF (pe.run _ s9 σ3 H11 _ I9 q3) fun zv s10 ⟨yv, H12, I10, rz, key, ks, ek, hD, room, nx2⟩ => ?_)
          subst ek
          refine wpAny_bind (wpAny_standAt (wpAny_bind (addK_ok (X := Y) I10 hD rz room fun s11 I11 => wpAny_pure ⟨σ3, _, I11, ?_, fun j v e => ?_, nx2⟩)))
          · rw [← e3, lw]
          · rw [← e3] at e
            exact (wipe_some e).1
      refine codeAny_mono (start1 inner (T1.self X.A 0 _ _ _ t8 inner)) fun r s' z => ?_
      cases r with
      | ok f => exact wpAny_pure z
      | error e => exact z.elim
  exact codeAny_compStart_set walk (T.self X.A 0 _ _ _ t4 walk)
end
end Nv
/-! Nv, part Ld: sorted({e for a in .. for b in ..}) over data; sorted of a list of texts. -/
namespace Nv
open PySem PySem.Spec PyProof.Rows L2
variable [Tb] [Ls]
noncomputable def insS (xs : List Str) (x : Str) : List Str := @ite _ (x ∈ xs) (Classical.propDecidable _) xs (xs ++ [x])
theorem insS_old {xs : List Str} {x : Str} (h : x ∈ xs) : insS xs x = xs := by unfold insS; exact if_pos h
theorem insS_new {xs : List Str} {x : Str} (h : x ∉ xs) : insS xs x = xs ++ [x] := by unfold insS; exact if_neg h
theorem insS_K {xs : List Str} {x : Str} : insK (xs.map Sum.inr) (Sum.inr x) = (insS xs x).map Sum.inr := by
  by_cases h : x ∈ xs
  · rw [insS_old h, insK_old (List.mem_map.mpr ⟨x, h, rfl⟩)]
  · rw [insS_new h, insK_new (fun z => by
      obtain ⟨y, hy, e⟩ := List.mem_map.mp z
      exact h (Sum.inr.inj e ▸ hy)), List.map_append]
    rfl
theorem insS_mem {xs : List Str} {x y : Str} : y ∈ insS xs x ↔ y ∈ xs ∨ y = x := by
  by_cases h : x ∈ xs
  · rw [insS_old h]
    exact ⟨.inl, fun z => z.elim id fun e => e ▸ h⟩
  · rw [insS_new h, List.mem_append, List.mem_singleton]
theorem insS_nodup {xs : List Str} {x : Str} (n : xs.Nodup) : (insS xs x).Nodup := by
  by_cases h : x ∈ xs
  · rw [insS_old h]
    exact n
  · rw [insS_new h, List.nodup_append]
    exact ⟨n, by simp, fun a ha b hb => by
      rw [List.mem_singleton] at hb
      subst hb
      exact fun e => h (e ▸ ha)⟩
theorem nodup_le {α : Type} [DecidableEq α] : ∀ {xs U : List α}, xs.Nodup → (∀ x ∈ xs, x ∈ U) → xs.length ≤ U.length
  | [], _, _, _ => Nat.zero_le _
  | x :: xs, U, n, h => by
    obtain ⟨n1, n2⟩ := List.nodup_cons.mp n
    have hx := h x (by simp)
    have ih := nodup_le (U := U.erase x) n2 fun y hy => (List.mem_erase_of_ne (a := y) (b := x) fun e => n1 (by rw [← e]; exact hy)).mpr (h y (by simp [hy]))
    rw [List.length_erase_of_mem hx] at ih
    have := List.length_pos_of_mem hx
    rw [List.length_cons]
    omega
theorem insS_len {xs : List Str} {x : Str} : (insS xs x).length ≤ xs.length + 1 := by
  by_cases h : x ∈ xs
  · rw [insS_old h]
    exact Nat.le_succ _
  · rw [insS_new h, List.length_append]
    exact Nat.le_refl _
/-- less than, of texts -/
def ltS (a b : Str) : Prop := a.cps.toList < b.cps.toList
theorem str_ext {a b : Str} (h : a.cps.toList = b.cps.toList) : a = b := by
  obtain ⟨⟨x⟩⟩ := a
  obtain ⟨⟨y⟩⟩ := b
  simp at h
  rw [h]
theorem asc_strs {ys : List Str} (h : ys.Pairwise fun a b => ¬ b.cps.toList < a.cps.toList) (n : ys.Nodup) : ys.Pairwise ltS :=
  (h.and n).imp fun {a b} ⟨h1, h2⟩ => (List.le_iff_lt_or_eq.mp (List.not_lt.mp h1)).resolve_right fun e => h2 (str_ext e)
section
variable {R : Rg} {δ : List Sl} {te ta tb tc : TE} {tr : TA} {φ : D → Prop} {K : PySem.W.Frag}
/-- sorted({h(e) for d in .. for e in ..}) -/
theorem wpe_srtSc2 {w : World} {wi wi1 : TI} {g g1 : TG} {vs vs1 js js1 : List Nat} (f : D → List Str) (hd : D → Str) (hjs : ∀ j ∈ js, j ∈ vs) (hjs1 : ∀ j ∈ js1, j ∈ vs1)
    (h : WpI R wi δ fun ds => (∃ U : List Str, U.length ≤ 4000 ∧ ∀ x ∈ ds.flatMap f, x ∈ U) ∧ (∀ d ∈ ds, WpG R g d (wipeD δ vs) js fun δ2 => ((∀ (i : Nat) (a : Addr) (ds : List D), ¬ δ2[i]? = some (.ow a ds)) ∧ (∀ (i : Nat) (a : Addr) (ds : Oo), ¬ δ2[i]? = some (.od a ds))) ∧ WpI R wi1 δ2 fun es => es.map hd = f d ∧ ∀ e ∈ es, WpG R g1 e (wipeD δ2 vs1) js1 fun δ3 => WpE R te δ3 fun y => y = .str (hd e)) ∧
      ∀ ys : List Str, ys.Pairwise ltS → (∀ x, x ∈ ys ↔ x ∈ ds.flatMap f) → φ (.lst (ys.map D.str))) :
    WpE R (tCB (rSrtST w) (tCons (tSc2 w wi g wi1 g1 te vs vs1) tNil)) δ φ := fun σ G H en rz Q k => by
  refine h σ G H en rz _ fun J ds G1 H1 s1 e1 wk ⟨⟨U, lU, sU⟩, step, fin⟩ => ?_
  intro Dl hD
  have gD : G1 Dl = none := e1.same.free hD
  have fD : ¬ R.T.S Dl ∧ ¬ R.T.O Dl := by
    refine ⟨fun z => ?_, fun z => e1.old Dl z hD⟩
    obtain ⟨_, w, e, _⟩ := e1.stt Dl z
    rw [hD] at e
    exact nomatch e
  have ew := e1.wipe vs
  let Nx : Nat → List Str → Hp → Prop := fun i more H' => ∃ (xs : List Str) (G' : Hp), Stp R.T.S G1 H1 G' H' ∧ Same G' H' ∧ StO R.T.S G' H' ∧ G' Dl = none ∧ H' Dl = some (SetTO w Dl (xs.map Sum.inr)) ∧ xs.Nodup ∧ (∀ x, x ∈ xs ↔ x ∈ (ds.take i).flatMap f ++ more)
  refine ⟨fun i m H' => m = ds.length - i ∧ i ≤ ds.length ∧ Nx i [] H', ⟨_, rfl, Nat.zero_le _, [], G1, Stp.grow (same_upd hD), e1.same.trans (same_upd hD), fun a ha => ?_, gD, upd_same, .nil, fun x => by simp⟩, ?_⟩
  · obtain ⟨q, w, e, mo⟩ := e1.stt a ha
    exact ⟨q, w, by rw [upd_ne (ne_of_none e hD)]; exact e, mo⟩
  rintro i m H' ⟨rfl, hi, xs, G', st, sm, so, gd, hd', nd, mm⟩
  have e' : Ens R.T G' H' (wipeD δ vs) (L2.wipe σ vs) := ew.step st (fun _ z => z) sm so
  obtain ⟨go, stop, yld⟩ := wk G' H' st.gs sm
  by_cases lt : i < ds.length
  · refine .inr ⟨go i lt, Nx (i + 1) [], fun H2 z => ⟨ds.length - (i + 1), by omega, rfl, lt, z⟩, fun x H2 y => ?_⟩
    obtain ⟨d, G2, ed, s2, sm2, at2⟩ := yld i x H2 lt y
    have tk : ds.take (i + 1) = ds.take i ++ [d] := by rw [List.take_add_one, ed]; rfl
    have e2 := e'.step0 s2 sm2
    have st2 := st.trans s2.zero
    have gd2 : G2 Dl = none := s2.gn Dl gd (by rw [hd']; exact fun z => nomatch z)
    have hd2 : H2 Dl = some (SetTO w Dl (xs.map Sum.inr)) := s2.same _ _ hd'
    refine step d (List.mem_of_getElem? ed) (L2.wipe σ vs) G2 H2 x e2 at2 _ fun σ3 δ3 e3 ag ln ⟨no, wI⟩ => ⟨wipe_eq hjs ag ln, ?_⟩
    have rz2 : Rz R G2 H2 := (rz.stepB (s1.toB en.old)).stepB (st2.toB e1.old)
    refine wI σ3 G2 H2 e3 rz2 _ fun J1 es G4 H4 s4 e4 wk1 ⟨ef, each⟩ => ?_
    have gd4 : G4 Dl = none := s4.gn Dl gd2 (by rw [hd2]; exact fun z => nomatch z)
    have hd4 : H4 Dl = some (SetTO w Dl (xs.map Sum.inr)) := s4.hs _ _ hd2 fD.1
    have st4 := st2.trans s4
    let N5 : Nat → Hp → Prop := fun j H5 => ∃ G5, Same G4 G5 ∧ ∃ xs : List Str, Stp R.T.S G1 H1 G5 H5 ∧ Same G5 H5 ∧ StO R.T.S G5 H5 ∧ G5 Dl = none ∧ H5 Dl = some (SetTO w Dl (xs.map Sum.inr)) ∧ xs.Nodup ∧ (∀ x, x ∈ xs ↔ x ∈ (ds.take i).flatMap f ++ (es.take j).map hd) ∧ Ens R.T G5 H5 δ3 σ3
    refine ⟨fun j k H5 => k = es.length - j ∧ j ≤ es.length ∧ N5 j H5, ⟨_, rfl, Nat.zero_le _, G4, .refl _, xs, st4, e4.same, e4.stt, gd4, hd4, nd, mm, e4⟩, ?_⟩
    rintro j k5 H5 ⟨rfl, hj, G5, g45, ys, st5, sm5, so5, gd5, hd5, nd5, mm5, en5⟩
    obtain ⟨go1, stop1, yld1⟩ := wk1 G5 H5 g45 sm5
    by_cases lt1 : j < es.length
    · refine .inr ⟨go1 j lt1, N5 (j + 1), fun H6 z => ⟨es.length - (j + 1), by omega, rfl, lt1, z⟩, fun x6 H6 y6 => ?_⟩
      obtain ⟨d6, G6, ed6, s6, sm6, at6⟩ := yld1 j x6 H6 lt1 y6
      have en6 := en5.step0 s6 sm6
      have st6 := st5.trans s6.zero
      have gd6 : G6 Dl = none := s6.gn Dl gd5 (by rw [hd5]; exact fun z => nomatch z)
      have hd6 : H6 Dl = some (SetTO w Dl (ys.map Sum.inr)) := s6.same _ _ hd5
      refine each d6 (List.mem_of_getElem? ed6) (L2.wipe σ3 vs1) G6 H6 x6 (en6.wipe vs1) at6 _ fun σ7 δ7 e7 ag7 ln7 w7 => ⟨wipe_eq hjs1 ag7 ln7, ?_⟩
      have rz6 : Rz R G6 H6 := (rz.stepB (s1.toB en.old)).stepB (st6.toB e1.old)
      refine w7 σ7 G6 H6 e7 rz6 _ fun v y8 G8 H8 s8 e8 a8 q8 => ?_
      subst q8
      cases a8
      have gd8 : G8 Dl = none := s8.gn Dl gd6 (by rw [hd6]; exact fun z => nomatch z)
      have hd8 : H8 Dl = some (SetTO w Dl (ys.map Sum.inr)) := s8.hs _ _ hd6 fD.1
      have st8 := st6.trans s8
      have tk1 : (es.take (j + 1)).map hd = (es.take j).map hd ++ [hd d6] := by rw [List.take_add_one, ed6, List.map_append]; rfl
      have sm9 : Same G8 (upd H8 Dl (SetTO w Dl ((insS ys (hd d6)).map Sum.inr))) := fun b u e => by rw [upd_ne (ne_of_none e gd8)]; exact e8.same b u e
      have so9 : StO R.T.S G8 (upd H8 Dl (SetTO w Dl ((insS ys (hd d6)).map Sum.inr))) := fun a ha => by
        obtain ⟨q1, w1, q2, mo⟩ := e8.stt a ha
        exact ⟨q1, w1, by rw [upd_ne (show a ≠ Dl from fun z => fD.1 (by rw [← z]; exact ha))]; exact q2, mo⟩
      have st9 : Stp R.T.S G1 H1 G8 (upd H8 Dl (SetTO w Dl ((insS ys (hd d6)).map Sum.inr))) := ⟨st8.gs, fun b u e n => by rw [upd_ne (ne_of_none e hD)]; exact st8.hs b u e n, fun b e => by
        by_cases z : b = Dl
        · rw [z, upd_same]; exact fun q => nomatch q
        · rw [upd_ne z]; exact st8.al b e, st8.gn⟩
      refine ⟨Sum.inr (hd d6), ys.map Sum.inr, rfl, hd8, ?_, ?_⟩
      · rw [List.length_map]
        have sub : ∀ x ∈ ys, x ∈ U := fun x hx => by
          refine sU x ?_
          rw [← List.take_append_drop (i + 1) ds, tk, List.flatMap_append, List.flatMap_append]
          rcases List.mem_append.mp ((mm5 x).mp hx) with z | z
          · exact List.mem_append_left _ (List.mem_append_left _ z)
          · refine List.mem_append_left _ (List.mem_append_right _ ?_)
            rw [List.flatMap_singleton, ← ef]
            exact List.mem_map.mpr ((List.mem_map.mp z).imp fun e h => ⟨List.mem_of_mem_take h.1, h.2⟩)
        have := nodup_le nd5 sub
        refine Nat.lt_of_le_of_lt (m := 4001) (by omega) (by decide)
      · rw [insS_K]
        refine ⟨G8, (g45.trans s6.gs).trans s8.gs, insS ys (hd d6), st9, sm9, so9, gd8, upd_same, insS_nodup nd5, fun x => ?_, ?_⟩
        · rw [insS_mem, mm5, tk1, ← List.append_assoc, List.mem_append (s := _ ++ _), List.mem_singleton]
        · exact (en6.step s8 (fun _ z => z) e8.same e8.stt).side gd8 fD.1 fD.2 no.1 no.2
    · have e : j = es.length := by omega
      subst e
      refine .inl ⟨stop1, ys, G5, st5, sm5, so5, gd5, hd5, nd5, fun x => ?_⟩
      rw [List.take_length, ef] at mm5
      rw [mm5, tk, List.flatMap_append]
      simp
  · have e : i = ds.length := by omega
    subst e
    refine .inl ⟨stop, Dl, xs, rfl, hd', fun ys p hp hs fp => ?_⟩
    rw [List.take_length] at mm
    have gp : G' p = none := sm.free fp
    have s2 : Stp S0 G' H' (upd G' p (.lst (ys.map V.str))) (upd H' p (.lst (ys.map V.str))) := .new sm fp
    have en' : Ens R.T G' H' δ σ := e1.step st (fun _ z => z) sm so
    have al : ∀ {G : Hp} (ys : List Str), AtAll G (ys.map V.str) (ys.map D.str) := fun {G} ys => by
      induction ys with
      | nil => exact .nil
      | cons y ys ih => exact .cons (.str y) ih
    refine k _ _ _ _ ((s1.trans st).trans s2.zero) (en'.step0 s2 (upd_same2 sm)) (.lst upd_same (al ys)) (fin ys (asc_strs hs (hp.nodup_iff.mpr nd)) fun x => ?_)
    rw [hp.mem_iff, mm]
    simp
theorem cbd_srtT {xs : List Str} (q : ∀ ys : List Str, ys.Perm xs → ys.Pairwise (fun a b => ¬ b.cps.toList < a.cps.toList) → φ (.lst (ys.map D.str))) : CbD (rSrtT K) [.lst (xs.map D.str)] φ := fun G H vs s a Q k => by
  cases a with
  | cons a t =>
    cases t
    obtain ⟨p0, us, rfl, ha, al⟩ := at_lst a
    obtain rfl := strs_atAll al
    have al2 : ∀ {G : Hp} (ys : List Str), AtAll G (ys.map V.str) (ys.map D.str) := fun {G} ys => by
      induction ys with
      | nil => exact .nil
      | cons y ys ih => exact .cons (.str y) ih
    refine ⟨p0, xs, rfl, sqL_of s ha, fun ys p hp hs fp => ?_⟩
    have st : Stp S0 G H (upd G p (.lst (ys.map V.str))) (upd H p (.lst (ys.map V.str))) := .new s fp
    exact k _ _ _ _ st (upd_same2 s) (.lst upd_same (al2 ys)) (q ys hp hs)
end
section
variable {X : Cx} {K : PySem.W.Frag}
theorem cr_srtTK (h : X.K = K) : CallR X (.builtin "sorted") (rSrtT K) := h ▸ cr_srtT
theorem cr_srtSTw {w : World} (h : X.w = w) (hc : X.calm = true) : CallR X (.builtin "sorted") (rSrtST w) := h ▸ cr_srtST hc
end
end Nv
/-! Nv, part E: from the facts of the written part to the words of parts C and D. -/
namespace Nv
open PySem PySem.Spec PyProof.Rows L2
theorem funD_mk {K : PySem.W.Frag} {x qual : Str} {st : Stmt} {f T : Addr} {o : Obj} {its : List Value} {n : Nat} {dvs : List V} {oc : Value} {od an : Option Addr} {osl : Array (Option Value)} {kV doc pm cdv ct : Value}
    (l : K.lookup f = some ⟨oc, od, .func (PySem.W.fnOf x qual (defArgs st) (defBody st) (defScope st) (.ref T) kV doc pm an cdv ct), osl⟩)
    (c : PySem.W.codeIn K cdv qual = true) (k : PySem.W.keepIn K (.ref f) = true) (lT : K.lookup T = some o) (oT : o.data = .seq its.toArray n) (r : Vals dvs its) (ne : dvs ≠ []) :
    FunD K x qual (defArgs st) (defBody st) (defScope st) dvs [] f (PySem.W.fnOf x qual (defArgs st) (defBody st) (defScope st) (.ref T) kV doc pm an cdv ct) :=
  ⟨⟨oc, od, _, kV, doc, pm, an, cdv, ct, osl, rfl, l, c, Or.inr ⟨ne, T, o, its, n, rfl, lT, oT, r⟩, Or.inl rfl⟩, k⟩
theorem exm_self {K : PySem.W.Frag} {S : Addr} (h1 : PySem.W.subIn K (.ref S) (.type "BaseException") = some true) (h2 : PySem.W.isClsIn K S = true)
    (h3 : PySem.W.typeIn K (.ref S) = some (.type "type")) (h4 : PySem.W.subIn K (.ref S) (.ref S) = some true) :
    PySem.W.exmOne K (.ref S) (.ref S) = some true := by
  have e1 : (PySem.W.subIn K (.ref S) (.type "BaseException") == some true) = true := by rw [h1] <;> rfl
  have e2 : ((PySem.W.clsIn K S).isSome && PySem.W.typeIn K (.ref S) == some (.type "type")) = true := by
    have z : (PySem.W.clsIn K S).isSome = true := h2
    rw [z, h3] <;> rfl
  unfold PySem.W.exmOne
  rw [if_pos e1]
  unfold PySem.W.kitCls
  exact (if_pos e2).trans h4
theorem kit_sub {K : PySem.W.Frag} {C : Addr} {T : String} {b : Bool} (h : PySem.W.subIn K (.ref C) (.type T) = some b) (m : PySem.W.kitMeta T = true) :
    PySem.W.kitOne K (.ref C) (.type T) = some b := by
  have z : ((Value.ref C) == (Value.type T)) = false := by rfl
  unfold PySem.W.kitOne
  rw [z]
  unfold PySem.W.kitCls
  exact (if_neg Bool.false_ne_true).trans ((if_pos m).trans h)
/-- the facts of an own error class over another one over ValueError -/
theorem exC_mk {K : PySem.W.Frag} {mg : Str → Option Value} {x : Str} {C fI : Addr} {nm q : Str} {N : Addr} {bs bm : List Value} {sn : List Str} {sub : List Value} {ab : Bool}
    {col : Option Bool} {dd : Option Addr} {m0 m1 m2 m3 m5 : Option Value} (gC : mg x = some (.ref C))
    (xL : K.lookup C = some (excClassObj nm q C N bs bm true sn sub ab col dd m0 m1 m2 m3 m5 "ValueError.__new__"))
    (rV : PySem.HandSPX.refsVE bm = true) (sa : PySem.W.findIn K (.ref C) "__setattr__" = some (some (.builtin "object.__setattr__")))
    (ga : PySem.W.findIn K (.ref C) "__getattribute__" = some (some (.builtin "BaseException.__getattribute__"))) (gg : PySem.W.findIn K (.ref C) "__getattr__" = some none)
    (no : PySem.W.findIn K (.ref C) "what" = some none) (iC : PySem.W.findIn K (.ref C) "__init__" = some (some (.ref fI)))
    (tI : PySem.W.typeIn K (.ref fI) = some (.type "function")) (kC : PySem.W.keepIn K (.ref C) = true) (eC : PySem.W.subIn K (.ref C) (.type "BaseException") = some true)
    (tC : PySem.W.typeIn K (.ref C) = some (.type "type")) (hC : PySem.W.hasDictIn K C = true) (cC : PySem.W.isClsIn K C = true)
    (sC : PySem.W.subIn K (.ref C) (.ref C) = some true) : ExC K mg x C fI :=
  ⟨gC, ⟨⟨nm, q, N, bs, bm, sn, sub, ab, col, dd, m0, m1, m2, m3, m5, xL, rV⟩, sa, eC, tC, kC⟩, iC, tI, no, ⟨ga, gg, eC, hC⟩, exm_self eC cC tC sC⟩
end Nv
/-! Nv, part F: operators that an own class defines. -/
namespace Nv
open PySem PySem.Spec PyProof.Rows L2

theorem int_add_no (a : Int) (t : Tok) (l : Addr) (C dx : Addr) :
    Meets (Builtin.«int.__add__» ⟨[.int a t, .ref l], []⟩) (fun _ R s => s.heap.get? l = some (PySem.W.instObj C dx) ∧ R (.ok (.ret Value.notImplemented)) s) :=
  .of_wp fun prog w A R s h => by
    obtain ⟨hp, g, d, tk, os⟩ := s
    obtain ⟨hl, h⟩ := h
    unfold PySem.W.instObj at hl
    wp_walk
    exact ⟨_, rfl, h⟩
theorem int_sub_no (a : Int) (t : Tok) (l : Addr) (C dx : Addr) :
    Meets (Builtin.«int.__sub__» ⟨[.int a t, .ref l], []⟩) (fun _ R s => s.heap.get? l = some (PySem.W.instObj C dx) ∧ R (.ok (.ret Value.notImplemented)) s) :=
  .of_wp fun prog w A R s h => by
    obtain ⟨hp, g, d, tk, os⟩ := s
    obtain ⟨hl, h⟩ := h
    unfold PySem.W.instObj at hl
    wp_walk
    exact ⟨_, rfl, h⟩
theorem int_mul_no (a : Int) (t : Tok) (l : Addr) (C dx : Addr) :
    Meets (Builtin.«int.__mul__» ⟨[.int a t, .ref l], []⟩) (fun _ R s => s.heap.get? l = some (PySem.W.instObj C dx) ∧ R (.ok (.ret Value.notImplemented)) s) :=
  .of_wp fun prog w A R s h => by
    obtain ⟨hp, g, d, tk, os⟩ := s
    obtain ⟨hl, h⟩ := h
    unfold PySem.W.instObj at hl
    wp_walk
    exact ⟨_, rfl, h⟩

section
open PySem.W
variable {prog : Program} {w : World} {A : Around} {E : Value → Shared → Prop} {s : Shared} {K : Frag} {x C L f g : Addr} {h₀ : Heap} {m : Str → Option Value} {ox : Obj} {od : Option Obj} {i : Int} {t : Tok}
/-- an int on the left of an own instance: int's own method declines, the reflected one answers -/
theorem int_left {op : Operator} {fo ro : Option Value} {Q : Value → Shared → Prop} (F : Fr h₀ L s.heap m) (X₀ : K.In h₀) (I : InstAt s.heap x ox C od) (hc : selfFirst K C = true)
    (hs : findIn K (.ref C) (PySem.dunder op.info.2) = some (some (.ref f))) (hr : findIn K (.ref C) (dunderR op.info.2) = some (some (.ref g))) (hg : isFn K (.ref g) = true)
    (h1 : findIn K (.type "int") (PySem.dunder op.info.2) = some fo) (h2 : findIn K (.type "int") (dunderR op.info.2) = some ro)
    (hl : ((fo.isSome && !isSeqSlot fo) || (ro.isSome && !isSeqSlot ro)) = true) (hsub : subIn K (.ref C) (.type "int") = some false)
    (no : ∀ Q' : Option Value → Shared → Prop, Q' none s → wpAny (model prog w) A (tryMethod (.int i t) (PySem.dunder op.info.2) (.ref x)) Q' E s)
    (h : wpAny (model prog w) A (call (.ref g) [.ref x, .int i t]) (PySem.W.CmpBack Q) E s) : wpAny (model prog w) A (binaryOp op (.int i t) (.ref x)) Q E s := by
  have X := X₀.keeps F.keep
  obtain ⟨cd, rest, hcd, hm⟩ := ksp_first hc
  rcases hi : op.info with ⟨sym, nm'⟩
  rw [hi] at hs hr h1 h2 no
  dsimp only at hs hr h1 h2 no
  have one := ksp_try X I hr hg h
  obtain ⟨hh, gg, d, tt, os⟩ := s
  have L1 : Looks (model prog w) hh (typeOf (.ref x)) (.ref C) := I.type
  have L2 : Looks (model prog w) hh (typeOf (.int i t)) (.type "int") := Looks.of_pure rfl
  have L3 : Looks (model prog w) hh (fillsNumberSlot (.ref C) nm') true := fills_K X hcd hm hs
  have L4 : Looks (model prog w) hh (fillsNumberSlot (.type "int") nm') ((fo.isSome && !isSeqSlot fo) || (ro.isSome && !isSeqSlot ro)) := ksp_fillsT X h1 h2
  rw [hl] at L4
  have L5 : Looks (model prog w) hh (isSubtype (.ref C) (.type "int")) false := looks_subIn X hsub
  have L7 : Looks (model prog w) hh (numberSlotInPython (.type "int") nm') false := Looks.of_pure rfl
  have hne : (Value.type "int" == Value.ref C) = false := Bool.eq_false_iff.mpr fun q => by cases beq_iff_eq.mp q
  simp only [binaryOp, hi]
  refine wpAny_holding (wpAny_bind ?_)
  unfold binaryOp1
  refine wpAny_bind (L2.at (wpAny_bind (L1.at (wpAny_bind (L4.at ?_)))))
  simp only [hne, Bool.false_eq_true, if_false]
  refine wpAny_bind (L3.at ?_)
  simp only [Bool.and_self, if_true]
  refine wpAny_bind (L5.at ?_)
  simp only [Bool.false_eq_true, if_false, pure_bind, Bool.not_false, Bool.and_self, if_true]
  refine wpAny_bind (L7.at ?_)
  simp only [Bool.false_eq_true, if_false, pure_bind, if_true]
  refine wpAny_bind (no _ ?_)
  refine wpAny_bind (wpAny_mono one (fun r s' hr' => ?_) fun _ _ e => e)
  obtain ⟨v, rfl, hq⟩ := hr'
  exact wpAny_bind (wpAny_rule (wpAny_pure (wpAny_pure hq)))
end

/-- what the written part says of an own class's operator -/
structure OpC (K : PySem.W.Frag) (C : Addr) (op : Operator) (f g : Addr) : Prop where
  first : PySem.W.selfFirst K C = true
  fd : PySem.W.findIn K (.ref C) (PySem.dunder op.info.2) = some (some (.ref f))
  fn : PySem.W.isFn K (.ref f) = true
  rd : PySem.W.findIn K (.ref C) (dunderR op.info.2) = some (some (.ref g))
  rn : PySem.W.isFn K (.ref g) = true
  sl : ∃ fo ro, PySem.W.findIn K (.type "int") (PySem.dunder op.info.2) = some fo ∧ PySem.W.findIn K (.type "int") (dunderR op.info.2) = some ro ∧
    ((fo.isSome && !isSeqSlot fo) || (ro.isSome && !isSeqSlot ro)) = true
  sub1 : PySem.W.subIn K (.type "int") (.ref C) = some false
  sub2 : PySem.W.subIn K (.ref C) (.type "int") = some false

theorem OpR.or {X : Cx} {f : Value → Value → Sem Value} {r1 r2 : R2} (a : OpR X f r1) (b : OpR X f r2) : OpR X f (fun x y H Q => r1 x y H Q ∨ r2 x y H Q) :=
  fun pins s σ H x y v u Q I rx ry h => h.elim (a pins s σ H x y v u Q I rx ry) (b pins s σ H x y v u Q I rx ry)
theorem UnR.or {X : Cx} {f : Value → Sem Value} {r1 r2 : V → Hp → VK → Prop} (a : UnR X f r1) (b : UnR X f r2) : UnR X f (fun x H Q => r1 x H Q ∨ r2 x H Q) :=
  fun pins s σ H x v Q I rx h => h.elim (a pins s σ H x v Q I rx) (b pins s σ H x v Q I rx)
section
variable {X : Cx} {CX : CXT} {k : Nat} {f g C : Addr} {fd : FuncData} {ps : List Str} {sp : Sp} {E : XK} {op : Operator}
theorem run_own {pins : List (Addr × Obj)} {σ : L2.St} {H : Hp} {s : Shared} {Q : VK} {us : List Value} {vs : List V}
    (F : FnOk X.prog X.w X.K X.mg X.base CX k f fd ps sp) (hr : Room k X.A) (hb : Binds X.K fd ps []) (hx : Passes CX X E)
    (I : Inv X pins σ H s) (r : Vals vs us) (h : sp vs H Q E) :
    wpAny (model X.prog X.w) X.A (call (.ref f) us) (PySem.W.CmpBack (EP X pins σ Q)) X.xe s := by
  refine wpAny_mono (run_fn F hr hb .nil hx I r (by rw [List.append_nil]; exact h)) (fun u s' z => ?_) fun _ _ z => z
  obtain ⟨v, H', I', rv, q⟩ := z
  have ne : u ≠ .notImplemented := fun e => by
    subst e
    cases v with
    | non => exact nomatch (show Value.notImplemented = Value.none from rv)
    | bl b => exact nomatch (show Value.notImplemented = Value.bool b from rv)
    | int i => obtain ⟨_, z⟩ := rv; exact nomatch z
    | str y => obtain ⟨_, z⟩ := rv; exact nomatch z
    | byt y => obtain ⟨_, z⟩ := rv; exact nomatch z
    | flt y => obtain ⟨_, z⟩ := rv; exact nomatch z
    | ref a => exact nomatch (show Value.notImplemented = Value.ref a from rv)
    | ty n => exact nomatch (show Value.notImplemented = Value.type n from rv)
  cases u <;> first | exact absurd rfl ne | exact ⟨v, H', I', rv, q⟩
/-- a op b, a an instance of the class at C, b one or an int: a's own method -/
def rOwn (C : Addr) (sp : Sp) (E : XK) : R2 := fun x y H Q => ∃ a dx fs, x = .ref a ∧ H a = some (.ins C dx fs) ∧
  ((∃ b dy gs, y = .ref b ∧ H b = some (.ins C dy gs)) ∨ ∃ j, y = .int j) ∧ sp [x, y] H Q E
theorem op_own (T : OpC X.K C op f g) (F : FnOk X.prog X.w X.K X.mg X.base CX k f fd ps sp) (hr : Room k X.A) (hb : Binds X.K fd ps []) (hx : Passes CX X E) :
    OpR X (binaryOp op) (rOwn C sp E) := by
  intro pins s σ H x y v u Q I rx ry h
  obtain ⟨a, dx, fs, rfl, ha, hy, q⟩ := h
  cases rx
  obtain ⟨mA, J, _⟩ := ins_get I.hok ha
  obtain ⟨od, J, _⟩ := J.look
  obtain ⟨m, hF⟩ := I.fr
  rcases hy with ⟨b, dy, gs, rfl, hb'⟩ | ⟨j, rfl⟩
  · cases ry
    obtain ⟨mB, J', _⟩ := ins_get I.hok hb'
    obtain ⟨od', J', _⟩ := J'.look
    exact PySem.W.binop_K hF I.ok.mod.kin J J'.type T.first T.fd T.fn (run_own (vs := [.ref a, .ref b]) F hr hb hx I (.cons rfl (.cons rfl .nil)) q)
  · obtain ⟨t, rfl⟩ := ry
    obtain ⟨fo, ro, h1, h2, _⟩ := T.sl
    exact PySem.W.ksp_binT (T := "int") hF I.ok.mod.kin J rfl T.first T.fd T.fn T.rd (Or.inr ⟨_, rfl⟩) h1 h2 T.sub1
      (run_own (vs := [.ref a, .int j]) F hr hb hx I (.cons rfl (.cons ⟨t, rfl⟩ .nil)) q)
/-- i op a, i an int: a's reflected method -/
def rRef (C : Addr) (sp : Sp) (E : XK) : R2 := fun x y H Q => ∃ i a dx fs, x = .int i ∧ y = .ref a ∧ H a = some (.ins C dx fs) ∧ sp [y, x] H Q E
theorem op_ref (T : OpC X.K C op f g) (F : FnOk X.prog X.w X.K X.mg X.base CX k g fd ps sp) (hr : Room k X.A) (hb : Binds X.K fd ps []) (hx : Passes CX X E)
    (no : ∀ (A : Around) (i : Int) (t : Tok) (l dx : Addr) (s : Shared) (E' : Value → Shared → Prop) (Q' : Option Value → Shared → Prop), s.heap.get? l = some (PySem.W.instObj C dx) → Q' none s →
      wpAny (model X.prog X.w) A (tryMethod (.int i t) (PySem.dunder op.info.2) (.ref l)) Q' E' s) :
    OpR X (binaryOp op) (rRef C sp E) := by
  intro pins s σ H x y v u Q I rx ry h
  obtain ⟨i, a, dx, fs, rfl, rfl, ha, q⟩ := h
  obtain ⟨t, rfl⟩ := rx
  cases ry
  obtain ⟨mA, J, _⟩ := ins_get I.hok ha
  have ob := J.obj
  obtain ⟨od, J, _⟩ := J.look
  obtain ⟨m, hF⟩ := I.fr
  obtain ⟨fo, ro, h1, h2, h3⟩ := T.sl
  exact int_left hF I.ok.mod.kin J T.first T.fd T.rd T.rn h1 h2 h3 T.sub2 (fun Q' z => no _ i t a dx s _ Q' ob z)
    (run_own (vs := [.ref a, .int i]) F hr hb hx I (.cons rfl (.cons ⟨t, rfl⟩ .nil)) q)
/-- - a -/
def rNegO (C : Addr) (sp : Sp) (E : XK) : V → Hp → VK → Prop := fun x H Q => ∃ a dx fs, x = .ref a ∧ H a = some (.ins C dx fs) ∧ sp [x] H Q E
theorem un_own (hs : PySem.W.findIn X.K (.ref C) "__neg__" = some (some (.ref f))) (hf : PySem.W.isFn X.K (.ref f) = true)
    (F : FnOk X.prog X.w X.K X.mg X.base CX k f fd ps sp) (hr : Room k X.A) (hb : Binds X.K fd ps []) (hx : Passes CX X E) : UnR X (unaryOp .USub) (rNegO C sp E) := by
  intro pins s σ H x v Q I rx h
  obtain ⟨a, dx, fs, rfl, ha, q⟩ := h
  cases rx
  obtain ⟨mA, J, _⟩ := ins_get I.hok ha
  obtain ⟨od, J, _⟩ := J.look
  obtain ⟨m, hF⟩ := I.fr
  exact PySem.W.ksp_neg hF I.ok.mod.kin J hs hf (run_fn (vs := [.ref a]) F hr hb .nil hx I (.cons rfl .nil) (by rw [List.append_nil]; exact q))
end
end Nv
/-! Nv, part G: an int on the left of an own instance: int's own method declines. -/
namespace Nv
open PySem PySem.Spec PyProof.Rows L2
theorem nb_add {prog : Program} {w : World} {A : Around} {i : Int} {t : Tok} {l : Addr} {s : Shared} {E' : Value → Shared → Prop} {Q' : Option Value → Shared → Prop}
    (hc : wpAny (model prog w) A (call (.builtin "int.__add__") [.int i t, .ref l]) (fun v s' => v = .notImplemented ∧ Q' none s') E' s) :
    wpAny (model prog w) A (tryMethod (.int i t) (PySem.dunder "add") (.ref l)) Q' E' s := by
  refine wpAny_tryMethod_declines (T := "int") (id := "int.__add__") ?_ ?_ ?_
  · exact typeIs_int s i t
  · exact F.slot_int_add
  · exact hc
theorem no_add {prog : Program} {w : World} {C : Addr} (A : Around) (i : Int) (t : Tok) (l dx : Addr) (s : Shared) (E' : Value → Shared → Prop) (Q' : Option Value → Shared → Prop)
    (h : s.heap.get? l = some (PySem.W.instObj C dx)) (q : Q' none s) : wpAny (model prog w) A (tryMethod (.int i t) (PySem.dunder Operator.Add.info.2) (.ref l)) Q' E' s := by
  refine nb_add ?_
  refine call_meets F.slot_int_add (typeIs_int s i t) F.entry_int_add (F.args_int_add_2 _ _) (int_add_no i t l C dx) ?_
  exact ⟨h, rfl, q⟩
theorem nb_sub {prog : Program} {w : World} {A : Around} {i : Int} {t : Tok} {l : Addr} {s : Shared} {E' : Value → Shared → Prop} {Q' : Option Value → Shared → Prop}
    (hc : wpAny (model prog w) A (call (.builtin "int.__sub__") [.int i t, .ref l]) (fun v s' => v = .notImplemented ∧ Q' none s') E' s) :
    wpAny (model prog w) A (tryMethod (.int i t) (PySem.dunder "sub") (.ref l)) Q' E' s := by
  refine wpAny_tryMethod_declines (T := "int") (id := "int.__sub__") ?_ ?_ ?_
  · exact typeIs_int s i t
  · exact F.slot_int_sub
  · exact hc
theorem no_sub {prog : Program} {w : World} {C : Addr} (A : Around) (i : Int) (t : Tok) (l dx : Addr) (s : Shared) (E' : Value → Shared → Prop) (Q' : Option Value → Shared → Prop)
    (h : s.heap.get? l = some (PySem.W.instObj C dx)) (q : Q' none s) : wpAny (model prog w) A (tryMethod (.int i t) (PySem.dunder Operator.Sub.info.2) (.ref l)) Q' E' s := by
  refine nb_sub ?_
  refine call_meets F.slot_int_sub (typeIs_int s i t) F.entry_int_sub (F.args_int_sub_2 _ _) (int_sub_no i t l C dx) ?_
  exact ⟨h, rfl, q⟩
theorem nb_mul {prog : Program} {w : World} {A : Around} {i : Int} {t : Tok} {l : Addr} {s : Shared} {E' : Value → Shared → Prop} {Q' : Option Value → Shared → Prop}
    (hc : wpAny (model prog w) A (call (.builtin "int.__mul__") [.int i t, .ref l]) (fun v s' => v = .notImplemented ∧ Q' none s') E' s) :
    wpAny (model prog w) A (tryMethod (.int i t) (PySem.dunder "mul") (.ref l)) Q' E' s := by
  refine wpAny_tryMethod_declines (T := "int") (id := "int.__mul__") ?_ ?_ ?_
  · exact typeIs_int s i t
  · exact F.slot_int_mul
  · exact hc
theorem no_mul {prog : Program} {w : World} {C : Addr} (A : Around) (i : Int) (t : Tok) (l dx : Addr) (s : Shared) (E' : Value → Shared → Prop) (Q' : Option Value → Shared → Prop)
    (h : s.heap.get? l = some (PySem.W.instObj C dx)) (q : Q' none s) : wpAny (model prog w) A (tryMethod (.int i t) (PySem.dunder Operator.Mult.info.2) (.ref l)) Q' E' s := by
  refine nb_mul ?_
  refine call_meets F.slot_int_mul (typeIs_int s i t) F.entry_int_mul (F.args_int_mul_2 _ _) (int_mul_no i t l C dx) ?_
  exact ⟨h, rfl, q⟩
end Nv
/-! Nv, part M: fractions in lowest terms; how long the search for a common divisor goes on. -/
namespace Nv
/-- the common divisor, with the sign of the bottom -/
def com (a b : Int) : Int := if b > 0 then ((Nat.gcd a.natAbs b.natAbs : Nat) : Int) else -((Nat.gcd a.natAbs b.natAbs : Nat) : Int)
theorem com_ne {a b : Int} (h : b ≠ 0) : com a b ≠ 0 := by
  have z : Nat.gcd a.natAbs b.natAbs ≠ 0 := fun e => h (Int.natAbs_eq_zero.mp (Nat.gcd_eq_zero_iff.mp e).2)
  unfold com
  split <;> omega
theorem com_le {a b : Int} (h : b ≠ 0) : (com a b).natAbs ≤ b.natAbs := by
  have z : Nat.gcd a.natAbs b.natAbs ≤ b.natAbs := Nat.gcd_le_right _ (Nat.pos_of_ne_zero fun e => h (Int.natAbs_eq_zero.mp e))
  unfold com
  split <;> omega
/-- t / b is n / d in lowest terms -/
structure RS (n d t b : Int) : Prop where
  pos : 0 < b
  cop : Nat.gcd t.natAbs b.natAbs = 1
  eq : t * d = n * b
  lt : t.natAbs ≤ n.natAbs
  lb : b.natAbs ≤ d.natAbs
theorem rs_com {a b : Int} (hb : b ≠ 0) : RS a b (a.fdiv (com a b)) (b.fdiv (com a b)) := by
  have cn := com_ne (a := a) hb
  obtain ⟨x, hx⟩ : ((Nat.gcd a.natAbs b.natAbs : Nat) : Int) ∣ a := Int.ofNat_dvd_left.mpr (Nat.gcd_dvd_left _ _)
  obtain ⟨y, hy⟩ : ((Nat.gcd a.natAbs b.natAbs : Nat) : Int) ∣ b := Int.ofNat_dvd_left.mpr (Nat.gcd_dvd_right _ _)
  generalize hg : Nat.gcd a.natAbs b.natAbs = g at hx hy
  have g0 : g ≠ 0 := fun e => hb (by rw [hy, e]; simp)
  have cop : Nat.gcd x.natAbs y.natAbs = 1 := by
    have e : Nat.gcd a.natAbs b.natAbs = g * Nat.gcd x.natAbs y.natAbs := by
      rw [hx, hy, Int.natAbs_mul, Int.natAbs_mul, Int.natAbs_natCast, Nat.gcd_mul_left]
    rw [hg] at e
    exact Nat.eq_of_mul_eq_mul_left (Nat.pos_of_ne_zero g0) (by rw [Nat.mul_one]; exact e.symm)
  have ax : a.natAbs = g * x.natAbs := by rw [hx, Int.natAbs_mul, Int.natAbs_natCast]
  have by' : b.natAbs = g * y.natAbs := by rw [hy, Int.natAbs_mul, Int.natAbs_natCast]
  have lx : x.natAbs ≤ a.natAbs := by rw [ax]; exact Nat.le_mul_of_pos_left _ (Nat.pos_of_ne_zero g0)
  have ly : y.natAbs ≤ b.natAbs := by rw [by']; exact Nat.le_mul_of_pos_left _ (Nat.pos_of_ne_zero g0)
  by_cases p : b > 0
  · have ec : com a b = (g : Int) := by unfold com; rw [if_pos p, hg]
    have e1 : a.fdiv (com a b) = x := by rw [ec]; rw (occs := [1]) [hx]; exact Int.mul_fdiv_cancel_left _ (by omega)
    have e2 : b.fdiv (com a b) = y := by rw [ec]; rw (occs := [1]) [hy]; exact Int.mul_fdiv_cancel_left _ (by omega)
    rw [e1, e2]
    have y0 : 0 < y := by
      rw [hy] at p
      exact Int.pos_of_mul_pos_right p (by omega)
    exact ⟨y0, cop, by rw [hx, hy]; grind, lx, ly⟩
  · have ec : com a b = -(g : Int) := by unfold com; rw [if_neg p, hg]
    have e1 : a.fdiv (com a b) = -x := by
      rw [ec, show a = (-(g : Int)) * (-x) by rw [hx]; grind]
      exact Int.mul_fdiv_cancel_left _ (by omega)
    have e2 : b.fdiv (com a b) = -y := by
      rw [ec, show b = (-(g : Int)) * (-y) by rw [hy]; grind]
      exact Int.mul_fdiv_cancel_left _ (by omega)
    rw [e1, e2]
    have y0 : 0 < -y := by
      have p' : 0 < (g : Int) * (-y) := by
        have : b < 0 := by omega
        rw [hy] at this
        grind
      exact Int.pos_of_mul_pos_right p' (by omega)
    exact ⟨y0, by rw [Int.natAbs_neg, Int.natAbs_neg]; exact cop, by rw [hx, hy]; grind, by rw [Int.natAbs_neg]; exact lx, by rw [Int.natAbs_neg]; exact ly⟩
theorem rs_of {n d t b : Int} (hd : d ≠ 0) (pos : 0 < b) (cop : Nat.gcd t.natAbs b.natAbs = 1) (eq : t * d = n * b) : RS n d t b := by
  have e : t.natAbs * d.natAbs = n.natAbs * b.natAbs := by rw [← Int.natAbs_mul, ← Int.natAbs_mul, eq]
  have d0 : 0 < d.natAbs := by omega
  have b0 : 0 < b.natAbs := by omega
  refine ⟨pos, cop, eq, ?_, ?_⟩
  · by_cases n0 : n.natAbs = 0
    · rw [n0, Nat.zero_mul] at e
      rcases Nat.mul_eq_zero.mp e with h | h <;> omega
    · refine Nat.le_of_dvd (by omega) (Nat.Coprime.dvd_of_dvd_mul_right (n := b.natAbs) cop ?_)
      exact ⟨d.natAbs, e.symm⟩
  · refine Nat.le_of_dvd d0 (Nat.Coprime.dvd_of_dvd_mul_left (m := t.natAbs) (Nat.Coprime.symm cop) ?_)
    exact ⟨n.natAbs, by rw [e, Nat.mul_comm]⟩
theorem bd_mul {a b : Int} {m n : Nat} (ha : a.natAbs < 2 ^ m) (hb : b.natAbs < 2 ^ n) : (a * b).natAbs < 2 ^ (m + n) := by
  rw [Int.natAbs_mul, Nat.pow_add]
  exact Nat.mul_lt_mul'' ha hb
theorem bd_add {a b : Int} {m : Nat} (ha : a.natAbs < 2 ^ m) (hb : b.natAbs < 2 ^ m) : (a + b).natAbs < 2 ^ (m + 1) := by
  have := Int.natAbs_add_le a b
  rw [Nat.pow_succ]
  omega
theorem bd_le {a : Nat} {m n : Nat} (h : a < 2 ^ m) (l : m ≤ n) : a < 2 ^ n := Nat.lt_of_lt_of_le h (Nat.pow_le_pow_right (by decide) l)

/-! ### Euclid's way in so many turns -/
def fibs : Nat → Nat × Nat
  | 0 => (0, 1)
  | n + 1 => ((fibs n).2, (fibs n).1 + (fibs n).2)
def fib (n : Nat) : Nat := (fibs n).1
theorem fib_add (n : Nat) : fib (n + 2) = fib n + fib (n + 1) := rfl
/-- k turns are enough from here -/
def Eu (k : Nat) (a b : Int) : Prop := b = 0 ∨ (b < a ∧ (b < fib (k + 1) ∨ a < fib (k + 2)))
theorem Eu.step {k : Nat} {a b : Int} (b0 : 0 < b) (h : Eu (k + 1) a b) : Eu k b (a % b) := by
  have r0 : 0 ≤ a % b := Int.emod_nonneg _ (by omega)
  have r1 : a % b < b := Int.emod_lt_of_pos _ b0
  rcases h with h | ⟨hl, h⟩
  · omega
  · refine Or.inr ⟨r1, ?_⟩
    by_cases c : b < fib (k + 2)
    · exact Or.inr c
    · refine Or.inl ?_
      rcases h with h | h
      · exact absurd h c
      · have e : fib (k + 3) = fib (k + 1) + fib (k + 2) := fib_add (k + 1)
        have q : a = b * (a / b) + a % b := by rw [Int.add_comm]; exact (Int.emod_add_mul_ediv a b).symm
        have q1 : 1 ≤ a / b := Int.le_ediv_of_mul_le b0 (by omega)
        have q2 : b ≤ b * (a / b) := by
          have := Int.mul_le_mul_of_nonneg_left q1 (Int.le_of_lt b0)
          omega
        have e' : (fib (k + 1 + 2) : Int) = fib (k + 1) + fib (k + 2) := by rw [show k + 1 + 2 = k + 3 from rfl, e]; omega
        omega
theorem Eu.zero {a b : Int} (b0 : 0 ≤ b) (h : Eu 0 a b) : b = 0 := by
  rcases h with h | ⟨hl, h⟩
  · exact h
  · have e1 : fib (0 + 1) = 1 := rfl
    have e2 : fib (0 + 2) = 1 := rfl
    rcases h with h | h <;> omega
theorem Eu.mono {k : Nat} {a b : Int} (h : b = 0) : Eu k a b := Or.inl h
end Nv
/-! Nv, part H: an own ==; a method by keyword alone; lists that grow beside the generator's state. -/
namespace Nv
open PySem PySem.Spec PyProof.Rows L2
section
variable {X : Cx} {CX : CXT} {k n : Nat} {f C : Addr} {fd : FuncData} {ps ks : List Str} {sp : Sp} {E : XK}
/-- a == y by the own method of a -/
def rEqO (K : PySem.W.Frag) (C : Addr) (sp : Sp) (E : XK) : R2 := fun x y H Q => ∃ a dx fs t, x = .ref a ∧ H a = some (.ins C dx fs) ∧ TyX K H y t ∧
  PySem.W.notFirst K C t = true ∧ sp [x, y] H Q E
theorem op_eqO (hs : PySem.W.findIn X.K (.ref C) "__eq__" = some (some (.ref f))) (hf : PySem.W.isFn X.K (.ref f) = true)
    (F : FnOk X.prog X.w X.K X.mg X.base CX k f fd ps sp) (hr : Room k X.A) (hb : Binds X.K fd ps []) (hx : Passes CX X E) :
    OpR X (compareOp .Eq) (rEqO X.K C sp E) := by
  intro pins s σ H x y v u Q I rx ry h
  obtain ⟨a, dx, fs, t, rfl, ha, ty, nf, q⟩ := h
  cases rx
  obtain ⟨mA, J, _⟩ := ins_get I.hok ha
  obtain ⟨od, J, _⟩ := J.look
  obtain ⟨m, hF⟩ := I.fr
  obtain ⟨Pz, Z, pz, _⟩ := kit_of I ry ty
  show wpAny (model X.prog X.w) X.A (richCompare .Eq (.ref a) u) (EP X pins σ Q) X.xe s
  exact PySem.W.cmp_K (op := .Eq) hr.units0 hF I.ok.mod.kin J (Z.ty _ _ I.kIn pz) nf hs hf
    (run_own (vs := [.ref a, y]) F hr hb hx I (.cons rfl (.cons ry .nil)) q)
variable {x m : Str} {p pos apos : Pos} {o : Expr} {kws : List Keyword} {ta : TE} {tk : TA} {g : List Value → List Value → List Value} {gV : List V → List V → List V}
/-- o.m(k = v, ..) -/
def tMethK (C : Addr) (m : Str) (nk : Nat) (sp : Sp) (gV : List V → List V → List V) (E : XK) (ta : TE) (tk : TA) : TE := fun σ H Q => ta σ H fun x H1 => ∃ a dx fs, x = .ref a ∧ H1 a = some (.ins C dx fs) ∧
  fs.lookup m = none ∧ tk σ H1 fun zs H2 => zs.length = nk ∧ sp (gV [x] zs) H2 Q E
theorem pe_methK0 {pl : Sem Bool} (he : PE X o ta) (c : Cls X.K C) (hm : Meth X.K C m f) (F : FnOk X.prog X.w X.K X.mg X.base CX k f fd ps sp) (hr : Room k X.A)
    (hb : KBn X.K fd ps 1 ks g gV) (hx : Passes CX X E) (hkw : PK X kws tk) (hall : (backToKw pos (keywordEach kws X.env)).all (·.1.isSome) = true := by rfl)
    (hks : (backToKw pos (keywordEach kws X.env)).filterMap (·.1) = ks := by rfl)
    (hpl : ((backTo pos (starEach [] X.env)).any (·.1) || (backToKw pos (keywordEach kws X.env)).any (·.1.isNone)) = false := by rfl)
    (ht : eval (.Call (.Attribute o m apos) [] kws pos) X.env = (do
      let ov ← eval o X.env
      standAt apos.atName
      let (f, first) ← holding [ov] (getMethod ov m pl)
      callWith pos f first (backTo pos (starEach [] X.env)) (backToKw pos (keywordEach kws X.env))) := by rfl) :
    PE X (.Call (.Attribute o m apos) [] kws pos) (tMethK C m ks.length sp gV E ta tk) := by
  refine ⟨fun pins s σ H Q I h => ?_⟩
  refine PySem.W.methodCall_KW (pl := pl) (thn (he.run pins s σ H _ I h) fun u s1 ⟨x, H1, I1, rx, a, dx, fs, ex, ea, l, q⟩ => ?_) ht
  subst ex
  obtain rfl : u = Value.ref a := rx
  refine getmeth_ok I1 ea c hm l ?_
  refine PySem.W.callWith_KW0 (first := [.ref a]) (h₀ := X.base) I.ok.mod.kin hm.kp hall ?_ hpl
  refine thn (hkw.run pos pins s1 σ H1 _ I1 q) fun ws s2 ⟨zs, H2, I2, rz, l2, q2⟩ => ⟨I2.kIn, ?_⟩
  rw [hks]
  exact run_fnN (us := [.ref a]) (vs := [.ref a]) F hr hb hx I2 (.cons rfl .nil) rz rfl l2 q2
end
theorem Dr.write {G : Hp} {st : Addr} {H : Hp} {q : Addr} {o o' : HO} (d : Dr (upd G q o) st H) : Dr (upd G q o') st (upd H q o') := by
  have ne : st ≠ q := fun e => by
    have z := d.free
    rw [e, upd_same] at z
    exact nomatch z
  obtain ⟨a, b, c, h⟩ := d.at_
  refine ⟨fun x u e => ?_, ?_, a, b, c, ?_⟩
  · by_cases hx : x = q
    · subst hx
      rw [upd_same] at e ⊢
      exact e
    · rw [upd_ne hx] at e ⊢
      exact d.same x u (by rw [upd_ne hx]; exact e)
  · have z := d.free
    rw [upd_ne ne] at z ⊢
    exact z
  · rw [upd_ne ne]
    exact h
/-- signs of fractions by those of the drawn numbers -/
theorem sgn {X Y D B : Int} (hB : 0 < B) (hD : D ≠ 0) (h : X * D = Y * B) :
    (X < 0 ↔ Y * (if D > 0 then 1 else -1) < 0) ∧ (X = 0 ↔ Y * (if D > 0 then 1 else -1) = 0) ∧ (0 < X ↔ 0 < Y * (if D > 0 then 1 else -1)) := by
  by_cases d : D > 0
  · rw [if_pos d]
    rcases Int.lt_trichotomy X 0 with x | x | x
    · have : X * D < 0 := Int.mul_neg_of_neg_of_pos x d
      have : Y < 0 := by
        apply Int.lt_of_not_ge
        intro z
        have := Int.mul_nonneg z (Int.le_of_lt hB)
        omega
      omega
    · subst x
      have : Y = 0 := by
        rw [Int.zero_mul] at h
        rcases Int.mul_eq_zero.mp h.symm with z | z <;> omega
      omega
    · have : 0 < X * D := Int.mul_pos x d
      have : 0 < Y := by
        apply Int.lt_of_not_ge
        intro z
        have := Int.mul_nonpos_of_nonpos_of_nonneg z (Int.le_of_lt hB)
        omega
      omega
  · rw [if_neg d]
    have dn : D < 0 := by omega
    rcases Int.lt_trichotomy X 0 with x | x | x
    · have : 0 < X * D := Int.mul_pos_of_neg_of_neg x dn
      have : 0 < Y := by
        apply Int.lt_of_not_ge
        intro z
        have := Int.mul_nonpos_of_nonpos_of_nonneg z (Int.le_of_lt hB)
        omega
      omega
    · subst x
      have : Y = 0 := by
        rw [Int.zero_mul] at h
        rcases Int.mul_eq_zero.mp h.symm with z | z <;> omega
      omega
    · have : X * D < 0 := Int.mul_neg_of_pos_of_neg x dn
      have : Y < 0 := by
        apply Int.lt_of_not_ge
        intro z
        have := Int.mul_nonneg z (Int.le_of_lt hB)
        omega
      omega
/-- fractions in lowest terms are equal if they are equal crosswise -/
theorem low_eq {t b t2 b2 : Int} (hb : 0 < b) (hb2 : 0 < b2) (c : Nat.gcd t.natAbs b.natAbs = 1) (c2 : Nat.gcd t2.natAbs b2.natAbs = 1) (h : t * b2 = t2 * b) : t = t2 ∧ b = b2 := by
  have e : t.natAbs * b2.natAbs = t2.natAbs * b.natAbs := by rw [← Int.natAbs_mul, ← Int.natAbs_mul, h]
  have d1 : b.natAbs ∣ b2.natAbs := Nat.Coprime.dvd_of_dvd_mul_left (m := t.natAbs) (Nat.Coprime.symm c) ⟨t2.natAbs, by rw [e, Nat.mul_comm]⟩
  have d2 : b2.natAbs ∣ b.natAbs := Nat.Coprime.dvd_of_dvd_mul_left (m := t2.natAbs) (Nat.Coprime.symm c2) ⟨t.natAbs, by rw [← e, Nat.mul_comm]⟩
  have eb : b.natAbs = b2.natAbs := Nat.dvd_antisymm d1 d2
  have eb' : b = b2 := by omega
  subst eb'
  exact ⟨Int.eq_of_mul_eq_mul_right (Int.ne_of_gt hb) h, rfl⟩
end Nv
/-! Nv, part G5: methods by keyword over data; promises that know that no repr is under way, over data. -/
namespace Nv
open PySem PySem.Spec PyProof.Rows L2
variable [Tb] [Ls]
/-- the values at these places -/
def pick {α : Type} (ix : List Nat) (zs : List α) : List α := ix.filterMap fun i => zs[i]?
theorem Vals.pick {vs : List V} {us : List Value} (h : Vals vs us) (ix : List Nat) : Vals (pick ix vs) (pick ix us) := by
  induction ix with
  | nil => exact .nil
  | cons i ix ih =>
    have e1 : ∀ {α : Type} (zs : List α), Nv.pick (i :: ix) zs = (match zs[i]? with | some z => z :: Nv.pick ix zs | none => Nv.pick ix zs) := fun zs => by
      unfold Nv.pick
      rw [List.filterMap_cons]
      cases zs[i]? <;> rfl
    rw [e1, e1]
    cases ev : vs[i]? with
    | none =>
      have : us[i]? = none := by
        rw [List.getElem?_eq_none_iff] at ev ⊢
        rw [← h.length]
        exact ev
      rw [this]
      exact ih
    | some v =>
      obtain ⟨u, eu, r⟩ := h.get ev
      rw [eu]
      exact .cons r ih
theorem Args.pick {S : Addr → Prop} {G : Hp} {as : List Sl} {vs : List V} (h : Args S G as vs) (ix : List Nat) : Args S G (pick ix as) (pick ix vs) := by
  induction ix with
  | nil => exact .nil
  | cons i ix ih =>
    have e1 : ∀ {α : Type} (zs : List α), Nv.pick (i :: ix) zs = (match zs[i]? with | some z => z :: Nv.pick ix zs | none => Nv.pick ix zs) := fun zs => by
      unfold Nv.pick
      rw [List.filterMap_cons]
      cases zs[i]? <;> rfl
    rw [e1, e1]
    cases ev : as[i]? with
    | none =>
      have : vs[i]? = none := by
        rw [List.getElem?_eq_none_iff] at ev ⊢
        rw [← h.length]
        exact ev
      rw [this]
      exact ih
    | some v =>
      obtain ⟨u, eu, r⟩ := h.get ev
      rw [eu]
      exact .cons r ih
def gKw (ix : List Nat) : List V → List V → List V := fun vs zs => vs ++ pick ix zs
theorem fun_kbi {K : PySem.W.Frag} {x qual : Str} {st : Stmt} {f : Addr} {fd : FuncData} {ps ks : List Str} {n : Nat} (ix : List Nat) (F : Fun K x qual st f fd)
    (h : ∀ (kV doc pm : Value) (an : Option Addr) (cdv ct : Value) (us ws : List Value), us.length = n → ws.length = ks.length →
      bindArgs (PySem.W.fnOf x qual (defArgs st) (defBody st) (defScope st) .none kV doc pm an cdv ct) ⟨us, ks.zip ws⟩ = pure (ps.zip (us ++ pick ix ws))) :
    KBn K fd ps n ks (fun us ws => us ++ pick ix ws) (gKw ix) := by
  obtain ⟨oc, od, kV, doc, pm, an, cdv, ct, osl, rfl, lk, hcd⟩ := F.ex
  exact ⟨fun s us ws _ l1 l2 => .of_eq (h kV doc pm an cdv ct us ws l1 l2), fun r1 r2 => r1.append (Nv.Vals.pick r2 ix)⟩
/-- a method that is called by keywords alone -/
structure Dmk (P : Program) (w : World) (K : PySem.W.Frag) (mg : Str → Option Value) (base : Heap) (C : Addr) (m : Str) (CX : CXT) (k : Nat) (ps ks : List Str) (ix : List Nat) (sp : Sp) : Prop where
  ex : ∃ f fd g, FnOk P w K mg base CX k f fd ps sp ∧ Meth K C m f ∧ KBn K fd ps 1 ks g (gKw ix)
theorem DmX.kw {f : Addr} {fd : FuncData} {P : Program} {w : World} {K : PySem.W.Frag} {mg : Str → Option Value} {base : Heap} {C : Addr} {m : Str} {CX : CXT} {k : Nat} {ps ks : List Str} {ix : List Nat} {g : List Value → List Value → List Value} {sp : Sp} (d : DmX f fd P w K mg base C m CX k ps sp) (b : KBn K fd ps 1 ks g (gKw ix)) :
    Dmk P w K mg base C m CX k ps ks ix sp := ⟨f, fd, g, d.ok, d.h, b⟩
section
variable {X : Cx} {CX : CXT} {k : Nat} {C : Addr} {m : Str} {ps ks : List Str} {ix : List Nat} {sp : Sp} {E : XK} {p pos apos : Pos} {o : Expr} {kws : List Keyword} {t tk : TA} {ta : TE}
theorem pe_methDk {pl : Sem Bool} (he : PE X o ta) (c : Cls X.K C) (F : Dmk X.prog X.w X.K X.mg X.base C m CX k ps ks ix sp) (hr : Room k X.A) (hx : Passes CX X E) (hkw : PK X kws tk)
    (hall : (backToKw pos (keywordEach kws X.env)).all (·.1.isSome) = true := by rfl) (hks : (backToKw pos (keywordEach kws X.env)).filterMap (·.1) = ks := by rfl)
    (hpl : ((backTo pos (starEach [] X.env)).any (·.1) || (backToKw pos (keywordEach kws X.env)).any (·.1.isNone)) = false := by rfl)
    (ht : eval (.Call (.Attribute o m apos) [] kws pos) X.env = (do
      let ov ← eval o X.env
      standAt apos.atName
      let (f, first) ← holding [ov] (getMethod ov m pl)
      callWith pos f first (backTo pos (starEach [] X.env)) (backToKw pos (keywordEach kws X.env))) := by rfl) :
    PE X (.Call (.Attribute o m apos) [] kws pos) (tMethK C m ks.length sp (gKw ix) E ta tk) := by
  obtain ⟨f, fd, g, h1, h2, h3⟩ := F.ex
  exact pe_methK0 he c h2 h1 hr h3 hx hkw hall hks hpl ht
theorem pe_methD0 {pl : Sem Bool} (he : PE X o ta) (c : Cls X.K C) (F : Dm X.prog X.w X.K X.mg X.base C m CX k ps sp) (hr : Room k X.A) (hx : Passes CX X E)
    (ht : eval (.Call (.Attribute o m apos) [] [] pos) X.env = (do
      let ov ← eval o X.env
      standAt apos.atName
      let (f, first) ← holding [ov] (getMethod ov m pl)
      callWith pos f first (backTo pos (starEach [] X.env)) (backToKw pos (keywordEach [] X.env))) := by rfl) :
    PE X (.Call (.Attribute o m apos) [] [] pos) (tMeth C m sp [] E ta tNil) := by
  obtain ⟨f, fd, h1, h2, h3⟩ := F.ex
  exact pe_meth0 he c h2 h1 hr h3 .nil hx ht
end
section
variable {R : Rg} {δ : List Sl} {te ta tb tc : TE} {tr : TA} {φ : D → Prop} {K : PySem.W.Frag}
theorem wpe_methK {c : Spc} {n nk : Nat} {ix : List Nat} {E : XK} {C : Addr} {ns : List Str} {m : Str} (hm : ∀ y ∈ ns, (m == y) = false)
    (h : WpE R ta δ fun x => (∃ ds, x = .ins C ns ds) ∧ WpA R tr δ fun as => as.length = nk ∧ (pick ix as).length + 1 = n ∧ c.pre (.da x :: pick ix as) ∧ (∀ d, c.post (.da x :: pick ix as) d → φ d) ∧ ∀ C d, ¬ c.err (.da x :: pick ix as) C d) :
    WpE R (tMethK C m nk (spW c n) (gKw ix) E ta tr) δ φ := fun σ G H en rz Q k =>
  h σ G H en rz _ fun v x G1 H1 s1 e1 a1 ⟨⟨ds, ex⟩, h2⟩ => by
    subst ex
    have a1' := a1
    generalize hns : ns = ns' at a1
    cases a1 with
    | @ins p _ dx fs _ hp al =>
      refine ⟨p, dx, fs, rfl, e1.same _ _ hp, look_none (by rw [← hns]; exact hm), ?_⟩
      refine h2 σ G1 H1 e1 (rz.stepB (s1.toB en.old)) _ fun vs as G2 H2 s2 e2 a2 ⟨l0, l, pr, q, r⟩ => ⟨by rw [← a2.length]; exact l0, ?_⟩
      show spW c n (.ref p :: pick ix vs) H2 Q E
      exact ⟨R.T.S, G2, _, by rw [List.length_cons]; exact l, e2.same, e2.stt, .cons (show ArgR R.T.S G2 (.da (.ins C ns ds)) (.ref p) from a1'.same s2.gs) (a2.pick ix), pr, fun v d G' H' st sm so a pq => k v d G' H' ((s1.trans s2).trans st) (e2.step st (fun _ z => z) sm so) a (q d pq), fun C dd w d G' H' st hx a x => (r C d x).elim⟩
end
/-! ### no repr under way -/
/-- repr(v), v a list or a tuple of data without dicts -/
def rReprN (K : PySem.W.Frag) : List V → Hp → VK → Prop := fun vs H Q => ∃ (a : Addr) (d : PyData), vs = [.ref a] ∧ Dp K H (.ref a) d ∧
  d.hasDict = false ∧ d.showable = true ∧ d.depth ≤ 30 ∧ d.shown.length ≤ sizeLine ∧ Q (.str d.shown) H
theorem call_reprN {X : Cx} {k : Nat} (hr : Room k X.A) (gd : X.A.guards = some []) : CallR X (.builtin "repr") (rReprN X.K) := by
  intro pins s σ H vs us Q I r ⟨a, d, ev, dp, hd, sh, de, sz, q⟩
  subst ev
  obtain ⟨u, rfl, ru⟩ := vals1 r
  obtain ⟨as, rd⟩ := Dp.reads I d _ _ dp ru
  cases ru
  have un := hr.un
  exact repr_of_reads' rd sh (PyData.noDict_hsm hd) gd (by omega) (fun _ _ z => z) (fun h' u tk kp => ⟨.str d.shown, H, I.kept kp, ⟨u, rfl⟩, q⟩) sz
theorem call_reprNK {X : Cx} {K : PySem.W.Frag} {k : Nat} (h : X.K = K) (hr : Room k X.A) (gd : X.A.guards = some []) : CallR X (.builtin "repr") (rReprN K) := h ▸ call_reprN hr gd
/-- such a def keeps a promise -/
structure Dg (P : Program) (w : World) (K : PySem.W.Frag) (mg : Str → Option Value) (base : Heap) (x : Str) (CX : CXT) (k : Nat) (ps : List Str) (sp : Sp) : Prop where
  ex : ∃ f fd, FnG P w K mg base CX k f fd ps sp ∧ mg x = some (.ref f) ∧ PySem.W.keepIn K (.ref f) = true ∧ Binds K fd ps []
section
variable {X : Cx} {CX : CXT} {k : Nat} {ps : List Str} {sp : Sp} {E : XK} {x : Str} {p pos : Pos} {e : Expr} {es : List Expr} {t : TA}
theorem pe_callDg (F : Dg X.prog X.w X.K X.mg X.base x CX k ps sp) (hr : Room k X.A) (gd : X.A.guards = some []) (hg : Gl X x) (hx : Passes CX X E) (ha : PA X (e :: es) t)
    (hdb : (x == ("__debug__" : Str)) = false := by decide) (he : starEach (e :: es) X.env = (false, eval e X.env) :: starEach es X.env := by rfl) (hpl : (backTo pos (starEach es X.env)).any (·.1) = false := by rfl) :
    PE X (.Call (.Name x p) (e :: es) [] pos) (tCall sp [] E t) := by
  obtain ⟨f, fd, h1, h2, h3, h4⟩ := F.ex
  exact pe_callG h1 hr gd hg h2 h3 h4 .nil hx ha hdb he hpl
end
section
variable {P : Program} {w : World} {K : PySem.W.Frag} {mg : Str → Option Value} {base : Heap}
/-- the body of a def, where no repr is under way -/
theorem fnG_ok {x qual : Str} {st : Stmt} {N ps : List Str} {f : Addr} {fd : FuncData} {k : Nat} {sp : Sp} (F : Fun K x qual st f fd) (S : FnScope N ps (defScope st)) (len : ∀ vs H Q E, sp vs H Q E → vs.length = ps.length)
    (h : ∀ (cdv : Value) (A : Around) (outer : List Env) (s : Shared) (H : Hp) (vs : List V) (Q : VK) (E : XK), A.guards = some [] → Room k (A.deeper (envOfC qual (defScope st) s.heap.objs.size f cdv)) → sp vs H Q E →
      ∃ t, PSs (cxOf CX0 P w K mg base N qual (defScope st) f cdv A outer s H E).nox (defBody st) t ∧ t { nx := fun _ H' => Q .non H', rt := Q } (L2.start N vs) H) : FnG P w K mg base CX0 (k + 1) f fd ps sp :=
  FnG.mk_of F S len fun cdv A outer s H vs Q E gd hr q => (h cdv A outer s H vs Q E gd hr q).imp fun t z => ⟨z.1.nox, z.2⟩
theorem Fn.okG {x : Str} {st : Stmt} {N ps : List Str} {f : Addr} {fd : FuncData} {n k : Nat} {c : Spc} (F : Fn K mg x st ps f fd) (S : FnScope N ps (defScope st)) (hn : ps.length = n)
    (h : ∀ (cdv : Value) (A : Around) (outer : List Env) (s : Shared) (H : Hp) (E : XK) (as : List Sl), (A.deeper (envOfC x (defScope st) s.heap.objs.size f cdv)).guards = some [] → Room k (A.deeper (envOfC x (defScope st) s.heap.objs.size f cdv)) → c.pre as → as.length = n →
      ∃ t, PSs (cxOf CX0 P w K mg base N x (defScope st) f cdv A outer s H E).nox (defBody st) t ∧
        ∀ T : Tr, WpS ⟨E, c.err as, T⟩ t (as ++ List.replicate (N.length - n) .no) (fun _ => c.post as .non) (c.post as)) :
    Dg P w K mg base x CX0 (k + 1) ps (spW c n) := by
  refine ⟨f, fd, fnG_ok F.F S (fun vs H Q E h => ?_) (fun cdv A outer s H vs Q E gd hr q => ?_), F.m, F.F.kp, F.b⟩
  · obtain ⟨S, G, as, l, _, _, ar, _⟩ := h
    rw [← ar.length, l, hn]
  · obtain ⟨S, G, as, l, sm, so, ar, p, k, r⟩ := q
    obtain ⟨t, h1, h2⟩ := h cdv A outer s H E as gd hr p l
    exact ⟨t, h1, wps_run l sm so ar k r h2⟩
end
end Nv
/-! Nv, part H5: lists that a call just handed out are changed; str of a text; isinstance(.., list). -/
namespace Nv
open PySem PySem.Spec PyProof.Rows L2
variable [Tb] [Ls]
def rStr1 : List V → Hp → VK → Prop := fun xs H Q => ∃ a, xs = [.str a] ∧ Q (.str a) H
theorem call_str1 {X : Cx} : CallR X (.type "str") rStr1 := SkE.call_str_str
theorem b_repr : bootBuiltins "repr" = some (.builtin "repr") := by decide +kernel
/-- no list, no dict within -/
inductive NoL : D → Prop
  | non : NoL .non
  | bl (b : Bool) : NoL (.bl b)
  | int (i : Int) : NoL (.int i)
  | str (x : Str) : NoL (.str x)
  | ty (T : String) : NoL (.ty T)
  | tup {ds : List D} : (∀ d ∈ ds, NoL d) → NoL (.tup ds)
  | ins {C : Addr} {ns : List Str} {ds : List D} : (∀ d ∈ ds, NoL d) → NoL (.ins C ns ds)
/-- the lists left out -/
def noLst (G : Hp) : Hp := fun a => match G a with
  | some (.lst _) => none
  | o => o
theorem noLst_of {G : Hp} {a : Addr} {u : HO} (e : G a = some u) (n : ∀ xs, u ≠ .lst xs) : noLst G a = some u := by
  unfold noLst
  rw [e]
  cases u <;> first | exact absurd rfl (n _) | rfl
theorem noLst_sub {G : Hp} {a : Addr} {u : HO} (e : noLst G a = some u) : G a = some u ∧ ∀ xs, u ≠ .lst xs := by
  unfold noLst at e
  cases q : G a with
  | none => rw [q] at e; exact nomatch e
  | some o =>
    rw [q] at e
    cases o <;> cases e <;> exact ⟨rfl, fun xs z => HO.noConfusion z⟩
theorem noLst_none {G : Hp} {a : Addr} (e : G a = none) : noLst G a = none := by unfold noLst; rw [e]
mutual
theorem At.noL {G : Hp} : ∀ {v : V} {d : D}, At G v d → NoL d → At (noLst G) v d
  | _, _, .non, _ => .non
  | _, _, .bl b, _ => .bl b
  | _, _, .int i, _ => .int i
  | _, _, .str x, _ => .str x
  | _, _, .ty x, _ => .ty x
  | _, _, .lst h t, n => by cases n
  | _, _, .tup h t, n => by
    cases n with
    | tup n =>
      refine .tup ?_ (AtAll.noL t n)
      rcases h with ⟨o, h, nd⟩ | ⟨h | ⟨o, h⟩, nd⟩
      · exact .inl ⟨o, noLst_of h (fun xs z => nomatch z), nd⟩
      · exact .inr ⟨.inl (noLst_of h fun xs z => nomatch z), nd⟩
      · exact .inr ⟨.inr ⟨o, noLst_of h fun xs z => nomatch z⟩, nd⟩
  | _, _, .dic h t, n => by cases n
  | _, _, .dct _ _ _ _, n => by cases n
  | _, _, .ins h t, n => by
    cases n with
    | ins n => exact .ins (noLst_of h fun xs z => nomatch z) (AtAll.noL t n)
theorem AtAll.noL {G : Hp} : ∀ {vs : List V} {ds : List D}, AtAll G vs ds → (∀ d ∈ ds, NoL d) → AtAll (noLst G) vs ds
  | _, _, .nil, _ => .nil
  | _, _, .cons a b, n => .cons (At.noL a (n _ (by simp))) (AtAll.noL b fun d hd => n d (by simp [hd]))
end
inductive NlS : Sl → Prop
  | no : NlS .no
  | fx (v : V) : NlS (.fx v)
  | st (a : Addr) : NlS (.st a)
  | da {d : D} : NoL d → NlS (.da d)
/-- such slots alone -/
def Nls (δ : List Sl) : Prop := ∀ (i : Nat) (s : Sl), δ[i]? = some s → NlS s
theorem nls_nil : Nls [] := fun i s e => by simp at e
theorem nls_cons {s : Sl} {δ : List Sl} (h : NlS s) (t : Nls δ) : Nls (s :: δ) := fun i s' e => by
  cases i with
  | zero =>
    obtain rfl : s = s' := by simpa using e
    exact h
  | succ i => exact t i s' (by simpa using e)
theorem Nls.no {δ : List Sl} (h : Nls δ) : (∀ (i : Nat) (a : Addr) (ds : List D), ¬ δ[i]? = some (.ow a ds)) ∧ ∀ (i : Nat) (a : Addr) (ds : Oo), ¬ δ[i]? = some (.od a ds) :=
  ⟨fun i a ds e => (by cases h i _ e), fun i a ds e => (by cases h i _ e)⟩
section
variable {R : Rg} {δ : List Sl} {te ta tb tc : TE} {tr : TA} {φ : D → Prop} {K : PySem.W.Frag} {Φ : List Sl → Prop} {Ψ : D → Prop}
theorem cbd_str1 {x : Str} (q : φ (.str x)) : CbD rStr1 [.str x] φ := fun G H vs s a Q k => by
  cases a with
  | cons a t =>
    cases t
    cases a
    exact ⟨x, rfl, k _ _ G H .refl s (.str _) q⟩
theorem cbd_isL {ds : List D} (q : φ (.bl true)) : CbD (rIsi K) [.lst ds, .ty "list"] φ := fun G H vs s a Q k => by
  cases a with
  | cons a t => cases t with
    | cons b t =>
      cases t
      cases b
      obtain ⟨p, xs, rfl, h, al⟩ := at_lst a
      exact ⟨_, _, _, _, _, rfl, .ty _, .base (.lst (s _ _ h)), kit_ty (show kitB "list" "list" = some true by decide +kernel), k _ _ G H .refl s (.bl _) q⟩
end
end Nv
/-! Nv, part R5: the generator's state within the law; loops over triples; texts in an own list. -/
namespace Nv
open PySem PySem.Spec PyProof.Rows L2
variable [Tb] [Ls]
section
variable {R : Rg} {δ : List Sl} {te ta tb : TE} {Φ : List Sl → Prop} {Ψ : D → Prop} {K : PySem.W.Frag} {u : TS}
theorem Ens.fresh5 {T : Tr} {G H : Hp} {δ : List Sl} {σ : L2.St} (en : Ens T G H δ σ) {p : Addr} (hp : H p = none) : G p = none ∧ ¬ T.S p ∧ ¬ T.O p :=
  ⟨en.same.free hp, (fun z => by
    obtain ⟨_, w, e, _⟩ := en.stt p z
    rw [hp] at e
    exact nomatch e), (fun z => en.old p z hp)⟩
def dropSt : Sl → Sl
  | .st _ => .no
  | s => s
def Tr.add (T : Tr) (p : Addr) : Tr := { T with S := fun b => T.S b ∨ b = p }
theorem map_get {δ : List Sl} {i : Nat} {s : Sl} (h : (δ.map dropSt)[i]? = some s) : ∃ s', δ[i]? = some s' ∧ s = dropSt s' := by
  rw [List.getElem?_map] at h
  obtain ⟨s', h1, h2⟩ := Option.map_eq_some_iff.mp h
  exact ⟨s', h1, h2.symm⟩
theorem drop_ow {s : Sl} {a : Addr} {ds : List D} (h : Sl.ow a ds = dropSt s) : s = .ow a ds := by
  cases s <;> first | exact h.symm | cases h
theorem drop_od {s : Sl} {a : Addr} {ds : Oo} (h : Sl.od a ds = dropSt s) : s = .od a ds := by
  cases s <;> first | exact h.symm | cases h
theorem Ens.narrow {T : Tr} {p : Addr} {G H : Hp} {δ : List Sl} {σ : L2.St} (en : Ens (T.add p) G H δ σ) : Ens T G H (δ.map dropSt) σ := by
  refine ⟨en.same, by rw [List.length_map]; exact en.len, fun i s e => ?_, fun b hb => en.stt b (.inl hb), en.old, fun b u q => ?_, fun i j a ds es e1 e2 => ?_, fun i j a ds es e1 e2 => ?_⟩
  · obtain ⟨s', e', rfl⟩ := map_get e
    obtain ⟨o, e1, r⟩ := en.get i s' e'
    refine ⟨o, e1, ?_⟩
    cases s' with
    | no => trivial
    | fx v => exact r
    | da d => exact r
    | fz _ _ => exact r
    | st a => trivial
    | ow a ds => exact ⟨r.1, ⟨fun z => r.2.1.1 (.inl z), r.2.1.2⟩, r.2.2⟩
    | od a ds => exact ⟨r.1, ⟨fun z => r.2.1.1 (.inl z), r.2.1.2⟩, r.2.2⟩
  · obtain ⟨h1, h2, h3⟩ := en.inv b u q
    exact ⟨h1, fun z => h2 (.inl z), h3⟩
  · obtain ⟨s1, h1, q1⟩ := map_get e1
    obtain ⟨s2, h2, q2⟩ := map_get e2
    rw [drop_ow q1] at h1
    rw [drop_ow q2] at h2
    exact en.nd i j a ds es h1 h2
  · obtain ⟨s1, h1, q1⟩ := map_get e1
    obtain ⟨s2, h2, q2⟩ := map_get e2
    rw [drop_od q1] at h1
    rw [drop_od q2] at h2
    exact en.nd2 i j a ds es h1 h2
theorem StB.narrow {T : Tr} {p : Addr} {G H G' H' : Hp} (hp : ¬ T.O p) (s : StB (T.add p).O (T.add p).S G H G' H') : StB T.O T.S G H G' H' :=
  ⟨s.gs, fun b u o e n => s.hs b u o e fun z => by
    rcases z with z | z
    · exact n z
    · exact hp (by rw [← z]; exact o), s.al, s.gn⟩
theorem Ens.newSt {T : Tr} {G H : Hp} {δ : List Sl} {σ : L2.St} (us : ∀ a, Tb.U a → T.S a) (en : Ens T G H δ σ) {i : Nat} {p : Addr} {xs : List V} (hl : Ls.ok G xs) (hp : H p = none) :
    Ens (T.add p) G (upd H p (.lst xs)) (δ.set i (.st p)) (σ.set i (some (.ref p))) := by
  have e1 := en.grow (same_upd (o := .lst xs) hp)
  have fp := en.fresh5 hp
  refine ⟨e1.same, by rw [List.length_set, List.length_set]; exact e1.len, fun j s e => ?_, fun b hb => ?_, e1.old, fun b u q => ?_, fun j k a ds es q1 q2 => ?_, fun j k a ds es q1 q2 => ?_⟩
  · rcases get_set e with ⟨rfl, rfl⟩ | ⟨ne, e⟩
    · have lt : j < σ.length := by
        rw [← e1.len]
        have := (List.getElem?_eq_some_iff.mp e).1
        rw [List.length_set] at this
        exact this
      exact ⟨some (.ref p), List.getElem?_set_self lt, rfl, .inr rfl, fun z => fp.2.1 (us p z)⟩
    · obtain ⟨o, e2, r⟩ := en.get j s e
      obtain ⟨o', e2', r'⟩ := e1.get j s e
      rw [e2] at e2'
      obtain rfl := Option.some.inj e2'
      refine ⟨o, by rw [List.getElem?_set_ne (fun z => ne z.symm)]; exact e2, ?_⟩
      cases s with
      | no => trivial
      | fx v => exact r'
      | da d => exact r'
      | fz _ _ => exact r'
      | st a => exact ⟨r'.1, .inl r'.2.1, r'.2.2⟩
      | ow a ds =>
        refine ⟨r'.1, ⟨fun z => ?_, r'.2.1.2⟩, r'.2.2⟩
        rcases z with z | z
        · exact r'.2.1.1 z
        · obtain ⟨_, _, _, xs, h1, _⟩ := r
          rw [z, hp] at h1
          exact nomatch h1
      | od a ds =>
        refine ⟨r'.1, ⟨fun z => ?_, r'.2.1.2⟩, r'.2.2⟩
        rcases z with z | z
        · exact r'.2.1.1 z
        · obtain ⟨_, _, _, h1, _⟩ := r
          rw [z, hp] at h1
          exact nomatch h1
  · rcases hb with hb | rfl
    · exact e1.stt b hb
    · exact ⟨fp.1, _, upd_same, .inl ⟨fun z => fp.2.1 (us _ z), xs, rfl, hl⟩⟩
  · obtain ⟨h1, h2, h3⟩ := e1.inv b u q
    refine ⟨h1, fun z => ?_, h3⟩
    rcases z with z | z
    · exact h2 z
    · exact fp.2.2 (by rw [← z]; exact h3)
  · rcases get_set q1 with ⟨_, z⟩ | ⟨_, m1⟩
    · exact nomatch z
    · rcases get_set q2 with ⟨_, z⟩ | ⟨_, m2⟩
      · exact nomatch z
      · exact e1.nd j k a ds es m1 m2
  · rcases get_set q1 with ⟨_, z⟩ | ⟨_, m1⟩
    · exact nomatch z
    · rcases get_set q2 with ⟨_, z⟩ | ⟨_, m2⟩
      · exact nomatch z
      · exact e1.nd2 j k a ds es m1 m2
theorem wps_state (us : ∀ a, Tb.U a → R.T.S a) (l3 : ∀ (G : Hp) (x y z : Int), Ls.ok G [.int x, .int y, .int z]) {i : Nat} {E : XK} (h : WpE R te δ fun d => (∃ n, d = .int n) ∧ ∀ p, ¬ R.T.O p → WpS ⟨R.E, R.X, R.T.add p⟩ u (δ.set i (.st p)) (fun δ' => Φ (δ'.map dropSt)) Ψ) :
    WpS R (tSeq (tAsg (tCall spSta [] E (tCons te tNil)) (gName i)) u) δ Φ Ψ := fun σ G H en rz Z k1 k2 => by
  refine h σ G H en rz _ fun v d G1 H1 s1 e1 a1 ⟨⟨n, en1⟩, h2⟩ => ?_
  subst en1
  cases a1
  refine ⟨n, rfl, fun p x y z hp => ?_⟩
  have e2 := e1.newSt us (i := i) (l3 G1 x y z) hp
  have fp := e1.fresh5 hp
  have sB : StB R.T.O R.T.S G H G1 (upd H1 p (.lst [.int x, .int y, .int z])) := (s1.toB en.old).trans ((Stp.grow (S := R.T.S) (same_upd hp)).toB e1.old)
  refine h2 p fp.2.2 _ G1 _ e2 (fun C dd w d G' H' sB' hx a xx sm so => ?_) Z (fun δ' σ' G' H' sB' e' q => ?_) (fun v d G' H' sB' sm so a q => ?_)
  · exact rz C dd w d G' H' (sB.trans (StB.narrow fp.2.2 sB')) hx a xx sm fun b hb => so b (.inl hb)
  · exact k1 _ σ' G' H' (sB.trans (StB.narrow fp.2.2 sB')) e'.narrow q
  · exact k2 v d G' H' (sB.trans (StB.narrow fp.2.2 sB')) sm (fun b hb => so b (.inl hb)) a q
theorem sq_inv {H H' : Hp} {a : Addr} {xs : List V} (h : ∀ u, H a = some u → H' a = some u) (q : SqL K H a xs) : SqL K H' a xs := by
  rcases q with (q | ⟨o, q⟩) | q
  · exact .inl (.inl (h _ q))
  · exact .inl (.inr ⟨o, h _ q⟩)
  · exact .inr q
theorem wpe_cell {a : Addr} {ns : List Int} {φ : D → Prop} {E : XK} (e0 : δ[0]? = some (.fx (.ref a))) (sq : ∀ H, (∀ u, R.T.F a u → H a = some u) → SqL K H a (ns.map V.int)) (h : WpE R te δ fun y => (∃ j : Nat, y = .int j) ∧ ∀ n, φ (.int n)) :
    WpE R (tCall (spCel K) [] E (tCons (tVar 0) (tCons te tNil))) δ φ := fun σ G H en rz Q k => by
  obtain ⟨o, e1, rfl⟩ := en.get 0 _ e0
  refine ⟨_, e1, h σ G H en rz _ fun v y G1 H1 s1 en1 a1 ⟨⟨j, ej⟩, q⟩ => ?_⟩
  subst ej
  cases a1
  exact ⟨a, ns, j, rfl, sq H1 fun u hu => (en1.inv a u hu).1, k _ _ G1 H1 s1 en1 (.int _) (q _)⟩
theorem ens_law {H : Hp} {a : Addr} {n : Nat} : Ens ⟨fun b => H b ≠ none, fun _ => False, fun b u => b = a ∧ H b = some u⟩ (fun _ => none) H (.fx (.ref a) :: List.replicate n .no) (some (.ref a) :: List.replicate n none) := by
  refine ⟨(fun b u e => nomatch e), by rw [List.length_cons, List.length_cons, List.length_replicate, List.length_replicate], fun i s e => ?_, (fun b z => z.elim), (fun b h => h), (fun b u ⟨h1, h2⟩ => ⟨h2, (fun z => z), by show H b ≠ none; rw [h2]; exact fun z => nomatch z⟩), fun i j b ds es e => ?_, fun i j b ds es e => ?_⟩
  · match i, e with
    | 0, e =>
      obtain rfl : Sl.fx (.ref a) = s := by simpa using e
      exact ⟨_, rfl, rfl⟩
    | i + 1, e =>
      have e : (List.replicate n Sl.no)[i]? = some s := by simpa using e
      obtain rfl := replicate_get e
      have lt := (List.getElem?_eq_some_iff.mp e).1
      rw [List.length_replicate] at lt
      exact ⟨none, by rw [List.getElem?_cons_succ, List.getElem?_replicate, if_pos lt], trivial⟩
  · match i, e with
    | 0, e => simp at e
    | i + 1, e => exact absurd (replicate_get (show (List.replicate n Sl.no)[i]? = some (Sl.ow b ds) by simpa using e)) (fun h => nomatch h)
  · match i, e with
    | 0, e => simp at e
    | i + 1, e => exact absurd (replicate_get (show (List.replicate n Sl.no)[i]? = some (Sl.od b ds) by simpa using e)) (fun h => nomatch h)
def spLaw (K : PySem.W.Frag) : Sp := fun vs H Q _ => ∃ (a : Addr) (ns : List Int), vs = [.ref a] ∧ ns.length ≤ 63 ∧ SqL K H a (ns.map V.int) ∧ ∀ H', Q (.bl true) H'

theorem wpg_tri {i j l : Nat} {d : D} {φ : List Sl → Prop} (q : ∃ x y z, d = .tup [x, y, z] ∧ φ (((δ.set i (.da x)).set j (.da y)).set l (.da z))) :
    WpG R (gTup K 3 (gCons (gName i) (gCons (gName j) (gCons (gName l) gNil)))) d δ [i, j, l] φ := fun σ G H v en a Q k => by
  obtain ⟨x, y, z, rfl, q⟩ := q
  cases a with
  | tup h t =>
    cases t with
    | cons a1 t =>
      cases t with
      | cons a2 t =>
        cases t with
        | cons a3 t =>
          cases t
          refine ⟨_, _, rfl, .inl (rdS en.same h.rd), rfl, _, _, rfl, _, _, rfl, _, _, rfl, rfl, ?_⟩
          exact k _ _ (((en.setD a1).setD a2).setD a3) (fun m hl => by rw [List.getElem?_set_ne (fun z => hl (by simp [z])), List.getElem?_set_ne (fun z => hl (by simp [z])), List.getElem?_set_ne (fun z => hl (by simp [z]))]) (by rw [List.length_set, List.length_set, List.length_set]) q
/-- x in y, y an own list of texts -/
theorem wpe_inOT {φ : D → Prop} {neg : Bool} {i : Nat} {p : Addr} {zs : List Str} (e : δ[i]? = some (.ow p (zs.map D.str))) (h : WpE R ta δ fun j => ∃ n : Str, j = .str n ∧ φ (.bl (if neg then !decide (n ∈ zs) else decide (n ∈ zs)))) :
    WpE R (tOp (rIn K neg) ta (tVar i)) δ φ := fun σ G H en rz Q k =>
  h σ G H en rz _ fun w j G2 H2 s2 en2 a2 ⟨n, ej, q⟩ => by
    subst ej
    cases a2
    obtain ⟨o, e1, rfl, nS, nG, xs, hx, al⟩ := en2.get i _ e
    obtain rfl := strs_atAll al
    have fl : (zs.map V.str).all flatV = true := by
      rw [List.all_map]
      exact List.all_eq_true.mpr fun _ _ => rfl
    refine ⟨_, e1, p, _, rfl, .inl (.inl (.inl hx)), rfl, fl, ?_⟩
    rw [inV_strs]
    exact k _ _ G2 H2 s2 en2 (.bl _) q
end
end Nv
/-! Nv, part Co: list(itertools.combinations(xs, r)). -/
namespace Nv
open PySem PySem.Spec PyProof.Rows L2
theorem mro_co : mroOf (.type "itertools.combinations") = pure [.type "itertools.combinations", .type "object"] := by rw [mroOf_type]; kernel_rfl
theorem lookup_co_new : typeLookup (.type "itertools.combinations") "__new__" = pure (some (.builtin "itertools.combinations.__new__")) := by rw [typeLookup_type, builtinLookup_eq_fast]; kernel_rfl
theorem slot_co_init : Slot "itertools.combinations" "__init__" "object.__init__" :=
  .of (owner := "object") (n := "__init__") (by rw [typeLookup_type, builtinLookup_eq_fast]; kernel_rfl) (by decide +kernel) (by decide +kernel) (by decide +kernel)
    (by first | exact .inl (by decide +kernel) | exact .inr (by decide +kernel)) (by rw [isSubtype_type]; kernel_rfl)
theorem sub_co : isSubtype (.type "itertools.combinations") (.type "itertools.combinations") = pure true := by rw [isSubtype_type]; kernel_rfl
theorem called_co : TypeCalled "itertools.combinations" "itertools.combinations.__new__" "object.__init__" :=
  ⟨by decide +kernel, by decide +kernel, ⟨_, _, mro_co⟩, madeBy_type mro_co lookup_co_new (by decide +kernel), by decide +kernel, sub_co, slot_co_init⟩
theorem typeCall_co (a b : Value) : checkTypeCall "itertools.combinations" ⟨[a, b], []⟩ = pure () := by kernel_rfl
theorem newCall_co (a b : Value) : checkBuiltinCall "itertools.combinations.__new__" ⟨[.type "itertools.combinations", a, b], []⟩ = pure () := by kernel_rfl
theorem entry_co_new : entryFor table "itertools.combinations.__new__" = some Builtin.«itertools.combinations.__new__» := entryFor_of_tree (by kernel_rfl)
theorem slot_co_iter : Slot "itertools.combinations" "__iter__" "itertools.combinations.__iter__" :=
  .of (owner := "itertools.combinations") (n := "__iter__") (by rw [typeLookup_type, builtinLookup_eq_fast]; kernel_rfl) (by decide +kernel) (by decide +kernel) (by decide +kernel)
    (by first | exact .inl (by decide +kernel) | exact .inr (by decide +kernel)) sub_co
theorem slot_co_next : Slot "itertools.combinations" "__next__" "itertools.combinations.__next__" :=
  .of (owner := "itertools.combinations") (n := "__next__") (by rw [typeLookup_type, builtinLookup_eq_fast]; kernel_rfl) (by decide +kernel) (by decide +kernel) (by decide +kernel)
    (by first | exact .inl (by decide +kernel) | exact .inr (by decide +kernel)) sub_co
theorem entry_co_iter : entryFor table "itertools.combinations.__iter__" = some Builtin.«dict_keyiterator.__iter__» :=
  entryFor_alias (id' := "dict_keyiterator.__iter__") (by kernel_rfl) (by first | rfl | decide +kernel | (unfold String.splitOn; simp +decide [String.splitOnAux])) (by decide +kernel) (by kernel_rfl)
theorem entry_co_next : entryFor table "itertools.combinations.__next__" = some Builtin.«itertools.combinations.__next__» := entryFor_of_tree (by kernel_rfl)
theorem owner_co : Manifest.owners.lookup (String.ofList ['s', 'n', 'o', 'i', 't', 'a', 'n', 'i', 'b', 'm', 'o', 'c', '.', 's', 'l', 'o', 'o', 't', 'r', 'e', 't', 'i'].reverse) = some Manifest.sig_itertools_combinations := by kernel_rfl
theorem args_co_iter (a : Value) : argsOk "itertools.combinations.__iter__" ⟨[a], []⟩ := by
  unfold argsOk; rw [signature?_of (id := "itertools.combinations.__iter__") (n := ['_', '_', 'r', 'e', 't', 'i', '_', '_']) (o := ['s', 'n', 'o', 'i', 't', 'a', 'n', 'i', 'b', 'm', 'o', 'c', '.', 's', 'l', 'o', 'o', 't', 'r', 'e', 't', 'i']) (by kernel_rfl) owner_co]; kernel_rfl
theorem args_co_next (a : Value) : argsOk "itertools.combinations.__next__" ⟨[a], []⟩ := by
  unfold argsOk; rw [signature?_of (id := "itertools.combinations.__next__") (n := ['_', '_', 't', 'x', 'e', 'n', '_', '_']) (o := ['s', 'n', 'o', 'i', 't', 'a', 'n', 'i', 'b', 'm', 'o', 'c', '.', 's', 'l', 'o', 'o', 't', 'r', 'e', 't', 'i']) (by kernel_rfl) owner_co]; kernel_rfl
theorem noDict_co : typeHasDict (.type "itertools.combinations") = false := by decide +kernel
theorem nolen_co : typeLookup (.type "itertools.combinations") "__len__" = pure none := by rw [typeLookup_type, builtinLookup_eq_fast]; kernel_rfl
theorem nohint_co : typeLookup (.type "itertools.combinations") "__length_hint__" = pure none := by rw [typeLookup_type, builtinLookup_eq_fast]; kernel_rfl
end Nv
namespace Nv
open PySem PySem.Spec PyProof.Rows L2
def coFs (pool : Value) (st : Int) (last : Value) (ks : List Nat) : Array Value := ([pool, rawInt st, last] ++ ks.map fun (i : Nat) => rawInt i).toArray
abbrev coO (pool : Value) (st : Int) (last : Value) (ks : List Nat) : Obj := { cls := .type "itertools.combinations", dict := none, data := .fields (coFs pool st last ks), slots := #[] }
abbrev tpO (items : List Value) : Obj := { cls := .type "tuple", data := .seq items.toArray }
section
variable {prog : Program} {w : World} {A : Around} {E : Value → Shared → Prop} {s : Shared}
theorem co_class (l rv : Value) : Builtin.Itertools.itClassAndRest "combinations" ⟨[.type "itertools.combinations", l, rv], []⟩ = pure (.type "itertools.combinations", [l, rv]) := by
  unfold Builtin.Itertools.itClassAndRest
  have e : ("itertools." ++ "combinations" : String) = "itertools.combinations" := by decide
  simp only [isType, e, sub_co, pure_bind, Bool.not_true, Bool.false_eq_true, if_false]
theorem co_bind (l rv : Value) : Builtin.Itertools.itBindNamed "combinations" ["iterable", "r"] 2 2 [l, rv] [] = pure [some l, some rv] := by
  unfold Builtin.Itertools.itBindNamed
  rfl
theorem co_ssize {r : Int} {t : Tok} (h0 : 0 ≤ r) (h1 : r < 1000) {Q : Int → Shared → Prop} (q : Q r s) : wpAny (model prog w) A (Builtin.Itertools.itSsizeArg (.int r t)) Q E s := by
  unfold Builtin.Itertools.itSsizeArg
  refine wpAny_bind (wpAny_of_eq (a := r) rfl ?_)
  dsimp only
  rw [if_neg (by simp; omega)]
  exact wpAny_of_eq (a := r) rfl q
theorem new_co (l : Value) (r : Int) (t : Tok) (h0 : 0 ≤ r) (h1 : r < 1000) : MeetsIn prog w (Builtin.«itertools.combinations.__new__» ⟨[.type "itertools.combinations", l, .int r t], []⟩)
    (fun A R s => wpAny (model prog w) A.in1 (collect l) (fun items s1 => items.length ≤ 1000 ∧ R (.ok (.ret (.ref (s1.heap.push (tpO items)).objs.size))) { s1 with heap := (s1.heap.push (tpO items)).push (coO (.ref s1.heap.objs.size) (if r.toNat > items.length then 2 else 0) .none (List.range r.toNat)) }) (fun e s1 => R (.error e) s1) s) :=
  .of_wp fun A R s h => by
    unfold Builtin.«itertools.combinations.__new__»
    refine wpAny_bind ?_
    show wpAny _ _ (Builtin.Itertools.itClassAndRest "combinations" _ >>= _) _ _ _
    refine wpAny_bind (wpAny_of_eq (co_class _ _) ?_)
    show wpAny _ _ (Builtin.Itertools.itBindNamed "combinations" ["iterable", "r"] 2 2 [l, .int r t] [] >>= _) _ _ _
    refine wpAny_bind (wpAny_of_eq (co_bind _ _) ?_)
    show wpAny _ _ (Builtin.Itertools.itSsizeArg (.int r t) >>= _) _ _ _
    refine wpAny_bind (co_ssize h0 h1 ?_)
    show wpAny _ _ (collect l >>= _) _ _ _
    refine wpAny_bind (wpAny_mono h (fun items s1 ⟨hi, hR⟩ => ?_) fun _ _ z => z)
    dsimp only
    rw [if_neg (by omega)]
    rw [if_neg (by unfold Builtin.Itertools.itTooMany; simp; omega)]
    refine wpAny_bind (wpAny_newTuple ?_ (by rw [sizeLine_eq]; omega))
    refine wpAny_pure ?_
    dsimp only
    unfold Builtin.Itertools.itNewRecord
    rw [noDict_co, if_pos (show (!false) = true from rfl)]
    refine wpAny_bind ?_
    refine wpAny_newObj_type ?_ (by show Array.size _ ≤ _; rw [List.size_toArray, List.length_append, List.length_map, List.length_range, sizeLine_eq]; show 3 + _ ≤ _; omega)
    exact wpAny_pure ⟨_, rfl, hR⟩
theorem call_co {l : Addr} {vs : List Value} {r : Int} {t : Tok} {Q : Value → Shared → Prop} (hl : s.heap.IsList l vs.toArray) (hv : vs.length ≤ 1000) (h0 : 0 ≤ r) (h1 : r < 1000)
    (h : ∀ h' p c, h'.get? p = some (tpO vs) → h'.get? c = some (coO (.ref p) (if r.toNat > vs.length then 2 else 0) .none (List.range r.toNat)) → s.heap.objs.size ≤ p → s.heap.objs.size ≤ c → p ≠ c →
      (∀ b o, s.heap.get? b = some o → h'.get? b = some o) → Q (.ref c) { s with heap := h' }) :
    wpAny (model prog w) A (call (.type "itertools.combinations") [.ref l, .int r t]) Q E s := by
  refine callType_newIn called_co (by decide +kernel) (typeCall_co _ _) (newCall_co _ _) (fun obj => F.args_object_init_3 obj _ _) entry_co_new (new_co _ r t h0 h1) ?_
  show wpAny (model prog w) A.in1.in1 (collect (.ref l)) _ _ _
  refine collect_list hl ?_ (by rw [sizeLine_eq]; omega)
  refine ⟨hv, ?_⟩
  generalize hg : (s.heap.push (seqObj "list" #[] 0)).update s.heap.objs.size (Obj.mapSeq (· ++ vs.toArray)) = g
  have gs : g.objs.size = s.heap.objs.size + 1 := by rw [← hg]; show (Heap.update _ _ _).objs.size = _; simp [Heap.size_push]
  have gk : ∀ b o, s.heap.get? b = some o → g.get? b = some o := fun b o e => by
    rw [← hg]
    exact (Heap.get?_update_other _ _ (Ne.symm (Nat.ne_of_lt (Heap.lt_size e)))).trans (Heap.get?_push_of_some _ e)
  have z : (g.push (tpO vs)).objs.size = g.objs.size + 1 := Heap.size_push ..
  have gc : ((g.push (tpO vs)).push (coO (.ref g.objs.size) (if r.toNat > vs.length then 2 else 0) .none (List.range r.toNat))).get? (g.push (tpO vs)).objs.size = some (coO (.ref g.objs.size) (if r.toNat > vs.length then 2 else 0) .none (List.range r.toNat)) := Heap.get?_push_size _ rfl
  have gp : ((g.push (tpO vs)).push (coO (.ref g.objs.size) (if r.toNat > vs.length then 2 else 0) .none (List.range r.toNat))).get? g.objs.size = some (tpO vs) := Heap.get?_push_of_some _ (Heap.get?_push_size _ rfl)
  show _ ∧ _
  exact ⟨⟨_, gc, rfl⟩, h _ _ _ gp gc (by omega) (by show s.heap.objs.size ≤ (g.push (tpO vs)).objs.size; omega) (by show g.objs.size ≠ (g.push (tpO vs)).objs.size; omega) fun b o e => Heap.get?_push_of_some _ (Heap.get?_push_of_some _ (gk b o e))⟩
/-! ### __next__ -/
def pickV (vs : List Value) (ks : List Nat) : List Value := ks.map fun i => vs.toArray.getD i .none
theorem co_hand {c p : Addr} {vs : List Value} {st : Int} {last : Value} {ks0 ks : List Nat} {Q : Value → Shared → Prop} (hc : s.heap.get? c = some (coO (.ref p) st last ks0)) (hp : s.heap.get? p = some (tpO vs)) (hk : ks.length ≤ 1000)
    (hQ : ∀ h', h'.get? c = some (coO (.ref p) st (.ref s.heap.objs.size) ks0) → h'.get? s.heap.objs.size = some (tpO (pickV vs ks)) → (∀ b o, b ≠ c → s.heap.get? b = some o → h'.get? b = some o) → h'.objs.size = s.heap.objs.size + 1 → Q (.ref s.heap.objs.size) { s with heap := h' }) :
    wpAny (model prog w) A (do
      let result ← (do let items ← Builtin.Itertools.itPoolItems (.ref p); newTuple (ks.map fun i => items.getD i .none))
      let before ← field (.ref c) 2
      setField (.ref c) 2 result
      letGo [before] [result]
      ret result) (fun fin s' => ∃ v, fin = .done (.ret v) ∧ Q v s') E s := by
  refine wpAny_bind ?_
  refine wpAny_bind ?_
  unfold Builtin.Itertools.itPoolItems
  refine wpAny_bind (wpAny_seqItems hp rfl ?_)
  refine wpAny_pure ?_
  refine wpAny_newTuple ?_ (by rw [List.length_map, sizeLine_eq]; omega)
  have lc : c < s.heap.objs.size := Heap.lt_size hc
  have hc2 : (s.heap.push (tpO (pickV vs ks))).get? c = some (coO (.ref p) st last ks0) := Heap.get?_push_of_some _ hc
  show wpAny _ _ (field (.ref c) 2 >>= _) _ _ { s with heap := s.heap.push (tpO (pickV vs ks)) }
  refine wpAny_bind (wpAny_field hc2 rfl (x := last) rfl ?_)
  refine wpAny_bind (wpAny_setField hc2 rfl (by unfold coFs; rw [List.size_toArray, List.length_append]; show 2 < 3 + _; omega) ?_)
  refine wpAny_bind (wpAny_letGo ?_)
  refine wpAny_pure ⟨_, rfl, hQ _ ?_ ?_ (fun b o nb e => (Heap.get?_update_other _ _ (Ne.symm nb)).trans (Heap.get?_push_of_some _ e)) ?_⟩
  · exact Heap.get?_update_self _ hc2 rfl
  · exact (Heap.get?_update_other _ _ (Nat.ne_of_lt lc)).trans (Heap.get?_push_size _ rfl)
  · show (Heap.update _ _ _).objs.size = _
    simp [Heap.size_push]
/-- the next indices -/
def nxtCo (n : Nat) (indices : List Nat) : Option (List Nat) :=
  let r := indices.length
  match (List.range r).reverse.find? fun i => indices.getD i 0 != i + n - r with
  | none => none
  | some i => some (indices.take i ++ (List.range (r - i)).map (indices.getD i 0 + 1 + ·))
theorem co_nums {c : Addr} {pool : Value} {st : Int} {last : Value} {ks : List Nat} {Q : List Nat → Shared → Prop} (hc : s.heap.get? c = some (coO pool st last ks)) (q : Q ks s) : wpAny (model prog w) A (Builtin.Itertools.itNumbersFrom (.ref c) 3) Q E s := by
  unfold Builtin.Itertools.itNumbersFrom
  refine wpAny_bind (wpAny_load hc ?_)
  dsimp only
  refine wpAny_pure ?_
  have e : ((coFs pool st last ks).toList.drop 3).map (fun | .int n _ => n.toNat | _ => 0) = ks := by
    unfold coFs
    show (ks.map fun (i : Nat) => rawInt i).map _ = ks
    rw [List.map_map]
    refine (List.map_congr_left fun a _ => ?_).trans (List.map_id _)
    rfl
  exact (congrArg (fun z => Q z s) e).mpr q
theorem co_int {c : Addr} {pool : Value} {st : Int} {last : Value} {ks : List Nat} {Q : Int → Shared → Prop} (hc : s.heap.get? c = some (coO pool st last ks)) (q : Q st s) : wpAny (model prog w) A (Builtin.Itertools.itIntField (.ref c) 1) Q E s := by
  unfold Builtin.Itertools.itIntField
  exact wpAny_bind (wpAny_field hc rfl (x := rawInt st) rfl (wpAny_pure q))
theorem co_first {c p : Addr} {vs : List Value} {last : Value} {ks : List Nat} {Q : Value → Shared → Prop} (hc : s.heap.get? c = some (coO (.ref p) 0 last ks)) (hp : s.heap.get? p = some (tpO vs)) (hk : ks.length ≤ 1000) (pc : p ≠ c)
    (hQ : ∀ h', h'.get? c = some (coO (.ref p) 1 (.ref s.heap.objs.size) ks) → h'.get? s.heap.objs.size = some (tpO (pickV vs ks)) → (∀ b o, b ≠ c → s.heap.get? b = some o → h'.get? b = some o) → Q (.ref s.heap.objs.size) { s with heap := h' }) :
    wpAny (model prog w) A (Builtin.«itertools.combinations.__next__» ⟨[.ref c], []⟩) (fun fin s' => ∃ v, fin = .done (.ret v) ∧ Q v s') E s := by
  show wpAny _ _ (field (.ref c) 0 >>= _) _ _ _
  refine wpAny_bind (wpAny_field hc rfl (x := .ref p) rfl ?_)
  show wpAny _ _ (Builtin.Itertools.itNumbersFrom (.ref c) 3 >>= _) _ _ _
  refine wpAny_bind (co_nums hc ?_)
  show wpAny _ _ (Builtin.Itertools.itIntField (.ref c) 1 >>= _) _ _ _
  refine wpAny_bind (co_int hc ?_)
  show wpAny _ _ (setField (.ref c) 1 (rawInt 1) >>= _) _ _ _
  refine wpAny_bind (wpAny_setField hc rfl (by unfold coFs; rw [List.size_toArray, List.length_append]; show 1 < 3 + _; omega) ?_)
  have hc2 : (s.heap.update c (Obj.mapFields (·.setIfInBounds 1 (rawInt 1)))).get? c = some (coO (.ref p) 1 last ks) := Heap.get?_update_self _ hc rfl
  have hp2 : (s.heap.update c (Obj.mapFields (·.setIfInBounds 1 (rawInt 1)))).get? p = some (tpO vs) := (Heap.get?_update_other _ _ (Ne.symm pc)).trans hp
  have sz : (s.heap.update c (Obj.mapFields (·.setIfInBounds 1 (rawInt 1)))).objs.size = s.heap.objs.size := by simp
  refine co_hand (s := { s with heap := s.heap.update c (Obj.mapFields (·.setIfInBounds 1 (rawInt 1))) }) hc2 hp2 hk fun h' a1 a2 a3 _ => ?_
  dsimp only at a1 a2 a3
  rw [sz] at a1 a2
  show Q (.ref (s.heap.update c (Obj.mapFields (·.setIfInBounds 1 (rawInt 1)))).objs.size) _
  rw [sz]
  exact hQ h' a1 a2 fun b o nb e => a3 b o nb ((Heap.get?_update_other _ _ (Ne.symm nb)).trans e)
theorem co_later {c p : Addr} {vs : List Value} {last : Value} {ks next : List Nat} {Q : Value → Shared → Prop} (hc : s.heap.get? c = some (coO (.ref p) 1 last ks)) (hp : s.heap.get? p = some (tpO vs)) (hk : next.length ≤ 1000) (pc : p ≠ c) (hn : nxtCo vs.length ks = some next)
    (hQ : ∀ h', h'.get? c = some (coO (.ref p) 1 (.ref s.heap.objs.size) next) → h'.get? s.heap.objs.size = some (tpO (pickV vs next)) → (∀ b o, b ≠ c → s.heap.get? b = some o → h'.get? b = some o) → Q (.ref s.heap.objs.size) { s with heap := h' }) :
    wpAny (model prog w) A (Builtin.«itertools.combinations.__next__» ⟨[.ref c], []⟩) (fun fin s' => ∃ v, fin = .done (.ret v) ∧ Q v s') E s := by
  show wpAny _ _ (field (.ref c) 0 >>= _) _ _ _
  refine wpAny_bind (wpAny_field hc rfl (x := .ref p) rfl ?_)
  show wpAny _ _ (Builtin.Itertools.itNumbersFrom (.ref c) 3 >>= _) _ _ _
  refine wpAny_bind (co_nums hc ?_)
  show wpAny _ _ (Builtin.Itertools.itIntField (.ref c) 1 >>= _) _ _ _
  refine wpAny_bind (co_int hc ?_)
  show wpAny _ _ (Builtin.Itertools.itPoolItems (.ref p) >>= _) _ _ _
  unfold Builtin.Itertools.itPoolItems
  refine wpAny_bind (wpAny_bind (wpAny_seqItems hp rfl (wpAny_pure ?_)))
  have hn2 : nxtCo vs.toArray.size ks = some next := by rw [List.size_toArray]; exact hn
  show wpAny _ _ (match nxtCo vs.toArray.size ks with | some next => _ | none => _) _ _ _
  rw [hn2]
  show wpAny _ _ (Builtin.Itertools.itSetNumbersFrom (.ref c) 3 next >>= _) _ _ _
  unfold Builtin.Itertools.itSetNumbersFrom
  refine wpAny_bind ?_
  show wpAny _ _ (updateFields c _) _ _ _
  have ef : (coFs (.ref p) 1 last ks).extract 0 3 ++ (next.map fun (n : Nat) => rawInt n).toArray = coFs (.ref p) 1 last next := by
    unfold coFs
    simp
  refine wpAny_updateFields hc rfl ?_ ?_
  · have hc2 : (s.heap.update c (Obj.mapFields fun fs => fs.extract 0 3 ++ (next.map fun (n : Nat) => rawInt n).toArray)).get? c = some (coO (.ref p) 1 last next) := by
      refine (Heap.get?_update_self _ hc rfl).trans ?_
      show some ({ cls := _, dict := _, data := .fields ((coFs (.ref p) 1 last ks).extract 0 3 ++ (next.map fun (n : Nat) => rawInt n).toArray), slots := _ } : Obj) = _
      rw [ef]
    have hp2 : (s.heap.update c (Obj.mapFields fun fs => fs.extract 0 3 ++ (next.map fun (n : Nat) => rawInt n).toArray)).get? p = some (tpO vs) := (Heap.get?_update_other _ _ (Ne.symm pc)).trans hp
    have sz : (s.heap.update c (Obj.mapFields fun fs => fs.extract 0 3 ++ (next.map fun (n : Nat) => rawInt n).toArray)).objs.size = s.heap.objs.size := by simp
    refine co_hand (s := { s with heap := s.heap.update c (Obj.mapFields fun fs => fs.extract 0 3 ++ (next.map fun (n : Nat) => rawInt n).toArray) }) hc2 hp2 hk fun h' a1 a2 a3 _ => ?_
    dsimp only at a1 a2 a3
    rw [sz] at a1 a2
    show Q (.ref (s.heap.update c (Obj.mapFields fun fs => fs.extract 0 3 ++ (next.map fun (n : Nat) => rawInt n).toArray)).objs.size) _
    rw [sz]
    exact hQ h' a1 a2 fun b o nb e => a3 b o nb ((Heap.get?_update_other _ _ (Ne.symm nb)).trans e)
  · rw [ef]
    unfold coFs
    rw [List.size_toArray, List.length_append, List.length_map, sizeLine_eq]
    show 3 + _ ≤ _
    omega
theorem co_end {c p : Addr} {vs : List Value} {last : Value} {ks : List Nat} {Q : Option Value → Shared → Prop} (hh : A.handled = none) (hc : s.heap.get? c = some (coO (.ref p) 1 last ks)) (hp : s.heap.get? p = some (tpO vs)) (hn : nxtCo vs.length ks = none)
    (hQ : ∀ h', (∀ b o, b ≠ c → s.heap.get? b = some o → h'.get? b = some o) → Q none { s with heap := h' }) :
    wpAny (model prog w) A (pyNext (.ref c)) Q E s := by
  have hT : s.TypeIs (.ref c) "itertools.combinations" := ⟨_, hc, rfl⟩
  unfold pyNext
  refine wpAny_bind (wpAny_attempt (wpAny_callSpecial?_slot (name := Str.ofString "__next__") hT slot_co_next
    (wpAny_call_entry slot_co_next hT entry_co_next ?_ (args_co_next _))))
  show wpAny _ _ (field (.ref c) 0 >>= _) _ _ _
  refine wpAny_bind (wpAny_field hc rfl (x := .ref p) rfl ?_)
  show wpAny _ _ (Builtin.Itertools.itNumbersFrom (.ref c) 3 >>= _) _ _ _
  refine wpAny_bind (co_nums hc ?_)
  show wpAny _ _ (Builtin.Itertools.itIntField (.ref c) 1 >>= _) _ _ _
  refine wpAny_bind (co_int hc ?_)
  show wpAny _ _ (Builtin.Itertools.itPoolItems (.ref p) >>= _) _ _ _
  unfold Builtin.Itertools.itPoolItems
  refine wpAny_bind (wpAny_bind (wpAny_seqItems hp rfl (wpAny_pure ?_)))
  have hn2 : nxtCo vs.toArray.size ks = none := by rw [List.size_toArray]; exact hn
  show wpAny _ _ (match nxtCo vs.toArray.size ks with | some next => _ | none => _) _ _ _
  rw [hn2]
  show wpAny _ _ (setField (.ref c) 1 (rawInt 2) >>= _) _ _ _
  refine wpAny_bind (wpAny_setField hc rfl (by unfold coFs; rw [List.size_toArray, List.length_append]; show 1 < 3 + _; omega) ?_)
  unfold Builtin.Itertools.itStop
  refine wpAny_bind ?_
  simp only [newExc, newTuple]
  refine wpAny_bind (wpAny_newObj_type ?_ (by size_fits))
  refine wpAny_bind (m := firstArgMember _ _) (wpAny_of_eq (a := Value.none) (by first | rfl | (simp only [firstArgMember]; rfl)) ?_)
  refine wpAny_newObj_type ?_ (by size_fits)
  simp only [raiseNew]
  refine wpAny_bind (wpAny_handled ?_)
  first | rw [show A.in1.handled = none from hh] | rw [hh]
  refine wpAny_bind (wpAny_pure (wpAny_throw ?_))
  refine wpAny_bind (wpAny_isInstance (T := "StopIteration") (b := true) ⟨_, Heap.get?_push_size _ rfl, rfl⟩ isSubtype_stop ?_)
  exact wpAny_pure (hQ _ fun b o nb e => Heap.get?_push_of_some _ (Heap.get?_push_of_some _ ((Heap.get?_update_other _ _ (Ne.symm nb)).trans e)))
theorem co_next {c p : Addr} {vs : List Value} {st : Int} {last : Value} {ks next : List Nat} {Q : Option Value → Shared → Prop} (hc : s.heap.get? c = some (coO (.ref p) st last ks)) (hp : s.heap.get? p = some (tpO vs)) (hk : next.length ≤ 1000) (pc : p ≠ c)
    (hs : (st = 0 ∧ ks = next) ∨ (st = 1 ∧ nxtCo vs.length ks = some next))
    (hQ : ∀ h', h'.get? c = some (coO (.ref p) 1 (.ref s.heap.objs.size) next) → h'.get? s.heap.objs.size = some (tpO (pickV vs next)) → (∀ b o, b ≠ c → s.heap.get? b = some o → h'.get? b = some o) → Q (some (.ref s.heap.objs.size)) { s with heap := h' }) :
    wpAny (model prog w) A (pyNext (.ref c)) Q E s := by
  have hT : s.TypeIs (.ref c) "itertools.combinations" := ⟨_, hc, rfl⟩
  unfold pyNext
  refine wpAny_bind (wpAny_attempt (wpAny_callSpecial?_slot (name := Str.ofString "__next__") hT slot_co_next
    (wpAny_call_entry slot_co_next hT entry_co_next ?_ (args_co_next _))))
  rcases hs with ⟨rfl, rfl⟩ | ⟨rfl, hn⟩
  · exact co_first hc hp hk pc fun h' a1 a2 a3 => wpAny_pure (hQ h' a1 a2 a3)
  · exact co_later hc hp hk pc hn fun h' a1 a2 a3 => wpAny_pure (hQ h' a1 a2 a3)
theorem co_iter {c : Addr} {o : Obj} {Q : Value → Shared → Prop} (hc : s.heap.get? c = some o) (ho : o.cls = .type "itertools.combinations") (h : Q (.ref c) s) : wpAny (model prog w) A (pyIter (.ref c)) Q E s := by
  have hT : s.TypeIs (.ref c) "itertools.combinations" := ⟨_, hc, ho⟩
  refine wpAny_pyIter_slot hT slot_co_iter (wpAny_call_entry slot_co_iter hT entry_co_iter ?_ (args_co_iter _))
  show wpAny _ _ (ret (.ref c)) _ _ s
  exact wpAny_pure ⟨_, rfl, "itertools.combinations", _, hT, slot_co_next.lookup, h⟩
end
end Nv
namespace Nv
open PySem PySem.Spec PyProof.Rows L2
/-- where the drawing of c into S stands: the tuples as have been handed out -/
structure CoAt (s0 h : Heap) (S c p : Addr) (vs : List Value) (cs : List (List Nat)) (as : List Addr) : Prop where
  po : h.get? p = some (tpO vs)
  li : ∃ cnt, h.get? S = some { cls := .type "list", dict := none, data := .seq (as.map Value.ref).toArray cnt, slots := #[] }
  its : ∀ (j : Nat) (a : Addr) (ks : List Nat), as[j]? = some a → cs[j]? = some ks → h.get? a = some (tpO (pickV vs ks))
  new : ∀ a ∈ as, s0.objs.size ≤ a ∧ a ≠ S ∧ a ≠ c
  nd : as.Nodup
  old : ∀ b o, b ≠ S → b ≠ c → s0.get? b = some o → h.get? b = some o
def CoSt (h : Heap) (c p : Addr) (cs : List (List Nat)) (n : Nat) : Prop := ∃ st last ks, h.get? c = some (coO (.ref p) st last ks) ∧ ((n = 0 ∧ st = 0 ∧ cs[0]? = some ks) ∨ (∃ j, n = j + 1 ∧ st = 1 ∧ cs[j]? = some ks))
section
variable {prog : Program} {w : World} {A : Around} {E : Value → Shared → Prop}
theorem co_drain {c p S : Addr} {vs : List Value} {cs : List (List Nat)} {R : Result → Shared → Prop} {res : Value} {s0 : Shared} (hh : A.handled = none) (ne : cs ≠ []) (l : cs.length ≤ 1000) (lk : ∀ ks ∈ cs, ks.length ≤ 1000)
    (ch : ∀ (i : Nat) (ks : List Nat), cs[i]? = some ks → nxtCo vs.length ks = cs[i + 1]?) (pc : p ≠ c) (pS : p ≠ S) (cS : c ≠ S)
    (hR : ∀ h' as, CoAt s0.heap h' S c p vs cs as → as.length = cs.length → R (.ok (.ret res)) { s0 with heap := h' }) :
    ∀ (k : Nat) (h : Heap) (as : List Addr), cs.length - as.length = k → as.length ≤ cs.length → s0.heap.objs.size ≤ h.objs.size → CoAt s0.heap h S c p vs cs as → CoSt h c p cs as.length →
      codeAny (model prog w) A (.builtin "list.extend.loop" ⟨[.ref S, .ref c, res], []⟩) R { s0 with heap := h } := by
  intro k
  induction k with
  | zero =>
    intro h as hk hi sz C hco
    have hin : as.length = cs.length := by omega
    obtain ⟨st, last, ks, hc, hs⟩ := hco
    obtain ⟨cnt, hl⟩ := C.li
    have h1 : ∃ j, as.length = j + 1 ∧ st = 1 ∧ cs[j]? = some ks := by
      rcases hs with ⟨h, _⟩ | h
      · exact absurd (List.eq_nil_of_length_eq_zero (by omega)) ne
      · exact h
    obtain ⟨j, ej, rfl, ek⟩ := h1
    have hn : nxtCo vs.length ks = none := by rw [ch j ks ek]; exact List.getElem?_eq_none (by omega)
    refine codeAny_builtin F.entry_extend_loop ?_
    rw [Around.under_plainId F.plain_extend_loop _]
    show wpAny _ A.in1 (pyNext (.ref c) >>= _) _ _ _
    refine wpAny_bind (co_end (s := { s0 with heap := h }) (show A.in1.handled = none from hh) hc C.po hn fun h' kp => ?_)
    have hS' := kp S _ (Ne.symm cS) hl
    exact wpAny_pure (hR h' as ⟨kp p _ pc C.po, ⟨cnt, hS'⟩, fun j a ks e1 e2 => kp a _ (C.new a (List.mem_of_getElem? e1)).2.2 (C.its j a ks e1 e2), C.new, C.nd, fun b o n1 n2 e => kp b o n2 (C.old b o n1 n2 e)⟩ hin)
  | succ k ih =>
    intro h as hk hi sz C hco
    have hlt : as.length < cs.length := by omega
    obtain ⟨st, last, ks, hc, hs⟩ := hco
    obtain ⟨cnt, hl⟩ := C.li
    have en : cs[as.length]? = some cs[as.length] := List.getElem?_eq_getElem hlt
    generalize cs[as.length] = next at en
    have hstep : (st = 0 ∧ ks = next) ∨ (st = 1 ∧ nxtCo vs.length ks = some next) := by
      rcases hs with ⟨h0, rfl, e0⟩ | ⟨j, ej, rfl, e1⟩
      · rw [h0, e0] at en
        exact .inl ⟨rfl, Option.some.inj en⟩
      · refine .inr ⟨rfl, ?_⟩
        rw [ch j ks e1, ← ej, en]
    refine codeAny_builtin F.entry_extend_loop ?_
    rw [Around.under_plainId F.plain_extend_loop _]
    show wpAny _ A.in1 (pyNext (.ref c) >>= _) _ _ _
    refine wpAny_bind (co_next (s := { s0 with heap := h }) hc C.po (lk next (List.mem_of_getElem? en)) pc hstep fun h' a1 a2 a3 => ?_)
    dsimp only at a1 a2 a3 ⊢
    have hS' := a3 S _ (Ne.symm cS) hl
    have nS : h.objs.size ≠ S := Nat.ne_of_gt (Heap.lt_size hl)
    have nC : h.objs.size ≠ c := Nat.ne_of_gt (Heap.lt_size hc)
    have nas : h.objs.size ∉ as := fun m => by
      obtain ⟨j, ej⟩ := List.mem_iff_getElem?.mp m
      obtain ⟨lj, _⟩ := List.getElem?_eq_some_iff.mp ej
      exact Nat.lt_irrefl _ (Heap.lt_size (C.its j _ _ ej (List.getElem?_eq_getElem (Nat.lt_of_lt_of_le lj hi))))
    show wpAny _ A.in1 (updateSeq S (·.push (.ref h.objs.size)) >>= _) _ _ _
    refine wpAny_bind ?_
    have ea : ((as.map Value.ref).toArray.push (.ref h.objs.size)) = ((as ++ [h.objs.size]).map Value.ref).toArray := by simp
    have hl1 : (as ++ [h.objs.size]).length = as.length + 1 := by rw [List.length_append, List.length_singleton]
    have hl2 : cs.length - (as ++ [h.objs.size]).length = k := by rw [hl1, Nat.sub_add_eq, hk]; rfl
    have hl3 : (as ++ [h.objs.size]).length ≤ cs.length := by rw [hl1]; exact hlt
    have up : ∀ b o, b ≠ S → h'.get? b = some o → (h'.update S (Obj.mapSeq (·.push (.ref h.objs.size)))).get? b = some o := fun b o nb e => (Heap.get?_update_other _ _ (Ne.symm nb)).trans e
    refine wpAny_updateSeq hS' rfl (wpAny_pure ⟨plainId_quiet F.plain_extend_loop _, ih _ (as ++ [h.objs.size]) hl2 hl3 ?_ ⟨?_, ?_, ?_, ?_, ?_, ?_⟩ ?_⟩)
      (by rw [List.size_toArray, List.length_map, sizeLine_eq]; omega) (by show ((as.map Value.ref).toArray.push (.ref h.objs.size)).size ≤ _; rw [ea, List.size_toArray, List.length_map, List.length_append, List.length_singleton, sizeLine_eq]; omega)
    · have : (h'.update S (Obj.mapSeq (·.push (.ref h.objs.size)))).objs.size = h'.objs.size := by simp
      rw [this]
      exact Nat.le_trans sz (Nat.le_of_lt (Heap.lt_size a2))
    · exact up p _ pS (a3 p _ pc C.po)
    · have q := Heap.get?_update_self (Obj.mapSeq (·.push (.ref h.objs.size))) hS' rfl
      have e1 : ∃ n, Obj.mapSeq (·.push (.ref h.objs.size)) { cls := .type "list", data := .seq (as.map Value.ref).toArray cnt } = ({ cls := .type "list", dict := none, data := .seq ((as.map Value.ref).toArray.push (.ref h.objs.size)) n, slots := #[] } : Obj) := ⟨_, rfl⟩
      obtain ⟨n, e1⟩ := e1
      rw [e1, ea] at q
      exact ⟨n, q⟩
    · intro j a ks' e1 e2
      by_cases lj : j < as.length
      · rw [List.getElem?_append_left lj] at e1
        have ma := C.new a (List.mem_of_getElem? e1)
        exact up a _ ma.2.1 (a3 a _ ma.2.2 (C.its j a ks' e1 e2))
      · rw [List.getElem?_append_right (by omega)] at e1
        have ej : j = as.length := by
          obtain ⟨this, _⟩ := List.getElem?_eq_some_iff.mp e1
          rw [List.length_singleton] at this
          omega
        subst ej
        rw [Nat.sub_self] at e1
        obtain rfl := Option.some.inj e1
        rw [en] at e2
        obtain rfl := Option.some.inj e2
        exact up _ _ nS a2
    · intro a m
      rcases List.mem_append.mp m with m | m
      · exact C.new a m
      · rw [List.mem_singleton] at m
        subst m
        exact ⟨sz, nS, nC⟩
    · rw [List.nodup_append]
      exact ⟨C.nd, by simp, fun a ha b hb => by rw [List.mem_singleton] at hb; subst hb; exact fun z => nas (by rw [← z]; exact ha)⟩
    · exact fun b o n1 n2 e => up b o n1 (a3 b o n2 (C.old b o n1 n2 e))
    · refine ⟨1, _, next, up c _ cS a1, .inr ⟨as.length, by rw [List.length_append, List.length_singleton], rfl, en⟩⟩
/-- list(c), c a combinations object not drawn from so far -/
theorem call_list_co {c p : Addr} {vs : List Value} {cs : List (List Nat)} {ks : List Nat} {Q : Value → Shared → Prop} {s : Shared} (hh : A.handled = none) (e0 : cs[0]? = some ks) (l : cs.length ≤ 1000) (lk : ∀ ks ∈ cs, ks.length ≤ 1000)
    (ch : ∀ (i : Nat) (ks : List Nat), cs[i]? = some ks → nxtCo vs.length ks = cs[i + 1]?) (hc : s.heap.get? c = some (coO (.ref p) 0 .none ks)) (hp : s.heap.get? p = some (tpO vs)) (pc : p ≠ c)
    (hQ : ∀ h' as, CoAt s.heap h' s.heap.objs.size c p vs cs as → as.length = cs.length → Q (.ref s.heap.objs.size) { s with heap := h' }) :
    wpAny (model prog w) A (call (.type "list") [.ref c]) Q E s := by
  refine callType_codes (Q₁ := fun obj s₁ => obj = .ref s.heap.objs.size ∧ s₁ = { s with heap := s.heap.push { cls := .type "list", data := .seq #[] } }) F.called_list (F.typeCall_list_1 _) F.entry_list_init
    (code_list_new _ ⟨rfl, rfl⟩) fun obj s₁ h₁ => ?_
  obtain ⟨rfl, rfl⟩ := h₁
  have hS : (s.heap.push { cls := .type "list", data := .seq #[] }).get? s.heap.objs.size = some { cls := .type "list", data := .seq #[] } := Heap.get?_push_size _ rfl
  refine ⟨⟨_, hS, rfl⟩, F.args_list_init_2 _ _, ?_⟩
  show wpAny _ A.in1.in1 (do let old ← Builtin.List.listItems (.ref s.heap.objs.size); Builtin.List.listUpdate (.ref s.heap.objs.size) (fun _ => #[]); letGo old.toList.reverse; Builtin.List.listExtendWith (.ref s.heap.objs.size) (.ref c) .none) _ _ _
  refine wpAny_bind ?_
  unfold Builtin.List.listItems
  refine wpAny_bind (wpAny_seqItems hS rfl (wpAny_pure ?_))
  show wpAny _ A.in1.in1 (updateSeq s.heap.objs.size (fun _ => #[]) >>= fun _ => letGo (#[] : Array Value).toList.reverse >>= fun _ => Builtin.List.listExtendWith (.ref s.heap.objs.size) (.ref c) .none) _ _ _
  refine wpAny_bind (wpAny_updateSeq hS rfl ?_)
  have hS2 := Heap.get?_update_self (Obj.mapSeq (fun _ => (#[] : Array Value))) hS rfl
  refine wpAny_bind (wpAny_letGo ?_)
  unfold Builtin.List.listExtendWith
  have up : ∀ (h : Heap) (f : Obj → Obj), (∀ b o, s.heap.get? b = some o → h.get? b = some o) → ∀ b o, s.heap.get? b = some o → (h.update s.heap.objs.size f).get? b = some o := fun h f q b o e =>
    (Heap.get?_update_other _ _ (Ne.symm (Nat.ne_of_lt (Heap.lt_size e)))).trans (q b o e)
  have k1 : ∀ b o, s.heap.get? b = some o → (s.heap.push { cls := .type "list", data := .seq #[] }).get? b = some o := fun b o e => Heap.get?_push_of_some _ e
  have k2 := up _ (Obj.mapSeq (fun _ => (#[] : Array Value))) k1
  refine wpAny_bind (wpAny_typeOf (T := "itertools.combinations") ⟨_, k2 _ _ hc, rfl⟩ ?_)
  have lc := Heap.lt_size hc
  have h1 : Builtin.List.listSameRef (.ref s.heap.objs.size) (.ref c) = false := by simp [Builtin.List.listSameRef, Nat.ne_of_gt lc]
  have h2 : (Value.type "itertools.combinations" == Value.type "list") = false := by decide
  have h3 : (Value.type "itertools.combinations" == Value.type "tuple") = false := by decide
  simp only [h1, h2, h3, Bool.or_false, Bool.false_eq_true, if_false]
  refine wpAny_bind (co_iter (k2 _ _ hc) rfl ?_)
  refine wpAny_bind (wpAny_holding ?_)
  unfold Builtin.List.listLengthHint
  refine wpAny_bind (wpAny_specialOf (T := "itertools.combinations") ⟨_, k2 _ _ hc, rfl⟩ nolen_co ?_)
  show wpAny _ A.in1.in1 (specialOf (Value.ref c) (Str.ofString "__length_hint__") >>= _) _ _ _
  refine wpAny_bind (wpAny_specialOf (T := "itertools.combinations") ⟨_, k2 _ _ hc, rfl⟩ nohint_co ?_)
  refine wpAny_pure ?_
  show wpAny _ A.in1.in1 (rule "list.extend.makes-room" >>= fun _ => Builtin.List.listTouch (.ref s.heap.objs.size) >>= fun _ =>
    again (.builtin "list.extend.loop" ⟨[.ref s.heap.objs.size, .ref c, .none], []⟩)) _ _ _
  refine wpAny_bind (wpAny_rule ?_)
  refine wpAny_bind ?_
  show wpAny _ A.in1.in1 (updateSeq s.heap.objs.size (·.push .none) >>= fun _ => updateSeq s.heap.objs.size (·.pop)) _ _ _
  refine wpAny_bind (wpAny_updateSeq hS2 rfl ?_)
  have hS3 := Heap.get?_update_self (Obj.mapSeq (·.push Value.none)) hS2 rfl
  refine wpAny_updateSeq (hz := by seq_fits) hS3 rfl ?_
  have hS4 := Heap.get?_update_self (Obj.mapSeq (·.pop)) hS3 rfl
  have k4 := up _ (Obj.mapSeq (·.pop)) (up _ (Obj.mapSeq (·.push Value.none)) k2)
  refine wpAny_pure ⟨plainId_quiet F.plain_extend_loop _, ?_⟩
  refine co_drain (s0 := s) (A := A.in1) (cs := cs) hh (fun z => by rw [z] at e0; exact nomatch e0) l lk ch pc (Nat.ne_of_lt (Heap.lt_size hp)) (Nat.ne_of_lt lc) (fun h' as C el => ⟨rfl, hQ h' as C el⟩) _ _ [] rfl (Nat.zero_le _) (by simp)
    ⟨k4 _ _ hp, ⟨_, hS4⟩, (fun j a ks e => by simp at e), (fun a m => by simp at m), List.nodup_nil, fun b o n1 n2 e => k4 b o e⟩ ⟨0, .none, ks, k4 _ _ hc, .inl ⟨rfl, rfl, e0⟩⟩
end
end Nv
namespace Nv
open PySem PySem.Spec PyProof.Rows L2
/-- ascending rows of r numbers from lo on, below n, in order -/
def combsF (n : Nat) : Nat → Nat → List (List Nat)
  | 0, _ => [[]]
  | r + 1, lo => (List.range (n - lo)).flatMap fun k => (combsF n r (lo + k + 1)).map fun ks => (lo + k) :: ks
def combs (n r : Nat) : List (List Nat) := combsF n r 0
def combsChk (n r : Nat) : Bool := ((combs n r)[0]? == some (List.range r)) && (decide ((combs n r).length ≤ 1000) && ((combs n r).all (fun ks => decide (ks.length = r) && ks.all fun k => decide (k < n)) &&
  (List.range (combs n r).length).all fun i => (combs n r)[i]?.bind (nxtCo n) == (combs n r)[i + 1]?))
theorem combs_chk : ∀ n < 8, ∀ r < 5, r ≤ n → combsChk n r = true := by decide +kernel
structure CombsOk (n r : Nat) : Prop where
  e0 : (combs n r)[0]? = some (List.range r)
  l : (combs n r).length ≤ 1000
  lk : ∀ ks ∈ combs n r, ks.length = r ∧ ∀ k ∈ ks, k < n
  ch : ∀ (i : Nat) (ks : List Nat), (combs n r)[i]? = some ks → nxtCo n ks = (combs n r)[i + 1]?
theorem combs_ok {n r : Nat} (h : n ≤ 7) (h1 : r ≤ 4) (h2 : r ≤ n) : CombsOk n r := by
  have h := combs_chk n (by omega) r (by omega) h2
  unfold combsChk at h
  simp only [Bool.and_eq_true, decide_eq_true_eq, List.all_eq_true, beq_iff_eq, List.mem_range] at h
  obtain ⟨a, b, c, d⟩ := h
  refine ⟨a, b, c, fun i ks e => ?_⟩
  obtain ⟨lt, _⟩ := List.getElem?_eq_some_iff.mp e
  have := d i lt
  rw [e] at this
  exact this
/-! ### tuples laid one behind another -/
def layT (H : Hp) : List (Addr × Obj × List V) → Hp
  | [] => H
  | (a, o, xs) :: r => layT (upd H a (TpO o xs)) r
def FrT (H : Hp) : List (Addr × Obj × List V) → Prop
  | [] => True
  | (a, o, xs) :: r => H a = none ∧ o.dict = none ∧ FrT (upd H a (TpO o xs)) r
theorem layT_ne {b : Addr} : ∀ {ls : List (Addr × Obj × List V)} {H : Hp}, b ∉ ls.map (·.1) → layT H ls b = H b
  | [], _, _ => rfl
  | (a, o, xs) :: r, H, h => by
    rw [List.map_cons, List.mem_cons, not_or] at h
    unfold layT
    rw [layT_ne h.2, upd_ne h.1]
section
variable {X : Cx} {pins : List (Addr × Obj)} {σ : L2.St} {H : Hp} {s : Shared}
theorem grown (g h' : Heap) (a : Addr) (k : ∀ b o, g.get? b = some o → h'.get? b = some o) :
    ∃ g1 : Heap, (∀ b o, g.get? b = some o → g1.get? b = some o) ∧ g1.get? a = h'.get? a ∧ (∀ b o, g1.get? b = some o → h'.get? b = some o) ∧ ∀ b, b ≠ a → g.get? b = none → g1.get? b = none := by
  obtain ⟨g1, p1, p2⟩ := restrict h' fun b => (g.get? b).isSome || decide (b = a)
  refine ⟨g1, fun b o e => ?_, p1 a (by simp), fun b o e => ?_, fun b nb e => p2 b (by simp [e, nb])⟩
  · rw [p1 b (by simp [e])]
    exact k b o e
  · by_cases q : ((g.get? b).isSome || decide (b = a)) = true
    · rw [← p1 b q]
      exact e
    · rw [p2 b (by simpa using q)] at e
      exact nomatch e
theorem Inv.layT {h' : Heap} : ∀ (ls : List (Addr × Obj × List V)) (H : Hp) (g : Heap), Inv X pins σ H { s with heap := g } → (∀ b o, g.get? b = some o → h'.get? b = some o) →
    (∀ x ∈ ls, g.get? x.1 = none ∧ H x.1 = none ∧ x.2.1.dict = none ∧ ∃ us, h'.get? x.1 = some x.2.1 ∧ x.2.1 = tpO us ∧ Vals x.2.2 us ∧ x.2.2.length ≤ sizeLine) → (ls.map (·.1)).Nodup →
    ∃ g', (∀ b o, g'.get? b = some o → h'.get? b = some o) ∧ Inv X pins σ (Nv.layT H ls) { s with heap := g' } ∧ FrT H ls ∧ ∀ b, b ∉ ls.map (·.1) → g.get? b = none → g'.get? b = none
  | [], H, g, I, k, _, _ => ⟨g, k, I, trivial, fun _ _ e => e⟩
  | (a, o, xs) :: r, H, g, I, k, h, nd => by
    obtain ⟨q1, q2, q3, us, q4, q5, q6, q7⟩ := h _ List.mem_cons_self
    rw [List.map_cons, List.nodup_cons] at nd
    obtain ⟨g1, p1, p2, p3, p4⟩ := grown g h' a k
    have ga : g1.get? a = some o := p2.trans q4
    have I1 : Inv X pins σ (upd H a (TpO o xs)) { s with heap := g1 } := I.laidN (t' := s.toks) p1 q1 q2 ⟨ga, q7, us, q6, ⟨o, ga, by rw [show o = tpO us from q5], 0, by rw [show o = tpO us from q5]⟩⟩
    obtain ⟨g', r1, r2, r3, r4⟩ := Inv.layT r _ g1 I1 p3 (fun x hx => by
      obtain ⟨z1, z2, z3⟩ := h x (List.mem_cons_of_mem _ hx)
      have ne : x.1 ≠ a := fun e => nd.1 (by rw [← e]; exact List.mem_map.mpr ⟨x, hx, rfl⟩)
      exact ⟨p4 _ ne z1, by rw [upd_ne ne]; exact z2, z3⟩) nd.2
    refine ⟨g', r1, r2, ⟨q2, q3, r3⟩, fun b nb e => ?_⟩
    rw [List.map_cons, List.mem_cons, not_or] at nb
    exact r4 b nb.2 (p4 b nb.1 e)
end
/-! ### the rule -/
def rngV (n : Nat) : List V := (List.range n).map fun (i : Nat) => V.int i
def PCo (X : Cx) (e : Expr) (t : L2.St → Hp → (Nat → Nat → Hp → Prop) → Prop) : Prop :=
  ∀ (pins : List (Addr × Obj)) (s : Shared) (σ : L2.St) (H : Hp) (Q : Nat → Nat → Hp → Prop), Inv X pins σ H s → t σ H Q →
    wpAny (model X.prog X.w) X.A (eval e X.env) (fun x s' => ∃ c p vs n r h0 H', x = .ref c ∧ p ≠ c ∧ s'.heap.get? p = some (tpO vs) ∧ s'.heap.get? c = some (coO (.ref p) 0 .none (List.range r)) ∧ Vals (rngV n) vs ∧ r ≤ n ∧ n ≤ 7 ∧ r ≤ 4 ∧
      (∀ b o, h0.get? b = some o → s'.heap.get? b = some o ∧ b ≠ c) ∧ h0.objs.size ≤ s'.heap.objs.size ∧ Inv X pins σ H' { s' with heap := h0 } ∧ Q n r H') X.xe s
def tCo2 (K : PySem.W.Frag) (ta tb : TE) : L2.St → Hp → (Nat → Nat → Hp → Prop) → Prop := fun σ H Q => ta σ H fun x H1 => tb σ H1 fun y H2 => ∃ (l : Addr) (n r : Nat), x = .ref l ∧ y = .int r ∧ SqL K H2 l (rngV n) ∧ r ≤ n ∧ n ≤ 7 ∧ r ≤ 4 ∧ Q n r H2
theorem pco_2 {X : Cx} {a b : Expr} {ta tb : TE} {p pos : Pos} (hg : Gl X "combinations") (hm : X.mg "combinations" = some (.type "itertools.combinations")) (ha : PE X a ta) (hb : PE X b tb) (na : starEach [a, b] X.env = (false, eval a X.env) :: starEach [b] X.env := by rfl)
    (nb : starEach [b] X.env = (false, eval b X.env) :: starEach [] X.env := by rfl) (hp : (backTo pos (starEach [b] X.env)).any (·.1) = false := by rfl) : PCo X (.Call (.Name "combinations" p) [a, b] [] pos) (tCo2 X.K ta tb) := by
  intro pins s σ H Q I h
  refine Call_ (ld_glob I hg hm (PyProof.Rows.callWith_type1 (args_cons (thn (ha.run pins s σ H _ I h) fun v s1 ⟨x, H1, I1, r1, q1⟩ => one_arg hb I1 q1 (fun u s2 y H2 I2 r2 q => ?_) nb) na) na hp))
  obtain ⟨l, n, r, rfl, rfl, hl, z1, z2, z3, q⟩ := q
  obtain ⟨t, rfl⟩ := r2
  cases r1
  obtain ⟨its, rv, pl, sz⟩ := I2.list hl
  have ln : its.length = n := by rw [← rv.length]; unfold rngV; rw [List.length_map, List.length_range]
  obtain ⟨o, no, g1, g2, g3, g4⟩ := pl
  refine call_co ⟨o, g1, g2, no, g4⟩ (by omega) (by omega) (by omega) fun h' p c a1 a2 a3 a4 a5 a6 => ?_
  have e : ¬ ((r : Int).toNat > its.length) := by simp; omega
  rw [if_neg e, Int.toNat_natCast] at a2
  exact ⟨c, p, its, n, r, s2.heap, H2, rfl, a5, a1, a2, rv, z1, z2, z3, fun b o e => ⟨a6 b o e, fun z => by rw [z] at e; exact Nat.lt_irrefl _ (Nat.lt_of_lt_of_le (Heap.lt_size e) a4)⟩, Nat.le_trans a4 (Nat.le_of_lt (Heap.lt_size a2)), I2, q⟩
def tLstCo (te : L2.St → Hp → (Nat → Nat → Hp → Prop) → Prop) : TE := fun σ H Q => te σ H fun n r H1 => ∀ (ls : List (Addr × Obj × List V)) (p : Addr), ls.map (·.2.2) = (combs n r).map (fun ks => ks.map fun (i : Nat) => V.int i) →
  FrT H1 ls → Nv.layT H1 ls p = none → Q (.ref p) (upd (Nv.layT H1 ls) p (.lst (ls.map fun x => V.ref x.1)))
theorem vals_pick {n : Nat} {vs : List Value} (h : Vals (rngV n) vs) : ∀ {ks : List Nat}, (∀ k ∈ ks, k < n) → Vals (ks.map fun (i : Nat) => V.int i) (pickV vs ks)
  | [], _ => .nil
  | k :: ks, hk => by
    refine .cons ?_ (vals_pick h fun x hx => hk x (List.mem_cons_of_mem _ hx))
    have lt := hk k List.mem_cons_self
    obtain ⟨u, e, r⟩ := h.get (i := k) (x := V.int k) (by unfold rngV; rw [List.getElem?_map, List.getElem?_range lt]; rfl)
    have : vs.toArray.getD k .none = u := by simp [Array.getD_eq_getD_getElem?, e]
    show RelV (V.int k) (vs.toArray.getD k .none)
    rw [this]
    exact r
theorem zipWith_fst {α β : Type} : ∀ {as : List α} {bs : List β}, as.length ≤ bs.length → List.zipWith (fun a _ => a) as bs = as
  | [], _, _ => by simp
  | a :: as, [], h => by simp at h
  | a :: as, b :: bs, h => by rw [List.zipWith_cons_cons, zipWith_fst (by simpa using h)]
theorem zipWith_snd {α β γ : Type} {f : β → γ} : ∀ {as : List α} {bs : List β}, bs.length ≤ as.length → List.zipWith (fun _ b => f b) as bs = bs.map f
  | _, [], _ => by simp
  | [], b :: bs, h => by simp at h
  | a :: as, b :: bs, h => by rw [List.zipWith_cons_cons, zipWith_snd (by simpa using h), List.map_cons]
theorem vals_refs : ∀ as : List Addr, Vals (as.map V.ref) (as.map Value.ref)
  | [] => .nil
  | a :: as => .cons rfl (vals_refs as)
theorem pe_lstCo {X : Cx} {e : Expr} {te : L2.St → Hp → (Nat → Nat → Hp → Prop) → Prop} {p pos : Pos} (hc : X.calm = true) (hg : Gl X "list") (hm : X.mg "list" = none) (he : PCo X e te) (na : starEach [e] X.env = (false, eval e X.env) :: starEach [] X.env := by rfl) : PE X (.Call (.Name "list" p) [e] [] pos) (tLstCo te) := by
  refine ⟨fun pins s σ H Q I h => ?_⟩
  refine Call_ (ld_blt I hg hm boot_list (PyProof.Rows.callWith_type1 (args_cons (thn (he pins s σ H _ I h) fun x s1 ⟨c, p, vs, n, r, h0, H1, ex, pc, hp, hcc, rv, z1, z2, z3, hk, hsz, I1, q⟩ => args_nil ?_) na) na))
  subst ex
  have K := combs_ok z2 z3 z1
  have ln : vs.length = n := by rw [← rv.length]; unfold rngV; rw [List.length_map, List.length_range]
  refine call_list_co (cs := combs n r) (I1.ok.hd hc) K.e0 K.l (fun ks hks => by rw [(K.lk ks hks).1]; omega) (by rw [ln]; exact K.ch) hcc hp pc fun h' as C el => ?_
  obtain ⟨cnt, hS⟩ := C.li
  have lsz : ∀ a ∈ as, h0.get? a = none := fun a m => by
    cases e : h0.get? a with
    | none => rfl
    | some o => exact absurd (Heap.lt_size (hk a o e).1) (Nat.not_lt.mpr (C.new a m).1)
  let ls : List (Addr × Obj × List V) := List.zipWith (fun a ks => (a, tpO (pickV vs ks), ks.map fun (i : Nat) => V.int i)) as (combs n r)
  have l1 : ls.map (·.1) = as := by
    show (List.zipWith _ as (combs n r)).map _ = as
    rw [List.map_zipWith]
    show List.zipWith (fun a _ => a) as (combs n r) = as
    rw [zipWith_fst (by omega)]
  have l2 : ls.map (·.2.2) = (combs n r).map (fun ks => ks.map fun (i : Nat) => V.int i) := by
    show (List.zipWith _ as (combs n r)).map _ = _
    rw [List.map_zipWith]
    show List.zipWith (fun _ ks => ks.map fun (i : Nat) => V.int i) as (combs n r) = _
    rw [zipWith_snd (by omega)]
  have l3 : ∀ x ∈ ls, h0.get? x.1 = none ∧ H1 x.1 = none ∧ x.2.1.dict = none ∧ ∃ us, h'.get? x.1 = some x.2.1 ∧ x.2.1 = tpO us ∧ Vals x.2.2 us ∧ x.2.2.length ≤ sizeLine := fun x hx => by
    obtain ⟨i, e⟩ := List.mem_iff_getElem?.mp hx
    have e : (List.zipWith (fun a ks => (a, tpO (pickV vs ks), ks.map fun (i : Nat) => V.int i)) as (combs n r))[i]? = some x := e
    rw [List.getElem?_zipWith] at e
    obtain ⟨a, ks, ea, ek, rfl⟩ : ∃ a ks, as[i]? = some a ∧ (combs n r)[i]? = some ks ∧ (a, tpO (pickV vs ks), ks.map fun (i : Nat) => V.int i) = x := by
      cases q1 : as[i]? with
      | none => rw [q1] at e; exact nomatch e
      | some a =>
        cases q2 : (combs n r)[i]? with
        | none => rw [q1, q2] at e; exact nomatch e
        | some ks => rw [q1, q2] at e; exact ⟨a, ks, rfl, rfl, Option.some.inj e⟩
    have ma := List.mem_of_getElem? ea
    have mk := List.mem_of_getElem? ek
    refine ⟨lsz a ma, I1.hok.fresh (Nat.le_trans hsz (C.new a ma).1), rfl, _, C.its i a ks ea ek, rfl, vals_pick rv (K.lk ks mk).2, ?_⟩
    rw [List.length_map, (K.lk ks mk).1, sizeLine_eq]
    omega
  have old : ∀ b o, h0.get? b = some o → h'.get? b = some o := fun b o e => C.old b o (Nat.ne_of_lt (Heap.lt_size (hk b o e).1)) (hk b o e).2 (hk b o e).1
  obtain ⟨g, g1, I2, fr, g2⟩ := Inv.layT (X := X) (s := s1) (h' := h') ls H1 h0 I1 old l3 (by rw [l1]; exact C.nd)
  have nS : s1.heap.objs.size ∉ ls.map (·.1) := by rw [l1]; exact fun m => (C.new _ m).2.1 rfl
  have h0S : h0.get? s1.heap.objs.size = none := by
    cases e : h0.get? s1.heap.objs.size with
    | none => rfl
    | some o => exact absurd (Heap.lt_size (hk _ o e).1) (Nat.lt_irrefl _)
  have H1S : Nv.layT H1 ls s1.heap.objs.size = none := by
    rw [layT_ne nS]
    exact I1.hok.fresh hsz
  obtain ⟨g3, p1, p2, p3, p4⟩ := grown g h' s1.heap.objs.size g1
  have I3 := L2.Inv.laidN (t' := s1.toks) (o := .lst (ls.map fun x => V.ref x.1)) I2 p1 (g2 _ nS h0S) H1S (show ObjOk X.prog X.w _ _ _ (.lst _) from ⟨?_, (as.map Value.ref), cnt, ?_, p2.trans hS⟩)
  · exact ⟨.ref s1.heap.objs.size, _, I3.kept (t' := s1.toks) p3, rfl, q ls _ l2 fr H1S⟩
  · rw [List.length_map, sizeLine_eq]
    have : ls.length = as.length := by rw [← l1, List.length_map]
    have := K.l
    omega
  · have : ls.map (fun x => V.ref x.1) = as.map V.ref := by rw [← l1, List.map_map]; rfl
    rw [this]
    exact vals_refs as
end Nv
namespace Nv
open PySem PySem.Spec PyProof.Rows L2
variable [Tb] [Ls]
/-- a row of numbers, as a tuple -/
def rowN (ks : List Nat) : D := .tup (ks.map fun (i : Nat) => D.int i)
def rngN (n : Nat) : List D := (List.range n).map fun (i : Nat) => D.int i
theorem rngN_rng {n : Nat} : rngD 0 n = rngN n := by
  unfold rngD rngN
  refine List.map_congr_left fun i _ => ?_
  rw [Int.zero_add]
theorem nats_atAll {G : Hp} : ∀ {vs : List V} {ks : List Nat}, AtAll G vs (ks.map fun (i : Nat) => D.int i) → vs = ks.map fun (i : Nat) => V.int i
  | _, [], .nil => rfl
  | _, z :: zs, .cons (.int _) t => by rw [List.map_cons, nats_atAll t]
theorem atAll_nats {G : Hp} : ∀ (ks : List Nat), AtAll G (ks.map fun (i : Nat) => V.int i) (ks.map fun (i : Nat) => D.int i)
  | [] => .nil
  | z :: zs => .cons (.int _) (atAll_nats zs)
theorem layT_step : ∀ (ls : List (Addr × Obj × List V)) (G H : Hp), Same G H → FrT H ls → Stp S0 G H (layT G ls) (layT H ls) ∧ Same (layT G ls) (layT H ls)
  | [], _, _, s, _ => ⟨.refl, s⟩
  | (a, o, xs) :: r, G, H, s, ⟨ha, hd, hr⟩ => by
    obtain ⟨p, q⟩ := layT_step r (upd G a (TpO o xs)) (upd H a (TpO o xs)) (upd_same2 s) hr
    exact ⟨(Stp.new s ha).trans p, q⟩
theorem layT_at : ∀ (ls : List (Addr × Obj × List V)) (kss : List (List Nat)) (G H : Hp), Same G H → FrT H ls → ls.map (·.2.2) = kss.map (fun ks => ks.map fun (i : Nat) => V.int i) → AtAll (layT G ls) (ls.map fun x => V.ref x.1) (kss.map rowN)
  | [], [], _, _, _, _, _ => .nil
  | [], _ :: _, _, _, _, _, e => nomatch e
  | _ :: _, [], _, _, _, _, e => nomatch e
  | (a, o, xs) :: r, ks :: kss, G, H, s, ⟨ha, hd, hr⟩, e => by
    rw [List.map_cons, List.map_cons] at e
    obtain ⟨e1, e2⟩ := List.cons.inj e
    have e1 : xs = ks.map fun (i : Nat) => V.int i := e1
    subst e1
    obtain ⟨p, q⟩ := layT_step r (upd G a (TpO o (ks.map fun (i : Nat) => V.int i))) (upd H a (TpO o (ks.map fun (i : Nat) => V.int i))) (upd_same2 s) hr
    exact .cons (.tup (.inl ⟨o, p.gs _ _ upd_same, hd⟩) (atAll_nats ks)) (layT_at r kss _ _ (upd_same2 s) hr e2)
section
variable {R : Rg} {δ : List Sl} {ta tb : TE} {φ : D → Prop} {K : PySem.W.Frag}
/-- list(combinations(xs, r)) -/
theorem wpe_lstCo (h : WpE R ta δ fun x => WpE R tb δ fun y => ∃ n r : Nat, x = .lst (rngN n) ∧ y = .int r ∧ r ≤ n ∧ n ≤ 7 ∧ r ≤ 4 ∧ φ (.lst ((combs n r).map rowN))) : WpE R (tLstCo (tCo2 K ta tb)) δ φ := fun σ G H en rz Q k =>
  h σ G H en rz _ fun v x G1 H1 s1 e1 a1 h1 => h1 σ G1 H1 e1 (rz.stepB (s1.toB en.old)) _ fun w y G2 H2 s2 e2 a2 ⟨n, r, ex, ey, z1, z2, z3, q⟩ => by
    subst ex
    subst ey
    have a1 := a1.same s2.gs
    obtain ⟨l, xs, rfl, hl, al⟩ := at_lst a1
    cases a2
    refine ⟨l, n, r, rfl, rfl, ?_, z1, z2, z3, fun ls p el fr hp => ?_⟩
    · have : xs = rngV n := nats_atAll al
      rw [← this]
      exact sqL_of e2.same hl
    · obtain ⟨s3, sm3⟩ := layT_step ls G2 H2 e2.same fr
      have at3 := layT_at ls _ G2 H2 e2.same fr el
      have s4 : Stp S0 (layT G2 ls) (layT H2 ls) (upd (layT G2 ls) p (.lst (ls.map fun x => V.ref x.1))) (upd (layT H2 ls) p (.lst (ls.map fun x => V.ref x.1))) := .new sm3 hp
      exact k _ _ _ _ ((s1.trans s2).trans (s3.trans s4).zero) (e2.step0 (s3.trans s4) (upd_same2 sm3)) (.lst upd_same (at3.same s4.gs)) q
end
end Nv
/-! Nv, part S5: methods that raise; several except clauses with one name. -/
namespace Nv
open PySem PySem.Spec PyProof.Rows L2
variable [Tb] [Ls]
/-- what a callee lets out goes out of the def -/
theorem passX {X : Cx} {E : XK} (tk : Takes X (fun cls d _ H => E cls d H)) : Passes (L2.CX X.prog X.w) X E := fun pins σ H s e s' I c => passAt tk σ pins H s e s' I c
section
variable {X : Cx} {CX : CXT} {k np : Nat} {f C : Addr} {fd : FuncData} {ps ks : List Str} {sp : Sp} {E : L2.St → XK} {m : Str} {pos apos : Pos} {o e : Expr} {es : List Expr} {kws : List Keyword} {ta : TE} {t tk : TA}
  {g : List Value → List Value → List Value} {gV : List V → List V → List V}
theorem run_keyS {pins : List (Addr × Obj)} {σ : L2.St} {H : Hp} {s : Shared} {Q : VK} {us ws : List Value} {vs zs : List V} (F : FnOk X.prog X.w X.K X.mg X.base CX k f fd ps sp) (hr : Room k X.A) (hb : KBn X.K fd ps np ks g gV) (hx : PassesAt CX X σ (E σ))
    (I : Inv X pins σ H s) (rv : Vals vs us) (rk : Vals zs ws) (lv : vs.length = np) (lk : zs.length = ks.length) (h : sp (gV vs zs) H Q (E σ)) : wpAny (model X.prog X.w) X.A (call (.ref f) us (ks.zip ws)) (EP X pins σ Q) X.xe s := by
  have to := hb.to s us ws I.kIn (rv.length.symm.trans lv) (rk.length.symm.trans lk)
  refine wpAny_call (codeAny_mono (F.run X.A X.stack s H _ (g us ws) (gV vs zs) Q (E σ) hr I.env0 to (hb.rel rv rk) h) fun r s' z => ?_)
  match r, z with
  | .error e, z => exact hx pins H s e s' I z
  | .ok (.ret u), z => exact I.after z
  | .ok .next, z => exact z.elim
  | .ok .brk, z => exact z.elim
  | .ok .cont, z => exact z.elim
/-- o.m(e, .., k = v, ..); what is raised is wished for at the slots -/
def tMethS (C : Addr) (m : Str) (np nk : Nat) (sp : Sp) (gV : List V → List V → List V) (E : L2.St → XK) (ta : TE) (t tk : TA) : TE := fun σ H Q => ta σ H fun x H1 => ∃ a dx fs, x = .ref a ∧ H1 a = some (.ins C dx fs) ∧
  fs.lookup m = none ∧ t σ H1 fun vs H2 => tk σ H2 fun zs H3 => vs.length + 1 = np ∧ zs.length = nk ∧ sp (gV (x :: vs) zs) H3 Q (E σ)
theorem pe_methPKS {pl : Sem Bool} (he : PE X o ta) (c : Cls X.K C) (hm : Meth X.K C m f) (F : FnOk X.prog X.w X.K X.mg X.base CX k f fd ps sp) (hr : Room k X.A)
    (hb : KBn X.K fd ps np ks g gV) (hx : ∀ σ, PassesAt CX X σ (E σ)) (ha : PA X (e :: es) t) (hkw : PK X kws tk) (hall : (backToKw pos (keywordEach kws X.env)).all (·.1.isSome) = true := by rfl)
    (hks : (backToKw pos (keywordEach kws X.env)).filterMap (·.1) = ks := by rfl) (hst : starEach (e :: es) X.env = (false, eval e X.env) :: starEach es X.env := by rfl)
    (hpl : ((backTo pos (starEach (e :: es) X.env)).any (·.1) || (backToKw pos (keywordEach kws X.env)).any (·.1.isNone)) = false := by rfl)
    (ht : eval (.Call (.Attribute o m apos) (e :: es) kws pos) X.env = (do
      let ov ← eval o X.env
      standAt apos.atName
      let (f, first) ← holding [ov] (getMethod ov m pl)
      callWith pos f first (backTo pos (starEach (e :: es) X.env)) (backToKw pos (keywordEach kws X.env))) := by rfl) :
    PE X (.Call (.Attribute o m apos) (e :: es) kws pos) (tMethS C m np ks.length sp gV E ta t tk) := by
  refine ⟨fun pins s σ H Q I h => ?_⟩
  refine PySem.W.methodCall_KW (pl := pl) (thn (he.run pins s σ H _ I h) fun u s1 ⟨x, H1, I1, rx, a, dx, fs, ex, ea, l, q⟩ => ?_) ht
  subst ex
  obtain rfl : u = Value.ref a := rx
  refine getmeth_ok I1 ea c hm l ?_
  refine PySem.W.callWith_KW (first := [.ref a]) (h₀ := X.base) I.ok.mod.kin hm.kp hall (thn (ha.run pos pins s1 σ H1 _ I1 q) fun us s2 ⟨vs, H2, I2, rv, q2⟩ => ?_) hpl hst
  refine thn (hkw.run pos pins s2 σ H2 _ I2 q2) fun ws s3 ⟨zs, H3, I3, rk, l1, l2, q3⟩ => ⟨I3.kIn, ?_⟩
  rw [hks]
  exact run_keyS (us := .ref a :: us) (vs := .ref a :: vs) F hr hb (hx σ) I3 (.cons rfl rv) rk l1 l2 q3
theorem pe_methKS {pl : Sem Bool} (he : PE X o ta) (c : Cls X.K C) (hm : Meth X.K C m f) (F : FnOk X.prog X.w X.K X.mg X.base CX k f fd ps sp) (hr : Room k X.A)
    (hb : KBn X.K fd ps np ks g gV) (hx : ∀ σ, PassesAt CX X σ (E σ)) (hkw : PK X kws tk) (hall : (backToKw pos (keywordEach kws X.env)).all (·.1.isSome) = true := by rfl)
    (hks : (backToKw pos (keywordEach kws X.env)).filterMap (·.1) = ks := by rfl)
    (hpl : ((backTo pos (starEach [] X.env)).any (·.1) || (backToKw pos (keywordEach kws X.env)).any (·.1.isNone)) = false := by rfl)
    (ht : eval (.Call (.Attribute o m apos) [] kws pos) X.env = (do
      let ov ← eval o X.env
      standAt apos.atName
      let (f, first) ← holding [ov] (getMethod ov m pl)
      callWith pos f first (backTo pos (starEach [] X.env)) (backToKw pos (keywordEach kws X.env))) := by rfl) :
    PE X (.Call (.Attribute o m apos) [] kws pos) (tMethS C m np ks.length sp gV E ta tNil tk) := by
  refine ⟨fun pins s σ H Q I h => ?_⟩
  refine PySem.W.methodCall_KW (pl := pl) (thn (he.run pins s σ H _ I h) fun u s1 ⟨x, H1, I1, rx, a, dx, fs, ex, ea, l, q⟩ => ?_) ht
  subst ex
  obtain rfl : u = Value.ref a := rx
  refine getmeth_ok I1 ea c hm l ?_
  refine PySem.W.callWith_KW0 (first := [.ref a]) (h₀ := X.base) I.ok.mod.kin hm.kp hall ?_ hpl
  refine thn (hkw.run pos pins s1 σ H1 _ I1 q) fun ws s3 ⟨zs, H3, I3, rk, l1, l2, q3⟩ => ⟨I3.kIn, ?_⟩
  rw [hks]
  exact run_keyS (us := [.ref a]) (vs := [.ref a]) F hr hb (hx σ) I3 (.cons rfl .nil) rk l1 l2 q3
end
/-- a method that is called with np values by place (self among them), the others by keyword -/
structure Dmkn (P : Program) (w : World) (K : PySem.W.Frag) (mg : Str → Option Value) (base : Heap) (C : Addr) (m : Str) (CX : CXT) (k : Nat) (ps : List Str) (np : Nat) (ks : List Str) (ix : List Nat) (sp : Sp) : Prop where
  ex : ∃ f fd g, FnOk P w K mg base CX k f fd ps sp ∧ Meth K C m f ∧ KBn K fd ps np ks g (gKw ix)
theorem DmX.kwn {f : Addr} {fd : FuncData} {P : Program} {w : World} {K : PySem.W.Frag} {mg : Str → Option Value} {base : Heap} {C : Addr} {m : Str} {CX : CXT} {k np : Nat} {ps ks : List Str} {ix : List Nat} {g : List Value → List Value → List Value} {sp : Sp} (d : DmX f fd P w K mg base C m CX k ps sp) (b : KBn K fd ps np ks g (gKw ix)) :
    Dmkn P w K mg base C m CX k ps np ks ix sp := ⟨f, fd, g, d.ok, d.h, b⟩
section
variable {X : Cx} {CX : CXT} {k np : Nat} {C : Addr} {m : Str} {ps ks : List Str} {ix : List Nat} {sp : Sp} {E : L2.St → XK} {pos apos : Pos} {o e : Expr} {es : List Expr} {kws : List Keyword} {t tk : TA} {ta : TE}
theorem pe_methDkS {pl : Sem Bool} (he : PE X o ta) (c : Cls X.K C) (F : Dmkn X.prog X.w X.K X.mg X.base C m CX k ps np ks ix sp) (hr : Room k X.A) (hx : ∀ σ, PassesAt CX X σ (E σ)) (hkw : PK X kws tk)
    (hall : (backToKw pos (keywordEach kws X.env)).all (·.1.isSome) = true := by rfl) (hks : (backToKw pos (keywordEach kws X.env)).filterMap (·.1) = ks := by rfl)
    (hpl : ((backTo pos (starEach [] X.env)).any (·.1) || (backToKw pos (keywordEach kws X.env)).any (·.1.isNone)) = false := by rfl)
    (ht : eval (.Call (.Attribute o m apos) [] kws pos) X.env = (do
      let ov ← eval o X.env
      standAt apos.atName
      let (f, first) ← holding [ov] (getMethod ov m pl)
      callWith pos f first (backTo pos (starEach [] X.env)) (backToKw pos (keywordEach kws X.env))) := by rfl) :
    PE X (.Call (.Attribute o m apos) [] kws pos) (tMethS C m np ks.length sp (gKw ix) E ta tNil tk) := by
  obtain ⟨f, fd, g, h1, h2, h3⟩ := F.ex
  exact pe_methKS he c h2 h1 hr h3 hx hkw hall hks hpl ht
theorem pe_methDpkS {pl : Sem Bool} (he : PE X o ta) (c : Cls X.K C) (F : Dmkn X.prog X.w X.K X.mg X.base C m CX k ps np ks ix sp) (hr : Room k X.A) (hx : ∀ σ, PassesAt CX X σ (E σ)) (ha : PA X (e :: es) t) (hkw : PK X kws tk)
    (hall : (backToKw pos (keywordEach kws X.env)).all (·.1.isSome) = true := by rfl) (hks : (backToKw pos (keywordEach kws X.env)).filterMap (·.1) = ks := by rfl) (hst : starEach (e :: es) X.env = (false, eval e X.env) :: starEach es X.env := by rfl)
    (hpl : ((backTo pos (starEach (e :: es) X.env)).any (·.1) || (backToKw pos (keywordEach kws X.env)).any (·.1.isNone)) = false := by rfl)
    (ht : eval (.Call (.Attribute o m apos) (e :: es) kws pos) X.env = (do
      let ov ← eval o X.env
      standAt apos.atName
      let (f, first) ← holding [ov] (getMethod ov m pl)
      callWith pos f first (backTo pos (starEach (e :: es) X.env)) (backToKw pos (keywordEach kws X.env))) := by rfl) :
    PE X (.Call (.Attribute o m apos) (e :: es) kws pos) (tMethS C m np ks.length sp (gKw ix) E ta t tk) := by
  obtain ⟨f, fd, g, h1, h2, h3⟩ := F.ex
  exact pe_methPKS he c h2 h1 hr h3 hx ha hkw hall hks hst hpl ht
end
/-- as WpE, at these slots -/
def WpE1 (R : Rg) (te : TE) (δ : List Sl) (φ : D → Prop) (σ : L2.St) : Prop := ∀ G H, Ens R.T G H δ σ → Rz R G H → ∀ Q : VK,
  (∀ v d G' H', Stp R.T.S G H G' H' → Ens R.T G' H' δ σ → At G' v d → φ d → Q v H') → te σ H Q
theorem WpE.at1 {R : Rg} {te : TE} {δ : List Sl} {φ : D → Prop} (h : WpE R te δ φ) (σ : L2.St) : WpE1 R te δ φ σ := fun G H => h σ G H
theorem Args.app {S : Addr → Prop} {G : Hp} : ∀ {as bs : List Sl} {vs ws : List V}, Args S G as vs → Args S G bs ws → Args S G (as ++ bs) (vs ++ ws)
  | _, _, _, _, .nil, t => t
  | _, _, _, _, .cons a b, t => .cons a (Args.app b t)
section
variable {R : Rg} {δ : List Sl} {te ta tb tc : TE} {t tr : TA} {φ : D → Prop} {K : PySem.W.Frag}
theorem wpe_methS {c : Spc} {n np nk : Nat} {ix : List Nat} {E : L2.St → XK} {σ : L2.St} {C : Addr} {ns : List Str} {m : Str} (hE : R.E = E σ) (hm : ∀ y ∈ ns, (m == y) = false)
    (h : WpE R ta δ fun x => (∃ ds, x = .ins C ns ds) ∧ WpA R t δ fun as => WpA R tr δ fun bs => as.length + 1 = np ∧ bs.length = nk ∧ (as ++ pick ix bs).length + 1 = n ∧ c.pre (.da x :: (as ++ pick ix bs)) ∧ (∀ d, c.post (.da x :: (as ++ pick ix bs)) d → φ d) ∧ ∀ C d, c.err (.da x :: (as ++ pick ix bs)) C d → R.X C d) :
    WpE1 R (tMethS C m np nk (spW c n) (gKw ix) E ta t tr) δ φ σ := fun G H en rz Q k =>
  h σ G H en rz _ fun v x G1 H1 s1 e1 a1 ⟨⟨ds, ex⟩, h2⟩ => by
    subst ex
    have a1' := a1
    generalize hns : ns = ns' at a1
    cases a1 with
    | @ins p _ dx fs _ hp al =>
      refine ⟨p, dx, fs, rfl, e1.same _ _ hp, look_none (by rw [← hns]; exact hm), ?_⟩
      refine h2 σ G1 H1 e1 (rz.stepB (s1.toB en.old)) _ fun vs as G2 H2 s2 e2 a2 h3 => ?_
      refine h3 σ G2 H2 e2 ((rz.stepB (s1.toB en.old)).stepB (s2.toB e1.old)) _ fun zs bs G3 H3 s3 e3 a3 ⟨l1, l2, l, pr, q, r⟩ => ⟨by rw [← a2.length]; exact l1, by rw [← a3.length]; exact l2, ?_⟩
      have st := (s1.trans s2).trans s3
      show spW c n (.ref p :: (vs ++ pick ix zs)) H3 Q (E σ)
      rw [← hE]
      exact ⟨R.T.S, G3, _, by rw [List.length_cons]; exact l, e3.same, e3.stt, .cons (show ArgR R.T.S G3 (.da (.ins C ns ds)) (.ref p) from (a1'.same s2.gs).same s3.gs) ((a2.same s3.gs).app (a3.pick ix)), pr,
        fun v d G' H' st' sm so a pq => k v d G' H' (st.trans st') (e3.step st' (fun _ z => z) sm so) a (q d pq),
        fun C dd w d G' H' st' hx a x sm so => rz C dd w d G' H' ((st.toB en.old).trans (st'.toB e3.old)) hx a (r C d x) sm so⟩
/-- o.m(e, ..), what it raises goes out -/
theorem wpe_methX {c : Spc} {n : Nat} {C : Addr} {ns : List Str} {m : Str} (hm : ∀ y ∈ ns, (m == y) = false)
    (h : WpE R ta δ fun x => (∃ ds, x = .ins C ns ds) ∧ WpA R tr δ fun as => as.length + 1 = n ∧ c.pre (.da x :: as) ∧ (∀ d, c.post (.da x :: as) d → φ d) ∧ ∀ C d, c.err (.da x :: as) C d → R.X C d) :
    WpE R (tMeth C m (spW c n) [] R.E ta tr) δ φ := fun σ G H en rz Q k =>
  h σ G H en rz _ fun v x G1 H1 s1 e1 a1 ⟨⟨ds, ex⟩, h2⟩ => by
    subst ex
    have a1' := a1
    generalize hns : ns = ns' at a1
    cases a1 with
    | @ins p _ dx fs _ hp al =>
      refine ⟨p, dx, fs, rfl, e1.same _ _ hp, look_none (by rw [← hns]; exact hm), ?_⟩
      refine h2 σ G1 H1 e1 (rz.stepB (s1.toB en.old)) _ fun vs as G2 H2 s2 e2 a2 ⟨l, pr, q, r⟩ => ?_
      show spW c n (.ref p :: (vs ++ [])) H2 Q R.E
      rw [List.append_nil]
      exact ⟨R.T.S, G2, _, by rw [List.length_cons]; exact l, e2.same, e2.stt, .cons (show ArgR R.T.S G2 (.da (.ins C ns ds)) (.ref p) from a1'.same s2.gs) a2, pr, fun v d G' H' st sm so a pq => k v d G' H' ((s1.trans s2).trans st) (e2.step st (fun _ z => z) sm so) a (q d pq),
        fun C dd w d G' H' st hx a x sm so => rz C dd w d G' H' (((s1.trans s2).toB en.old).trans (st.toB e2.old)) hx a (r C d x) sm so⟩
/-- raise X(i), the slot's value as its what -/
theorem wps_raiseV {i : Nat} {d : D} {Φ : List Sl → Prop} {Ψ : D → Prop} {mg : Str → Option Value} {C fE : Addr} {x : Str} (T : ExC K mg x C fE) (e : δ[i]? = some (.da d)) (h : R.X C d) :
    WpS R (fun _ σ H => tMkO C (spExI K) [] (tCons (tVar i) tNil) σ H fun cls d H' => R.E cls d H') δ Φ Ψ := fun σ G H en rz Z k1 k2 => by
  obtain ⟨o, e1, v, rfl, a⟩ := en.get i _ e
  refine mk_err T (te := tVar i) ⟨v, e1, fun dd hd => ?_⟩ (fun f q => q.imp fun v z => ⟨z.1, f _ _ z.2⟩)
  have e2 := en.grow (same_upd (o := .xd (whatF v)) hd)
  exact rz C dd v d G _ ((Stp.grow (same_upd hd)).toB en.old) upd_same a h e2.same e2.stt
end
section
variable {P : Program} {w : World} {K : PySem.W.Frag} {mg : Str → Option Value} {base : Heap}
/-- a method that may raise -/
theorem Mn.okX {x qual : Str} {C : Addr} {st : Stmt} {N ps : List Str} {f : Addr} {fd : FuncData} {n k : Nat} {c : Spc} (F : Mn K C x qual st ps f fd) (S : FnScope N ps (defScope st)) (hn : ps.length = n)
    (h : ∀ (cdv : Value) (A : Around) (outer : List Env) (s : Shared) (H : Hp) (E : XK) (as : List Sl), Room k (A.deeper (envOfC qual (defScope st) s.heap.objs.size f cdv)) → c.pre as → as.length = n →
      ∃ t, PSs (cxOf (L2.CX P w) P w K mg base N qual (defScope st) f cdv A outer s H E) (defBody st) t ∧
        ∀ T : Tr, WpS ⟨E, c.err as, T⟩ t (as ++ List.replicate (N.length - n) .no) (fun _ => c.post as .non) (c.post as)) :
    DmX f fd P w K mg base C x (L2.CX P w) (k + 1) ps (spW c n) := by
  refine ⟨F.F.okX S (fun vs H Q E h => ?_) (fun cdv A outer s H vs Q E hr q => ?_), F.h, F.b⟩
  · obtain ⟨S, G, as, l, _, _, ar, _⟩ := h
    rw [← ar.length, l, hn]
  · obtain ⟨S, G, as, l, sm, so, ar, p, k, r⟩ := q
    obtain ⟨t, h1, h2⟩ := h cdv A outer s H E as hr p l
    exact ⟨t, h1, wps_run l sm so ar k r h2⟩
end
end Nv
/-! Nv, part T8: a try with several clauses `except X as n`, all of one name n. -/
namespace Nv
open PySem PySem.Spec PyProof.Rows L2
variable [Tb] [Ls]
/-- the slot of the clause's name is empty behind the suite -/
def clrE (i : Nat) (D : Ends) : Ends :=
  ⟨fun τ L => D.nx (τ.set i none) L, D.rt, fun τ L => D.bk (τ.set i none) L, fun τ L => D.ct (τ.set i none) L⟩
abbrev Suite9 : Type := Addr → Value → Option Addr → TS
/-- what the clauses wish, one behind another; slot i is the name's -/
def wNamed (K : PySem.W.Frag) (i : Nat) (Wo : WX) (D : Ends) : List (Value × Suite9) → WX
  | [] => Wo
  | q :: rest => fun cls d τ L => ∃ hit, PySem.W.exmOne K cls q.1 = some hit ∧
      (hit = true → ∀ z, L z = none → q.2 z cls d (clrE i D) (τ.set i (some (.ref z))) L) ∧ (hit = false → wNamed K i Wo D rest cls d τ L)
/-- try: tb except .. as n: .. -/
def tTryN (K : PySem.W.Frag) (i : Nat) (Wo : WX) (qs : List (Value × Suite9)) (tb : WX → TS) : TS := fun D τ L => tb (wNamed K i Wo D qs) D τ L
inductive Named (X : Cx) (n : Str) : List ExceptHandler → List (Value × Suite9) → Prop
  | none : Named X n [] []
  | more {y : Str} {k : Value} {u : Suite9} {s0 : Stmt} {ss : List Stmt} {p1 p2 : Pos} {hs : List ExceptHandler} {qs : List (Value × Suite9)} (nm : Names X y k)
      (su : ∀ (z : Addr) (o : Obj) (cls : Value) (d : Option Addr) (pn : List (Addr × Obj)), Zc cls d o → (∃ fs, o.data = .fields fs) → PSs (X.suite z ((z, o) :: pn)) (s0 :: ss) (u z cls d))
      (rest : Named X n hs qs) : Named X n (.ExceptHandler (some (.Name y p1)) (some n) (s0 :: ss) p2 :: hs) ((k, u) :: qs)
section
variable {X : Cx} {n : Str} {i : Nat} {ss : List Stmt} {c0 : ExceptHandler} {cs : List ExceptHandler} {qs : List (Value × Suite9)} {at9 : Pos} {tb : WX → TS} {Wo : WX}
theorem ps_try_named (st : X.stack = X.env :: X.outer) (fr : X.env.frame = some X.env.locals) (nd : X.N.Nodup) (ix : X.N[i]? = some n) (lc : X.env.kindOf n = some .local) (tk : Takes X Wo)
    (bd : ∀ (W : WX) (pn : List (Addr × Obj)) (xe : Value → Shared → Prop), Takes (X.tr pn xe) W → PassesOwn (model X.prog X.w) X.A X.env xe → PSs (X.tr pn xe) ss (tb W))
    (hd : Named X n (c0 :: cs) qs) : PS X (.Try ss (c0 :: cs) [] [] at9) (tTryN X.K i Wo qs tb) := by
  refine ⟨fun pins s0 σ0 H0 D I0 h0 => ?_⟩
  have h0 : tb (wNamed X.K i Wo D qs) D σ0 H0 := h0
  have ok9 := I0.ok
  have frm : X.A.frames = some (X.env :: X.outer) := ok9.frames.trans (congrArg some st)
  have lo9 : Loc X.env.scope n := .inl lc
  have run0 := (bd (wNamed X.K i Wo D qs) (X.pn ++ pins) (fun e t1 => wpAny (model X.prog X.w) X.A (noteFrame e X.env)
    (fun _ t2 => wpAny (model X.prog X.w) X.A (setFlight e none) (fun _ t3 => wpAny (model X.prog X.w) X.A (handleBy e X.env (c0 :: cs)) (SP X pins D) X.xe t3) X.xe t2) X.xe t1)
    (fun u t xx => by
      obtain ⟨z, B, sJ, pins9, σ, H, cls, d, rfl, J9, nb, up, sk, zn, os, ag, want⟩ := xx
      have J0 : Inv X pins σ H sJ := J9.ofTry ok9
      have sk2 : Sky B (X.env :: X.outer) z (Zc cls d) X.env.locals t.heap := st ▸ sk
      show wpAny (model X.prog X.w) X.A (noteFrame (.ref z) X.env) _ _ _
      refine Sky.land Zc.steady frm fr sk2 fun hp fly up9 => ?_
      have J1 : Inv X pins σ H { t with heap := hp } := J0.landed nb fly.1 (up.trans up9) os ag
      obtain ⟨o9, vs9, g9, z9, d9⟩ := fly.there
      have far : z ∉ frs (X.env :: X.outer) := fun m => by
        obtain ⟨_, o8, g8, nf⟩ := fly.2.2.1.mem m
        rw [g9] at g8
        cases g8
        exact nf _ d9
      have far1 : z ≠ X.env.locals := fun q => far (List.mem_filterMap.mpr ⟨X.env, List.mem_cons_self, fr.trans (congrArg some q.symm)⟩)
      have far2 : z ∉ X.fs := fun m => by
        obtain ⟨e, m1, m2⟩ := List.mem_filterMap.mp m
        exact far (List.mem_filterMap.mpr ⟨e, List.mem_cons_of_mem _ m1, m2⟩)
      have S1 := J1.suite g9 d9 zn far1 far2
      suffices all : ∀ {cs9 : List ExceptHandler} {qs9 : List (Value × Suite9)}, Named X n cs9 qs9 → wNamed X.K i Wo D qs9 cls d σ H →
          wpAny (model X.prog X.w) X.A (handleBy (.ref z) X.env cs9) (SP X pins D) X.xe { t with heap := hp } from all hd want
      intro cs9 qs9 nd9
      induction nd9 with
      | none =>
        intro out
        refine wpAny_handleBy_nil ?_
        obtain ⟨_, _, _, o7, vs7, T7, oT, ts7, g7, z7, d7, e7, _⟩ := id fly
        unfold PySem.passOn
        refine wpAny_bind (wpAny_field g7 d7 e7 ?_)
        rw [if_neg (show ¬ ((Value.ref T7 == Value.none) = true) by simp)]
        have last : wpAny (model X.prog X.w) X.A (setFlight (.ref z) X.env.frame)
            (fun _ t4 => wpAny (model X.prog X.w) X.A (throw (.ref z) : Sem Flow) (SP X pins D) X.xe t4) X.xe { t with heap := hp } := by
          rw [fr]
          exact HandSPX.setFlight_upZ fly fun h4 on up4 => wpAny_throw (tk _ _
            ⟨z, B, sJ, pins, σ, H, cls, d, rfl, J0, nb, (up.trans up9).trans up4, .inr (.inr (st.symm ▸ on)), zn, os, ag, out⟩)
        first
          | exact wpAny_bind (wpAny_pure (wpAny_bind last))
          | exact wpAny_bind last
      | @more y k u s0' ss9 p1 p2 hs9 qs8 nm su rest ih =>
        rintro ⟨hit, eh, yes, no⟩
        refine wpAny_handleBy_cons (codeAny_handlers_test ?_) (by intro q; cases q)
        have ty9 : PySem.W.Looks (model X.prog X.w) hp (typeOf (.ref z)) cls := fun A Q E t' kk q => wpAny_typeOf_ref (kk _ _ g9) (by rw [z9.1]; exact q)
        have exm9 := PySem.W.exm_one (M := model X.prog X.w) (J1.kIn) ty9 eh
        have name9 : ∀ {Q : Value → Shared → Prop} {E : Value → Shared → Prop}, Q k { t with heap := hp } →
            wpAny (model X.prog X.w) (X.A.mark (some (.ref z))) (eval (.Name y p1) X.env) Q E { t with heap := hp } := fun {Q E} q => by
          obtain ⟨g1, g2, g3 | ⟨g3, g4, g5⟩⟩ := nm
          · exact ld_glob (X := X.suite z ((z, o9) :: (X.pn ++ pins))) S1 g1 g3 q g2
          · exact ld_blt (X := X.suite z ((z, o9) :: (X.pn ++ pins))) S1 g1 g3 g4 q g5 g2
        refine name9 (exm9.here ?_)
        match hit with
        | false => exact (show wpAny (model X.prog X.w) X.A (handleBy (.ref z) X.env hs9) _ _ _ from ih (no rfl))
        | true =>
          refine codeAny_handlers_suite_as (HandSPX.lands_againZ fly fun h5 fly5 up5 => ?_)
          have J5 : Inv X pins σ H { t with heap := h5 } := J0.landed nb fly5.1 ((up.trans up9).trans up5) os ag
          obtain ⟨o5, vs5, g5, z5, d5⟩ := fly5.there
          have S5 := J5.suite g5 d5 zn far1 far2
          refine store_ok (X := X.suite z ((z, o5) :: (X.pn ++ pins))) (v := .ref z) S5 nd ix lo9 rfl (fun t6 S6 => ?_) (.inr lc)
          refine wpAny_mono ((su z o5 cls d (X.pn ++ pins) z5 ⟨_, d5⟩).run [] t6 _ H _ S6 (yes rfl z zn)) (fun fl t7 sp7 => ?_) (fun _ _ f => f.elim)
          match fl, sp7 with
          | .next, ⟨σ7, H7, S7, q7⟩ => exact gone_ok (S7.unsuite ok9) nd ix lc fun t8 J8 => ⟨_, _, J8, q7⟩
          | .brk, ⟨σ7, H7, S7, q7⟩ => exact gone_ok (S7.unsuite ok9) nd ix lc fun t8 J8 => ⟨_, _, J8, q7⟩
          | .cont, ⟨σ7, H7, S7, q7⟩ => exact gone_ok (S7.unsuite ok9) nd ix lc fun t8 J8 => ⟨_, _, J8, q7⟩
          | .ret _, ⟨v7, σ7, H7, S7, r7, q7⟩ => exact gone_ok (S7.unsuite ok9) nd ix lc fun t8 J8 => ⟨_, _, _, J8, r7, q7⟩)
    PassesOwn.looking).run [] s0 σ0 H0 D (I0.toTry _) h0
  refine wpAny_Try_except (wpAny_mono run0 (fun fl t1 sp1 => ?_) (fun _ _ he => he))
  match fl, sp1 with
  | .next, ⟨σ1, H1, J1, q1⟩ => exact wpAny_execs_nil ⟨σ1, H1, J1.ofTry ok9, q1⟩
  | .brk, ⟨σ1, H1, J1, q1⟩ => exact ⟨σ1, H1, J1.ofTry ok9, q1⟩
  | .cont, ⟨σ1, H1, J1, q1⟩ => exact ⟨σ1, H1, J1.ofTry ok9, q1⟩
  | .ret _, ⟨v1, σ1, H1, J1, r1, q1⟩ => exact ⟨v1, σ1, H1, J1.ofTry ok9, r1, q1⟩
end
end Nv
/-! Nv, part T9: statements at fixed slots; a try with several clauses, read over data. -/
namespace Nv
open PySem PySem.Spec PyProof.Rows L2
variable [Tb] [Ls]
/-- as WpS, at these slots -/
def WpS1 (R : Rg) (ts : TS) (δ : List Sl) (Φ : List Sl → Prop) (Ψ : D → Prop) (σ : L2.St) : Prop := ∀ G H, Ens R.T G H δ σ → Rz R G H → ∀ Z : Ends,
  (∀ δ' σ' G' H', StB R.T.O R.T.S G H G' H' → Ens R.T G' H' δ' σ' → Φ δ' → Z.nx σ' H') →
  (∀ v d G' H', StB R.T.O R.T.S G H G' H' → Same G' H' → StO R.T.S G' H' → At G' v d → Ψ d → Z.rt v H') → ts Z σ H
section
variable {R : Rg} {δ : List Sl} {Φ : List Sl → Prop} {Ψ : D → Prop} {σ : L2.St}
theorem wps1_if {c : TT} {t u : TS} (h : WpT R c δ fun b => if b = true then WpS1 R t δ Φ Ψ σ else WpS1 R u δ Φ Ψ σ) : WpS1 R (tIfS c t u) δ Φ Ψ σ := fun G H en rz Z k1 k2 =>
  h σ G H en rz _ fun b G1 H1 s1 e1 q => by
    have sB := s1.toB en.old
    have go : ∀ {v : TS}, WpS1 R v δ Φ Ψ σ → v Z σ H1 := fun {v} q => q G1 H1 e1 (rz.stepB sB) Z (fun δ2 σ2 G2 H2 s2 => k1 δ2 σ2 G2 H2 (sB.trans s2)) fun y d G2 H2 s2 => k2 y d G2 H2 (sB.trans s2)
    cases b with
    | true => exact iteT (go (show WpS1 R t δ Φ Ψ σ from q))
    | false => exact iteF (go (show WpS1 R u δ Φ Ψ σ from q))
theorem wps1_set {i : Nat} {te : TE} (h : WpE1 R te δ (fun d => Φ (δ.set i (.da d))) σ) : WpS1 R (tAsg te (gName i)) δ Φ Ψ σ := fun G H en rz Z k1 _ =>
  h G H en rz _ fun v d G1 H1 s1 e1 a q => k1 _ _ G1 H1 (s1.toB en.old) (e1.setD a) q
end
/-! ### slots that hold on -/
def plainS : Sl → Bool
  | .no => true
  | .fx _ => true
  | .da _ => true
  | _ => false
theorem Ens.byB {T : Tr} {G H G' H' : Hp} {δ : List Sl} {σ : L2.St} (en : Ens T G H δ σ) (p : δ.all plainS = true) (sB : StB T.O T.S G H G' H') (sm : Same G' H') (so : StO T.S G' H') : Ens T G' H' δ σ := by
  refine ⟨sm, en.len, fun i s e => ?_, so, fun b q => sB.al b (en.old b q), fun b u q => ?_, en.nd, en.nd2⟩
  · obtain ⟨o, e1, r⟩ := en.get i s e
    refine ⟨o, e1, ?_⟩
    have ps := List.all_eq_true.mp p s (List.mem_of_getElem? e)
    cases s with
    | no => trivial
    | fx _ => exact r
    | da _ =>
      obtain ⟨v, e2, a⟩ := r
      exact ⟨v, e2, a.same sB.gs⟩
    | st _ => exact Bool.noConfusion (show false = true from ps)
    | ow _ _ => exact Bool.noConfusion (show false = true from ps)
    | od _ _ => exact Bool.noConfusion (show false = true from ps)
    | fz _ _ => exact Bool.noConfusion (show false = true from ps)
  · obtain ⟨h1, h2, h3⟩ := en.inv b u q
    exact ⟨sB.hs b u h3 h1 h2, h2, h3⟩
theorem Ens.free {T : Tr} {G H : Hp} {δ : List Sl} {σ : L2.St} (en : Ens T G H δ σ) {i : Nat} (e0 : δ[i]? = some .no) (o : Option V) : Ens T G H δ (σ.set i o) := by
  refine ⟨en.same, by rw [List.length_set]; exact en.len, fun j s e => ?_, en.stt, en.old, en.inv, en.nd, en.nd2⟩
  obtain ⟨o', e1, r⟩ := en.get j s e
  by_cases h : i = j
  · subst h
    rw [e0] at e
    obtain rfl := Option.some.inj e
    exact ⟨o, List.getElem?_set_self (List.getElem?_eq_some_iff.mp e1).1, trivial⟩
  · exact ⟨o', by rw [List.getElem?_set_ne h]; exact e1, r⟩
/-! ### clauses -/
/-- the clause that takes it -/
def hitN (K : PySem.W.Frag) (cls : Value) : List (Value × Suite9) → Suite9 → Prop
  | [], _ => False
  | q :: rest, u => (PySem.W.exmOne K cls q.1 = some true ∧ q.2 = u) ∨ (PySem.W.exmOne K cls q.1 = some false ∧ hitN K cls rest u)
theorem hit_want {K : PySem.W.Frag} {i : Nat} {Wo : WX} {D : Ends} {cls : Value} {d : Option Addr} {τ : L2.St} {L : Hp} {u : Suite9} : ∀ {qs : List (Value × Suite9)}, hitN K cls qs u → (∀ z, L z = none → u z cls d (clrE i D) (τ.set i (some (.ref z))) L) → wNamed K i Wo D qs cls d τ L
  | [], h, _ => h.elim
  | q :: qs, h, k => by
    rcases h with ⟨h1, rfl⟩ | ⟨h1, h2⟩
    · exact ⟨true, h1, fun _ => k, fun z => nomatch z⟩
    · exact ⟨false, h1, (fun z => nomatch z), fun _ => hit_want h2 k⟩
abbrev R0 (T : Tr) : Rg := ⟨fun _ _ _ => True, fun _ _ => False, T⟩
/-- an expression of a clause's suite, slot i the exception C with what d -/
def WpX (T : Tr) (i : Nat) (te : Addr → Value → Option Addr → TE) (δ : List Sl) (C : Addr) (d : D) (φ : D → Prop) : Prop := ∀ z dd w τ G H, τ[i]? = some (some (.ref z)) → Ens T G H δ τ → H dd = some (.xd (whatF w)) → At G w d → ∀ Q : VK,
  (∀ v y G' H', Stp T.S G H G' H' → Ens T G' H' δ τ → At G' v y → φ y → Q v H') → te z (.ref C) (some dd) τ H Q
section
variable {T : Tr} {i : Nat} {δ : List Sl} {C : Addr} {d : D} {φ : D → Prop}
theorem what_look {v : V} : (whatF v).lookup ("what" : Str) = some v := by
  unfold whatF
  simp [List.lookup]
theorem wpx_what (q : φ d) : WpX T i (fun z cls dd => tXf z cls dd C "what" (tVar i)) δ C d φ := fun z dd w τ G H e en hd a Q k =>
  ⟨_, e, rfl, rfl, dd, _, w, rfl, hd, what_look, k w d G H .refl en a q⟩
/-- ta if e.what .. t2 else tb -/
theorem wpx_if {r : R2} {t2 ta tb : TE} (h : WpE (R0 T) t2 δ fun y => OpD r d y fun b => ∃ k, b = .bl k ∧ (if k = true then WpE (R0 T) ta δ φ else WpE (R0 T) tb δ φ)) :
    WpX T i (fun z cls dd => tIf (tTest (tOp r (tXf z cls dd C "what" (tVar i)) t2)) ta tb) δ C d φ := fun z dd w τ G H e en hd a Q k => by
  refine ⟨_, e, rfl, rfl, dd, _, w, rfl, hd, what_look, h τ G H en rz0 _ fun v2 y G1 H1 s1 e1 a1 hop => ?_⟩
  refine hop G1 H1 w v2 e1.same (a.same s1.gs) a1 _ fun vb b G2 H2 s2 sm2 ab ⟨k', ek, q⟩ => ?_
  subst ek
  cases ab
  have e2 := e1.step0 s2 sm2
  have st := s1.trans s2.zero
  cases k' with
  | true => exact ⟨_, rfl, (show WpE (R0 T) ta δ φ from q) τ G2 H2 e2 rz0 Q fun v y G3 H3 s3 => k v y G3 H3 (st.trans s3)⟩
  | false => exact ⟨_, rfl, (show WpE (R0 T) tb δ φ from q) τ G2 H2 e2 rz0 Q fun v y G3 H3 s3 => k v y G3 H3 (st.trans s3)⟩
/-- name = .. in a suite -/
def SuS (T : Tr) (i : Nat) (u : Suite9) (δ : List Sl) (C : Addr) (d : D) (Φ : List Sl → Prop) : Prop := ∀ z dd w σ G H, H z = none → Ens T G H δ σ → H dd = some (.xd (whatF w)) → At G w d → ∀ Z : Ends,
  (∀ δ' σ' G' H', StB T.O T.S G H G' H' → Ens T G' H' δ' σ' → Φ δ' → Z.nx σ' H') → u z (.ref C) (some dd) (clrE i Z) (σ.set i (some (.ref z))) H
theorem sus_set {j : Nat} {te : Addr → Value → Option Addr → TE} {Φ : List Sl → Prop} (hi : δ[i]? = some .no) (ne : i ≠ j) (h : WpX T i te δ C d fun y => Φ (δ.set j (.da y))) : SuS T i (fun z cls dd => tAsg (te z cls dd) (gName j)) δ C d Φ := fun z dd w σ G H hz en hd a Z k => by
  have li : i < σ.length := by rw [← en.len]; exact (List.getElem?_eq_some_iff.mp hi).1
  refine h z dd w (σ.set i (some (.ref z))) G H (List.getElem?_set_self li) (en.free hi _) hd a _ fun v y G' H' st e' a' q => ?_
  refine k _ _ G' H' (st.toB en.old) ?_ q
  exact (e'.setD (i := j) a').free (by rw [List.getElem?_set_ne ne.symm]; exact hi) none
end
/-- try: .. except X as n: .. -/
theorem wps_named {R : Rg} {δ : List Sl} {Φ : List Sl → Prop} {Ψ : D → Prop} {K : PySem.W.Frag} {i : Nat} {qs : List (Value × Suite9)} {tb : WX → TS} {Wo : WX} {X' : Addr → D → Prop} (p : δ.all plainS = true)
    (hb : ∀ (σ : L2.St) (W : WX), WpS1 ⟨fun cls d H => W cls d σ H, X', R.T⟩ (tb W) δ Φ Ψ σ) (hc : ∀ C d, X' C d → ∃ u, hitN K (.ref C) qs u ∧ SuS R.T i u δ C d Φ) :
    WpS R (tTryN K i Wo qs tb) δ Φ Ψ := fun σ G H en rz Z k1 k2 => by
  refine hb σ (wNamed K i Wo Z qs) G H en (fun C dd w d G' H' sB hd a x sm so => ?_) Z k1 k2
  obtain ⟨u, hu, su⟩ := hc C d x
  exact hit_want hu fun z hz => su z dd w σ G' H' hz (en.byB p sB sm so) hd a Z fun δ' σ' G2 H2 s2 => k1 δ' σ' G2 H2 (sB.trans s2)
end Nv
/-! Nv, part U9: instances as data: isinstance(x, C), an own ==. -/
namespace Nv
open PySem PySem.Spec PyProof.Rows L2
variable [Tb] [Ls]
/-- what the class is told by -/
structure IsW (K : PySem.W.Frag) (C : Addr) : Prop where
  cl : Cls K C
  ha : PySem.W.findIn K (.ref C) "__class__" = some (some (.builtin "object.__class__"))
  hn : PySem.W.specialIn K (.builtin "object.__class__") "__get__" = some (some (.builtin "getset_descriptor.__get__"))
  ht : PySem.W.takesIn K (.builtin "object.__class__") = some true
  hm : PySem.W.mroIn K C (.type "object") = some true
theorem ty_ins {K : PySem.W.Frag} {C : Addr} (I : IsW K C) {G H : Hp} {v : V} {ns : List Str} {ds : List D} (s : Same G H) (a : At G v (.ins C ns ds)) : TyX K H v (.ref C) := by
  cases a with
  | ins h t => exact .base (.ins (s _ _ h) I.cl I.ha I.hn I.ht I.hm)
theorem kit_self {K : PySem.W.Frag} {v : Value} (h : (v == v) = true) : PySem.W.kitOne K v v = some true := by
  unfold PySem.W.kitOne
  rw [if_pos h]
theorem wpe_isW {R : Rg} {δ : List Sl} {ta : TE} {φ : D → Prop} {K : PySem.W.Frag} {C : Addr} (I : IsW K C) (h : WpE R ta δ fun x => (∃ ns ds, x = .ins C ns ds) ∧ φ (.bl true)) : WpE R (tCB (rIsi K) (tCons ta (tCons (tC (.ref C)) tNil))) δ φ := fun σ G H en rz Q k =>
  h σ G H en rz _ fun v x G1 H1 s1 e1 a1 ⟨⟨ns, ds, e⟩, q⟩ => by
    subst e
    exact ⟨v, .ref C, _, _, true, rfl, .own C, ty_ins I e1.same a1, kit_self (by simp), k _ _ G1 H1 s1 e1 (.bl true) q⟩
theorem op_eqDK {X : Cx} {CX : CXT} {n : Nat} {C : Addr} {ps : List Str} {sp : Sp} {E : XK} {K : PySem.W.Frag} (h : X.K = K) (F : Dm X.prog X.w X.K X.mg X.base C "__eq__" CX n ps sp) (hr : Room n X.A) (hx : Passes CX X E) : OpR X (compareOp .Eq) (rEqO K C sp E) := by
  subst h
  obtain ⟨f, fd, h1, h2, h3⟩ := F.ex
  exact op_eqO h2.at_ h2.fn h1 hr h3 hx
theorem opd_eqO {K : PySem.W.Frag} {C : Addr} {c : Spc} {ns ns' : List Str} {ds ds' : List D} {E : XK} {φ : D → Prop} (I : IsW K C) (pre : c.pre [.da (.ins C ns ds), .da (.ins C ns' ds')])
    (post : ∀ d, c.post [.da (.ins C ns ds), .da (.ins C ns' ds')] d → φ d) (err : ∀ C' d, ¬ c.err [.da (.ins C ns ds), .da (.ins C ns' ds')] C' d) : OpD (rEqO K C (spW c 2) E) (.ins C ns ds) (.ins C ns' ds') φ := fun G H v w s a b Q k => by
  have tb := ty_ins I s b
  have a' := a
  cases a with
  | @ins p _ dx fs _ hp al =>
    refine ⟨p, dx, fs, _, rfl, s _ _ hp, tb, by simp [PySem.W.notFirst], ?_⟩
    exact ⟨S0, G, [.da (.ins C _ ds), .da (.ins C ns' ds')], rfl, s, sto0, .cons (show ArgR S0 G (.da (.ins C _ ds)) _ from a') (.cons (show ArgR S0 G (.da (.ins C ns' ds')) _ from b) .nil), pre,
      fun z d G' H' st sm _ at' q => k z d G' H' st sm at' (post d q), fun C' _ _ d _ _ _ _ _ x => (err C' d x).elim⟩
theorem opd_neB {i j : Bool} {φ : D → Prop} (q : φ (.bl (!decide (i = j)))) : OpD rNe (.bl i) (.bl j) φ := fun G H v w s a b Q k => by
  cases a
  cases b
  refine ⟨rfl, k _ _ G H .refl s (.bl _) ?_⟩
  rw [show decide (V.bl i = V.bl j) = decide (i = j) from decide_eq_decide.mpr ⟨V.bl.inj, congrArg _⟩]
  exact q
end Nv
namespace Nv
open PySem PySem.Spec PyProof.Rows L2
variable [Tb] [Ls]
/-- a, b, .. = e -/
theorem wps_asgG {R : Rg} {δ : List Sl} {te : TE} {g : TG} {js : List Nat} {Φ : List Sl → Prop} {Ψ : D → Prop} (h : WpE R te δ fun d => WpG R g d δ js Φ) : WpS R (tAsg te g) δ Φ Ψ := fun σ G H en rz Z k1 _ =>
  h σ G H en rz _ fun v d G1 H1 s1 e1 a q => q σ G1 H1 v e1 a _ fun σ2 δ2 e2 _ _ f => k1 δ2 σ2 G1 H1 (s1.toB en.old) e2 f
end Nv
namespace Nv
open PySem PySem.Spec PyProof.Rows L2
variable [Tb] [Ls]
theorem opd_eqO2 {K : PySem.W.Frag} {C : Addr} {c : Spc} {ns ns' : List Str} {ds ds' : List D} {E : XK} {φ : D → Prop} {x y : D} (I : IsW K C) (ex : x = .ins C ns ds) (ey : y = .ins C ns' ds') (pre : c.pre [.da x, .da y])
    (post : ∀ d, c.post [.da x, .da y] d → φ d) (err : ∀ C' d, ¬ c.err [.da x, .da y] C' d) : OpD (rEqO K C (spW c 2) E) x y φ := by
  subst ex
  subst ey
  exact opd_eqO I pre post err
end Nv
namespace Nv
open PySem PySem.Spec PyProof.Rows L2
variable [Tb] [Ls]
/-- does `except R` take S -/
theorem exm_of {K : PySem.W.Frag} {S R : Addr} {b : Bool} (base : PySem.W.subIn K (.ref R) (.type "BaseException") = some true) (cl : PySem.W.isClsIn K R = true) (ty : PySem.W.typeIn K (.ref R) = some (.type "type"))
    (sub : PySem.W.subIn K (.ref S) (.ref R) = some b) : PySem.W.exmOne K (.ref S) (.ref R) = some b := by
  unfold PySem.W.exmOne PySem.W.kitCls
  have c1 : (PySem.W.subIn K (.ref R) (.type "BaseException") == some true) = true := by rw [base]; rfl
  have c2 : ((PySem.W.clsIn K R).isSome && PySem.W.typeIn K (.ref R) == some (.type "type")) = true := by
    rw [show (PySem.W.clsIn K R).isSome = true from cl, ty]; rfl
  exact (if_pos c1).trans ((if_pos c2).trans sub)
end Nv
/-! Nv, part Q9: equal data, dicts without items among them. -/
namespace Nv
open PySem PySem.SeqAt
open AutoSeq1 (wpAny_loadPart')
open MeetsSeq MeetsSeq2 MeetsSeq3 SeqRoads2
section
variable {prog : Program} {w : World}
/-- two tuples of items that are equal -/
theorem tup_like (a c : Addr) (xs ys : Array Value) (k k' : Nat) (d d' : Option Addr) (l l' : Array (Option Value)) (len : xs.size = ys.size) :
    MeetsIn prog w (Builtin.«tuple.__eq__» ⟨[.ref a, .ref c], []⟩) (fun A R s => (s.heap.get? a = some ⟨.type "tuple", d, .seq xs k, l⟩ ∧ s.heap.get? c = some ⟨.type "tuple", d', .seq ys k', l'⟩) ∧
      (∀ i (h1 : i < xs.size) (h2 : i < ys.size), EqP prog w A.in1 s xs[i] ys[i] true) ∧ R (.ok (.ret (.bool true))) s) := by
  rintro A R ⟨hp, g, dd, tk, os⟩ ⟨⟨ha, hc⟩, eq, out⟩
  have f2 := AutoSeq1.sub_tuple_tuple
  have zl : (xs.toList.zip ys.toList).length = xs.size := by simp [len]
  wp_walk using wpAny_loadPart' ha, wpAny_loadPart' hc, wpAny_forIn_list _ (fun rest q t => q.1 = none ∧ t = ⟨hp, g, dd, tk, os⟩ ∧ ∃ i, rest = (xs.toList.zip ys.toList).drop i) _
  case turn =>
    rintro ⟨y, x⟩ rest q t ⟨q1, rfl, i, hz⟩
    have lt : i < (xs.toList.zip ys.toList).length := Nat.lt_of_not_le fun ge => by
      rw [List.drop_of_length_le ge] at hz
      cases hz
    have lx : i < xs.size := by omega
    rw [List.drop_eq_getElem_cons lt] at hz
    injection hz with e1 e2
    obtain rfl : y = xs[i] := by have := congrArg Prod.fst e1; simpa using this
    obtain rfl : x = ys[i] := by have := congrArg Prod.snd e1; simpa using this
    refine wpAny_bind (eq i lx (by omega) _ _ ?_)
    wp_walk
    exact ⟨rfl, rfl, i + 1, e2⟩
  case fin =>
    rintro ⟨b1, b2⟩ t ⟨q1, rfl, i, hz⟩
    simp only at q1
    subst q1
    wp_walk
    simpa [Builtin.Tuple.tupleCompareSizes, len] using out
  case h => exact ⟨rfl, rfl, 0, rfl⟩
theorem tup_unlike (a c : Addr) (xs ys : Array Value) (k k' : Nat) (d d' : Option Addr) (l l' : Array (Option Value)) (len : xs.size = ys.size) :
    MeetsIn prog w (Builtin.«tuple.__ne__» ⟨[.ref a, .ref c], []⟩) (fun A R s => (s.heap.get? a = some ⟨.type "tuple", d, .seq xs k, l⟩ ∧ s.heap.get? c = some ⟨.type "tuple", d', .seq ys k', l'⟩) ∧
      (∀ i (h1 : i < xs.size) (h2 : i < ys.size), EqP prog w A.in1 s xs[i] ys[i] true) ∧ R (.ok (.ret (.bool false))) s) := by
  rintro A R ⟨hp, g, dd, tk, os⟩ ⟨⟨ha, hc⟩, eq, out⟩
  have f2 := AutoSeq1.sub_tuple_tuple
  have zl : (xs.toList.zip ys.toList).length = xs.size := by simp [len]
  wp_walk using wpAny_loadPart' ha, wpAny_loadPart' hc, wpAny_forIn_list _ (fun rest q t => q.1 = none ∧ t = ⟨hp, g, dd, tk, os⟩ ∧ ∃ i, rest = (xs.toList.zip ys.toList).drop i) _
  case turn =>
    rintro ⟨y, x⟩ rest q t ⟨q1, rfl, i, hz⟩
    have lt : i < (xs.toList.zip ys.toList).length := Nat.lt_of_not_le fun ge => by
      rw [List.drop_of_length_le ge] at hz
      cases hz
    have lx : i < xs.size := by omega
    rw [List.drop_eq_getElem_cons lt] at hz
    injection hz with e1 e2
    obtain rfl : y = xs[i] := by have := congrArg Prod.fst e1; simpa using this
    obtain rfl : x = ys[i] := by have := congrArg Prod.snd e1; simpa using this
    refine wpAny_bind (eq i lx (by omega) _ _ ?_)
    wp_walk
    exact ⟨rfl, rfl, i + 1, e2⟩
  case fin =>
    rintro ⟨b1, b2⟩ t ⟨q1, rfl, i, hz⟩
    simp only at q1
    subst q1
    wp_walk
    simpa [Builtin.Tuple.tupleCompareSizes, bne, len] using out
  case h => exact ⟨rfl, rfl, 0, rfl⟩
variable {A : Around} {s : Shared} {a c : Addr} {xs ys : Array Value}
theorem cmp_tups (ha : s.heap.IsTuple a xs) (hc : s.heap.IsTuple c ys) (len : xs.size = ys.size) (room : A.units < cLine) (eq : ∀ i (h1 : i < xs.size) (h2 : i < ys.size), EqP prog w A.in1 s xs[i] ys[i] true) :
    (∀ (E Q : Value → Shared → Prop), Q (.bool true) s → wpAny (model prog w) A (richCompare .Eq (.ref a) (.ref c)) Q E s) ∧ ∀ (E Q : Value → Shared → Prop), Q (.bool false) s → wpAny (model prog w) A (richCompare .NotEq (.ref a) (.ref c)) Q E s := by
  obtain ⟨⟨k1, k2, k3, k4⟩, g1, t1, n1, v1⟩ := id ha
  obtain ⟨⟨l1, l2, l3, l4⟩, g2, t2, n2, v2⟩ := id hc
  simp only at t1 v1 t2 v2
  subst t1 v1 t2 v2
  have ty1 : s.TypeIs (.ref a) "tuple" := ⟨_, g1, rfl⟩
  have ty2 : s.TypeIs (.ref c) "tuple" := ⟨_, g2, rfl⟩
  refine ⟨fun E Q q => ?_, fun E Q q => ?_⟩
  · exact wpAny_richCompare_same_room (op := .Eq) ty1 ty2 F.slot_tuple_eq (call_meetsIn F.slot_tuple_eq ty1 F.entry_tuple_eq (F.args_tuple_eq_2 _ _) (tup_like a c xs ys n1 n2 k2 l2 k4 l4 len)
      ⟨⟨g1, g2⟩, eq, show Value.bool true ≠ Value.notImplemented ∧ Q (.bool true) s from ⟨(fun z => nomatch z), q⟩⟩) room
  · exact wpAny_richCompare_same_room (op := .NotEq) ty1 ty2 F.slot_tuple_ne (call_meetsIn F.slot_tuple_ne ty1 F.entry_tuple_ne (F.args_tuple_ne_2 _ _) (tup_unlike a c xs ys n1 n2 k2 l2 k4 l4 len)
      ⟨⟨g1, g2⟩, eq, show Value.bool false ≠ Value.notImplemented ∧ Q (.bool false) s from ⟨(fun z => nomatch z), q⟩⟩) room
end
end Nv
namespace Nv
open PySem PySem.Spec PyProof.Rows L2
variable [Tb] [Ls]
mutual
/-- data of a depth of at most n; no dict among them has an item -/
def eqB : D → Nat → Bool
  | .non, _ => true
  | .bl _, _ => true
  | .int _, _ => true
  | .str _, _ => true
  | .lst ds, n => decide (1 ≤ n) && eqAllB ds (n - 1)
  | .tup ds, n => decide (1 ≤ n) && eqAllB ds (n - 1)
  | .dic ks ds, n => decide (1 ≤ n) && (ks.isEmpty && ds.isEmpty)
  | _, _ => false
def eqAllB : List D → Nat → Bool
  | [], _ => true
  | d :: ds, n => eqB d n && eqAllB ds n
end
theorem eqAllB_of {n : Nat} : ∀ {ds : List D}, (∀ d ∈ ds, eqB d n = true) → eqAllB ds n = true
  | [], _ => by unfold eqAllB; rfl
  | d :: ds, h => by
    unfold eqAllB
    rw [h d List.mem_cons_self, eqAllB_of fun d hd => h d (List.mem_cons_of_mem _ hd)]
    rfl
theorem at_dic0 {G : Hp} {v : V} {ks : List Key} {ds : List D} (a : At G v (.dic ks ds)) (e : ks = []) : ∃ p, v = .ref p ∧ G p = some (.dK []) := by
  cases a with
  | @dic p kvs _ h t =>
    have : kvs = [] := List.map_eq_nil_iff.mp e
    subst this
    exact ⟨p, rfl, h⟩
section
variable {X : Cx} {pins : List (Addr × Obj)} {σ : L2.St} {H G : Hp} {s : Shared}
mutual
theorem eq_data (I : Inv X pins σ H s) (sm : Same G H) : ∀ (d : D) (n : Nat) (A : Around), A.units + n < cLine → eqB d n = true → ∀ {x y : V} {v u : Value}, At G x d → At G y d → RelV x v → RelV y u → SeqAt.EqP X.prog X.w A s v u true
  | .non, _, _, _, _, _, _, _, _, a, b, r1, r2 => by cases a; cases b; exact (eqAt_same r1 r2 rfl).eqP
  | .bl _, _, _, _, _, _, _, _, _, a, b, r1, r2 => by cases a; cases b; exact (eqAt_same r1 r2 rfl).eqP
  | .int _, _, _, _, _, _, _, _, _, a, b, r1, r2 => by cases a; cases b; exact (eqAt_same r1 r2 rfl).eqP
  | .str _, _, _, _, _, _, _, _, _, a, b, r1, r2 => by cases a; cases b; exact (eqAt_same r1 r2 rfl).eqP
  | .lst ds, n, A, hu, q, x, y, v, u, a, b, r1, r2 => by
    unfold eqB at q
    rw [Bool.and_eq_true] at q
    have n1 := of_decide_eq_true q.1
    obtain ⟨p, xs, rfl, hp, al⟩ := at_lst a
    obtain ⟨p', ys, rfl, hp', bl⟩ := at_lst b
    cases (show v = Value.ref p from r1)
    cases (show u = Value.ref p' from r2)
    by_cases e : p = p'
    · subst e
      exact (SeqAt.EqAt.same _).eqP
    · obtain ⟨us, ru, l1, _⟩ := I.list (sqL_of sm hp)
      obtain ⟨ws, rw', l2, _⟩ := I.list (sqL_of sm hp')
      have len : us.length = ws.length := by rw [← ru.length, ← rw'.length, al.length, bl.length]
      refine SeqAt.eqP_refs e fun E Q h => SeqAt.rcP_lists (e := fun _ => true) l1.isList l2.isList (by simpa using len) (by omega) (fun j h1 h2 => ?_) E Q ?_
      · have k := eqs_data I sm ds (n - 1) A.in1 (by show A.units + 1 + (n - 1) < cLine; omega) q.2 al bl ru rw' j (by simpa using h1) (by simpa using h2)
        simpa using k
      · rw [show ((List.range us.toArray.size).all fun _ => true) = true from List.all_eq_true.mpr fun _ _ => rfl]
        exact h
  | .tup ds, n, A, hu, q, x, y, v, u, a, b, r1, r2 => by
    unfold eqB at q
    rw [Bool.and_eq_true] at q
    have n1 := of_decide_eq_true q.1
    obtain ⟨p, xs, rfl, hp, al⟩ := at_tup a
    obtain ⟨p', ys, rfl, hp', bl⟩ := at_tup b
    cases (show v = Value.ref p from r1)
    cases (show u = Value.ref p' from r2)
    by_cases e : p = p'
    · subst e
      exact (SeqAt.EqAt.same _).eqP
    · obtain ⟨us, ru, ⟨o1, g1, c1, n1', d1⟩, _⟩ := I.tuple (sqT_of sm hp)
      obtain ⟨ws, rw', ⟨o2, g2, c2, n2', d2⟩, _⟩ := I.tuple (sqT_of sm hp')
      have len : us.length = ws.length := by rw [← ru.length, ← rw'.length, al.length, bl.length]
      refine SeqAt.eqP_refs e (cmp_tups (xs := us.toArray) (ys := ws.toArray) ⟨o1, g1, c1, n1', d1⟩ ⟨o2, g2, c2, n2', d2⟩ (by simpa using len) (by omega) fun j h1 h2 => ?_).1
      have k := eqs_data I sm ds (n - 1) A.in1 (by show A.units + 1 + (n - 1) < cLine; omega) q.2 al bl ru rw' j (by simpa using h1) (by simpa using h2)
      simpa using k
  | .dic ks ds, n, A, hu, q, x, y, v, u, a, b, r1, r2 => by
    unfold eqB at q
    rw [Bool.and_eq_true, Bool.and_eq_true] at q
    have n1 := of_decide_eq_true q.1
    obtain ⟨p, rfl, hp⟩ := at_dic0 a (List.isEmpty_iff.mp q.2.1)
    obtain ⟨p', rfl, hp'⟩ := at_dic0 b (List.isEmpty_iff.mp q.2.1)
    cases (show v = Value.ref p from r1)
    cases (show u = Value.ref p' from r2)
    by_cases e : p = p'
    · subst e
      exact (SeqAt.EqAt.same _).eqP
    · obtain ⟨_, ya, va, ra, da⟩ := (show ObjOk X.prog X.w H s.heap p (.dK []) from I.hok p _ (sm _ _ hp))
      obtain ⟨_, yb, vb, rb, db⟩ := (show ObjOk X.prog X.w H s.heap p' (.dK []) from I.hok p' _ (sm _ _ hp'))
      have e1 : va = [] := List.eq_nil_of_length_eq_zero ra.length.symm
      have e2 : vb = [] := List.eq_nil_of_length_eq_zero rb.length.symm
      subst e1
      subst e2
      exact SeqAt.eqP_refs e fun E Q h => PySem.W.rcP_dicts (knd := mixKind X.prog X.w) (r := true) ya yb da db (by omega) (fun _ => .nil) E Q h
  | .ins _ _ _, _, _, _, q, _, _, _, _, _, _, _, _ => by unfold eqB at q; cases q
  | .ty _, _, _, _, q, _, _, _, _, _, _, _, _ => by unfold eqB at q; cases q
theorem eqs_data (I : Inv X pins σ H s) (sm : Same G H) : ∀ (ds : List D) (n : Nat) (A : Around), A.units + n < cLine → eqAllB ds n = true → ∀ {xs ys : List V} {us ws : List Value}, AtAll G xs ds → AtAll G ys ds → Vals xs us → Vals ys ws →
    ∀ j (h1 : j < us.length) (h2 : j < ws.length), SeqAt.EqP X.prog X.w A s us[j] ws[j] true
  | [], _, _, _, _, _, _, _, _, a, _, r1, _, j, h1, _ => by
    cases a
    cases r1
    exact absurd h1 (Nat.not_lt_zero j)
  | d :: ds, n, A, hu, q, _, _, _, _, .cons a al, .cons b bl, .cons r1 t1, .cons r2 t2, j, h1, h2 => by
    unfold eqAllB at q
    rw [Bool.and_eq_true] at q
    match j with
    | 0 => exact eq_data I sm d n A hu q.1 a b r1 r2
    | j + 1 => exact eqs_data I sm ds n A hu q.2 al bl t1 t2 j (Nat.lt_of_succ_lt_succ h1) (Nat.lt_of_succ_lt_succ h2)
end
end
/-- two tuples of the same data -/
def rEqQ : R2 := fun x y H Q => ∃ ds n G, n ≤ 60 ∧ Same G H ∧ eqAllB ds n = true ∧ At G x (.tup ds) ∧ At G y (.tup ds) ∧ Q (.bl true) H
def rNeQ : R2 := fun x y H Q => ∃ ds n G, n ≤ 60 ∧ Same G H ∧ eqAllB ds n = true ∧ At G x (.tup ds) ∧ At G y (.tup ds) ∧ Q (.bl false) H
section
variable {X : Cx}
theorem cmp_data {pins : List (Addr × Obj)} {σ : L2.St} {H G : Hp} {s : Shared} {ds : List D} {n : Nat} {x y : V} {v u : Value} (I : Inv X pins σ H s) (hu : X.A.units + 64 < cLine) (ln : n ≤ 60) (sm : Same G H) (q : eqAllB ds n = true) (a : At G x (.tup ds)) (b : At G y (.tup ds)) (r1 : RelV x v) (r2 : RelV y u) :
    (∀ (E Q : Value → Shared → Prop), Q (.bool true) s → wpAny (model X.prog X.w) X.A (richCompare .Eq v u) Q E s) ∧ ∀ (E Q : Value → Shared → Prop), Q (.bool false) s → wpAny (model X.prog X.w) X.A (richCompare .NotEq v u) Q E s := by
  obtain ⟨p, xs, rfl, hp, al⟩ := at_tup a
  obtain ⟨p', ys, rfl, hp', bl⟩ := at_tup b
  cases (show v = Value.ref p from r1)
  cases (show u = Value.ref p' from r2)
  obtain ⟨us, ru, ⟨o1, g1, c1, n1', d1⟩, _⟩ := I.tuple (sqT_of sm hp)
  obtain ⟨ws, rw', ⟨o2, g2, c2, n2', d2⟩, _⟩ := I.tuple (sqT_of sm hp')
  have len : us.length = ws.length := by rw [← ru.length, ← rw'.length, al.length, bl.length]
  refine cmp_tups (xs := us.toArray) (ys := ws.toArray) ⟨o1, g1, c1, n1', d1⟩ ⟨o2, g2, c2, n2', d2⟩ (by simpa using len) (by omega) fun j h1 h2 => ?_
  have k := eqs_data I sm ds n X.A.in1 (by show X.A.units + 1 + n < cLine; omega) q al bl ru rw' j (by simpa using h1) (by simpa using h2)
  simpa using k
theorem op_eqQ (hu : X.A.units + 64 < cLine) : OpR X (compareOp .Eq) rEqQ := by
  intro pins s σ H x y v u Q I r1 r2 h
  obtain ⟨ds, n, G, ln, sm, e, a, b, q⟩ := h
  exact (cmp_data I hu ln sm e a b r1 r2).1 _ _ ⟨.bl true, H, I, rfl, q⟩
theorem op_neQ (hu : X.A.units + 64 < cLine) : OpR X (compareOp .NotEq) rNeQ := by
  intro pins s σ H x y v u Q I r1 r2 h
  obtain ⟨ds, n, G, ln, sm, e, a, b, q⟩ := h
  exact (cmp_data I hu ln sm e a b r1 r2).2 _ _ ⟨.bl false, H, I, rfl, q⟩
end
theorem opd_eqQ {φ : D → Prop} {ds : List D} {n : Nat} (h : eqAllB ds n = true) (l : n ≤ 60) (q : φ (.bl true)) : OpD rEqQ (.tup ds) (.tup ds) φ := fun G H v w s a b Q k => ⟨ds, n, G, l, s, h, a, b, k _ _ G H .refl s (.bl _) q⟩
theorem opd_neQ {φ : D → Prop} {ds : List D} {n : Nat} (h : eqAllB ds n = true) (l : n ≤ 60) (q : φ (.bl false)) : OpD rNeQ (.tup ds) (.tup ds) φ := fun G H v w s a b Q k => ⟨ds, n, G, l, s, h, a, b, k _ _ G H .refl s (.bl _) q⟩
end Nv
namespace Nv
open PySem PySem.Spec PyProof.Rows L2
variable [Tb] [Ls]
theorem _root_.L2.Room.units65 {k : Nat} {A : Around} (r : Room k A) : A.units + 65 < cLine := by have := r.un; omega
theorem op_notInDK {X : Cx} {K : PySem.W.Frag} (h : X.K = K) (hu : X.A.units + 65 < cLine) : OpR X (compareOp .NotIn) (rNotInD K) := h ▸ op_notInD hu
/-! ### two promises of one function -/
section
variable {P : Program} {w : World} {K : PySem.W.Frag} {mg : Str → Option Value} {base : Heap} {k n : Nat} {f : Addr} {fd : FuncData} {ps : List Str} {c1 c2 c : Spc}
/-- c1 where it never raises, c2 where it may: together c -/
def Both (c1 c2 c : Spc) : Prop := ∀ as, c.pre as → (c1.pre as ∧ (∀ d, c1.post as d → c.post as d) ∧ ∀ C d, ¬ c1.err as C d) ∨ (c2.pre as ∧ (∀ d, c2.post as d → c.post as d) ∧ ∀ C d, c2.err as C d → c.err as C d)
theorem fn_both (F1 : FnOk P w K mg base CX0 k f fd ps (spW c1 n)) (F2 : FnOk P w K mg base (L2.CX P w) k f fd ps (spW c2 n)) (h : Both c1 c2 c) : FnOk P w K mg base (L2.CX P w) k f fd ps (spW c n) := by
  have cut : ∀ vs H Q E, spW c n vs H Q E → spW c1 n vs H Q E ∨ spW c2 n vs H Q E := by
    rintro vs H Q E ⟨S, G, as, l, sm, so, ar, p, q, r⟩
    rcases h as p with ⟨p1, q1, r1⟩ | ⟨p2, q2, r2⟩
    · exact .inl ⟨S, G, as, l, sm, so, ar, p1, fun v d G' H' st sm so a x => q v d G' H' st sm so a (q1 d x), fun C dd w d G' H' st hx a x => (r1 C d x).elim⟩
    · exact .inr ⟨S, G, as, l, sm, so, ar, p2, fun v d G' H' st sm so a x => q v d G' H' st sm so a (q2 d x), fun C dd w d G' H' st hx a x => r C dd w d G' H' st hx a (r2 C d x)⟩
  refine ⟨fun vs H Q E q => ?_, fun A outer s H args us vs Q E hr he hb hv q => ?_⟩
  · rcases cut vs H Q E q with q | q
    · exact F1.len vs H Q E q
    · exact F2.len vs H Q E q
  · rcases cut vs H Q E q with q | q
    · refine codeAny_mono (F1.run A outer s H args us vs Q E hr he hb hv q) fun r s' z => ?_
      match r, z with
      | .error _, z => exact z.elim
      | .ok (.ret _), z => exact z
      | .ok .next, z => exact z
      | .ok .brk, z => exact z
      | .ok .cont, z => exact z
    · exact F2.run A outer s H args us vs Q E hr he hb hv q
theorem DmX.both {C : Addr} {m : Str} (d1 : DmX f fd P w K mg base C m CX0 k ps (spW c1 n)) (d2 : DmX f fd P w K mg base C m (L2.CX P w) k ps (spW c2 n)) (h : Both c1 c2 c) : DmX f fd P w K mg base C m (L2.CX P w) k ps (spW c n) :=
  ⟨fn_both d1.ok d2.ok h, d1.h, d1.b⟩
end
end Nv
namespace Nv
open PySem PySem.Spec PyProof.Rows L2
variable [Tb] [Ls]
section
variable {P : Program} {w : World} {K : PySem.W.Frag} {mg : Str → Option Value} {base : Heap} {c1 c2 c : Spc}
/-- a def that may raise -/
theorem Fn.okX {x : Str} {st : Stmt} {N ps : List Str} {f : Addr} {fd : FuncData} {n k : Nat} (F : Fn K mg x st ps f fd) (S : FnScope N ps (defScope st)) (hn : ps.length = n)
    (h : ∀ (cdv : Value) (A : Around) (outer : List Env) (s : Shared) (H : Hp) (E : XK) (as : List Sl), Room k (A.deeper (envOfC x (defScope st) s.heap.objs.size f cdv)) → c.pre as → as.length = n →
      ∃ t, PSs (cxOf (L2.CX P w) P w K mg base N x (defScope st) f cdv A outer s H E) (defBody st) t ∧
        ∀ T : Tr, WpS ⟨E, c.err as, T⟩ t (as ++ List.replicate (N.length - n) .no) (fun _ => c.post as .non) (c.post as)) :
    Dk P w K mg base x (L2.CX P w) (k + 1) ps (spW c n) := by
  refine ⟨f, fd, F.F.okX S (fun vs H Q E q => ?_) (fun cdv A outer s H vs Q E hr q => ?_), F.m, F.F.kp, F.b⟩
  · obtain ⟨_, _, as, l, _, _, ar, _⟩ := q
    rw [← ar.length, l, hn]
  · obtain ⟨_, _, as, l, sm, so, ar, p, k, r⟩ := q
    obtain ⟨t, h1, h2⟩ := h cdv A outer s H E as hr p l
    exact ⟨t, h1, wps_run l sm so ar k r h2⟩
/-- both promises may raise -/
def BothX (c1 c2 c : Spc) : Prop := ∀ as, c.pre as → (c1.pre as ∧ (∀ d, c1.post as d → c.post as d) ∧ ∀ C d, c1.err as C d → c.err as C d) ∨ (c2.pre as ∧ (∀ d, c2.post as d → c.post as d) ∧ ∀ C d, c2.err as C d → c.err as C d)
theorem DmX.bothX {k n : Nat} {f : Addr} {fd : FuncData} {ps : List Str} {C : Addr} {m : Str} {CX : CXT} (d1 : DmX f fd P w K mg base C m CX k ps (spW c1 n)) (d2 : DmX f fd P w K mg base C m CX k ps (spW c2 n)) (h : BothX c1 c2 c) : DmX f fd P w K mg base C m CX k ps (spW c n) := by
  have cut : ∀ vs H Q E, spW c n vs H Q E → spW c1 n vs H Q E ∨ spW c2 n vs H Q E := by
    rintro vs H Q E ⟨S, G, as, l, sm, so, ar, p, q, r⟩
    rcases h as p with ⟨p1, q1, r1⟩ | ⟨p2, q2, r2⟩
    · exact .inl ⟨S, G, as, l, sm, so, ar, p1, fun v d G' H' st sm so a x => q v d G' H' st sm so a (q1 d x), fun C dd w d G' H' st hx a x => r C dd w d G' H' st hx a (r1 C d x)⟩
    · exact .inr ⟨S, G, as, l, sm, so, ar, p2, fun v d G' H' st sm so a x => q v d G' H' st sm so a (q2 d x), fun C dd w d G' H' st hx a x => r C dd w d G' H' st hx a (r2 C d x)⟩
  refine ⟨⟨fun vs H Q E q => ?_, fun A outer s H args us vs Q E hr he hb hv q => ?_⟩, d1.h, d1.b⟩
  · exact (cut vs H Q E q).elim (d1.ok.len vs H Q E) (d2.ok.len vs H Q E)
  · exact (cut vs H Q E q).elim (d1.ok.run A outer s H args us vs Q E hr he hb hv) (d2.ok.run A outer s H args us vs Q E hr he hb hv)
end
/-- f(e, ..), what it raises goes out -/
theorem wpe_callX {R : Rg} {δ : List Sl} {tr : TA} {φ : D → Prop} {c : Spc} {n : Nat} (h : WpA R tr δ fun as => as.length = n ∧ c.pre as ∧ (∀ d, c.post as d → φ d) ∧ ∀ C d, c.err as C d → R.X C d) : WpE R (tCall (spW c n) [] R.E tr) δ φ := fun σ G H en rz Q k =>
  h σ G H en rz _ fun vs as G1 H1 s1 e1 a1 ⟨l, p, q, r⟩ => by
    show spW c n (vs ++ []) H1 Q R.E
    rw [List.append_nil]
    exact ⟨R.T.S, G1, as, l, e1.same, e1.stt, a1, p, fun v d G' H' st sm so a pq => k v d G' H' (s1.trans st) (e1.step st (fun _ z => z) sm so) a (q d pq),
      fun C dd w d G' H' st hx a x sm so => rz C dd w d G' H' ((s1.toB en.old).trans (st.toB e1.old)) hx a (r C d x) sm so⟩
end Nv
namespace Nv
open PySem PySem.Spec PyProof.Rows L2
variable [Tb] [Ls]
/-- o.m(e, ..); what is raised is wished for at the slots -/
def tMethP (C : Addr) (m : Str) (sp : Sp) (E : L2.St → XK) (ta : TE) (t : TA) : TE := fun σ H Q => ta σ H fun x H1 => ∃ a dx fs, x = .ref a ∧ H1 a = some (.ins C dx fs) ∧ fs.lookup m = none ∧ t σ H1 fun vs H2 => sp (x :: vs) H2 Q (E σ)
theorem pe_methDS {X : Cx} {CX : CXT} {k : Nat} {C : Addr} {m : Str} {ps : List Str} {sp : Sp} {E : L2.St → XK} {pos apos : Pos} {o e : Expr} {es : List Expr} {ta : TE} {t : TA} {pl : Sem Bool} (he : PE X o ta) (c : Cls X.K C) (F : Dm X.prog X.w X.K X.mg X.base C m CX k ps sp) (hr : Room k X.A)
    (hx : ∀ σ, PassesAt CX X σ (E σ)) (ha : PA X (e :: es) t) (hst : starEach (e :: es) X.env = (false, eval e X.env) :: starEach es X.env := by rfl) (hpl : (backTo pos (starEach es X.env)).any (·.1) = false := by rfl)
    (ht : eval (.Call (.Attribute o m apos) (e :: es) [] pos) X.env = (do
      let ov ← eval o X.env
      standAt apos.atName
      let (g, gs) ← holding [ov] (getMethod ov m pl)
      callWith pos g gs (backTo pos (starEach (e :: es) X.env)) (backToKw pos (keywordEach [] X.env))) := by rfl) :
    PE X (.Call (.Attribute o m apos) (e :: es) [] pos) (tMethP C m sp E ta t) := by
  obtain ⟨f, fd, h1, h2, h3⟩ := F.ex
  refine ⟨fun pins s σ H Q I h => PySem.W.methodCall_KW (pl := pl) (thn (he.run pins s σ H _ I h) fun u s1 ⟨x, H1, I1, rx, a, dx, fs, ex, ea, l, q⟩ => ?_) ht⟩
  subst ex
  obtain rfl : u = Value.ref a := rx
  refine getmeth_ok I1 ea c h2 l (PySem.W.callWith_K (first := [.ref a]) (h₀ := X.base) I.ok.mod.kin h2.kp (thn (ha.run pos pins s1 σ H1 _ I1 q) fun us s2 ⟨vs, H2, I2, r, q2⟩ => ⟨I2.kIn, ?_⟩) hst hpl)
  exact run_fnS (us := .ref a :: us) (vs := .ref a :: vs) h1 hr h3 (hx σ) I2 (.cons rfl r) q2
theorem wpe_methP {R : Rg} {δ : List Sl} {ta : TE} {t : TA} {φ : D → Prop} {c : Spc} {n : Nat} {E : L2.St → XK} {σ : L2.St} {C : Addr} {ns : List Str} {m : Str} (hE : R.E = E σ) (hm : ∀ y ∈ ns, (m == y) = false)
    (h : WpE R ta δ fun x => (∃ ds, x = .ins C ns ds) ∧ WpA R t δ fun as => as.length + 1 = n ∧ c.pre (.da x :: as) ∧ (∀ d, c.post (.da x :: as) d → φ d) ∧ ∀ C d, c.err (.da x :: as) C d → R.X C d) :
    WpE1 R (tMethP C m (spW c n) E ta t) δ φ σ := fun G H en rz Q k =>
  h σ G H en rz _ fun v x G1 H1 s1 e1 a1 ⟨⟨ds, ex⟩, h2⟩ => by
    subst ex
    have a1' := a1
    generalize hns : ns = ns' at a1
    cases a1 with
    | @ins p _ dx fs _ hp al =>
      refine ⟨p, dx, fs, rfl, e1.same _ _ hp, look_none (by rw [← hns]; exact hm), ?_⟩
      refine h2 σ G1 H1 e1 (rz.stepB (s1.toB en.old)) _ fun vs as G2 H2 s2 e2 a2 ⟨l, pr, q, r⟩ => ?_
      rw [← hE]
      have st := s1.trans s2
      exact ⟨R.T.S, G2, _, by rw [List.length_cons]; exact l, e2.same, e2.stt, .cons (show ArgR R.T.S G2 (.da (.ins C ns ds)) (.ref p) from a1'.same s2.gs) a2, pr,
        fun v d G' H' st' sm so a pq => k v d G' H' (st.trans st') (e2.step st' (fun _ z => z) sm so) a (q d pq), fun C dd w d G' H' st' hx a x sm so => rz C dd w d G' H' ((st.toB en.old).trans (st'.toB e2.old)) hx a (r C d x) sm so⟩
/-- as wps_drop, at these slots -/
theorem wps1_drop {R : Rg} {δ : List Sl} {te : TE} {Φ : List Sl → Prop} {Ψ : D → Prop} {σ : L2.St} (h : WpE1 R te δ (fun _ => Φ δ) σ) : WpS1 R (tDrop te) δ Φ Ψ σ := fun G H en rz Z k1 _ =>
  h G H en rz _ fun v d G1 H1 s1 e1 a q => k1 _ _ G1 H1 (s1.toB en.old) e1 q
end Nv
namespace Nv
open PySem PySem.SeqAt
open AutoSeq1 (wpAny_loadPart')
open MeetsSeq MeetsSeq2 MeetsSeq3 SeqRoads2
section
variable {prog : Program} {w : World}
/-- two tuples whose first items differ -/
theorem tup_apart (a c : Addr) (xs ys : Array Value) (k k' : Nat) (d d' : Option Addr) (l l' : Array (Option Value)) (nx : 0 < xs.size) (ny : 0 < ys.size) :
    MeetsIn prog w (Builtin.«tuple.__ne__» ⟨[.ref a, .ref c], []⟩) (fun A R s => (s.heap.get? a = some ⟨.type "tuple", d, .seq xs k, l⟩ ∧ s.heap.get? c = some ⟨.type "tuple", d', .seq ys k', l'⟩) ∧
      EqP prog w A.in1 s (xs[0]'nx) (ys[0]'ny) false ∧ R (.ok (.ret (.bool true))) s) := by
  rintro A R ⟨hp, g, dd, tk, os⟩ ⟨⟨ha, hc⟩, eq, out⟩
  have f2 := AutoSeq1.sub_tuple_tuple
  have zl : 0 < (xs.toList.zip ys.toList).length := by simp; omega
  wp_walk using wpAny_loadPart' ha, wpAny_loadPart' hc, wpAny_forIn_list _ (fun rest q t => q.1 = none ∧ t = ⟨hp, g, dd, tk, os⟩ ∧ rest = xs.toList.zip ys.toList) _
  case turn =>
    rintro ⟨y, x⟩ rest q t ⟨q1, rfl, hz⟩
    have hz' := hz
    rw [show xs.toList.zip ys.toList = (xs.toList.zip ys.toList).drop 0 from rfl, List.drop_eq_getElem_cons zl] at hz
    injection hz with e1 e2
    obtain rfl : y = xs[0] := by have := congrArg Prod.fst e1; simpa using this
    obtain rfl : x = ys[0] := by have := congrArg Prod.snd e1; simpa using this
    refine wpAny_bind (eq _ _ ?_)
    wp_walk
    exact out
  case fin =>
    rintro ⟨b1, b2⟩ t ⟨q1, rfl, hz⟩
    rw [← hz] at zl
    exact absurd zl (Nat.lt_irrefl 0)
  case h => exact ⟨rfl, rfl, rfl⟩
theorem ne_tups {A : Around} {s : Shared} {a c : Addr} {xs ys : Array Value} (ha : s.heap.IsTuple a xs) (hc : s.heap.IsTuple c ys) (nx : 0 < xs.size) (ny : 0 < ys.size) (room : A.units < cLine) (eq : EqP prog w A.in1 s (xs[0]'nx) (ys[0]'ny) false)
    (E Q : Value → Shared → Prop) (q : Q (.bool true) s) : wpAny (model prog w) A (richCompare .NotEq (.ref a) (.ref c)) Q E s := by
  obtain ⟨⟨k1, k2, k3, k4⟩, g1, t1, n1, v1⟩ := id ha
  obtain ⟨⟨l1, l2, l3, l4⟩, g2, t2, n2, v2⟩ := id hc
  simp only at t1 v1 t2 v2
  subst t1 v1 t2 v2
  have ty1 : s.TypeIs (.ref a) "tuple" := ⟨_, g1, rfl⟩
  have ty2 : s.TypeIs (.ref c) "tuple" := ⟨_, g2, rfl⟩
  exact wpAny_richCompare_same_room (op := .NotEq) ty1 ty2 F.slot_tuple_ne (call_meetsIn F.slot_tuple_ne ty1 F.entry_tuple_ne (F.args_tuple_ne_2 _ _) (tup_apart a c xs ys n1 n2 k2 l2 k4 l4 nx ny)
    ⟨⟨g1, g2⟩, eq, show Value.bool true ≠ Value.notImplemented ∧ Q (.bool true) s from ⟨(fun z => nomatch z), q⟩⟩) room
end
end Nv
namespace Nv
open PySem PySem.Spec PyProof.Rows L2
variable [Tb] [Ls]
/-- (word, ..) != (another word, ..) -/
def rNeH : R2 := fun x y H Q => ∃ (a b : Str) (ds es : List D) (G : Hp), a ≠ b ∧ Same G H ∧ At G x (.tup (.str a :: ds)) ∧ At G y (.tup (.str b :: es)) ∧ Q (.bl true) H
theorem op_neH {X : Cx} (hu : X.A.units + 64 < cLine) : OpR X (compareOp .NotEq) rNeH := by
  intro pins s σ H x y v u Q I r1 r2 h
  obtain ⟨a, b, ds, es, G, ne, sm, ax, ay, q⟩ := h
  obtain ⟨p, xs, rfl, hp, al⟩ := at_tup ax
  obtain ⟨p', ys, rfl, hp', bl⟩ := at_tup ay
  cases (show v = Value.ref p from r1)
  cases (show u = Value.ref p' from r2)
  obtain ⟨us, ru, ⟨o1, g1, c1, n1', d1⟩, _⟩ := I.tuple (sqT_of sm hp)
  obtain ⟨ws, rw', ⟨o2, g2, c2, n2', d2⟩, _⟩ := I.tuple (sqT_of sm hp')
  cases al with
  | cons a1 _ =>
    cases bl with
    | cons b1 _ =>
      cases a1
      cases b1
      cases ru with
      | cons r1 _ =>
        cases rw' with
        | cons r2 _ =>
          refine ne_tups ⟨o1, g1, c1, n1', d1⟩ ⟨o2, g2, c2, n2', d2⟩ (by simp) (by simp) (by omega) ?_ _ _ ⟨.bl true, H, I, rfl, q⟩
          have e := (eqAt_V (A := X.A.in1) (s := s) (y := .str a) (x := .str b) r1 r2 rfl rfl).eqP (prog := X.prog) (w := X.w)
          rw [show eqV (.str a) (.str b) = false by show (a == b) = false; exact beq_eq_false_iff_ne.mpr ne] at e
          simpa using e
theorem opd_neH {φ : D → Prop} {a b : Str} {ds es : List D} (ne : a ≠ b) (q : φ (.bl true)) : OpD rNeH (.tup (.str a :: ds)) (.tup (.str b :: es)) φ := fun G H v w s x y Q k => ⟨a, b, ds, es, G, ne, s, x, y, k _ _ G H .refl s (.bl _) q⟩
/-! ### repr of data, dicts without items among them -/
theorem call_reprDK {X : Cx} {K : PySem.W.Frag} (h : X.K = K) {k : Nat} (hr : Room k X.A) (gd : X.A.guards = some []) : CallR X (.builtin "repr") (rRepr K) := h ▸ call_reprD hr gd
mutual
def toPq : D → PyData
  | .non => .none
  | .bl b => .bool b
  | .int i => .int i
  | .str x => .str x
  | .lst ds => .list (toPqs ds)
  | .tup ds => .tuple (toPqs ds)
  | _ => .dict []
def toPqs : List D → List PyData
  | [] => []
  | d :: ds => toPq d :: toPqs ds
end
section
variable {X : Cx} {pins : List (Addr × Obj)} {σ : L2.St} {H G : Hp} {s : Shared}
mutual
theorem reads_data (I : Inv X pins σ H s) (h1 : Sys X.K H) (sm : Same G H) : ∀ (d : D) (n : Nat), eqB d n = true → ∀ {v : V} {u : Value}, At G v d → RelV v u → ∃ as, Reads s.heap u (toPq d) as ∧ sysModules ∉ as
  | .non, _, _, _, _, a, r => by
    cases a
    cases r
    unfold toPq
    exact ⟨_, .none, by simp⟩
  | .bl b, _, _, _, _, a, r => by
    cases a
    cases r
    unfold toPq
    exact ⟨_, .bool b, by simp⟩
  | .int i, _, _, _, _, a, r => by
    cases a
    obtain ⟨t, rfl⟩ := r
    unfold toPq
    exact ⟨_, .int i t, by simp⟩
  | .str x, _, _, _, _, a, r => by
    cases a
    obtain ⟨t, rfl⟩ := r
    unfold toPq
    exact ⟨_, .str x t, by simp⟩
  | .lst ds, n, q, _, _, a, r => by
    unfold eqB at q
    rw [Bool.and_eq_true] at q
    obtain ⟨p, xs, rfl, hp, al⟩ := at_lst a
    cases r
    obtain ⟨_, its, k, rv, ho⟩ : _ ∧ _ := I.hok p _ (sm _ _ hp)
    obtain ⟨as, hr, na⟩ := readss_data I h1 sm ds (n - 1) q.2 al rv
    have ne : p ≠ sysModules := h1.ne I (sm _ _ hp) (fun _ _ z => nomatch z)
    unfold toPq
    exact ⟨_, Reads.list ho rfl rfl hr, fun z => (List.mem_cons.mp z).elim (fun z => ne z.symm) na⟩
  | .tup ds, n, q, _, _, a, r => by
    unfold eqB at q
    rw [Bool.and_eq_true] at q
    obtain ⟨p, xs, rfl, hp, al⟩ := at_tup a
    cases r
    obtain ⟨us, ru, ⟨o1, g1, c1, n1, d1⟩, _⟩ := I.tuple (sqT_of sm hp)
    obtain ⟨as, hr, na⟩ := readss_data I h1 sm ds (n - 1) q.2 al ru
    unfold toPq
    exact ⟨_, Reads.tuple g1 c1 d1 hr, na⟩
  | .dic ks ds, n, q, _, _, a, r => by
    unfold eqB at q
    rw [Bool.and_eq_true, Bool.and_eq_true] at q
    obtain ⟨p, rfl, hp⟩ := at_dic0 a (List.isEmpty_iff.mp q.2.1)
    cases r
    obtain ⟨_, _, vs, rel, o, es, ep, ho, ex, hd, _, pr, _⟩ : _ ∧ _ := I.hok p _ (sm _ _ hp)
    have e1 : vs = [] := List.eq_nil_of_length_eq_zero rel.length.symm
    subst e1
    have ne : p ≠ sysModules := h1.ne I (sm _ _ hp) (fun _ _ z => nomatch z)
    have k1 : ReadsAll s.heap (es.toList.map (·.key)) [] [] := reads_keys pr
    have k2 : ReadsAll s.heap (es.toList.map (·.val)) [] [] := by
      rw [pairs_vals pr]
      exact .nil
    unfold toPq
    refine ⟨_, Reads.dict (kvs := []) (as := []) (bs := []) ho ex.1 hd k1 k2, fun z => ?_⟩
    rcases List.mem_cons.mp z with z | z
    · exact ne z.symm
    · cases z
  | .ins _ _ _, _, q, _, _, _, _ => by unfold eqB at q; cases q
  | .ty _, _, q, _, _, _, _ => by unfold eqB at q; cases q
theorem readss_data (I : Inv X pins σ H s) (h1 : Sys X.K H) (sm : Same G H) : ∀ (ds : List D) (n : Nat), eqAllB ds n = true → ∀ {vs : List V} {us : List Value}, AtAll G vs ds → Vals vs us → ∃ as, ReadsAll s.heap us (toPqs ds) as ∧ sysModules ∉ as
  | [], _, _, _, _, a, r => by
    cases a
    cases r
    unfold toPqs
    exact ⟨_, .nil, by simp⟩
  | d :: ds, n, q, _, _, .cons a al, .cons r1 r2 => by
    unfold eqAllB at q
    rw [Bool.and_eq_true] at q
    obtain ⟨as, q1, n1⟩ := reads_data I h1 sm d n q.1 a r1
    obtain ⟨bs, q2, n2⟩ := readss_data I h1 sm ds n q.2 al r2
    unfold toPqs
    exact ⟨_, .cons q1 q2, fun z => (List.mem_append.mp z).elim n1 n2⟩
end
end
/-- what repr says of such a tuple -/
structure ShQ (ds : List D) : Prop where
  eq : eqAllB ds 20 = true
  sh : (toPq (.tup ds)).showable = true
  dp : (toPq (.tup ds)).depth ≤ 30
  ln : (toPq (.tup ds)).shown.length ≤ sizeLine
def rReprQ (K : PySem.W.Frag) : List V → Hp → VK → Prop := fun vs H Q => ∃ (x : V) (ds : List D) (G : Hp), vs = [x] ∧ Same G H ∧ Sys K H ∧ At G x (.tup ds) ∧ ShQ ds ∧ Q (.str (toPq (.tup ds)).shown) H
theorem call_reprQ {X : Cx} {K : PySem.W.Frag} (h : X.K = K) {k : Nat} (hr : Room k X.A) (gd : X.A.guards = some []) : CallR X (.builtin "repr") (rReprQ K) := by
  subst h
  intro pins s σ H vs us Q I r q
  obtain ⟨x, ds, G, rfl, sm, sys, a, sq, q⟩ := q
  obtain ⟨u, rfl, ru⟩ := vals1 r
  have un := hr.un
  have q1 : eqB (.tup ds) 21 = true := by
    unfold eqB
    rw [sq.eq]
    rfl
  obtain ⟨as, rd, na⟩ := reads_data I sys sm (.tup ds) 21 q1 a ru
  obtain ⟨p, xs, rfl, _⟩ := at_tup a
  cases ru
  have dp := sq.dp
  exact repr_of_reads' rd sq.sh (fun _ => na) gd (by omega) (fun _ _ z => z) (fun h' u tk kp => ⟨.str _, H, I.kept kp, ⟨u, rfl⟩, q⟩) sq.ln
/-- repr(e), e such a tuple -/
theorem wpe_reprQ {R : Rg} {δ : List Sl} {ta : TE} {φ : D → Prop} {K : PySem.W.Frag} (hS : ∀ H, (∀ b u, R.T.F b u → H b = some u) → Sys K H) (h : WpE R ta δ fun x => ∃ ds, x = .tup ds ∧ ShQ ds ∧ φ (.str (toPq (.tup ds)).shown)) :
    WpE R (tCB (rReprQ K) (tCons ta tNil)) δ φ := fun σ G H en rz Q k =>
  h σ G H en rz _ fun v x G1 H1 s1 e1 a1 ⟨ds, ex, sq, q⟩ => by
    subst ex
    exact ⟨v, ds, G1, rfl, e1.same, hS H1 (fun b u f => (e1.inv b u f).1), a1, sq, k _ _ G1 H1 s1 e1 (.str _) q⟩
end Nv
/-! Nv, part De: data compared as a whole; rows of numbers as tuples. -/
namespace Nv
open PySem PySem.Spec PyProof.Rows L2
variable [Tb] [Ls]
mutual
def toPy : D → PyData
  | .non => .none
  | .bl b => .bool b
  | .int i => .int i
  | .str x => .str x
  | .lst ds => .list (toPys ds)
  | .tup ds => .tuple (toPys ds)
  | .dic _ _ => .none
  | .dct _ _ => .none
  | .ins _ _ _ => .none
  | .ty _ => .none
def toPys : List D → List PyData
  | [] => []
  | d :: ds => toPy d :: toPys ds
end
mutual
/-- data without dicts, so deep at most -/
def layD : D → Nat → Bool
  | .non, _ => true
  | .bl _, _ => true
  | .int _, _ => true
  | .str x, _ => PyData.strOk x
  | .lst ds, n => decide (1 ≤ n) && layAll ds (n - 1)
  | .tup ds, n => decide (1 ≤ n) && layAll ds (n - 1)
  | .dic _ _, _ => false
  | .dct _ _, _ => false
  | .ins _ _ _, _ => false
  | .ty _, _ => false
def layAll : List D → Nat → Bool
  | [], _ => true
  | d :: ds, n => layD d n && layAll ds n
end
theorem layAll_of {n : Nat} : ∀ {ds : List D}, (∀ d ∈ ds, layD d n = true) → layAll ds n = true
  | [], _ => rfl
  | d :: ds, h => by
    unfold layAll
    rw [h d (by simp), layAll_of fun e m => h e (by simp [m])]
    rfl
mutual
theorem At.dp {K : PySem.W.Frag} {G H : Hp} (s : Same G H) : ∀ {v : V} {d : D}, At G v d → ∀ n, layD d n = true → Dp K H v (toPy d)
  | _, _, .non, _, _ => .non
  | _, _, .bl b, _, _ => .bl b
  | _, _, .int i, _, _ => .int i
  | _, _, .str x, _, _ => .str x
  | _, _, .lst h t, n, q => by
    unfold layD at q
    rw [Bool.and_eq_true] at q
    exact .lst (sqL_of s h) (AtAll.dp s t _ q.2)
  | _, _, .tup h t, n, q => by
    unfold layD at q
    rw [Bool.and_eq_true] at q
    exact .tup (sqT_of s h.rd) (AtAll.dp s t _ q.2)
  | _, _, .dic _ _, _, q => by unfold layD at q; cases q
  | _, _, .dct _ _ _ _, _, q => by unfold layD at q; cases q
  | _, _, .ins _ _, _, q => by unfold layD at q; cases q
  | _, _, .ty _, _, q => by unfold layD at q; cases q
theorem AtAll.dp {K : PySem.W.Frag} {G H : Hp} (s : Same G H) : ∀ {vs : List V} {ds : List D}, AtAll G vs ds → ∀ n, layAll ds n = true → DpAll K H vs (toPys ds)
  | _, _, .nil, _, _ => .nil
  | _, _, .cons a b, n, q => by
    unfold layAll at q
    rw [Bool.and_eq_true] at q
    exact .cons (At.dp s a n q.1) (AtAll.dp s b n q.2)
end
mutual
theorem lay_can : ∀ (d : D) (n : Nat), layD d n = true → (toPy d).canLay0 = true ∧ (toPy d).depth ≤ n
  | .non, n, _ => ⟨rfl, Nat.zero_le _⟩
  | .bl _, n, _ => ⟨rfl, Nat.zero_le _⟩
  | .int _, n, _ => ⟨rfl, Nat.zero_le _⟩
  | .str x, n, q => by
    unfold layD at q
    exact ⟨by unfold toPy PyData.canLay0; exact q, by unfold toPy PyData.depth; exact Nat.zero_le _⟩
  | .lst ds, n, q => by
    unfold layD at q
    rw [Bool.and_eq_true] at q
    obtain ⟨h1, h2⟩ := layAll_can ds _ q.2
    have := of_decide_eq_true q.1
    exact ⟨by unfold toPy PyData.canLay0; exact h1, by unfold toPy PyData.depth; omega⟩
  | .tup ds, n, q => by
    unfold layD at q
    rw [Bool.and_eq_true] at q
    obtain ⟨h1, h2⟩ := layAll_can ds _ q.2
    have := of_decide_eq_true q.1
    exact ⟨by unfold toPy PyData.canLay0; exact h1, by unfold toPy PyData.depth; omega⟩
  | .dic _ _, _, q => by unfold layD at q; cases q
  | .dct _ _, _, q => by unfold layD at q; cases q
  | .ins _ _ _, _, q => by unfold layD at q; cases q
  | .ty _, _, q => by unfold layD at q; cases q
theorem layAll_can : ∀ (ds : List D) (n : Nat), layAll ds n = true → PyData.canLayAll0 (toPys ds) = true ∧ PyData.depthAll (toPys ds) ≤ n
  | [], n, _ => ⟨by unfold toPys PyData.canLayAll0; rfl, by unfold toPys PyData.depthAll; exact Nat.zero_le _⟩
  | d :: ds, n, q => by
    unfold layAll at q
    rw [Bool.and_eq_true] at q
    obtain ⟨h1, h2⟩ := lay_can d n q.1
    obtain ⟨h3, h4⟩ := layAll_can ds n q.2
    exact ⟨by unfold toPys PyData.canLayAll0; rw [h1, h3]; rfl, by unfold toPys PyData.depthAll; omega⟩
end
theorem shaped_of {d : D} {n : Nat} (h : layD d n = true) (l : n ≤ 64) : SeqAt.shaped (toPy d) = true := by
  obtain ⟨h1, h2⟩ := lay_can d n h
  unfold SeqAt.shaped
  rw [h1, decide_eq_true (by omega)]
  rfl
section
variable {φ : D → Prop} {K : PySem.W.Frag}
theorem opd_neDD {x y : D} {n : Nat} (h1 : layD x n = true) (h2 : layD y n = true) (l : n ≤ 64) (q : φ (.bl (!PyData.eqv (toPy x) (toPy y)))) : OpD (rNeD K) x y φ := fun G H v w s a b Q k =>
  ⟨_, _, a.dp s n h1, b.dp s n h2, shaped_of h1 l, shaped_of h2 l, k _ _ G H .refl s (.bl _) q⟩
theorem opd_eqDD {x y : D} {n : Nat} (h1 : layD x n = true) (h2 : layD y n = true) (l : n ≤ 64) (q : φ (.bl (PyData.eqv (toPy x) (toPy y)))) : OpD (rEqD K) x y φ := fun G H v w s a b Q k =>
  ⟨_, _, a.dp s n h1, b.dp s n h2, shaped_of h1 l, shaped_of h2 l, k _ _ G H .refl s (.bl _) q⟩
end
theorem eqv_self {d : D} {n : Nat} (h : layD d n = true) : PyData.eqv (toPy d) (toPy d) = true := SeqAt.eqv_refl _ (lay_can d n h).1
theorem eqv_nilT {ds : List D} : PyData.eqv (toPy (.tup ds)) (toPy (.tup [])) = ds.isEmpty := by
  cases ds with
  | nil => unfold toPy toPys PyData.eqv PyData.eqvAll; rfl
  | cons d ds => unfold toPy toPys PyData.eqv PyData.eqvAll; rfl
theorem eqv_nilL {ds : List D} : PyData.eqv (toPy (.lst ds)) (toPy (.lst [])) = ds.isEmpty := by
  cases ds with
  | nil => unfold toPy toPys PyData.eqv PyData.eqvAll; rfl
  | cons d ds => unfold toPy toPys PyData.eqv PyData.eqvAll; rfl
theorem lay_ints {zs : List Int} {n : Nat} : layAll (zs.map D.int) n = true := layAll_of fun d hd => by
  obtain ⟨z, _, rfl⟩ := List.mem_map.mp hd
  unfold layD
  rfl
theorem op_inDK {X : Cx} {K : PySem.W.Frag} (h : X.K = K) (hu : X.A.units + 65 < cLine) : OpR X (compareOp .In) (rInD K) := h ▸ op_inD hu
theorem mt_indexDK {X : Cx} {K : PySem.W.Frag} (h : X.K = K) (hu : X.A.units + 65 < cLine) : MtR X "list.index" (rIndexD K) := h ▸ mt_indexD hu
theorem eqvAll_ints : ∀ (xs ys : List Int), PyData.eqvAll (toPys (xs.map D.int)) (toPys (ys.map D.int)) = decide (xs = ys)
  | [], [] => by rw [List.map_nil, toPys, PyData.eqvAll]; rfl
  | [], y :: ys => by rw [List.map_nil, List.map_cons, toPys, toPys, PyData.eqvAll]; rfl
  | x :: xs, [] => by rw [List.map_nil, List.map_cons, toPys, toPys, PyData.eqvAll]; rfl
  | x :: xs, y :: ys => by
    rw [List.map_cons, List.map_cons, toPys, toPys, PyData.eqvAll, eqvAll_ints xs ys, toPy, toPy, PyData.eqv, Bool.eq_iff_iff]
    simp
theorem eqv_ints {xs ys : List Int} : PyData.eqv (toPy (.lst (xs.map D.int))) (toPy (.lst (ys.map D.int))) = decide (xs = ys) := by
  rw [toPy, toPy, PyData.eqv, eqvAll_ints]
theorem toPys_at : ∀ {ds : List D} {j : Nat}, (toPys ds)[j]? = (ds[j]?).map toPy
  | [], j => by
    rw [toPys]
    rfl
  | d :: ds, 0 => by
    rw [toPys]
    rfl
  | d :: ds, j + 1 => by
    rw [toPys]
    exact toPys_at
section
variable {K : PySem.W.Frag} {δ : List Sl}
theorem own_dp {T : Tr} {G H : Hp} {σ : L2.St} {i : Nat} {p : Addr} {ds : List D} {n : Nat} (en : Ens T G H δ σ) (e : δ[i]? = some (.ow p ds)) (lay : layD (.lst ds) n = true) : Dp K H (.ref p) (toPy (.lst ds)) := by
  obtain ⟨o, e1, rfl, nS, gn, xs, hx, al⟩ := en.get i _ e
  have sm : Same (upd G p (.lst xs)) H := fun b u q => by
    by_cases z : b = p
    · subst z
      rw [upd_same] at q
      rw [hx]
      exact q
    · rw [upd_ne z] at q
      exact en.same b u q
  exact (At.lst (G := upd G p (.lst xs)) upd_same (al.same (same_upd gn))).dp sm n lay
end
/-! ### rows -/
theorem eqvAll_nats : ∀ (xs ys : List Nat), PyData.eqvAll (toPys (xs.map fun (i : Nat) => D.int i)) (toPys (ys.map fun (i : Nat) => D.int i)) = decide (xs = ys)
  | [], [] => by rw [List.map_nil, toPys, PyData.eqvAll]; rfl
  | [], y :: ys => by rw [List.map_nil, List.map_cons, toPys, toPys, PyData.eqvAll]; rfl
  | x :: xs, [] => by rw [List.map_nil, List.map_cons, toPys, toPys, PyData.eqvAll]; rfl
  | x :: xs, y :: ys => by
    rw [List.map_cons, List.map_cons, toPys, toPys, PyData.eqvAll, eqvAll_nats xs ys, toPy, toPy, PyData.eqv, Bool.eq_iff_iff]
    simp
    intro _
    omega
theorem eqv_rows {xs ys : List Nat} : PyData.eqv (toPy (rowN xs)) (toPy (rowN ys)) = decide (xs = ys) := by
  unfold rowN
  rw [toPy, toPy, PyData.eqv, eqvAll_nats]
theorem lay_row {ks : List Nat} : layD (rowN ks) 5 = true := by
  show (decide (1 ≤ 5) && layAll (ks.map fun (i : Nat) => D.int i) 4) = true
  rw [layAll_of fun d hd => ?_]
  · rfl
  · obtain ⟨z, _, rfl⟩ := List.mem_map.mp hd
    rfl
theorem lay_rows {kss : List (List Nat)} : layD (.lst (kss.map rowN)) 6 = true := by
  show (decide (1 ≤ 6) && layAll (kss.map rowN) 5) = true
  rw [layAll_of fun d hd => ?_]
  · rfl
  · obtain ⟨z, _, rfl⟩ := List.mem_map.mp hd
    exact lay_row
theorem any_rows {z : List Nat} : ∀ {kss : List (List Nat)}, ((toPys (kss.map rowN)).any fun y => PyData.eqv y (toPy (rowN z))) = decide (z ∈ kss)
  | [] => by
    rw [List.map_nil, toPys]
    rfl
  | y :: kss => by
    show ((toPys (rowN y :: kss.map rowN)).any _) = _
    rw [toPys, List.any_cons, any_rows, eqv_rows, Bool.eq_iff_iff, Bool.or_eq_true, decide_eq_true_eq, decide_eq_true_eq, decide_eq_true_eq, List.mem_cons]
    exact ⟨fun h => h.elim (fun e => .inl e.symm) .inr, fun h => h.elim (fun e => .inl e.symm) .inr⟩
section
variable {φ : D → Prop} {K : PySem.W.Frag}
theorem opd_eqRow {xs ys : List Nat} (q : φ (.bl (decide (xs = ys)))) : OpD (fun x y H Q => rEq x y H Q ∨ rEqD K x y H Q) (rowN xs) (rowN ys) φ :=
  opd_r (opd_eqDD (n := 5) lay_row lay_row (by decide) (by rw [eqv_rows]; exact q))
theorem opd_neRow {xs ys : List Nat} (q : φ (.bl (!decide (xs = ys)))) : OpD (fun x y H Q => rNe x y H Q ∨ rNeD K x y H Q) (rowN xs) (rowN ys) φ :=
  opd_r (opd_neDD (n := 5) lay_row lay_row (by decide) (by rw [eqv_rows]; exact q))
theorem eqv_rowsL {xs ys : List (List Nat)} : PyData.eqv (toPy (.lst (xs.map rowN))) (toPy (.lst (ys.map rowN))) = decide (xs = ys) := by
  rw [toPy, toPy, PyData.eqv]
  have : ∀ xs ys : List (List Nat), PyData.eqvAll (toPys (xs.map rowN)) (toPys (ys.map rowN)) = decide (xs = ys) := by
    intro xs
    induction xs with
    | nil => intro ys; cases ys with
      | nil => rw [List.map_nil, toPys, PyData.eqvAll]; rfl
      | cons y ys => rw [List.map_nil, List.map_cons, toPys, toPys, PyData.eqvAll]; rfl
    | cons x xs ih => intro ys; cases ys with
      | nil => rw [List.map_nil, List.map_cons, toPys, toPys, PyData.eqvAll]; rfl
      | cons y ys =>
        rw [List.map_cons, List.map_cons, toPys, toPys, PyData.eqvAll, ih ys, eqv_rows, Bool.eq_iff_iff]
        simp
  exact this xs ys
theorem opd_eqRows {xs ys : List (List Nat)} (q : φ (.bl (decide (xs = ys)))) : OpD (fun x y H Q => rEq x y H Q ∨ rEqD K x y H Q) (.lst (xs.map rowN)) (.lst (ys.map rowN)) φ :=
  opd_r (opd_eqDD (n := 6) lay_rows lay_rows (by decide) (by rw [eqv_rowsL]; exact q))
theorem opd_inRows {z : List Nat} {kss : List (List Nat)} (q : φ (.bl (decide (z ∈ kss)))) : OpD (rInD K) (rowN z) (.lst (kss.map rowN)) φ := fun G H v w s a b Q k => by
  have dp := b.dp (K := K) s 6 lay_rows
  have sh := shaped_of (lay_rows (kss := kss)) (by decide)
  rw [toPy] at dp sh
  refine ⟨toPy (rowN z), toPys (kss.map rowN), a.dp s 5 lay_row, dp, shaped_of lay_row (by decide), sh, ?_⟩
  rw [any_rows]
  exact k _ _ G H .refl s (.bl _) q
theorem opd_ninRows {z : List Nat} {kss : List (List Nat)} (q : φ (.bl (!decide (z ∈ kss)))) : OpD (rNotInD K) (rowN z) (.lst (kss.map rowN)) φ := fun G H v w s a b Q k => by
  have dp := b.dp (K := K) s 6 lay_rows
  have sh := shaped_of (lay_rows (kss := kss)) (by decide)
  rw [toPy] at dp sh
  refine ⟨toPy (rowN z), toPys (kss.map rowN), a.dp s 5 lay_row, dp, shaped_of lay_row (by decide), sh, ?_⟩
  rw [any_rows]
  exact k _ _ G H .refl s (.bl _) q
end
end Nv
/-! Nv, part Mc: an own class made from data: C(e, ..), its __init__'s promise over data. -/
namespace Nv
open PySem PySem.Spec PyProof.Rows L2
variable [Tb] [Ls]
/-- what an __init__ wants, which fields it lays, what it raises -/
structure IniC where
  pre : List D → Prop
  ns : List Str
  fs : List D → List D
  err : List D → Addr → D → Prop := fun _ _ _ => False
def spIni (C : Addr) (c : IniC) (n : Nat) : Sp := fun vs H Q E => ∃ (x dx : Addr) (S : Addr → Prop) (G : Hp) (as : List D) (avs : List V), vs = .ref x :: avs ∧ as.length = n ∧ H x = some (.ins C dx []) ∧ Same G H ∧ G x = none ∧ StO S G H ∧ AtAll G avs as ∧ c.pre as ∧
  (∀ G' H' fs, Stp S G H G' H' → Same G' H' → StO S G' H' → H' x = some (.ins C dx []) → G' x = none → fs.map (·.1) = c.ns → AtAll G' (fs.map (·.2)) (c.fs as) → Q .non (upd H' x (.ins C dx fs))) ∧ RzW S E (c.err as) G H
section
variable {R : Rg} {δ : List Sl} {tr : TA} {φ : D → Prop} {K : PySem.W.Frag}
theorem Ens.freshC {T : Tr} {G H : Hp} {σ : L2.St} (en : Ens T G H δ σ) {p : Addr} (hp : H p = none) : G p = none ∧ ¬ T.S p ∧ ¬ T.O p :=
  ⟨en.same.free hp, (fun z => by
    obtain ⟨_, w, e, _⟩ := en.stt p z
    rw [hp] at e
    exact nomatch e), (fun z => en.old p z hp)⟩
theorem mkC_run {T : Tr} {G1 H1 : Hp} {σ : L2.St} {C : Addr} {c : IniC} {n : Nat} {ds : List D} {vs : List V} {Q : VK} {E : XK} (e1 : Ens T G1 H1 δ σ) (al : AtAll G1 vs ds) (ln : ds.length = n) (pr : c.pre ds)
    (q : ∀ x G' H', Stp T.S G1 H1 G' H' → Ens T G' H' δ σ → At G' (.ref x) (.ins C c.ns (c.fs ds)) → Q (.ref x) H') (re : RzW T.S E (c.err ds) G1 H1) :
    ∀ x dx, H1 x = none → H1 dx = none → dx ≠ x → spIni C c n (.ref x :: (vs ++ [])) (upd (upd H1 dx (.own x)) x (.ins C dx [])) (fun v H2 => v = .non ∧ Q (.ref x) H2) E := by
  intro x dx hx hd ne
  rw [List.append_nil]
  have sm : Same H1 (upd (upd H1 dx (.own x)) x (.ins C dx [])) := same_new hx hd
  have fx := e1.freshC hx
  have g9 : Stp T.S G1 H1 G1 (upd (upd H1 dx (.own x)) x (.ins C dx [])) := Stp.grow sm
  have en9 := e1.grow sm
  refine ⟨x, dx, T.S, G1, ds, vs, rfl, ln, upd_same, en9.same, fx.1, en9.stt, al, pr, fun G' H' fs st sm' so' hx' gx' en' al => ⟨rfl, ?_⟩, fun C' dd w d G' H' st hx' a xx sm' so' => re C' dd w d G' H' (g9.trans st) hx' a xx sm' so'⟩
  have st0 := g9.trans st
  have k : Same G' (upd G' x (.ins C dx fs)) := same_upd gx'
  have st2 : Stp T.S G1 H1 (upd G' x (.ins C dx fs)) (upd H' x (.ins C dx fs)) := by
    refine ⟨st0.gs.trans k, fun b u e n => ?_, fun b e => ?_, fun b e1 e2 => ?_⟩
    · rw [upd_ne (ne_of_none e hx)]
      exact st0.hs b u e n
    · by_cases z : b = x
      · rw [z, upd_same]; exact fun q => nomatch q
      · rw [upd_ne z]; exact st0.al b e
    · rw [upd_ne (fun z => e2 (by rw [z]; exact hx))]
      exact st0.gn b e1 e2
  have at' : At (upd G' x (.ins C dx fs)) (.ref x) (.ins C c.ns (c.fs ds)) := by
    rw [← en']
    exact .ins upd_same (al.same k)
  refine q _ _ _ st2 (e1.step st2 (fun _ z => z) (upd_same2 sm') fun b hb => ?_) at'
  obtain ⟨g, o, e, mo⟩ := so' b hb
  have nb : b ≠ x := fun z => fx.2.1 (by rw [← z]; exact hb)
  exact ⟨by rw [upd_ne nb]; exact g, o, by rw [upd_ne nb]; exact e, mo.same k⟩
/-- C(e, ..) -/
theorem wpe_mkC {C : Addr} {c : IniC} {n : Nat} (h : WpL R tr δ fun ds => ds.length = n ∧ c.pre ds ∧ φ (.ins C c.ns (c.fs ds)) ∧ ∀ C' d, c.err ds C' d → R.X C' d) : WpE R (tMake C (spIni C c n) [] R.E tr) δ φ := fun σ G H en rz Q q =>
  h σ G H en rz _ fun vs as G1 H1 s1 e1 a1 ⟨ds, ea, ln, pr, qf, qe⟩ => by
    subst ea
    exact mkC_run e1 a1.das ln pr (fun x G' H' st en' at' => q _ _ _ _ (s1.trans st) en' at' qf) fun C' dd w d G' H' st hx' a xx sm' so' => rz C' dd w d G' H' ((s1.toB en.old).trans (st.toB e1.old)) hx' a (qe C' d xx) sm' so'
theorem wpe_mkC0 {C : Addr} {c : IniC} {n : Nat} {E : XK} (h : WpL R tr δ fun ds => ds.length = n ∧ c.pre ds ∧ φ (.ins C c.ns (c.fs ds)) ∧ ∀ C' d, ¬ c.err ds C' d) : WpE R (tMake C (spIni C c n) [] E tr) δ φ := fun σ G H en rz Q q =>
  h σ G H en rz _ fun vs as G1 H1 s1 e1 a1 ⟨ds, ea, ln, pr, qf, qe⟩ => by
    subst ea
    exact mkC_run e1 a1.das ln pr (fun x G' H' st en' at' => q _ _ _ _ (s1.trans st) en' at' qf) fun C' dd w d G' H' st hx' a xx sm' so' => (qe C' d xx).elim
/-- a field -/
theorem look_zip : ∀ {fs : List (Str × V)} {ns : List Str} {x : Str} {i : Nat}, fs.map (·.1) = ns → ns.idxOf x = i → i < ns.length → fs.lookup x = (fs.map (·.2))[i]?
  | [], _, _, _, e, _, l => by subst e; simp at l
  | (a, v) :: fs, [], _, _, e, _, _ => nomatch e
  | (a, v) :: fs, b :: ns, x, i, e, ei, l => by
    rw [List.map_cons] at e
    obtain ⟨e1, e2⟩ := List.cons.inj e
    have e1 : a = b := e1
    subst e1
    rw [List.lookup_cons]
    by_cases h : x = a
    · subst h
      rw [List.idxOf_cons_self] at ei
      subst ei
      simp
    · have h' : (x == a) = false := by simpa using h
      rw [h']
      have h2 : (a == x) = false := by simpa using fun z => h z.symm
      rw [List.idxOf_cons, h2] at ei
      simp only [cond_false] at ei
      subst ei
      rw [List.map_cons, List.getElem?_cons_succ]
      exact look_zip e2 rfl (by simpa using l)
theorem wpe_fldC {ta : TE} {C : Addr} {x : Str} {ns : List Str} {i : Nat} (cl : Cls K C) (n1 : NoAttr K C x) (ei : ns.idxOf x = i) (l : i < ns.length) (h : WpE R ta δ fun y => ∃ ds d, y = .ins C ns ds ∧ ds[i]? = some d ∧ φ d) : WpE R (tFld K ta x) δ φ := fun σ G H en rz Q q =>
  h σ G H en rz _ fun v y G1 H1 s1 e1 a1 ⟨ds, d, e, ed, qd⟩ => by
    subst e
    generalize hn : ns = ms at a1
    cases a1 with
    | @ins p _ dx fs _ hp al =>
      obtain ⟨u, eu, au⟩ := al.get ed
      exact ⟨p, C, dx, fs, u, rfl, e1.same _ _ hp, cl, n1, by rw [look_zip hn.symm ei l]; exact eu, q u d G1 H1 s1 e1 au qd⟩
end
end Nv
/-! Nv, part Mx: max of a tuple, xs[::-1], min and max of two. -/
namespace Nv
open PySem PySem.Spec PyProof.Rows L2
section
variable {X : Cx}
theorem holdAll_ints {h : Heap} : ∀ {ns : List Int} {us : List Value}, Vals (ns.map V.int) us → PySem.W.HoldAll h us ns
  | [], _, r => by
    rw [List.map_nil] at r
    cases r
    exact PySem.W.HoldAll.nil
  | n :: ns, _, r => by
    rw [List.map_cons] at r
    cases r with
    | cons r1 r2 =>
      obtain ⟨t, e⟩ := r1
      subst e
      exact PySem.W.HoldAll.cons ⟨_, .int n t⟩ (holdAll_ints r2)
def maxZ (x : Int) (xs : List Int) : Int := xs.foldl (fun a y => if a < y then y else a) x
theorem maxOf_int (x : Int) (xs : List Int) : PySem.W.maxOf x xs = maxZ x xs := by
  unfold PySem.W.maxOf maxZ
  congr 1
  funext a y
  show (if decide (a < y) = true then y else a) = _
  by_cases h : a < y
  · rw [if_pos h, if_pos (decide_eq_true h)]
  · rw [if_neg h, if_neg (by simpa using h)]
/-- max(t), t a tuple of ints -/
def rMaxT (K : PySem.W.Frag) : List V → Hp → VK → Prop := fun vs H Q => ∃ (a : Addr) (n : Int) (ns : List Int), vs = [V.ref a] ∧ SqT K H a ((n :: ns).map V.int) ∧ Q (.int (maxZ n ns)) H
theorem cr_maxT (hc : X.calm = true) (hu : X.A.units + 64 < cLine) : CallR X (.builtin "max") (rMaxT X.K) := by
  intro pins s σ H vs us Q I r h
  obtain ⟨a, n, ns, rfl, hs, q⟩ := h
  obtain ⟨its, rv, ht, _⟩ := I.tuple hs
  rw [Vals.ref1 r]
  refine PySem.W.max_tuple_datum (α := Int) (x := n) (xs := ns) (I.ok.hd hc) (vs := its.toArray) ht (by simpa using holdAll_ints rv) (by show X.A.units + 1 + 0 < cLine; omega) fun i v h' tk e ⟨bs, rd⟩ hk => ?_
  rw [maxOf_int] at rd
  cases rd with
  | int _ t => exact ⟨.int _, H, I.kept hk, ⟨t, rfl⟩, q⟩
theorem cr_maxTK {K : PySem.W.Frag} (h : X.K = K) (hc : X.calm = true) (hu : X.A.units + 64 < cLine) : CallR X (.builtin "max") (rMaxT K) := h ▸ cr_maxT hc hu
/-- xs[::-1] -/
def tRevL (K : PySem.W.Frag) (te : TE) : TE := fun σ H Q => te σ H fun x H1 => ∃ a xs, x = .ref a ∧ SqL K H1 a xs ∧ ∀ p, H1 p = none → Q (.ref p) (upd H1 p (.lst xs.reverse))
theorem valsRev : ∀ {vs : List V} {us : List Value}, Vals vs us → Vals vs.reverse us.reverse
  | _, _, .nil => .nil
  | _, _, .cons a b => by
    rw [List.reverse_cons, List.reverse_cons]
    exact (valsRev b).append (.cons a .nil)
theorem pe_revL {K : PySem.W.Frag} {e : Expr} {te : TE} {pos p2 p3 p4 : Pos} {j : Nat} (hK : X.K = K) (he : PE X e te) : PE X (.Subscript e (.Slice none none (some (.UnaryOp .USub (.Constant (.int 1) j p3) p4)) p2) pos) (tRevL K te) := by
  subst hK
  refine ⟨fun pins s σ H Q I h => ?_⟩
  refine Subscript_ (thn (he.run pins s σ H _ I h) fun v s1 ⟨x, H1, I1, r1, a, xs, ex, hx, q⟩ => ?_)
  subst ex
  cases r1
  have hone : PO X (some (.UnaryOp .USub (.Constant (.int 1) j p3) p4)) (tPart (tUn (rU fun i => .int (-i)) (tC (.int 1)))) := po_some (pe_un un_neg pe_int)
  refine wpAny_Slice ?_
  rw [evalPart_none]
  refine wpAny_pure ?_
  refine wpAny_pure ?_
  refine thn (hone.run pins s1 σ H1 (fun o H2 => o = some (-1) ∧ H2 = H1) I1 ⟨1, rfl, -1, rfl, rfl, rfl⟩) fun vs s3 ⟨l, H2, I2, pl, q2⟩ => ?_
  obtain ⟨rfl, rfl⟩ := q2
  have I4 : Inv X pins σ H2 { s3 with heap := s3.heap.push { cls := .type "slice", data := .fields #[.none, .none, vs] } } := I2.kept (t' := s3.toks) fun b ob q => Heap.get?_push_of_some _ q
  obtain ⟨its, r, ht, hz⟩ := I4.list hx
  show wpAny (model X.prog X.w) X.A (subscriptTail e _ (.ref a) (.ref s3.heap.objs.size)) (EP X pins σ Q) X.xe { s3 with heap := s3.heap.push { cls := .type "slice", data := .fields #[.none, .none, vs] } }
  refine tail_any (ops := [.ref a, .ref s3.heap.objs.size]) ht.isList.typeIs slot_list_getitem.lookup ?_ (by with_unfolding_all rfl)
  refine wpAny_getItem_list_slice ht.isList (Heap.IsSliceOf.new ..) .none .none pl (by decide) ?_ (by rw [List.size_toArray, ← r.length]; exact hz)
  rw [PySem.W.krv_pick]
  refine ⟨.ref _, _, I4.laid (t' := s3.toks) (o := .lst xs.reverse) (fun b ob q => Heap.get?_push_of_some _ q) (Nat.le_refl _) ?_, rfl, q _ (I4.hok.fresh (Nat.le_refl _))⟩
  exact ⟨by rw [List.length_reverse]; exact hz, _, 0, valsRev r, Heap.get?_push_size _ rfl⟩
end
section
variable [Tb] [Ls] {R : Rg} {δ : List Sl} {te ta tb : TE} {φ : D → Prop} {K : PySem.W.Frag}
theorem AtAll.rev {G : Hp} : ∀ {vs : List V} {ds : List D}, AtAll G vs ds → AtAll G vs.reverse ds.reverse
  | _, _, .nil => .nil
  | _, _, .cons a b => by
    rw [List.reverse_cons, List.reverse_cons]
    exact (AtAll.rev b).app (.cons a .nil)
theorem wpe_revL (h : WpE R te δ fun x => ∃ ds, x = .lst ds ∧ φ (.lst ds.reverse)) : WpE R (tRevL K te) δ φ := fun σ G H en rz Q k =>
  h σ G H en rz _ fun v x G1 H1 s1 e1 a1 ⟨ds, e, q⟩ => by
    subst e
    obtain ⟨p, xs, rfl, hp, al⟩ := at_lst a1
    refine ⟨p, xs, rfl, sqL_of e1.same hp, fun l hl => ?_⟩
    have s2 : Stp S0 G1 H1 (upd G1 l (.lst xs.reverse)) (upd H1 l (.lst xs.reverse)) := .new e1.same hl
    exact k _ _ _ _ (s1.trans s2.zero) (e1.step0 s2 (upd_same2 e1.same)) (.lst upd_same (al.rev.same s2.gs)) q
/-- [f(d) for d in .. if p(d)] -/
theorem wpe_flt {wi : TI} {g : TG} {tt : TT} {vs js : List Nat} (p : D → Bool) (f : D → D) (hjs : ∀ j ∈ js, j ∈ vs)
    (h : WpI R wi δ fun ds => ds.length ≤ 100000 ∧ (∀ d ∈ ds, WpG R g d (wipeD δ vs) js fun δ2 => WpT R tt δ2 fun b => b = p d ∧ (p d = true → WpE R te δ2 fun y => y = f d)) ∧ φ (.lst ((ds.filter p).map f))) : WpE R (tLc wi g tt te vs) δ φ := by
  refine wpe_lc hjs (wpi_mono h fun ds ⟨l, each, fin⟩ => ⟨l, fun i acc => acc = ((ds.take i).filter p).map f, by simp, fun i d acc ei ih _ => ?_, fun acc ih _ => ?_⟩)
  · have ih : acc = ((ds.take i).filter p).map f := ih
    have tk : ds.take (i + 1) = ds.take i ++ [d] := by rw [List.take_add_one, ei]; rfl
    refine fun σ G H v en a Q k => each d (List.mem_of_getElem? ei) σ G H v en a Q fun σ2 δ2 e2 ag ln w => k σ2 δ2 e2 ag ln ?_
    refine wpt_mono w fun b ⟨eb, hb⟩ => ?_
    subst eb
    refine ite_b (fun q => wpe_mono (hb q) fun y ey => ?_) (fun q => ?_)
    · show acc ++ [y] = ((ds.take (i + 1)).filter p).map f
      rw [tk, List.filter_append, List.map_append, ← ih, ey, List.filter_cons, q]
      rfl
    · show acc = ((ds.take (i + 1)).filter p).map f
      rw [tk, List.filter_append, List.map_append, ← ih, List.filter_cons, q]
      simp
  · have ih : acc = ((ds.take ds.length).filter p).map f := ih
    rw [List.take_length] at ih
    subst ih
    exact fin
theorem cbd_maxT {n : Int} {ns : List Int} (q : φ (.int (maxZ n ns))) : CbD (rMaxT K) [.tup ((n :: ns).map D.int)] φ := fun G H vs s a Q k => by
  cases a with
  | cons a t =>
    cases t
    obtain ⟨p, xs, rfl, hp, al⟩ := at_tup a
    obtain rfl := atAll_ints al
    exact ⟨p, n, ns, rfl, sqT_of s hp, k _ _ G H .refl s (.int _) q⟩
theorem cbd_min2 {i j : Int} (q : φ (.int (if j < i then j else i))) : CbD (fun xs H Q => ∃ i j, xs = [.int i, .int j] ∧ Q (.int (if j < i then j else i)) H) [.int i, .int j] φ := fun G H vs s a Q k => by
  cases a with
  | cons a t =>
    cases t with
    | cons b t =>
      cases t
      cases a
      cases b
      exact ⟨i, j, rfl, k _ _ G H .refl s (.int _) q⟩
end
end Nv
/-! Nv, part Lw: rows of labels: what is moved, what is left, mirrored. -/
namespace Nv
/-- without the item at a -/
def wo (ks : List Nat) (a : Nat) : List Nat := ks.take a ++ ks.drop (a + 1)
/-- places where two rows differ -/
def mism : List Nat → List Nat → Nat
  | x :: xs, y :: ys => (if x = y then 0 else 1) + mism xs ys
  | _, _ => 0
def movedN (ks : List Nat) (g : Nat) (gs : List Nat) : Nat := mism ks (wo gs g)
def mirN (n : Nat) (ks : List Nat) : List Nat := (ks.map (n - 1 - ·)).reverse
theorem wo_len {ks : List Nat} {a : Nat} (h : a < ks.length) : (wo ks a).length + 1 = ks.length := by
  unfold wo
  rw [List.length_append, List.length_take, List.length_drop]
  omega
theorem wo_cons0 {x : Nat} {ks : List Nat} : wo (x :: ks) 0 = ks := by simp [wo]
theorem wo_consS {x a : Nat} {ks : List Nat} : wo (x :: ks) (a + 1) = x :: wo ks a := by simp [wo]
theorem mism_le : ∀ (xs ys : List Nat), mism xs ys ≤ xs.length
  | [], _ => by simp [mism]
  | x :: xs, [] => by simp [mism]
  | x :: xs, y :: ys => by
    have := mism_le xs ys
    unfold mism
    rw [List.length_cons]
    split <;> omega
theorem mism_zero : ∀ {xs ys : List Nat}, xs.length = ys.length → (mism xs ys = 0 ↔ ys = xs)
  | [], [], _ => by simp [mism]
  | [], _ :: _, h => by simp at h
  | _ :: _, [], h => by simp at h
  | x :: xs, y :: ys, h => by
    have ih := mism_zero (xs := xs) (ys := ys) (by simpa using h)
    unfold mism
    rw [List.cons.injEq]
    by_cases e : x = y
    · subst e
      rw [if_pos rfl, Nat.zero_add, ih]
      simp
    · rw [if_neg e]
      exact ⟨fun z => by omega, fun z => absurd z.1.symm e⟩
theorem mism_tri : ∀ {xs ys zs : List Nat}, xs.length ≤ ys.length → mism xs zs ≤ mism xs ys + mism ys zs
  | [], _, _, _ => by simp [mism]
  | x :: xs, [], _, h => by simp at h
  | x :: xs, y :: ys, [], _ => by simp [mism]
  | x :: xs, y :: ys, z :: zs, h => by
    have ih := mism_tri (xs := xs) (ys := ys) (zs := zs) (by simpa using h)
    unfold mism
    by_cases e1 : x = y
    · subst e1
      rw [if_pos rfl]
      split <;> omega
    · rw [if_neg e1]
      split <;> split <;> omega
theorem mism_wo : ∀ (g : Nat) (xs ys : List Nat), xs.length = ys.length → mism (wo xs g) (wo ys g) ≤ mism xs ys
  | _, [], ys, _ => by simp [wo, mism]
  | _, x :: xs, [], h => by simp at h
  | 0, x :: xs, y :: ys, h => by
    rw [wo_cons0, wo_cons0]
    show _ ≤ (if x = y then 0 else 1) + mism xs ys
    omega
  | g + 1, x :: xs, y :: ys, h => by
    rw [wo_consS, wo_consS]
    have := mism_wo g xs ys (by simpa using h)
    show (if x = y then 0 else 1) + mism (wo xs g) (wo ys g) ≤ (if x = y then 0 else 1) + mism xs ys
    omega
/-- two newcomers -/
theorem two_come {ks gs ls : List Nat} {g a : Nat} (h1 : gs.length = ks.length + 1) (h2 : ls.length = gs.length + 1) (hg : g < gs.length) (ha : a < ls.length) : mism ks (wo (wo ls a) g) ≤ movedN ks g gs + movedN gs a ls := by
  have l1 := wo_len hg
  have l2 := wo_len ha
  have := mism_tri (xs := ks) (ys := wo gs g) (zs := wo (wo ls a) g) (by omega)
  have := mism_wo g gs (wo ls a) (by omega)
  unfold movedN
  omega
theorem mism_count : ∀ (xs ys : List Nat), xs.length = ys.length → mism xs ys = ((List.range xs.length).filter fun k => decide (ys.getD k 0 ≠ xs.getD k 0)).length
  | [], [], _ => rfl
  | [], _ :: _, h => by simp at h
  | _ :: _, [], h => by simp at h
  | x :: xs, y :: ys, h => by
    have ih := mism_count xs ys (by simpa using h)
    rw [List.length_cons, List.range_succ_eq_map, List.filter_cons, List.filter_map]
    have e : ((fun k => decide ((y :: ys).getD k 0 ≠ (x :: xs).getD k 0)) ∘ Nat.succ) = fun k => decide (ys.getD k 0 ≠ xs.getD k 0) := by
      funext k
      simp
    rw [e]
    show (if x = y then 0 else 1) + mism xs ys = _
    rw [ih]
    by_cases q : x = y
    · subst q
      simp
    · rw [if_neg q, if_pos (by simpa using fun z => q z.symm), List.length_cons, List.length_map, Nat.add_comm]
/-! ### by looking at all rows -/
def endsN (ks : List Nat) (n : Nat) : List Int := [-1] ++ ks.map (fun (i : Nat) => (i : Int)) ++ [(n : Int)]
def freeN (ks : List Nat) (g n : Nat) : Int := (endsN ks n).getD (g + 1) 0 - (endsN ks n).getD g 0 - 1
def ascN : List Nat → Bool
  | x :: y :: r => decide (x < y) && ascN (y :: r)
  | _ => true
theorem chk_asc : ∀ n < 8, ∀ r < 5, (combs n r).all ascN = true := by decide +kernel
theorem chk_mir : ∀ n < 8, ∀ r < 5, ((combs n r).all fun ks => decide (mirN n ks ∈ combs n r)) = true := by decide +kernel
theorem chk_moved : ∀ n < 8, ∀ r < 4, ((combs n r).all fun ks => (List.range (r + 1)).all fun g => (combs n (r + 1)).all fun gs => decide (movedN (mirN n ks) (r - g) (mirN n gs) = movedN ks g gs)) = true := by decide +kernel
theorem chk_wo : ∀ n < 8, ∀ r < 4, ((combs n (r + 1)).all fun gs => (List.range (r + 1)).all fun a => decide (wo gs a ∈ combs n r)) = true := by decide +kernel
theorem chk_free : ∀ n < 8, ∀ r < 4, ((combs n r).all fun ks => (List.range (r + 1)).all fun g => decide (((((combs n (r + 1)).filter fun gs => decide (movedN ks g gs = 0)).length : Nat) : Int) = freeN ks g n)) = true := by decide +kernel
theorem chk_wide0 : ∀ m < 8, ∀ n < 8, (!decide (n ≤ m) || (List.range 5).all fun r => decide (((combs m r).filter fun ks => ks.all fun k => decide (k < n)) = combs n r)) = true := by decide +kernel
theorem chk_wide {m n r : Nat} (hm : m < 8) (h : n ≤ m) (hr : r < 5) : ((combs m r).filter fun ks => ks.all fun k => decide (k < n)) = combs n r := by
  have z := chk_wide0 m hm n (by omega)
  rw [decide_eq_true h, Bool.not_true, Bool.false_or, List.all_eq_true] at z
  exact of_decide_eq_true (z r (List.mem_range.mpr hr))
theorem chk_ne : ∀ n < 8, ∀ r < 5, r ≤ n → combs n r ≠ [] := by decide +kernel
end Nv
/-! Nv, part Lm: sorted(range(..), key=lambda x: -y[x]). -/
namespace Nv
open PySem PySem.Spec PyProof.Rows L2 LamX
variable [Tb] [Ls]
/-- -y[x] -/
abbrev negIx (x y : Str) (p1 p2 p3 p4 : Pos) : Expr := .UnaryOp .USub (.Subscript (.Name y p1) (.Name x p2) p3) p4
/-- the names of such a lambda -/
structure LamN (x y : Str) (params : Arguments) (body : Expr) (scope : Scope) : Prop where
  kind : scope.kind = .function
  co : scope.isCoroutine = false
  gen : scope.isGenerator = false
  nc : ∀ z ∈ scope.names, z.2 ≠ .cell
  lx : scope.names.lookup x = some .local
  ly : scope.names.lookup y = some .free
  bind : ∀ (q : Str) (cl : List (Str × Addr)) (pm cv ctv v : Value), bindArgs (PySem.W.kla_fn "<lambda>" q params body scope cl pm cv ctv) ⟨[v], []⟩ = pure [(x, v)]
theorem key_call {prog : Program} {w : World} {A : Around} {s : Shared} {f c' cell b : Addr} {x y q : Str} {params : Arguments} {scope : Scope} {cl : List (Str × Addr)} {pm ctv : Value} {p1 p2 p3 p4 : Pos} {its : Array Value} {k n : Int} {u t : Tok}
    (L : LamN x y params (negIx x y p1 p2 p3 p4) scope) (hf : s.heap.get? f = some (PySem.W.kla_obj "<lambda>" q params (negIx x y p1 p2 p3 p4) scope cl pm c' ctv)) (hc : s.heap.CodeRec (.ref c') q) (hlim : s.heap.NoLimit) (hroom : A.depth < recursionLimit)
    (hcl : cl.lookup y = some cell) (hcell : s.heap.IsCell cell (some (.ref b))) (hl : s.heap.IsList b its) (hit : its[k.toNat]? = some (.int n t)) (k0 : 0 ≤ k) (k1 : k < 2 ^ 63)
    (hd : (y == ("__debug__" : Str)) = false) (hcd : (y == ("__classdict__" : Str)) = false) (hdx : (x == ("__debug__" : Str)) = false)
    (hs : ∀ (l : Value) (v : Value), subscripted (.Name x p2) false l v = operate [l, v] (getItem l v)) :
    wpAny (model prog w) A (call (.ref f) [.int k u]) (PySem.W.KeyPure (.int (-n)) s) (fun _ _ => False) s := by
  refine wpAny_call (PySem.W.kla_callFunE hroom hf rfl L.co L.gen rfl hc ?_)
  rw [L.bind]
  refine wpAny_pure (wpAny_newFunctionEnv L.nc (fun z hz => ?_) (fun h₁ hns hsb => ⟨hlim.fresh _ hsb, ?_⟩) L.kind)
  · rw [List.mem_singleton] at hz
    subst hz
    exact L.lx
  have kp : ∀ b o, s.heap.get? b = some o → h₁.get? b = some o := fun b o e => hsb.extBut b o (Nat.ne_of_lt (Heap.lt_size e)) (Heap.get?_push_of_some _ e)
  refine PySem.W.kla_codeExpr (wpAny_UnaryOp (Subscript_ ?_))
  have cell' : h₁.IsCell cell (some (.ref b)) := by
    obtain ⟨o, ho, hd'⟩ := hcell
    exact ⟨o, kp _ _ ho, hd'⟩
  refine wpAny_Name (wpAny_loadName_free L.kind L.ly hcl cell' ?_ hcd) hd
  refine wpAny_Name (wpAny_loadName_local L.kind L.lx hns (v := .int k u) ?_ ?_) hdx
  · show ([(x, Value.int k u)] : List (Str × Value)).reverse.lookup x = _
    simp [List.lookup]
  refine item_listR (k := k) (u := u) (x := .int n t) (let ⟨o, ho, r⟩ := hl; ⟨o, kp _ _ ho, r⟩) k0 k1 hit ?_ (hs _ _)
  refine neg_int ?_
  exact ⟨h₁, _, rfl, kp, .int _ _⟩
/-- the whole numbers below n -/
def upto (n : Nat) : List Int := (List.range n).map fun i => ((i : Nat) : Int)
theorem upto_mem {n : Nat} {z : Int} : z ∈ upto n ↔ 0 ≤ z ∧ z < n := by
  unfold upto
  rw [List.mem_map]
  constructor
  · rintro ⟨i, hi, rfl⟩
    have := List.mem_range.mp hi
    omega
  · rintro ⟨h0, h1⟩
    exact ⟨z.toNat, List.mem_range.mpr (by omega), by omega⟩
theorem upto_len {n : Nat} : (upto n).length = n := by unfold upto; rw [List.length_map, List.length_range]
def isK (v : Value) (x : Int) : Prop := ∃ t, v = Value.int x t
theorem each_get {α β : Type} {R : α → β → Prop} : ∀ {xs : List α} {ys : List β}, xs.length = ys.length → (∀ (i : Nat) (x : α) (y : β), xs[i]? = some x → ys[i]? = some y → R x y) → PySem.W.EachIs R xs ys
  | [], [], _, _ => .nil
  | x :: xs, y :: ys, l, h => .cons (h 0 x y rfl rfl) (each_get (by simpa using l) fun i a b e1 e2 => h (i + 1) a b (by simpa using e1) (by simpa using e2))
  | [], _ :: _, l, _ => by simp at l
  | _ :: _, [], l, _ => by simp at l
theorem each_ints : ∀ {out : List Value} {ms : List Int}, PySem.W.EachIs isK out ms → IntsAre out ms
  | _, _, .nil => .nil
  | _, _, .cons ⟨t, e⟩ r => by
    subst e
    exact .cons _ t (each_ints r)
theorem sorted_rng {prog : Program} {w : World} {A : Around} {E : Value → Shared → Prop} {s : Shared} {r f : Addr} {n : Nat} {t u v : Tok} {kf : Int → Int} {Q : Value → Shared → Prop} (hh : A.handled = none) (hr : IsRange s.heap r 0 n 1 t u v) (hn : n ≤ 100000)
    (hu : A.units + 2 < cLine)
    (turn : ∀ (k : Int) (u : Tok), 0 ≤ k → k < n → ∀ (h : Heap) (tk : Nat), (∀ b o, s.heap.get? b = some o → h.get? b = some o) →
      wpAny (model prog w) A.in1.in1 (call (.ref f) [.int k u]) (PySem.W.KeyPure (.int (kf k)) { s with heap := h, toks := tk }) (fun _ _ => False) { s with heap := h, toks := tk })
    (q : ∀ (ms : List Int) (out : List Value) (h1 h' : Heap) (tk c : Nat), (∀ b o, s.heap.get? b = some o → h1.get? b = some o) → (∀ b o, h1.get? b = some o → h'.get? b = some o) → h'.get? h1.objs.size = some (seqObj "list" out.toArray c) → IntsAre out ms → ms.Perm (upto n) →
      ms.Pairwise (fun a b => kf a ≤ kf b) → Q (.ref h1.objs.size) { s with heap := h', toks := tk }) :
    wpAny (model prog w) A (call (.builtin "sorted") [.ref r] [(Str.ofString "key", .ref f)]) Q E s := by
  refine call_function_entry_kw PyProof.Rows.kind_sorted PyProof.Rows.plain_sorted PyProof.Rows.entry_sorted ?_ ?_
  · exact PyProof.Rows.ksk_s1 _ _
  unfold Builtin.«sorted»
  refine wpAny_bind (m := checkCount "sorted" 1 1 _) (wpAny_pure ?_)
  refine wpAny_bind (collect_range (A := A.in1) hh hr (small_one (by decide) (by decide) (by omega) (by omega)) (rangeSize_nat 0 (n : Int)) (by omega) fun h1 tk1 acc k1 hi => ?_)
  have el : acc.toList.length = n := by rw [Array.length_toList, hi.1]; omega
  have e0 : PySem.W.EachIs isK acc.toList (upto n) := each_get (by rw [el, upto_len]) fun i x y e1 e2 => by
    obtain ⟨t', et⟩ := hi.2 i x (by rw [← e1, Array.getElem?_toList])
    unfold upto at e2
    rw [List.getElem?_map] at e2
    obtain ⟨j, ej, rfl⟩ := Option.map_eq_some_iff.mp e2
    obtain ⟨lj, e3⟩ := List.getElem?_eq_some_iff.mp ej
    rw [List.getElem_range] at e3
    subst e3
    exact ⟨t', by rw [et]; congr 1; omega⟩
  have fitS : acc.toList.length ≤ sizeLine := by rw [el, sizeLine_eq]; omega
  refine wpAny_bind (wpAny_newList ?_ fitS)
  have at1 : (h1.push { cls := .type "list", data := .seq acc.toList.toArray }).get? h1.objs.size = some (seqObj "list" acc.toList.toArray 0) := Heap.get?_push_size _ rfl
  have k2 : ∀ b o, s.heap.get? b = some o → (h1.push { cls := .type "list", data := .seq acc.toList.toArray }).get? b = some o := fun b o e => Heap.get?_push_of_some _ (k1 b o e)
  refine wpAny_bind (wpAny_holding (wpAny_call_entry_kw PyProof.Rows.slot_list_sort ⟨_, at1, rfl⟩ PyProof.Rows.entry_list_sort ?body (PyProof.Rows.ksk_l1 _ _)))
  case body =>
    rw [PyProof.Rows.ksk_t1]
    have up : ∀ {g : Heap}, PySem.W.KeepsBut h1.objs.size (h1.push { cls := .type "list", data := .seq acc.toList.toArray }) g → ∀ b o, h1.get? b = some o → g.get? b = some o := fun {g} kp b o e =>
      kp b o (Nat.ne_of_lt (Heap.lt_size e)) (Heap.get?_push_of_some _ e)
    have intz : ∀ d ∈ (upto n).map (fun z => PyData.int (kf z)), ∃ i, d = .int i := fun d hd => by
      obtain ⟨z, _, rfl⟩ := List.mem_map.mp hd
      exact ⟨_, rfl⟩
    refine PySem.W.keyH_tree (kz := (upto n).map fun z => PyData.int (kf z)) (s := { s with heap := h1.push { cls := .type "list", data := .seq acc.toList.toArray }, toks := tk1 }) at1 (by rw [List.length_map, upto_len, el]) fitS (fun d hd d' hd' => ?_) (.inr fun d hd => ?_) (fun d hd => ?_)
      (PySem.W.keyH_turns (s := { s with heap := h1.push { cls := .type "list", data := .seq acc.toList.toArray }, toks := tk1 }) (k := fun z => PyData.int (kf z)) e0 fun v x hR hx h tk kp => ?_) fun h' tk out c kp hD ko => ?_
    · obtain ⟨i, rfl⟩ := intz d hd
      obtain ⟨j, rfl⟩ := intz d' hd'
      rfl
    · obtain ⟨i, rfl⟩ := intz d hd
      exact ⟨(fun z => nomatch z), (fun xs z => nomatch z)⟩
    · obtain ⟨i, rfl⟩ := intz d hd
      exact hu
    · obtain ⟨t', rfl⟩ := hR
      obtain ⟨x0, x1⟩ := upto_mem.mp hx
      exact turn x t' x0 x1 h tk fun b o e => up kp b o (k1 b o e)
    · have ea := PySem.W.keyedOut_each (fun z => PyData.int (kf z)) ko e0
      rw [PySem.W.dataLe_int] at ea
      refine ⟨_, rfl, wpAny_pure ⟨_, rfl, q _ out h1 h' tk c k1 (up kp) hD (each_ints ea) (List.mergeSort_perm _ _) ?_⟩⟩
      have := List.pairwise_mergeSort (le := fun a b => decide (kf a ≤ kf b)) (fun a b c h1 h2 => by simp only [decide_eq_true_eq] at *; omega) (fun a b => by simp only [Bool.or_eq_true, decide_eq_true_eq]; omega) (upto n)
      exact this.imp fun {a b} h => of_decide_eq_true h
/-- what the table becomes -/
def Grown (H : Hp) (P : Addr) (q : Str) (ps : Array Value) (c' : Addr) (H1 : Hp) : Prop :=
  (H1 = H ∧ H c' = some (CodeO c' q)) ∨ ∃ qs : Array Value, H c' = none ∧ H1 = upd (upd H P (.tbl qs)) c' (CodeO c' q) ∧ TriplesOk qs.toList ∧ ∀ (pos : Pos) (cv : Value), codeAmong pos qs.toList = some cv → codeAmong pos ps.toList = some cv ∨ cv = .ref c'
section
variable {X : Cx} {pins : List (Addr × Obj)} {σ : L2.St} {H : Hp} {s : Shared}
theorem lam_mk {c P : Addr} {params : Arguments} {body : Expr} {scope : Scope} {pos : Pos} {ps : Array Value} {E : Value → Shared → Prop} {Q : Value → Shared → Prop} (I : Inv X pins σ H s) (TB : TabB X.base X.mg c P) (hcode : X.env.code = .ref c)
    (hP : H P = some (.tbl ps)) (T : TabOk H (X.env.qual ++ "<lambda>") ps) (hdef : defaultsOf params X.env = ([], [])) (hfree : ∀ y ∈ scope.names, y.2 = .free → ∃ c, X.env.cells.lookup y.1 = some c)
    (h : ∀ (f c' : Addr) (pm ctv : Value) (H1 : Hp) (s' : Shared), (∀ b o, b ≠ P → s.heap.get? b = some o → s'.heap.get? b = some o) → Inv X pins σ H1 s' → Grown H P (X.env.qual ++ "<lambda>") ps c' H1 → H1 c' = some (CodeO c' (X.env.qual ++ "<lambda>")) →
      s'.heap.get? f = some (PySem.W.kla_obj "<lambda>" (X.env.qual ++ "<lambda>") params body scope (cloFrom X.env.cells scope.names []) pm c' ctv) → Q (.ref f) s') :
    wpAny (model X.prog X.w) X.A (eval (.Lambda params body scope pos) X.env) Q E s := by
  have bP := TB.bm.keeps I.bk
  have oP : s.heap.get? P = some { cls := .none, data := .fields ps } := I.hok P _ hP
  refine PySem.W.kla_eval hdef ?_
  rcases hc : codeAmong pos ps.toList with _ | cv
  · refine PySem.W.kla_makeFunction (mg := X.mg) (c := c) (P := P) (ps := ps) (closure_ok hfree) I.ok.glob (I.mod.glob.keeps I.bk) hcode (TB.code.keeps I.bk) oP T.tr hc TB.gP bP ?_
    intro c' ctv h' tk keep above lt recd tab
    obtain ⟨_, oc, vs, t, e, a1, a2, a3⟩ := recd
    cases e
    have free := I.hok.fresh above
    have el : (ps ++ #[rawInt pos.line, rawInt pos.col, .ref c']).toList = ps.toList ++ [rawInt pos.line, rawInt pos.col, .ref c'] := by simp
    refine h _ c' _ ctv _ _ (fun b o ne e => Heap.get?_push_of_some _ (keep b o ne e)) (inv_table (t' := tk) I hP (fun b o ne e => Heap.get?_push_of_some _ (keep b o ne e)) (Heap.get?_push_of_some _ tab) above ⟨oc, vs, t, Heap.get?_push_of_some _ a1, a2, a3⟩)
      (.inr ⟨_, free, rfl, by rw [el]; exact PySem.TriplesOk_snoc _ _ _ _ T.tr, fun p1 v1 hv => ?_⟩) upd_same (Heap.get?_push_size _ rfl)
    rw [el] at hv
    exact among_app _ T.tr hv
  · obtain ⟨c', rfl, co⟩ := T.co _ _ hc
    refine PySem.W.kla_makeFunctionHit (mg := X.mg) (c := c) (P := P) (ps := ps) (closure_ok hfree) I.ok.glob (I.mod.glob.keeps I.bk) hcode (TB.code.keeps I.bk) oP T.tr hc bP ?_
    intro ctv h' tk keep _
    exact h _ c' _ ctv H _ (fun b o _ e => Heap.get?_push_of_some _ (keep b o e)) (I.kept (t' := tk) fun b o e => Heap.get?_push_of_some _ (keep b o e)) (.inl ⟨rfl, co⟩) co (Heap.get?_push_size _ rfl)
end
/-- sorted(range(e), key=lambda x: -y[x]), y at slot j -/
def zSortLam (K : PySem.W.Frag) (P : Addr) (q : Str) (o : Option (Option V)) (Q : VK) (n : Nat) (H1 : Hp) : Prop := ∃ (b : Addr) (ns : List Int) (ps : Array Value), n ≤ 100000 ∧ o = some (some (.ref b)) ∧ SqL K H1 b (ns.map V.int) ∧ n ≤ ns.length ∧
  H1 P = some (.tbl ps) ∧ TabOk H1 q ps ∧
  ∀ (ms : List Int) (H2 : Hp) (c' p : Addr), ms.Perm (upto n) → ms.Pairwise (fun a b => ns.getD b.toNat 0 ≤ ns.getD a.toNat 0) → Grown H1 P q ps c' H2 → H2 p = none → Q (.ref p) (upd H2 p (.lst (ms.map V.int)))
def tSortLam (K : PySem.W.Frag) (P : Addr) (q : Str) (j : Nat) (te : TE) : TE := fun σ H Q => tRg1 te σ H fun a b H1 => a = 0 ∧ ∃ n : Nat, b = n ∧ zSortLam K P q σ[j]? Q n H1
theorem pe_sortLam {X : Cx} {k : Nat} {c P : Addr} {j : Nat} {x y : Str} {params : Arguments} {scope : Scope} {p1 p2 p3 p4 p p' lpos kpos pos pos' : Pos} {e : Expr} {te : TE} (hr : Room (k + 1) X.A) (TB : TabB X.base X.mg c P) (hcode : X.env.code = .ref c)
    (hg : Gl X "sorted") (hm : X.mg "sorted" = none) (hg2 : Gl X "range") (hm2 : X.mg "range" = none) (L : LamN x y params (negIx x y p1 p2 p3 p4) scope) (hN : X.N[j]? = some y) (hy : X.env.scope.names.lookup y = some .cell) (hns : ∀ z ∈ scope.names, z.2 = .free → z.1 = y)
    (he : PE X e te) (hdef : defaultsOf params X.env = ([], [])) (hd : (y == ("__debug__" : Str)) = false := by decide) (hcd : (y == ("__classdict__" : Str)) = false := by decide) (hdx : (x == ("__debug__" : Str)) = false := by decide)
    (hs : ∀ (l : Value) (v : Value), subscripted (.Name x p2) false l v = operate [l, v] (getItem l v) := by exact fun _ _ => rfl)
    (na : starEach [e] X.env = (false, eval e X.env) :: starEach [] X.env := by rfl) :
    PE X (.Call (.Name "sorted" p) [.Call (.Name "range" p') [e] [] pos'] [⟨some "key", .Lambda params (negIx x y p1 p2 p3 p4) scope lpos, kpos⟩] pos) (tSortLam X.K P (X.env.qual ++ "<lambda>") j te) := by
  refine ⟨fun pins s σ H Q I h => ?_⟩
  refine wpAny_Call_Name_kw (ld_blt I hg hm b_sorted ?_)
  refine PyProof.Rows.callWith_kw (args_cons (thn (prg_1 hg2 hm2 he na pins s σ H _ I h) fun v s1 hv => args_nil ?_) rfl) rfl rfl rfl rfl
  obtain ⟨r, a0, b0, t, u, w0, H1, rfl, hr1, I1, rfl, n, rfl, b, ns, ps, ln, hb, sq, lns, hP, T, fin⟩ := hv
  show wpAny _ _ (evalAll [(do let v ← eval (.Lambda params (negIx x y p1 p2 p3 p4) scope lpos) X.env; standAt pos; pure v)]) _ _ s1
  obtain ⟨m, hn, hl⟩ := I1.loc
  obtain ⟨cv, rcv, lc⟩ := hl j y _ hN hb (.inr (.inl hy))
  obtain rfl : cv = Value.ref b := rcv
  obtain ⟨cell, hc, hcell⟩ : ∃ cell, X.env.cells.lookup y = some cell ∧ s1.heap.IsCell cell (some (.ref b)) := by
    rcases lc with ⟨z, _⟩ | ⟨_, c1, e1, e2⟩
    · rw [show X.env.scope.names.lookup y = _ from z] at hy
      cases hy
    · exact ⟨c1, e1, e2⟩
  refine wpAny_evalAll_cons (wpAny_bind (lam_mk (P := P) (c := c) I1 TB hcode hP T hdef (fun z hz e => ⟨cell, by rw [hns z hz e]; exact hc⟩) fun f c' pm ctv H2 s2 kp I2 gr co hf => wpAny_bind (wpAny_standAt (wpAny_pure (wpAny_evalAll_nil ?_)))))
  have oP : s1.heap.get? P = some { cls := .none, data := .fields ps } := I1.hok P _ hP
  obtain ⟨its, rv, pl, hz⟩ := I1.list sq
  have rr : IsRange s2.heap r 0 n 1 t u w0 := kp _ _ (fun z => by
    rw [z] at hr1
    have := oP.symm.trans hr1
    cases this) hr1
  obtain ⟨ob, b1, b2, b3, b4⟩ := pl.isList
  have lb : s2.heap.IsList b its.toArray := ⟨ob, kp _ _ (fun z => by
    rw [z, oP] at b1
    cases b1
    cases b4) b1, b2, b3, b4⟩
  obtain ⟨oc, c1, c2⟩ := hcell
  have cl2 : s2.heap.IsCell cell (some (.ref b)) := ⟨oc, kp _ _ (fun z => by
    rw [z, oP] at c1
    cases c1
    cases c2) c1, c2⟩
  obtain ⟨⟨od, vs, tq, d1, d2, d3⟩, _, _⟩ := I2.hok c' _ co
  have lm := I2.nolimit
  have hu := hr.un
  have lk : (cloFrom X.env.cells scope.names []).lookup y = some cell := by
    obtain ⟨c9, e9⟩ := mem_lookup (cloFrom_has (cells := X.env.cells) (acc := []) (PySem.mem_of_lookup L.ly))
    rcases cloFrom_mem (PySem.mem_of_lookup e9) with z | ⟨_, z⟩
    · cases z
    · rw [e9, z, hc]
      rfl
  refine sorted_rng (kf := fun z => -(ns.getD z.toNat 0)) (n := n) hr.hd rr ln (by omega) (fun k u9 k0 k1 h9 tk9 kp9 => ?_) fun ms out h1 h' tk cc e1 e2 e3 e4 e5 e6 => ?_
  · have lt : k.toNat < ns.length := by omega
    have lti : k.toNat < its.length := by rw [← rv.length, List.length_map]; exact lt
    obtain ⟨w9, ew, rw9⟩ := rv.get (i := k.toNat) (x := .int (ns.getD k.toNat 0)) (by rw [List.getElem?_map, List.getElem?_eq_getElem lt, List.getD_eq_getElem?_getD, List.getElem?_eq_getElem lt]; rfl)
    obtain ⟨t9, rfl⟩ := rw9
    exact key_call (s := { s2 with heap := h9, toks := tk9 }) L (kp9 _ _ hf) ⟨c', od, vs, tq, rfl, kp9 _ _ d1, d2, d3⟩ (lm.keeps kp9) (show X.A.depth < recursionLimit by have := hr.dp; omega) lk
      (let ⟨o, a, r⟩ := cl2; ⟨o, kp9 _ _ a, r⟩) (let ⟨o, a, r⟩ := lb; ⟨o, kp9 _ _ a, r⟩) (by simpa using ew) k0 (by omega) hd hcd hdx hs
  · have I3 : Inv X pins σ H2 { s2 with heap := h1, toks := tk } := I2.kept e1
    have lz : (ms.map V.int).length ≤ sizeLine := by
      rw [List.length_map, e5.length_eq, upto_len, sizeLine_eq]
      omega
    exact ⟨.ref h1.objs.size, upd H2 h1.objs.size (.lst (ms.map V.int)), I3.laid (t' := tk) e2 (Nat.le_refl _) ⟨lz, out, cc, vals_of_ints e4, e3⟩, rfl, fin ms H2 c' _ e5 (e6.imp fun {a b} h => by omega) gr (I3.hok.fresh (Nat.le_refl _))⟩
end Nv
/-! Nv, part Tb: promises that may grow the tables. -/
namespace Nv
open PySem PySem.Spec PyProof.Rows L2
variable [Tb] [Ls]
/-- as spW; the tables may grow -/
def spWT (c : Spc) (n : Nat) : Sp := fun vs H Q E => ∃ (S : Addr → Prop) (G : Hp) (as : List Sl), as.length = n ∧ (∀ a, Tb.U a → S a) ∧ Same G H ∧ StO S G H ∧ Args S G as vs ∧ c.pre as ∧
  (∀ v d G' H', Stp S G H G' H' → Same G' H' → StO S G' H' → At G' v d → c.post as d → Q v H') ∧ RzW S E (c.err as) G H
theorem wps_runT {N : List Str} {c : Spc} {n : Nat} {t : TS} {vs : List V} {H : Hp} {Q : VK} {E : XK} {S : Addr → Prop} {G : Hp} {as : List Sl} (l : as.length = n) (us : ∀ a, Tb.U a → S a) (sm : Same G H) (st : StO S G H) (ar : Args S G as vs)
    (k : ∀ v d G' H', Stp S G H G' H' → Same G' H' → StO S G' H' → At G' v d → c.post as d → Q v H') (r : RzW S E (c.err as) G H)
    (h : ∀ T : Tr, (∀ a, Tb.U a → T.S a) → WpS ⟨E, c.err as, T⟩ t (as ++ List.replicate (N.length - n) .no) (fun _ => c.post as .non) (c.post as)) :
    t { nx := fun _ H' => Q .non H', rt := Q } (L2.start N vs) H := by
  subst l
  refine h ⟨fun b => H b ≠ none, S, fun _ _ => False⟩ us _ G H (ens_start sm st ar fun _ _ z => z.elim) r.rz _ (fun δ' σ' G' H' sB en q => ?_) fun v d G' H' sB sm' so a q => ?_
  · exact k _ _ G' H' sB.full en.same en.stt .non q
  · exact k v d G' H' sB.full sm' so a q
section
variable {P : Program} {w : World} {K : PySem.W.Frag} {mg : Str → Option Value} {base : Heap}
theorem Fn.okT {x : Str} {st : Stmt} {N ps : List Str} {f : Addr} {fd : FuncData} {n k : Nat} {c : Spc} (F : Fn K mg x st ps f fd) (S : FnScope N ps (defScope st)) (hn : ps.length = n)
    (h : ∀ (cdv : Value) (A : Around) (outer : List Env) (s : Shared) (H : Hp) (E : XK) (as : List Sl), Room k (A.deeper (envOfC x (defScope st) s.heap.objs.size f cdv)) → c.pre as → as.length = n →
      ∃ t, PSs (cxOf CX0 P w K mg base N x (defScope st) f cdv A outer s H E).nox (defBody st) t ∧
        ∀ T : Tr, (∀ a, Tb.U a → T.S a) → WpS ⟨E, c.err as, T⟩ t (as ++ List.replicate (N.length - n) .no) (fun _ => c.post as .non) (c.post as)) :
    Dk P w K mg base x CX0 (k + 1) ps (spWT c n) := by
  refine ⟨f, fd, F.F.ok S (fun vs H Q E h => ?_) (fun cdv A outer s H vs Q E hr q => ?_), F.m, F.F.kp, F.b⟩
  · obtain ⟨S, G, as, l, _, _, _, ar, _⟩ := h
    rw [← ar.length, l, hn]
  · obtain ⟨S, G, as, l, us, sm, so, ar, p, k, r⟩ := q
    obtain ⟨t, h1, h2⟩ := h cdv A outer s H E as hr p l
    exact ⟨t, h1, wps_runT l us sm so ar k r h2⟩
end
/-- a def that raises nothing, any E -/
theorem wpe_callT {R : Rg} {δ : List Sl} {tr : TA} {φ : D → Prop} {c : Spc} {n : Nat} {E : XK} (us : ∀ a, Tb.U a → R.T.S a) (h : WpA R tr δ fun as => as.length = n ∧ c.pre as ∧ (∀ d, c.post as d → φ d) ∧ ∀ C d, ¬ c.err as C d) : WpE R (tCall (spWT c n) [] E tr) δ φ := fun σ G H en rz Q k =>
  h σ G H en rz _ fun vs as G1 H1 s1 e1 a1 ⟨l, p, q, r⟩ => by
    show spWT c n (vs ++ []) H1 Q E
    rw [List.append_nil]
    exact ⟨R.T.S, G1, as, l, us, e1.same, e1.stt, a1, p, fun v d G' H' st sm so a pq => k v d G' H' (s1.trans st) (e1.step st (fun _ z => z) sm so) a (q d pq), fun C dd w d G' H' st hx a x => (r C d x).elim⟩
/-- sorted(range(e), key=lambda x: -y[x]) -/
theorem wpe_sortLam {R : Rg} {δ : List Sl} {te : TE} {φ : D → Prop} {K : PySem.W.Frag} {P : Addr} {q : Str} {j : Nat} {ns : List Int} (hU : Tb.U P) (hq : q = Tb.nm P) (us : ∀ a, Tb.U a → R.T.S a) (ej : δ[j]? = some (.da (.lst (ns.map D.int))))
    (h : WpE R te δ fun x => ∃ n : Nat, x = .int n ∧ n ≤ 100000 ∧ n ≤ ns.length ∧ ∀ ms : List Int, ms.Perm (upto n) → ms.Pairwise (fun a b => ns.getD b.toNat 0 ≤ ns.getD a.toNat 0) → φ (.lst (ms.map D.int))) :
    WpE R (tSortLam K P q j te) δ φ := fun σ G H en rz Q k => by
  subst hq
  exact
  h σ G H en rz _ fun v x G1 H1 s1 e1 a1 ⟨n, ex, ln, lns, fin⟩ => by
    subst ex
    cases a1
    obtain ⟨o, eo, v2, rfl, a2⟩ := e1.get j _ ej
    obtain ⟨b, xs, rfl, gb, al⟩ := at_lst a2
    obtain rfl := atAll_ints al
    obtain ⟨gP, oP, hP, mo⟩ := e1.stt P (us P hU)
    rcases mo with ⟨nU, _⟩ | ⟨_, ps, rfl, tk⟩
    · exact absurd hU nU
    have tk1 : TabOk H1 (Tb.nm P) ps := tk.same e1.same
    refine ⟨(n : Int), rfl, rfl, n, rfl, b, ns, ps, ln, eo, sqL_of e1.same gb, lns, hP, tk1, fun ms H2 c' p hp hs gr hf => ?_⟩
    rcases gr with ⟨rfl, co⟩ | ⟨qs, fc, rfl, tr, ca⟩
    · have st : Stp S0 G1 H2 (upd G1 p (.lst (ms.map V.int))) (upd H2 p (.lst (ms.map V.int))) := .new e1.same hf
      exact k _ _ _ _ (s1.trans st.zero) (e1.step0 st (upd_same2 e1.same)) (.lst upd_same (ints_atAll ms)) (fin ms hp hs)
    · have gc : G1 c' = none := e1.same.free fc
      have nPc : P ≠ c' := fun z => by rw [z, fc] at hP; exact nomatch hP
      -- the table grows, the new code is told
      have g12 : Same G1 (upd G1 c' (LamX.CodeO c' (Tb.nm P))) := same_upd gc
      have sm2 : Same (upd G1 c' (LamX.CodeO c' (Tb.nm P))) (upd (upd H1 P (.tbl qs)) c' (LamX.CodeO c' (Tb.nm P))) := fun b u e => by
        by_cases z : b = c'
        · subst z
          rw [upd_same] at e ⊢
          exact e
        · rw [upd_ne z] at e ⊢
          rw [upd_ne (fun y => by rw [y, gP] at e; exact nomatch e)]
          exact e1.same b u e
      have st2 : Stp R.T.S G1 H1 (upd G1 c' (LamX.CodeO c' (Tb.nm P))) (upd (upd H1 P (.tbl qs)) c' (LamX.CodeO c' (Tb.nm P))) := by
        refine ⟨g12, fun b u e n => ?_, fun b e => ?_, fun b e1' e2' => ?_⟩
        · rw [upd_ne (ne_of_none e fc), upd_ne (fun y => n (by rw [y]; exact us P hU))]
          exact e
        · by_cases z : b = c'
          · rw [z, upd_same]; exact fun q => nomatch q
          · rw [upd_ne z]
            by_cases y : b = P
            · rw [y, upd_same]; exact fun q => nomatch q
            · rw [upd_ne y]; exact e
        · rw [upd_ne (fun z => e2' (by rw [z]; exact fc))]
          exact e1'
      have so2 : StO R.T.S (upd G1 c' (LamX.CodeO c' (Tb.nm P))) (upd (upd H1 P (.tbl qs)) c' (LamX.CodeO c' (Tb.nm P))) := fun a ha => by
        obtain ⟨ga, oa, ea, ma⟩ := e1.stt a ha
        have nac : a ≠ c' := ne_of_none ea fc
        refine ⟨by rw [upd_ne nac]; exact ga, ?_⟩
        by_cases y : a = P
        · subst y
          refine ⟨.tbl qs, by rw [upd_ne nac, upd_same], .inr ⟨hU, qs, rfl, tr, fun pos cv hc => ?_⟩⟩
          rcases ca pos cv hc with z | z
          · obtain ⟨c9, e9, h9⟩ := tk.co pos cv z
            exact ⟨c9, e9, g12 _ _ h9⟩
          · exact ⟨c', z, upd_same⟩
        · exact ⟨oa, by rw [upd_ne nac, upd_ne y]; exact ea, ma.same g12⟩
      have e2 := e1.step st2 (fun _ z => z) sm2 so2
      have st3 : Stp S0 _ _ (upd _ p (.lst (ms.map V.int))) (upd _ p (.lst (ms.map V.int))) := .new e2.same hf
      exact k _ _ _ _ ((s1.trans st2).trans st3.zero) (e2.step0 st3 (upd_same2 e2.same)) (.lst upd_same (ints_atAll ms)) (fin ms hp hs)
end Nv
/-! Nv, part Du: comprehensions of one loop over any walk: {e for x in ..}; the walker itself. -/
namespace Nv
open PySem PySem.Spec PyProof.Rows L2 PpSet
section
variable {X : Cx}
/-- one loop of the comprehension cx: behind the store of each item the body, which is to reach the next wish -/
theorem comp_walk {cx tg : Expr} {ci : Nat} {ip : Pos} {body : Sem Unit} {itr : Addr} {acc : Value} {J : It} {fp : List Addr} {tn : Nat → Heap → Prop} {g : TG} {pins : List (Addr × Obj)} {τ : L2.St} {R : Result → Shared → Prop}
    (heq : compTurn cx ci (.ref itr) acc X.env = (do
      standAt ip
      match ← pyNext (.ref itr) with
      | none => pure (.done .next)
      | some v =>
        letOwnedTupleGo tg (.ref itr) v
        assign tg X.env v
        body
        again (.compLoop cx ci (.ref itr) acc X.env)))
    (hun : X.A.under (.compLoop cx ci (.ref itr) acc X.env) = X.A) (hden : (model X.prog X.w).den (.compLoop cx ci (.ref itr) acc X.env) = (compTurn cx ci (.ref itr) acc X.env).onRaise fun x => do noteFrame x X.env; theTreesLotGoes x)
    (hc : X.calm = true) (hx : X.xe = fun _ _ => False) (T : Turn X.prog X.w X.K tg J fp itr tn) (pg : PG X tg g)
    (fpo : ∀ {σ' : L2.St} {H' : Hp} {s' : Shared}, Inv X pins σ' H' s' → (∀ b ∈ fp, H' b = none) → ∀ b ∈ fp, FpOk X pins H' b) (W : Nat → Nat → Hp → Prop)
    (turn : ∀ i m H, W i m H → (J.stop i H ∧ ∀ s', Inv X pins τ H s' → R (.ok .next) s') ∨
      (J.go i H ∧ ∃ Nx : Hp → Prop, (∀ H', Nx H' → ∃ m', m' < m ∧ W (i + 1) m' H') ∧ ∀ x H', J.yld i H x H' → ∃ C : L2.St → Hp → Prop, g x τ H' C ∧ ∀ σ2 H2, C σ2 H2 →
        ∀ pl s2, Inv X (pins ++ pl) σ2 H2 s2 → wpAny (model X.prog X.w) X.A body (fun _ s3 => ∃ σ3 H3, Inv X (pins ++ pl) σ3 H3 s3 ∧ τ.length = σ3.length ∧ (∀ (j : Nat) v, τ[j]? = some (some v) → σ3[j]? = some (some v)) ∧ Nx H3) (fun _ _ => False) s2))
    {s : Shared} {m0 : Nat} {H0 : Hp} (I : Inv X pins τ H0 s) (tt0 : tn 0 s.heap) (n0 : ∀ b ∈ fp, H0 b = none) (w0 : W 0 m0 H0) :
    codeAny (model X.prog X.w) X.A (.compLoop cx ci (.ref itr) acc X.env) R s := by
  refine codeAny_loop rfl (fun m s' => ∃ i H', Inv X pins τ H' s' ∧ tn i s'.heap ∧ (∀ b ∈ fp, H' b = none) ∧ W i m H') (fun m s5 ⟨i, H5, I5, t5, n5, w5⟩ => ?_) m0 ⟨0, H0, I, tt0, n0, w0⟩
  rw [hun, hden]
  refine wpAny_noted ?_
  rw [heq]
  refine wpAny_bind (wpAny_standAt (wpAny_bind ?_))
  rcases turn i m H5 w5 with ⟨stop, fin⟩ | ⟨go, Nx, nx, step⟩
  · refine thnF (T.done X rfl rfl rfl hc i pins s5 τ H5 (fun _ _ => False) I5 (fpo I5 n5) t5 stop) fun r s6 ⟨er, I6⟩ => ?_
    subst er
    exact wpAny_pure (fin s6 I6)
  · refine thnF (T.item X rfl rfl rfl hc i pins s5 τ H5 (fun _ _ => False) I5 (fpo I5 n5) t5 go) fun r s6 ⟨u, er, h6⟩ => ?_
    subst er
    refine wpAny_bind (thnF h6 fun _ s7 ⟨x, H7, I7, rx, y7, t7, n7⟩ => ?_)
    have ob := T.obj _ _ t7
    have I8 := I7.pinned (fpo I7 n7) ob
    refine wpAny_bind ?_
    obtain ⟨C, c1, c2⟩ := step x H7 y7
    have st := pg.run _ s7 τ H7 x u _ I8 rx c1
    rw [hx] at st
    refine thnF st fun _ s8 ⟨σ8, H8, I9, q8⟩ => wpAny_bind (thnF (c2 _ _ q8 _ s8 I9) fun _ s9 ⟨σ9, H9, I10, l9, k9, z⟩ => ?_)
    obtain ⟨m', lt, w'⟩ := nx H9 z
    have stay : ∀ b ∈ fp, ∀ o, s7.heap.get? b = some o → s9.heap.get? b = some o ∧ H9 b = none := fun b hb o e => by
      have := I10.pin (b, o) (List.mem_append_right _ (List.mem_append_right _ (mem_pinsAt hb e)))
      exact ⟨this.1, this.2.1⟩
    refine wpAny_pure ⟨rfl, m', lt, i + 1, H9, I10.unpinned.weak l9 k9, T.keep _ _ _ t7 fun b hb o e => (stay b hb o e).1, fun b hb => ?_, w'⟩
    obtain ⟨o, e, _⟩ := ob b hb
    exact (stay b hb o e).2
end
abbrev sc1E (elt t0 i0 : Expr) (sc : Scope) (pos : Pos) : Expr := .SetComp elt [⟨t0, i0, [], 0⟩] sc pos
section
variable {elt t0 i0 : Expr} {sc : Scope} {pos : Pos} {it acc : Value} {env : Env}
theorem turn1 : compTurn (sc1E elt t0 i0 sc pos) 0 it acc env = (do
    standAt i0.pos
    match ← pyNext it with
    | none => pure (.done .next)
    | some v =>
      letOwnedTupleGo t0 it v
      assign t0 env v
      bodyI elt acc env
      again (.compLoop (sc1E elt t0 i0 sc pos) 0 it acc env)) := by rfl
end
/-- {elt for tg in iter}; D: the new set, W: what holds ahead of each turn -/
def tSc1 (w : World) (wi : TI) (g : TG) (te : TE) (vs : List Nat) : TE := fun σ H Q => wi σ H fun J H1 => ∀ D, H1 D = none → ∃ W : Nat → Nat → Hp → Prop, (∃ m, W 0 m (upd H1 D (SetTO w D []))) ∧
  ∀ i m H2, W i m H2 → (J.stop i H2 ∧ Q (.ref D) H2) ∨ (J.go i H2 ∧ ∃ Nx : Hp → Prop, (∀ H', Nx H' → ∃ m', m' < m ∧ W (i + 1) m' H') ∧
    ∀ x H3, J.yld i H2 x H3 → g x (wipe σ vs) H3 fun σ2 H4 => wipe σ2 vs = wipe σ vs ∧
          te σ2 H4 fun z H9 => ∃ k ks, z = kV k ∧ H9 D = some (SetTO w D ks) ∧ ks.length + 1 < scanBound ∧ Nx (upd H9 D (SetTO w D (insK ks k))))
section
variable {X : Cx}
theorem pe_sc1 {elt tg iter : Expr} {scope : Scope} {own : List (Str × Nat)} {pos : Pos} {wi : TI} {g : TG} {te : TE} (hc : X.calm = true) (hN : X.N.Nodup) (hi : PI X tg iter wi) (ok : BlkOk X.N X.env.scope scope own)
    (hg : ∀ s H C cl fp, PG (X.blk s H scope (compEnvC scope cl C X.env) fp) tg g)
    (he : ∀ s H C cl fp, PE (X.blk s H scope (compEnvC scope cl C X.env) fp) elt te) (hs : ∀ x, foldedSetIterable iter X.env x = pure x := by intro _; rfl) :
    PE X (sc1E elt tg iter scope pos) (tSc1 X.w wi g te (own.map (·.2))) := by
  constructor
  intro pins s σ H Q I h
  have known : ∀ y ∈ scope.names, y.2 = .free → ∃ c, X.env.cells.lookup y.1 = some c := fun y hy e => (ok.free y hy e).elim (fun z => I.ok.has _ (.inl z)) fun z => I.ok.has _ (.inr z)
  show wpAny (model X.prog X.w) X.A (comprehension (sc1E elt tg iter scope pos) scope X.env _ (newSet (.type "set")) false (eval iter X.env)) _ X.xe s
  refine wpAny_comprehension_free (use := none) rfl hs (closure_ok known) ok.kind (fun y hy e => (ok.uniq y hy).trans (congrArg some e)) (thn (hi.run pins s σ H _ I h) fun xv s1 hx => thn hx fun itv s2 ⟨itr, fp, tn, J, H2, ei, I2, T, t2, f2, q⟩ => ?_)
  subst ei
  refine newSet_ok (newEnv_comp ?_)
  generalize eD : s2.heap.objs.size = D at q ⊢
  obtain ⟨W, ⟨m0, w0⟩, turn⟩ := q D (I2.hok.fresh (Nat.le_of_eq eD))
  generalize es3 : ({ s2 with heap := s2.heap.push { cls := .type "set", dict := none, data := .set #[] 0 (.fresh 0 0 (!X.w.params.followText "set-order")) } } : Shared) = s3
  have h3 : s3.heap = s2.heap.push { cls := .type "set", dict := none, data := .set #[] 0 (.fresh 0 0 (!X.w.params.followText "set-order")) } := by rw [← es3]
  have I3 : Inv X pins σ (upd H2 D (SetTO X.w D [])) s3 := by
    rw [← es3]
    exact I2.laid (t' := s2.toks) (fun b o e => Heap.get?_push_of_some _ e) (Nat.le_of_eq eD) (setTO_ok (by rw [← eD]; exact stT_new X.w))
  generalize eH3 : upd H2 D (SetTO X.w D []) = H3 at I3 w0
  have old : ∀ b ∈ fp, FpOk X pins H3 b ∧ b < s3.heap.objs.size := fun b hb => by
    obtain ⟨o, e, _⟩ := T.obj _ _ t2 b hb
    have lt := Heap.lt_size e
    refine ⟨⟨?_, (f2 b hb).2⟩, by rw [h3, Heap.size_push]; exact Nat.lt_succ_of_lt lt⟩
    rw [← eH3, upd_ne (by rw [← eD]; exact Nat.ne_of_lt lt)]
    exact (f2 b hb).1
  have t3 : tn 0 s3.heap := T.keep _ _ _ t2 fun b _ o e => by rw [h3]; exact Heap.get?_push_of_some _ e
  have I4 := block_start I3 ok hN old
  have pg := hg s3 H3 s3.heap.objs.size (cellsFrom (s3.heap.objs.size + 1) scope.names (cloFrom X.env.cells scope.names [])) fp
  have pe := he s3 H3 s3.heap.objs.size (cellsFrom (s3.heap.objs.size + 1) scope.names (cloFrom X.env.cells scope.names [])) fp
  show codeAny _ _ (.compStart (sc1E elt tg iter scope pos) 0 (.ref itr) (.ref D) (compEnvC scope (cellsFrom (s3.heap.objs.size + 1) scope.names (cloFrom X.env.cells scope.names [])) s3.heap.objs.size X.env)) (compPost (model X.prog X.w) X.A X.xe none _ (.ref D) s3.heap.objs.size) { s3 with heap := pushCells (s3.heap.push { cls := .type "dict", data := .dict #[] }) scope.names }
  have eL : (compEnvC scope (cellsFrom (s3.heap.objs.size + 1) scope.names (cloFrom X.env.cells scope.names [])) s3.heap.objs.size X.env).locals = s3.heap.objs.size := rfl
  generalize compEnvC scope (cellsFrom (s3.heap.objs.size + 1) scope.names (cloFrom X.env.cells scope.names [])) s3.heap.objs.size X.env = ce at I4 pg pe eL ⊢
  generalize es4 : ({ s3 with heap := pushCells (s3.heap.push { cls := .type "dict", data := .dict #[] }) scope.names } : Shared) = s4 at I4 ⊢
  have t4 : tn 0 s4.heap := T.keep _ _ _ t3 fun b _ o e => by rw [← es4]; exact pushCells_keeps _ _ _ _ (Heap.get?_push_of_some _ e)
  let Y : Cx := X.blk s3 H3 scope ce fp
  have fpo : ∀ {σ' : L2.St} {H' : Hp} {s' : Shared}, Inv Y [] σ' H' s' → (∀ b ∈ fp, H' b = none) → ∀ b ∈ fp, FpOk Y [] H' b := fun {σ' H' s'} J' no b hb =>
    ⟨no b hb, (J'.ok.exf b hb).1, J'.ok.exfs b hb, .inl hb, (J'.ok.exf b hb).2, fun p hp => by simp [Y] at hp⟩
  have lw : ∀ (τ : L2.St) vs, (wipe τ vs).length = τ.length := fun τ vs => wipe_length τ vs
  have walk : codeAny (model X.prog X.w) X.A (.compLoop (sc1E elt tg iter scope pos) 0 (.ref itr) (.ref D) ce) (compPost (model X.prog X.w) X.A X.xe none (fun v s' => EP X pins σ Q v s') (.ref D) s3.heap.objs.size) s4 := by
    refine comp_walk (X := Y) (pins := []) (τ := wipe σ (own.map (·.2))) turn1 rfl rfl hc rfl T pg fpo W (fun i m H5 w5 => ?_) I4 t4 (fun b hb => (old b hb).1.1) w0
    rcases turn i m H5 w5 with ⟨stop, qq⟩ | ⟨go, Nx, nx, step⟩
    · refine .inl ⟨stop, fun s' I6 => ?_⟩
      have I7 : Inv X pins σ H5 s' := I3.call' (ch := fp) I6.os I6.base I6.hok I6.bare fun b hb => ⟨(old b hb).1.2.2.2.1, (old b hb).1.2.1, (old b hb).1.2.2.2.2.1, (old b hb).1.2.2.2.2.2⟩
      obtain ⟨mm, hn, _⟩ := I6.loc
      have hn : s'.heap.Ns ce.locals mm := hn
      have none5 : H5 ce.locals = none := I6.free
      rw [eL] at hn none5
      obtain ⟨f0, f1, f2, f3, f4, f5⟩ := I3.fpOk (Nat.le_refl _) none5
      exact ⟨mm, hn, fun h'' sb => ⟨.ref D, H5, I7.turned (t' := s'.toks) (fun b o nb e => (sb.2 b nb).trans e) f0 f1 f3 f4 f5, rfl, qq⟩⟩
    · refine .inr ⟨go, Nx, nx, fun x H6 y6 => ?_⟩
      refine ⟨_, step x H6 y6, fun σ2 H7 ⟨e2, q2⟩ pl s6 I6 => ?_⟩
      unfold bodyI
      refine wpAny_bind (thnF (pe.run _ s6 σ2 H7 _ I6 q2) fun zv s10 ⟨yv, H12, I10, rz, key, ks, ek, hD, room, nx2⟩ => ?_)
      subst ek
      refine wpAny_bind (wpAny_standAt (wpAny_bind (addK_ok (X := Y) I10 hD rz room fun s11 I11 => wpAny_pure ⟨σ2, _, I11, ?_, fun j v e => ?_, nx2⟩)))
      · rw [← e2, lw]
      · rw [← e2] at e
        exact (wipe_some e).1
  exact codeAny_compStart_set walk (T.self X.A 0 _ _ _ t4 walk)
end
end Nv
/-! Nv, part Dv: sorted({e for x in ..}), ints. -/
namespace Nv
open PySem PySem.Spec PyProof.Rows L2 SrtO Srt
def unL : Key → Int
  | .inl x => x
  | .inr _ => 0
theorem unL_map : ∀ {l : List Int}, (l.map (Sum.inl (β := Str))).map unL = l
  | [] => rfl
  | x :: l => congrArg (x :: ·) unL_map
section
variable {P : Program} {w : World} {A : Around} {E : Value → Shared → Prop} {s : Shared} {a : Addr} {ks : List Key}
theorem stI_sorted {xs : List Int} {Q : Value → Shared → Prop} (r : StT w s.heap a (xs.map Sum.inl)) (hh : A.handled = none)
    (q : ∀ (s1 : Shared) (p : Addr) (out : List Value) (c : Nat), (∀ b o, s.heap.get? b = some o → s1.heap.get? b = some o) → s1.gens = s.gens → s1.os = s.os → s.heap.objs.size ≤ p →
      s1.heap.get? p = some (seqObj "list" out.toArray c) → IntsAre out (out.map iv) → (out.map iv).Perm xs → (out.map iv).Pairwise (· ≤ ·) → Q (.ref p) s1) :
    wpAny (model P w) A (call (.builtin "sorted") [.ref a]) Q E s := by
  obtain ⟨o, es, ep, t, ho, hx, hd, n⟩ := r
  refine Calls.call_function_entry kind_sorted plain_sorted entry_sorted (args_sorted1 _) ?_
  unfold Builtin.«sorted»
  refine wpAny_bind (m := checkCount "sorted" 1 1 _) (wpAny_pure ?_)
  refine wpAny_bind (collect_set (A := A.in1) hh ⟨o, ho, hx.1, hd⟩ n.fit n.sz n.ris n.led fun s1 vs keep big gen os pm => ?_)
  have lv : vs.length ≤ sizeLine := by
    rw [pm.length_eq, List.length_map, Array.length_toList]
    exact fits_of_scanBound n.sz
  have all : ∀ v ∈ vs, ∃ x t, v = Value.int x t := fun v hv => by
    obtain ⟨e, he, rfl⟩ := List.mem_map.mp (pm.mem_iff.mp hv)
    have hk : ky e ∈ xs.map Sum.inl := n.pm.mem_iff.mp (List.mem_map.mpr ⟨e, he, rfl⟩)
    obtain ⟨x, _, ex⟩ := List.mem_map.mp hk
    rcases keyIs_shape (n.kp e he).is with ⟨i, t, _, e2⟩ | ⟨y, t, e1, _⟩
    · exact ⟨i, t, e2⟩
    · rw [← ex] at e1
      exact nomatch e1
  have hI := ints_iv all
  have px : (vs.map iv).Perm xs := by
    have h1 : (vs.map iv).map (Sum.inl (β := Str)) = vs.map fun v => ky (0, v) := by
      rw [List.map_map]
      refine List.map_congr_left fun v hv => ?_
      obtain ⟨x, t, rfl⟩ := all v hv
      rfl
    have h2 : (vs.map fun v => ky (0, v)).Perm (es.toList.map ky) := by
      have h3 := pm.map fun v => ky (0, v)
      rw [List.map_map] at h3
      exact h3
    have h4 : ((vs.map iv).map (Sum.inl (β := Str))).Perm (xs.map Sum.inl) := by
      rw [h1]
      exact h2.trans n.pm
    have h5 := h4.map unL
    rw [unL_map, unL_map] at h5
    exact h5
  have new : (s1.heap.push (seqObj "list" vs.toArray 0)).get? s1.heap.objs.size = some (seqObj "list" vs.toArray 0) := Heap.get?_push_size _ rfl
  refine wpAny_bind (wpAny_newList ?_ lv)
  refine wpAny_bind (wpAny_holding (wpAny_call_entry slot_list_sort ⟨_, new, rfl⟩ entry_list_sort (list_sort_ord swo_int new lv (fun two => ints_sortable hI two) fun out h1 h2 => ⟨_, rfl, ?_⟩) (args_list_sort _)))
  obtain ⟨k1, k2, k3⟩ := ints_out hI h1 h2
  obtain ⟨c, hc⟩ := sortedHeap_at (vs := vs) (out := out.toArray) new
  refine wpAny_pure ⟨_, rfl, q _ s1.heap.objs.size out c (fun b u e => ?_) gen os big hc k1 (k2.trans px) k3⟩
  have e9 := keep b u e
  have lt := Heap.lt_size e9
  show (sortedHeap _ _ _ _).get? b = some u
  rw [sortedHeap_old (Nat.ne_of_lt lt) (by rw [size_push']; exact Nat.lt_succ_of_lt lt)]
  exact Heap.get?_push_of_some _ e9
end
theorem vals_intsL : ∀ {us : List Value} {xs : List Int}, IntsAre us xs → Vals (xs.map V.int) us
  | _, _, .nil => .nil
  | _, _, .cons x t r => .cons ⟨t, rfl⟩ (vals_intsL r)
section
variable {X : Cx}
/-- sorted(a set of ints) -/
def rSrtSI (w : World) : List V → Hp → VK → Prop := fun vs H Q => ∃ (a : Addr) (xs : List Int), vs = [V.ref a] ∧ H a = some (SetTO w a (xs.map Sum.inl)) ∧
  ∀ (ys : List Int) (p : Addr), ys.Perm xs → ys.Pairwise (· ≤ ·) → H p = none → Q (.ref p) (upd H p (.lst (ys.map V.int)))
theorem cr_srtSI (hc : X.calm = true) : CallR X (.builtin "sorted") (rSrtSI X.w) := by
  intro pn st sg Hh args vals Kq J rel ⟨a, xs, ea, hs, q⟩
  subst ea
  have R := setTO_get J hs
  rw [Vals.ref1 rel]
  refine stI_sorted R (J.ok.hd hc) fun s1 p out c keep gen os big at_ k1 k2 k3 => ?_
  have free : Hh p = none := J.hok.fresh big
  have len : ((out.map iv).map V.int).length ≤ sizeLine := by
    obtain ⟨o, es, ep, t, _, _, _, n⟩ := R
    rw [List.length_map, k2.length_eq, ← List.length_map (f := (Sum.inl : Int → Key)), ← n.len]
    exact fits_of_scanBound n.sz
  have J2 : Inv X pn sg (upd Hh p (.lst ((out.map iv).map V.int))) { st with heap := s1.heap, gens := s1.gens, drawn := s1.drawn, toks := s1.toks } :=
    J.call (ch := []) (Un.laid keep big free) (J.hok.laid keep big ⟨len, out, c, vals_intsL k1, at_⟩) (by rw [gen]; exact J.bare) (fun _ z => nomatch z)
  have e : s1 = { st with heap := s1.heap, gens := s1.gens, drawn := s1.drawn, toks := s1.toks } := by
    obtain ⟨_, _, _, _, _⟩ := s1
    obtain ⟨_, _, _, _, _⟩ := st
    cases os
    rfl
  rw [e]
  exact ⟨.ref p, _, J2, rfl, q _ p k2 k3 free⟩
theorem cr_srtSIw {w : World} (h : X.w = w) (hc : X.calm = true) : CallR X (.builtin "sorted") (rSrtSI w) := h ▸ cr_srtSI hc
theorem pe_sc1w {w : World} (h : X.w = w) {elt tg iter : Expr} {scope : Scope} {own : List (Str × Nat)} {pos : Pos} {wi : TI} {g : TG} {te : TE} (hc : X.calm = true) (hN : X.N.Nodup) (hi : PI X tg iter wi) (ok : BlkOk X.N X.env.scope scope own)
    (hg : ∀ s H C cl fp, PG (X.blk s H scope (compEnvC scope cl C X.env) fp) tg g)
    (he : ∀ s H C cl fp, PE (X.blk s H scope (compEnvC scope cl C X.env) fp) elt te) (hs : ∀ x, foldedSetIterable iter X.env x = pure x := by intro _; rfl) :
    PE X (sc1E elt tg iter scope pos) (tSc1 w wi g te (own.map (·.2))) := h ▸ pe_sc1 hc hN hi ok hg he hs
end
variable [Tb] [Ls]
noncomputable def insI (xs : List Int) (x : Int) : List Int := @ite _ (x ∈ xs) (Classical.propDecidable _) xs (xs ++ [x])
theorem insI_old {xs : List Int} {x : Int} (h : x ∈ xs) : insI xs x = xs := by unfold insI; exact if_pos h
theorem insI_new {xs : List Int} {x : Int} (h : x ∉ xs) : insI xs x = xs ++ [x] := by unfold insI; exact if_neg h
theorem insI_K {xs : List Int} {x : Int} : insK (xs.map Sum.inl) (Sum.inl x) = (insI xs x).map Sum.inl := by
  by_cases h : x ∈ xs
  · rw [insI_old h, insK_old (List.mem_map.mpr ⟨x, h, rfl⟩)]
  · rw [insI_new h, insK_new (fun z => by
      obtain ⟨y, hy, e⟩ := List.mem_map.mp z
      exact h (Sum.inl.inj e ▸ hy)), List.map_append]
    rfl
theorem insI_mem {xs : List Int} {x y : Int} : y ∈ insI xs x ↔ y ∈ xs ∨ y = x := by
  by_cases h : x ∈ xs
  · rw [insI_old h]
    exact ⟨.inl, fun z => z.elim id fun e => e ▸ h⟩
  · rw [insI_new h, List.mem_append, List.mem_singleton]
theorem insI_nodup {xs : List Int} {x : Int} (n : xs.Nodup) : (insI xs x).Nodup := by
  by_cases h : x ∈ xs
  · rw [insI_old h]
    exact n
  · rw [insI_new h, List.nodup_append]
    exact ⟨n, by simp, fun a ha b hb => by
      rw [List.mem_singleton] at hb
      subst hb
      exact fun e => h (e ▸ ha)⟩
theorem insI_len {xs : List Int} {x : Int} : (insI xs x).length ≤ xs.length + 1 := by
  by_cases h : x ∈ xs
  · rw [insI_old h]
    exact Nat.le_succ _
  · rw [insI_new h, List.length_append]
    exact Nat.le_refl _
theorem asc_intsV {ys : List Int} (h : ys.Pairwise (· ≤ ·)) (n : ys.Nodup) : ys.Pairwise (· < ·) :=
  (h.and n).imp fun {a b} ⟨h1, h2⟩ => by
    have : a ≠ b := h2
    omega
section
variable {R : Rg} {δ : List Sl} {te ta tb tc : TE} {tr : TA} {φ : D → Prop} {K : PySem.W.Frag}
/-- sorted({f(d) for d in ..}) -/
theorem wpe_srtSc1 {w : World} {wi : TI} {g : TG} {vs js : List Nat} (f : D → Int) (hjs : ∀ j ∈ js, j ∈ vs)
    (h : WpI R wi δ fun ds => ds.length ≤ 4000 ∧ (∀ d ∈ ds, WpG R g d (wipeD δ vs) js fun δ2 => WpE R te δ2 fun y => y = .int (f d)) ∧
      ∀ ys : List Int, ys.Pairwise (· < ·) → (∀ x, x ∈ ys ↔ x ∈ ds.map f) → φ (.lst (ys.map D.int))) :
    WpE R (tCB (rSrtSI w) (tCons (tSc1 w wi g te vs) tNil)) δ φ := fun σ G H en rz Q k => by
  refine h σ G H en rz _ fun J ds G1 H1 s1 e1 wk ⟨lU, step, fin⟩ => ?_
  intro Dl hD
  have gD : G1 Dl = none := e1.same.free hD
  have fD : ¬ R.T.S Dl ∧ ¬ R.T.O Dl := by
    refine ⟨fun z => ?_, fun z => e1.old Dl z hD⟩
    obtain ⟨_, w, e, _⟩ := e1.stt Dl z
    rw [hD] at e
    exact nomatch e
  have ew := e1.wipe vs
  let Nx : Nat → Hp → Prop := fun i H' => ∃ (xs : List Int) (G' : Hp), Stp R.T.S G1 H1 G' H' ∧ Same G' H' ∧ StO R.T.S G' H' ∧ G' Dl = none ∧ H' Dl = some (SetTO w Dl (xs.map Sum.inl)) ∧ xs.Nodup ∧ xs.length ≤ i ∧ (∀ x, x ∈ xs ↔ x ∈ (ds.take i).map f)
  refine ⟨fun i m H' => m = ds.length - i ∧ i ≤ ds.length ∧ Nx i H', ⟨_, rfl, Nat.zero_le _, [], G1, Stp.grow (same_upd hD), e1.same.trans (same_upd hD), fun a ha => ?_, gD, upd_same, .nil, Nat.le_refl _, fun x => by simp⟩, ?_⟩
  · obtain ⟨q, w, e, mo⟩ := e1.stt a ha
    exact ⟨q, w, by rw [upd_ne (ne_of_none e hD)]; exact e, mo⟩
  rintro i m H' ⟨rfl, hi, xs, G', st, sm, so, gd, hd', nd, ln0, mm⟩
  have e' : Ens R.T G' H' (wipeD δ vs) (L2.wipe σ vs) := ew.step st (fun _ z => z) sm so
  obtain ⟨go, stop, yld⟩ := wk G' H' st.gs sm
  by_cases lt : i < ds.length
  · refine .inr ⟨go i lt, Nx (i + 1), fun H2 z => ⟨ds.length - (i + 1), by omega, rfl, lt, z⟩, fun x H2 y => ?_⟩
    obtain ⟨d, G2, ed, s2, sm2, at2⟩ := yld i x H2 lt y
    have tk : ds.take (i + 1) = ds.take i ++ [d] := by rw [List.take_add_one, ed]; rfl
    have e2 := e'.step0 s2 sm2
    have st2 := st.trans s2.zero
    have gd2 : G2 Dl = none := s2.gn Dl gd (by rw [hd']; exact fun z => nomatch z)
    have hd2 : H2 Dl = some (SetTO w Dl (xs.map Sum.inl)) := s2.same _ _ hd'
    refine step d (List.mem_of_getElem? ed) (L2.wipe σ vs) G2 H2 x e2 at2 _ fun σ3 δ3 e3 ag ln wE => ⟨wipe_eq hjs ag ln, ?_⟩
    have rz2 : Rz R G2 H2 := (rz.stepB (s1.toB en.old)).stepB (st2.toB e1.old)
    refine wE σ3 G2 H2 e3 rz2 _ fun v y8 G8 H8 s8 e8 a8 q8 => ?_
    subst q8
    cases a8
    have gd8 : G8 Dl = none := s8.gn Dl gd2 (by rw [hd2]; exact fun z => nomatch z)
    have hd8 : H8 Dl = some (SetTO w Dl (xs.map Sum.inl)) := s8.hs _ _ hd2 fD.1
    have st8 := st2.trans s8
    have sm9 : Same G8 (upd H8 Dl (SetTO w Dl ((insI xs (f d)).map Sum.inl))) := fun b u e => by rw [upd_ne (ne_of_none e gd8)]; exact e8.same b u e
    have so9 : StO R.T.S G8 (upd H8 Dl (SetTO w Dl ((insI xs (f d)).map Sum.inl))) := fun a ha => by
      obtain ⟨q1, w1, q2, mo⟩ := e8.stt a ha
      exact ⟨q1, w1, by rw [upd_ne (show a ≠ Dl from fun z => fD.1 (by rw [← z]; exact ha))]; exact q2, mo⟩
    have st9 : Stp R.T.S G1 H1 G8 (upd H8 Dl (SetTO w Dl ((insI xs (f d)).map Sum.inl))) := ⟨st8.gs, fun b u e n => by rw [upd_ne (ne_of_none e hD)]; exact st8.hs b u e n, fun b e => by
      by_cases z : b = Dl
      · rw [z, upd_same]; exact fun q => nomatch q
      · rw [upd_ne z]; exact st8.al b e, st8.gn⟩
    refine ⟨Sum.inl (f d), xs.map Sum.inl, rfl, hd8, ?_, ?_⟩
    · rw [List.length_map]
      exact Nat.lt_of_le_of_lt (m := 4001) (by omega) (by decide)
    · rw [insI_K]
      refine ⟨insI xs (f d), G8, st9, sm9, so9, gd8, upd_same, insI_nodup nd, Nat.le_trans insI_len (by omega), fun x => ?_⟩
      rw [insI_mem, mm, tk, List.map_append, List.mem_append]
      simp
  · have e : i = ds.length := by omega
    subst e
    refine .inl ⟨stop, Dl, xs, rfl, hd', fun ys p hp hs fp => ?_⟩
    rw [List.take_length] at mm
    have s2 : Stp S0 G' H' (upd G' p (.lst (ys.map V.int))) (upd H' p (.lst (ys.map V.int))) := .new sm fp
    have en' : Ens R.T G' H' δ σ := e1.step st (fun _ z => z) sm so
    exact k _ _ _ _ ((s1.trans st).trans s2.zero) (en'.step0 s2 (upd_same2 sm)) (.lst upd_same (ints_atAll ys)) (fin ys (asc_intsV hs (hp.nodup_iff.mpr nd)) fun x => by rw [hp.mem_iff, mm])
end
end Nv
/-! Nv, part Dw: dicts whose keys are tuples, told as objects: made by a comprehension, read, walked. -/
namespace Nv
open PySem PySem.Spec PyProof.Rows L2
section
variable {P : Program} {w : World} {H : Hp} {h : Heap} {a : Addr} {o : Obj} {kvs : List (List Key × Addr × V)}
theorem dobj_ok (e : h.get? a = some o) : ObjOk P w H h a (DObj a o) := ⟨e, ⟨o, e⟩, fun _ _ p k => k o p⟩
theorem dobj_get (ok : HOk P w H h) (e : H a = some (DObj a o)) : h.get? a = some o := (ok a _ e).1
/-- a tuple of ints and texts that may be read is a key -/
theorem key_rd {ks : List Key} (ok : HOk P w H h) (e : Rd H a (.tup (ks.map kV))) : (tupleKind (mixKind P w)).is h ks a := by
  obtain ⟨_, its, r, ob, h1, h2, n, h3⟩ := (show ObjOk P w H h a (.tup (ks.map kV)) from e.ok ok)
  exact ⟨ob, its.toArray, n, h1, h2, h3, by simpa using items_are r⟩
/-- a dict of these keys as it stands -/
structure DTR (w : World) (H : Hp) (a : Addr) (o : Obj) (kvs : List (List Key × Addr × V)) : Prop where
  here : H a = some (DObj a o)
  raw : DRaw w a o kvs
  key : ∀ p ∈ kvs, Rd H p.2.1 (.tup (p.1.map kV))
abbrev KP : List (List Key × Addr × V) → List (List Key × Addr × Value) → Prop := Paired fun p q => p.1 = q.1 ∧ p.2.1 = q.2.1 ∧ RelV p.2.2 q.2.2
theorem kp_fst : ∀ {kvs : List (List Key × Addr × V)} {xs : List (List Key × Addr × Value)}, KP kvs xs → xs.map (·.1) = kvs.map (·.1)
  | _, _, .nil => rfl
  | _, _, .cons r t => by rw [List.map_cons, List.map_cons, kp_fst t, r.1]
theorem kp_len : ∀ {kvs : List (List Key × Addr × V)} {xs : List (List Key × Addr × Value)}, KP kvs xs → kvs.length = xs.length
  | _, _, .nil => rfl
  | _, _, .cons r t => congrArg Nat.succ (kp_len t)
theorem kp_in : ∀ {kvs : List (List Key × Addr × V)} {xs : List (List Key × Addr × Value)}, KP kvs xs → ∀ x ∈ xs, ∃ p ∈ kvs, p.1 = x.1 ∧ p.2.1 = x.2.1
  | _, _, .nil, x, hx => nomatch hx
  | _, _, .cons (a := p) r t, x, hx => by
    rcases List.mem_cons.mp hx with rfl | hx
    · exact ⟨p, List.mem_cons_self, r.1, r.2.1⟩
    · obtain ⟨q, m, z⟩ := kp_in t x hx
      exact ⟨q, List.mem_cons_of_mem _ m, z⟩
theorem kp_get : ∀ {kvs : List (List Key × Addr × V)} {xs : List (List Key × Addr × Value)}, KP kvs xs → ∀ {i : Nat} {p : List Key × Addr × V}, kvs[i]? = some p → ∃ q, xs[i]? = some q ∧ p.1 = q.1 ∧ p.2.1 = q.2.1 ∧ RelV p.2.2 q.2.2
  | _, _, .nil, i, p, h => by simp at h
  | _, _, .cons (b := q) r t, 0, p, h => by
    simp at h
    subst h
    exact ⟨q, rfl, r⟩
  | _, _, .cons r t, i + 1, p, h => by simpa using kp_get t (i := i) (p := p) (by simpa using h)
theorem dtr_of (ok : HOk P w H h) (d : DTR w H a o kvs) : ∃ xs, KP kvs xs ∧ h.DictOfH (tupleKind (mixKind P w)) a xs := by
  obtain ⟨lo, ex, len, nd, xs, es, ep, pr, dt, et⟩ := d.raw
  refine ⟨xs, pr, o, es, ep, dobj_get ok d.here, ex, dt, et, fun x hx => ?_, by rw [kp_fst pr]; exact nd⟩
  obtain ⟨p, m, e1, e2⟩ := kp_in pr x hx
  rw [← e1, ← e2]
  exact key_rd ok (d.key p m)
theorem at_key {xs : List (List Key × Addr × Value)} (nd : (xs.map (·.1)).Nodup) {i : Nat} {q : List Key × Addr × Value} (e : xs[i]? = some q) : atKey xs q.1 = some q.2 := by
  unfold atKey
  induction xs generalizing i with
  | nil => simp at e
  | cons x xs ih =>
    rw [List.map_cons] at nd
    obtain ⟨n1, n2⟩ := List.nodup_cons.mp nd
    cases i with
    | zero =>
      simp at e
      subst e
      simp
    | succ i =>
      have e' : xs[i]? = some q := by simpa using e
      have ne : ¬ x.1 = q.1 := fun z => n1 (by rw [z]; exact List.mem_map.mpr ⟨q, List.mem_of_getElem? e', rfl⟩)
      rw [List.find?_cons, decide_eq_false ne]
      exact ih n2 e'
theorem at_none {xs : List (List Key × Addr × Value)} {k : List Key} (h : k ∉ xs.map (·.1)) : atKey xs k = none := by
  unfold atKey
  rw [List.find?_eq_none.mpr]
  · rfl
  · intro x hx z
    exact h (List.mem_map.mpr ⟨x, hx, of_decide_eq_true z⟩)
theorem draw_nil {lo : (a == sysModules) = false} : DRaw w a { cls := .type "dict", data := .dict #[] } [] :=
  ⟨lo, ⟨rfl, rfl, rfl⟩, Nat.zero_le _, List.nodup_nil, [], #[], 0, .nil, rfl, rfl⟩
end
section
variable {X : Cx} {pins : List (Addr × Obj)} {σ : L2.St} {H : Hp} {s : Shared} {a : Addr} {o : Obj} {kvs : List (List Key × Addr × V)} {A : Around} {E : Value → Shared → Prop}
/-- d[k], there -/
theorem dt_getItem {Q : Value → Shared → Prop} {b : Addr} {i : Nat} {p : List Key × Addr × V} (hu : A.units + 1 < cLine) (I : Inv X pins σ H s) (d : DTR X.w H a o kvs) (hb : Rd H b (.tup (p.1.map kV))) (e : kvs[i]? = some p)
    (q : ∀ w' s', Inv X pins σ H s' → RelV p.2.2 w' → Q w' s') : wpAny (model X.prog X.w) A (getItem (.ref a) (.ref b)) Q E s := by
  obtain ⟨xs, pr, dd⟩ := dtr_of I.hok d
  obtain ⟨x, ex, e1, _, e3⟩ := kp_get pr e
  have nd : (xs.map (·.1)).Nodup := by rw [kp_fst pr]; exact d.raw.2.2.2.1
  have hk := at_key nd ex
  rw [← e1] at hk
  exact wpAny_getItem_heap (tupleKind_room_in1 hu) (key_rd I.hok hb) dd hk (q _ _ (I.tok _) e3)
/-- D[k] = v, k new, by a comprehension -/
theorem dt_new {Q : Unit → Shared → Prop} {b : Addr} {k : List Key} {v : V} {r : Value} (hu : A.units < cLine) (I : Inv X pins σ H s) (d : DTR X.w H a o kvs) (hb : Rd H b (.tup (k.map kV))) (hk : k ∉ kvs.map (·.1)) (hz : kvs.length < sizeLine) (rv : RelV v r)
    (q : ∀ o' s', DRaw X.w a o' (kvs ++ [(k, b, v)]) → Inv X pins σ (upd H a (DObj a o')) s' → Q () s') : wpAny (model X.prog X.w) A (dictSet a (.ref b) r) Q E s := by
  obtain ⟨xs, pr, dd⟩ := dtr_of I.hok d
  have no : atKey xs k = none := at_none (by rw [kp_fst pr]; exact hk)
  refine wpAny_dictSet_heap (hsz := by rw [← kp_len pr]; omega) hu (key_rd I.hok hb) dd fun h' dd' sb => ?_
  obtain ⟨o', es, ep, ge, ex, dt, et, _, nd⟩ := dd'
  rw [storedH_new no] at et nd
  have pr' : KP (kvs ++ [(k, b, v)]) (xs ++ [(k, b, r)]) := Paired.snoc pr ⟨rfl, rfl, rv⟩
  refine q o' _ ⟨d.raw.1, ex, by rw [List.length_append]; exact hz, by rw [← kp_fst pr']; exact nd, _, es, ep, pr', dt, et⟩ ?_
  exact I.write (e := a) (by rw [d.here]; exact trivial) (.inl rfl) (fun c u nc z => (sb.2 c nc).trans z) ⟨o', ge⟩ (dobj_ok ge)
end
/-! ### rules -/
/-- d[k] -/
def tDGetT (w : World) (td ty : TE) : TE := fun σ H Q => td σ H fun x H1 => ty σ H1 fun y H2 => ∃ (a b : Addr) (o : Obj) (kvs : List (List Key × Addr × V)) (i : Nat) (p : List Key × Addr × V), x = .ref a ∧ y = .ref b ∧ DTR w H2 a o kvs ∧ Rd H2 b (.tup (p.1.map kV)) ∧ kvs[i]? = some p ∧ Q p.2.2 H2
def ItkT (w : World) (a : Addr) (o : Obj) (kvs : List (List Key × Addr × V)) : It :=
  ⟨fun i H => DTR w H a o kvs ∧ i < kvs.length, fun i H x H' => H' = H ∧ ∃ p, kvs[i]? = some p ∧ x = .ref p.2.1, fun i H => DTR w H a o kvs ∧ kvs.length ≤ i⟩
def iKeysT (w : World) (td : TE) : TI := fun σ H R => td σ H fun x H1 => ∃ a o kvs, x = .ref a ∧ DTR w H1 a o kvs ∧ R (ItkT w a o kvs) H1
/-- {k: v for tg in iter}, the keys tuples, each new -/
def tDcT (w : World) (wi : TI) (g : TG) (tk tv : TE) (vs : List Nat) : TE := fun σ H Q => wi σ H fun J H1 => ∀ D o0, H1 D = none → DRaw w D o0 [] → ∃ W : Nat → Nat → Hp → Prop, (∃ m, W 0 m (upd H1 D (DObj D o0))) ∧
  ∀ i m H2, W i m H2 → (J.stop i H2 ∧ Q (.ref D) H2) ∨ (J.go i H2 ∧ ∃ Nx : Hp → Prop, (∀ H', Nx H' → ∃ m', m' < m ∧ W (i + 1) m' H') ∧
    ∀ x H3, J.yld i H2 x H3 → g x (wipe σ vs) H3 fun σ2 H4 => wipe σ2 vs = wipe σ vs ∧
      tk σ2 H4 fun y H5 => tv σ2 H5 fun z H6 => ∃ o kvs k b, y = .ref b ∧ Rd H6 b (.tup (k.map kV)) ∧ DTR w H6 D o kvs ∧ k ∉ kvs.map (·.1) ∧ kvs.length < sizeLine ∧
        ∀ o', DRaw w D o' (kvs ++ [(k, b, z)]) → Nx (upd H6 D (DObj D o')))
abbrev dc1E (kx vx t0 i0 : Expr) (sc : Scope) (pos : Pos) : Expr := .DictComp kx vx [⟨t0, i0, [], 0⟩] sc pos
def bodyD (kx vx : Expr) (D : Addr) (env : Env) : Sem Unit := do
  let kv ← eval kx env
  let vv ← holding [kv] (eval vx env)
  standAt { kx.pos with endLine := vx.pos.endLine, endCol := vx.pos.endCol }
  holding [kv, vv] (dictSet D kv vv)
section
variable {kx vx t0 i0 : Expr} {sc : Scope} {pos : Pos} {it : Value} {D : Addr} {env : Env}
theorem turnD : compTurn (dc1E kx vx t0 i0 sc pos) 0 it (.ref D) env = (do
    standAt i0.pos
    match ← pyNext it with
    | none => pure (.done .next)
    | some v =>
      letOwnedTupleGo t0 it v
      assign t0 env v
      bodyD kx vx D env
      again (.compLoop (dc1E kx vx t0 i0 sc pos) 0 it (.ref D) env)) := by rfl
end
section
variable {X : Cx}
theorem pe_dgetT {o i : Expr} {pos : Pos} {td ty : TE} (hu : X.A.units + 1 < cLine) (ho : PE X o td) (hi : PE X i ty) (hs : NoSl i) : PE X (.Subscript o i pos) (tDGetT X.w td ty) := by
  constructor
  intro pins s σ H Q I h
  refine subD_of PySem.F.slot_dict_getitem.lookup hs (thn (ho.run pins s σ H _ I h) fun u s1 ⟨x, H1, I1, rx, q1⟩ => thn (hi.run pins s1 σ H1 _ I1 q1) fun iv s2 ⟨y, H2, I2, ry, a, b, ob, kvs, j, p, ex, ey, d, hb, e, q2⟩ => ?_)
  subst ex ey
  obtain rfl : u = Value.ref a := rx
  obtain rfl : iv = Value.ref b := ry
  obtain ⟨xs, _, dd⟩ := dtr_of I2.hok d
  exact ⟨dd.typeIs, dt_getItem hu I2 d hb e fun w' s3 I3 rw' => ⟨p.2.2, H2, I3, rw', q2⟩⟩
theorem turn_dt {w : World} {P : Program} {K : PySem.W.Frag} {tg : Expr} {a : Addr} {o : Obj} {kvs : List (List Key × Addr × V)} {es : Array DictEntry} {ep : Nat} (it : Addr) (hod : o.data = .dict es ep) :
    Turn P w K tg (ItkT w a o kvs) [it] it (fun i h => h.IsKeyIter it a i kvs.length ep) where
  mem := List.mem_singleton.mpr rfl
  obj := fun i h st b hb => by
    obtain rfl := List.mem_singleton.mp hb
    obtain ⟨oi, e, _, dd⟩ := st
    exact ⟨oi, e, fun v z => by rw [dd] at z; exact nomatch z⟩
  keep := fun i h h' st k => st.at fun oi e => k it (List.mem_singleton.mpr rfl) oi e
  item := by
    intro X hP hw hK hc i pins s σ H E I hf st ⟨d, hi⟩
    subst hP hw hK
    obtain ⟨f0, f1, f2, f3, f4, f5⟩ := hf it (List.mem_singleton.mpr rfl)
    obtain ⟨lo, ex, _, _, xs, es', ep', pr, dt, et⟩ := d.raw
    obtain ⟨rfl, rfl⟩ := dict_ep hod dt
    obtain ⟨p, hp⟩ : ∃ p, kvs[i]? = some p := ⟨_, List.getElem?_eq_getElem hi⟩
    obtain ⟨x, hx, e1, e2, _⟩ := kp_get pr hp
    have sz : es'.size = kvs.length := by rw [kp_len pr, ← Array.length_toList, et, List.length_map]
    have en : es'[i]? = some ⟨khash X.w x.1, .ref x.2.1, x.2.2⟩ := by
      rw [← Array.getElem?_toList, et, List.getElem?_map, hx]
      rfl
    refine next_key_item st (dobj_get I.hok d.here) dt sz en fun h' st' sb => ?_
    obtain ⟨oi, eo, c, dd⟩ := id st'
    refine ⟨.ref x.2.1, rfl, go_of (s := { s with heap := h' }) eo c dd (by decide) ⟨.ref x.2.1, H, I.turned (t' := s.toks) (fun b ob hb e => (sb.2 b hb).trans e) f0 f1 f3 f4 f5, rfl, ⟨rfl, p, hp, by rw [e2]⟩, st', fun b hb => (hf b hb).1⟩⟩
  done := by
    intro X hP hw hK hc i pins s σ H E I hf st ⟨d, hi⟩
    subst hP hw hK
    obtain ⟨f0, f1, f2, f3, f4, f5⟩ := hf it (List.mem_singleton.mpr rfl)
    obtain ⟨lo, ex, _, _, xs, es', ep', pr, dt, et⟩ := d.raw
    obtain ⟨rfl, rfl⟩ := dict_ep hod dt
    have sz : es'.size = kvs.length := by rw [kp_len pr, ← Array.length_toList, et, List.length_map]
    exact next_key_end (I.ok.hd hc) st (dobj_get I.hok d.here) dt sz hi fun h' eb => ⟨rfl, I.turned (t' := s.toks) (fun b ob hb e => eb b ob hb e) f0 f1 f3 f4 f5⟩
  self := fun _ _ _ _ _ st q => wpAny_pyIter_keyiter st q
theorem pi_keysT {tg e : Expr} {td : TE} (he : PE X e td) : PI X tg e (iKeysT X.w td) := by
  constructor
  intro pins s σ H R I h
  refine thn (he.run pins s σ H _ I h) fun u s1 ⟨x, H1, I1, rx, a, o, kvs, ex, d, q⟩ => ?_
  subst ex
  obtain rfl : u = Value.ref a := rx
  obtain ⟨lo, exd, _, _, xs, es, ep, pr, dt, et⟩ := id d.raw
  have sz : es.size = kvs.length := by rw [kp_len pr, ← Array.length_toList, et, List.length_map]
  refine iter_keys lo (dobj_get I1.hok d.here) exd dt (pi_one (tk := s1.toks) I1 _ (turn_dt _ dt) ⟨_, Heap.get?_push_size _ rfl, rfl, ?_⟩ q)
  rw [sz]
  rfl
theorem pe_dcT {kx vx tg iter : Expr} {scope : Scope} {own : List (Str × Nat)} {pos : Pos} {wi : TI} {g : TG} {tk tv : TE} (hu : X.A.units + 1 < cLine) (hc : X.calm = true) (hN : X.N.Nodup) (hi : PI X tg iter wi) (ok : BlkOk X.N X.env.scope scope own)
    (hg : ∀ s H C cl fp, PG (X.blk s H scope (compEnvC scope cl C X.env) fp) tg g)
    (hk : ∀ s H C cl fp, PE (X.blk s H scope (compEnvC scope cl C X.env) fp) kx tk) (hv : ∀ s H C cl fp, PE (X.blk s H scope (compEnvC scope cl C X.env) fp) vx tv) (hs : ∀ x, foldedSetIterable iter X.env x = pure x := by intro _; rfl) :
    PE X (dc1E kx vx tg iter scope pos) (tDcT X.w wi g tk tv (own.map (·.2))) := by
  constructor
  intro pins s σ H Q I h
  have known : ∀ y ∈ scope.names, y.2 = .free → ∃ c, X.env.cells.lookup y.1 = some c := fun y hy e => (ok.free y hy e).elim (fun z => I.ok.has _ (.inl z)) fun z => I.ok.has _ (.inr z)
  rw [arm_eval_DictComp]
  refine wpAny_comprehension_free (use := none) rfl hs (closure_ok known) ok.kind (fun y hy e => (ok.uniq y hy).trans (congrArg some e)) (thn (hi.run pins s σ H _ I h) fun xv s1 hx => thn hx fun itv s2 ⟨itr, fp, tn, J, H2, ei, I2, T, t2, f2, q⟩ => ?_)
  subst ei
  refine wpAny_newObj_type (newEnv_comp ?_)
  generalize eD : s2.heap.objs.size = D at q ⊢
  have lo : (D == sysModules) = false := by
    rw [← eD]
    exact beq_eq_false_iff_ne.mpr (Ne.symm (Nat.ne_of_lt I2.big))
  obtain ⟨W, ⟨m0, w0⟩, turn⟩ := q D _ (I2.hok.fresh (Nat.le_of_eq eD)) (draw_nil (lo := lo))
  generalize es3 : ({ s2 with heap := s2.heap.push { cls := .type "dict", data := .dict #[] } } : Shared) = s3
  have h3 : s3.heap = s2.heap.push { cls := .type "dict", data := .dict #[] } := by rw [← es3]
  have I3 : Inv X pins σ (upd H2 D (DObj D { cls := .type "dict", data := .dict #[] })) s3 := by
    rw [← es3]
    exact I2.laid (t' := s2.toks) (fun b o e => Heap.get?_push_of_some _ e) (Nat.le_of_eq eD) (dobj_ok (by rw [← eD]; exact Heap.get?_push_size _ rfl))
  generalize eH3 : upd H2 D (DObj D { cls := .type "dict", data := .dict #[] }) = H3 at I3 w0
  have old : ∀ b ∈ fp, FpOk X pins H3 b ∧ b < s3.heap.objs.size := fun b hb => by
    obtain ⟨o, e, _⟩ := T.obj _ _ t2 b hb
    have lt := Heap.lt_size e
    refine ⟨⟨?_, (f2 b hb).2⟩, by rw [h3, Heap.size_push]; exact Nat.lt_succ_of_lt lt⟩
    rw [← eH3, upd_ne (by rw [← eD]; exact Nat.ne_of_lt lt)]
    exact (f2 b hb).1
  have t3 : tn 0 s3.heap := T.keep _ _ _ t2 fun b _ o e => by rw [h3]; exact Heap.get?_push_of_some _ e
  have I4 := block_start I3 ok hN old
  have pg := hg s3 H3 s3.heap.objs.size (cellsFrom (s3.heap.objs.size + 1) scope.names (cloFrom X.env.cells scope.names [])) fp
  have pk := hk s3 H3 s3.heap.objs.size (cellsFrom (s3.heap.objs.size + 1) scope.names (cloFrom X.env.cells scope.names [])) fp
  have pv := hv s3 H3 s3.heap.objs.size (cellsFrom (s3.heap.objs.size + 1) scope.names (cloFrom X.env.cells scope.names [])) fp
  show codeAny _ _ (.compStart (dc1E kx vx tg iter scope pos) 0 (.ref itr) (.ref D) (compEnvC scope (cellsFrom (s3.heap.objs.size + 1) scope.names (cloFrom X.env.cells scope.names [])) s3.heap.objs.size X.env)) (compPost (model X.prog X.w) X.A X.xe none _ (.ref D) s3.heap.objs.size) { s3 with heap := pushCells (s3.heap.push { cls := .type "dict", data := .dict #[] }) scope.names }
  have eL : (compEnvC scope (cellsFrom (s3.heap.objs.size + 1) scope.names (cloFrom X.env.cells scope.names [])) s3.heap.objs.size X.env).locals = s3.heap.objs.size := rfl
  generalize compEnvC scope (cellsFrom (s3.heap.objs.size + 1) scope.names (cloFrom X.env.cells scope.names [])) s3.heap.objs.size X.env = ce at I4 pg pk pv eL ⊢
  generalize es4 : ({ s3 with heap := pushCells (s3.heap.push { cls := .type "dict", data := .dict #[] }) scope.names } : Shared) = s4 at I4 ⊢
  have t4 : tn 0 s4.heap := T.keep _ _ _ t3 fun b _ o e => by rw [← es4]; exact pushCells_keeps _ _ _ _ (Heap.get?_push_of_some _ e)
  let Y : Cx := X.blk s3 H3 scope ce fp
  have fpo : ∀ {σ' : L2.St} {H' : Hp} {s' : Shared}, Inv Y [] σ' H' s' → (∀ b ∈ fp, H' b = none) → ∀ b ∈ fp, FpOk Y [] H' b := fun {σ' H' s'} J' no b hb =>
    ⟨no b hb, (J'.ok.exf b hb).1, J'.ok.exfs b hb, .inl hb, (J'.ok.exf b hb).2, fun p hp => by simp [Y] at hp⟩
  have walk : codeAny (model X.prog X.w) X.A (.compLoop (dc1E kx vx tg iter scope pos) 0 (.ref itr) (.ref D) ce) (compPost (model X.prog X.w) X.A X.xe none (fun v s' => EP X pins σ Q v s') (.ref D) s3.heap.objs.size) s4 := by
    refine comp_walk (X := Y) (pins := []) (τ := wipe σ (own.map (·.2))) turnD rfl rfl hc rfl T pg fpo W (fun i m H5 w5 => ?_) I4 t4 (fun b hb => (old b hb).1.1) w0
    rcases turn i m H5 w5 with ⟨stop, qq⟩ | ⟨go, Nx, nx, step⟩
    · refine .inl ⟨stop, fun s' I6 => ?_⟩
      have I7 : Inv X pins σ H5 s' := I3.call' (ch := fp) I6.os I6.base I6.hok I6.bare fun b hb => ⟨(old b hb).1.2.2.2.1, (old b hb).1.2.1, (old b hb).1.2.2.2.2.1, (old b hb).1.2.2.2.2.2⟩
      obtain ⟨mm, hn, _⟩ := I6.loc
      have hn : s'.heap.Ns ce.locals mm := hn
      have none5 : H5 ce.locals = none := I6.free
      rw [eL] at hn none5
      obtain ⟨f0, f1, f2, f3, f4, f5⟩ := I3.fpOk (Nat.le_refl _) none5
      exact ⟨mm, hn, fun h'' sb => ⟨.ref D, H5, I7.turned (t' := s'.toks) (fun b o nb e => (sb.2 b nb).trans e) f0 f1 f3 f4 f5, rfl, qq⟩⟩
    · refine .inr ⟨go, Nx, nx, fun x H6 y6 => ?_⟩
      refine ⟨_, step x H6 y6, fun σ2 H7 ⟨e2, q2⟩ pl s6 I6 => ?_⟩
      unfold bodyD
      refine wpAny_bind (thnF (pk.run _ s6 σ2 H7 _ I6 q2) fun zv s7 ⟨yv, H8, I8, rk, q3⟩ => wpAny_bind (wpAny_holding (thnF (pv.run _ s7 σ2 H8 _ I8 q3) fun vv s8 ⟨zv2, H9, I9, rz, ob, kvs, k, b, ey, hb, d, nk, hz, nx2⟩ => ?_)))
      subst ey
      cases (show zv = Value.ref b from rk)
      refine wpAny_bind (wpAny_standAt (wpAny_holding (dt_new (X := Y) (Nat.lt_of_succ_lt hu) I9 d hb nk hz rz fun o' s9 raw I10 => ⟨σ2, _, I10, ?_, fun j v e => ?_, nx2 o' raw⟩)))
      · rw [← e2, wipe_length]
      · rw [← e2] at e
        exact (wipe_some e).1
  exact codeAny_compStart_dict walk (T.self X.A 0 _ _ _ t4 walk)
theorem pe_dgetTw {w : World} (h : X.w = w) {o i : Expr} {pos : Pos} {td ty : TE} (hu : X.A.units + 1 < cLine) (ho : PE X o td) (hi : PE X i ty) (hs : NoSl i) : PE X (.Subscript o i pos) (tDGetT w td ty) := h ▸ pe_dgetT hu ho hi hs
theorem pi_keysTw {w : World} (h : X.w = w) {tg e : Expr} {td : TE} (he : PE X e td) : PI X tg e (iKeysT w td) := h ▸ pi_keysT he
theorem pe_dcTw {w : World} (h : X.w = w) {kx vx tg iter : Expr} {scope : Scope} {own : List (Str × Nat)} {pos : Pos} {wi : TI} {g : TG} {tk tv : TE} (hu : X.A.units + 1 < cLine) (hc : X.calm = true) (hN : X.N.Nodup) (hi : PI X tg iter wi) (ok : BlkOk X.N X.env.scope scope own)
    (hg : ∀ s H C cl fp, PG (X.blk s H scope (compEnvC scope cl C X.env) fp) tg g)
    (hk : ∀ s H C cl fp, PE (X.blk s H scope (compEnvC scope cl C X.env) fp) kx tk) (hv : ∀ s H C cl fp, PE (X.blk s H scope (compEnvC scope cl C X.env) fp) vx tv) (hs : ∀ x, foldedSetIterable iter X.env x = pure x := by intro _; rfl) :
    PE X (dc1E kx vx tg iter scope pos) (tDcT w wi g tk tv (own.map (·.2))) := h ▸ pe_dcT hu hc hN hi ok hg hk hv hs
end
end Nv
/-! Nv, part Dx: dicts whose keys are tuples, over data. -/
namespace Nv
open PySem PySem.Spec PyProof.Rows L2
variable [Tb] [Ls]
theorem atAll_keys {G : Hp} : ∀ {vs : List V} {ks : List Key}, AtAll G vs (ks.map kyD) → vs = ks.map kV
  | _, [], .nil => rfl
  | _, .inl i :: ks, h => by
    rw [List.map_cons] at h
    cases h with
    | cons a t =>
      cases a
      rw [List.map_cons, atAll_keys t]
      rfl
  | _, .inr i :: ks, h => by
    rw [List.map_cons] at h
    cases h with
    | cons a t =>
      cases a
      rw [List.map_cons, atAll_keys t]
      rfl
theorem keys_atAll {G : Hp} : ∀ {ks : List Key}, AtAll G (ks.map kV) (ks.map kyD)
  | [] => .nil
  | .inl i :: ks => by
    rw [List.map_cons, List.map_cons]
    exact .cons (.int i) keys_atAll
  | .inr i :: ks => by
    rw [List.map_cons, List.map_cons]
    exact .cons (.str i) keys_atAll
theorem at_keyT {G : Hp} {v : V} {k : List Key} (h : At G v (.tup (k.map kyD))) : ∃ b, v = .ref b ∧ TupR G b (k.map kV) (k.map kyD) := by
  generalize e : (D.tup (k.map kyD)) = d at h
  cases h with
  | tup r t =>
    obtain rfl := D.tup.inj e
    obtain rfl := atAll_keys t
    exact ⟨_, rfl, r⟩
  | _ => exact nomatch e
theorem at_dct {G : Hp} {v : V} {ks : List (List Key)} {ds : List D} (h : At G v (.dct ks ds)) : ∃ a o kvs, v = .ref a ∧ G a = some (DObj a o) ∧ DRaw Tb.kw a o kvs ∧ (∀ p ∈ kvs, TupR G p.2.1 (p.1.map kV) (p.1.map kyD)) ∧ kvs.map (·.1) = ks ∧ AtAll G (kvs.map (·.2.2)) ds := by
  cases h with
  | dct e r k t => exact ⟨_, _, _, rfl, e, r, k, rfl, t⟩
theorem dtr_at {G H : Hp} {a : Addr} {o : Obj} {kvs : List (List Key × Addr × V)} {w : World} (s : Same G H) (e : G a = some (DObj a o)) (r : DRaw w a o kvs) (k : ∀ p ∈ kvs, TupR G p.2.1 (p.1.map kV) (p.1.map kyD)) : DTR w H a o kvs :=
  ⟨s _ _ e, r, fun p hp => rdS s (k p hp).rd⟩
section
variable {R : Rg} {δ : List Sl} {te ta tb tk tv : TE} {φ : D → Prop} {w : World}
theorem wpe_dgetT (hw : w = Tb.kw) (h : WpE R ta δ fun x => WpE R tb δ fun y => ∃ (ks : List (List Key)) (ds : List D) (k : List Key) (i : Nat) (d : D), x = .dct ks ds ∧ y = .tup (k.map kyD) ∧ ks[i]? = some k ∧ ds[i]? = some d ∧ φ d) : WpE R (tDGetT w ta tb) δ φ := fun σ G H en rz Q k =>
  h σ G H en rz _ fun v x G1 H1 s1 e1 a1 h1 => h1 σ G1 H1 e1 (rz.stepB (s1.toB en.old)) _ fun u y G2 H2 s2 e2 a2 ⟨ks, ds, kk, i, d, ex, ey, e3, e4, q⟩ => by
    subst hw ex ey
    obtain ⟨b, rfl, tb⟩ := at_keyT a2
    obtain ⟨a, o, kvs, rfl, ea, raw, key, ek, al⟩ := at_dct (a1.same s2.gs)
    subst ek
    obtain ⟨p, ep, rfl⟩ : ∃ p, kvs[i]? = some p ∧ p.1 = kk := by
      rw [List.getElem?_map] at e3
      obtain ⟨p, ep, e⟩ := Option.map_eq_some_iff.mp e3
      exact ⟨p, ep, e⟩
    obtain ⟨z, ez, az⟩ := al.get e4
    rw [List.getElem?_map, ep] at ez
    obtain rfl := Option.some.inj ez
    exact ⟨a, b, o, kvs, i, p, rfl, rfl, dtr_at e2.same ea raw key, rdS e2.same tb.rd, ep, k _ d G2 H2 (s1.trans s2) e2 az q⟩
theorem wk_keysT {G : Hp} {a : Addr} {o : Obj} {kvs : List (List Key × Addr × V)} (ea : G a = some (DObj a o)) (raw : DRaw w a o kvs) (key : ∀ p ∈ kvs, TupR G p.2.1 (p.1.map kV) (p.1.map kyD)) :
    Wk (ItkT w a o kvs) (kvs.map fun p => D.tup (p.1.map kyD)) G := fun G1 H1 s1 s2 => by
  have d := dtr_at (s1.trans s2) ea raw key
  rw [List.length_map]
  refine ⟨fun i hi => ⟨d, hi⟩, ⟨d, Nat.le_refl _⟩, fun i x H2 hi y => ?_⟩
  obtain ⟨rfl, p, ep, rfl⟩ := y
  refine ⟨_, G1, by rw [List.getElem?_map, ep]; rfl, .refl, s2, .tup ((key p (List.mem_of_getElem? ep)).same s1) keys_atAll⟩
theorem wpi_keysT (hw : w = Tb.kw) {ψ : List D → Prop} (h : WpE R te δ fun x => ∃ (ks : List (List Key)) (ds : List D), x = .dct ks ds ∧ ψ (ks.map fun k => D.tup (k.map kyD))) : WpI R (iKeysT w te) δ ψ := fun σ G H en rz Kk k =>
  h σ G H en rz _ fun v x G1 H1 s1 e1 a1 ⟨ks, ds, ex, q⟩ => by
    subst hw ex
    obtain ⟨a, o, kvs, rfl, ea, raw, key, ek, al⟩ := at_dct a1
    subst ek
    rw [List.map_map] at q
    exact ⟨a, o, kvs, rfl, dtr_at e1.same ea raw key, k _ _ G1 H1 s1 e1 (wk_keysT ea raw key) q⟩
theorem wpe_dcT (hw : w = Tb.kw) {wi : TI} {g : TG} {vs js : List Nat} (kf : D → List Key) (vf : D → D) (hjs : ∀ j ∈ js, j ∈ vs)
    (h : WpI R wi δ fun ds => ds.length ≤ 100000 ∧ (ds.map kf).Nodup ∧ (∀ d ∈ ds, WpG R g d (wipeD δ vs) js fun δ2 => WpE R tk δ2 fun y => y = .tup ((kf d).map kyD) ∧ WpE R tv δ2 fun z => z = vf d) ∧
      φ (.dct (ds.map kf) (ds.map vf))) :
    WpE R (tDcT w wi g tk tv vs) δ φ := fun σ G H en rz Q k => by
  subst hw
  refine h σ G H en rz _ fun J ds G1 H1 s1 e1 wk ⟨hl, nd, step, fin⟩ => ?_
  intro Dl o0 hD raw0
  have gD : G1 Dl = none := e1.same.free hD
  have nS : ¬ R.T.S Dl := fun z => by
    obtain ⟨_, w, e, _⟩ := e1.stt Dl z
    rw [hD] at e
    exact nomatch e
  have ew := e1.wipe vs
  let Nx : Nat → Hp → Prop := fun i H' => ∃ (o : Obj) (kvs : List (List Key × Addr × V)) (G' : Hp), Stp R.T.S G1 H1 G' H' ∧ Same G' H' ∧ StO R.T.S G' H' ∧ G' Dl = none ∧ H' Dl = some (DObj Dl o) ∧ DRaw Tb.kw Dl o kvs ∧
    (∀ p ∈ kvs, TupR G' p.2.1 (p.1.map kV) (p.1.map kyD)) ∧ kvs.map (·.1) = (ds.take i).map kf ∧ AtAll G' (kvs.map (·.2.2)) ((ds.take i).map vf)
  refine ⟨fun i m H' => m = ds.length - i ∧ i ≤ ds.length ∧ Nx i H', ⟨_, rfl, Nat.zero_le _, o0, [], G1, Stp.grow (same_upd hD), e1.same.trans (same_upd hD), fun a ha => ?_, gD, upd_same, raw0, (fun p hp => nomatch hp), rfl, .nil⟩, ?_⟩
  · obtain ⟨q, w, e, mo⟩ := e1.stt a ha
    exact ⟨q, w, by rw [upd_ne (ne_of_none e hD)]; exact e, mo⟩
  rintro i m H' ⟨rfl, hi, o, kvs, G', st, sm, so, gd, hd, raw, key, ek, al⟩
  have e' : Ens R.T G' H' (wipeD δ vs) (L2.wipe σ vs) := ew.step st (fun _ z => z) sm so
  obtain ⟨go, stop, yld⟩ := wk G' H' st.gs sm
  by_cases lt : i < ds.length
  · refine .inr ⟨go i lt, Nx (i + 1), fun H2 z => ⟨ds.length - (i + 1), by omega, rfl, lt, z⟩, fun x H2 y => ?_⟩
    obtain ⟨d, G2, ed, s2, sm2, at2⟩ := yld i x H2 lt y
    have tk' : ds.take (i + 1) = ds.take i ++ [d] := by rw [List.take_add_one, ed]; rfl
    have e2 := e'.step0 s2 sm2
    have st2 := st.trans s2.zero
    have gd2 : G2 Dl = none := s2.gn Dl gd (by rw [hd]; exact fun z => nomatch z)
    have hd2 : H2 Dl = some (DObj Dl o) := s2.same _ _ hd
    refine step d (List.mem_of_getElem? ed) (L2.wipe σ vs) G2 H2 x e2 at2 _ fun σ3 δ3 e3 ag ln wK => ⟨wipe_eq hjs ag ln, ?_⟩
    have rz2 : Rz R G2 H2 := (rz.stepB (s1.toB en.old)).stepB (st2.toB e1.old)
    refine wK σ3 G2 H2 e3 rz2 _ fun v y8 G4 H4 s4 e4 a4 ⟨q4, wV⟩ => ?_
    subst q4
    obtain ⟨b, rfl, tb⟩ := at_keyT a4
    have gd4 : G4 Dl = none := s4.gn Dl gd2 (by rw [hd2]; exact fun z => nomatch z)
    have hd4 : H4 Dl = some (DObj Dl o) := s4.hs _ _ hd2 nS
    have st4 := st2.trans s4
    refine wV σ3 G4 H4 e4 (rz2.stepB (s4.toB e3.old)) _ fun u z8 G5 H5 s5 e5 a5 q5 => ?_
    subst q5
    have gd5 : G5 Dl = none := s5.gn Dl gd4 (by rw [hd4]; exact fun z => nomatch z)
    have hd5 : H5 Dl = some (DObj Dl o) := s5.hs _ _ hd4 nS
    have st5 := st4.trans s5
    have sm25 : Same G' G5 := (s2.gs.trans s4.gs).trans s5.gs
    have nk : kf d ∉ kvs.map (·.1) := by
      rw [ek]
      intro z
      obtain ⟨d', m', e'⟩ := List.mem_map.mp z
      obtain ⟨j, lj, ej⟩ := List.mem_take_iff_getElem.mp m'
      have hj : j < ds.length := by omega
      have h1 : (ds.map kf)[j]'(by rw [List.length_map]; exact hj) = (ds.map kf)[i]'(by rw [List.length_map]; exact lt) := by
        rw [List.getElem_map, List.getElem_map, ej, e']
        have := List.getElem?_eq_getElem lt
        rw [ed] at this
        rw [← Option.some.inj this]
      have := (List.getElem_inj nd).mp h1
      omega
    have lk : kvs.length = i := by
      have := congrArg List.length ek
      rw [List.length_map, List.length_map, List.length_take] at this
      omega
    refine ⟨o, kvs, kf d, b, rfl, rdS (s5.gs.trans e5.same) tb.rd, ⟨hd5, raw, fun p hp => rdS (sm25.trans e5.same) (key p hp).rd⟩, nk, by rw [lk]; exact Nat.lt_of_lt_of_le (Nat.lt_of_lt_of_le lt hl) (by decide), fun o' raw' => ?_⟩
    refine ⟨o', kvs ++ [(kf d, b, u)], G5, ⟨st5.gs, fun b u e n => ?_, fun b e => ?_, st5.gn⟩, fun b u e => ?_, fun a ha => ?_, gd5, upd_same, raw', fun p hp => ?_, ?_, ?_⟩
    · rw [upd_ne (ne_of_none e hD)]
      exact st5.hs b u e n
    · by_cases z : b = Dl
      · rw [z, upd_same]; exact fun q => nomatch q
      · rw [upd_ne z]; exact st5.al b e
    · rw [upd_ne (ne_of_none e gd5)]
      exact e5.same b u e
    · obtain ⟨q1, w1, q2, mo⟩ := e5.stt a ha
      exact ⟨q1, w1, by rw [upd_ne (show a ≠ Dl from fun z => nS (by rw [← z]; exact ha))]; exact q2, mo⟩
    · rcases List.mem_append.mp hp with hp | hp
      · exact (key p hp).same sm25
      · obtain rfl := List.mem_singleton.mp hp
        exact tb.same s5.gs
    · rw [tk', List.map_append, List.map_append, ek]
      rfl
    · rw [tk', List.map_append, List.map_append]
      exact (al.same sm25).app (.cons a5 .nil)
  · have e : i = ds.length := by omega
    subst e
    rw [List.take_length] at ek al
    refine .inl ⟨stop, ?_⟩
    have sp : Stp R.T.S G1 H1 (upd G' Dl (DObj Dl o)) H' := ⟨st.gs.trans (same_upd gd), st.hs, st.al, fun b e1' e2' => by rw [upd_ne (fun z => e2' (by rw [z]; exact hD))]; exact st.gn b e1' e2'⟩
    have sm' : Same (upd G' Dl (DObj Dl o)) H' := fun b u e => by
      by_cases z : b = Dl
      · subst z
        rw [upd_same] at e
        rw [← e]
        exact hd
      · rw [upd_ne z] at e
        exact sm b u e
    have at9 : At (upd G' Dl (DObj Dl o)) (.ref Dl) (.dct (ds.map kf) (ds.map vf)) := by
      rw [← ek]
      exact .dct upd_same raw (fun p hp => (key p hp).same (same_upd gd)) (al.same (same_upd gd))
    refine k _ _ _ _ (s1.trans sp) (e1.step sp (fun _ z => z) sm' fun a ha => ?_) at9 fin
    obtain ⟨q1, w, q2, mo⟩ := so a ha
    exact ⟨by rw [upd_ne (show a ≠ Dl from fun z => nS (by rw [← z]; exact ha))]; exact q1, w, q2, mo.same (same_upd gd)⟩
end
/-- a tuple of Nats as a key -/
def keyN (ks : List Nat) : List Key := ks.map fun (i : Nat) => Sum.inl (i : Int)
theorem keyN_inj : ∀ {xs ys : List Nat}, keyN xs = keyN ys → xs = ys
  | [], [], _ => rfl
  | [], _ :: _, h => nomatch h
  | _ :: _, [], h => nomatch h
  | x :: xs, y :: ys, h => by
    obtain ⟨h1, h2⟩ := List.cons.inj (show (Sum.inl (x : Int) : Key) :: keyN xs = Sum.inl (y : Int) :: keyN ys from h)
    rw [keyN_inj h2, Int.ofNat.inj (Sum.inl.inj h1)]
theorem keyN_D {ks : List Nat} : (keyN ks).map kyD = ks.map fun (i : Nat) => D.int i := by
  unfold keyN
  rw [List.map_map]
  rfl
end Nv
/-! Nv, part Dy: dicts whose keys are tuples, in use: k in d, d[k] = v, list(d). -/
namespace Nv
open PySem PySem.Spec PyProof.Rows L2
/-- k is one of these -/
def hasK (ks : List (List Key)) (k : List Key) : Bool := ks.any fun x => decide (x = k)
theorem hasK_iff {ks : List (List Key)} {k : List Key} : hasK ks k = true ↔ k ∈ ks := by
  unfold hasK
  rw [List.any_eq_true]
  exact ⟨fun ⟨x, hx, e⟩ => of_decide_eq_true e ▸ hx, fun h => ⟨k, h, decide_eq_true rfl⟩⟩
section
variable {X : Cx} {pins : List (Addr × Obj)} {σ : L2.St} {H : Hp} {s : Shared} {a : Addr} {o : Obj} {kvs : List (List Key × Addr × V)} {A : Around} {E : Value → Shared → Prop}
/-- there or not -/
theorem at_isSome {xs : List (List Key × Addr × Value)} {k : List Key} : (atKey xs k).isSome = hasK (xs.map (·.1)) k := by
  unfold atKey hasK
  rw [Option.isSome_map, List.any_map, Bool.eq_iff_iff, List.find?_isSome, List.any_eq_true]
  exact Iff.rfl
theorem dt_in {Q : Value → Shared → Prop} {b : Addr} {k : List Key} (hu : A.units + 1 < cLine) (I : Inv X pins σ H s) (d : DTR X.w H a o kvs) (hb : Rd H b (.tup (k.map kV)))
    (q : ∀ s', Inv X pins σ H s' → Q (.bool (hasK (kvs.map (·.1)) k)) s') : wpAny (model X.prog X.w) A (compareOp .In (.ref b) (.ref a)) Q E s := by
  obtain ⟨xs, pr, dd⟩ := dtr_of I.hok d
  refine wpAny_in_heap (tupleKind_room_in1 hu) (key_rd I.hok hb) d.raw.1 dd ?_
  rw [at_isSome, kp_fst pr]
  exact q _ (I.tok _)
theorem dt_notIn {Q : Value → Shared → Prop} {b : Addr} {k : List Key} (hu : A.units + 1 < cLine) (I : Inv X pins σ H s) (d : DTR X.w H a o kvs) (hb : Rd H b (.tup (k.map kV)))
    (q : ∀ s', Inv X pins σ H s' → Q (.bool (!hasK (kvs.map (·.1)) k)) s') : wpAny (model X.prog X.w) A (compareOp .NotIn (.ref b) (.ref a)) Q E s := by
  obtain ⟨xs, pr, dd⟩ := dtr_of I.hok d
  refine wpAny_notIn_heap (tupleKind_room_in1 hu) (key_rd I.hok hb) d.raw.1 dd ?_
  rw [at_isSome, kp_fst pr]
  exact q _ (I.tok _)
/-- d[k] = v, k new -/
theorem dt_put {Q : Unit → Shared → Prop} {b : Addr} {k : List Key} {v : V} {r : Value} (hu : A.units + 1 < cLine) (I : Inv X pins σ H s) (d : DTR X.w H a o kvs) (hb : Rd H b (.tup (k.map kV))) (hk : k ∉ kvs.map (·.1)) (hz : kvs.length < sizeLine) (rv : RelV v r)
    (q : ∀ o' s', DRaw X.w a o' (kvs ++ [(k, b, v)]) → Inv X pins σ (upd H a (DObj a o')) s' → Q () s') : wpAny (model X.prog X.w) A (setItem (.ref a) (.ref b) r) Q E s := by
  obtain ⟨xs, pr, dd⟩ := dtr_of I.hok d
  have no : atKey xs k = none := at_none (by rw [kp_fst pr]; exact hk)
  refine wpAny_setItem_heap (hsz := by rw [← kp_len pr]; omega) (tupleKind_room_in1 hu) (key_rd I.hok hb) dd fun h' dd' sb => ?_
  obtain ⟨o', es, ep, ge, ex, dt, et, _, nd⟩ := dd'
  rw [storedH_new no] at et nd
  have pr' : KP (kvs ++ [(k, b, v)]) (xs ++ [(k, b, r)]) := Paired.snoc pr ⟨rfl, rfl, rv⟩
  refine q o' _ ⟨d.raw.1, ex, by rw [List.length_append]; exact hz, by rw [← kp_fst pr']; exact nd, _, es, ep, pr', dt, et⟩ ?_
  exact I.write (e := a) (by rw [d.here]; exact trivial) (.inl rfl) (fun c u nc z => (sb.2 c nc).trans z) ⟨o', ge⟩ (dobj_ok ge)
end
def tDInT (w : World) (ty td : TE) : TE := fun σ H Q => ty σ H fun y H1 => td σ H1 fun x H2 => ∃ (a b : Addr) (o : Obj) (kvs : List (List Key × Addr × V)) (k : List Key), x = .ref a ∧ y = .ref b ∧ DTR w H2 a o kvs ∧ Rd H2 b (.tup (k.map kV)) ∧ Q (.bl (hasK (kvs.map (·.1)) k)) H2
def tDNinT (w : World) (ty td : TE) : TE := fun σ H Q => ty σ H fun y H1 => td σ H1 fun x H2 => ∃ (a b : Addr) (o : Obj) (kvs : List (List Key × Addr × V)) (k : List Key), x = .ref a ∧ y = .ref b ∧ DTR w H2 a o kvs ∧ Rd H2 b (.tup (k.map kV)) ∧ Q (.bl (!hasK (kvs.map (·.1)) k)) H2
def sDPutT (w : World) (td ty tv : TE) : TS := fun Z σ H => tv σ H fun v H1 => td σ H1 fun x H2 => ty σ H2 fun y H3 => ∃ (a b : Addr) (o : Obj) (kvs : List (List Key × Addr × V)) (k : List Key), x = .ref a ∧ y = .ref b ∧ DTR w H3 a o kvs ∧ Rd H3 b (.tup (k.map kV)) ∧
  k ∉ kvs.map (·.1) ∧ kvs.length < sizeLine ∧ ∀ o', DRaw w a o' (kvs ++ [(k, b, v)]) → Z.nx σ (upd H3 a (DObj a o'))
section
variable {X : Cx} {o i value : Expr} {pos pos' : Pos} {td ty tv : TE}
theorem pc_inT (hu : X.A.units + 1 < cLine) (hi : PE X i ty) (ho : PE X o td) : PC X .In i o (tDInT X.w ty td) := by
  constructor
  intro pins s σ H Q I h
  refine thn (hi.run pins s σ H _ I h) fun iv s1 ⟨y, H1, I1, ry, q1⟩ => thn (ho.run pins s1 σ H1 _ I1 q1) fun u s2 ⟨x, H2, I2, rx, a, b, ob, kvs, k, ex, ey, d, hb, q2⟩ => ?_
  subst ex ey
  obtain rfl : u = Value.ref a := rx
  obtain rfl : iv = Value.ref b := ry
  exact dt_in hu I2 d hb fun s3 I3 => ⟨.bl _, H2, I3, rfl, q2⟩
theorem pc_ninT (hu : X.A.units + 1 < cLine) (hi : PE X i ty) (ho : PE X o td) : PC X .NotIn i o (tDNinT X.w ty td) := by
  constructor
  intro pins s σ H Q I h
  refine thn (hi.run pins s σ H _ I h) fun iv s1 ⟨y, H1, I1, ry, q1⟩ => thn (ho.run pins s1 σ H1 _ I1 q1) fun u s2 ⟨x, H2, I2, rx, a, b, ob, kvs, k, ex, ey, d, hb, q2⟩ => ?_
  subst ex ey
  obtain rfl : u = Value.ref a := rx
  obtain rfl : iv = Value.ref b := ry
  exact dt_notIn hu I2 d hb fun s3 I3 => ⟨.bl _, H2, I3, rfl, q2⟩
theorem ps_putT (hu : X.A.units + 1 < cLine) (ho : PE X o td) (hi : PE X i ty) (hv : PE X value tv) (hs : swapsWith value (some (.Subscript o i pos')) pos.line X.env = pure false) :
    PS X (.Assign [.Subscript o i pos'] value pos) (sDPutT X.w td ty tv) := by
  constructor
  intro pins s σ H Z I h
  refine wpAny_Assign_Subscript (thn (hv.run pins s σ H _ I h) fun r s1 ⟨v, H1, I1, rv, q1⟩ => thn (ho.run pins s1 σ H1 _ I1 q1) fun u s2 ⟨x, H2, I2, rx, q2⟩ => thn (hi.run pins s2 σ H2 _ I2 q2) fun iv s3 ⟨y, H3, I3, ry, a, b, ob, kvs, k, ex, ey, d, hb, nk, hz, q3⟩ => ?_) hs
  subst ex ey
  obtain rfl : u = Value.ref a := rx
  obtain rfl : iv = Value.ref b := ry
  exact dt_put hu I3 d hb nk hz rv fun o' s4 raw I4 => ⟨σ, _, I4, q3 o' raw⟩
/-- list(d): the keys' own tuples -/
theorem call_listT (hc : X.calm = true) : CallR X (.type "list") (fun xs H Q => ∃ (a : Addr) (o : Obj) (kvs : List (List Key × Addr × V)), xs = [V.ref a] ∧ DTR X.w H a o kvs ∧ ∀ p, H p = none → Q (.ref p) (upd H p (.lst (kvs.map fun x => V.ref x.2.1)))) := by
  intro pins s σ H xs us Q I r h
  obtain ⟨a, o, kvs, rfl, d, q⟩ := h
  obtain ⟨u, rfl, rx⟩ := r.one
  cases rx
  obtain ⟨lo, ex, lk, _, ks, es, ep, pr, dt, et⟩ := id d.raw
  have l1 : es.size = ks.length := by rw [← Array.length_toList, et, List.length_map]
  have l2 := kp_len pr
  refine PySem.W.kdl_call (kdl_raw lo ex dt) (I.ok.hd hc) (dobj_get I.hok d.here) (by omega) fun h' tk acc c kp e it => ?_
  have rv : Vals (kvs.map fun x => V.ref x.2.1) acc.toList := by
    refine vals_of_at (by
      have h1 := it.1
      have h2 : acc.toList.length = acc.size := Array.length_toList
      rw [List.length_map]
      omega) fun j x v hx hv => ?_
    rw [List.getElem?_map] at hx
    obtain ⟨p, hp, rfl⟩ := Option.map_eq_some_iff.mp hx
    obtain ⟨b, hb, _, e2, _⟩ := kp_get pr hp
    obtain ⟨en, hen, rfl⟩ := it.2 j v (by rw [← Array.getElem?_toList]; exact hv)
    rw [← Array.getElem?_toList, et, List.getElem?_map, hb] at hen
    obtain rfl := Option.some.inj hen
    show RelV (.ref p.2.1) (.ref b.2.1)
    rw [e2]
    rfl
  refine ⟨.ref s.heap.objs.size, _, I.laid (t' := tk) (o := .lst (kvs.map fun x => V.ref x.2.1)) kp (Nat.le_refl _) ?_, rfl, q _ (I.hok.fresh (Nat.le_refl _))⟩
  exact ⟨by rw [List.length_map]; exact lk, acc.toList, c, rv, by rw [Array.toArray_toList]; exact e⟩
end
end Nv
/-! Nv, part Dz: {k: v}; dicts whose keys are tuples as slots' own, over data. -/
namespace Nv
open PySem PySem.Spec PyProof.Rows L2
/-- {k: v}, k a tuple; the new dict stands empty while they are made -/
def tDisp1T (w : World) (tk tv : TE) : TE := fun σ H Q => ∀ D o0, H D = none → DRaw w D o0 [] → tk σ (upd H D (DObj D o0)) fun y H1 => tv σ H1 fun z H2 => ∃ (b : Addr) (k : List Key), y = .ref b ∧ Rd H2 b (.tup (k.map kV)) ∧ H2 D = some (DObj D o0) ∧ ∀ o', DRaw w D o' [(k, b, z)] → Q (.ref D) (upd H2 D (DObj D o'))
section
variable {X : Cx}
theorem pe_disp1T {kx vx : Expr} {pos : Pos} {tk tv : TE} (hu : X.A.units + 1 < cLine) (hk : PE X kx tk) (hv : PE X vx tv) : PE X (.Dict [some kx] [vx] pos) (tDisp1T X.w tk tv) := by
  constructor
  intro pins s σ H Q I h
  have hn := I.hok.fresh (Nat.le_refl s.heap.objs.size)
  have lo : (s.heap.objs.size == sysModules) = false := beq_eq_false_iff_ne.mpr (Ne.symm (Nat.ne_of_lt I.big))
  have raw0 : DRaw X.w s.heap.objs.size { cls := .type "dict", data := .dict #[] } [] := draw_nil (lo := lo)
  have I1 : Inv X pins σ (upd H s.heap.objs.size (DObj s.heap.objs.size { cls := .type "dict", data := .dict #[] })) { s with heap := s.heap.push { cls := .type "dict", data := .dict #[] } } :=
    I.laid (t' := s.toks) (fun _ _ q => Heap.get?_push_of_some _ q) (Nat.le_refl _) (dobj_ok (Heap.get?_push_size _ rfl))
  rw [arm_eval_Dict, zip_pairTrees [some kx] [vx] X.env pos rfl rfl, dictDisplay_pairs (pairTrees [some kx] [vx] X.env pos) (fun z => nomatch z) (by show 1 < 17; decide)]
  refine wpAny_bind (wpAny_standAt (wpAny_bind (wpAny_subDictH (knd := tupleKind (mixKind X.prog X.w)) (Nat.lt_of_succ_lt hu) (by show 1 ≤ 15; decide) (pairTrees_cons_walk (thn (hk.run pins _ σ _ _ I1 (h _ _ hn raw0)) fun kv s1 ⟨y, H1, I2, rk, q1⟩ => thn (hv.run pins s1 σ H1 _ I2 q1) fun vv s2 ⟨z, H2, I3, rv, b, k, ey, hb, hD, q2⟩ => pairTrees_nil_walk ?_)))))
  subst ey
  obtain rfl : kv = Value.ref b := rk
  have d0 : DTR X.w H2 s.heap.objs.size { cls := .type "dict", data := .dict #[] } [] := ⟨hD, raw0, fun p hp => nomatch hp⟩
  obtain ⟨xs, pr, dd⟩ := dtr_of I3.hok d0
  cases pr
  refine ⟨[(k, b, vv)], ⟨rfl, rfl, key_rd I3.hok hb, trivial⟩, dd, fun h' tk dd' sb => wpAny_pure ?_⟩
  obtain ⟨o', es, ep, ge, ex, dt, et, _, nd⟩ := dd'
  have no : atKey ([] : List (List Key × Addr × Value)) k = none := rfl
  have pr' : KP [(k, b, z)] [(k, b, vv)] := .cons ⟨rfl, rfl, rv⟩ .nil
  have raw' : DRaw X.w s.heap.objs.size o' [(k, b, z)] := ⟨lo, ex, by rw [sizeLine_eq]; show 1 ≤ 16777216; decide, by simp, [(k, b, vv)], es, ep, pr', dt, et⟩
  refine ⟨.ref s.heap.objs.size, _, ?_, rfl, q2 o' raw'⟩
  exact I3.write (e := s.heap.objs.size) (t' := tk) (by rw [hD]; exact trivial) (.inl rfl) (fun c u nc z => (sb.2 c nc).trans z) ⟨o', ge⟩ (dobj_ok ge)
end
variable [Tb] [Ls]
section
variable {R : Rg} {δ : List Sl} {te ta tb tk tv : TE} {t : TS} {φ : D → Prop} {w : World} {Φ : List Sl → Prop} {Ψ : D → Prop}
/-- d = {k: v} -/
theorem wps_setD1 (hw : w = Tb.kw) {i : Nat} (h : WpE R tk δ fun y => WpE R tv δ fun z => ∃ k, y = .tup (k.map kyD) ∧ ∀ p o b v, Φ (δ.set i (.od p (.dct p o [(k, b, v)] [z])))) :
    WpS R (tAsg (tDisp1T w tk tv) (gName i)) δ Φ Ψ := fun σ G H en rz Z k1 k2 => by
  subst hw
  intro Dl o0 hD raw0
  have gD : G Dl = none := en.same.free hD
  have nS : ¬ R.T.S Dl := fun z => by
    obtain ⟨_, w, e, _⟩ := en.stt Dl z
    rw [hD] at e
    exact nomatch e
  have nO : ¬ R.T.O Dl := fun z => en.old Dl z hD
  have s0 : Stp R.T.S G H G (upd H Dl (DObj Dl o0)) := Stp.grow (same_upd hD)
  have en0 : Ens R.T G (upd H Dl (DObj Dl o0)) δ σ := en.grow (same_upd hD)
  have no : ∀ (k : Nat) (ds : Oo), ¬ δ[k]? = some (.od Dl ds) := fun k ds z => by
    obtain ⟨o, _, _, _, _, r, _⟩ := en.get k _ z
    rw [hD] at r
    exact nomatch r
  refine h σ G _ en0 (rz.stepB (s0.toB en.old)) _ fun vk y G1 H1 s1 e1 a1 h1 => h1 σ G1 H1 e1 ((rz.stepB (s0.toB en.old)).stepB (s1.toB en0.old)) _ fun vz z G2 H2 s2 e2 a2 ⟨k, ey, q⟩ => ?_
  subst ey
  obtain ⟨b, rfl, tb⟩ := at_keyT (a1.same s2.gs)
  have gd1 : G1 Dl = none := s1.gn Dl gD (by rw [upd_same]; exact fun z => nomatch z)
  have hd1 : H1 Dl = some (DObj Dl o0) := s1.hs _ _ upd_same nS
  have gd2 : G2 Dl = none := s2.gn Dl gd1 (by rw [hd1]; exact fun z => nomatch z)
  have hd2 : H2 Dl = some (DObj Dl o0) := s2.hs _ _ hd1 nS
  refine ⟨b, k, rfl, rdS e2.same tb.rd, hd2, fun o' raw' => ?_⟩
  have s3 : StB R.T.O R.T.S G2 H2 G2 (upd H2 Dl (DObj Dl o')) := ⟨.refl _, fun b u o q n => by rw [upd_ne (fun z => nO (by rw [← z]; exact o))]; exact q, fun b q => by
    by_cases z : b = Dl
    · rw [z, upd_same]; exact fun q => nomatch q
    · rw [upd_ne z]; exact q, fun b _ q => q⟩
  have sm3 : Same G2 (upd H2 Dl (DObj Dl o')) := fun b u e => by rw [upd_ne (ne_of_none e gd2)]; exact e2.same b u e
  have no3 : ∀ {j : Nat} {bb : Addr} {fs : List D}, δ[j]? = some (.ow bb fs) → bb ≠ Dl := fun {j bb fs} m z => by
    obtain ⟨o, _, _, _, _, ys, r, _⟩ := e2.get j _ m
    rw [z, hd2] at r
    exact nomatch r
  refine k1 _ _ G2 _ ((((s0.toB en.old).trans (s1.toB en0.old)).trans (s2.toB e1.old)).trans s3) ?_ (q Dl o' b vz)
  refine ⟨sm3, by rw [List.length_set, List.length_set]; exact e2.len, fun j s e => ?_, fun a ha => ?_, fun b hb => s3.al b (e2.old b hb), fun b u q => ?_, fun j k a ds es q1 q2 => ?_, fun j k a ds es q1 q2 => ?_⟩
  · rcases get_set e with ⟨rfl, rfl⟩ | ⟨ne, e⟩
    · have lt : j < σ.length := by
        rw [← e2.len]
        have := (List.getElem?_eq_some_iff.mp e).1
        rw [List.length_set] at this
        exact this
      exact ⟨some (.ref Dl), List.getElem?_set_self lt, rfl, ⟨nS, nO⟩, gd2, upd_same, raw', fun p hp => by obtain rfl := List.mem_singleton.mp hp; exact tb, .cons a2 .nil⟩
    · obtain ⟨o, e3, r⟩ := e2.get j s e
      refine ⟨o, by rw [List.getElem?_set_ne (fun z => ne z.symm)]; exact e3, ?_⟩
      cases s with
      | no => trivial
      | fx v => exact r
      | da d => exact r
      | fz _ _ => exact r
      | st b => exact r
      | ow bb fs =>
        obtain ⟨r1, r2, r3, zs, r4, r5⟩ := r
        exact ⟨r1, r2, r3, zs, by rw [upd_ne (no3 e)]; exact r4, r5⟩
      | od bb fs =>
        obtain ⟨r1, r2, r3, r4, r5⟩ := r
        have nb : bb ≠ Dl := fun z => no j fs (by rw [← z]; exact e)
        exact ⟨r1, r2, r3, by rw [upd_ne nb]; exact r4, r5⟩
  · obtain ⟨g, o, e, mo⟩ := e2.stt a ha
    exact ⟨g, o, by rw [upd_ne (fun z => nS (by rw [← z]; exact ha))]; exact e, mo⟩
  · obtain ⟨f1, f2⟩ := e2.inv b u q
    exact ⟨by rw [upd_ne (fun z => nO (by rw [← z]; exact f2.2))]; exact f1, f2⟩
  · rcases get_set q1 with ⟨_, z⟩ | ⟨_, m1⟩
    · exact nomatch z
    · rcases get_set q2 with ⟨_, z⟩ | ⟨_, m2⟩
      · exact nomatch z
      · exact e2.nd j k a ds es m1 m2
  · rcases get_set q1 with ⟨rfl, z⟩ | ⟨n1, m1⟩
    · rcases get_set q2 with ⟨rfl, _⟩ | ⟨n2, m2⟩
      · rfl
      · obtain ⟨rfl, rfl⟩ := Sl.od.inj z
        exact (no k es m2).elim
    · rcases get_set q2 with ⟨rfl, z⟩ | ⟨n2, m2⟩
      · obtain ⟨rfl, rfl⟩ := Sl.od.inj z
        exact (no j ds m1).elim
      · exact e2.nd2 j k a ds es m1 m2
theorem Ens.ownDT {T : Tr} {G H : Hp} {σ : L2.St} (en : Ens T G H δ σ) {i : Nat} {p p' : Addr} {o : Obj} {kvs : List (List Key × Addr × V)} {ds : List D} (e : δ[i]? = some (.od p (.dct p' o kvs ds))) (e' : p' = p) :
    σ[i]? = some (some (.ref p)) ∧ DTR Tb.kw H p o kvs ∧ (∀ q ∈ kvs, TupR G q.2.1 (q.1.map kV) (q.1.map kyD)) ∧ AtAll G (kvs.map (·.2.2)) ds := by
  subst e'
  obtain ⟨o1, e1, rfl, nS, nG, hx, raw, key, al⟩ := en.get i _ e
  exact ⟨e1, ⟨hx, raw, fun q hq => rdS en.same (key q hq).rd⟩, key, al⟩
/-- k not in d -/
theorem wpt_ninDT (hw : w = Tb.kw) {i : Nat} {p : Addr} {o : Obj} {kvs : List (List Key × Addr × V)} {ds : List D} {ψ : Bool → Prop} (e : δ[i]? = some (.od p (.dct p o kvs ds))) (h : WpE R ta δ fun y => ∃ k, y = .tup (k.map kyD) ∧ ψ (!hasK (kvs.map (·.1)) k)) :
    WpT R (tB (tDNinT w ta (tVar i))) δ ψ := fun σ G H en rz Q q =>
  h σ G H en rz _ fun v y G2 H2 s2 en2 a2 ⟨k, ey, qq⟩ => by
    subst hw ey
    obtain ⟨b, rfl, tb⟩ := at_keyT a2
    obtain ⟨e1, d, _, _⟩ := en2.ownDT e rfl
    exact ⟨_, e1, p, b, o, kvs, k, rfl, rfl, d, rdS en2.same tb.rd, _, rfl, q _ G2 H2 s2 en2 qq⟩
/-- d[k] -/
theorem wpe_getDT (hw : w = Tb.kw) {i : Nat} {p : Addr} {o : Obj} {kvs : List (List Key × Addr × V)} {ds : List D} (e : δ[i]? = some (.od p (.dct p o kvs ds))) (h : WpE R ta δ fun y => ∃ (k : List Key) (j : Nat) (d : D), y = .tup (k.map kyD) ∧ (kvs.map (·.1))[j]? = some k ∧ ds[j]? = some d ∧ φ d) :
    WpE R (tDGetT w (tVar i) ta) δ φ := fun σ G H en rz Q q => by
  subst hw
  obtain ⟨e0, _, _, _⟩ := en.ownDT e rfl
  refine ⟨_, e0, h σ G H en rz _ fun v y G2 H2 s2 en2 a2 ⟨k, j, d, ey, e3, e4, qq⟩ => ?_⟩
  subst ey
  obtain ⟨b, rfl, tb⟩ := at_keyT a2
  obtain ⟨_, dt, _, al⟩ := en2.ownDT e rfl
  obtain ⟨x, ex, rfl⟩ : ∃ x, kvs[j]? = some x ∧ x.1 = k := by
    rw [List.getElem?_map] at e3
    exact Option.map_eq_some_iff.mp e3
  obtain ⟨z, ez, az⟩ := al.get e4
  rw [List.getElem?_map, ex] at ez
  obtain rfl := Option.some.inj ez
  exact ⟨p, b, o, kvs, j, x, rfl, rfl, dt, rdS en2.same tb.rd, ex, q _ d G2 H2 s2 en2 az qq⟩
/-- d[k] = v, k new -/
theorem wps_putDT (hw : w = Tb.kw) {i : Nat} {p : Addr} {o : Obj} {kvs : List (List Key × Addr × V)} {ds : List D} (e : δ[i]? = some (.od p (.dct p o kvs ds))) (l : kvs.length ≤ 100000)
    (h : WpE R tv δ fun z => WpE R ta δ fun y => ∃ k, y = .tup (k.map kyD) ∧ k ∉ kvs.map (·.1) ∧ ∀ o' b v, Φ (δ.set i (.od p (.dct p o' (kvs ++ [(k, b, v)]) (ds ++ [z]))))) :
    WpS R (sDPutT w (tVar i) ta tv) δ Φ Ψ := fun σ G H en rz Z k1 k2 =>
  h σ G H en rz _ fun v z G1 H1 s1 e1 a1 h1 => by
    subst hw
    obtain ⟨e0, _, _, _⟩ := e1.ownDT e rfl
    refine ⟨_, e0, h1 σ G1 H1 e1 (rz.stepB (s1.toB en.old)) _ fun u y G2 H2 s2 en2 a2 ⟨k, ey, nk, q⟩ => ?_⟩
    subst ey
    obtain ⟨b, rfl, tb⟩ := at_keyT a2
    obtain ⟨_, dt, key, al⟩ := en2.ownDT e rfl
    refine ⟨p, b, o, kvs, k, rfl, rfl, dt, rdS en2.same tb.rd, nk, Nat.lt_of_le_of_lt l (by decide), fun o' raw' => ?_⟩
    refine k1 _ _ G2 _ (((s1.trans s2).toB en.old).trans (en2.putDB e)) (en2.putD (ls := .dct p o' (kvs ++ [(k, b, v)]) (ds ++ [z])) e ⟨raw', fun q hq => ?_, ?_⟩) (q o' b v)
    · rcases List.mem_append.mp hq with hq | hq
      · exact key q hq
      · obtain rfl := List.mem_singleton.mp hq
        exact tb
    · rw [List.map_append]
      exact al.app (.cons (a1.same s2.gs) .nil)
end
end Nv
/-! Nv, part Rs: sorted of a list of rows of ints of any lengths. -/
namespace Nv
open PySem PySem.Spec PyProof.Rows L2 SrtO Srt PySem.W PySem.SeqAt
/-- v is a tuple of these ints -/
def TupN (h : Heap) (v : Value) (ns : List Int) : Prop := ∃ t o items n, v = .ref t ∧ h.get? t = some o ∧ o.cls = .type "tuple" ∧ o.data = .seq items n ∧ IntsAre items.toList ns
def dtR (ns : List Int) : PyData := .tuple (ns.map PyData.int)
theorem reads_ints {h : Heap} : ∀ {us : List Value} {ns : List Int}, IntsAre us ns → ReadsAll h us (ns.map PyData.int) []
  | _, _, .nil => .nil
  | _, _, .cons n t r => .cons (as := []) (bs := []) (.int n t) (reads_ints r)
theorem TupN.reads {h : Heap} {v : Value} {ns : List Int} (x : TupN h v ns) : Reads h v (dtR ns) [] := by
  obtain ⟨t, o, items, n, rfl, ho, hc, hd, hi⟩ := x
  exact .tuple ho hc hd (reads_ints hi)
def ltR (a b : List Int) : Bool := dataLt (dtR a) (dtR b)
theorem alikeR (a b : List Int) : alike (dtR a) (dtR b) = true := by
  show alike (.tuple (a.map PyData.int)) (.tuple (b.map PyData.int)) = true
  rw [alike]
  exact alike_ints a b
theorem depthR (a : List Int) : (dtR a).depth = 1 := by
  show (PyData.tuple (a.map PyData.int)).depth = 1
  rw [PyData.depth, depth_ints]
theorem ltR_lex {a b : List Int} : ltR a b = PyProof.Rows.lexLt PyProof.Rows.itemOrd (keyToksAll (a.map PyData.int)) (keyToksAll (b.map PyData.int)) := dataLt_tuple _ _
theorem ltR_irr (a : List Int) : ltR a a = false := by rw [ltR_lex]; exact PyProof.Rows.lex_irrefl _
theorem ltR_asym {a b : List Int} (h : ltR a b = true) : ltR b a = false := by
  cases q : ltR b a with
  | false => rfl
  | true =>
    rw [ltR_lex] at h q
    have := PyProof.Rows.lex_trans _ _ _ h q
    rw [PyProof.Rows.lex_irrefl] at this
    exact nomatch this
theorem ltR_tr {a b c : List Int} (h1 : ltR b a = false) (h2 : ltR c b = false) : ltR c a = false := by
  cases q : ltR c a with
  | false => rfl
  | true =>
    rw [ltR_lex] at h1 h2 q
    rcases PyProof.Rows.lex_negTrans _ (keyToksAll (b.map PyData.int)) _ q with h | h
    · rw [h2] at h; exact nomatch h
    · rw [h1] at h; exact nomatch h
theorem toks_inj : ∀ {a b : List Int}, keyToksAll (a.map PyData.int) = keyToksAll (b.map PyData.int) → a = b
  | [], [], _ => rfl
  | [], y :: b, h => by
    rw [List.map_cons, toks_all_cons, List.map_nil, keyToksAll] at h
    exact nomatch h
  | x :: a, [], h => by
    rw [List.map_cons, toks_all_cons, List.map_nil, keyToksAll] at h
    exact nomatch h
  | x :: a, y :: b, h => by
    rw [List.map_cons, List.map_cons, toks_all_cons, toks_all_cons, keyToks, keyToks] at h
    obtain ⟨_, h⟩ := List.cons.inj h
    obtain ⟨h1, h2⟩ := List.cons.inj h
    rw [toks_inj h2, Sum.inl.inj h1]
/-- two rows neither of which is less are one -/
theorem ltR_total {a b : List Int} (h1 : ltR a b = false) (h2 : ltR b a = false) : a = b := by
  rw [ltR_lex] at h1 h2
  exact toks_inj (PyProof.Rows.lex_total _ _ h1 h2)
section
variable {prog : Program} {w : World} {A : Around} {E : Value → Shared → Prop} {s : Shared}
theorem one_ff {x y : Value} {a b : List Int} {Q : Bool → Shared → Prop} (hx : TupN s.heap x a) (hy : TupN s.heap y b) (hu : A.units + 1 < cLine) (q : Q (ltR a b) s) : wpAny (model prog w) A (oneLt' false x y) Q E s :=
  oneLt_alike (fun h => nomatch h) hx.reads hy.reads (alikeR a b) (fun h => nomatch h) (by rw [depthR, depthR]; exact hu) q
theorem call_tuple_lt {l b : Addr} {items items2 : Array Value} {e r : Nat → Bool} {Q : Value → Shared → Prop} (hl : s.heap.IsTuple l items) (hb : s.heap.IsTuple b items2)
    (he : ∀ j (h1 : j < items.size) (h2 : j < items2.size), EqAt A.in1 s items[j] items2[j] (e j)) (hr : ∀ j (h1 : j < items.size) (h2 : j < items2.size), e j = false → RcLt A.in1 s items[j] items2[j] (r j))
    (h : Q (.bool (firstLt e r (decide (items.size < items2.size)) (List.range (min items.size items2.size)))) s) : wpAny (model prog w) A (call (.builtin "tuple.__lt__") [.ref l, .ref b]) Q E s := by
  obtain ⟨⟨cls, dd, data, sl⟩, ho, hc, n, hd⟩ := id hl
  obtain ⟨⟨cls2, dd2, data2, sl2⟩, ho2, hc2, n2, hd2⟩ := id hb
  simp only at hc hd hc2 hd2
  subst hc hd hc2 hd2
  exact call_meets F.slot_tuple_lt ⟨_, ho, rfl⟩ F.entry_tuple_lt (F.args_tuple_lt_2 _ _) (tuple_ltAt l b items items2 n n2 dd dd2 sl sl2 e r) ⟨ho, ho2, he, hr, h⟩
theorem one_tt {x y : Value} {a b : List Int} {Q : Bool → Shared → Prop} (hx : TupN s.heap x a) (hy : TupN s.heap y b) (hu : A.units + 1 < cLine) (q : Q (ltR a b) s) : wpAny (model prog w) A (oneLt' true x y) Q E s := by
  obtain ⟨l, o, vs, n, rfl, h1, h2, h3, i1⟩ := hx
  obtain ⟨l', o', vs', n', rfl, k1, k2, k3, i2⟩ := hy
  have r1 := reads_ints (h := s.heap) i1
  have r2 := reads_ints (h := s.heap) i2
  have n1 : vs.size = (a.map PyData.int).length := by simpa using ReadsAll.length _ _ _ r1
  have n2 : vs'.size = (b.map PyData.int).length := by simpa using ReadsAll.length _ _ _ r2
  have hu2 : A.units + min (dtR a).depth (dtR b).depth < cLine := by rw [depthR, depthR]; exact hu
  rw [ltR_lex, ← firstLt_toks _ _ (alike_ints a b), ← n1, ← n2] at q
  rw [oneLt'_eq]
  simp only [if_true]
  refine wpAny_bind (wpAny_cRoomFor (Nat.lt_of_succ_lt hu) ?_)
  refine wpAny_bind (wpAny_callSpecialIfBound?_slot (T := "tuple") ⟨_, h1, h2⟩ F.slot_tuple_lt (call_tuple_lt (e := pairEq (a.map PyData.int) (b.map PyData.int)) (r := fun j => dataLt ((a.map PyData.int).getD j .none) ((b.map PyData.int).getD j .none)) ⟨_, h1, h2, _, h3⟩ ⟨_, k1, k2, _, k3⟩ (fun j j1 j2 => ?_) (fun j j1 j2 hj => ?_) ?_))
  · have := eqAt_alikeAll _ _ A.in1 s vs.toList vs'.toList _ _ r1 r2 (alike_ints a b) (by rw [depth_ints, depth_ints]; exact hu) j (by simpa using j1) (by simpa using j2)
    simpa using this
  · have := rcLt_alikeAll _ _ A.in1 s vs.toList vs'.toList _ _ r1 r2 (alike_ints a b) (by rw [depth_ints, depth_ints]; exact hu) j (by simpa using j1) (by simpa using j2) hj
    simpa using this
  · exact wpAny_truthy_bool q
theorem key_lt {f : Bool} {x y : Value} {a b : List Int} {Q : Bool → Shared → Prop} (hx : TupN s.heap x a) (hy : TupN s.heap y b) (hu : A.units + 1 < cLine) (q : Q (ltR a b) s) : wpAny (model prog w) A (keyLt' (tuples' f) x y) Q E s := by
  obtain ⟨l, o, vs, n, rfl, h1, h2, h3, i1⟩ := hx
  obtain ⟨l', o', vs', n', rfl, k1, k2, k3, i2⟩ := hy
  have r1 := reads_ints (h := s.heap) i1
  have r2 := reads_ints (h := s.heap) i2
  have n1 : vs.size = (a.map PyData.int).length := by simpa using ReadsAll.length _ _ _ r1
  have n2 : vs'.size = (b.map PyData.int).length := by simpa using ReadsAll.length _ _ _ r2
  rw [ltR_lex] at q
  refine kat_lt h1 h3 k1 k3 (katLex_alike _ _ 0 _ _ _ _ r1 r2 (alike_ints a b) (by rw [depth_ints, depth_ints]; exact Nat.lt_of_succ_lt hu) (fun _ _ x r t e z => ?_) (by rw [n1, n2]) q)
  subst z
  cases a with
  | nil => exact nomatch e
  | cons i a => exact nomatch (List.cons.inj e).1
end
end Nv
/-! Nv, part Rt: the kind of a sort of rows; sorted of a list of rows. -/
namespace Nv
open PySem PySem.Spec PyProof.Rows L2 SrtO Srt PySem.W PySem.SeqAt
/-- the values are these rows -/
inductive TupsN (h : Heap) : List Value → List (List Int) → Prop
  | nil : TupsN h [] []
  | cons {v : Value} {vs : List Value} {a : List Int} {as : List (List Int)} : TupN h v a → TupsN h vs as → TupsN h (v :: vs) (a :: as)
theorem TupsN.length {h : Heap} : ∀ {vs : List Value} {as : List (List Int)}, TupsN h vs as → vs.length = as.length
  | _, _, .nil => rfl
  | _, _, .cons _ t => congrArg Nat.succ (TupsN.length t)
section
variable {prog : Program} {w : World} {A : Around} {E : Value → Shared → Prop} {s : Shared}
/-- the first items, where there are any -/
theorem firsts_rows {M : Model} : ∀ (vs : List Value) (as : List (List Int)) {Q : List (Option Value) → Shared → Prop}, TupsN s.heap vs as → (∀ fs : List (Option Value), fs.length = as.length → (∀ (i : Nat) f, fs[i]? = some f → ∃ a, as[i]? = some a ∧ (a = [] → f = none) ∧ (a ≠ [] → ∃ k t, f = some (.int k t))) → Q fs s) → wpAny M A (vs.mapM firstOfTuple') Q E s
  | _, _, Q, .nil, h => by
    rw [List.mapM_nil]
    exact wpAny_pure (h [] rfl fun i f e => by simp at e)
  | _, _, Q, .cons (v := v) (vs := vs) (a := a) (as := as) x t, h => by
    obtain ⟨l, o, items, n, rfl, ho, hc, hd, hi⟩ := x
    rw [List.mapM_cons]
    refine wpAny_bind ?_
    rw [kas_first_eq]
    refine wpAny_bind (Looks.here (show Looks M s.heap (typeOf (.ref l)) o.cls from (Looks.ld ho).andThen .now) ?_)
    rw [hc, if_neg (by first | decide | simp)]
    refine wpAny_bind (listItems_at ho hd (wpAny_pure ?_))
    refine wpAny_bind (firsts_rows vs as (Q := fun bs s' => wpAny M A (pure (items[0]? :: bs)) Q E s') t fun fs lf hf => wpAny_pure (h _ (congrArg Nat.succ lf) fun i f e => ?_))
    cases i with
    | zero =>
      simp at e
      subst e
      refine ⟨a, rfl, fun z => ?_, fun z => ?_⟩
      · subst z
        have : items.toList = [] := by
          generalize items.toList = us at hi
          cases hi
          rfl
        rw [← Array.getElem?_toList, this]
        rfl
      · cases hi' : items.toList with
        | nil => rw [hi'] at hi; cases hi; exact absurd rfl z
        | cons u us =>
          rw [hi'] at hi
          cases hi with
          | cons k t r => exact ⟨k, t, by rw [← Array.getElem?_toList, hi']; rfl⟩
    | succ i => exact hf i f (by simpa using e)
theorem types_rows {M : Model} : ∀ {vs : List Value} {as : List (List Int)}, TupsN s.heap vs as → ∀ v ∈ vs, Looks M s.heap (typeOf v) (Value.type "tuple")
  | _, _, .cons x t, v, h => by
    rcases List.mem_cons.mp h with rfl | h
    · obtain ⟨l, o, items, n, rfl, ho, hc, hd, hi⟩ := x
      rw [← hc]
      exact (Looks.ld ho).andThen .now
    · exact types_rows t v h
/-- the kind of the sort -/
def kindR (as : List (List Int)) : SortKind := if (as.all fun a => !a.isEmpty) = true then tuples' true else if (as[0]?.map fun a => !a.isEmpty) = some true then general' else oneType'
theorem kind_rows {M : Model} {vs : List Value} {as : List (List Int)} {Q : SortKind → Shared → Prop} (t : TupsN s.heap vs as) (ne : vs ≠ []) (h : Q (kindR as) s) :
    wpAny M A (keyKind' vs.toArray) Q E s := by
  rw [kat_kind_eq, List.mapM_toArray, map_eq_pure_bind]
  refine wpAny_bind (wpAny_bind (firsts_rows vs as t fun fs lf hf => wpAny_pure ?_))
  by_cases al : (fs.toArray.all fun x => x.isSome) = true
  · rw [if_pos al]
    have kr : kindR as = tuples' true := by
      unfold kindR
      rw [if_pos]
      refine List.all_eq_true.mpr fun a ha => ?_
      obtain ⟨i, ei⟩ := List.mem_iff_getElem?.mp ha
      have li : i < fs.length := by rw [lf]; exact (List.getElem?_eq_some_iff.mp ei).1
      obtain ⟨a', ea, h1, h2⟩ := hf i _ (List.getElem?_eq_getElem li)
      rw [ei] at ea
      obtain rfl := Option.some.inj ea
      cases a with
      | cons _ _ => rfl
      | nil =>
        have al' : ∀ f ∈ fs, f.isSome = true := by simpa [List.all_toArray, List.all_eq_true] using al
        have := al' _ (List.getElem_mem li)
        rw [h1 rfl] at this
        exact nomatch this
    rw [kr] at h
    obtain ⟨us, rfl⟩ : ∃ us : List Value, fs = us.map some := by
      refine ⟨fs.filterMap id, ?_⟩
      have al' : ∀ f ∈ fs, f.isSome = true := by simpa [List.all_toArray, List.all_eq_true] using al
      clear al hf lf
      induction fs with
      | nil => rfl
      | cons f fs ih =>
        obtain ⟨v, rfl⟩ := Option.isSome_iff_exists.mp (al' f List.mem_cons_self)
        rw [List.filterMap_cons]
        show some v :: fs = some v :: (fs.filterMap id).map some
        rw [← ih fun g hg => al' g (List.mem_cons_of_mem _ hg)]
    have int : ∀ u ∈ us, ∃ k t, u = Value.int k t := fun u hu => by
      obtain ⟨i, ei⟩ := List.mem_iff_getElem?.mp hu
      obtain ⟨a, ea, h1, h2⟩ := hf i (some u) (by rw [List.getElem?_map, ei]; rfl)
      by_cases z : a = []
      · exact nomatch h1 z
      · obtain ⟨k, t, e⟩ := h2 z
        exact ⟨k, t, Option.some.inj e⟩
    have hus : us ≠ [] := fun z => by
      subst z
      have := t.length
      rw [List.map_nil] at lf
      have l0 : as.length = 0 := lf.symm
      exact ne (List.length_eq_zero_iff.mp (this.trans l0))
    obtain ⟨u1, ur, rfl⟩ : ∃ u1 ur, us = u1 :: ur := by
      match us, hus with
      | u1 :: ur, _ => exact ⟨u1, ur, rfl⟩
    refine wpAny_bind (wpAny_rule ?_)
    have hfm : (((u1 :: ur).map some).toArray.filterMap id) = (u1 :: ur).toArray := by simp
    rw [hfm, oneTypeOnly'_eq, List.mapM_toArray, map_eq_pure_bind]
    refine wpAny_bind (wpAny_bind (wpAny_bind (kas_mapM (r := Value.type "int") _ (fun v hv Q' hq => by
      obtain ⟨k, t, rfl⟩ := int v hv
      exact (Looks.of_pure rfl : Looks M s.heap (typeOf (Value.int k t)) (Value.type "int")).here hq) (wpAny_pure ?_))))
    have hall2 : ((List.map (fun _ => Value.type "int") (u1 :: ur)).toArray.all fun x => x == Value.type "int") = true := by
      simp only [List.all_toArray, List.all_map, List.all_eq_true]
      intro _ _
      first | rfl | decide
    have h0 : (List.map (fun _ => Value.type "int") (u1 :: ur)).toArray[0]? = some (Value.type "int") := by simp
    rw [h0]
    simp only [hall2, if_true]
    exact wpAny_pure (wpAny_pure h)
  · rw [if_neg al]
    have nal : ¬ (as.all fun a => !a.isEmpty) = true := fun z => al (by
      have : ∀ f ∈ fs, f.isSome = true := fun f hm => by
        obtain ⟨i, ei⟩ := List.mem_iff_getElem?.mp hm
        obtain ⟨a, ea, h1, h2⟩ := hf i f ei
        have := List.all_eq_true.mp z a (List.mem_of_getElem? ea)
        obtain ⟨k, t, rfl⟩ := h2 (fun q => by rw [q] at this; exact nomatch this)
        rfl
      simpa [List.all_toArray, List.all_eq_true] using this)
    have g0 : (fs.toArray[0]?.bind id).isSome = true ↔ (as[0]?.map fun a => !a.isEmpty) = some true := by
      rw [List.getElem?_toArray]
      cases e : fs[0]? with
      | none =>
        have : as[0]? = none := by
          have := List.getElem?_eq_none_iff.mp e
          exact List.getElem?_eq_none (by omega)
        rw [this]
        exact ⟨fun z => (nomatch z), fun z => (nomatch z)⟩
      | some f =>
        obtain ⟨a, ea, h1, h2⟩ := hf 0 f e
        rw [ea]
        cases a with
        | nil => rw [h1 rfl]; exact ⟨fun z => (nomatch z), fun z => (nomatch z)⟩
        | cons i a =>
          obtain ⟨k, t, rfl⟩ := h2 (fun z => nomatch z)
          exact ⟨fun _ => rfl, fun _ => rfl⟩
    by_cases g : (fs.toArray[0]?.bind id).isSome = true
    · rw [if_pos g]
      have kr : kindR as = general' := by unfold kindR; rw [if_neg nal, if_pos (g0.mp g)]
      rw [kr] at h
      exact wpAny_pure h
    · have kr : kindR as = oneType' := by unfold kindR; rw [if_neg nal, if_neg (fun z => g (g0.mpr z))]
      rw [kr] at h
      rw [if_neg g, oneTypeOnly'_eq, List.mapM_toArray, map_eq_pure_bind]
      obtain ⟨v1, vr, rfl⟩ : ∃ v1 vr, vs = v1 :: vr := by
        match vs, ne with
        | v1 :: vr, _ => exact ⟨v1, vr, rfl⟩
      refine wpAny_bind (wpAny_bind (wpAny_bind (kas_mapM (r := Value.type "tuple") _ (fun v hv Q' hq => (types_rows t v hv).here hq) (wpAny_pure ?_))))
      have hall2 : ((List.map (fun _ => Value.type "tuple") (v1 :: vr)).toArray.all fun x => x == Value.type "tuple") = true := by
        simp only [List.all_toArray, List.all_map, List.all_eq_true]
        intro _ _
        first | rfl | decide
      have h0 : (List.map (fun _ => Value.type "tuple") (v1 :: vr)).toArray[0]? = some (Value.type "tuple") := by simp
      rw [h0]
      simp only [hall2, if_true]
      exact wpAny_pure (wpAny_pure h)
/-- the ints of a row that stands in the heap -/
noncomputable def rowsAt (h : Heap) (v : Value) : List Int := @dite _ (∃ ns, TupN h v ns) (Classical.propDecidable _) (fun e => Classical.choose e) fun _ => []
theorem ints_uniq : ∀ {us : List Value} {a b : List Int}, IntsAre us a → IntsAre us b → a = b
  | _, _, _, .nil, .nil => rfl
  | _, _, _, .cons _ _ r, .cons _ _ t => congrArg _ (ints_uniq r t)
theorem TupN.uniq {h : Heap} {v : Value} {a b : List Int} (x : TupN h v a) (y : TupN h v b) : a = b := by
  obtain ⟨l, o, vs, n, rfl, h1, h2, h3, i1⟩ := x
  obtain ⟨l', o', vs', n', e, k1, k2, k3, i2⟩ := y
  obtain rfl := Value.ref.inj e
  rw [h1] at k1
  obtain rfl := Option.some.inj k1
  rw [h3] at k3
  obtain ⟨rfl, _⟩ := Data.seq.inj k3
  exact ints_uniq i1 i2
theorem rows_at {h : Heap} {v : Value} {ns : List Int} (x : TupN h v ns) : rowsAt h v = ns := by
  have e : ∃ ns, TupN h v ns := ⟨ns, x⟩
  unfold rowsAt
  rw [dif_pos e]
  exact TupN.uniq (Classical.choose_spec e) x
noncomputable def ltRv (h : Heap) (v u : Value) : Bool := ltR (rowsAt h v) (rowsAt h u)
theorem swo_rv {h : Heap} : Swo (ltRv h) := ⟨fun x y z => ltR_asym z, fun x y z h1 h2 => ltR_tr h1 h2⟩
theorem TupN.keep {h h' : Heap} {v : Value} {ns : List Int} {a : Addr} (x : TupN h v ns) (l : ∀ o, h.get? a = some o → o.cls = .type "list") (k : ∀ b o, b ≠ a → h.get? b = some o → h'.get? b = some o) : TupN h' v ns := by
  obtain ⟨t, o, vs, n, rfl, h1, h2, h3, i1⟩ := x
  refine ⟨t, o, vs, n, rfl, k t o (fun z => ?_) h1, h2, h3, i1⟩
  subst z
  have := l o h1
  rw [h2] at this
  exact absurd this (by decide)
theorem TupsN.keep {h h' : Heap} {a : Addr} (l : ∀ o, h.get? a = some o → o.cls = .type "list") (k : ∀ b o, b ≠ a → h.get? b = some o → h'.get? b = some o) : ∀ {vs : List Value} {as : List (List Int)}, TupsN h vs as → TupsN h' vs as
  | _, _, .nil => .nil
  | _, _, .cons x t => .cons (x.keep l k) (TupsN.keep l k t)
theorem TupsN.at {h : Heap} : ∀ {vs : List Value} {as : List (List Int)}, TupsN h vs as → (∀ v ∈ vs, TupN h v (rowsAt h v)) ∧ vs.map (rowsAt h) = as
  | _, _, .nil => ⟨fun v h => (nomatch h), rfl⟩
  | _, _, .cons x t => by
    obtain ⟨h1, h2⟩ := TupsN.at t
    refine ⟨fun v m => ?_, by rw [List.map_cons, h2, rows_at x]⟩
    rcases List.mem_cons.mp m with rfl | m
    · rw [rows_at x]; exact x
    · exact h1 v m
/-- rows can be put in order -/
theorem rows_sortable {a : Addr} {vs : List Value} {as : List (List Int)} {h0 : Heap} (t : TupsN h0 vs as) (k0 : ∀ b o, h0.get? b = some o → b ≠ a ∧ s.heap.get? b = some o) (two : 2 ≤ vs.length) (hu : A.units + 1 < cLine) : SortableO prog w A s a vs (ltRv h0) := by
  intro h' k
  have keep : ∀ {v : Value} {ns : List Int}, TupN h0 v ns → TupN h' v ns := fun {v ns} x => by
    obtain ⟨l, o, us, n, rfl, h1, h2, h3, i1⟩ := x
    obtain ⟨ne, e⟩ := k0 l o h1
    exact ⟨l, o, us, n, rfl, k l o ne e, h2, h3, i1⟩
  have t' : TupsN h' vs as := by
    clear two
    induction t with
    | nil => exact .nil
    | cons x _ ih => exact .cons (keep x) ih
  have ne : vs ≠ [] := fun z => by rw [z] at two; exact absurd two (by decide)
  refine ⟨kindR as, fun Q E q => kind_rows t' ne q, fun p q hp hq => ?_⟩
  obtain ⟨a1, _⟩ := t.at
  have x := keep (a1 _ hp)
  have y := keep (a1 _ hq)
  have fin : ∀ {κ : SortKind}, (∀ Q : Bool → Shared → Prop, Q (ltR (rowsAt h0 p.1) (rowsAt h0 q.1)) { s with heap := h' } → wpAny (model prog w) A (keyLt' κ p.1 q.1) Q (fun _ _ => False) { s with heap := h' }) →
      wpAny (model prog w) A (keyLt' κ p.1 q.1) (fun r s' => s' = { s with heap := h' } ∧ r = lt2 (ltRv h0) p q) (fun _ _ => False) { s with heap := h' } := fun {κ} z => z _ ⟨rfl, rfl⟩
  unfold kindR
  split
  · exact fin fun Q z => key_lt x y hu z
  · split
    · exact fin fun Q z => one_ff x y hu z
    · exact fin fun Q z => one_tt x y hu z
end
/-! ### the rule -/
theorem vals_mapRef {K : PySem.W.Frag} {X : Cx} (hK : X.K = K) {pins : List (Addr × Obj)} {σ : L2.St} {H : Hp} {s : Shared} (I : Inv X pins σ H s) : ∀ {xs : List V} {us : List Value} {as : List (List Int)}, Vals xs us → xs.length = as.length → (∀ (i : Nat) x a, xs[i]? = some x → as[i]? = some a → ∃ t, x = V.ref t ∧ SqT K H t (a.map V.int)) → TupsN s.heap us as
  | _, _, [], .nil, _, _ => .nil
  | _, _, a :: as, .cons (a := x) (b := u) r rs, l, h => by
    subst hK
    obtain ⟨t, rfl, sq⟩ := h 0 _ a rfl rfl
    obtain rfl : u = Value.ref t := r
    obtain ⟨its, rv, p1, _⟩ := I.tuple sq
    obtain ⟨o, ho, hc, n, hd⟩ := p1
    refine .cons ⟨t, o, its.toArray, n, rfl, ho, hc, hd, by simpa using rv.ints⟩ (vals_mapRef rfl I rs (by simpa using l) fun i x b hx hb => h (i + 1) x b (by simpa using hx) (by simpa using hb))
end Nv
/-! Nv, part Ru: sorted of a list of rows of ints, as a rule and over data. -/
namespace Nv
open PySem PySem.Spec PyProof.Rows L2 SrtO Srt
def refV : Value → Addr
  | .ref a => a
  | _ => 0
/-- sorted(xs), xs a list of tuples of ints of any lengths -/
def rSrtR (K : PySem.W.Frag) : List V → Hp → VK → Prop := fun vs H Q => ∃ (a : Addr) (ts : List Addr) (as : List (List Int)), vs = [V.ref a] ∧ SqL K H a (ts.map V.ref) ∧ ts.length = as.length ∧
  (∀ (i : Nat) t b, ts[i]? = some t → as[i]? = some b → SqT K H t (b.map V.int)) ∧
  ∀ (zs : List (Addr × List Int)) (p : Addr), zs.Perm (ts.zip as) → zs.Pairwise (fun x y => ltR y.2 x.2 = false) → H p = none → Q (.ref p) (upd H p (.lst (zs.map fun z => V.ref z.1)))
section
variable {X : Cx}
theorem vals_refs' : ∀ {ts : List Addr} {us : List Value}, Vals (ts.map V.ref) us → us = ts.map Value.ref
  | [], _, .nil => rfl
  | t :: ts, _, .cons r rs => by
    rw [List.map_cons, ← vals_refs' rs]
    exact congrArg (· :: _) r
theorem zip_rows_at {h : Heap} : ∀ {ts : List Addr} {as : List (List Int)}, TupsN h (ts.map Value.ref) as → ts.zip as = (ts.map Value.ref).map fun v => (refV v, rowsAt h v)
  | [], _, .nil => rfl
  | t :: ts, _, .cons x r => by
    rw [List.map_cons, List.map_cons, List.zip_cons_cons, zip_rows_at r, rows_at x]
    rfl
theorem cr_srtR (hu : X.A.units + 65 < cLine) : CallR X (.builtin "sorted") (rSrtR X.K) := by
  intro pn st sg Hh args vals Kq J rel ⟨a, ts, as, ea, sq, ll, rows, q⟩
  subst ea
  obtain ⟨its, rv, lay, fit⟩ := J.list sq
  have e := vals_refs' rv
  subst e
  have tn : TupsN st.heap (ts.map Value.ref) as := vals_mapRef rfl J rv (by rw [List.length_map]; exact ll) fun i x b hx hb => by
    rw [List.getElem?_map] at hx
    obtain ⟨t, et, rfl⟩ := Option.map_eq_some_iff.mp hx
    exact ⟨t, rfl, rows i t b et hb⟩
  rw [Vals.ref1 rel]
  refine sorted_ord (swo_rv (h := st.heap)) lay.isList (by rw [← rv.length]; exact fit) (fun two h1 a2 _ k => rows_sortable tn k two ?_) fun out h1 h2 => ?_
  · show X.A.units + 1 + 1 + 1 < cLine
    omega
  obtain ⟨ep, at_⟩ := PyProof.Rows.sortedAll_at st.heap (ts.map Value.ref) out.toArray
  have pm := h2.perm
  have oref : ∀ u ∈ out, ∃ t, u = Value.ref t := fun u hu => by
    obtain ⟨t, _, rfl⟩ := List.mem_map.mp (pm.mem_iff.mp hu)
    exact ⟨t, rfl⟩
  have rvo : Vals ((out.map fun v => (refV v, rowsAt st.heap v)).map fun z => V.ref z.1) out := by
    clear at_ h1 h2 pm
    induction out with
    | nil => exact .nil
    | cons u out ih =>
      obtain ⟨t, rfl⟩ := oref u List.mem_cons_self
      exact .cons rfl (ih fun v hv => oref v (List.mem_cons_of_mem _ hv))
  have len : ((out.map fun v => (refV v, rowsAt st.heap v)).map fun z => V.ref z.1).length ≤ sizeLine := by
    rw [List.length_map, List.length_map, pm.length_eq, ← rv.length]
    exact fit
  refine ⟨.ref _, upd Hh (st.heap.objs.size + 1) (.lst ((out.map fun v => (refV v, rowsAt st.heap v)).map fun z => V.ref z.1)), J.laid (t' := st.toks) (fun _ _ => PyProof.Rows.sortedAll_old) (Nat.le_succ _) ⟨len, out, ep, rvo, at_⟩, rfl, q _ _ ?_ ?_ (J.hok.fresh (Nat.le_succ _))⟩
  · rw [zip_rows_at tn]
    exact pm.map _
  · exact List.pairwise_map.mpr (h1.imp fun {x y} z => z)
theorem cr_srtRK {K : PySem.W.Frag} (h : X.K = K) (hu : X.A.units + 65 < cLine) : CallR X (.builtin "sorted") (rSrtR K) := h ▸ cr_srtR hu
end
variable [Tb] [Ls]
def rowI (ks : List Int) : D := .tup (ks.map D.int)
theorem atAll_rowI {G : Hp} : ∀ {vs : List V} {kss : List (List Int)}, AtAll G vs (kss.map rowI) → ∃ ts : List Addr, vs = ts.map V.ref ∧ ts.length = kss.length ∧ ∀ (i : Nat) t b, ts[i]? = some t → kss[i]? = some b → At G (.ref t) (rowI b) ∧ Rd G t (.tup (b.map V.int))
  | _, [], .nil => ⟨[], rfl, rfl, fun i t b e => by simp at e⟩
  | _, k :: kss, h => by
    rw [List.map_cons] at h
    cases h with
    | cons a t =>
      obtain ⟨ts, rfl, l, r⟩ := atAll_rowI t
      have a' := a
      obtain ⟨p, xs, rfl, hp, al⟩ := at_tup a
      obtain rfl := atAll_ints al
      refine ⟨p :: ts, rfl, congrArg Nat.succ l, fun i t b e1 e2 => ?_⟩
      cases i with
      | zero =>
        obtain rfl : p = t := by simpa using e1
        obtain rfl : k = b := by simpa using e2
        exact ⟨a', hp⟩
      | succ i => exact r i t b (by simpa using e1) (by simpa using e2)
section
variable {φ : D → Prop} {K : PySem.W.Frag}
theorem cbd_srtR {kss : List (List Int)} (q : ∀ yss : List (List Int), yss.Perm kss → yss.Pairwise (fun a b => ltR b a = false) → φ (.lst (yss.map rowI))) : CbD (rSrtR K) [.lst (kss.map rowI)] φ := fun G H vs s a Q k => by
  cases a with
  | cons a t =>
    cases t
    obtain ⟨p0, xs, rfl, ha, al⟩ := at_lst a
    obtain ⟨ts, rfl, ll, rows⟩ := atAll_rowI al
    refine ⟨p0, ts, kss, rfl, sqL_of s ha, ll, fun i t b e1 e2 => sqT_of s (rows i t b e1 e2).2, fun zs p hp hs fp => ?_⟩
    have st : Stp S0 G H (upd G p (.lst (zs.map fun z => V.ref z.1))) (upd H p (.lst (zs.map fun z => V.ref z.1))) := .new s fp
    have mem : ∀ z ∈ zs, At G (.ref z.1) (rowI z.2) := fun z hz => by
      obtain ⟨i, ei⟩ := List.mem_iff_getElem?.mp (hp.mem_iff.mp hz)
      obtain ⟨e1, e2⟩ := List.getElem?_zip_eq_some.mp ei
      exact (rows i _ _ e1 e2).1
    have all : ∀ {G' : Hp} (zs : List (Addr × List Int)), (∀ z ∈ zs, At G' (.ref z.1) (rowI z.2)) → AtAll G' (zs.map fun z => V.ref z.1) ((zs.map (·.2)).map rowI) := fun {G'} zs m => by
      induction zs with
      | nil => exact .nil
      | cons z zs ih => exact .cons (m z List.mem_cons_self) (ih fun y hy => m y (List.mem_cons_of_mem _ hy))
    refine k _ _ _ _ st (upd_same2 s) (.lst upd_same (all zs fun z hz => (mem z hz).same st.gs)) (q (zs.map (·.2)) ?_ (List.pairwise_map.mpr hs))
    have := hp.map (·.2)
    rw [List.map_snd_zip (by omega)] at this
    exact this
end
/-- two sorted lists of the same rows are one -/
theorem srtR_uniq {xs ys : List (List Int)} (hx : xs.Pairwise (fun a b => ltR b a = false)) (hy : ys.Pairwise (fun a b => ltR b a = false)) (p : xs.Perm ys) : xs = ys :=
  p.eq_of_pairwise (fun a b _ _ h1 h2 => ltR_total h2 h1) hx hy
end Nv
/-! Nv, part Lr: sorted(xs, key=lambda x: (len(x), x)), xs a list of tuples of ints. -/
namespace Nv
open PySem PySem.Spec PyProof.Rows L2 LamX PySem.W
variable [Tb] [Ls]
/-- (len(x), x) -/
abbrev lenBody (x : Str) (k : Nat) (p1 p2 p3 p4 p5 : Pos) : Expr := .Tuple [.Call (.Name "len" p1) [.Name x p2] [] p3, .Name x p4] k p5
/-- the names of such a lambda -/
structure LamR (x : Str) (params : Arguments) (body : Expr) (scope : Scope) : Prop where
  kind : scope.kind = .function
  co : scope.isCoroutine = false
  gen : scope.isGenerator = false
  nc : ∀ z ∈ scope.names, z.2 ≠ .cell
  nf : ∀ z ∈ scope.names, z.2 ≠ .free
  lx : scope.names.lookup x = some .local
  ll : scope.names.lookup ("len" : Str) = some .globalImplicit
  bind : ∀ (q : Str) (cl : List (Str × Addr)) (pm cv ctv v : Value), bindArgs (PySem.W.kla_fn "<lambda>" q params body scope cl pm cv ctv) ⟨[v], []⟩ = pure [(x, v)]
theorem ints_len : ∀ {us : List Value} {ns : List Int}, IntsAre us ns → us.length = ns.length
  | _, _, .nil => rfl
  | _, _, .cons _ _ r => congrArg Nat.succ (ints_len r)
/-- what the lambda tells -/
def keyR (ns : List Int) : PyData := .tuple [.int ns.length, dtR ns]
theorem key_callR {prog : Program} {w : World} {A : Around} {s : Shared} {f c' t : Addr} {x q : Str} {params : Arguments} {scope : Scope} {cl : List (Str × Addr)} {pm ctv : Value} {k : Nat} {p1 p2 p3 p4 p5 : Pos} {items : Array Value} {ns : List Int} {mg mb : Str → Option Value}
    (L : LamR x params (lenBody x k p1 p2 p3 p4 p5) scope) (hf : s.heap.get? f = some (PySem.W.kla_obj "<lambda>" q params (lenBody x k p1 p2 p3 p4 p5) scope cl pm c' ctv)) (hc : s.heap.CodeRec (.ref c') q) (hlim : s.heap.NoLimit) (hroom : A.depth < recursionLimit)
    (ht : s.heap.IsTuple t items) (hi : IntsAre items.toList ns) (ln : ns.length ≤ 100000) (hg : s.heap.Ns mainGlobals mg) (hm : mg "len" = none) (hb : s.heap.Ns builtinsNs mb) (hv : mb "len" = some (.builtin "len")) (hdx : (x == ("__debug__" : Str)) = false) :
    wpAny (model prog w) A (call (.ref f) [.ref t]) (PySem.W.KeyPure (keyR ns) s) (fun _ _ => False) s := by
  refine wpAny_call (PySem.W.kla_callFunE hroom hf rfl L.co L.gen rfl hc ?_)
  rw [L.bind]
  refine wpAny_pure (wpAny_newFunctionEnv L.nc (fun z hz => ?_) (fun h₁ hns hsb => ⟨hlim.fresh _ hsb, ?_⟩) L.kind)
  · rw [List.mem_singleton] at hz
    subst hz
    exact L.lx
  have kp : ∀ b o, s.heap.get? b = some o → h₁.get? b = some o := fun b o e => hsb.extBut b o (Nat.ne_of_lt (Heap.lt_size e)) (Heap.get?_push_of_some _ e)
  have ht1 : IsTup h₁ t items := let ⟨o, a, r⟩ := ht; ⟨o, kp _ _ a, r⟩
  have sz : items.size = ns.length := by
    have := ints_len hi
    simpa using this
  have l63 := line63
  have s16 : sizeLine = 16777216 := sizeLine_eq
  refine PySem.W.kla_codeExpr (wpAny_Tuple ?_)
  refine args_cons ?_
  refine wpAny_Call_NameR ?_
  refine Calls.Name_function_global (by exact L.kind) (by exact L.ll) ?_
  refine Calls.loadGlobal_builtin (mg := mg) (mb := mb) (by exact hg.keeps kp) hm (by exact hb.keeps kp) hv ?_
  refine Calls.callWith_builtin rfl (Calls.evalArgs_plain (rest := []) (Calls.spliced_cons ?_))
  refine wpAny_Name (wpAny_loadName_local (v := .ref t) (by exact L.kind) (by exact L.lx) (by exact hns) (by show ([(x, Value.ref t)] : List (Str × Value)).reverse.lookup x = _; simp [List.lookup]) ?_) hdx
  refine Calls.spliced_nil ?_
  refine len_tuple ht1 (by rw [sz]; omega) ?_
  refine args_cons ?_
  refine wpAny_Name (wpAny_loadName_local (v := .ref t) (by exact L.kind) (by exact L.lx) (by exact hns) (by show ([(x, Value.ref t)] : List (Str × Value)).reverse.lookup x = _; simp [List.lookup]) ?_) hdx
  refine args_nil ⟨?_, ?_⟩
  · show 2 ≤ sizeLine
    omega
  · refine ⟨_, _, rfl, fun b o e => Heap.get?_push_of_some _ (kp b o e), ?_⟩
    obtain ⟨o, ho, hc', n, hd'⟩ := ht1
    refine .tuple (as := []) (Heap.get?_push_size _ rfl) rfl rfl ?_
    show ReadsAll _ [Value.int items.size (s.toks + 1 + 1), .ref t] [.int ns.length, dtR ns] []
    rw [sz]
    exact .cons (as := []) (bs := []) (.int _ _) (.cons (as := []) (bs := []) (.tuple (Heap.get?_push_of_some _ ho) hc' hd' (reads_ints hi)) .nil)
/-! ### the order -/
def ltK (a b : List Int) : Bool := dataLt (keyR a) (keyR b)
theorem alikeK (a b : List Int) : alike (keyR a) (keyR b) = true := by
  unfold keyR
  rw [alike, alikeAll, alikeAll, alikeAll, alikeR a b, alike]
  rfl
theorem ltK_lex {a b : List Int} : ltK a b = PyProof.Rows.lexLt PyProof.Rows.itemOrd (keyToksAll [.int a.length, dtR a]) (keyToksAll [.int b.length, dtR b]) := dataLt_tuple _ _
theorem ltK_asym {a b : List Int} (h : ltK a b = true) : ltK b a = false := by
  cases q : ltK b a with
  | false => rfl
  | true =>
    rw [ltK_lex] at h q
    have := PyProof.Rows.lex_trans _ _ _ h q
    rw [PyProof.Rows.lex_irrefl] at this
    exact nomatch this
theorem ltK_tr {a b c : List Int} (h1 : ltK b a = false) (h2 : ltK c b = false) : ltK c a = false := by
  cases q : ltK c a with
  | false => rfl
  | true =>
    rw [ltK_lex] at h1 h2 q
    rcases PyProof.Rows.lex_negTrans _ (keyToksAll [.int b.length, dtR b]) _ q with h | h
    · rw [h2] at h; exact nomatch h
    · rw [h1] at h; exact nomatch h
theorem eqvR {a b : List Int} : PyData.eqv (dtR a) (dtR b) = decide (a = b) := by
  have := eqv_ints (xs := a) (ys := b)
  rw [toPy, toPy, PyData.eqv] at this
  show PyData.eqv (.tuple (a.map PyData.int)) (.tuple (b.map PyData.int)) = _
  rw [PyData.eqv, ← this]
  have e : ∀ zs : List Int, toPys (zs.map D.int) = zs.map PyData.int := fun zs => by
    induction zs with
    | nil => rfl
    | cons z zs ih =>
      rw [List.map_cons, toPys, ih, toPy]
      rfl
  rw [e, e]
theorem ltK_eq {a b : List Int} : ltK a b = if a.length = b.length then ltR a b else decide (a.length < b.length) := by
  unfold ltK keyR
  rw [dataLt_pair (by rw [alike]) (alikeR a b), dataLt_int]
  have e1 : PyData.eqv (.int (a.length : Nat)) (.int (b.length : Nat)) = decide (a.length = b.length) := by
    rw [PyData.eqv, Bool.eq_iff_iff]
    simp
    omega
  rw [e1, eqvR]
  by_cases q : a.length = b.length
  · rw [if_pos q, decide_eq_true q, if_pos rfl]
    by_cases z : a = b
    · subst z
      rw [ltR_irr]
      simp
    · rw [decide_eq_false z]
      rfl
  · rw [if_neg q, decide_eq_false q]
    simp
theorem ltK_total {a b : List Int} (h1 : ltK a b = false) (h2 : ltK b a = false) : a = b := by
  rw [ltK_eq] at h1 h2
  by_cases q : a.length = b.length
  · rw [if_pos q] at h1
    rw [if_pos q.symm] at h2
    exact ltR_total h1 h2
  · rw [if_neg q] at h1
    rw [if_neg (fun z => q z.symm)] at h2
    have h1 := of_decide_eq_false h1
    have h2 := of_decide_eq_false h2
    omega
/-- two lists in this order of the same rows are one -/
theorem srtK_uniq {xs ys : List (List Int)} (hx : xs.Pairwise (fun a b => ltK b a = false)) (hy : ys.Pairwise (fun a b => ltK b a = false)) (p : xs.Perm ys) : xs = ys :=
  p.eq_of_pairwise (fun a b _ _ h1 h2 => ltK_total h2 h1) hx hy
/-! ### the rule -/
def zSortRow (K : PySem.W.Frag) (P : Addr) (q : Str) (Q : VK) (v : V) (H1 : Hp) : Prop := ∃ (a : Addr) (ts : List Addr) (as : List (List Int)) (ps : Array Value), v = .ref a ∧ SqL K H1 a (ts.map V.ref) ∧ ts.length = as.length ∧ as.length ≤ 100000 ∧ (∀ b ∈ as, b.length ≤ 100000) ∧
  (∀ (i : Nat) t b, ts[i]? = some t → as[i]? = some b → SqT K H1 t (b.map V.int)) ∧ H1 P = some (.tbl ps) ∧ TabOk H1 q ps ∧
  ∀ (zs : List (Addr × List Int)) (H2 : Hp) (c' p : Addr), zs.Perm (ts.zip as) → zs.Pairwise (fun x y => ltK y.2 x.2 = false) → Grown H1 P q ps c' H2 → H2 p = none → Q (.ref p) (upd H2 p (.lst (zs.map fun z => V.ref z.1)))
def tSortRow (K : PySem.W.Frag) (P : Addr) (q : Str) (te : TE) : TE := fun σ H Q => te σ H fun v H1 => zSortRow K P q Q v H1
theorem pe_sortRow {X : Cx} {k n : Nat} {c P : Addr} {x : Str} {params : Arguments} {scope : Scope} {p1 p2 p3 p4 p5 p lpos kpos pos : Pos} {e : Expr} {te : TE} (hr : Room (k + 1) X.A) (TB : TabB X.base X.mg c P) (hcode : X.env.code = .ref c)
    (hg : Gl X "sorted") (hm : X.mg "sorted" = none) (hm2 : X.mg "len" = none) (L : LamR x params (lenBody x n p1 p2 p3 p4 p5) scope)
    (he : PE X e te) (hdef : defaultsOf params X.env = ([], [])) (hdx : (x == ("__debug__" : Str)) = false := by decide)
    (na : starEach [e] X.env = (false, eval e X.env) :: starEach [] X.env := by rfl) :
    PE X (.Call (.Name "sorted" p) [e] [⟨some "key", .Lambda params (lenBody x n p1 p2 p3 p4 p5) scope lpos, kpos⟩] pos) (tSortRow X.K P (X.env.qual ++ "<lambda>") te) := by
  refine ⟨fun pins s σ H Q I h => ?_⟩
  refine wpAny_Call_Name_kw (ld_blt I hg hm b_sorted ?_)
  refine PyProof.Rows.callWith_kw (args_cons (thn (he.run pins s σ H _ I h) fun v s1 hv => args_nil ?_) na) (by rw [na]; rfl) (by rw [na]; rfl) rfl rfl
  obtain ⟨w0, H1, I1, rv0, a, ts, as, ps, rfl, sq, ll, la, lb, rows, hP, T, fin⟩ := hv
  obtain rfl : v = Value.ref a := rv0
  show wpAny _ _ (evalAll [(do let v ← eval (.Lambda params (lenBody x n p1 p2 p3 p4 p5) scope lpos) X.env; standAt pos; pure v)]) _ _ s1
  refine wpAny_evalAll_cons (wpAny_bind (lam_mk (P := P) (c := c) I1 TB hcode hP T hdef (fun z hz e => absurd e (L.nf z hz)) fun f c' pm ctv H2 s2 kp I2 gr co hf => wpAny_bind (wpAny_standAt (wpAny_pure (wpAny_evalAll_nil ?_)))))
  have oP : s1.heap.get? P = some { cls := .none, data := .fields ps } := I1.hok P _ hP
  obtain ⟨its, rv, lay, fit⟩ := I1.list sq
  have e := vals_refs' rv
  subst e
  have tn1 : TupsN s1.heap (ts.map Value.ref) as := vals_mapRef rfl I1 rv (by rw [List.length_map]; exact ll) fun i x b hx hb => by
    rw [List.getElem?_map] at hx
    obtain ⟨t, et, rfl⟩ := Option.map_eq_some_iff.mp hx
    exact ⟨t, rfl, rows i t b et hb⟩
  have keep : ∀ b o, s1.heap.get? b = some o → o.cls ≠ .none → s2.heap.get? b = some o := fun b o e nc => kp _ _ (fun z => by
    rw [z, oP] at e
    rw [← Option.some.inj e] at nc
    exact nc rfl) e
  have tn : ∀ (i : Nat) t b, ts[i]? = some t → as[i]? = some b → TupN s2.heap (.ref t) b := fun i t b e1 e2 => by
    obtain ⟨its', rv', p1', _⟩ := I1.tuple (rows i t b e1 e2)
    obtain ⟨o, ho, hc, m, hd⟩ := p1'
    exact ⟨t, o, its'.toArray, m, rfl, keep _ _ ho (by rw [hc]; exact fun z => nomatch z), hc, hd, by simpa using rv'.ints⟩
  obtain ⟨ob, b1, b2, b3, b4⟩ := lay.isList
  have lst2 : s2.heap.IsList a (ts.map Value.ref).toArray := ⟨ob, keep _ _ b1 (by rw [b2]; exact fun z => nomatch z), b2, b3, b4⟩
  obtain ⟨⟨od, vs, tq, d1, d2, d3⟩, _, _⟩ := I2.hok c' _ co
  have lm := I2.nolimit
  obtain ⟨mb, bl1, bl2⟩ := I2.mod.blt
  have hu := hr.un
  have dep : ∀ b : List Int, (keyR b).depth ≤ 2 := fun b => by
    unfold keyR
    rw [PyData.depth, PyData.depthAll, PyData.depthAll, PyData.depthAll, depthR, PyData.depth]
    omega
  refine sorted_key_data (b := false) (bs := ts.zip as) (R := fun v z => v = Value.ref z.1 ∧ TupN s2.heap v z.2) (fun z => keyR z.2) lst2 ?_ (AllAlike.of fun x y => alikeK _ _) (Sortable.tuples fun _ => ⟨_, _, rfl⟩) ?_ (fun z _ => ?_) (ksk_s1 _ _) (fun _ => ksk_l1 _ _) (fun _ => ksk_t1 _ _) (fun v z ⟨ev, tz⟩ mz h9 tk9 kp9 => ?_) fun out cc h' tk e1 e2 e3 e4 e5 => ?_
  · refine each_get (by rw [List.length_map, List.length_zip]; omega) fun i v z h1 h2 => ?_
    obtain ⟨g1, g2⟩ := List.getElem?_zip_eq_some.mp h2
    rw [List.getElem?_map, g1] at h1
    obtain rfl := (Option.some.inj h1)
    exact ⟨rfl, tn i _ _ g1 g2⟩
  · rw [List.length_zip, sizeLine_eq]
    omega
  · have := dep z.2
    show X.A.units + 2 + (keyR z.2).depth < cLine
    omega
  · subst ev
    obtain ⟨t9, o, items, m9, et9, ho, hc, hd, hi⟩ := tz
    obtain rfl := Value.ref.inj et9
    exact key_callR (s := { s2 with heap := h9, toks := tk9 }) L (kp9 _ _ hf) ⟨c', od, vs, tq, rfl, kp9 _ _ d1, d2, d3⟩ (lm.keeps kp9) (show X.A.depth < recursionLimit by have := hr.dp; omega) ⟨o, kp9 _ _ ho, hc, m9, hd⟩ hi (lb _ (by
      obtain ⟨i, ei⟩ := List.mem_iff_getElem?.mp mz
      exact List.mem_of_getElem? (List.getElem?_zip_eq_some.mp ei).2)) ((I2.mod.glob.keeps I2.bk).keeps kp9) hm2 ((bl1.keeps I2.bk).keeps kp9) (bl2 _ (by decide)) hdx
  · have rvo : ∀ {out : List Value} {zs : List (Addr × List Int)}, EachIs (fun v z => v = Value.ref z.1 ∧ TupN s2.heap v z.2) out zs → Vals (zs.map fun z => V.ref z.1) out := fun {out zs} h => by
      induction h with
      | nil => exact .nil
      | cons r _ ih => exact .cons r.1 ih
    have len : (((ts.zip as).mergeSort (dataLe false fun z => keyR z.2)).map fun z => V.ref z.1).length ≤ sizeLine := by
      rw [List.length_map, (List.mergeSort_perm _ _).length_eq, List.length_zip, sizeLine_eq]
      omega
    refine ⟨.ref _, upd H2 (s2.heap.objs.size + 1) (.lst (((ts.zip as).mergeSort (dataLe false fun z => keyR z.2)).map fun z => V.ref z.1)), I2.laid (t' := tk) e1 (Nat.le_succ _) ⟨len, out, cc, rvo e5, e3⟩, rfl, fin _ H2 c' _ (List.mergeSort_perm _ _) ?_ gr (I2.hok.fresh (Nat.le_succ _))⟩
    rw [dataLe_eq]
    have := List.pairwise_mergeSort (le := fun a b : Addr × List Int => !ltK b.2 a.2) (fun a b c h1 h2 => by
      simp only [Bool.not_eq_true'] at *
      exact ltK_tr h1 h2) (fun a b => by
      cases q : ltK b.2 a.2 with
      | false => rfl
      | true =>
        rw [ltK_asym q]
        rfl) (ts.zip as)
    exact this.imp fun {a b} h => by simpa using h
section
variable {R : Rg} {δ : List Sl} {te : TE} {φ : D → Prop} {K : PySem.W.Frag} {P : Addr} {q : Str}
/-- sorted(xs, key=lambda x: (len(x), x)) -/
theorem wpe_sortRow (hU : Tb.U P) (hq : q = Tb.nm P) (us : ∀ a, Tb.U a → R.T.S a)
    (h : WpE R te δ fun x => ∃ kss : List (List Int), x = .lst (kss.map rowI) ∧ kss.length ≤ 100000 ∧ (∀ b ∈ kss, b.length ≤ 100000) ∧ ∀ yss : List (List Int), yss.Perm kss → yss.Pairwise (fun a b => ltK b a = false) → φ (.lst (yss.map rowI))) :
    WpE R (tSortRow K P q te) δ φ := fun σ G H en rz Q k => by
  subst hq
  exact
  h σ G H en rz _ fun v x G1 H1 s1 e1 a1 ⟨kss, ex, lk, lb, fin⟩ => by
    subst ex
    obtain ⟨p0, xs, rfl, ha, al⟩ := at_lst a1
    obtain ⟨ts, rfl, ll, rows⟩ := atAll_rowI al
    obtain ⟨gP, oP, hP, mo⟩ := e1.stt P (us P hU)
    rcases mo with ⟨nU, _⟩ | ⟨_, ps, rfl, tk⟩
    · exact absurd hU nU
    have tk1 : TabOk H1 (Tb.nm P) ps := tk.same e1.same
    refine ⟨p0, ts, kss, ps, rfl, sqL_of e1.same ha, ll, lk, lb, fun i t b h1 h2 => sqT_of e1.same (rows i t b h1 h2).2, hP, tk1, fun zs H2 c' p hp hs gr hf => ?_⟩
    have mem : ∀ z ∈ zs, At G1 (.ref z.1) (rowI z.2) := fun z hz => by
      obtain ⟨i, ei⟩ := List.mem_iff_getElem?.mp (hp.mem_iff.mp hz)
      obtain ⟨g1, g2⟩ := List.getElem?_zip_eq_some.mp ei
      exact (rows i _ _ g1 g2).1
    have all : ∀ {G' : Hp} (zs : List (Addr × List Int)), (∀ z ∈ zs, At G' (.ref z.1) (rowI z.2)) → AtAll G' (zs.map fun z => V.ref z.1) ((zs.map (·.2)).map rowI) := fun {G'} zs m => by
      induction zs with
      | nil => exact .nil
      | cons z zs ih => exact .cons (m z List.mem_cons_self) (ih fun y hy => m y (List.mem_cons_of_mem _ hy))
    have pm : (zs.map (·.2)).Perm kss := by
      have := hp.map (·.2)
      rw [List.map_snd_zip (by omega)] at this
      exact this
    have done := fin (zs.map (·.2)) pm (List.pairwise_map.mpr hs)
    rcases gr with ⟨rfl, co⟩ | ⟨qs, fc, rfl, tr, ca⟩
    · have st : Stp S0 G1 H2 (upd G1 p (.lst (zs.map fun z => V.ref z.1))) (upd H2 p (.lst (zs.map fun z => V.ref z.1))) := .new e1.same hf
      exact k _ _ _ _ (s1.trans st.zero) (e1.step0 st (upd_same2 e1.same)) (.lst upd_same (all zs fun z hz => (mem z hz).same st.gs)) done
    · have gc : G1 c' = none := e1.same.free fc
      have nPc : P ≠ c' := fun z => by rw [z, fc] at hP; exact nomatch hP
      have g12 : Same G1 (upd G1 c' (LamX.CodeO c' (Tb.nm P))) := same_upd gc
      have sm2 : Same (upd G1 c' (LamX.CodeO c' (Tb.nm P))) (upd (upd H1 P (.tbl qs)) c' (LamX.CodeO c' (Tb.nm P))) := fun b u e => by
        by_cases z : b = c'
        · subst z
          rw [upd_same] at e ⊢
          exact e
        · rw [upd_ne z] at e ⊢
          rw [upd_ne (fun y => by rw [y, gP] at e; exact nomatch e)]
          exact e1.same b u e
      have st2 : Stp R.T.S G1 H1 (upd G1 c' (LamX.CodeO c' (Tb.nm P))) (upd (upd H1 P (.tbl qs)) c' (LamX.CodeO c' (Tb.nm P))) := by
        refine ⟨g12, fun b u e n => ?_, fun b e => ?_, fun b e1' e2' => ?_⟩
        · rw [upd_ne (ne_of_none e fc), upd_ne (fun y => n (by rw [y]; exact us P hU))]
          exact e
        · by_cases z : b = c'
          · rw [z, upd_same]; exact fun q => nomatch q
          · rw [upd_ne z]
            by_cases y : b = P
            · rw [y, upd_same]; exact fun q => nomatch q
            · rw [upd_ne y]; exact e
        · rw [upd_ne (fun z => e2' (by rw [z]; exact fc))]
          exact e1'
      have so2 : StO R.T.S (upd G1 c' (LamX.CodeO c' (Tb.nm P))) (upd (upd H1 P (.tbl qs)) c' (LamX.CodeO c' (Tb.nm P))) := fun a ha => by
        obtain ⟨ga, oa, ea, ma⟩ := e1.stt a ha
        have nac : a ≠ c' := ne_of_none ea fc
        refine ⟨by rw [upd_ne nac]; exact ga, ?_⟩
        by_cases y : a = P
        · subst y
          refine ⟨.tbl qs, by rw [upd_ne nac, upd_same], .inr ⟨hU, qs, rfl, tr, fun pos cv hc => ?_⟩⟩
          rcases ca pos cv hc with z | z
          · obtain ⟨c9, e9, h9⟩ := tk.co pos cv z
            exact ⟨c9, e9, g12 _ _ h9⟩
          · exact ⟨c', z, upd_same⟩
        · exact ⟨oa, by rw [upd_ne nac, upd_ne y]; exact ea, ma.same g12⟩
      have e2 := e1.step st2 (fun _ z => z) sm2 so2
      have st3 : Stp S0 _ _ (upd _ p (.lst (zs.map fun z => V.ref z.1))) (upd _ p (.lst (zs.map fun z => V.ref z.1))) := .new e2.same hf
      exact k _ _ _ _ ((s1.trans st2).trans st3.zero) (e2.step0 st3 (upd_same2 e2.same)) (.lst upd_same (all zs fun z hz => ((mem z hz).same g12).same st3.gs)) done
end
end Nv
/-! Nv, part Lo: rows of labels, ascending, below a bound; all of them in the order (length, row). -/
namespace Nv
open PySem PySem.Spec PyProof.Rows L2
variable [Tb] [Ls]
structure LotH (n : Nat) (ks : List Nat) : Prop where
  asc : ks.Pairwise (· < ·)
  lt : ∀ k ∈ ks, k < n
def subsN : Nat → List (List Nat)
  | 0 => [[]]
  | n + 1 => subsN n ++ (subsN n).map (· ++ [n])
theorem subsN_len : ∀ n, (subsN n).length = 2 ^ n
  | 0 => rfl
  | n + 1 => by
    unfold subsN
    rw [List.length_append, List.length_map, subsN_len n, Nat.pow_succ]
    omega
theorem subsN_mem : ∀ (n : Nat) {ks : List Nat}, LotH n ks → ks ∈ subsN n
  | 0, [], _ => List.mem_singleton.mpr rfl
  | 0, k :: ks, h => absurd (h.lt k List.mem_cons_self) (Nat.not_lt_zero _)
  | n + 1, ks, h => by
    unfold subsN
    rw [List.mem_append]
    by_cases q : n ∈ ks
    · refine .inr (List.mem_map.mpr ⟨ks.dropLast, subsN_mem n ?_, ?_⟩)
      all_goals
        have ne : ks ≠ [] := List.ne_nil_of_mem q
        have e := List.dropLast_concat_getLast ne
        have la : ks.getLast ne = n := by
          have l1 := h.lt _ (List.getLast_mem ne)
          by_cases z : ks.getLast ne = n
          · exact z
          · exfalso
            have a := h.asc
            rw [← e] at a q
            rcases List.mem_append.mp q with q | q
            · have := (List.pairwise_append.mp a).2.2 n q _ (List.mem_singleton.mpr rfl)
              omega
            · have := List.mem_singleton.mp q
              omega
      · have a := h.asc
        rw [← e] at a
        obtain ⟨a1, _, a3⟩ := List.pairwise_append.mp a
        refine ⟨a1, fun k hk => ?_⟩
        have := a3 k hk _ (List.mem_singleton.mpr rfl)
        omega
      · show ks.dropLast ++ [n] = ks
        rw [la] at e
        exact e
    · exact .inl (subsN_mem n ⟨h.asc, fun k hk => by
        have := h.lt k hk
        have : k ≠ n := fun z => q (by rw [← z]; exact hk)
        omega⟩)
theorem lots_few {n : Nat} {l : List (List Nat)} (nd : l.Nodup) (h : ∀ ks ∈ l, LotH n ks) : l.length ≤ 2 ^ n := by
  rw [← subsN_len n]
  exact nodup_le nd fun ks hk => subsN_mem n (h ks hk)
theorem natI {ks : List Nat} : (ks.map fun (i : Nat) => D.int i) = (ks.map fun (i : Nat) => (i : Int)).map D.int := by
  rw [List.map_map]
  rfl
theorem memI {v : Nat} {ks : List Nat} : decide ((v : Int) ∈ ks.map fun (i : Nat) => (i : Int)) = decide (v ∈ ks) := by
  rw [Bool.eq_iff_iff, decide_eq_true_iff, decide_eq_true_iff, List.mem_map]
  exact ⟨fun ⟨a, ha, e⟩ => Int.ofNat.inj e ▸ ha, fun h => ⟨v, h, rfl⟩⟩
theorem lot_few {n : Nat} {k : List Nat} (l : LotH n k) : k.length ≤ n := by
  have := nodup_le (U := List.range n) (l.asc.imp fun {a b} h e => by omega) fun z hz => List.mem_range.mpr (l.lt z hz)
  rwa [List.length_range] at this
theorem flt_rowsH {p : D → Bool} {q : List Nat → Bool} (h : ∀ os, p (rowN os) = q os) {kss : List (List Nat)} : ((kss.map rowN).filter p).map id = (kss.filter q).map rowN := by
  rw [List.map_id, List.filter_map]
  congr 2
  funext os
  exact h os
theorem lotH_nil {n : Nat} : LotH n [] := ⟨List.Pairwise.nil, fun k h => nomatch h⟩
theorem chk_lotC : ∀ n < 8, (subsN n).all (fun ks => decide (ks.length ≤ 4 → ks ∈ combs n ks.length)) = true := by decide +kernel
theorem chk_lotD : ∀ n < 8, ∀ r < 5, (combs n r).all (fun ks => decide (ks.Pairwise (· < ·)) && ks.all fun k => decide (k < n)) = true := by decide +kernel
theorem combs_lot {n : Nat} {ks : List Nat} (h : n ≤ 7) (l : ks.length ≤ 4) : ks ∈ combs n ks.length ↔ LotH n ks := by
  constructor
  · intro m
    have := List.all_eq_true.mp (chk_lotD n (by omega) ks.length (by omega)) ks m
    rw [Bool.and_eq_true] at this
    exact ⟨of_decide_eq_true this.1, fun k hk => of_decide_eq_true (List.all_eq_true.mp this.2 k hk)⟩
  · intro m
    exact (of_decide_eq_true (List.all_eq_true.mp (chk_lotC n (by omega)) ks (subsN_mem n m))) l
/-! ### all rows of at most t labels below n -/
def rowsL (t n : Nat) : List (List Nat) := (List.range (t + 1)).flatMap (combs n)
def ofBits (n b : Nat) : List Nat := (List.range n).filter fun k => decide (b / 2 ^ k % 2 = 1)
def rowIn (t n b : Nat) : Bool := decide ((ofBits n b).length ≤ t) && decide (b < 2 ^ n)
/-- the rows found among the first i numbers -/
def foundB (t n i : Nat) : List (List Nat) := ((List.range i).filter (rowIn t n)).map (ofBits n)
theorem found_succ {t n i : Nat} : foundB t n (i + 1) = foundB t n i ++ (if rowIn t n i = true then [ofBits n i] else []) := by
  unfold foundB
  rw [List.range_succ, List.filter_append, List.map_append]
  congr 1
  by_cases q : rowIn t n i = true
  · rw [if_pos q, List.filter_cons_of_pos q]
    rfl
  · rw [if_neg q, List.filter_cons_of_neg q]
    rfl
def leK (a b : List Nat) : Bool := if a.length = b.length then decide (¬ b < a) else decide (a.length < b.length)
theorem ltI : ∀ {a b : List Nat}, (a.map fun (i : Nat) => (i : Int)) < (b.map fun (i : Nat) => (i : Int)) ↔ a < b
  | [], [] => by simp
  | [], _ :: _ => by simp
  | _ :: _, [] => by simp
  | x :: a, y :: b => by
    rw [List.map_cons, List.map_cons, List.cons_lt_cons_iff, List.cons_lt_cons_iff, ltI]
    have e : ((x : Int) = y) ↔ x = y := by omega
    have l : ((x : Int) < y) ↔ x < y := by omega
    rw [e, l]
theorem leK_ltK {a b : List Nat} (h : leK a b = true) : ltK (b.map fun (i : Nat) => (i : Int)) (a.map fun (i : Nat) => (i : Int)) = false := by
  rw [ltK_eq, List.length_map, List.length_map]
  unfold leK at h
  by_cases q : a.length = b.length
  · rw [if_pos q] at h
    rw [if_pos q.symm]
    have e : ∀ xs ys : List Int, ltR xs ys = decide (xs < ys) := fun xs ys => by
      rw [← PySem.W.dataLt_ints]
      exact PySem.W.dataLt_tuple _ _
    rw [e]
    exact decide_eq_false fun z => of_decide_eq_true h (ltI.mp z)
  · rw [if_neg q] at h
    rw [if_neg (fun z => q z.symm)]
    have := of_decide_eq_true h
    exact decide_eq_false (by omega)
def pwB : List (List Nat) → Bool
  | [] => true
  | a :: l => l.all (leK a) && pwB l
theorem pwB_pw : ∀ {l : List (List Nat)}, pwB l = true → l.Pairwise (fun a b => leK a b = true)
  | [], _ => .nil
  | a :: l, h => by
    unfold pwB at h
    rw [Bool.and_eq_true] at h
    exact .cons (fun b hb => List.all_eq_true.mp h.1 b hb) (pwB_pw h.2)
theorem chk_rowsP : ∀ t < 5, ∀ n < 8, t ≤ n → pwB (rowsL t n) = true := by decide +kernel
theorem chk_rowsF : ∀ t < 5, ∀ n < 8, t ≤ n → (foundB t n 128).isPerm (rowsL t n) = true := by decide +kernel
/-- what the sorted rows are -/
theorem rows_sorted {t n : Nat} (ht : t ≤ 4) (hn : n ≤ 7) (tn : t ≤ n) {yss : List (List Int)} (p : yss.Perm ((foundB t n 128).map fun ks => ks.map fun (i : Nat) => (i : Int))) (s : yss.Pairwise (fun a b => ltK b a = false)) :
    yss = (rowsL t n).map fun ks => ks.map fun (i : Nat) => (i : Int) := by
  refine srtK_uniq s (List.pairwise_map.mpr ((pwB_pw (chk_rowsP t (by omega) n (by omega) tn)).imp fun {a b} h => leK_ltK h)) (p.trans ?_)
  exact (List.isPerm_iff.mp (chk_rowsF t (by omega) n (by omega) tn)).map _
end Nv
/-! Nv, part Qa: displays of dicts and own lists; what repr says, how long it is. -/
namespace Nv
open PySem PySem.Spec PyProof.Rows L2
variable [Tb] [Ls]
section
variable {R : Rg} {δ : List Sl} {tr : TA} {φ : D → Prop} {Φ : List Sl → Prop} {Ψ : D → Prop}
theorem wpe_dnewQ (q : φ (.dic [] [])) : WpE R tDNewK δ φ := fun σ G H en rz Q k p hp => by
  have st : Stp S0 G H (upd G p (.dK [])) (upd H p (.dK [])) := .new en.same hp
  exact k _ _ _ _ st.zero (en.step0 st (upd_same2 en.same)) (.dic (kvs := []) upd_same .nil) q
theorem und_neg {i : Int} (q : φ (.int (-i))) : UnD (rU fun i => .int (-i)) (.int i) φ := fun G H v s a Q k => by
  cases a
  exact ⟨i, rfl, k _ _ G H .refl s (.int _) q⟩
/-- x = [e, ..], owned -/
theorem wps_newlL {i : Nat} (h : WpL R tr δ fun ds => ds.length ≤ 1000 ∧ ∀ p, Φ (δ.set i (.ow p ds))) : WpS R (tAsg (tLst tr) (gName i)) δ Φ Ψ := fun σ G H en rz Z k1 k2 =>
  h σ G H en rz _ fun vs as G1 H1 s1 e1 a1 ⟨ds, e, l, q⟩ => by
    subst e
    have al := a1.das
    refine ⟨by rw [al.length]; exact Nat.le_trans l (by decide), fun p hp => ?_⟩
    exact k1 _ _ G1 _ ((s1.toB en.old).trans ((Stp.grow (S := R.T.S) (same_upd hp)).toB e1.old)) (e1.ownL hp al) (q p)
end
mutual
theorem eqB_up : ∀ (d : D) (n : Nat), eqB d n = true → eqB d (n + 1) = true
  | .non, _, _ => by unfold eqB; rfl
  | .bl _, _, _ => by unfold eqB; rfl
  | .int _, _, _ => by unfold eqB; rfl
  | .str _, _, _ => by unfold eqB; rfl
  | .lst ds, n, q => by
    unfold eqB at q ⊢
    rw [Bool.and_eq_true] at q ⊢
    have n1 := of_decide_eq_true q.1
    have := eqAllB_up ds (n - 1) q.2
    rw [show n - 1 + 1 = n + 1 - 1 by omega] at this
    exact ⟨decide_eq_true (by omega), this⟩
  | .tup ds, n, q => by
    unfold eqB at q ⊢
    rw [Bool.and_eq_true] at q ⊢
    have n1 := of_decide_eq_true q.1
    have := eqAllB_up ds (n - 1) q.2
    rw [show n - 1 + 1 = n + 1 - 1 by omega] at this
    exact ⟨decide_eq_true (by omega), this⟩
  | .dic ks ds, n, q => by
    unfold eqB at q ⊢
    rw [Bool.and_eq_true] at q ⊢
    exact ⟨decide_eq_true (by omega), q.2⟩
  | .ins _ _ _, _, q => by unfold eqB at q; cases q
  | .ty _, _, q => by unfold eqB at q; cases q
theorem eqAllB_up : ∀ (ds : List D) (n : Nat), eqAllB ds n = true → eqAllB ds (n + 1) = true
  | [], _, _ => by unfold eqAllB; rfl
  | d :: ds, n, q => by
    unfold eqAllB at q ⊢
    rw [Bool.and_eq_true] at q ⊢
    exact ⟨eqB_up d n q.1, eqAllB_up ds n q.2⟩
end
/-! ### texts of data -/
theorem shown_mapQ : ∀ ds : List D, PyData.shownAll (toPqs ds) = ds.map fun d => (toPq d).shown
  | [] => by unfold toPqs PyData.shownAll; rfl
  | d :: ds => by unfold toPqs PyData.shownAll; rw [shown_mapQ ds]; rfl
theorem piled_leQ {B : Nat} : ∀ {ts : List Str}, (∀ t ∈ ts, t.length ≤ B) → piled ts ≤ ts.length * (B + 2)
  | [], _ => by rw [piled_nil]; exact Nat.zero_le _
  | t :: ts, h => by
    have h1 := h t (by simp)
    have h2 := piled_leQ (ts := ts) fun u hu => h u (by simp [hu])
    rw [piled_cons, List.length_cons, Nat.add_mul]
    omega
theorem tupleText_lenQ (ts : List Str) : (tupleText ts).length ≤ 3 + piled ts := by
  unfold tupleText
  rw [strLen_append, strLen_append]
  have e1 : ((("(" : String) : Str)).length = 1 := rfl
  have e3 : (((if ts.length == 1 then ",)" else ")" : String) : Str)).length ≤ 2 := by split <;> decide
  rw [e1]
  by_cases h : ts = []
  · subst h
    have : (Str.join ", " []).length = 0 := rfl
    rw [this]
    omega
  · have := join_length_add ts h
    omega
/-- a value that a law tells of -/
structure ValQ (d : D) : Prop where
  pln : plnD d = true
  eq : eqB d 19 = true
  sh : (toPq d).showable = true
  dp : (toPq d).depth ≤ 20
  ln : (toPq d).shown.length ≤ 200
theorem eqB_str {x : Str} {n : Nat} : eqB (.str x) n = true := by unfold eqB; rfl
/-- (word, value) -/
theorem shq_pair {z : Str} {v : D} (hz : (PyData.str z).shown.length ≤ 200) (h : ValQ v) : ShQ [.str z, v] := by
  have t2 : toPq (.tup [.str z, v]) = .tuple [.str z, toPq v] := by
    rw [toPq, toPqs, toPqs, toPqs, toPq]
  have e20 : eqB v 20 = true := eqB_up v 19 h.eq
  refine ⟨?_, ?_, ?_, ?_⟩
  · unfold eqAllB eqAllB eqAllB
    rw [eqB_str, e20]
    rfl
  · rw [t2, PyData.showable, PyData.showableAll, PyData.showableAll, PyData.showableAll, h.sh, PyData.showable]
    rfl
  · have := h.dp
    rw [t2, PyData.depth, PyData.depthAll, PyData.depthAll, PyData.depthAll, PyData.depth]
    omega
  · rw [t2, PyData.shown, PyData.shownAll, PyData.shownAll, PyData.shownAll]
    have l1 := tupleText_lenQ [(PyData.str z).shown, (toPq v).shown]
    have l2 := piled_leQ (B := 200) (ts := [(PyData.str z).shown, (toPq v).shown]) fun t ht => by
      rcases List.mem_cons.mp ht with rfl | ht
      · exact hz
      · rw [List.mem_singleton] at ht
        subst ht
        exact h.ln
    have : ([(PyData.str z).shown, (toPq v).shown] : List Str).length = 2 := rfl
    rw [this] at l2
    refine Nat.le_trans (Nat.le_trans l1 (Nat.add_le_add_left l2 3)) (by decide)
end Nv
namespace Nv
open PySem PySem.Spec PyProof.Rows L2
variable [Tb] [Ls]
theorem ens_lawF {H : Hp} {a : Addr} {n : Nat} {F : Addr → HO → Prop} (hF : ∀ b u, F b u → H b = some u) : Ens ⟨fun b => H b ≠ none, fun _ => False, F⟩ (fun _ => none) H (.fx (.ref a) :: List.replicate n .no) (some (.ref a) :: List.replicate n none) := by
  have en := ens_law (H := H) (a := a) (n := n)
  refine ⟨en.same, en.len, fun i s e => ?_, fun b z => z.elim, en.old, fun b u q => ⟨hF b u q, (fun z => z), by show H b ≠ none; rw [hF b u q]; exact fun z => nomatch z⟩, en.nd, en.nd2⟩
  obtain ⟨o, e1, r⟩ := en.get i s e
  refine ⟨o, e1, ?_⟩
  cases s <;> exact r
/-- the law's promise, where sys.modules is told of -/
def spLawS (K : PySem.W.Frag) : Sp := fun vs H Q _ => ∃ (a : Addr) (ns : List Int), vs = [.ref a] ∧ ns.length ≤ 63 ∧ Sys K H ∧ SqL K H a (ns.map V.int) ∧ ∀ H', Q (.bl true) H'
/-- the script, and sys.modules -/
def keepF (H : Hp) (a : Addr) (b : Addr) (u : HO) : Prop := (b = a ∨ b = sysModules) ∧ H b = some u
theorem keep_sys {K : PySem.W.Frag} {H : Hp} {a : Addr} (h : Sys K H) : ∀ H', (∀ b u, keepF H a b u → H' b = some u) → Sys K H' := fun H' k => by
  rcases h with h | ⟨o, u, h⟩
  · exact .inl h
  · exact .inr ⟨o, u, k _ _ ⟨.inr rfl, h⟩⟩
/-- len(script[:m]) -/
theorem wpe_scrM {R : Rg} {δ : List Sl} {K : PySem.W.Frag} {a : Addr} {ns : List Int} {m : Int} {φ : D → Prop} (e0 : δ[0]? = some (.fx (.ref a))) (sq : ∀ H, (∀ u, R.T.F a u → H a = some u) → SqL K H a (ns.map V.int)) (q : ∀ n : Nat, n ≤ ns.length → φ (.int n)) :
    WpE R (tCB (fun xs H Q => (∃ p ys, xs = [.ref p] ∧ (SqL K H p ys ∨ SqT K H p ys) ∧ Q (.int ys.length) H) ∨ (∃ z, xs = [.str z] ∧ z.length ≤ sizeLine ∧ Q (.int z.length) H))
      (tCons (tSl (fun x lo hi H Q => rSlL K x lo hi H Q ∨ rSlF K x lo hi H Q) (tVar 0) tNoPart (tPart (tC (.int m)))) tNil)) δ φ := fun σ G H en rz Q k => by
  obtain ⟨o, e1, rfl⟩ := en.get 0 _ e0
  refine ⟨_, e1, m, rfl, .inl ⟨a, _, rfl, sq H fun u hu => (en.inv a u hu).1, fun p hp => .inl ⟨p, _, rfl, .inl (.inl (.inl upd_same)), ?_⟩⟩⟩
  have st : Stp R.T.S G H G (upd H p (.lst (cutV (ns.map V.int) none (some m)))) := Stp.grow (same_upd hp)
  exact k _ _ G _ st (en.grow (same_upd hp)) (.int _) (q _ (by have := cutV_length (ns.map V.int) none (some m); rwa [List.length_map] at this))
end Nv
/-! Nv, part Rw: repr of a tuple of data, deeper than NvQ9's. -/
namespace Nv
open PySem PySem.Spec PyProof.Rows L2
variable [Tb] [Ls]
/-- what repr says of such a tuple -/
structure ShR (ds : List D) : Prop where
  eq : eqAllB ds 44 = true
  sh : (toPq (.tup ds)).showable = true
  dp : (toPq (.tup ds)).depth ≤ 50
  ln : (toPq (.tup ds)).shown.length ≤ sizeLine
def rReprR (K : PySem.W.Frag) : List V → Hp → VK → Prop := fun vs H Q => ∃ (x : V) (ds : List D) (G : Hp), vs = [x] ∧ Same G H ∧ Sys K H ∧ At G x (.tup ds) ∧ ShR ds ∧ Q (.str (toPq (.tup ds)).shown) H
theorem call_reprR {X : Cx} {K : PySem.W.Frag} (h : X.K = K) {k : Nat} (hr : Room k X.A) (gd : X.A.guards = some []) : CallR X (.builtin "repr") (rReprR K) := by
  subst h
  intro pins s σ H vs us Q I r q
  obtain ⟨x, ds, G, rfl, sm, sys, a, sq, q⟩ := q
  obtain ⟨u, rfl, ru⟩ := vals1 r
  have un := hr.un
  have q1 : eqB (.tup ds) 45 = true := by
    unfold eqB
    rw [sq.eq]
    rfl
  obtain ⟨as, rd, na⟩ := reads_data I sys sm (.tup ds) 45 q1 a ru
  obtain ⟨p, xs, rfl, _⟩ := at_tup a
  cases ru
  have dp := sq.dp
  exact repr_of_reads' rd sq.sh (fun _ => na) gd (by omega) (fun _ _ z => z) (fun h' u tk kp => ⟨.str _, H, I.kept kp, ⟨u, rfl⟩, q⟩) sq.ln
/-- repr(e), e such a tuple -/
theorem wpe_reprR {R : Rg} {δ : List Sl} {ta : TE} {φ : D → Prop} {K : PySem.W.Frag} (hS : ∀ H, (∀ b u, R.T.F b u → H b = some u) → Sys K H) (h : WpE R ta δ fun x => ∃ ds, x = .tup ds ∧ ShR ds ∧ φ (.str (toPq (.tup ds)).shown)) :
    WpE R (tCB (rReprR K) (tCons ta tNil)) δ φ := fun σ G H en rz Q k =>
  h σ G H en rz _ fun v x G1 H1 s1 e1 a1 ⟨ds, ex, sq, q⟩ => by
    subst ex
    exact ⟨v, ds, G1, rfl, e1.same, hS H1 (fun b u f => (e1.inv b u f).1), a1, sq, k _ _ G1 H1 s1 e1 (.str _) q⟩
end Nv
namespace Nv
open PySem PySem.Spec PyProof.Rows L2
variable [Tb] [Ls]
/-- a value that a law tells of, deeper -/
structure ValR (d : D) : Prop where
  eq : eqB d 42 = true
  sh : (toPq d).showable = true
  dp : (toPq d).depth ≤ 45
  ln : (toPq d).shown.length ≤ 3000
theorem shr_pair {z : Str} {v : D} (hz : (PyData.str z).shown.length ≤ 200) (h : ValR v) : ShR [.str z, v] := by
  have t2 : toPq (.tup [.str z, v]) = .tuple [.str z, toPq v] := by
    rw [toPq, toPqs, toPqs, toPqs, toPq]
  have e20 : eqB v 44 = true := eqB_up v 43 (eqB_up v 42 h.eq)
  refine ⟨?_, ?_, ?_, ?_⟩
  · unfold eqAllB eqAllB eqAllB
    rw [eqB_str, e20]
    rfl
  · rw [t2, PyData.showable, PyData.showableAll, PyData.showableAll, PyData.showableAll, h.sh, PyData.showable]
    rfl
  · have := h.dp
    rw [t2, PyData.depth, PyData.depthAll, PyData.depthAll, PyData.depthAll, PyData.depth]
    omega
  · rw [t2, PyData.shown, PyData.shownAll, PyData.shownAll, PyData.shownAll]
    have l1 := tupleText_lenQ [(PyData.str z).shown, (toPq v).shown]
    have l2 := piled_leQ (B := 3000) (ts := [(PyData.str z).shown, (toPq v).shown]) fun t ht => by
      rcases List.mem_cons.mp ht with rfl | ht
      · exact Nat.le_trans hz (by decide)
      · rw [List.mem_singleton] at ht
        subst ht
        exact h.ln
    have : ([(PyData.str z).shown, (toPq v).shown] : List Str).length = 2 := rfl
    rw [this] at l2
    refine Nat.le_trans (Nat.le_trans l1 (Nat.add_le_add_left l2 3)) (by decide)
theorem textFrom_leQ : ∀ (ts : List Str) (k : Nat) (acc : Str), (textFrom k acc ts).length ≤ acc.length + piled ts
  | [], k, acc => by
    rw [piled_nil]
    exact Nat.le_refl _
  | t :: ts, k, acc => by
    rw [piled_cons]
    unfold textFrom
    refine Nat.le_trans (textFrom_leQ ts (k + 1) _) ?_
    rw [strLen_append, strLen_append]
    have : (((if k > 0 then ", " else "" : String) : Str)).length ≤ 2 := by split <;> decide
    omega
theorem listText_lenQ (ts : List Str) : (listText ts).length ≤ 2 + piled ts := by
  unfold listText
  rw [strLen_append]
  have e1 : ((("[" : String) : Str)).length = 1 := rfl
  have e3 : ((("]" : String) : Str)).length = 1 := rfl
  have := textFrom_leQ ts 0 (("[" : String) : Str)
  omega
/-- a list of values that are told of -/
theorem valR_lst {ds : List D} (h : ∀ d ∈ ds, eqB d 41 = true ∧ (toPq d).showable = true ∧ (toPq d).depth ≤ 44 ∧ (toPq d).shown.length ≤ 40) (l : ds.length ≤ 60) : ValR (.lst ds) := by
  have t2 : toPq (.lst ds) = .list (toPqs ds) := by rw [toPq]
  refine ⟨?_, ?_, ?_, ?_⟩
  · unfold eqB
    rw [eqAllB_of fun d hd => (h d hd).1]
    rfl
  · rw [t2, PyData.showable]
    clear l t2
    induction ds with
    | nil => rw [toPqs, PyData.showableAll]
    | cons d ds ih => rw [toPqs, PyData.showableAll, (h d (by simp)).2.1, ih fun x hx => h x (by simp [hx])]; rfl
  · rw [t2, PyData.depth]
    have : PyData.depthAll (toPqs ds) ≤ 44 := by
      clear l t2
      induction ds with
      | nil => rw [toPqs, PyData.depthAll]; exact Nat.zero_le _
      | cons d ds ih =>
        rw [toPqs, PyData.depthAll]
        have h1 := (h d (by simp)).2.2.1
        have h2 := ih fun x hx => h x (by simp [hx])
        omega
    omega
  · rw [t2, PyData.shown, shown_mapQ]
    have l1 := listText_lenQ (ds.map fun d => (toPq d).shown)
    have l2 := piled_leQ (B := 40) (ts := ds.map fun d => (toPq d).shown) fun t ht => by
      obtain ⟨d, hd, rfl⟩ := List.mem_map.mp ht
      exact (h d hd).2.2.2
    rw [List.length_map] at l2
    have := Nat.mul_le_mul_right 42 l
    omega
end Nv
/-! Nv, part Ea: an own dict is told; k in a told dict; list(d); any. -/
namespace Nv
open PySem PySem.Spec PyProof.Rows L2
section
variable {X : Cx} {o i : Expr} {td ty : TE}
theorem pc_inTw {w : World} (h : X.w = w) (hu : X.A.units + 1 < cLine) (hi : PE X i ty) (ho : PE X o td) : PC X .In i o (tDInT w ty td) := h ▸ pc_inT hu hi ho
theorem pc_ninTw {w : World} (h : X.w = w) (hu : X.A.units + 1 < cLine) (hi : PE X i ty) (ho : PE X o td) : PC X .NotIn i o (tDNinT w ty td) := h ▸ pc_ninT hu hi ho
theorem ps_putTw {w : World} (h : X.w = w) {value : Expr} {pos pos' : Pos} {tv : TE} (hu : X.A.units + 1 < cLine) (ho : PE X o td) (hi : PE X i ty) (hv : PE X value tv) (hs : swapsWith value (some (.Subscript o i pos')) pos.line X.env = pure false) :
    PS X (.Assign [.Subscript o i pos'] value pos) (sDPutT w td ty tv) := h ▸ ps_putT hu ho hi hv hs
theorem pe_disp1Tw {w : World} (h : X.w = w) {kx vx : Expr} {pos : Pos} {tk tv : TE} (hu : X.A.units + 1 < cLine) (hk : PE X kx tk) (hv : PE X vx tv) : PE X (.Dict [some kx] [vx] pos) (tDisp1T w tk tv) := h ▸ pe_disp1T hu hk hv
def rListT (w : World) : List V → Hp → VK → Prop := fun xs H Q => ∃ (a : Addr) (o : Obj) (kvs : List (List Key × Addr × V)), xs = [V.ref a] ∧ DTR w H a o kvs ∧ ∀ p, H p = none → Q (.ref p) (upd H p (.lst (kvs.map fun x => V.ref x.2.1)))
theorem call_listTw {w : World} (h : X.w = w) (hc : X.calm = true) : CallR X (.type "list") (rListT w) := h ▸ call_listT hc
theorem b_any : bootBuiltins "any" = some (.builtin "any") := by decide +kernel
theorem cr_anyK {K : PySem.W.Frag} (h : X.K = K) (hc : X.calm = true) : CallR X (.builtin "any") (rAny K) := h ▸ cr_any hc
end
variable [Tb] [Ls]
section
variable {R : Rg} {δ : List Sl} {te ta tb : TE} {t : TS} {φ : D → Prop} {w : World} {Φ : List Sl → Prop} {Ψ : D → Prop} {K : PySem.W.Frag}
/-- the own dict of a slot is told from now on -/
theorem Ens.freezeD {T : Tr} {G H : Hp} {δ : List Sl} {σ : L2.St} (en : Ens T G H δ σ) {i : Nat} {a : Addr} {o : Obj} {kvs : List (List Key × Addr × V)} {ds : List D} (e : δ[i]? = some (.od a (.dct a o kvs ds))) :
    ∃ G', Same G G' ∧ (∀ b, b ≠ a → G' b = G b) ∧ Ens T G' H (δ.set i (.da (.dct (kvs.map (·.1)) ds))) σ := by
  obtain ⟨o1, e1, rfl, nS, gn, hx, raw, key, al⟩ := en.get i _ e
  have hx : H a = some (DObj a o) := hx
  have k : Same G (upd G a (DObj a o)) := same_upd gn
  refine ⟨upd G a (DObj a o), k, fun b nb => upd_ne nb, fun b u z => ?_, by rw [List.length_set]; exact en.len, fun j s z => ?_, fun b hb => ?_, en.old, en.inv, fun j l b es fs z1 z2 => ?_, fun j l b es fs z1 z2 => ?_⟩
  · by_cases q : b = a
    · subst q
      rw [upd_same] at z
      rw [← z]
      exact hx
    · rw [upd_ne q] at z
      exact en.same b u z
  · rcases get_set z with ⟨rfl, rfl⟩ | ⟨ne, z⟩
    · exact ⟨_, e1, _, rfl, .dct upd_same raw (fun p hp => (key p hp).same k) (al.same k)⟩
    · obtain ⟨o2, e2, r⟩ := en.get j s z
      refine ⟨o2, e2, ?_⟩
      cases s with
      | no => trivial
      | fx v => exact r
      | da d =>
        obtain ⟨v, q1, q2⟩ := r
        exact ⟨v, q1, q2.same k⟩
      | fz b es =>
        obtain ⟨r1, ob, ys, r2, r3, r4⟩ := r
        exact ⟨r1, ob, ys, k _ _ r2, r3, r4.same k⟩
      | st b => exact r
      | ow b es =>
        obtain ⟨r1, r2, r3, ys, r4, r5⟩ := r
        have nb : b ≠ a := fun q => by rw [q, hx] at r4; exact nomatch r4
        exact ⟨r1, r2, by rw [upd_ne nb]; exact r3, ys, r4, r5.same k⟩
      | od b u =>
        obtain ⟨r1, r2, r3, r4, r5⟩ := r
        have nb : b ≠ a := fun q => ne (by subst q; exact en.nd2 j i b u _ z e)
        exact ⟨r1, r2, by rw [upd_ne nb]; exact r3, r4, r5.same k⟩
  · obtain ⟨g, o2, e, mo⟩ := en.stt b hb
    exact ⟨by rw [upd_ne (fun q => nS.1 (by rw [← q]; exact hb))]; exact g, o2, e, mo.same k⟩
  · rcases get_set z1 with ⟨_, q⟩ | ⟨_, m1⟩
    · exact nomatch q
    · rcases get_set z2 with ⟨_, q⟩ | ⟨_, m2⟩
      · exact nomatch q
      · exact en.nd j l b es fs m1 m2
  · rcases get_set z1 with ⟨_, q⟩ | ⟨_, m1⟩
    · exact nomatch q
    · rcases get_set z2 with ⟨_, q⟩ | ⟨_, m2⟩
      · exact nomatch q
      · exact en.nd2 j l b es fs m1 m2
theorem wps_freezeD {i : Nat} {a : Addr} {o : Obj} {kvs : List (List Key × Addr × V)} {ds : List D} (e : δ[i]? = some (.od a (.dct a o kvs ds))) (h : WpS R t (δ.set i (.da (.dct (kvs.map (·.1)) ds))) Φ Ψ) : WpS R t δ Φ Ψ := fun σ G H en rz Z k1 k2 => by
  obtain ⟨G', k, out, en'⟩ := en.freezeD e
  obtain ⟨_, _, _, _, gn, hx, _⟩ := en.get i _ e
  have nO : ¬ R.T.O a := by
    obtain ⟨_, _, _, nn, _⟩ := en.get i _ e
    exact nn.2
  have sB : StB R.T.O R.T.S G H G' H := ⟨k, fun b u _ q _ => q, fun b q => q, fun b ob q => by
    rw [out b (fun z => nO (by rw [← z]; exact ob))]
    exact q⟩
  exact h σ G' H en' (rz.stepB sB) Z (fun δ2 σ2 G2 H2 s2 e2 q2 => k1 δ2 σ2 G2 H2 (sB.trans s2) e2 q2) fun v d G2 H2 s2 a b c q => k2 v d G2 H2 (sB.trans s2) a b c q
/-- k in d, k not in d, d told -/
theorem wpt_inT (hw : w = Tb.kw) {ψ : Bool → Prop} (h : WpE R ta δ fun y => WpE R tb δ fun x => ∃ ks ds k, x = .dct ks ds ∧ y = .tup (k.map kyD) ∧ ψ (hasK ks k)) : WpT R (tB (tDInT w ta tb)) δ ψ := fun σ G H en rz Q q =>
  h σ G H en rz _ fun v y G1 H1 s1 e1 a1 h1 => h1 σ G1 H1 e1 (rz.stepB (s1.toB en.old)) _ fun u x G2 H2 s2 e2 a2 ⟨ks, ds, k, ex, ey, qq⟩ => by
    subst hw ex ey
    obtain ⟨b, rfl, tb⟩ := at_keyT (a1.same s2.gs)
    obtain ⟨a, o, kvs, rfl, ea, raw, key, ek, al⟩ := at_dct a2
    subst ek
    exact ⟨a, b, o, kvs, k, rfl, rfl, dtr_at e2.same ea raw key, rdS e2.same tb.rd, _, rfl, q _ G2 H2 (s1.trans s2) e2 qq⟩
theorem wpt_ninT (hw : w = Tb.kw) {ψ : Bool → Prop} (h : WpE R ta δ fun y => WpE R tb δ fun x => ∃ ks ds k, x = .dct ks ds ∧ y = .tup (k.map kyD) ∧ ψ (!hasK ks k)) : WpT R (tB (tDNinT w ta tb)) δ ψ := fun σ G H en rz Q q =>
  h σ G H en rz _ fun v y G1 H1 s1 e1 a1 h1 => h1 σ G1 H1 e1 (rz.stepB (s1.toB en.old)) _ fun u x G2 H2 s2 e2 a2 ⟨ks, ds, k, ex, ey, qq⟩ => by
    subst hw ex ey
    obtain ⟨b, rfl, tb⟩ := at_keyT (a1.same s2.gs)
    obtain ⟨a, o, kvs, rfl, ea, raw, key, ek, al⟩ := at_dct a2
    subst ek
    exact ⟨a, b, o, kvs, k, rfl, rfl, dtr_at e2.same ea raw key, rdS e2.same tb.rd, _, rfl, q _ G2 H2 (s1.trans s2) e2 qq⟩
/-- list(d): its keys -/
theorem cbd_listT (hw : w = Tb.kw) {ks : List (List Key)} {ds : List D} (q : φ (.lst (ks.map fun k => D.tup (k.map kyD)))) : CbD (rListT w) [.dct ks ds] φ := fun G H vs s at0 Q k => by
  subst hw
  cases at0 with
  | cons a1 t =>
    cases t
    obtain ⟨a, o, kvs, rfl, ea, raw, key, ek, al⟩ := at_dct a1
    subst ek
    refine ⟨a, o, kvs, rfl, dtr_at s ea raw key, fun p fp => ?_⟩
    have st : Stp S0 G H (upd G p (.lst (kvs.map fun x => V.ref x.2.1))) (upd H p (.lst (kvs.map fun x => V.ref x.2.1))) := .new s fp
    have all : ∀ {G' : Hp} (l : List (List Key × Addr × V)), (∀ p ∈ l, TupR G' p.2.1 (p.1.map kV) (p.1.map kyD)) → AtAll G' (l.map fun x => V.ref x.2.1) ((l.map (·.1)).map fun k => D.tup (k.map kyD)) := fun {G'} l m => by
      induction l with
      | nil => exact .nil
      | cons x l ih => exact .cons (.tup (m x List.mem_cons_self) keys_atAll) (ih fun y hy => m y (List.mem_cons_of_mem _ hy))
    exact k _ _ _ _ st (upd_same2 s) (.lst upd_same (all kvs fun p hp => (key p hp).same st.gs)) q
theorem cbd_any {bs : List Bool} (q : φ (.bl (bs.any id))) : CbD (rAny K) [.lst (bs.map D.bl)] φ := fun G H vs s a Q k => by
  cases a with
  | cons a t =>
    cases t
    obtain ⟨p0, xs, rfl, ha, al⟩ := at_lst a
    obtain rfl := bls_atAll al
    exact ⟨p0, bs, rfl, sqL_of s ha, k _ _ G H .refl s (.bl _) q⟩
theorem cbd_anym {ds : List D} {f : D → Bool} (q : φ (.bl (ds.any f))) : CbD (rAny K) [.lst (ds.map fun d => D.bl (f d))] φ := by
  have e : (ds.map fun d => D.bl (f d)) = (ds.map f).map D.bl := by rw [List.map_map]; rfl
  rw [e]
  refine cbd_any ?_
  rw [List.any_map]
  exact q
end
end Nv
/-! Nv, part St: len(set(row)), row a tuple of tuples of ints. -/
namespace Nv
open PySem PySem.Spec PyProof.Rows L2
abbrev setO0 (w : World) : Obj := { cls := .type "set", dict := none, data := .set #[] 0 (.fresh 0 0 (!w.params.followText "set-order")) }
section
variable {P : Program} {w : World} {A : Around} {E : Value → Shared → Prop} {s : Shared}
/-- a type is called: its __new__, then its __init__, each as a code -/
theorem call_type2 {T newId initId : String} {args : List Value} {Q Q₁ : Value → Shared → Prop} (ft : TypeCalled T newId initId) (hct : checkTypeCall T ⟨args, []⟩ = pure ())
    (made : codeAny (model P w) A.in1 (.call (.builtin newId) ⟨.type T :: args, []⟩) (wants Q₁ E) s)
    (init : ∀ obj s₁, Q₁ obj s₁ → s₁.TypeIs obj T ∧ codeAny (model P w) A.in1 (.call (.builtin initId) ⟨obj :: args, []⟩) (wants (fun r s₂ => r = .none ∧ Q obj s₂) E) s₁) :
    wpAny (model P w) A (call (.type T) args) Q E s := by
  have ⟨_, _, m1⟩ := ft.mro
  have m2 := ft.made
  have m3 := ft.sub
  have m4 := ft.notType
  have m5 := ft.canCreate
  refine wpAny_call (codeAny_of_tree (show wpAny _ _ (callAny (.type T) _) _ _ _ from wpAny_pure ⟨Code.quiet_builtin _ (by decide +kernel), codeAny_builtin F.entry_type_call ?_⟩))
  rw [Around.under_plain (weight_type_call_type T args []) rfl]
  repeat (any_goals (first | assumption | wp_step))
  refine codeAny_mono made fun r s₁ h => ?_
  match r, h with
  | .error _, h => exact h
  | .ok (.ret obj), h =>
    obtain ⟨i1, i2⟩ := init _ _ h
    have m6 := ft.init.lookup
    have m7 := ft.init.bind obj
    repeat (any_goals (first | assumption | wp_step))
    refine codeAny_mono i2 fun r₂ s₂ h₂ => ?_
    match r₂, h₂ with
    | .error _, h₂ => exact h₂
    | .ok (.ret _), h₂ =>
      obtain ⟨rfl, z⟩ := h₂
      repeat (any_goals (first | assumption | wp_step))
/-- set(t), t a tuple of tuples of ints -/
theorem call_set_rows {l : Addr} {items : Array Value} (ks : List (Addr × List Int)) {Q : Value → Shared → Prop} (hh : A.handled = none) (hl : s.heap.IsTuple l items) (hit : items.toList = ks.map fun p => Value.ref p.1)
    (hk : ∀ p ∈ ks, L2.IsT P w s.heap p.2 p.1) (few : ks.length < 64) (hu : A.units + 4 < cLine)
    (h : ∀ (h' : Heap) (tk : Nat) L es ep t, L2.SetTR P w h' s.heap.objs.size L es ep t → L2.Got ks ks.length L → (∀ b o, s.heap.get? b = some o → h'.get? b = some o) → Q (.ref s.heap.objs.size) { s with heap := h', toks := tk }) :
    wpAny (model P w) A (call (.type "set") [.ref l]) Q E s := by
  refine call_type2 (Q₁ := fun obj s₁ => obj = .ref s.heap.objs.size ∧ s₁ = { s with heap := s.heap.push (setO0 w) }) F.called_set (F.typeCall_set_1 _) (L2.code_set_led1 _ ⟨rfl, rfl⟩) fun obj s₁ h₁ => ?_
  obtain ⟨rfl, rfl⟩ := h₁
  have hS : (s.heap.push (setO0 w)).get? s.heap.objs.size = some (setO0 w) := Heap.get?_push_size _ rfl
  have lt : l < s.heap.objs.size := by obtain ⟨_, e, _⟩ := hl; exact Heap.lt_size e
  have n : items.size = ks.length := by
    have q := congrArg List.length hit
    rwa [Array.length_toList, List.length_map] at q
  have hl1 : (s.heap.push (setO0 w)).IsTuple l items := hl.push _
  refine ⟨⟨_, hS, rfl⟩, codeAny_call_builtin F.called_set.init.plain F.entry_set_init (check_set_init_1 ⟨_, hS, rfl⟩ ?_)⟩
  obtain ⟨ol, eo, hcl, nl, hdl⟩ := hl1
  obtain ⟨ocls, odict, odata, oslots⟩ := ol
  simp only at hcl hdl
  subst hcl; subst hdl
  have q1 := F.sub_tuple_set
  have q2 := F.sub_tuple_frozenset
  have q3 : (Value.type "tuple" == Value.type "dict") = false := by decide
  unfold Builtin.«set.__init__» noKeywords Builtin.Frozenset.updateFrom
  generalize e : pyIter = PI
  wp_walk
  subst e
  have hl2 : (s.heap.push (setO0 w)).IsTuple l items := ⟨_, eo, rfl, nl, rfl⟩
  have hsz : (s.heap.push (setO0 w)).objs.size = s.heap.objs.size + 1 := size_push' _ _
  have hh2 : A.in1.in1.in1.handled = none := by simp [hh]
  refine wpAny_pyIter_tuple hl2 (wpAny_bind (wpAny_runValue ?_))
  have none_ : ∀ b, s.heap.objs.size ≤ b → s.heap.get? b = none := fun b hb => by
    cases q : s.heap.get? b with
    | none => rfl
    | some o => exact absurd (Heap.lt_size q) (Nat.not_lt.mpr hb)
  have keep : ∀ b o, s.heap.get? b = some o → ((s.heap.push (setO0 w)).push { cls := .type "tuple_iterator", data := .fields #[.ref l, .int 0 0] }).get? b = some o := fun b o e => Heap.get?_push_of_some _ (Heap.get?_push_of_some _ e)
  refine L2.set_update_tups (I := (s.heap.push (setO0 w)).objs.size) ((Walks.tuple (prog := P) (w := w) hh2 _ l (by rw [hsz]; exact Nat.ne_of_lt (Nat.lt_succ_of_lt lt)) items).toS) s.heap.objs.size ?_ ks n few (fun i v hv => ?_) s.heap hk (none_ _ (Nat.le_refl _)) (fun b hb => none_ b ?_) ?_ items.size 0 _ rfl (Nat.zero_le _)
    ⟨⟨_, Heap.get?_push_size _ rfl, rfl, rfl⟩, hl2.push _⟩ keep ⟨[], #[], 0, _, L2.setTR_fresh (Heap.get?_push_of_some _ hS), L2.Got.zero ks⟩ fun s' L es ep t hm R g kp => ?_
  · rw [hsz]
    simp only [List.mem_cons, List.not_mem_nil, or_false, not_or]
    exact ⟨Nat.ne_of_lt (Nat.lt_succ_self _), Nat.ne_of_gt lt⟩
  · rw [← Array.getElem?_toList, hit, List.getElem?_map] at hv
    obtain ⟨p, ep, rfl⟩ := Option.map_eq_some_iff.mp hv
    exact ⟨p, ep, rfl⟩
  · rw [List.mem_singleton.mp hb, hsz]
    exact Nat.le_succ _
  · show A.units + 1 + 1 + 1 < cLine
    omega
  · obtain ⟨h', g2, d', tk, os'⟩ := s'
    obtain rfl : g2 = s.gens := hm.gens
    obtain rfl : d' = s.drawn := hm.drawn
    obtain rfl : os' = s.os := hm.os
    rw [n] at g
    exact wpAny_pure (wpAny_pure ⟨rfl, h h' tk L es ep t R g kp⟩)
end
section
variable {X : Cx}
/-- len(set(t)), t a tuple of tuples of ints -/
def tLenSetT (K : PySem.W.Frag) (ta : TE) : TE := fun σ H Q => ta σ H fun x H1 => ∃ (t : Addr) (ts : List Addr) (as : List (List Int)), x = V.ref t ∧ SqT K H1 t (ts.map V.ref) ∧ ts.length = as.length ∧
  (∀ (i : Nat) t b, ts[i]? = some t → as[i]? = some b → SqT K H1 t (b.map V.int)) ∧ as.length < 64 ∧ ∀ L : List (List Int), L.Nodup → (∀ k, k ∈ L ↔ k ∈ as) → Q (.int L.length) H1
theorem pe_lenSetT {K : PySem.W.Frag} (hK : X.K = K) {a : Expr} {ta : TE} {p p2 q pos : Pos} (hu : X.A.units + 65 < cLine) (hc : X.calm = true) (hg : Gl X "len") (hm : X.mg "len" = none) (hg2 : Gl X "set") (hm2 : X.mg "set" = none) (ha : PE X a ta)
    (na : starEach [a] X.env = (false, eval a X.env) :: starEach [] X.env := by rfl) : PE X (.Call (.Name "len" p) [.Call (.Name "set" p2) [a] [] q] [] pos) (tLenSetT K ta) := by
  subst hK
  refine ⟨fun pins s σ H Q I h => ?_⟩
  refine Call_ (ld_blt I hg hm PySem.boot_len ?_)
  refine PyProof.Rows.callWith_builtin1 (PyProof.Rows.args_cons ?_ rfl) rfl rfl
  refine Call_ (ld_blt I hg2 hm2 PyProof.Rows.boot_set ?_)
  refine PyProof.Rows.callWith_type1 (PyProof.Rows.args_cons (thn (ha.run pins s σ H _ I h) fun v s1 ⟨x, H1, I1, r1, q1⟩ => PyProof.Rows.args_nil ?_) na) na rfl
  obtain ⟨t, ts, as, rfl, hq, ll, rows, few, q1⟩ := q1
  cases r1
  obtain ⟨its, rv, lay, _⟩ := I1.tuple hq
  obtain rfl := vals_refs' rv
  have e1 : ((ts.zip as).map fun p => Value.ref p.1) = ts.map Value.ref := by
    have := congrArg (List.map Value.ref) (List.map_fst_zip (l₁ := ts) (l₂ := as) (by omega))
    rw [List.map_map] at this
    exact this
  have e2 : (ts.zip as).map (·.2) = as := List.map_snd_zip (by omega)
  have e3 : (ts.zip as).length = as.length := by
    have := congrArg List.length e2
    rwa [List.length_map] at this
  refine call_set_rows (P := X.prog) (w := X.w) (ts.zip as) (I1.ok.hd hc) lay (by rw [e1]) (fun p hp => ?_) (by omega) (Nat.lt_of_le_of_lt (Nat.add_le_add_left (by decide) _) hu) fun h' tk L es ep t R g hk => ?_
  · obtain ⟨i, ei⟩ := List.mem_iff_getElem?.mp hp
    obtain ⟨z1, z2⟩ := List.getElem?_zip_eq_some.mp ei
    exact I1.isT (rows i _ _ z1 z2)
  refine PyProof.Rows.args_nil ?_
  have I2 : Inv X pins σ H1 { s1 with heap := h', toks := tk } := I1.kept hk
  have fits := L2.SetTR.fits (s := { s1 with heap := h', toks := tk }) R
  have sz := L2.SetTR.size (s := { s1 with heap := h', toks := tk }) R
  obtain ⟨o, ho, hex, hd⟩ := R.ob
  have f2 := R.few
  refine call_len_set ho hex hd fits (by omega) ⟨.int L.length, H1, I2.tok _, ⟨_, by rw [sz]⟩, ?_⟩
  have q2 := q1 (L.map (·.2)) R.nd fun k => ⟨fun m => ?_, fun m => ?_⟩
  · rwa [List.length_map] at q2
  · obtain ⟨p, hp, rfl⟩ := List.mem_map.mp m
    rw [← e2]
    exact List.mem_map.mpr ⟨p, List.mem_of_mem_take (g.sub p hp), rfl⟩
  · rw [← e2] at m
    obtain ⟨p, hp, rfl⟩ := List.mem_map.mp m
    exact g.all p (by rw [List.take_length]; exact hp)
end
variable [Tb] [Ls]
section
variable {R : Rg} {δ : List Sl} {te : TE} {φ : D → Prop} {K : PySem.W.Frag}
theorem wpe_lenSetT (h : WpE R te δ fun d => ∃ kss : List (List Int), d = .tup (kss.map rowI) ∧ kss.length < 64 ∧ ∀ L : List (List Int), L.Nodup → (∀ k, k ∈ L ↔ k ∈ kss) → φ (.int L.length)) : WpE R (tLenSetT K te) δ φ := fun σ G H en rz Q k => by
  refine h σ G H en rz _ fun u y G1 H1 s1 en1 a1 ⟨kss, e, l, q⟩ => ?_
  subst e
  obtain ⟨p0, xs, rfl, ha, al⟩ := at_tup a1
  obtain ⟨ts, rfl, ll, rows⟩ := atAll_rowI al
  exact ⟨p0, ts, kss, rfl, sqT_of en1.same ha, ll, fun i t b e1 e2 => sqT_of en1.same (rows i t b e1 e2).2, l, fun L nd m => k _ _ G1 H1 s1 en1 (.int _) (q L nd m)⟩
end
end Nv
/-! Nv, part Si: len(set(t)), t a tuple of ints. -/
namespace Nv
open PySem PySem.Spec PyProof.Rows L2
section
variable {X : Cx}
def tLenSetZ (K : PySem.W.Frag) (ta : TE) : TE := fun σ H Q => ta σ H fun x H1 => ∃ (t : Addr) (ns : List Int), x = V.ref t ∧ SqT K H1 t (ns.map V.int) ∧ ns.length ≤ 1000 ∧ ∀ L : List Int, L.Nodup → (∀ k, k ∈ L ↔ k ∈ ns) → Q (.int L.length) H1
theorem pe_lenSetZ {K : PySem.W.Frag} (hK : X.K = K) {a : Expr} {ta : TE} {p p2 q pos : Pos} (hc : X.calm = true) (hg : Gl X "len") (hm : X.mg "len" = none) (hg2 : Gl X "set") (hm2 : X.mg "set" = none) (ha : PE X a ta)
    (na : starEach [a] X.env = (false, eval a X.env) :: starEach [] X.env := by rfl) : PE X (.Call (.Name "len" p) [.Call (.Name "set" p2) [a] [] q] [] pos) (tLenSetZ K ta) := by
  subst hK
  refine ⟨fun pins s σ H Q I h => ?_⟩
  refine Call_ (ld_blt I hg hm PySem.boot_len ?_)
  refine PyProof.Rows.callWith_builtin1 (PyProof.Rows.args_cons ?_ rfl) rfl rfl
  refine Call_ (ld_blt I hg2 hm2 PyProof.Rows.boot_set ?_)
  refine PyProof.Rows.callWith_type1 (PyProof.Rows.args_cons (thn (ha.run pins s σ H _ I h) fun v s1 ⟨x, H1, I1, r1, q1⟩ => PyProof.Rows.args_nil ?_) na) na rfl
  obtain ⟨t, ns, rfl, hq, few, q1⟩ := q1
  cases r1
  obtain ⟨its, rv, lay, _⟩ := I1.tuple hq
  refine call_set_tupI ns (I1.ok.hd hc) lay (by simpa using rv.ints) (by unfold scanBound; omega) fun h' tk c R hc2 hk => ?_
  refine PyProof.Rows.args_nil ?_
  have I2 : Inv X pins σ H1 { s1 with heap := h', toks := tk } := I1.kept hk
  obtain ⟨o, es, ep, tt, ho, hex, hd, _, nd, mem, _, fits, sz, _⟩ := R
  have el : (es.toList.map keyOf).length = es.size := by rw [List.length_map, Array.length_toList]
  refine call_len_set ho hex hd fits (by omega) ⟨.int (es.toList.map keyOf).length, H1, I2.tok _, ⟨_, by rw [el]⟩, q1 _ nd fun k => ?_⟩
  rw [← mem k, decide_eq_true_iff]
end
variable [Tb] [Ls]
theorem wpe_lenSetZ {R : Rg} {δ : List Sl} {te : TE} {φ : D → Prop} {K : PySem.W.Frag} (h : WpE R te δ fun d => ∃ ns : List Int, d = .tup (ns.map D.int) ∧ ns.length ≤ 1000 ∧ ∀ L : List Int, L.Nodup → (∀ k, k ∈ L ↔ k ∈ ns) → φ (.int L.length)) : WpE R (tLenSetZ K te) δ φ := fun σ G H en rz Q k => by
  refine h σ G H en rz _ fun u y G1 H1 s1 en1 a1 ⟨ns, e, l, q⟩ => ?_
  subst e
  obtain ⟨p0, xs, rfl, ha, al⟩ := at_tup a1
  obtain rfl := atAll_ints al
  exact ⟨p0, ns, rfl, sqT_of en1.same ha, l, fun L nd m => k _ _ G1 H1 s1 en1 (.int _) (q L nd m)⟩
end Nv
/-! Nv, part Dk: dicts of whole numbers and texts; min, max, extend; lists made by a comprehension and owned; x is None. -/
namespace Nv
open PySem PySem.Spec PyProof.Rows L2
variable [Tb] [Ls]
def kD : Key → D
  | .inl i => .int i
  | .inr x => .str x
theorem at_kD {G : Hp} {v : V} {k : Key} (h : At G v (kD k)) : v = kV k := by
  cases k with
  | inl i => cases h; rfl
  | inr x => cases h; rfl
section
variable {R : Rg} {δ : List Sl} {te ta tb tc : TE} {tr : TA} {φ : D → Prop} {K : PySem.W.Frag} {Φ : List Sl → Prop} {Ψ : D → Prop}
theorem val_key : ∀ {kvs : List (Key × V)} {ks : List Key} {j : Nat} {z : Key} {v : V}, kvs.map (·.1) = ks → ks.Nodup → ks[j]? = some z → (kvs.map (·.2))[j]? = some v → valV kvs z = some v
  | [], _, j, _, _, _, _, _, e => by simp at e
  | (a, b) :: kvs, [], _, _, _, h, _, _, _ => by simp at h
  | (a, b) :: kvs, y :: ks, j, z, v, h, nd, e1, e2 => by
    rw [List.map_cons] at h
    obtain ⟨h1, h2⟩ := List.cons.inj h
    obtain ⟨n1, n2⟩ := List.nodup_cons.mp nd
    match j, e1, e2 with
    | 0, e1, e2 =>
      obtain rfl : y = z := by simpa using e1
      obtain rfl : b = v := by simpa using e2
      exact valV_pos h1
    | j + 1, e1, e2 =>
      have m : z ∈ ks := List.mem_of_getElem? (by simpa using e1)
      rw [valV_neg (fun q => n1 (by
        rw [← h1, q]
        exact m))]
      exact val_key h2 n2 (by simpa using e1) (by simpa using e2)
theorem at_dicK {G : Hp} {v : V} {ks : List Key} {ds : List D} (h : At G v (.dic ks ds)) : ∃ (p : Addr) (kvs : List (Key × V)), v = .ref p ∧ G p = some (.dK kvs) ∧ kvs.map (·.1) = ks ∧ AtAll G (kvs.map (·.2)) ds := by
  cases h with
  | dic e t => exact ⟨_, _, rfl, e, rfl, t⟩
/-- d[k] -/
theorem wpe_getK (h : WpE R ta δ fun x => ∃ (ks : List Key) (ds : List D), x = .dic ks ds ∧ ks.Nodup ∧ WpE R tb δ fun y => ∃ (z : Key) (j : Nat) (d : D), y = kD z ∧ ks[j]? = some z ∧ ds[j]? = some d ∧ φ d) : WpE R (tDGet ta tb) δ φ := fun σ G H en rz Q k =>
  h σ G H en rz _ fun v x G1 H1 s1 e1 a1 ⟨ks, ds, ex, nd, h2⟩ => by
    subst ex
    obtain ⟨p, kvs, rfl, hp, hk, al⟩ := at_dicK a1
    refine h2 σ G1 H1 e1 (rz.stepB (s1.toB en.old)) _ fun u y G2 H2 s2 e2 a2 ⟨z, j, d, ey, ej, ed, q⟩ => ?_
    subst ey
    obtain rfl := at_kD a2
    obtain ⟨w, ew, aw⟩ := al.get ed
    refine ⟨p, w, rfl, .inl ⟨kvs, z, .inl (e2.same _ _ (s2.gs _ _ hp)), rfl, (val_key hk nd ej ew).symm⟩, k _ _ G2 H2 (s1.trans s2) e2 (aw.same s2.gs) q⟩
/-- {k: v for ..} -/
theorem wpe_dcK {wi : TI} {g : TG} {tk tv : TE} {vs js : List Nat} (hjs : ∀ j ∈ js, j ∈ vs) (kf : D → Key) (vf : D → D)
    (h : WpI R wi δ fun ds => ds.length ≤ 100000 ∧ (ds.map kf).Nodup ∧ (∀ d ∈ ds, WpG R g d (wipeD δ vs) js fun δ2 => WpE R tk δ2 fun y => y = kD (kf d) ∧ WpE R tv δ2 fun z => z = vf d) ∧ φ (.dic (ds.map kf) (ds.map vf))) :
    WpE R (tDc wi g tYes tk tv vs) δ φ := fun σ G H en rz Q k => by
  refine h σ G H en rz _ fun J ds G1 H1 s1 e1 wk ⟨hl, nd, step, fin⟩ => ?_
  intro Dl hD
  have gD : G1 Dl = none := e1.same.free hD
  have nS : ¬ R.T.S Dl := fun z => by
    obtain ⟨_, w, e, _⟩ := e1.stt Dl z
    rw [hD] at e
    exact nomatch e
  have ew := e1.wipe vs
  let Nx : Nat → Hp → Prop := fun i H' => ∃ (kvs : List (Key × V)) (G' : Hp), Stp R.T.S G1 H1 G' H' ∧ Same G' H' ∧ StO R.T.S G' H' ∧ G' Dl = none ∧ H' Dl = some (.dK kvs) ∧ kvs.map (·.1) = (ds.take i).map kf ∧ AtAll G' (kvs.map (·.2)) ((ds.take i).map vf)
  refine ⟨fun i m H' => m = ds.length - i ∧ i ≤ ds.length ∧ Nx i H', ⟨_, rfl, Nat.zero_le _, [], G1, Stp.grow (same_upd hD), e1.same.trans (same_upd hD), fun a ha => ?_, gD, upd_same, rfl, .nil⟩, ?_⟩
  · obtain ⟨q, w, e, mo⟩ := e1.stt a ha
    exact ⟨q, w, by rw [upd_ne (ne_of_none e hD)]; exact e, mo⟩
  rintro i m H' ⟨rfl, hi, kvs, G', st, sm, so, gd, hd, hk, al⟩
  have e' : Ens R.T G' H' (wipeD δ vs) (L2.wipe σ vs) := ew.step st (fun _ z => z) sm so
  obtain ⟨go, stop, yld⟩ := wk G' H' st.gs sm
  by_cases lt : i < ds.length
  · refine .inr ⟨go i lt, Nx (i + 1), fun H2 z => ⟨ds.length - (i + 1), by omega, rfl, lt, z⟩, fun x H2 y => ?_⟩
    obtain ⟨d, G2, ed, s2, sm2, at2⟩ := yld i x H2 lt y
    have e2 := e'.step0 s2 sm2
    have st2 := st.trans s2.zero
    have gd2 : G2 Dl = none := s2.gn Dl gd (by rw [hd]; exact fun z => nomatch z)
    have hd2 : H2 Dl = some (.dK kvs) := s2.same _ _ hd
    refine step d (List.mem_of_getElem? ed) (L2.wipe σ vs) G2 H2 x e2 at2 _ fun σ3 δ3 e3 ag ln w => ⟨wipe_eq hjs ag ln, ?_⟩
    have rz2 : Rz R G2 H2 := (rz.stepB (s1.toB en.old)).stepB (st2.toB e1.old)
    refine iteT (B := Nx (i + 1) H2) ?_
    refine w σ3 G2 H2 e3 rz2 _ fun v y4 G4 H4 s4 e4 a4 ⟨ey, w2⟩ => ?_
    subst ey
    obtain rfl := at_kD a4
    refine w2 σ3 G4 H4 e4 (rz2.stepB (s4.toB e3.old)) _ fun v5 y5 G5 H5 s5 e5 a5 ey5 => ?_
    subst ey5
    have st5 := (st2.trans s4).trans s5
    have gd4 : G4 Dl = none := s4.gn Dl gd2 (by rw [hd2]; exact fun z => nomatch z)
    have hd4 : H4 Dl = some (.dK kvs) := s4.hs _ _ hd2 nS
    have gd5 : G5 Dl = none := s5.gn Dl gd4 (by rw [hd4]; exact fun z => nomatch z)
    have hd5 : H5 Dl = some (.dK kvs) := s5.hs _ _ hd4 nS
    have al5 := ((al.same s2.gs).same s4.gs).same s5.gs
    have tk1 : ds.take (i + 1) = ds.take i ++ [d] := by rw [List.take_add_one, ed]; rfl
    have len : kvs.length = i := by
      have := congrArg List.length hk
      rw [List.length_map, List.length_map, List.length_take] at this
      omega
    have nk : ∀ p ∈ kvs, p.1 ≠ kf d := fun p hp e => by
      have m : p.1 ∈ kvs.map (·.1) := List.mem_map.mpr ⟨p, hp, rfl⟩
      rw [hk, e] at m
      have nd2 : ((ds.take (i + 1)).map kf).Nodup := nd.sublist ((List.take_sublist _ _).map _)
      rw [tk1, List.map_append, List.nodup_append] at nd2
      exact nd2.2.2 _ m _ (by simp) rfl
    refine ⟨kvs, kf d, rfl, hd5, by rw [len]; exact Nat.lt_of_le_of_lt (Nat.le_trans hi hl) (by decide), ?_⟩
    rw [putK_new v5 (valV_none nk)]
    refine ⟨kvs ++ [(kf d, v5)], G5, ⟨st5.gs, fun b u e n => ?_, fun b e => ?_, st5.gn⟩, fun b u e => ?_, fun a ha => ?_, gd5, upd_same, ?_, ?_⟩
    · rw [upd_ne (ne_of_none e hD)]
      exact st5.hs b u e n
    · by_cases z : b = Dl
      · rw [z, upd_same]; exact fun q => nomatch q
      · rw [upd_ne z]; exact st5.al b e
    · rw [upd_ne (ne_of_none e gd5)]
      exact e5.same b u e
    · obtain ⟨q1, w1, q2, mo⟩ := e5.stt a ha
      exact ⟨q1, w1, by rw [upd_ne (show a ≠ Dl from fun z => nS (by rw [← z]; exact ha))]; exact q2, mo⟩
    · rw [List.map_append, hk, tk1, List.map_append]
      rfl
    · rw [List.map_append, tk1, List.map_append]
      exact al5.app (.cons a5 .nil)
  · have e : i = ds.length := by omega
    subst e
    refine .inl ⟨stop, ?_⟩
    rw [List.take_length] at hk al
    have sp : Stp R.T.S G1 H1 (upd G' Dl (.dK kvs)) H' := ⟨st.gs.trans (same_upd gd), st.hs, st.al, fun b e1' e2' => by rw [upd_ne (fun z => e2' (by rw [z]; exact hD))]; exact st.gn b e1' e2'⟩
    have sm' : Same (upd G' Dl (.dK kvs)) H' := fun b u e => by
      by_cases z : b = Dl
      · subst z
        rw [upd_same] at e
        rw [← e]
        exact hd
      · rw [upd_ne z] at e
        exact sm b u e
    have atD : At (upd G' Dl (.dK kvs)) (.ref Dl) (.dic (ds.map kf) (ds.map vf)) := by
      rw [← hk]
      exact .dic upd_same (al.same (same_upd gd))
    refine k _ _ _ _ (s1.trans sp) (e1.step sp (fun _ z => z) sm' fun a ha => ?_) atD fin
    obtain ⟨q1, w, q2, mo⟩ := so a ha
    exact ⟨by rw [upd_ne (show a ≠ Dl from fun z => nS (by rw [← z]; exact ha))]; exact q1, w, q2, mo.same (same_upd gd)⟩
/-! the least, the greatest -/
def minL : List Int → Int
  | [] => 0
  | [x] => x
  | x :: y :: t => min x (minL (y :: t))
def maxL : List Int → Int
  | [] => 0
  | [x] => x
  | x :: y :: t => max x (maxL (y :: t))
theorem minL_le : ∀ {xs : List Int} {y : Int}, y ∈ xs → minL xs ≤ y
  | [x], y, h => by
    rw [List.mem_singleton] at h
    subst h
    exact Int.le_refl _
  | x :: z :: t, y, h => by
    show min x (minL (z :: t)) ≤ y
    rcases List.mem_cons.mp h with rfl | h
    · omega
    · have := minL_le h
      omega
theorem minL_mem : ∀ {xs : List Int}, xs ≠ [] → minL xs ∈ xs
  | [x], _ => by simp [minL]
  | x :: z :: t, _ => by
    show min x (minL (z :: t)) ∈ _
    have := minL_mem (xs := z :: t) (by simp)
    rcases Int.le_total x (minL (z :: t)) with h | h
    · rw [Int.min_eq_left h]; simp
    · rw [Int.min_eq_right h]; exact List.mem_cons_of_mem _ this
theorem maxL_ge : ∀ {xs : List Int} {y : Int}, y ∈ xs → y ≤ maxL xs
  | [x], y, h => by
    rw [List.mem_singleton] at h
    subst h
    exact Int.le_refl _
  | x :: z :: t, y, h => by
    show y ≤ max x (maxL (z :: t))
    rcases List.mem_cons.mp h with rfl | h
    · omega
    · have := maxL_ge h
      omega
theorem maxL_mem : ∀ {xs : List Int}, xs ≠ [] → maxL xs ∈ xs
  | [x], _ => by simp [maxL]
  | x :: z :: t, _ => by
    show max x (maxL (z :: t)) ∈ _
    have := maxL_mem (xs := z :: t) (by simp)
    rcases Int.le_total x (maxL (z :: t)) with h | h
    · rw [Int.max_eq_right h]; exact List.mem_cons_of_mem _ this
    · rw [Int.max_eq_left h]; simp
theorem b_min : bootBuiltins "min" = some (.builtin "min") := by decide +kernel
theorem b_max : bootBuiltins "max" = some (.builtin "max") := by decide +kernel
theorem cr_minK2 {X : Cx} {K : PySem.W.Frag} (h : X.K = K) (hc : X.calm = true) : CallR X (.builtin "min") (rMin K) := h ▸ cr_min hc
theorem cr_maxK2 {X : Cx} {K : PySem.W.Frag} (h : X.K = K) (hc : X.calm = true) : CallR X (.builtin "max") (rMax K) := h ▸ cr_max hc
theorem cbd_min {zs : List Int} (ne : zs ≠ []) (q : φ (.int (minL zs))) : CbD (rMin K) [.lst (zs.map D.int)] φ := fun G H vs s a Q k => by
  cases a with
  | cons a t =>
    cases t
    obtain ⟨p, xs, rfl, hp, al⟩ := at_lst a
    obtain rfl := atAll_ints al
    refine ⟨p, zs, rfl, sqL_of s hp, List.length_pos_iff.mpr ne, fun m hm hl => ?_⟩
    obtain rfl : m = minL zs := by
      have h1 := hl _ (minL_mem ne)
      have h2 := minL_le hm
      omega
    exact k _ _ G H .refl s (.int _) q
theorem cbd_max {zs : List Int} (ne : zs ≠ []) (q : φ (.int (maxL zs))) : CbD (rMax K) [.lst (zs.map D.int)] φ := fun G H vs s a Q k => by
  cases a with
  | cons a t =>
    cases t
    obtain ⟨p, xs, rfl, hp, al⟩ := at_lst a
    obtain rfl := atAll_ints al
    refine ⟨p, zs, rfl, sqL_of s hp, List.length_pos_iff.mpr ne, fun m hm hl => ?_⟩
    obtain rfl : m = maxL zs := by
      have h1 := hl _ (maxL_mem ne)
      have h2 := maxL_ge hm
      omega
    exact k _ _ G H .refl s (.int _) q
/-- x.extend(e) -/
theorem wps_extend {i : Nat} {p : Addr} {ds : List D} (e : δ[i]? = some (.ow p ds)) (h : WpE R te δ fun d => ∃ es, d = .lst es ∧ ds.length + es.length ≤ 16000000 ∧ Φ (δ.set i (.ow p (ds ++ es)))) :
    WpS R (tDrop (tBM K "list" rExtend (tVar i) (tCons te tNil))) δ Φ Ψ := fun σ G H en rz Z k1 k2 => by
  obtain ⟨o, e1, rfl, nS, nG, xs, hx, al⟩ := en.get i _ e
  refine ⟨_, e1, .inl ⟨rfl, xs, .inl (.inl hx)⟩, h σ G H en rz _ fun v d G1 H1 s1 en1 a ⟨es, ed, l, q⟩ => ?_⟩
  subst ed
  obtain ⟨o, _, e2, nS1, nG1, ys, hy, bl⟩ := en1.get i _ e
  have hy2 := s1.hs _ _ hx nS.1
  rw [hy] at hy2
  obtain rfl := HO.lst.inj (Option.some.inj hy2)
  obtain ⟨b, zs, rfl, gb, cl⟩ := at_lst a
  refine ⟨_, b, ys, zs, rfl, rfl, hy, en1.same _ _ gb, by rw [bl.length, cl.length, sizeLine_eq]; omega, ?_⟩
  exact k1 _ _ G1 _ ((s1.toB en.old).trans (en1.putB e)) (en1.put e (bl.app cl)) q
/-- x is None -/
def isNonD : D → Bool
  | .non => true
  | _ => false
theorem at_isNon {G : Hp} {v : V} {d : D} (a : At G v d) : decide (v = V.non) = isNonD d := by
  cases a <;> rfl
theorem opd_isN {x : D} (q : φ (.bl (isNonD x))) : OpD (fun x y H Q => y = .non ∧ Q (.bl (decide (x = .non))) H) x .non φ := fun G H v w s a b Q k => by
  cases b
  refine ⟨rfl, ?_⟩
  rw [at_isNon a]
  exact k _ _ G H .refl s (.bl _) q
/-- a list just made becomes a slot's own -/
theorem Ens.adopt {T : Tr} {G H : Hp} {σ : L2.St} (en : Ens T G H δ σ) {i : Nat} {p : Addr} {xs : List V} {ds : List D} (hp : H p = some (.lst xs)) (gp : G p = none) (nS : ¬ T.S p) (nO : ¬ T.O p) (al : AtAll G xs ds)
    (no : ∀ (k : Nat) (es : List D), ¬ δ[k]? = some (.ow p es)) : Ens T G H (δ.set i (.ow p ds)) (σ.set i (some (.ref p))) := by
  refine ⟨en.same, by rw [List.length_set, List.length_set]; exact en.len, fun j s e => ?_, en.stt, en.old, en.inv, fun j k a es fs q1 q2 => ?_, fun j k a es fs q1 q2 => ?_⟩
  · rcases get_set e with ⟨rfl, rfl⟩ | ⟨ne, e⟩
    · have lt : j < σ.length := by
        rw [← en.len]
        have := (List.getElem?_eq_some_iff.mp e).1
        rw [List.length_set] at this
        exact this
      exact ⟨some (.ref p), List.getElem?_set_self lt, rfl, ⟨nS, nO⟩, gp, xs, hp, al⟩
    · obtain ⟨o, e2, r⟩ := en.get j s e
      exact ⟨o, by rw [List.getElem?_set_ne (fun z => ne z.symm)]; exact e2, r⟩
  · rcases get_set q1 with ⟨rfl, z⟩ | ⟨n1, m1⟩
    · rcases get_set q2 with ⟨rfl, _⟩ | ⟨n2, m2⟩
      · rfl
      · obtain ⟨rfl, rfl⟩ := Sl.ow.inj z
        exact (no k fs m2).elim
    · rcases get_set q2 with ⟨rfl, z⟩ | ⟨n2, m2⟩
      · obtain ⟨rfl, rfl⟩ := Sl.ow.inj z
        exact (no j es m1).elim
      · exact en.nd j k a es fs m1 m2
  · rcases get_set q1 with ⟨_, z⟩ | ⟨_, m1⟩
    · exact nomatch z
    · rcases get_set q2 with ⟨_, z⟩ | ⟨_, m2⟩
      · exact nomatch z
      · exact en.nd2 j k a es fs m1 m2
/-- x = [None for ..], owned: all items alike -/
theorem wps_setLcC {wi : TI} {i j : Nat} {vs : List Nat} {c : V} {dc : D} (hc : ∀ G : Hp, At G c dc) (hj : j ∈ vs)
    (h : WpI R wi δ fun ds => ds.length ≤ 100000 ∧ ∀ p, Φ (δ.set i (.ow p (List.replicate ds.length dc)))) :
    WpS R (tAsg (tLc wi (gName j) tYes (tC c) vs) (gName i)) δ Φ Ψ := fun σ G H en rz Z k1 k2 => by
  refine h σ G H en rz _ fun J ds G1 H1 s1 e1 wk ⟨hl, fin⟩ => ?_
  intro Dl hD
  have fD := e1.fresh5 hD
  have no : ∀ (k : Nat) (es : List D), ¬ δ[k]? = some (.ow Dl es) := fun k es z => by
    obtain ⟨o, _, _, _, _, xs, r, _⟩ := e1.get k _ z
    rw [hD] at r
    exact nomatch r
  let Nx : Nat → Hp → Prop := fun i H' => ∃ xs G', Stp S0 G1 H1 G' H' ∧ Same G' H' ∧ G' Dl = none ∧ H' Dl = some (.lst xs) ∧ AtAll G' xs (List.replicate i dc)
  refine ⟨fun i m H' => m = ds.length - i ∧ i ≤ ds.length ∧ Nx i H', ⟨_, rfl, Nat.zero_le _, [], G1, Stp.grow (same_upd hD), e1.same.trans (same_upd hD), fD.1, upd_same, .nil⟩, ?_⟩
  rintro i m H' ⟨rfl, hi, xs, G', st, sm, gd, hd, al⟩
  obtain ⟨go, stop, yld⟩ := wk G' H' st.gs sm
  have lx : xs.length = i := by rw [al.length, List.length_replicate]
  by_cases lt : i < ds.length
  · refine .inr ⟨go i lt, Nx (i + 1), fun H2 z => ⟨ds.length - (i + 1), by omega, rfl, lt, z⟩, fun x H2 y => ?_⟩
    obtain ⟨d, G2, ed, s2, sm2, at2⟩ := yld i x H2 lt y
    have gd2 : G2 Dl = none := s2.gn Dl gd (by rw [hd]; exact fun z => nomatch z)
    have hd2 : H2 Dl = some (.lst xs) := s2.same _ _ hd
    have st2 := st.trans s2
    show L2.wipe ((L2.wipe σ vs).set j (some x)) vs = L2.wipe σ vs ∧ _
    refine ⟨wipe_eq (js := [j]) (by simpa using hj) (fun k hk => List.getElem?_set_ne (fun z => hk (by simp [z]))) (by rw [List.length_set]), iteT (B := Nx (i + 1) H2) ?_⟩
    refine ⟨xs, hd2, by rw [lx]; exact Nat.lt_of_lt_of_le lt (Nat.le_trans hl (by decide)), xs ++ [c], G2, ⟨st2.gs, fun b u e n => ?_, fun b e => ?_, st2.gn⟩, fun b u e => ?_, gd2, upd_same, ?_⟩
    · rw [upd_ne (ne_of_none e hD)]
      exact st2.hs b u e n
    · by_cases z : b = Dl
      · rw [z, upd_same]; exact fun q => nomatch q
      · rw [upd_ne z]; exact st2.al b e
    · rw [upd_ne (ne_of_none e gd2)]
      exact sm2 b u e
    · rw [List.replicate_succ']
      exact (al.same s2.gs).app (.cons (hc _) .nil)
  · have e : i = ds.length := by omega
    subst e
    refine .inl ⟨stop, ?_⟩
    exact k1 _ _ G' H' ((s1.trans (st.zero (S := R.T.S))).toB en.old) ((e1.step0 st sm).adopt hd gd fD.2.1 fD.2.2 al no) (fin Dl)
end
end Nv
/-! Nv, part Df: a def whose code object is told; defs with keyword-only defaults. -/
namespace Nv
open PySem PySem.Spec PyProof.Rows L2
variable [Tb] [Ls]
/-- a def as it stands behind the top, its code object at c -/
structure FnC (K : PySem.W.Frag) (mg : Str → Option Value) (x : Str) (st : Stmt) (ps : List Str) (f : Addr) (fd : FuncData) (c : Addr) : Prop where
  F : ∃ (oc : Value) (od : Option Addr) (kV doc pm : Value) (an : Option Addr) (ct : Value) (osl : Array (Option Value)),
    fd = PySem.W.fnOf x x (defArgs st) (defBody st) (defScope st) .none kV doc pm an (.ref c) ct ∧ K.lookup f = some ⟨oc, od, .func fd, osl⟩ ∧ PySem.W.codeIn K (.ref c) x = true
  kp : PySem.W.keepIn K (.ref f) = true
  m : mg x = some (.ref f)
  b : Binds K fd ps []
section
variable {P : Program} {w : World} {K : PySem.W.Frag} {mg : Str → Option Value} {base : Heap}
theorem FnC.okT {x : Str} {st : Stmt} {N ps : List Str} {f cc : Addr} {fd : FuncData} {n k : Nat} {c : Spc} (F : FnC K mg x st ps f fd cc) (S : FnScope N ps (defScope st)) (hn : ps.length = n)
    (h : ∀ (A : Around) (outer : List Env) (s : Shared) (H : Hp) (E : XK) (as : List Sl), Room k (A.deeper (envOfC x (defScope st) s.heap.objs.size f (.ref cc))) → c.pre as → as.length = n →
      ∃ t, PSs (cxOf CX0 P w K mg base N x (defScope st) f (.ref cc) A outer s H E).nox (defBody st) t ∧
        ∀ T : Tr, (∀ a, Tb.U a → T.S a) → WpS ⟨E, c.err as, T⟩ t (as ++ List.replicate (N.length - n) .no) (fun _ => c.post as .non) (c.post as)) :
    Dk P w K mg base x CX0 (k + 1) ps (spWT c n) := by
  obtain ⟨oc, od, kV, doc, pm, an, ct, osl, rfl, lk, hcd⟩ := F.F
  refine ⟨f, _, fn_of lk hcd S (fun vs H Q E h => ?_) (fun A outer s H vs Q E hr q => ?_), F.m, F.kp, F.b⟩
  · obtain ⟨S, G, as, l, _, _, _, ar, _⟩ := h
    rw [← ar.length, l, hn]
  · obtain ⟨S, G, as, l, us, sm, so, ar, p, k, r⟩ := q
    obtain ⟨t, h1, h2⟩ := h A outer s H E as hr p l
    exact ⟨t, h1.nox, wps_runT l us sm so ar k r h2⟩
/-- a def with keyword-only parameters that have defaults, as it stands behind the top -/
structure FnD (K : PySem.W.Frag) (mg : Str → Option Value) (x : Str) (st : Stmt) (kws : List (Str × V)) (f : Addr) (fd : FuncData) : Prop where
  F : FunD K x x (defArgs st) (defBody st) (defScope st) [] kws f fd
  m : mg x = some (.ref f)
/-- such a def keeps a promise; dvs: the defaults -/
structure DkD (P : Program) (w : World) (K : PySem.W.Frag) (mg : Str → Option Value) (base : Heap) (x : Str) (CX : CXT) (k : Nat) (ps : List Str) (dvs : List V) (sp : Sp) : Prop where
  ex : ∃ f fd ds, FnOk P w K mg base CX k f fd ps sp ∧ mg x = some (.ref f) ∧ PySem.W.keepIn K (.ref f) = true ∧ Vals dvs ds ∧ Binds K fd ps ds
theorem FnD.okT {x : Str} {st : Stmt} {kws : List (Str × V)} {N ps : List Str} {f : Addr} {fd : FuncData} {n k : Nat} {c : Spc} (F : FnD K mg x st kws f fd) (S : FnScope N ps (defScope st)) (hn : ps.length = n)
    (h : ∀ (cdv : Value) (A : Around) (outer : List Env) (s : Shared) (H : Hp) (E : XK) (as : List Sl), Room k (A.deeper (envOfC x (defScope st) s.heap.objs.size f cdv)) → c.pre as → as.length = n →
      ∃ t, PSs (cxOf CX0 P w K mg base N x (defScope st) f cdv A outer s H E).nox (defBody st) t ∧
        ∀ T : Tr, (∀ a, Tb.U a → T.S a) → WpS ⟨E, c.err as, T⟩ t (as ++ List.replicate (N.length - n) .no) (fun _ => c.post as .non) (c.post as)) :
    FnOk P w K mg base CX0 (k + 1) f fd ps (spWT c n) := by
  refine F.F.ok S (fun vs H Q E h => ?_) (fun cdv A outer s H vs Q E hr q => ?_)
  · obtain ⟨S, G, as, l, _, _, _, ar, _⟩ := h
    rw [← ar.length, l, hn]
  · obtain ⟨S, G, as, l, us, sm, so, ar, p, k, r⟩ := q
    obtain ⟨t, h1, h2⟩ := h cdv A outer s H E as hr p l
    exact ⟨t, h1.nox, wps_runT l us sm so ar k r h2⟩
end
section
variable {X : Cx} {CX : CXT} {k : Nat} {ps : List Str} {sp : Sp} {E : XK} {x : Str} {p pos : Pos} {e : Expr} {es : List Expr} {t : TA} {dvs : List V}
/-- f(e, ..), the keyword-only ones left out -/
theorem pe_callDd (F : DkD X.prog X.w X.K X.mg X.base x CX k ps dvs sp) (hr : Room k X.A) (hg : Gl X x) (hx : Passes CX X E) (ha : PA X (e :: es) t)
    (hdb : (x == ("__debug__" : Str)) = false := by decide)
    (he : starEach (e :: es) X.env = (false, eval e X.env) :: starEach es X.env := by rfl)
    (hpl : (backTo pos (starEach es X.env)).any (·.1) = false := by rfl) :
    PE X (.Call (.Name x p) (e :: es) [] pos) (tCall sp dvs E t) := by
  obtain ⟨f, fd, ds, h1, h2, h3, h4, h5⟩ := F.ex
  exact pe_call h1 hr hg h2 h3 h5 h4 hx ha hdb he hpl
end
/-- one default, None -/
theorem wpe_callTd {R : Rg} {δ : List Sl} {tr : TA} {φ : D → Prop} {c : Spc} {n : Nat} {E : XK} (us : ∀ a, Tb.U a → R.T.S a) (h : WpA R tr δ fun as => (as ++ [Sl.da .non]).length = n ∧ c.pre (as ++ [.da .non]) ∧ (∀ d, c.post (as ++ [.da .non]) d → φ d) ∧ ∀ C d, ¬ c.err (as ++ [.da .non]) C d) : WpE R (tCall (spWT c n) [.non] E tr) δ φ := fun σ G H en rz Q k =>
  h σ G H en rz _ fun vs as G1 H1 s1 e1 a1 ⟨l, p, q, r⟩ => by
    show spWT c n (vs ++ [.non]) H1 Q E
    have ar : Args R.T.S G1 (as ++ [Sl.da .non]) (vs ++ [V.non]) := a1.app (.cons (show ArgR R.T.S G1 (.da .non) .non from .non) .nil)
    exact ⟨R.T.S, G1, _, l, us, e1.same, e1.stt, ar, p, fun v d G' H' st sm so a pq => k v d G' H' (s1.trans st) (e1.step st (fun _ z => z) sm so) a (q d pq), fun C dd w d G' H' st hx a x => (r C d x).elim⟩
end Nv
/-! Nv, part Fs: a list that a call made and that nobody else knows (as NvFr, for any generator): it may be changed, and read as data. -/
namespace Nv
open PySem PySem.Spec PyProof.Rows L2
variable [Tb] [Ls]
/-- no list within -/
inductive NoD : D → Prop
  | non : NoD .non
  | bl (b : Bool) : NoD (.bl b)
  | int (i : Int) : NoD (.int i)
  | str (x : Str) : NoD (.str x)
  | ty (T : String) : NoD (.ty T)
  | tup {ds : List D} : (∀ d ∈ ds, NoD d) → NoD (.tup ds)
  | dct {ks : List (List Key)} {ds : List D} : (∀ d ∈ ds, NoD d) → NoD (.dct ks ds)
  | ins {C : Addr} {ns : List Str} {ds : List D} : (∀ d ∈ ds, NoD d) → NoD (.ins C ns ds)
theorem TupR.noL {G : Hp} {a : Addr} {xs : List V} {ds : List D} (h : TupR G a xs ds) : TupR (noLst G) a xs ds := by
  rcases h with ⟨o, h, nd⟩ | ⟨h | ⟨o, h⟩, nd⟩
  · exact .inl ⟨o, noLst_of h (fun xs z => nomatch z), nd⟩
  · exact .inr ⟨.inl (noLst_of h fun xs z => nomatch z), nd⟩
  · exact .inr ⟨.inr ⟨o, noLst_of h fun xs z => nomatch z⟩, nd⟩
mutual
theorem At.noD {G : Hp} : ∀ {v : V} {d : D}, At G v d → NoD d → At (noLst G) v d
  | _, _, .non, _ => .non
  | _, _, .bl b, _ => .bl b
  | _, _, .int i, _ => .int i
  | _, _, .str x, _ => .str x
  | _, _, .ty x, _ => .ty x
  | _, _, .lst h t, n => by cases n
  | _, _, .tup h t, n => by
    cases n with
    | tup n => exact .tup h.noL (AtAll.noD t n)
  | _, _, .dic h t, n => by cases n
  | _, _, .dct h r e t, n => by
    cases n with
    | dct n => exact .dct (noLst_of h fun xs z => nomatch z) r (fun p hp => (e p hp).noL) (AtAll.noD t n)
  | _, _, .ins h t, n => by
    cases n with
    | ins n => exact .ins (noLst_of h fun xs z => nomatch z) (AtAll.noD t n)
theorem AtAll.noD {G : Hp} : ∀ {vs : List V} {ds : List D}, AtAll G vs ds → (∀ d ∈ ds, NoD d) → AtAll (noLst G) vs ds
  | _, _, .nil, _ => .nil
  | _, _, .cons a b, n => .cons (At.noD a (n _ (by simp))) (AtAll.noD b fun d hd => n d (by simp [hd]))
end
inductive NlD : Sl → Prop
  | no : NlD .no
  | fx (v : V) : NlD (.fx v)
  | da {d : D} : NoD d → NlD (.da d)
/-- of the slots, those without lists and generators -/
inductive KeepD : List Sl → List Sl → Prop
  | nil : KeepD [] []
  | no {s : Sl} {δ0 δ : List Sl} : KeepD δ0 δ → KeepD (.no :: δ0) (s :: δ)
  | at {s : Sl} {δ0 δ : List Sl} : NlD s → KeepD δ0 δ → KeepD (s :: δ0) (s :: δ)
theorem KeepD.len : ∀ {δ0 δ : List Sl}, KeepD δ0 δ → δ0.length = δ.length
  | _, _, .nil => rfl
  | _, _, .no h => congrArg Nat.succ h.len
  | _, _, .at _ h => congrArg Nat.succ h.len
theorem KeepD.sub : ∀ {δ0 δ : List Sl}, KeepD δ0 δ → ∀ (j : Nat) (s : Sl), δ0[j]? = some s → NlD s ∧ (s = .no ∨ δ[j]? = some s)
  | _, _, .nil, j, s, e => by simp at e
  | _, _, .no h, 0, s, e => by
    obtain rfl := Option.some.inj e
    exact ⟨.no, .inl rfl⟩
  | _, _, .no h, j + 1, s, e => h.sub j s (by simpa using e)
  | _, _, .at n h, 0, s, e => by
    obtain rfl := Option.some.inj e
    exact ⟨n, .inr rfl⟩
  | _, _, .at n h, j + 1, s, e => by
    have := h.sub j s (by simpa using e)
    exact ⟨this.1, this.2.imp id fun q => by simpa using q⟩
/-- of the slots, those without generators -/
inductive KeepS : List Sl → List Sl → Prop
  | nil : KeepS [] []
  | no {s : Sl} {δ0 δ : List Sl} : KeepS δ0 δ → KeepS (.no :: δ0) (s :: δ)
  | da {d : D} {δ0 δ : List Sl} : KeepS δ0 δ → KeepS (.da d :: δ0) (.da d :: δ)
theorem KeepS.len : ∀ {δ0 δ : List Sl}, KeepS δ0 δ → δ0.length = δ.length
  | _, _, .nil => rfl
  | _, _, .no h => congrArg Nat.succ h.len
  | _, _, .da h => congrArg Nat.succ h.len
theorem KeepS.sub : ∀ {δ0 δ : List Sl}, KeepS δ0 δ → ∀ (j : Nat) (s : Sl), δ0[j]? = some s → s = .no ∨ (∃ d, s = .da d) ∧ δ[j]? = some s
  | _, _, .nil, j, s, e => by simp at e
  | _, _, .no h, 0, s, e => by
    obtain rfl := Option.some.inj e
    exact .inl rfl
  | _, _, .no h, j + 1, s, e => (h.sub j s (by simpa using e)).imp id fun q => ⟨q.1, by simpa using q.2⟩
  | _, _, .da h, 0, s, e => by
    obtain rfl := Option.some.inj e
    exact .inr ⟨⟨_, rfl⟩, rfl⟩
  | _, _, .da h, j + 1, s, e => (h.sub j s (by simpa using e)).imp id fun q => ⟨q.1, by simpa using q.2⟩
/-- without generators -/
def Tr.noS (T : Tr) : Tr := ⟨T.O, fun _ => False, T.F⟩
theorem Ens.noD {T : Tr} {G H : Hp} {δ δ0 : List Sl} {σ : L2.St} (en : Ens T G H δ σ) (len : δ0.length = δ.length) (sub : ∀ (j : Nat) (s : Sl), δ0[j]? = some s → NlD s ∧ (s = .no ∨ δ[j]? = some s)) : Ens T.noS (noLst G) H δ0 σ := by
  refine ⟨fun b u e => en.same b u (noLst_sub e).1, by rw [len]; exact en.len, fun i s e => ?_, fun a ha => ha.elim, en.old, fun b u q => ⟨(en.inv b u q).1, fun z => z, (en.inv b u q).2.2⟩, fun i j a ds es h1 h2 => ?_, fun i j a ds es h1 h2 => ?_⟩
  · obtain ⟨n, q⟩ := sub i s e
    rcases q with rfl | q
    · have lt : i < σ.length := by
        rw [← en.len, ← len]
        exact (List.getElem?_eq_some_iff.mp e).1
      exact ⟨_, List.getElem?_eq_getElem lt, trivial⟩
    · obtain ⟨o, e1, r⟩ := en.get i s q
      refine ⟨o, e1, ?_⟩
      cases n with
      | no => trivial
      | fx v => exact r
      | da q9 =>
        obtain ⟨v, e2, a⟩ := r
        exact ⟨v, e2, a.noD (by assumption)⟩
  · have := (sub i _ h1).1
    cases this
  · have := (sub i _ h1).1
    cases this
theorem Ens.noS {T : Tr} {G H : Hp} {δ δ0 : List Sl} {σ : L2.St} (en : Ens T G H δ σ) (len : δ0.length = δ.length) (sub : ∀ (j : Nat) (s : Sl), δ0[j]? = some s → s = .no ∨ (∃ d, s = .da d) ∧ δ[j]? = some s) : Ens T.noS G H δ0 σ := by
  refine ⟨en.same, by rw [len]; exact en.len, fun i s e => ?_, fun a ha => ha.elim, en.old, fun b u q => ⟨(en.inv b u q).1, fun z => z, (en.inv b u q).2.2⟩, fun i j a ds es h1 h2 => ?_, fun i j a ds es h1 h2 => ?_⟩
  · rcases sub i s e with rfl | ⟨⟨d, rfl⟩, q⟩
    · have lt : i < σ.length := by
        rw [← en.len, ← len]
        exact (List.getElem?_eq_some_iff.mp e).1
      exact ⟨_, List.getElem?_eq_getElem lt, trivial⟩
    · obtain ⟨o, e1, r⟩ := en.get i _ q
      exact ⟨o, e1, r⟩
  · rcases sub i _ h1 with z | ⟨⟨d, z⟩, _⟩ <;> exact nomatch z
  · rcases sub i _ h1 with z | ⟨⟨d, z⟩, _⟩ <;> exact nomatch z
def flatD : D → Bool
  | .non => true
  | .bl _ => true
  | .int _ => true
  | .str _ => true
  | _ => false
theorem At.flat {G G' : Hp} {v : V} {d : D} (a : At G v d) (f : flatD d = true) : At G' v d := by
  cases a with
  | non => exact .non
  | bl b => exact .bl b
  | int i => exact .int i
  | str x => exact .str x
  | ty _ => cases f
  | lst _ _ => cases f
  | tup _ _ => cases f
  | dic _ _ => cases f
  | dct _ _ _ _ => cases f
  | ins _ _ => cases f
section
variable {E : XK} {T : Tr} {te : TE} {δ : List Sl} {φ : D → Prop} {Φ : List Sl → Prop} {Ψ : D → Prop}
/-- x = f(..), a list of ints that the call made: the slot owns it -/
theorem wps_setFs {i : Nat} {δ0 : List Sl} (kp : KeepD δ0 δ)
    (h : WpE ⟨E, fun _ _ => False, T.noS⟩ te δ0 fun d => ∃ zs : List Int, d = .lst (zs.map D.int) ∧ ∀ p, Φ (δ.set i (.ow p (zs.map D.int)))) : WpS ⟨E, fun _ _ => False, T⟩ (tAsg te (gName i)) δ Φ Ψ := fun σ G H en rz Z k1 k2 => by
  refine h σ (noLst G) H (en.noD kp.len kp.sub) rz0 _ fun v d G' H' st en' at' ⟨zs, e, q⟩ => ?_
  subst e
  obtain ⟨a, xs, rfl, ga, al⟩ := at_lst at'
  obtain rfl := atAll_ints al
  have g0 : noLst G a = none := by
    cases q : noLst G a with
    | none => rfl
    | some u =>
      have := st.gs _ _ q
      rw [ga] at this
      exact absurd (Option.some.inj this).symm ((noLst_sub q).2 _)
  have h0 : H a = none := by
    cases q : H a with
    | none => rfl
    | some u =>
      have := st.gn a g0 (by rw [q]; exact fun z => nomatch z)
      rw [ga] at this
      exact nomatch this
  have ga0 : G a = none := en.same.free h0
  let G2 : Hp := fun b => match G b with
    | some u => some u
    | none => if b = a then none else G' b
  have t1 : ∀ b u, G b = some u → G2 b = some u := fun b u e => by show (match G b with | some u => some u | none => _) = _; rw [e]
  have t2 : ∀ b, G b = none → b ≠ a → G2 b = G' b := fun b e n => by show (match G b with | some u => some u | none => if b = a then none else G' b) = _; rw [e]; exact if_neg n
  have t3 : G2 a = none := by show (match G a with | some u => some u | none => if a = a then none else G' a) = _; rw [ga0]; exact if_pos rfl
  have hs : ∀ b u, H b = some u → H' b = some u := fun b u e => st.hs b u e fun z => z
  have sm : Same G2 H' := fun b u e => by
    cases q : G b with
    | some w =>
      rw [t1 b w q] at e
      rw [← e]
      exact hs b w (en.same b w q)
    | none =>
      by_cases n : b = a
      · subst n; rw [t3] at e; exact nomatch e
      · rw [t2 b q n] at e
        exact en'.same b u e
  have sp : Stp T.S G H G2 H' := ⟨t1, fun b u e _ => hs b u e, st.al, fun b e n => by
    by_cases z : b = a
    · subst z; exact t3
    · rw [t2 b e z]
      exact st.gn b (noLst_none e) n⟩
  have so : StO T.S G2 H' := fun b hb => by
    obtain ⟨g, o, e, mo⟩ := en.stt b hb
    have nb : b ≠ a := fun z => by subst z; rw [h0] at e; exact nomatch e
    exact ⟨by rw [t2 b g nb]; exact st.gn b (noLst_none g) (by rw [e]; exact fun z => nomatch z), o, hs b o e, mo.same t1⟩
  have e2 : Ens T G2 H' δ σ := en.step sp (fun _ z => z) sm so
  have nSa : ¬ T.S a := fun z => by
    obtain ⟨_, o, e, _⟩ := en.stt a z
    rw [h0] at e
    exact nomatch e
  have nOa : ¬ T.O a := fun z => en.old a z h0
  have ha : H' a = some (.lst (zs.map V.int)) := en'.same _ _ ga
  have no : ∀ (k : Nat) (ds : List D), ¬ δ[k]? = some (.ow a ds) := fun k ds z => by
    obtain ⟨o, _, _, _, _, xs, r, _⟩ := en.get k _ z
    rw [h0] at r
    exact nomatch r
  refine k1 _ _ G2 H' (sp.toB en.old) (?_ : Ens T G2 H' (δ.set i (.ow a (zs.map D.int))) (σ.set i (some (.ref a)))) (q a)
  refine ⟨sm, by rw [List.length_set, List.length_set]; exact e2.len, fun j s e => ?_, e2.stt, e2.old, e2.inv, fun j k b ds es q1 q2 => ?_, fun j k b ds es q1 q2 => ?_⟩
  · rcases get_set e with ⟨rfl, rfl⟩ | ⟨ne, e⟩
    · have lt : j < σ.length := by
        rw [← e2.len]
        have := (List.getElem?_eq_some_iff.mp e).1
        rw [List.length_set] at this
        exact this
      exact ⟨some (.ref a), List.getElem?_set_self lt, rfl, ⟨nSa, nOa⟩, t3, _, ha, ints_atAll _⟩
    · obtain ⟨o, e3, r⟩ := e2.get j s e
      exact ⟨o, by rw [List.getElem?_set_ne (fun z => ne z.symm)]; exact e3, r⟩
  · rcases get_set q1 with ⟨rfl, z⟩ | ⟨n1, m1⟩
    · rcases get_set q2 with ⟨rfl, _⟩ | ⟨n2, m2⟩
      · rfl
      · obtain ⟨rfl, rfl⟩ := Sl.ow.inj z
        exact (no k es m2).elim
    · rcases get_set q2 with ⟨rfl, z⟩ | ⟨n2, m2⟩
      · obtain ⟨rfl, rfl⟩ := Sl.ow.inj z
        exact (no j ds m1).elim
      · exact e2.nd j k b ds es m1 m2
  · rcases get_set q1 with ⟨_, z⟩ | ⟨_, m1⟩
    · exact nomatch z
    · rcases get_set q2 with ⟨_, z⟩ | ⟨_, m2⟩
      · exact nomatch z
      · exact e2.nd2 j k b ds es m1 m2
/-- a reading that sees the list that slot i owns as data -/
theorem wpe_tellS {i : Nat} {a : Addr} {ds : List D} {δ0 : List Sl} (e : δ[i]? = some (.ow a ds)) (kp : KeepS δ0 (δ.set i (.da (.lst ds)))) (h : WpE ⟨E, fun _ _ => False, T.noS⟩ te δ0 fun d => flatD d = true ∧ φ d) : WpE ⟨E, fun _ _ => False, T⟩ te δ φ := fun σ G H en rz Q k => by
  obtain ⟨o, e1, rfl, nS, gn, xs, hx, al⟩ := en.get i _ e
  obtain ⟨Gp, kq, ne, ep⟩ := en.freeze e
  have gp : ∃ ys, Gp a = some (.lst ys) := by
    obtain ⟨o, e4, w, e5, a5⟩ := ep.get i (.da (.lst ds)) (by rw [List.getElem?_set_self (List.getElem?_eq_some_iff.mp e).1])
    rw [e1] at e4
    cases e4
    cases e5
    obtain ⟨b, ys, e6, g6, _⟩ := at_lst a5
    cases e6
    exact ⟨ys, g6⟩
  refine h σ Gp H (ep.noS kp.len kp.sub) rz0 _ fun v d G1 H1 st en1 at1 ⟨f, q⟩ => ?_
  let G2 : Hp := fun b => if b = a then none else G1 b
  have t2 : ∀ b, b ≠ a → G2 b = G1 b := fun b n => if_neg n
  have t3 : G2 a = none := if_pos rfl
  have hs : ∀ b u, H b = some u → H1 b = some u := fun b u e => st.hs b u e fun z => z
  have t1 : ∀ b u, G b = some u → G2 b = some u := fun b u e => by
    have n : b ≠ a := fun z => by rw [z, gn] at e; exact nomatch e
    rw [t2 b n]
    exact st.gs _ _ (kq _ _ e)
  have sm : Same G2 H1 := fun b u e => by
    by_cases n : b = a
    · subst n; rw [t3] at e; exact nomatch e
    · rw [t2 b n] at e
      exact en1.same b u e
  have sp : Stp T.S G H G2 H1 := ⟨t1, fun b u e _ => hs b u e, st.al, fun b e n => by
    by_cases z : b = a
    · subst z; exact t3
    · rw [t2 b z]
      exact st.gn b (by rw [ne b z]; exact e) n⟩
  have so : StO T.S G2 H1 := fun b hb => by
    obtain ⟨g, o, e, mo⟩ := en.stt b hb
    have nb : b ≠ a := fun z => nS.1 (by rw [← z]; exact hb)
    exact ⟨by rw [t2 b nb]; exact st.gn b (by rw [ne b nb]; exact g) (by rw [e]; exact fun z => nomatch z), o, hs b o e, mo.same t1⟩
  exact k v d G2 H1 sp (en.step sp (fun _ z => z) sm so) (at1.flat f) q
end
end Nv
/-! Nv, part Sc: t = f(..), a tuple with a list that the call made; tests of it; t[1].append(None); then t is no longer known. -/
namespace Nv
open PySem PySem.Spec PyProof.Rows L2
variable [Tb] [Ls]
theorem at_pair2 {G : Hp} {v : V} {x : Str} {ds : List D} (h : At G v (.tup [.str x, .lst ds])) : ∃ t l ys, v = .ref t ∧ Rd G t (.tup [.str x, .ref l]) ∧ G l = some (.lst ys) ∧ AtAll G ys ds := by
  obtain ⟨t, xs, rfl, rt, al⟩ := at_tup h
  cases al with
  | cons a1 al =>
    cases al with
    | cons a2 al =>
      cases al
      cases a1
      obtain ⟨l, ys, rfl, gl, bl⟩ := at_lst a2
      exact ⟨t, l, ys, rfl, rt, gl, bl⟩
section
variable {E : XK} {T : Tr} {te : TE} {tb tc : TT} {tr tn1 tn2 : TS} {δ : List Sl} {Φ : List Sl → Prop} {Ψ : D → Prop} {K : PySem.W.Frag}
theorem wps_told {i : Nat} {δ0 δ1 : List Sl} {d : D} (kp : KeepD δ0 δ)
    (h : WpE ⟨E, fun _ _ => False, T.noS⟩ te δ0 fun y => y = d) (hd : ∃ x ds, d = .tup [.str x, .lst ds] ∧ ds.length ≤ 100000) (kq : KeepS δ1 (δ.set i (.da d)))
    (hb : WpT ⟨E, fun _ _ => False, T.noS⟩ tb δ1 fun b => b = false) (hc : WpT ⟨E, fun _ _ => False, T.noS⟩ tc δ1 fun b => b = true) (hi : i < δ.length) (q : Φ (δ.set i .no)) :
    WpS ⟨E, fun _ _ => False, T⟩ (tSeq (tAsg te (gName i)) (tSeq (tIfS tb tr tNext) (tIfS tc (tDrop (tBM K "list" rAppend (tOp (rIx K) (tVar i) (tC (.int 1))) (tCons (tC .non) tNil))) tn2))) δ Φ Ψ := fun σ G H en rz Z k1 k2 => by
  obtain ⟨x, ds, hd, ld⟩ := hd
  refine h σ (noLst G) H (en.noD kp.len kp.sub) rz0 _ fun v d' G1 H1 st en1 at1 e => ?_
  subst e
  have at1' := at1
  rw [hd] at at1
  obtain ⟨t, l, ys, rfl, rt, gl, al⟩ := at_pair2 at1
  have g0 : noLst G l = none := by
    cases q : noLst G l with
    | none => rfl
    | some u =>
      have := st.gs _ _ q
      rw [gl] at this
      exact absurd (Option.some.inj this).symm ((noLst_sub q).2 _)
  have h0 : H l = none := by
    cases q : H l with
    | none => rfl
    | some u =>
      have := st.gn l g0 (by rw [q]; exact fun z => nomatch z)
      rw [gl] at this
      exact nomatch this
  let G2 : Hp := fun b => match G b with
    | some u => some u
    | none => G1 b
  have t1 : ∀ b u, G b = some u → G2 b = some u := fun b u e => by show (match G b with | some u => some u | none => _) = _; rw [e]
  have t2 : ∀ b, G b = none → G2 b = G1 b := fun b e => by show (match G b with | some u => some u | none => G1 b) = _; rw [e]
  have hs : ∀ b u, H b = some u → H1 b = some u := fun b u e => st.hs b u e fun z => z
  have s12 : ∀ b u, G1 b = some u → G2 b = some u := fun b u e => by
    cases w : G b with
    | none => rw [t2 b w]; exact e
    | some u' =>
      rw [t1 b u' w]
      have := en1.same b u e
      rw [hs b u' (en.same b u' w)] at this
      exact this
  have sm : Same G2 H1 := fun b u e => by
    cases w : G b with
    | some u' =>
      rw [t1 b u' w] at e
      rw [← e]
      exact hs b u' (en.same b u' w)
    | none =>
      rw [t2 b w] at e
      exact en1.same b u e
  have sp : Stp T.S G H G2 H1 := ⟨t1, fun b u e _ => hs b u e, st.al, fun b e n => by rw [t2 b e]; exact st.gn b (noLst_none e) n⟩
  have so : StO T.S G2 H1 := fun b hb => by
    obtain ⟨g, o, e, mo⟩ := en.stt b hb
    exact ⟨by rw [t2 b g]; exact st.gn b (noLst_none g) (by rw [e]; exact fun z => nomatch z), o, hs b o e, mo.same t1⟩
  have e2 : Ens T G2 H1 δ σ := en.step sp (fun _ z => z) sm so
  have a2 : At G2 (.ref t) d' := at1'.same s12
  have e3 : Ens T G2 H1 (δ.set i (.da d')) (σ.set i (some (.ref t))) := e2.setD a2
  have e4 := e3.noS kq.len kq.sub
  show tb (σ.set i (some (.ref t))) H1 _
  refine hb _ G2 H1 e4 rz0 _ fun b G3 H3 s3 e5 eb => ?_
  subst eb
  refine iteF ?_
  show tc (σ.set i (some (.ref t))) H3 _
  refine hc _ G3 H3 e5 rz0 _ fun b G4 H4 s4 e6 eb => ?_
  subst eb
  refine iteT ?_
  have h3 : ∀ b u, H1 b = some u → H4 b = some u := fun b u e => s4.hs b u (s3.hs b u e fun z => z) fun z => z
  have gl4 : G4 l = some (.lst ys) := s4.gs _ _ (s3.gs _ _ (s12 _ _ gl))
  have hl4 : H4 l = some (.lst ys) := e6.same _ _ gl4
  have rt4 : Rd G4 t (.tup [.str x, .ref l]) := rdS (fun b u e => s4.gs _ _ (s3.gs _ _ (s12 _ _ e))) rt
  have it : (σ.set i (some (.ref t)))[i]? = some (some (V.ref t)) := List.getElem?_set_self (by rw [← en.len]; exact hi)
  show tBM K "list" rAppend (tOp (rIx K) (tVar i) (tC (.int 1))) (tCons (tC .non) tNil) (σ.set i (some (.ref t))) H4 _
  refine ⟨_, it, .inr (.inl ⟨t, [.str x, .ref l], 1, .ref l, rfl, rfl, sqT_of e6.same rt4, rfl, ?_⟩)⟩
  refine ⟨.inl ⟨rfl, ys, .inl (.inl hl4)⟩, ?_⟩
  refine ⟨l, ys, .non, rfl, rfl, hl4, by rw [al.length]; exact Nat.lt_of_le_of_lt ld (by decide), ?_⟩
  have nl : ∀ b u, H b = some u → b ≠ l := fun b u e z => by rw [z, h0] at e; exact nomatch e
  have fin : ∀ b u, H b = some u → upd H4 l (.lst (ys ++ [.non])) b = some u := fun b u e => by
    rw [upd_ne (nl b u e)]
    exact h3 b u (hs b u e)
  have alf : ∀ b, H b ≠ none → upd H4 l (.lst (ys ++ [.non])) b ≠ none := fun b e => by
    cases w : H b with
    | none => exact absurd w e
    | some u => rw [fin b u w]; exact fun z => nomatch z
  have spF : Stp T.S G H G (upd H4 l (.lst (ys ++ [.non]))) := ⟨fun b u e => e, fun b u e _ => fin b u e, alf, fun b e _ => e⟩
  have smF : Same G (upd H4 l (.lst (ys ++ [.non]))) := fun b u e => fin b u (en.same b u e)
  have soF : StO T.S G (upd H4 l (.lst (ys ++ [.non]))) := fun b hb => by
    obtain ⟨g, o, e, mo⟩ := en.stt b hb
    exact ⟨g, o, fin b o e, mo⟩
  exact k1 _ _ G _ (spF.toB en.old) ((en.step spF (fun _ z => z) smF soF).forget) q
end
end Nv
/-! Nv, part Fi: as NvSc, where data with lists of ints may be handed on: the list that was made holds a tuple. -/
namespace Nv
open PySem PySem.Spec PyProof.Rows L2
variable [Tb] [Ls]
def intV : V → Bool
  | .int _ => true
  | _ => false
def isIntB : D → Bool
  | .int _ => true
  | _ => false
def keepX : HO → Bool
  | .lst xs => xs.all intV
  | _ => true
/-- without the lists that hold anything but ints -/
def noLsx (G : Hp) : Hp := fun a => match G a with
  | some u => if keepX u = true then some u else none
  | none => none
theorem noLsx_of {G : Hp} {a : Addr} {u : HO} (e : G a = some u) (n : keepX u = true) : noLsx G a = some u := by
  unfold noLsx
  rw [e]
  show (if keepX u = true then some u else none) = some u
  rw [if_pos n]
theorem noLsx_sub {G : Hp} {a : Addr} {u : HO} (e : noLsx G a = some u) : G a = some u ∧ keepX u = true := by
  unfold noLsx at e
  cases q : G a with
  | none => rw [q] at e; exact nomatch e
  | some w =>
    rw [q] at e
    have e : (if keepX w = true then some w else none) = some u := e
    by_cases k : keepX w = true
    · rw [if_pos k] at e
      obtain rfl := Option.some.inj e
      exact ⟨rfl, k⟩
    · rw [if_neg k] at e
      exact nomatch e
theorem noLsx_none {G : Hp} {a : Addr} (e : G a = none) : noLsx G a = none := by unfold noLsx; rw [e]
mutual
def noX : D → Bool
  | .lst ds => ds.all isIntB
  | .tup ds => noXs ds
  | .dic _ ds => noXs ds
  | .dct _ ds => noXs ds
  | .ins _ _ ds => noXs ds
  | .non => true
  | .bl _ => true
  | .int _ => true
  | .str _ => true
  | .ty _ => true
def noXs : List D → Bool
  | [] => true
  | d :: ds => noX d && noXs ds
end
theorem noXs_mem : ∀ {ds : List D}, noXs ds = true → ∀ d ∈ ds, noX d = true
  | d :: ds, h, e, m => by
    unfold noXs at h
    rw [Bool.and_eq_true] at h
    rcases List.mem_cons.mp m with rfl | m
    · exact h.1
    · exact noXs_mem h.2 e m
theorem noXs_of : ∀ {ds : List D}, (∀ d ∈ ds, noX d = true) → noXs ds = true
  | [], _ => rfl
  | d :: ds, h => by
    unfold noXs
    rw [h d (by simp), noXs_of fun e m => h e (by simp [m])]
    rfl
theorem TupR.noX {G : Hp} {a : Addr} {xs : List V} {ds : List D} (h : TupR G a xs ds) : TupR (noLsx G) a xs ds := by
  rcases h with ⟨o, h, nd⟩ | ⟨h | ⟨o, h⟩, nd⟩
  · exact .inl ⟨o, noLsx_of h rfl, nd⟩
  · exact .inr ⟨.inl (noLsx_of h rfl), nd⟩
  · exact .inr ⟨.inr ⟨o, noLsx_of h rfl⟩, nd⟩
theorem ints_keep {G : Hp} : ∀ {vs : List V} {ds : List D}, AtAll G vs ds → ds.all isIntB = true → vs.all intV = true
  | _, _, .nil, _ => rfl
  | _, _, .cons a b, n => by
    rw [List.all_cons, Bool.and_eq_true] at n
    rw [List.all_cons, ints_keep b n.2, Bool.and_true]
    cases a <;> first | rfl | cases n.1
theorem ints_same {G G' : Hp} : ∀ {vs : List V} {ds : List D}, AtAll G vs ds → ds.all isIntB = true → AtAll G' vs ds
  | _, _, .nil, _ => .nil
  | _, _, .cons a b, n => by
    rw [List.all_cons, Bool.and_eq_true] at n
    refine .cons ?_ (ints_same b n.2)
    cases a <;> first | exact .int _ | cases n.1
mutual
theorem At.noX {G : Hp} : ∀ {v : V} {d : D}, At G v d → noX d = true → At (noLsx G) v d
  | _, _, .non, _ => .non
  | _, _, .bl b, _ => .bl b
  | _, _, .int i, _ => .int i
  | _, _, .str x, _ => .str x
  | _, _, .ty x, _ => .ty x
  | _, _, .lst h t, n => .lst (noLsx_of h (ints_keep t n)) (ints_same t n)
  | _, _, .tup h t, n => .tup h.noX (AtAll.noX t n)
  | _, _, .dic h t, n => .dic (noLsx_of h rfl) (AtAll.noX t n)
  | _, _, .dct h r e t, n => .dct (noLsx_of h rfl) r (fun p hp => (e p hp).noX) (AtAll.noX t n)
  | _, _, .ins h t, n => .ins (noLsx_of h rfl) (AtAll.noX t n)
theorem AtAll.noX {G : Hp} : ∀ {vs : List V} {ds : List D}, AtAll G vs ds → noXs ds = true → AtAll (noLsx G) vs ds
  | _, _, .nil, _ => .nil
  | _, _, .cons a b, n => by
    unfold noXs at n
    rw [Bool.and_eq_true] at n
    exact .cons (At.noX a n.1) (AtAll.noX b n.2)
end
inductive KeepX : List Sl → List Sl → Prop
  | nil : KeepX [] []
  | no {s : Sl} {δ0 δ : List Sl} : KeepX δ0 δ → KeepX (.no :: δ0) (s :: δ)
  | da {d : D} {δ0 δ : List Sl} : noX d = true → KeepX δ0 δ → KeepX (.da d :: δ0) (.da d :: δ)
theorem KeepX.len : ∀ {δ0 δ : List Sl}, KeepX δ0 δ → δ0.length = δ.length
  | _, _, .nil => rfl
  | _, _, .no h => congrArg Nat.succ h.len
  | _, _, .da _ h => congrArg Nat.succ h.len
theorem KeepX.sub : ∀ {δ0 δ : List Sl}, KeepX δ0 δ → ∀ (j : Nat) (s : Sl), δ0[j]? = some s → s = .no ∨ (∃ d, s = .da d ∧ noX d = true) ∧ δ[j]? = some s
  | _, _, .nil, j, s, e => by simp at e
  | _, _, .no h, 0, s, e => by
    obtain rfl := Option.some.inj e
    exact .inl rfl
  | _, _, .no h, j + 1, s, e => (h.sub j s (by simpa using e)).imp id fun q => ⟨q.1, by simpa using q.2⟩
  | _, _, .da n h, 0, s, e => by
    obtain rfl := Option.some.inj e
    exact .inr ⟨⟨_, rfl, n⟩, rfl⟩
  | _, _, .da n h, j + 1, s, e => (h.sub j s (by simpa using e)).imp id fun q => ⟨q.1, by simpa using q.2⟩
theorem Ens.noX {T : Tr} {G H : Hp} {δ δ0 : List Sl} {σ : L2.St} (en : Ens T G H δ σ) (kp : KeepX δ0 δ) : Ens T.noS (noLsx G) H δ0 σ := by
  refine ⟨fun b u e => en.same b u (noLsx_sub e).1, by rw [kp.len]; exact en.len, fun i s e => ?_, fun a ha => ha.elim, en.old, fun b u q => ⟨(en.inv b u q).1, fun z => z, (en.inv b u q).2.2⟩, fun i j a ds es h1 h2 => ?_, fun i j a ds es h1 h2 => ?_⟩
  · rcases kp.sub i s e with rfl | ⟨⟨d, rfl, n⟩, q⟩
    · have lt : i < σ.length := by
        rw [← en.len, ← kp.len]
        exact (List.getElem?_eq_some_iff.mp e).1
      exact ⟨_, List.getElem?_eq_getElem lt, trivial⟩
    · obtain ⟨o, e1, r⟩ := en.get i _ q
      obtain ⟨v, e2, a⟩ := r
      exact ⟨o, e1, v, e2, a.noX n⟩
  · rcases kp.sub i _ h1 with z | ⟨⟨d, z, _⟩, _⟩ <;> exact nomatch z
  · rcases kp.sub i _ h1 with z | ⟨⟨d, z, _⟩, _⟩ <;> exact nomatch z
section
variable {E : XK} {T : Tr} {te : TE} {tb tc : TT} {tr tn1 tn2 : TS} {δ : List Sl} {Φ : List Sl → Prop} {Ψ : D → Prop} {K : PySem.W.Frag}
theorem wps_toldX {i : Nat} {δ0 δ1 : List Sl} {d : D} (kp : KeepX δ0 δ)
    (h : WpE ⟨E, fun _ _ => False, T.noS⟩ te δ0 fun y => y = d) (hd : ∃ x ds, d = .tup [.str x, .lst ds] ∧ ds.length ≤ 100000 ∧ ds.all isIntB = false) (kq : KeepS δ1 (δ.set i (.da d)))
    (hb : WpT ⟨E, fun _ _ => False, T.noS⟩ tb δ1 fun b => b = false) (hc : WpT ⟨E, fun _ _ => False, T.noS⟩ tc δ1 fun b => b = true) (hi : i < δ.length) (q : Φ (δ.set i .no)) :
    WpS ⟨E, fun _ _ => False, T⟩ (tSeq (tAsg te (gName i)) (tSeq (tIfS tb tr tNext) (tIfS tc (tDrop (tBM K "list" rAppend (tOp (rIx K) (tVar i) (tC (.int 1))) (tCons (tC .non) tNil))) tn2))) δ Φ Ψ := fun σ G H en rz Z k1 k2 => by
  obtain ⟨x, ds, hd, ld, nin⟩ := hd
  refine h σ (noLsx G) H (en.noX kp) rz0 _ fun v d' G1 H1 st en1 at1 e => ?_
  subst e
  have at1' := at1
  rw [hd] at at1
  obtain ⟨t, l, ys, rfl, rt, gl, al⟩ := at_pair2 at1
  have back : ∀ {vs : List V} {ds : List D}, AtAll G1 vs ds → vs.all intV = true → ds.all isIntB = true := fun {vs ds} h => by
    induction vs generalizing ds with
    | nil => cases h; exact fun _ => rfl
    | cons v vs ih =>
      cases h with
      | cons a b =>
        intro n
        rw [List.all_cons, Bool.and_eq_true] at n
        rw [List.all_cons, ih b n.2, Bool.and_true]
        cases v <;> first | (cases a; rfl) | cases n.1
  have g0 : noLsx G l = none := by
    cases q : noLsx G l with
    | none => rfl
    | some u =>
      have := st.gs _ _ q
      rw [gl] at this
      obtain rfl := Option.some.inj this
      have := back al (noLsx_sub q).2
      rw [nin] at this
      exact nomatch this
  have h0 : H l = none := by
    cases q : H l with
    | none => rfl
    | some u =>
      have := st.gn l g0 (by rw [q]; exact fun z => nomatch z)
      rw [gl] at this
      exact nomatch this
  let G2 : Hp := fun b => match G b with
    | some u => some u
    | none => G1 b
  have t1 : ∀ b u, G b = some u → G2 b = some u := fun b u e => by show (match G b with | some u => some u | none => _) = _; rw [e]
  have t2 : ∀ b, G b = none → G2 b = G1 b := fun b e => by show (match G b with | some u => some u | none => G1 b) = _; rw [e]
  have hs : ∀ b u, H b = some u → H1 b = some u := fun b u e => st.hs b u e fun z => z
  have s12 : ∀ b u, G1 b = some u → G2 b = some u := fun b u e => by
    cases w : G b with
    | none => rw [t2 b w]; exact e
    | some u' =>
      rw [t1 b u' w]
      have := en1.same b u e
      rw [hs b u' (en.same b u' w)] at this
      exact this
  have sm : Same G2 H1 := fun b u e => by
    cases w : G b with
    | some u' =>
      rw [t1 b u' w] at e
      rw [← e]
      exact hs b u' (en.same b u' w)
    | none =>
      rw [t2 b w] at e
      exact en1.same b u e
  have sp : Stp T.S G H G2 H1 := ⟨t1, fun b u e _ => hs b u e, st.al, fun b e n => by rw [t2 b e]; exact st.gn b (noLsx_none e) n⟩
  have so : StO T.S G2 H1 := fun b hb => by
    obtain ⟨g, o, e, mo⟩ := en.stt b hb
    exact ⟨by rw [t2 b g]; exact st.gn b (noLsx_none g) (by rw [e]; exact fun z => nomatch z), o, hs b o e, mo.same t1⟩
  have e2 : Ens T G2 H1 δ σ := en.step sp (fun _ z => z) sm so
  have a2 : At G2 (.ref t) d' := at1'.same s12
  have e3 : Ens T G2 H1 (δ.set i (.da d')) (σ.set i (some (.ref t))) := e2.setD a2
  have e4 := e3.noS kq.len kq.sub
  show tb (σ.set i (some (.ref t))) H1 _
  refine hb _ G2 H1 e4 rz0 _ fun b G3 H3 s3 e5 eb => ?_
  subst eb
  refine iteF ?_
  show tc (σ.set i (some (.ref t))) H3 _
  refine hc _ G3 H3 e5 rz0 _ fun b G4 H4 s4 e6 eb => ?_
  subst eb
  refine iteT ?_
  have h3 : ∀ b u, H1 b = some u → H4 b = some u := fun b u e => s4.hs b u (s3.hs b u e fun z => z) fun z => z
  have gl4 : G4 l = some (.lst ys) := s4.gs _ _ (s3.gs _ _ (s12 _ _ gl))
  have hl4 : H4 l = some (.lst ys) := e6.same _ _ gl4
  have rt4 : Rd G4 t (.tup [.str x, .ref l]) := rdS (fun b u e => s4.gs _ _ (s3.gs _ _ (s12 _ _ e))) rt
  have it : (σ.set i (some (.ref t)))[i]? = some (some (V.ref t)) := List.getElem?_set_self (by rw [← en.len]; exact hi)
  show tBM K "list" rAppend (tOp (rIx K) (tVar i) (tC (.int 1))) (tCons (tC .non) tNil) (σ.set i (some (.ref t))) H4 _
  refine ⟨_, it, .inr (.inl ⟨t, [.str x, .ref l], 1, .ref l, rfl, rfl, sqT_of e6.same rt4, rfl, ?_⟩)⟩
  refine ⟨.inl ⟨rfl, ys, .inl (.inl hl4)⟩, ?_⟩
  refine ⟨l, ys, .non, rfl, rfl, hl4, by rw [al.length]; exact Nat.lt_of_le_of_lt ld (by decide), ?_⟩
  have nl : ∀ b u, H b = some u → b ≠ l := fun b u e z => by rw [z, h0] at e; exact nomatch e
  have fin : ∀ b u, H b = some u → upd H4 l (.lst (ys ++ [.non])) b = some u := fun b u e => by
    rw [upd_ne (nl b u e)]
    exact h3 b u (hs b u e)
  have alf : ∀ b, H b ≠ none → upd H4 l (.lst (ys ++ [.non])) b ≠ none := fun b e => by
    cases w : H b with
    | none => exact absurd w e
    | some u => rw [fin b u w]; exact fun z => nomatch z
  have spF : Stp T.S G H G (upd H4 l (.lst (ys ++ [.non]))) := ⟨fun b u e => e, fun b u e _ => fin b u e, alf, fun b e _ => e⟩
  have smF : Same G (upd H4 l (.lst (ys ++ [.non]))) := fun b u e => fin b u (en.same b u e)
  have soF : StO T.S G (upd H4 l (.lst (ys ++ [.non]))) := fun b hb => by
    obtain ⟨g, o, e, mo⟩ := en.stt b hb
    exact ⟨g, o, fin b o e, mo⟩
  exact k1 _ _ G _ (spF.toB en.old) ((en.step spF (fun _ z => z) smF soF).forget) q
end
end Nv
/-! Nv, part X0: an own exception made with keywords. -/
namespace Nv
open PySem PySem.HandSPX PySem.Builtin PySem.Builtin.ObjectAttr
section
variable {M : Model} {A : Around} {E : Value → Shared → Prop} {h : Heap} {g : Array GenState} {d : Drawn} {t : Nat} {os : OsState}
variable {nm q : Str} {C N : Addr} {bs bm bmB : List Value} {hdct : Bool} {sn : List Str} {sub : List Value} {ab : Bool} {col : Option Bool} {dd : Option Addr} {k0 k1 k2 k3 k5 : Option Value} {B newId initId : String} {kw : List (Str × Value)}
theorem check_new_kw (F : ExcBaseFacts B newId initId bmB) (hT : ∀ X : String, bm.contains (.type X) = bmB.contains (.type X)) {rest : List Value} {Q : Unit → Shared → Prop}
    (hC : h.get? C = some (excClassObj nm q C N bs bm hdct sn sub ab col dd k0 k1 k2 k3 k5 newId)) (hq : Q () ⟨h, g, d, t, os⟩) : wpAny M A (checkBuiltinCall newId ⟨.ref C :: rest, kw⟩) Q E ⟨h, g, d, t, os⟩ := by
  have hcont : (Value.ref C :: bm).contains (.type B) = true := by rw [List.contains_cons, hT, F.hasB, Bool.or_true]
  have hstar := F.noStar
  simp only [checkBuiltinCall, F.newKind, F.newSplit, F.newRow]
  repeat (first | refine wpAny_loadPart_at hC ?_ | (refine wpAny_isSubtype_exc hC ?_; rw [hcont]) | refine wpAny_staticBase_exc hC ?_ | refine wpAny_madeBy_exc hC ?_ | simp only [bne_self_eq_false, Bool.false_eq_true, if_false] | wp_step)
  exact hq
theorem check_type_kw {rest : List Value} {Q : Unit → Shared → Prop} (hC : h.get? C = some (excClassObj nm q C N bs bm hdct sn sub ab col dd k0 k1 k2 k3 k5 newId))
    (hq : Q () ⟨h, g, d, t, os⟩) : wpAny M A (checkBuiltinCall "type.__call__" ⟨.ref C :: rest, kw⟩) Q E ⟨h, g, d, t, os⟩ := by
  have f3 := tc_sub
  have hT : (⟨h, g, d, t, os⟩ : Shared).TypeIs (.ref C) "type" := ⟨_, hC, rfl⟩
  simp only [checkBuiltinCall, tc_kind, tc_split]
  repeat (any_goals (first | assumption | with_reducible refine wpAny_loadPart_at hC ?_ | with_reducible refine wpAny_onRaise ?_ | with_reducible refine wpAny_map ?_ | wp_step))
end
section
variable {prog : Program} {w : World} {A : Around} {E : Value → Shared → Prop} {R : Result → Shared → Prop} {h : Heap} {g : Array GenState} {d : Drawn} {t : Nat} {os : OsState}
variable {nm q : Str} {C N : Addr} {bs bm bmB : List Value} {hdct : Bool} {sn : List Str} {sub : List Value} {ab : Bool} {col : Option Bool} {dd : Option Addr} {k0 k1 k2 k3 k5 : Option Value} {B newId initId : String} {kw : List (Str × Value)}
theorem new_kw (F : ExcBaseFacts B newId initId bmB) (hT : ∀ X : String, bm.contains (.type X) = bmB.contains (.type X)) {rest : List Value}
    (hC : h.get? C = some (excClassObj nm q C N bs bm hdct sn sub ab col dd k0 k1 k2 k3 k5 newId))
    (hq : R (.ok (.ret (.ref (h.objs.size + 1)))) ⟨(h.push { cls := .type "tuple", data := .seq rest.toArray }).push
      { cls := .ref C, data := .fields #[.ref h.objs.size, .none, .none, .none, .bool false, .none] }, g, d, t, os⟩) (hrest : rest.length ≤ sizeLine) :
    codeAny (model prog w) A (.builtin newId ⟨.ref C :: rest, kw⟩) R ⟨h, g, d, t, os⟩ := by
  have hends := F.ends
  have hcB : (Value.ref C :: bm).contains (.type B) = true := by rw [List.contains_cons, hT, F.hasB, Bool.or_true]
  have hcA : (Value.ref C :: bm).contains (.type "AttributeError") = false := by rw [List.contains_cons, hT, F.noAttr]; rfl
  have hcN : (Value.ref C :: bm).contains (.type "NameError") = false := by rw [List.contains_cons, hT, F.noName]; rfl
  refine codeAny_builtinAt F.entry ?_
  unfold Builtin.«BaseException.__new__»
  refine wpAt_bind ?_
  show wpAt _ _ _ (stack >>= _) _ _ _
  refine wpAt_bind (wpAt_stack fun p below => wpAt_of_wpAny ?_)
  wp_walk
  refine wpAt_of_wpAny ?_
  rw [F.owner]
  repeat (first | with_reducible refine wpAny_madeHere_exc F.canon hC ?_ | with_reducible refine wpAny_loadPart_at hC ?_ | (with_reducible refine wpAny_isSubtype_exc hC ?_; first | rw [hcB] | rw [hcA] | rw [hcN]) | wp_step)
  show R _ _
  rw [Heap.size_push]
  exact hq
theorem type_call_kw (F : ExcBaseFacts B newId initId bmB) (hT : ∀ X : String, bm.contains (.type X) = bmB.contains (.type X)) {rest : List Value} {fI : Addr} {Q : Fin → Shared → Prop}
    (hC : h.get? C = some (excClassObj nm q C N bs bm hdct sn sub ab col dd k0 k1 k2 k3 k5 newId))
    (hi : W.Looks (model prog w) h (typeLookup (.ref C) "__init__") (some (.ref fI))) (hb : ∀ self, W.Looks (model prog w) h (bindSpecial (.ref fI) self) (.ref fI, [self])) (hrest : rest.length ≤ sizeLine)
    (hq : codeAny (model prog w) A (.call (.ref fI) ⟨.ref (h.objs.size + 1) :: rest, kw⟩)
      (fun r s' => match r with | .ok (.ret v) => v = .none ∧ Q (.done (.ret (.ref (h.objs.size + 1)))) s' | .ok _ => False | .error e => E e s')
      ⟨(h.push (W.kdv_tup rest)).push (excO C h.objs.size), g, d, t, os⟩) :
    wpAny (model prog w) A (Builtin.«type.__call__» ⟨.ref C :: rest, kw⟩) Q E ⟨h, g, d, t, os⟩ := by
  repeat (first | with_reducible refine wpAny_loadPart_at hC ?_ | with_reducible refine wpAny_madeBy_exc hC ?_ | wp_step)
  refine codeAny_call_builtin_code (Code.quiet_builtin _ F.quiet) (check_new_kw F hT hC ?_)
  refine new_kw F hT hC ?_ hrest
  show wpAny _ _ _ _ _ _
  have k : ∀ b o, h.get? b = some o → ((h.push (W.kdv_tup rest)).push (excO C h.objs.size)).get? b = some o := fun b o e => Heap.get?_push_of_some _ (Heap.get?_push_of_some _ e)
  have hC₁ := k _ _ hC
  have hget : ((h.push (W.kdv_tup rest)).push (excO C h.objs.size)).get? (h.objs.size + 1) = some (excO C h.objs.size) := by heap_get
  have hcC : (Value.ref C :: bm).contains (.ref C) = true := by simp
  have i1 := hi.keeps k
  have b1 := (hb (.ref (h.objs.size + 1))).keeps k
  unfold isInstance
  repeat (first | with_reducible refine wpAny_loadPart_at hget ?_ | (with_reducible refine wpAny_isSubtype_exc hC₁ ?_; rw [hcC]) | wp_step)
  show wpAny _ _ (typeLookup (.ref C) _) _ _ _
  refine i1.at ?_
  refine wpAny_holding (wpAny_bind (b1.at ?_))
  refine wpAny_bind (wpAny_call (codeAny_mono hq fun r s' z => ?_))
  rcases r with e | (v | _ | _ | _) <;> first | exact z | exact z.elim | skip
  obtain ⟨rfl, z⟩ := z
  first
    | exact wpAny_pure (wpAny_pure z)
    | (wp_walk; exact z)
theorem call_kw (F : ExcBaseFacts B newId initId bmB) (hT : ∀ X : String, bm.contains (.type X) = bmB.contains (.type X)) {rest : List Value} {fI : Addr}
    (hC : h.get? C = some (excClassObj nm q C N bs bm hdct sn sub ab col dd k0 k1 k2 k3 k5 newId))
    (hi : W.Looks (model prog w) h (typeLookup (.ref C) "__init__") (some (.ref fI))) (hb : ∀ self, W.Looks (model prog w) h (bindSpecial (.ref fI) self) (.ref fI, [self])) (hrest : rest.length ≤ sizeLine)
    (hq : codeAny (model prog w) (A.under (.builtin "type.__call__" ⟨.ref C :: rest, kw⟩)) (.call (.ref fI) ⟨.ref (h.objs.size + 1) :: rest, kw⟩) (W.InitBack (h.objs.size + 1) R)
      ⟨(h.push (W.kdv_tup rest)).push (excO C h.objs.size), g, d, t, os⟩) :
    codeAny (model prog w) A (.call (.ref C) ⟨rest, kw⟩) R ⟨h, g, d, t, os⟩ := by
  have f1 := tc_lookup
  have f2 := tc_bind (.ref C)
  have hTy : (⟨h, g, d, t, os⟩ : Shared).TypeIs (.ref C) "type" := ⟨_, hC, rfl⟩
  refine codeAny_of_tree ?_
  show wpAny _ _ (callAny (.ref C) _) _ _ _
  repeat (any_goals (first | assumption | with_reducible refine wpAny_loadPart_at hC ?_ | wp_step))
  refine ⟨rfl, ?_⟩
  refine codeAny_call_builtin_at (Code.quiet_builtin _ (by decide +kernel)) entry_typeCall (check_type_kw hC (type_call_kw F hT hC hi hb hrest ?_))
  refine codeAny_mono hq fun r s' z => ?_
  rcases r with e | (v | _ | _ | _) <;> exact z
end
end Nv
/-! Nv, part X1: an own exception as a value: made and kept, its what, isinstance of it. -/
namespace Nv
open PySem PySem.Spec PyProof.Rows L2
section
variable {X : Cx} {CX : CXT} {k n : Nat} {f C : Addr} {fd : FuncData} {ps ks : List Str} {sp : Sp} {x : Str}
  {p pos : Pos} {e : Expr} {es : List Expr} {kws : List Keyword} {t tk : TA} {g : List Value → List Value → List Value}
  {gV : List V → List V → List V}
/-- C(e, .., k = v, ..), an own exception, kept as a value -/
def tMkE (C : Addr) (n m : Nat) (sp : Sp) (gV : List V → List V → List V) (t tk : TA) : TE := fun σ H Q =>
  t σ H fun vs H1 => tk σ H1 fun zs H2 => vs.length = n ∧ zs.length = m ∧ vs.length ≤ 1000 ∧ ∀ a, H2 a = none →
    sp (gV (.ref a :: vs) zs) (upd H2 a (exo a C none)) (fun v H3 => v = .non ∧ Q (.ref a) H3) (fun _ _ _ => False)
theorem run_mkE {pins : List (Addr × Obj)} {σ : L2.St} {H : Hp} {s : Shared} {Q : VK} {us ws : List Value} {vs zs : List V}
    (T : OexC X.K C) (iC : PySem.W.findIn X.K (.ref C) "__init__" = some (some (.ref f))) (tI : PySem.W.typeIn X.K (.ref f) = some (.type "function"))
    (F : FnOk X.prog X.w X.K X.mg X.base CX k f fd ps sp) (hr : Room (k + 1) X.A)
    (hb : KBn X.K fd ps (n + 1) ks g gV) (hx : Passes CX X (fun _ _ _ => False)) (I : Inv X pins σ H s) (r : Vals vs us) (rz : Vals zs ws)
    (l1 : vs.length = n) (l2 : zs.length = ks.length) (l3 : vs.length ≤ 1000)
    (h : ∀ a, H a = none → sp (gV (.ref a :: vs) zs) (upd H a (exo a C none)) (fun v H3 => v = .non ∧ Q (.ref a) H3) (fun _ _ _ => False)) :
    wpAny (model X.prog X.w) X.A (call (.ref C) us (ks.zip ws)) (EP X pins σ Q) X.xe s := by
  obtain ⟨nm, q, N, bs, bm, sn, sub, ab, col, dd, k0, k1, k2, k3, k5, hC, hbm⟩ := T.cls
  obtain ⟨hp, gg, dr, tt, os⟩ := s
  have hsz : hp.objs.size ≤ hp.objs.size + 1 := Nat.le_succ _
  have hn : H (hp.objs.size + 1) = none := I.hok.fresh hsz
  have hq := h (hp.objs.size + 1) hn
  have kk : ∀ b o, hp.get? b = some o → ((hp.push (PySem.W.kdv_tup us)).push (PySem.HandSPX.excO C hp.objs.size)).get? b = some o :=
    fun b o e => Heap.get?_push_of_some _ (Heap.get?_push_of_some _ e)
  have hget : ((hp.push (PySem.W.kdv_tup us)).push (PySem.HandSPX.excO C hp.objs.size)).get? (hp.objs.size + 1) = some (PySem.HandSPX.excO C hp.objs.size) := by heap_get
  have I2 : Inv X pins σ (upd H (hp.objs.size + 1) (exo (hp.objs.size + 1) C none)) ⟨(hp.push (PySem.W.kdv_tup us)).push (PySem.HandSPX.excO C hp.objs.size), gg, dr, tt, os⟩ :=
    I.laid (t' := tt) (a := hp.objs.size + 1) (o := exo (hp.objs.size + 1) C none) (h' := (hp.push (PySem.W.kdv_tup us)).push (PySem.HandSPX.excO C hp.objs.size)) kk hsz (exo_ok hget)
  have q1 : Vals (V.ref (hp.objs.size + 1) :: vs) (Value.ref (hp.objs.size + 1) :: us) := .cons rfl r
  have n1 : (Value.ref (hp.objs.size + 1) :: us).length = n + 1 := q1.length.symm.trans (congrArg Nat.succ l1)
  have n2 : ws.length = ks.length := rz.length.symm.trans l2
  have hus : us.length ≤ sizeLine := by
    rw [← Paired.length r, sizeLine_eq]
    omega
  refine wpAny_call (call_kw PySem.F.excBase_ValueError (fun Y => PySem.HandSPX.refsVE_contains Y bm hbm) (I.kIn _ _ hC) (PySem.W.looks_findIn I.kIn iC) (fun self => PySem.W.bind_fn I.kIn self tI) hus
    (codeAny_mono (F.run _ X.stack _ _ ⟨Value.ref (hp.objs.size + 1) :: us, ks.zip ws⟩ (g (Value.ref (hp.objs.size + 1) :: us) ws) _ _ (fun _ _ _ => False)
      (hr.make C us (ks.zip ws)) (I2.env0.make C us (ks.zip ws)) (hb.to _ (Value.ref (hp.objs.size + 1) :: us) ws I2.kIn n1 n2)
      (hb.rel q1 rz) hq) fun r s' z => ?_))
  match r, z with
  | .error e, z => exact hx pins _ _ _ e s' I2 z
  | .ok .next, z => exact False.elim z
  | .ok .brk, z => exact False.elim z
  | .ok .cont, z => exact False.elim z
  | .ok (.ret u), z =>
    obtain ⟨v, H', I3, rv, ev, q3⟩ := I2.after z
    subst ev
    exact ⟨rv, ⟨V.ref (hp.objs.size + 1), H', I3, rfl, q3⟩⟩
theorem pe_mkE (T : OexC X.K C) (iC : PySem.W.findIn X.K (.ref C) "__init__" = some (some (.ref f))) (tI : PySem.W.typeIn X.K (.ref f) = some (.type "function"))
    (F : FnOk X.prog X.w X.K X.mg X.base CX k f fd ps sp) (hr : Room (k + 1) X.A) (hg : Gl X x)
    (hm : X.mg x = some (.ref C)) (hb : KBn X.K fd ps (n + 1) ks g gV) (hx : Passes CX X (fun _ _ _ => False))
    (ha : PA X (e :: es) t) (hkw : PK X kws tk) (hall : (backToKw pos (keywordEach kws X.env)).all (·.1.isSome) = true := by rfl)
    (hks : (backToKw pos (keywordEach kws X.env)).filterMap (·.1) = ks := by rfl) (hdb : (x == ("__debug__" : Str)) = false := by decide)
    (he : starEach (e :: es) X.env = (false, eval e X.env) :: starEach es X.env := by rfl)
    (hpl : ((backTo pos (starEach (e :: es) X.env)).any (·.1) || (backToKw pos (keywordEach kws X.env)).any (·.1.isNone)) = false := by rfl) :
    PE X (.Call (.Name x p) (e :: es) kws pos) (tMkE C n ks.length sp gV t tk) := by
  refine ⟨fun pins s σ H Q I h => wpAny_Call_Name_kw (ld_glob I hg hm ?_ hdb)⟩
  refine PySem.W.callWith_KW (h₀ := X.base) I.ok.mod.kin T.kC hall
    (thn (ha.run pos pins s σ H _ I h) fun us s1 ⟨vs, H1, I1, r, q⟩ => ?_) hpl he
  refine thn (hkw.run pos pins s1 σ H1 _ I1 q) fun ws s2 ⟨zs, H2, I2, rz, l1, l2, l3, q2⟩ => ⟨I2.kIn, ?_⟩
  rw [hks]
  exact run_mkE T iC tI F hr hb hx I2 r rz l1 l2 l3 q2
theorem pe_mkE0 (T : OexC X.K C) (iC : PySem.W.findIn X.K (.ref C) "__init__" = some (some (.ref f))) (tI : PySem.W.typeIn X.K (.ref f) = some (.type "function"))
    (F : FnOk X.prog X.w X.K X.mg X.base CX k f fd ps sp) (hr : Room (k + 1) X.A) (hg : Gl X x)
    (hm : X.mg x = some (.ref C)) (hb : KBn X.K fd ps 1 ks g gV) (hx : Passes CX X (fun _ _ _ => False)) (hkw : PK X kws tk)
    (hall : (backToKw pos (keywordEach kws X.env)).all (·.1.isSome) = true := by rfl)
    (hks : (backToKw pos (keywordEach kws X.env)).filterMap (·.1) = ks := by rfl) (hdb : (x == ("__debug__" : Str)) = false := by decide)
    (hpl : ((backTo pos (starEach [] X.env)).any (·.1) || (backToKw pos (keywordEach kws X.env)).any (·.1.isNone)) = false := by rfl) :
    PE X (.Call (.Name x p) [] kws pos) (tMkE C 0 ks.length sp gV tNil tk) := by
  refine ⟨fun pins s σ H Q I h => wpAny_Call_Name_kw (ld_glob I hg hm ?_ hdb)⟩
  refine PySem.W.callWith_KW0 (h₀ := X.base) I.ok.mod.kin T.kC hall ?_ hpl
  refine thn (hkw.run pos pins s σ H _ I h) fun ws s2 ⟨zs, H2, I2, rz, l1, l2, l3, q2⟩ => ⟨I2.kIn, ?_⟩
  rw [hks]
  exact run_mkE (us := []) (vs := []) T iC tI F hr hb hx I2 .nil rz rfl l2 l3 q2
end

/-! ### such an error in the heap -/
def ErrAt (H : Hp) (a C : Addr) (v : V) : Prop := ∃ d, H a = some (exo a C (some d)) ∧ H d = some (exd d (whatF v))
theorem ErrAt.same {H H' : Hp} {a C : Addr} {v : V} (k : Same H H') (h : ErrAt H a C v) : ErrAt H' a C v := by
  obtain ⟨d, h1, h2⟩ := h
  exact ⟨d, k _ _ h1, k _ _ h2⟩
/-- the object at a, its dict's object, as InstAt wants them -/
theorem exo_inst {X : Cx} {pins : List (Addr × Obj)} {σ : L2.St} {H : Hp} {s : Shared} {a C d : Addr} {fs : List (Str × V)} (I : Inv X pins σ H s)
    (ha : H a = some (exo a C (some d))) (hd : H d = some (exd d fs)) :
    ∃ (ox od : Obj), PySem.W.InstAt s.heap a ox C (some od) ∧ ∀ name, ∃ u, PySem.W.lookIn name od = some u ∧ RelO (fs.lookup name) u := by
  obtain ⟨t1, ho⟩ := exo_at I.hok ha
  obtain ⟨mA, hns, rel⟩ := exd_at I.hok hd
  obtain ⟨od, hod, hl⟩ := lookIn_ns hns
  exact ⟨_, od, ⟨ho, rfl, rfl, hod⟩, fun name => ⟨_, hl name, rel name⟩⟩
/-- e.f, e such an error -/
def tEx (K : PySem.W.Frag) (f : Str) (te : TE) : TE := fun σ H Q => te σ H fun x H1 => ∃ (a C d : Addr) (fs : List (Str × V)) (v : V), x = .ref a ∧ XfC K C ∧
  PySem.W.findIn K (.ref C) f = some none ∧ H1 a = some (exo a C (some d)) ∧ H1 d = some (exd d fs) ∧ fs.lookup f = some v ∧ Q v H1
theorem pe_ex {X : Cx} {e : Expr} {te : TE} {pos : Pos} {n : Str} (he : PE X e te) (hb : attributeBase e n X.env (eval e X.env) = eval e X.env := by rfl) :
    PE X (.Attribute e n pos) (tEx X.K n te) := by
  refine ⟨fun pins s σ H Q I h => ?_⟩
  refine attr_of hb (thn (he.run pins s σ H _ I h) fun u s1 hh => ?_)
  obtain ⟨x, H1, I1, rx, a, C, d, fs, v, ex, T, hno, ha, hd, l, q⟩ := hh
  subst ex
  obtain rfl : u = Value.ref a := rx
  obtain ⟨ox, od, J, hl⟩ := exo_inst I1 ha hd
  obtain ⟨u1, hu, ru⟩ := hl n
  rw [l] at ru
  obtain ⟨u2, hu2, ru2⟩ := RelO.some_of (v := v) (o := u1) ru
  exact HandSPX.exc_get I1.kIn J T.ga T.gg T.exC (PySem.W.findObj_own T.hdC hno rfl (by rw [hu, hu2])) (handed_of ru2) ⟨v, H1, I1.tok _, ru2, q⟩
/-- isinstance(e, c), e such an error -/
def rIsX (K : PySem.W.Frag) : List V → Hp → VK → Prop := fun xs H Q => ∃ (a C d : Addr) (fs : List (Str × V)) (c : V) (cv : Value) (b : Bool), xs = [.ref a, c] ∧
  ClsV c cv ∧ L2.ExcC K C ∧ H a = some (exo a C (some d)) ∧ H d = some (exd d fs) ∧ PySem.W.kitOne K (.ref C) cv = some b ∧ Q (.bl b) H
theorem call_isX {X : Cx} : CallR X (.builtin "isinstance") (rIsX X.K) := by
  intro pins s σ H xs us Q I r h
  obtain ⟨a, C, d, fs, c, cv, b, rfl, k, T, ha, hd, e, q⟩ := h
  obtain ⟨u1, u2, rfl, r1, r2⟩ := vals2 r
  have e2 := k.eq r2
  subst e2
  obtain rfl : u1 = Value.ref a := r1
  obtain ⟨ox, od, J, _⟩ := exo_inst I ha hd
  have hcl : (PySem.W.clsIn X.K C).isSome = true := by
    obtain ⟨cd, hc, _⟩ := PySem.W.any_some T.hd
    rw [hc]; rfl
  exact PySem.W.kia_one (PySem.W.kitx_exc hcl T.hg T.hk T.hs T.ha T.hn T.ht T.hm) I.kIn J e (fun z => nomatch z) fun tk => ⟨.bl b, H, I.kept (t' := tk) fun _ _ z => z, rfl, q⟩
end Nv
/-! Nv, part X2: repr and == of a datum of any kind. -/
namespace Nv
open PySem PySem.Spec PyProof.Rows L2
/-- what repr says of x -/
inductive Rp (K : PySem.W.Frag) (H : Hp) : V → Str → Prop
  | non : Rp K H .non "None"
  | bl (b : Bool) : Rp K H (.bl b) (if b then "True" else "False")
  | int (i : Int) : i.natAbs.log2 < 1920 → Rp K H (.int i) (toString i)
  | str (x : Str) : (reprText x).length ≤ sizeLine → Rp K H (.str x) (reprText x)
  | ref {a : Addr} {d : PyData} : Dq H (.ref a) d → d.showable = true → d.depth ≤ 30 → d.shown.length ≤ sizeLine → Rp K H (.ref a) d.shown
theorem Rp.same {K : PySem.W.Frag} {H H' : Hp} {x : V} {t : Str} (k : Same H H') (h : Rp K H x t) : Rp K H' x t := by
  cases h with
  | non => exact .non
  | bl b => exact .bl b
  | int i h => exact .int i h
  | str y h => exact .str y h
  | ref h1 h2 h3 h4 => exact .ref (h1.same k) h2 h3 h4
def rReprA (K : PySem.W.Frag) : List V → Hp → VK → Prop := fun vs H Q => ∃ (x : V) (t : Str), vs = [x] ∧ Sys K H ∧ Rp K H x t ∧ Q (.str t) H
theorem call_reprA {X : Cx} {k : Nat} (hr : Room k X.A) (gd : X.A.guards = some []) : CallR X (.builtin "repr") (rReprA X.K) := by
  intro pins s σ H vs us Q I r h
  obtain ⟨x, t, rfl, sys, rp, q⟩ := h
  cases rp with
  | non =>
    obtain ⟨u, rfl, ru⟩ := vals1 r
    obtain rfl : u = Value.none := ru
    exact PySem.P.repr_of_none ⟨.str ("None" : Str), H, I.tok _, ⟨_, rfl⟩, q⟩
  | bl b =>
    obtain ⟨u, rfl, ru⟩ := vals1 r
    obtain rfl : u = Value.bool b := ru
    exact PySem.P.repr_of_bool ⟨.str (if b then "True" else "False"), H, I.tok _, ⟨_, rfl⟩, q⟩
  | int i hi =>
    obtain ⟨u, rfl, ru⟩ := vals1 r
    obtain ⟨tk, rfl⟩ := ru
    exact PySem.P.repr_of_int hi ⟨.str (Str.ofString (toString i)), H, I.tok _, ⟨_, rfl⟩, q⟩
  | str y hy =>
    obtain ⟨u, rfl, ru⟩ := vals1 r
    obtain ⟨tk, rfl⟩ := ru
    exact PySem.P.repr_of_str (hsz := hy) ⟨.str (reprText y), H, I.tok _, ⟨_, rfl⟩, q⟩
  | ref dq sh dp sz => exact call_reprD hr gd pins s σ H _ us Q I r ⟨_, _, rfl, sys, dq, sh, dp, sz, q⟩
/-- x == x -/
def EqS (K : PySem.W.Frag) (H : Hp) (x : V) : Prop := scal x x = true ∨ (∃ d, Dp K H x d ∧ SeqAt.shaped d = true ∧ PyData.eqv d d = true) ∨
  ∃ a ks, x = .ref a ∧ H a = some (.dK ks) ∧ ∀ p ∈ ks, ∃ u, valV ks p.1 = some u ∧ p.2 = u ∧ flatB p.2 = true
def rEqS (K : PySem.W.Frag) : R2 := fun x y H Q => x = y ∧ EqS K H x ∧ Q (.bl true) H
theorem op_eqS {X : Cx} (hu : X.A.units + 64 < cLine) : OpR X (compareOp .Eq) (rEqS X.K) := by
  intro pins s σ H x y v u Q I rx ry h
  obtain ⟨rfl, e, q⟩ := h
  rcases e with e | ⟨d, dp, sh, e⟩ | ⟨a, ks, rfl, ha, hk⟩
  · exact op_eq pins s σ H x x v u Q I rx ry ⟨e, by simpa using q⟩
  · exact op_eqD hu pins s σ H x x v u Q I rx ry ⟨d, d, dp, dp, sh, sh, by rw [e]; exact q⟩
  · refine op_eqV hu pins s σ H _ _ v u Q I rx ry ⟨1, by decide, .inr ⟨a, a, ks, ks, rfl, rfl, ha, ha, rfl, fun p hp => ?_⟩, q⟩
    obtain ⟨w, h1, h2, h3⟩ := hk p hp
    exact ⟨w, h1, .inl ⟨h2, h3⟩⟩
end Nv
/-! Nv, part Rv: repr of any plain datum, where nothing is known of sys.modules. -/
namespace Nv
open PySem PySem.Spec PyProof.Rows L2
variable [Tb] [Ls]
section
variable {X : Cx} {pins : List (Addr × Obj)} {σ : L2.St} {H G : Hp} {s : Shared}
mutual
theorem reads_dataN (I : Inv X pins σ H s) (sm : Same G H) : ∀ (d : D) (n : Nat), eqB d n = true → ∀ {v : V} {u : Value}, At G v d → RelV v u → ∃ as, Reads s.heap u (toPq d) as
  | .non, _, _, _, _, a, r => by
    cases a
    cases r
    unfold toPq
    exact ⟨_, .none⟩
  | .bl b, _, _, _, _, a, r => by
    cases a
    cases r
    unfold toPq
    exact ⟨_, .bool b⟩
  | .int i, _, _, _, _, a, r => by
    cases a
    obtain ⟨t, rfl⟩ := r
    unfold toPq
    exact ⟨_, .int i t⟩
  | .str x, _, _, _, _, a, r => by
    cases a
    obtain ⟨t, rfl⟩ := r
    unfold toPq
    exact ⟨_, .str x t⟩
  | .lst ds, n, q, _, _, a, r => by
    unfold eqB at q
    rw [Bool.and_eq_true] at q
    obtain ⟨p, xs, rfl, hp, al⟩ := at_lst a
    cases r
    obtain ⟨_, its, k, rv, ho⟩ : _ ∧ _ := I.hok p _ (sm _ _ hp)
    obtain ⟨as, hr⟩ := readss_dataN I sm ds (n - 1) q.2 al rv
    unfold toPq
    exact ⟨_, Reads.list ho rfl rfl hr⟩
  | .tup ds, n, q, _, _, a, r => by
    unfold eqB at q
    rw [Bool.and_eq_true] at q
    obtain ⟨p, xs, rfl, hp, al⟩ := at_tup a
    cases r
    obtain ⟨us, ru, ⟨o1, g1, c1, n1, d1⟩, _⟩ := I.tuple (sqT_of sm hp)
    obtain ⟨as, hr⟩ := readss_dataN I sm ds (n - 1) q.2 al ru
    unfold toPq
    exact ⟨_, Reads.tuple g1 c1 d1 hr⟩
  | .dic ks ds, n, q, _, _, a, r => by
    unfold eqB at q
    rw [Bool.and_eq_true, Bool.and_eq_true] at q
    obtain ⟨p, rfl, hp⟩ := at_dic0 a (List.isEmpty_iff.mp q.2.1)
    cases r
    obtain ⟨_, _, vs, rel, o, es, ep, ho, ex, hd, _, pr, _⟩ : _ ∧ _ := I.hok p _ (sm _ _ hp)
    have e1 : vs = [] := List.eq_nil_of_length_eq_zero rel.length.symm
    subst e1
    have k1 : ReadsAll s.heap (es.toList.map (·.key)) [] [] := reads_keys pr
    have k2 : ReadsAll s.heap (es.toList.map (·.val)) [] [] := by
      rw [pairs_vals pr]
      exact .nil
    unfold toPq
    exact ⟨_, Reads.dict (kvs := []) (as := []) (bs := []) ho ex.1 hd k1 k2⟩
  | .ins _ _ _, _, q, _, _, _, _ => by unfold eqB at q; cases q
  | .ty _, _, q, _, _, _, _ => by unfold eqB at q; cases q
theorem readss_dataN (I : Inv X pins σ H s) (sm : Same G H) : ∀ (ds : List D) (n : Nat), eqAllB ds n = true → ∀ {vs : List V} {us : List Value}, AtAll G vs ds → Vals vs us → ∃ as, ReadsAll s.heap us (toPqs ds) as
  | [], _, _, _, _, a, r => by
    cases a
    cases r
    unfold toPqs
    exact ⟨_, .nil⟩
  | d :: ds, n, q, _, _, .cons a al, .cons r1 r2 => by
    unfold eqAllB at q
    rw [Bool.and_eq_true] at q
    obtain ⟨as, q1⟩ := reads_dataN I sm d n q.1 a r1
    obtain ⟨bs, q2⟩ := readss_dataN I sm ds n q.2 al r2
    unfold toPqs
    exact ⟨_, .cons q1 q2⟩
end
end
/-- what repr says of such a datum -/
structure ShV (d : D) : Prop where
  eq : eqB d 21 = true
  sh : (toPq d).showable = true
  dp : (toPq d).depth ≤ 30
  ln : (toPq d).shown.length ≤ sizeLine
  nd : (toPq d).hasDict = false ∨ d = .dic [] []
def rReprV (K : PySem.W.Frag) : List V → Hp → VK → Prop := fun vs H Q => ∃ (x : V) (d : D) (G : Hp), vs = [x] ∧ Same G H ∧ At G x d ∧ ShV d ∧ Q (.str (toPq d).shown) H
theorem call_reprV {X : Cx} {K : PySem.W.Frag} (h : X.K = K) (un : X.A.units + 64 < cLine) (gd : X.A.guards = some []) : CallR X (.builtin "repr") (rReprV K) := by
  subst h
  intro pins s σ H vs us Q I r q
  obtain ⟨x, d, G, rfl, sm, a, sq, q⟩ := q
  obtain ⟨u, rfl, ru⟩ := vals1 r
  obtain ⟨as, rd⟩ := reads_dataN I sm d 21 sq.eq a ru
  have dp := sq.dp
  have go : ∀ {p : Addr}, u = .ref p → ((toPq d).hasDict = true → sysModules ∉ as) → wpAny (model X.prog X.w) X.A (call (.builtin "repr") [u]) (EP X pins σ Q) X.xe s := fun {p} e na => by
    subst e
    exact repr_of_reads' rd sq.sh na gd (by omega) (fun _ _ z => z) (fun h' u tk kp => ⟨.str _, H, I.kept kp, ⟨u, rfl⟩, q⟩) sq.ln
  have sh := sq.sh
  have ln := sq.ln
  match d, a, ru with
  | .non, .non, ru =>
    obtain rfl : u = Value.none := ru
    exact PySem.P.repr_of_none ⟨.str ("None" : Str), H, I.tok _, ⟨_, rfl⟩, by simpa [toPq, PyData.shown] using q⟩
  | .bl b, .bl _, ru =>
    obtain rfl : u = Value.bool b := ru
    exact PySem.P.repr_of_bool ⟨.str (if b then "True" else "False"), H, I.tok _, ⟨_, rfl⟩, by simpa [toPq, PyData.shown] using q⟩
  | .int i, .int _, ru =>
    obtain ⟨tk, rfl⟩ := ru
    exact PySem.P.repr_of_int (by simpa [toPq, PyData.showable] using sh) ⟨.str (Str.ofString (toString i)), H, I.tok _, ⟨_, rfl⟩, by simpa [toPq, PyData.shown] using q⟩
  | .str y, .str _, ru =>
    obtain ⟨tk, rfl⟩ := ru
    exact PySem.P.repr_of_str (hsz := by simpa [toPq, PyData.shown] using ln) ⟨.str (reprText y), H, I.tok _, ⟨_, rfl⟩, by simpa [toPq, PyData.shown] using q⟩
  | .lst ds, a, ru =>
    obtain ⟨p, xs, rfl, _⟩ := at_lst a
    refine go (p := p) (by cases ru; rfl) (PyData.noDict_hsm (sq.nd.resolve_right fun z => nomatch z))
  | .tup ds, a, ru =>
    obtain ⟨p, xs, rfl, _⟩ := at_tup a
    refine go (p := p) (by cases ru; rfl) (PyData.noDict_hsm (sq.nd.resolve_right fun z => nomatch z))
  | .dic ks ds, a, ru =>
    have e9 := sq.eq
    unfold eqB at e9
    rw [Bool.and_eq_true, Bool.and_eq_true] at e9
    obtain ⟨p, rfl, hp⟩ := at_dic0 a (List.isEmpty_iff.mp e9.2.1)
    cases ru
    obtain ⟨_, hm, vs, rel, o, es, ep, ho, ex, hd, _, pr, _⟩ : _ ∧ _ := I.hok p _ (sm _ _ hp)
    have e1 : vs = [] := List.eq_nil_of_length_eq_zero rel.length.symm
    subst e1
    have k1 : ReadsAll s.heap (es.toList.map (·.key)) [] [] := reads_keys pr
    have k2 : ReadsAll s.heap (es.toList.map (·.val)) [] [] := by
      rw [pairs_vals pr]
      exact .nil
    have rd2 : Reads s.heap (.ref p) (toPq (.dic ks ds)) (p :: ([] ++ [])) := by
      unfold toPq
      exact Reads.dict (kvs := []) (as := []) (bs := []) ho ex.1 hd k1 k2
    have ne : p ≠ sysModules := fun e => by
      rw [e] at hm
      exact absurd hm (by simp)
    refine repr_of_reads' rd2 sq.sh (fun _ z => ?_) gd (by omega) (fun _ _ z => z) (fun h' u tk kp => ⟨.str _, H, I.kept kp, ⟨u, rfl⟩, q⟩) sq.ln
    rcases List.mem_cons.mp z with z | z
    · exact ne z.symm
    · cases z
  | .ins _ _ _, _, _ => have := sq.eq; unfold eqB at this; cases this
  | .ty _, _, _ => have := sq.eq; unfold eqB at this; cases this
theorem wpe_reprV {R : Rg} {δ : List Sl} {ta : TE} {φ : D → Prop} {K : PySem.W.Frag} (h : WpE R ta δ fun x => ShV x ∧ φ (.str (toPq x).shown)) : WpE R (tCB (rReprV K) (tCons ta tNil)) δ φ := fun σ G H en rz Q k =>
  h σ G H en rz _ fun v x G1 H1 s1 e1 a1 ⟨sv, q⟩ => ⟨v, x, G1, rfl, e1.same, a1, sv, k _ _ G1 H1 s1 e1 (.str _) q⟩
/-- repr(e.what) == repr(x), x the same datum -/
theorem wpx_reprEq {T : Tr} {i j : Nat} {δ : List Sl} {C : Addr} {d : D} {φ : D → Prop} {K : PySem.W.Frag} (ej : δ[j]? = some (.da d)) (sv : ShV d) (q : φ (.bl true)) :
    WpX T i (fun z cls dd => tOp (fun x y H Q => rEq x y H Q ∨ rEqD K x y H Q) (tCB (rReprV K) (tCons (tXf z cls dd C "what" (tVar i)) tNil)) (tCB (rReprV K) (tCons (tVar j) tNil))) δ C d φ := fun z dd w τ G H e en hd a Q k => by
  refine ⟨_, e, rfl, rfl, dd, _, w, rfl, hd, what_look, w, d, G, rfl, en.same, a, sv, ?_⟩
  obtain ⟨o, e2, v, rfl, av⟩ := en.get j _ ej
  refine ⟨_, e2, v, d, G, rfl, en.same, av, sv, ?_⟩
  exact opd_l (opd_eqS (φ := φ) (by rw [decide_eq_true rfl]; exact q)) G H _ _ en.same (.str _) (.str _) Q fun z d G' H' st sm a q => k z d G' H' st.zero (en.step0 st sm) a q
end Nv
/-! Nv, part Et: the law's own end, where no repr is under way and tables of code objects stand. -/
namespace Nv
open PySem PySem.Spec PyProof.Rows L2
theorem law_endT {P : Program} {w : World} {K : PySem.W.Frag} {mg mb : Str → Option Value} {k : Nat} {fa a : Addr} {cs : List (Addr × Addr)}
    {fd : FuncData} {x : Str} {sp : Sp} {s₁ : Shared} {vs : List Value} {ns : List Int}
    (KX : K.In s₁.heap) (hns : s₁.heap.Ns mainGlobals mg) (hb : s₁.heap.Ns builtinsNs mb)
    (hbb : ∀ x : Str, x ≠ "__name__" → mb x = bootBuiltins x) (hlim : s₁.heap.NoLimit) (hg : s₁.gens = #[])
    (hT : ∀ p ∈ cs, s₁.heap.get? p.2 = some { cls := .none, data := .fields #[] }) (nT : ∀ p ∈ cs, K.lookup p.2 = none) (C : ∀ p ∈ cs, PySem.W.CodeHd s₁.heap p.1 p.2)
    (hbm : ∃ (bm : Addr) (ob : Obj), mg "__builtins__" = some (.ref bm) ∧ bm ≠ builtinsNs ∧ s₁.heap.get? bm = some ob ∧ ob.cls = .type "module" ∧ ob.dict = some builtinsNs ∧ ob.data = .plain)
    (ha : s₁.heap.get? a = some { cls := .type "list", data := .seq vs.toArray }) (hi : IntsAre vs ns)
    (hl : ns.length ≤ sizeLine) (hr : Room k callerA)
    (F : ∀ base : Heap, K.In base → base.Ns mainGlobals mg → (∀ p ∈ cs, LamX.TabB base mg p.1 p.2) → FnG P w K mg base CX0 k fa fd [x] sp)
    (hbind : ∀ (s : Shared) (u : Value), BindsTo s fd ⟨[u], []⟩ [(x, u)])
    (hsp : ∀ H : Hp, (∀ p ∈ cs, p.2 ≠ a ∧ H p.2 = some (.tbl #[])) → SqL K H a (ns.map V.int) → sp [.ref a] H (fun v _ => v = .bl true) fun _ _ _ => False) :
    codeAny (model P w) callerA (.call (.ref fa) ⟨[.ref a], []⟩)
      (fun r s' => r = .ok (.ret (.bool true)) ∧ OldK s₁.heap s'.heap ∧ s'.os = s₁.os ∧ AllBare s'.gens) s₁ := by
  have rel := vals_ints hi
  let ts : List Addr := cs.map (·.2)
  let sz : HO := .frz { cls := .type "list", data := .seq vs.toArray } (.lst (ns.map V.int))
  let H : Hp := fun b => if b ∈ ts then some (.tbl #[]) else if b = a ∧ K.lookup a = none then some sz else none
  have tabs : ∀ b ∈ ts, ∃ p ∈ cs, p.2 = b := fun b hb => List.mem_map.mp hb
  have onT : ∀ b ∈ ts, s₁.heap.get? b = some { cls := .none, data := .fields #[] } := fun b hb => by
    obtain ⟨p, hp, rfl⟩ := tabs b hb
    exact hT p hp
  have offA : ∀ b ∈ ts, b ≠ a := fun b hb e => by
    have z := onT b hb
    rw [e, ha] at z
    exact nomatch (congrArg Obj.data (Option.some.inj z) : Data.seq vs.toArray _ = Data.fields #[])
  have cases3 : ∀ b, (b ∈ ts ∧ H b = some (.tbl #[])) ∨ (b = a ∧ K.lookup a = none ∧ H b = some sz) ∨ (b ∉ ts ∧ H b = none) := fun b => by
    by_cases h1 : b ∈ ts
    · exact .inl ⟨h1, if_pos h1⟩
    · by_cases h2 : b = a ∧ K.lookup a = none
      · exact .inr (.inl ⟨h2.1, h2.2, (if_neg h1).trans (if_pos h2)⟩)
      · exact .inr (.inr ⟨h1, (if_neg h1).trans (if_neg h2)⟩)
  -- an object of another kind is not tracked
  have plain : ∀ {b : Addr} {o : Obj}, s₁.heap.get? b = some o → o.data ≠ .fields #[] → (∀ us n, o.data ≠ .seq us n) → H b = none := fun {b o} e n1 n2 => by
    rcases cases3 b with ⟨h, _⟩ | ⟨h, _, _⟩ | ⟨_, h⟩
    · rw [onT b h] at e
      obtain rfl := Option.some.inj e
      exact absurd rfl n1
    · rw [h, ha] at e
      obtain rfl := Option.some.inj e
      exact absurd rfl (n2 _ _)
    · exact h
  have nsDown : ∀ {b : Addr} {m : Str → Option Value}, s₁.heap.Ns b m → (hidT s₁.heap H).Ns b m := fun {b m} z => by
    obtain ⟨o, es, ep, z1, z2, z3⟩ := z
    exact ⟨o, es, ep, hidT_get z1 (plain z1 (by rw [z2]; exact fun q => nomatch q) (fun us n q => by rw [z2] at q; exact nomatch q)), z2, z3⟩
  have kinB : K.In (hidT s₁.heap H) := fun b o z => hidT_get (KX b o z) (by
    rcases cases3 b with ⟨h, _⟩ | ⟨h, l, _⟩ | ⟨_, h⟩
    · obtain ⟨p, hp, rfl⟩ := tabs b h
      rw [nT p hp] at z
      exact nomatch z
    · rw [h, l] at z
      exact nomatch z
    · exact h)
  have md : Mod K mg (hidT s₁.heap H) := ⟨kinB, nsDown hns, ⟨mb, nsDown hb, hbb⟩, by obtain ⟨mc, z1, z2⟩ := hlim; exact ⟨mc, nsDown z1, z2⟩⟩
  have ok : HOk P w H s₁.heap := fun b u z => by
    rcases cases3 b with ⟨h, q⟩ | ⟨h, _, q⟩ | ⟨_, q⟩
    · rw [z] at q
      obtain rfl := Option.some.inj q
      exact onT b h
    · rw [z] at q
      obtain rfl := Option.some.inj q
      rw [h]
      exact ⟨ha, by rw [List.length_map]; exact hl, vs, _, rel, ha⟩
    · rw [z] at q
      exact nomatch q
  have gOf : ∀ b, b ∈ ts → b ≠ mainGlobals := fun b hb e => by
    obtain ⟨o, es, ep, z1, z2, _⟩ := hns
    rw [← e, onT b hb] at z1
    obtain rfl := Option.some.inj z1
    exact nomatch z2
  have TB : ∀ p ∈ cs, LamX.TabB (hidT s₁.heap H) mg p.1 p.2 := fun p hp => by
    have mp : p.2 ∈ ts := List.mem_map.mpr ⟨p, hp, rfl⟩
    refine ⟨?_, ?_, fun e => gOf _ mp e.symm⟩
    · obtain ⟨o, us, file, tf, flags, tg, inF, text, tt, q1, q2, q3, q4, rest⟩ := C p hp
      refine ⟨o, us, file, tf, flags, tg, inF, text, tt, hidT_get q1 (plain q1 (fun e => ?_) (fun us n e => by rw [q3] at e; exact nomatch e)), q2, q3, q4, rest⟩
      rw [q3] at e
      rw [Data.fields.inj e] at q4
      exact nomatch q4
    · obtain ⟨bm, ob, q1, q2, q3, q4, q5, q6⟩ := hbm
      have np : bm ≠ p.2 := fun e => by
        rw [e, onT _ mp] at q3
        obtain rfl := Option.some.inj q3
        exact nomatch q6
      have ng : bm ≠ mainGlobals := fun e => by
        obtain ⟨o, es, ep, z1, z2, _⟩ := hns
        rw [← e, q3] at z1
        obtain rfl := Option.some.inj z1
        rw [q6] at z2
        exact nomatch z2
      exact ⟨bm, ob, q1, q2, ng, np, hidT_get q3 (plain q3 (fun e => by rw [q6] at e; exact nomatch e) (fun us n e => by rw [q6] at e; exact nomatch e)), q4, q5, q6⟩
  have en : Env0 P w K mg (hidT s₁.heap H) callerA [] s₁ H :=
    ⟨rfl, md, fun b o z => of_hidT z, Nat.le_of_eq (hidT_size _ _), trivial, fun b z => absurd (show b ∈ ([] : List Addr) from z) (by simp), ok, .of_eq hg⟩
  have sq : SqL K H a (ns.map V.int) := by
    cases q : K.lookup a with
    | some o =>
      have z := KX a o q
      rw [ha] at z
      obtain rfl := Option.some.inj z
      exact .inr ⟨_, vs.toArray, _, q, rfl, rfl, rfl, by rw [List.size_toArray, hi.length]; exact hl, by simpa using rel⟩
    | none => exact .inl (.inr ⟨_, (if_neg fun z => offA a z rfl).trans (if_pos ⟨rfl, q⟩)⟩)
  have hH : ∀ p ∈ cs, p.2 ≠ a ∧ H p.2 = some (.tbl #[]) := fun p hp => by
    have mp : p.2 ∈ ts := List.mem_map.mpr ⟨p, hp, rfl⟩
    exact ⟨offA _ mp, if_pos mp⟩
  refine codeAny_mono ((F _ kinB (nsDown hns) TB).run callerA [] s₁ H ⟨[.ref a], []⟩ [.ref a] [.ref a] _ _ hr rfl en (hbind s₁ (.ref a)) (.cons rfl .nil) (hsp H hH sq)) fun r s' z => ?_
  match r, z with
  | .error _, z => exact False.elim z
  | .ok .next, z => exact False.elim z
  | .ok .brk, z => exact False.elim z
  | .ok .cont, z => exact False.elim z
  | .ok (.ret u), z =>
    obtain ⟨v, H', os, bare, un, ok', rv, q⟩ := z
    have q' : v = .bl true := q
    subst q'
    have hu : u = Value.bool true := rv
    subst hu
    have stays : ∀ b o, b ∉ ts → s₁.heap.get? b = some o → s'.heap.get? b = some o := fun b o nb z => by
      rcases cases3 b with ⟨h, _⟩ | ⟨h, _, q⟩ | ⟨_, q⟩
      · exact absurd h nb
      · have y2 : s'.heap.get? b = some { cls := .type "list", data := .seq vs.toArray } := (ok' b _ (un.frzs b _ _ q)).1
        rw [h, ha] at z
        rw [y2, ← z]
      · exact un.keep b o z q (fun y => absurd (show b ∈ ([] : List Addr) from y) (by simp)) (by simp)
    have grows : ∀ b ∈ ts, ∃ more : Array Value, s'.heap.get? b = some { cls := .none, data := .fields more } := fun b hb => by
      obtain ⟨more, y⟩ := un.tbls b #[] (if_pos hb)
      exact ⟨_, ok' b _ y⟩
    refine ⟨rfl, ⟨fun b o z => ?_, fun b o z => ?_⟩, os, bare⟩
    · by_cases hb : b ∈ ts
      · obtain ⟨more, y⟩ := grows b hb
        obtain ⟨p, hp, rfl⟩ := tabs b hb
        rw [onT _ hb] at z
        obtain rfl := Option.some.inj z
        exact .inr (.inl ⟨((C p hp).tab (hT p hp)).isCodeTable, rfl, #[], more, rfl, by rw [Array.empty_append]; exact y⟩)
      · exact .inl (stays b o hb z)
    · by_cases hb : b ∈ ts
      · obtain ⟨more, y⟩ := grows b hb
        exact ⟨_, y⟩
      · exact ⟨o, stays b o hb z⟩
theorem law_walkT {l : PySem.W.OpenLaw} {n k : Nat} {q : Program} {loose : List Str} {XP : (Str → Option Value) → Heap → Prop}
    {YP : World → Heap → Prop} {d : DefRec} {K : Params → PySem.W.Frag} {x : Str}
    (hn : l.most = some n) (hn2 : n ≤ sizeLine) (hdf : d.params.defaults = []) (hr : Room k callerA)
    (hY : ∀ (w : World) (h : Heap), YP w h → (K w.params).In h)
    (F : ∀ (w : World) (mg : Str → Option Value) (fa : Addr) (h : Heap), YP w h →
      (K w.params).In h → h.Ns mainGlobals mg → mg d.name = some (.ref fa) →
      ∃ (fd : FuncData) (cs : List (Addr × Addr)) (sp : Sp), (∀ p ∈ cs, h.get? p.2 = some { cls := .none, data := .fields #[] }) ∧ (∀ p ∈ cs, (K w.params).lookup p.2 = none) ∧ (∀ p ∈ cs, PySem.W.CodeHd h p.1 p.2) ∧
        (∀ (s : Shared) (u : Value), BindsTo s fd ⟨[u], []⟩ [(x, u)]) ∧
        (∀ (H : Hp) (a : Addr) (ns : List Int), ns.length ≤ n → (∀ p ∈ cs, p.2 ≠ a ∧ H p.2 = some (.tbl #[])) → SqL (K w.params) H a (ns.map V.int) → sp [.ref a] H (fun v _ => v = .bl true) fun _ _ _ => False) ∧
        ∀ base : Heap, (K w.params).In base → base.Ns mainGlobals mg → (∀ p ∈ cs, LamX.TabB base mg p.1 p.2) → FnG l.prog w (K w.params) mg base CX0 k fa fd [x] sp) :
    PySem.W.WalkO q loose XP YP l.row.toRowW d [] (fun f vs => PySem.call f vs) := by
  refine Att.attach_callB hn hdf fun w s₀ s₁ mg mb fa o pm cd doc a vs ns G Y ho hd hcd hmg hobj hints hlen hbits hg => ?_
  have inK := hY w _ Y
  obtain ⟨fd, cs, sp, h1, h2, h3, bi, hsp, run⟩ := F w mg fa _ Y inK G.T.g hmg
  exact law_endT inK G.T.g G.T.b G.T.builtins G.T.nolimit hg h1 h2 h3 G.T.bmain hobj hints (Nat.le_trans hlen hn2) hr run bi fun H hH hS => hsp H a ns hlen hH hS
theorem tabIn_of {K : PySem.W.Frag} {x : Str} {f c P : Addr} {a : Value} {b : Option Addr} {fd : FuncData} {sl : Array (Option Value)} {o : Obj} {vs : Array Value} (h1 : PySem.W.nsIn K mainGlobals x = some (some (.ref f))) (h2 : K.lookup f = some ⟨a, b, .func fd, sl⟩) (h3 : fd.code = .ref c)
    (h4 : K.lookup c = some o) (h5 : o.data = .fields vs) (h6 : vs[11]? = some (.ref P)) : PySem.W.tabIn K x = some (c, P) := by
  obtain ⟨e, g, dt, i⟩ := o
  have h5 : dt = .fields vs := h5
  subst h5
  unfold PySem.W.tabIn
  rw [h1]
  show (match K.lookup f with | some ⟨_, _, .func fd, _⟩ => _ | _ => none) = _
  rw [h2]
  show (match fd.code with | .ref c => _ | _ => none) = _
  rw [h3]
  show (match K.lookup c with | some ⟨_, _, .fields vs, _⟩ => _ | _ => none) = _
  rw [h4]
  show (match (vs[11]? : Option Value) with | some (.ref P) => some (c, P) | _ => none) = _
  rw [h6]
section
variable [Tb] [Ls]
/-- the law's promise, where the tables stand -/
def spLawT (K : PySem.W.Frag) : Sp := fun vs H Q _ => ∃ (a : Addr) (ns : List Int), vs = [.ref a] ∧ ns.length ≤ 63 ∧ (∀ b, Tb.U b → b ≠ a ∧ H b = some (.tbl #[])) ∧ SqL K H a (ns.map V.int) ∧ ∀ H', Q (.bl true) H'
/-- the script -/
def keepA (H : Hp) (a : Addr) (b : Addr) (u : HO) : Prop := b = a ∧ H b = some u
theorem tab_empty {G : Hp} {q : Str} : TabOk G q #[] := ⟨trivial, fun pos cv h => nomatch h⟩
theorem ens_lawT {H : Hp} {a : Addr} {n : Nat} (ht : ∀ b, Tb.U b → b ≠ a ∧ H b = some (.tbl #[])) :
    Ens ⟨fun b => H b ≠ none, Tb.U, keepA H a⟩ (fun _ => none) H (.fx (.ref a) :: List.replicate n .no) (some (.ref a) :: List.replicate n none) := by
  have en := ens_law (H := H) (a := a) (n := n)
  refine ⟨en.same, en.len, fun i s e => ?_, fun b hb => ⟨rfl, _, (ht b hb).2, .inr ⟨hb, _, rfl, tab_empty⟩⟩, en.old, fun b u q => ⟨q.2, fun z => (ht b z).1 q.1, by show H b ≠ none; rw [q.2]; exact fun z => nomatch z⟩, en.nd, en.nd2⟩
  obtain ⟨o, e1, r⟩ := en.get i s e
  refine ⟨o, e1, ?_⟩
  match i, e with
  | 0, e =>
    obtain rfl := Option.some.inj e
    exact r
  | i + 1, e =>
    have e2 : (List.replicate n Sl.no)[i]? = some s := e
    have := replicate_get e2
    subst this
    trivial
end
end Nv
/-! Nv, part Es: the law's own end, where tables stand and the address of sys.modules is told of. -/
namespace Nv
open PySem PySem.Spec PyProof.Rows L2
theorem law_endTS {P : Program} {w : World} {K : PySem.W.Frag} {mg mb : Str → Option Value} {k : Nat} {fa a : Addr} {cs : List (Addr × Addr)}
    {fd : FuncData} {x : Str} {sp : Sp} {s₁ : Shared} {vs : List Value} {ns : List Int}
    (KX : K.In s₁.heap) (hns : s₁.heap.Ns mainGlobals mg) (hb : s₁.heap.Ns builtinsNs mb)
    (hbb : ∀ x : Str, x ≠ "__name__" → mb x = bootBuiltins x) (hlim : s₁.heap.NoLimit) (hg : s₁.gens = #[])
    (hT : ∀ p ∈ cs, s₁.heap.get? p.2 = some { cls := .none, data := .fields #[] }) (nT : ∀ p ∈ cs, K.lookup p.2 = none) (C : ∀ p ∈ cs, PySem.W.CodeHd s₁.heap p.1 p.2)
    (hbm : ∃ (bm : Addr) (ob : Obj), mg "__builtins__" = some (.ref bm) ∧ bm ≠ builtinsNs ∧ s₁.heap.get? bm = some ob ∧ ob.cls = .type "module" ∧ ob.dict = some builtinsNs ∧ ob.data = .plain)
    (ha : s₁.heap.get? a = some { cls := .type "list", data := .seq vs.toArray }) (hi : IntsAre vs ns)
    (hl : ns.length ≤ sizeLine) (hr : Room k callerA) (hsm : ∃ om es ep, s₁.heap.get? sysModules = some om ∧ om.data = .dict es ep)
    (F : ∀ base : Heap, K.In base → base.Ns mainGlobals mg → (∀ p ∈ cs, LamX.TabB base mg p.1 p.2) → FnG P w K mg base CX0 k fa fd [x] sp)
    (hbind : ∀ (s : Shared) (u : Value), BindsTo s fd ⟨[u], []⟩ [(x, u)])
    (hsp : ∀ H : Hp, (∀ p ∈ cs, p.2 ≠ a ∧ p.2 ≠ sysModules ∧ H p.2 = some (.tbl #[])) → Sys K H → SqL K H a (ns.map V.int) → sp [.ref a] H (fun v _ => v = .bl true) fun _ _ _ => False) :
    codeAny (model P w) callerA (.call (.ref fa) ⟨[.ref a], []⟩)
      (fun r s' => r = .ok (.ret (.bool true)) ∧ OldK s₁.heap s'.heap ∧ s'.os = s₁.os ∧ AllBare s'.gens) s₁ := by
  have rel := vals_ints hi
  let ts : List Addr := cs.map (·.2)
  let sz : HO := .frz { cls := .type "list", data := .seq vs.toArray } (.lst (ns.map V.int))
  obtain ⟨om, des, dep, hom, hdo⟩ := hsm
  let fz : HO := .frz om (.ext fun h => h.get? sysModules = some om)
  let H : Hp := fun b => if b ∈ ts then some (.tbl #[]) else if b = a ∧ K.lookup a = none then some sz else if b = sysModules ∧ K.lookup sysModules = none then some fz else none
  have tabs : ∀ b ∈ ts, ∃ p ∈ cs, p.2 = b := fun b hb => List.mem_map.mp hb
  have onT : ∀ b ∈ ts, s₁.heap.get? b = some { cls := .none, data := .fields #[] } := fun b hb => by
    obtain ⟨p, hp, rfl⟩ := tabs b hb
    exact hT p hp
  have offA : ∀ b ∈ ts, b ≠ a := fun b hb e => by
    have z := onT b hb
    rw [e, ha] at z
    exact nomatch (congrArg Obj.data (Option.some.inj z) : Data.seq vs.toArray _ = Data.fields #[])
  have offS : ∀ b ∈ ts, b ≠ sysModules := fun b hb e => by
    have z := onT b hb
    rw [e, hom] at z
    obtain rfl := Option.some.inj z
    exact nomatch hdo
  have nAS : sysModules ≠ a := fun e => by
    rw [e, ha] at hom
    obtain rfl := Option.some.inj hom
    exact nomatch hdo
  have cases3 : ∀ b, (b ∈ ts ∧ H b = some (.tbl #[])) ∨ (b = a ∧ K.lookup a = none ∧ H b = some sz) ∨ (b = sysModules ∧ K.lookup sysModules = none ∧ H b = some fz) ∨ (b ∉ ts ∧ H b = none) := fun b => by
    by_cases h1 : b ∈ ts
    · exact .inl ⟨h1, if_pos h1⟩
    · by_cases h2 : b = a ∧ K.lookup a = none
      · exact .inr (.inl ⟨h2.1, h2.2, (if_neg h1).trans (if_pos h2)⟩)
      · by_cases h3 : b = sysModules ∧ K.lookup sysModules = none
        · exact .inr (.inr (.inl ⟨h3.1, h3.2, (if_neg h1).trans ((if_neg h2).trans (if_pos h3))⟩))
        · exact .inr (.inr (.inr ⟨h1, (if_neg h1).trans ((if_neg h2).trans (if_neg h3))⟩))
  -- an object of another kind is not tracked
  have plain : ∀ {b : Addr} {o : Obj}, b ≠ sysModules → s₁.heap.get? b = some o → o.data ≠ .fields #[] → (∀ us n, o.data ≠ .seq us n) → H b = none := fun {b o} nb e n1 n2 => by
    rcases cases3 b with ⟨h, _⟩ | ⟨h, _, _⟩ | ⟨h, _, _⟩ | ⟨_, h⟩
    · rw [onT b h] at e
      obtain rfl := Option.some.inj e
      exact absurd rfl n1
    · rw [h, ha] at e
      obtain rfl := Option.some.inj e
      exact absurd rfl (n2 _ _)
    · exact absurd h nb
    · exact h
  have nsDown : ∀ {b : Addr} {m : Str → Option Value}, b ≠ sysModules → s₁.heap.Ns b m → (hidT s₁.heap H).Ns b m := fun {b m} nb z => by
    obtain ⟨o, es, ep, z1, z2, z3⟩ := z
    exact ⟨o, es, ep, hidT_get z1 (plain nb z1 (by rw [z2]; exact fun q => nomatch q) (fun us n q => by rw [z2] at q; exact nomatch q)), z2, z3⟩
  have kinB : K.In (hidT s₁.heap H) := fun b o z => hidT_get (KX b o z) (by
    rcases cases3 b with ⟨h, _⟩ | ⟨h, l, _⟩ | ⟨h, l, _⟩ | ⟨_, h⟩
    · obtain ⟨p, hp, rfl⟩ := tabs b h
      rw [nT p hp] at z
      exact nomatch z
    · rw [h, l] at z
      exact nomatch z
    · rw [h, l] at z
      exact nomatch z
    · exact h)
  have md : Mod K mg (hidT s₁.heap H) := ⟨kinB, nsDown (by decide) hns, ⟨mb, nsDown (by decide) hb, hbb⟩, by obtain ⟨mc, z1, z2⟩ := hlim; exact ⟨mc, nsDown (by decide) z1, z2⟩⟩
  have ok : HOk P w H s₁.heap := fun b u z => by
    rcases cases3 b with ⟨h, q⟩ | ⟨h, _, q⟩ | ⟨h, _, q⟩ | ⟨_, q⟩
    · rw [z] at q
      obtain rfl := Option.some.inj q
      exact onT b h
    · rw [z] at q
      obtain rfl := Option.some.inj q
      rw [h]
      exact ⟨ha, by rw [List.length_map]; exact hl, vs, _, rel, ha⟩
    · rw [z] at q
      obtain rfl := Option.some.inj q
      rw [h]
      exact ⟨hom, hom, ⟨om, hom⟩, fun h1 h2 z k => k _ z⟩
    · rw [z] at q
      exact nomatch q
  have gOf : ∀ b, b ∈ ts → b ≠ mainGlobals := fun b hb e => by
    obtain ⟨o, es, ep, z1, z2, _⟩ := hns
    rw [← e, onT b hb] at z1
    obtain rfl := Option.some.inj z1
    exact nomatch z2
  have TB : ∀ p ∈ cs, LamX.TabB (hidT s₁.heap H) mg p.1 p.2 := fun p hp => by
    have mp : p.2 ∈ ts := List.mem_map.mpr ⟨p, hp, rfl⟩
    refine ⟨?_, ?_, fun e => gOf _ mp e.symm⟩
    · obtain ⟨o, us, file, tf, flags, tg, inF, text, tt, q1, q2, q3, q4, rest⟩ := C p hp
      refine ⟨o, us, file, tf, flags, tg, inF, text, tt, hidT_get q1 (plain (fun e => by rw [e, hom] at q1; obtain rfl := Option.some.inj q1; rw [hdo] at q3; exact nomatch q3) q1 (fun e => ?_) (fun us n e => by rw [q3] at e; exact nomatch e)), q2, q3, q4, rest⟩
      rw [q3] at e
      rw [Data.fields.inj e] at q4
      exact nomatch q4
    · obtain ⟨bm, ob, q1, q2, q3, q4, q5, q6⟩ := hbm
      have np : bm ≠ p.2 := fun e => by
        rw [e, onT _ mp] at q3
        obtain rfl := Option.some.inj q3
        exact nomatch q6
      have ng : bm ≠ mainGlobals := fun e => by
        obtain ⟨o, es, ep, z1, z2, _⟩ := hns
        rw [← e, q3] at z1
        obtain rfl := Option.some.inj z1
        rw [q6] at z2
        exact nomatch z2
      exact ⟨bm, ob, q1, q2, ng, np, hidT_get q3 (plain (fun e => by rw [e, hom] at q3; obtain rfl := Option.some.inj q3; rw [hdo] at q6; exact nomatch q6) q3 (fun e => by rw [q6] at e; exact nomatch e) (fun us n e => by rw [q6] at e; exact nomatch e)), q4, q5, q6⟩
  have en : Env0 P w K mg (hidT s₁.heap H) callerA [] s₁ H :=
    ⟨rfl, md, fun b o z => of_hidT z, Nat.le_of_eq (hidT_size _ _), trivial, fun b z => absurd (show b ∈ ([] : List Addr) from z) (by simp), ok, .of_eq hg⟩
  have sq : SqL K H a (ns.map V.int) := by
    cases q : K.lookup a with
    | some o =>
      have z := KX a o q
      rw [ha] at z
      obtain rfl := Option.some.inj z
      exact .inr ⟨_, vs.toArray, _, q, rfl, rfl, rfl, by rw [List.size_toArray, hi.length]; exact hl, by simpa using rel⟩
    | none => exact .inl (.inr ⟨_, (if_neg fun z => offA a z rfl).trans (if_pos ⟨rfl, q⟩)⟩)
  have hH : ∀ p ∈ cs, p.2 ≠ a ∧ p.2 ≠ sysModules ∧ H p.2 = some (.tbl #[]) := fun p hp => by
    have mp : p.2 ∈ ts := List.mem_map.mpr ⟨p, hp, rfl⟩
    exact ⟨offA _ mp, offS _ mp, if_pos mp⟩
  have hS : Sys K H := by
    cases q : K.lookup sysModules with
    | some o => exact .inl ⟨o, q⟩
    | none =>
      rcases cases3 sysModules with ⟨h, _⟩ | ⟨h, _, _⟩ | ⟨_, _, h⟩ | ⟨h1, h⟩
      · exact absurd rfl (offS _ h)
      · exact absurd h nAS
      · exact .inr ⟨_, _, h⟩
      · rw [show H sysModules = some fz from (if_neg h1).trans ((if_neg fun z => nAS z.1).trans (if_pos ⟨rfl, q⟩))] at h
        exact nomatch h
  refine codeAny_mono ((F _ kinB (nsDown (by decide) hns) TB).run callerA [] s₁ H ⟨[.ref a], []⟩ [.ref a] [.ref a] _ _ hr rfl en (hbind s₁ (.ref a)) (.cons rfl .nil) (hsp H hH hS sq)) fun r s' z => ?_
  match r, z with
  | .error _, z => exact False.elim z
  | .ok .next, z => exact False.elim z
  | .ok .brk, z => exact False.elim z
  | .ok .cont, z => exact False.elim z
  | .ok (.ret u), z =>
    obtain ⟨v, H', os, bare, un, ok', rv, q⟩ := z
    have q' : v = .bl true := q
    subst q'
    have hu : u = Value.bool true := rv
    subst hu
    have stays : ∀ b o, b ∉ ts → s₁.heap.get? b = some o → s'.heap.get? b = some o := fun b o nb z => by
      rcases cases3 b with ⟨h, _⟩ | ⟨h, _, q⟩ | ⟨h, _, q⟩ | ⟨_, q⟩
      · exact absurd h nb
      · have y2 : s'.heap.get? b = some { cls := .type "list", data := .seq vs.toArray } := (ok' b _ (un.frzs b _ _ q)).1
        rw [h, ha] at z
        rw [y2, ← z]
      · have y2 : s'.heap.get? b = some om := (ok' b _ (un.frzs b _ _ q)).1
        rw [h, hom] at z
        rw [y2, ← z]
      · exact un.keep b o z q (fun y => absurd (show b ∈ ([] : List Addr) from y) (by simp)) (by simp)
    have grows : ∀ b ∈ ts, ∃ more : Array Value, s'.heap.get? b = some { cls := .none, data := .fields more } := fun b hb => by
      obtain ⟨more, y⟩ := un.tbls b #[] (if_pos hb)
      exact ⟨_, ok' b _ y⟩
    refine ⟨rfl, ⟨fun b o z => ?_, fun b o z => ?_⟩, os, bare⟩
    · by_cases hb : b ∈ ts
      · obtain ⟨more, y⟩ := grows b hb
        obtain ⟨p, hp, rfl⟩ := tabs b hb
        rw [onT _ hb] at z
        obtain rfl := Option.some.inj z
        exact .inr (.inl ⟨((C p hp).tab (hT p hp)).isCodeTable, rfl, #[], more, rfl, by rw [Array.empty_append]; exact y⟩)
      · exact .inl (stays b o hb z)
    · by_cases hb : b ∈ ts
      · obtain ⟨more, y⟩ := grows b hb
        exact ⟨_, y⟩
      · exact ⟨o, stays b o hb z⟩
theorem law_walkTS {l : PySem.W.OpenLaw} {n k : Nat} {q : Program} {loose : List Str} {XP : (Str → Option Value) → Heap → Prop}
    {YP : World → Heap → Prop} {d : DefRec} {K : Params → PySem.W.Frag} {x : Str}
    (hn : l.most = some n) (hn2 : n ≤ sizeLine) (hdf : d.params.defaults = []) (hr : Room k callerA) (him : importsNone q = true)
    (hY : ∀ (w : World) (h : Heap), YP w h → (K w.params).In h)
    (F : ∀ (w : World) (mg : Str → Option Value) (fa : Addr) (h : Heap), YP w h →
      (K w.params).In h → h.Ns mainGlobals mg → mg d.name = some (.ref fa) →
      ∃ (fd : FuncData) (cs : List (Addr × Addr)) (sp : Sp), (∀ p ∈ cs, h.get? p.2 = some { cls := .none, data := .fields #[] }) ∧ (∀ p ∈ cs, (K w.params).lookup p.2 = none) ∧ (∀ p ∈ cs, PySem.W.CodeHd h p.1 p.2) ∧
        (∀ (s : Shared) (u : Value), BindsTo s fd ⟨[u], []⟩ [(x, u)]) ∧
        (∀ (H : Hp) (a : Addr) (ns : List Int), ns.length ≤ n → (∀ p ∈ cs, p.2 ≠ a ∧ p.2 ≠ sysModules ∧ H p.2 = some (.tbl #[])) → Sys (K w.params) H → SqL (K w.params) H a (ns.map V.int) → sp [.ref a] H (fun v _ => v = .bl true) fun _ _ _ => False) ∧
        ∀ base : Heap, (K w.params).In base → base.Ns mainGlobals mg → (∀ p ∈ cs, LamX.TabB base mg p.1 p.2) → FnG l.prog w (K w.params) mg base CX0 k fa fd [x] sp) :
    PySem.W.WalkO q loose XP YP l.row.toRowW d [] (fun f vs => PySem.call f vs) := by
  refine Att.attach_callB hn hdf fun w s₀ s₁ mg mb fa o pm cd doc a vs ns G Y ho hd hcd hmg hobj hints hlen hbits hg => ?_
  have inK := hY w _ Y
  obtain ⟨fd, cs, sp, h1, h2, h3, bi, hsp, run⟩ := F w mg fa _ Y inK G.T.g hmg
  have hsm : ∃ om es ep, s₁.heap.get? sysModules = some om ∧ om.data = .dict es ep := by
    obtain ⟨mm, ⟨o, es, ep, z, zd, _⟩, _⟩ := (G.T.seer him).mods
    exact ⟨o, es, ep, z, zd⟩
  exact law_endTS inK G.T.g G.T.b G.T.builtins G.T.nolimit hg h1 h2 h3 G.T.bmain hobj hints (Nat.le_trans hlen hn2) hr hsm run bi fun H hH hS hq => hsp H a ns hlen hH hS hq
section
variable [Tb] [Ls]
/-- the law's promise, where the tables stand and sys.modules is told of -/
def spLawTS (K : PySem.W.Frag) : Sp := fun vs H Q _ => ∃ (a : Addr) (ns : List Int), vs = [.ref a] ∧ ns.length ≤ 63 ∧ (∀ b, Tb.U b → b ≠ a ∧ b ≠ sysModules ∧ H b = some (.tbl #[])) ∧ Sys K H ∧ SqL K H a (ns.map V.int) ∧ ∀ H', Q (.bl true) H'
theorem ens_lawTS {H : Hp} {a : Addr} {n : Nat} (ht : ∀ b, Tb.U b → b ≠ a ∧ b ≠ sysModules ∧ H b = some (.tbl #[])) :
    Ens ⟨fun b => H b ≠ none, Tb.U, keepF H a⟩ (fun _ => none) H (.fx (.ref a) :: List.replicate n .no) (some (.ref a) :: List.replicate n none) := by
  have en := ens_law (H := H) (a := a) (n := n)
  refine ⟨en.same, en.len, fun i s e => ?_, fun b hb => ⟨rfl, _, (ht b hb).2.2, .inr ⟨hb, _, rfl, tab_empty⟩⟩, en.old, fun b u q => ⟨q.2, fun z => ?_, by show H b ≠ none; rw [q.2]; exact fun z => nomatch z⟩, en.nd, en.nd2⟩
  · obtain ⟨o, e1, r⟩ := en.get i s e
    refine ⟨o, e1, ?_⟩
    match i, e with
    | 0, e =>
      obtain rfl := Option.some.inj e
      exact r
    | i + 1, e =>
      have e2 : (List.replicate n Sl.no)[i]? = some s := e
      have := replicate_get e2
      subst this
      trivial
  · rcases q.1 with e | e
    · exact (ht b z).1 e
    · exact (ht b z).2.1 e
/-! a def that is told of sys.modules, no repr under way -/
def spWS (K : PySem.W.Frag) (c : Spc) (n : Nat) : Sp := fun vs H Q E => Sys K H ∧ spW c n vs H Q E
theorem wps_runS {K : PySem.W.Frag} {N : List Str} {c : Spc} {n : Nat} {t : TS} {vs : List V} {H : Hp} {Q : VK} {E : XK} {S : Addr → Prop} {G : Hp} {as : List Sl} (sy : Sys K H) (l : as.length = n) (sm : Same G H) (st : StO S G H) (ar : Args S G as vs)
    (k : ∀ v d G' H', Stp S G H G' H' → Same G' H' → StO S G' H' → At G' v d → c.post as d → Q v H') (r : RzW S E (c.err as) G H)
    (h : ∀ T : Tr, (∀ H', (∀ b u, T.F b u → H' b = some u) → Sys K H') → WpS ⟨E, c.err as, T⟩ t (as ++ List.replicate (N.length - n) .no) (fun _ => c.post as .non) (c.post as)) :
    t { nx := fun _ H' => Q .non H', rt := Q } (L2.start N vs) H := by
  subst l
  rcases sy with sy | ⟨o, u, sy⟩
  · refine h ⟨fun b => H b ≠ none, S, fun _ _ => False⟩ (fun _ _ => .inl sy) _ G H (ens_start sm st ar fun _ _ z => z.elim) r.rz _ (fun δ' σ' G' H' sB en q => ?_) fun v d G' H' sB sm' so a q => ?_
    · exact k _ _ G' H' sB.full en.same en.stt .non q
    · exact k v d G' H' sB.full sm' so a q
  · have nS : ¬ S sysModules := fun z => by
      obtain ⟨_, x, e, mo⟩ := st _ z
      rw [sy] at e
      obtain rfl := Option.some.inj e
      rcases mo with ⟨_, _, e, _⟩ | ⟨_, _, e, _⟩ <;> exact nomatch e
    refine h ⟨fun b => H b ≠ none, S, fun b v => b = sysModules ∧ v = .frz o u⟩ (fun H' k' => .inr ⟨o, u, k' _ _ ⟨rfl, rfl⟩⟩) _ G H (ens_start sm st ar fun b v z => ?_) r.rz _ (fun δ' σ' G' H' sB en q => ?_) fun v d G' H' sB sm' so a q => ?_
    · obtain ⟨rfl, rfl⟩ := z
      exact ⟨sy, nS, by rw [sy]; exact fun z => nomatch z⟩
    · exact k _ _ G' H' sB.full en.same en.stt .non q
    · exact k v d G' H' sB.full sm' so a q
theorem Fn.okGS {P : Program} {w : World} {K : PySem.W.Frag} {mg : Str → Option Value} {base : Heap} {x : Str} {st : Stmt} {N ps : List Str} {f : Addr} {fd : FuncData} {n k : Nat} {c : Spc} (F : Fn K mg x st ps f fd) (S : FnScope N ps (defScope st)) (hn : ps.length = n)
    (h : ∀ (cdv : Value) (A : Around) (outer : List Env) (s : Shared) (H : Hp) (E : XK) (as : List Sl), (A.deeper (envOfC x (defScope st) s.heap.objs.size f cdv)).guards = some [] → Room k (A.deeper (envOfC x (defScope st) s.heap.objs.size f cdv)) → c.pre as → as.length = n →
      ∃ t, PSs (cxOf CX0 P w K mg base N x (defScope st) f cdv A outer s H E).nox (defBody st) t ∧
        ∀ T : Tr, (∀ H', (∀ b u, T.F b u → H' b = some u) → Sys K H') → WpS ⟨E, c.err as, T⟩ t (as ++ List.replicate (N.length - n) .no) (fun _ => c.post as .non) (c.post as)) :
    Dg P w K mg base x CX0 (k + 1) ps (spWS K c n) := by
  refine ⟨f, fd, fnG_ok F.F S (fun vs H Q E h => ?_) (fun cdv A outer s H vs Q E gd hr q => ?_), F.m, F.F.kp, F.b⟩
  · obtain ⟨_, S, G, as, l, _, _, ar, _⟩ := h
    rw [← ar.length, l, hn]
  · obtain ⟨sy, S, G, as, l, sm, so, ar, p, k, r⟩ := q
    obtain ⟨t, h1, h2⟩ := h cdv A outer s H E as gd hr p l
    exact ⟨t, h1, wps_runS sy l sm so ar k r h2⟩
theorem wpe_callGS {R : Rg} {δ : List Sl} {tr : TA} {φ : D → Prop} {K : PySem.W.Frag} {c : Spc} {n : Nat} {E : XK} (hS : ∀ H, (∀ b u, R.T.F b u → H b = some u) → Sys K H) (h : WpA R tr δ fun as => as.length = n ∧ c.pre as ∧ (∀ d, c.post as d → φ d) ∧ ∀ C d, ¬ c.err as C d) :
    WpE R (tCall (spWS K c n) [] E tr) δ φ := fun σ G H en rz Q k =>
  h σ G H en rz _ fun vs as G1 H1 s1 e1 a1 ⟨l, p, q, r⟩ => by
    show spWS K c n (vs ++ []) H1 Q E
    rw [List.append_nil]
    exact ⟨hS H1 fun b u z => (e1.inv b u z).1, R.T.S, G1, as, l, e1.same, e1.stt, a1, p, fun v d G' H' st sm so a pq => k v d G' H' (s1.trans st) (e1.step st (fun _ z => z) sm so) a (q d pq), fun C dd w d G' H' st hx a x => (r C d x).elim⟩
end
end Nv
/-! Nv, part Tr: tuple(range(..)). -/
namespace Nv
open PySem PySem.Spec PyProof.Rows L2
variable [Tb] [Ls]
theorem wpe_trg1 {R : Rg} {δ : List Sl} {ta : TE} {φ : D → Prop} (h : WpE R ta δ fun x => ∃ n : Int, x = .int n ∧ 0 ≤ n ∧ n ≤ 100000 ∧ φ (.tup ((rgI 0 n).map D.int))) : WpE R (tTupRgF (tRg1 ta)) δ φ := fun σ G H en rz Q k =>
  h σ G H en rz _ fun v x G1 H1 s1 e1 a1 ⟨n, ex, n0, n1, q⟩ => by
    subst ex
    cases a1
    refine ⟨n, rfl, .of_le (by omega) (by omega) (by omega) n0, fun p o hp hd => ?_⟩
    rw [rgV_int]
    have st : Stp S0 G1 H1 (upd G1 p (TpO o ((rgI 0 n).map V.int))) (upd H1 p (TpO o ((rgI 0 n).map V.int))) := .new e1.same hp
    exact k _ _ _ _ (s1.trans st.zero) (e1.step0 st (upd_same2 e1.same)) (.tup (.inl ⟨_, upd_same, hd⟩) (ints_atAll _)) q
end Nv
namespace Nv
open PySem PySem.Spec PyProof.Rows L2
variable [Tb]
def top (i : Nat) : Stmt := PySem.Challenge.pw_neverowing_k51_relabelled_things.main.body.getD i (.Pass ⟨0, 0, 0, 0⟩)
/-! ### what the defs of kinds.py and worlds.py say of data -/
def intOf : D → Int
  | .int n => n
  | _ => 0
def isInt : D → Bool
  | .int _ => true
  | _ => false
def isNat : D → Bool
  | .int i => decide (i ≥ 0)
  | _ => false
def isIdx (n : Int) : D → Bool
  | .int i => decide (0 ≤ i) && decide (i < n)
  | _ => false
def letters : Str := "abcdefghijklmnopqrstuvwxyz"
def isName : D → Bool
  | .str x => decide (1 ≤ (x.length : Int)) && decide ((x.length : Int) ≤ 12) && x.cps.toList.all fun c => decide (c ∈ letters.cps.toList)
  | _ => false
mutual
/-- texts and lists within bounds, no instances -/
def okD : D → Bool
  | .str x => decide (x.length ≤ 1000)
  | .lst ds => decide (ds.length ≤ 1000) && okAll ds
  | .tup ds => decide (ds.length ≤ 1000) && okAll ds
  | .dic _ ds => okAll ds
  | .ins _ _ _ => false
  | .dct _ _ => false
  | .ty _ => false
  | .non => true
  | .bl _ => true
  | .int _ => true
def okAll : List D → Bool
  | [] => true
  | d :: ds => okD d && okAll ds
end
theorem okAll_mem : ∀ {ds : List D}, okAll ds = true → ∀ d ∈ ds, okD d = true
  | d :: ds, h, e, m => by
    unfold okAll at h
    rw [Bool.and_eq_true] at h
    rcases List.mem_cons.mp m with rfl | m
    · exact h.1
    · exact okAll_mem h.2 e m
theorem okAll_of : ∀ {ds : List D}, (∀ d ∈ ds, okD d = true) → okAll ds = true
  | [], _ => rfl
  | d :: ds, h => by
    unfold okAll
    rw [h d (by simp), okAll_of fun e m => h e (by simp [m])]
    rfl
theorem ok_tup {ds : List D} (h : okD (.tup ds) = true) : ds.length ≤ 1000 ∧ ∀ d ∈ ds, okD d = true := by
  unfold okD at h
  rw [Bool.and_eq_true] at h
  exact ⟨of_decide_eq_true h.1, okAll_mem h.2⟩
theorem ok_pln {x : D} (h : okD x = true) : plnD x = true := by
  cases x with
  | ins _ _ _ => unfold okD at h; cases h
  | dct _ _ => unfold okD at h; cases h
  | ty _ => unfold okD at h; cases h
  | _ => rfl
def ltP : D → Bool
  | .tup [.int a, .int b] => decide (a < b)
  | .tup [.str a, .str b] => decide (a.cps.toList < b.cps.toList)
  | _ => false
def ascD : D → Bool
  | .lst ds => (zipD ds (ds.drop 1)).all ltP
  | .tup ds => (zipD ds (ds.drop 1)).all ltP
  | _ => false
def fstD : D → D
  | .tup (a :: _) => a
  | _ => .non
/-- items that can be put in order -/
def Ord (y : D) : Prop := (∃ zs : List Int, zs.length ≤ 1000 ∧ (y = .lst (zs.map D.int) ∨ y = .tup (zs.map D.int))) ∨ ∃ xs : List Str, xs.length ≤ 1000 ∧ y = .lst (xs.map D.str)
def areTurnsOf (row : D) (s n : Int) : Bool := match row with
  | .tup ds => ds.all (isIdx n) && (ascD (.tup ds) && !decide (s ∈ ds.map intOf))
  | _ => false
def turnP (n : Int) : D → Bool
  | .tup [.int i, row] => areTurnsOf row i n
  | _ => false
def areTurns : D → Bool
  | .tup ds => decide (1 ≤ (ds.length : Int)) && decide ((ds.length : Int) ≤ 400) && (enuD ds).all (turnP ds.length)
  | _ => false
def isAnswer (n : Int) : D → Bool
  | .tup [a, b] => isIdx n a && isNat b
  | _ => false
def areAnswers (n : Int) : D → Bool
  | .tup ds => !decide ((ds.length : Int) = 0) && (ds.all (isAnswer n) && ascD (.lst (ds.map fstD)))
  | _ => false
def isAsk (n : Int) : D → Bool
  | .tup [a, b] => isName a && areAnswers n b
  | _ => false
def areAsksOf (n : Int) : D → Bool
  | .tup ds => decide ((ds.length : Int) ≤ 160) && (ds.all (isAsk n) && ascD (.lst (ds.map fstD)))
  | _ => false
def areAsks (n : Int) : D → Bool
  | .tup ds => decide ((ds.length : Int) = n) && ds.all (areAsksOf n)
  | _ => false
theorem idx_ints {n : Int} : ∀ {ds : List D}, ds.all (isIdx n) = true → ds = (ds.map intOf).map D.int
  | [], _ => rfl
  | d :: ds, h => by
    rw [List.all_cons, Bool.and_eq_true] at h
    rw [List.map_cons, List.map_cons, ← idx_ints h.2]
    cases d <;> first | rfl | cases h.1
theorem two_of {ds : List D} (h : (ds.length : Int) = 2) : ∃ a b, ds = [a, b] := by
  match ds, h with
  | [a, b], _ => exact ⟨a, b, rfl⟩
  | [], h => cases h
  | [a], h => cases h
  | a :: b :: c :: l, h => simp at h; omega
section
variable {P : Program} {w : World} {K : PySem.W.Frag} {mg : Str → Option Value} {base : Heap}
abbrev s_is_integer : Stmt := top 8
theorem sc_is_integer : FnScope ["value"] ["value"] (defScope s_is_integer) :=
  ⟨rfl, rfl, rfl, by decide +kernel, rfl, by decide +kernel, by decide +kernel⟩
abbrev s_is_index : Stmt := top 9
theorem sc_is_index : FnScope ["value", "size"] ["value", "size"] (defScope s_is_index) :=
  ⟨rfl, rfl, rfl, by decide +kernel, rfl, by decide +kernel, by decide +kernel⟩
abbrev s_is_ascending : Stmt := top 10
theorem sc_is_ascending : FnScope ["items", "low", "high"] ["items"] (defScope s_is_ascending) :=
  ⟨rfl, rfl, rfl, by decide +kernel, rfl, by decide +kernel, by decide +kernel⟩
def c_is_integer : Spc := sp1 (fun x => plnD x = true) fun x => .bl (isInt x)
def c_is_from_zero : Spc := sp1 (fun x => plnD x = true) fun x => .bl (isNat x)
def c_is_index : Spc := sp2 (fun x y => plnD x = true ∧ ∃ n, y = .int n) fun x y => .bl (isIdx (intOf y) x)
def c_is_name : Spc := sp1 (fun x => okD x = true) fun x => .bl (isName x)
def c_is_ascending : Spc := sp1 Ord fun x => .bl (ascD x)
theorem d_is_integer {f : Addr} {fd : FuncData} (B : Bly mg) (F : Fn K mg "is_integer" s_is_integer ["value"] f fd) : Dk P w K mg base "is_integer" CX0 1 ["value"] (spW c_is_integer 1) := by
  refine F.ok1 sc_is_integer rfl fun cdv A outer s H E x hr p => ⟨_, (pss_one (ps_ret (pe_and (pe_callB (call_isiK (K := K) rfl) (by rfl) B.isi b_isinstance (pa_cons (pv 0) (pa_cons (pe_bltn (v := .ty "int") (by rfl) B.int b_int rfl) pa_nil))) (pe_one (pe_not (pe_callB (call_isiK (K := K) rfl) (by rfl) B.isi b_isinstance (pa_cons (pv 0) (pa_cons (pe_bltn (v := .ty "bool") (by rfl) B.bool b_bool rfl) pa_nil)))))))), fun T => ?_⟩
  repeat (first | with_reducible refine wps_nil ?_ | with_reducible refine wps_seq ?_ | refine wps_ret ?_ | refine wps_if ?_ | refine wps_newl ?_ | refine wps_set ?_ | refine wpt_not ?_ | refine wpt_or ?_ | refine wpt_and ?_ | refine wpt_B ?_ | refine wpt_test ?_ | refine wpe_var rfl ?_ | refine wpe_int ?_ | refine wpe_bl ?_ | refine wpe_str ?_ | refine wpe_non ?_ | refine wpe_ty ?_ | refine wpe_andV ?_ | refine wpe_orV ?_ | refine wpe_notV ?_ | refine wpe_if ?_ | refine wpe_call1 ?_ | refine wpe_call2 ?_ | refine wpe_call3 ?_ | refine wpe_callS rfl ?_ | refine wpe_tupL ?_ | refine wpe_lstL ?_ | refine wpe_call0 ?_ | refine wpe_cb1 ?_ | refine wpe_cb2 ?_ | refine wpe_neg ?_ | refine wpe_slice ?_ | refine wpe_op ?_ | refine wpe_chain ?_ | refine wpo_none ?_ | refine wpo_some ?_ | refine wpl_nil ?_ | refine wpl_cons ?_ | refine wpa_cons ?_ | refine wpi_zipL ?_ | refine wpi_enuT1 ?_ | refine wpi_rng1 ?_ | refine wpi_seq ?_ | refine opd_ix (n := 0) (.inr rfl) rfl rfl ?_ | refine opd_ix (n := 1) (.inr rfl) rfl rfl ?_ | refine opd_ix (n := 2) (.inr rfl) rfl rfl ?_ | refine opd_b ?_ | refine opd_l (opd_b ?_) | refine opd_i ?_ | refine opd_l (opd_eqI ?_) | refine opd_l (opd_neI ?_) | refine opd_l (opd_neS ?_) | refine opd_l (opd_eqS ?_) | refine cbd_l (cbd_len (.inr rfl) ?_) | refine cbd_l (cbd_len (.inl rfl) ?_) | refine cbd_int1 ?_ | refine ite_t ?_ | refine ite_f ?_ | refine ⟨_, rfl, ?_⟩)
  refine cbd_isI p ⟨_, rfl, ite_b (fun h => ?_) (fun h => ?_)⟩
  · repeat (first | with_reducible refine wps_nil ?_ | with_reducible refine wps_seq ?_ | refine wps_ret ?_ | refine wps_if ?_ | refine wps_newl ?_ | refine wps_set ?_ | refine wpt_not ?_ | refine wpt_or ?_ | refine wpt_and ?_ | refine wpt_B ?_ | refine wpt_test ?_ | refine wpe_var rfl ?_ | refine wpe_int ?_ | refine wpe_bl ?_ | refine wpe_str ?_ | refine wpe_non ?_ | refine wpe_ty ?_ | refine wpe_andV ?_ | refine wpe_orV ?_ | refine wpe_notV ?_ | refine wpe_if ?_ | refine wpe_call1 ?_ | refine wpe_call2 ?_ | refine wpe_call3 ?_ | refine wpe_callS rfl ?_ | refine wpe_tupL ?_ | refine wpe_lstL ?_ | refine wpe_call0 ?_ | refine wpe_cb1 ?_ | refine wpe_cb2 ?_ | refine wpe_neg ?_ | refine wpe_slice ?_ | refine wpe_op ?_ | refine wpe_chain ?_ | refine wpo_none ?_ | refine wpo_some ?_ | refine wpl_nil ?_ | refine wpl_cons ?_ | refine wpa_cons ?_ | refine wpi_zipL ?_ | refine wpi_enuT1 ?_ | refine wpi_rng1 ?_ | refine wpi_seq ?_ | refine opd_ix (n := 0) (.inr rfl) rfl rfl ?_ | refine opd_ix (n := 1) (.inr rfl) rfl rfl ?_ | refine opd_ix (n := 2) (.inr rfl) rfl rfl ?_ | refine opd_b ?_ | refine opd_l (opd_b ?_) | refine opd_i ?_ | refine opd_l (opd_eqI ?_) | refine opd_l (opd_neI ?_) | refine opd_l (opd_neS ?_) | refine opd_l (opd_eqS ?_) | refine cbd_l (cbd_len (.inr rfl) ?_) | refine cbd_l (cbd_len (.inl rfl) ?_) | refine cbd_int1 ?_ | refine ite_t ?_ | refine ite_f ?_ | refine ⟨_, rfl, ?_⟩)
    refine cbd_isB p ⟨_, rfl, ?_⟩
    cases x <;> first | rfl | cases h
  · cases x <;> first | rfl | cases h
theorem d_is_index {f : Addr} {fd : FuncData} (B : Bly mg) (F : Fn K mg "is_index" s_is_index ["value", "size"] f fd)
    (D_is_integer : Dk P w K mg base "is_integer" CX0 1 ["value"] (spW c_is_integer 1)) : Dk P w K mg base "is_index" CX0 2 ["value", "size"] (spW c_is_index 2) := by
  refine F.ok2 sc_is_index rfl fun cdv A outer s H E x y hr ⟨p, n, hn⟩ => ⟨_, (pss_one (ps_ret (pe_and (pe_callD D_is_integer (hr.mono (by decide)) (by rfl) pass0 (pa_cons (pv 0) pa_nil)) (pe_one (pe_chain op_le (op_lt.or op_lt_str) pe_int (pv 0) (pv 1)))))), fun T => ?_⟩
  subst hn
  repeat (first | with_reducible refine wps_nil ?_ | with_reducible refine wps_seq ?_ | refine wps_ret ?_ | refine wps_if ?_ | refine wps_newl ?_ | refine wps_set ?_ | refine wpt_not ?_ | refine wpt_or ?_ | refine wpt_and ?_ | refine wpt_B ?_ | refine wpt_test ?_ | refine wpe_var rfl ?_ | refine wpe_int ?_ | refine wpe_bl ?_ | refine wpe_str ?_ | refine wpe_non ?_ | refine wpe_ty ?_ | refine wpe_andV ?_ | refine wpe_orV ?_ | refine wpe_notV ?_ | refine wpe_if ?_ | refine wpe_call1 ?_ | refine wpe_call2 ?_ | refine wpe_call3 ?_ | refine wpe_callS rfl ?_ | refine wpe_tupL ?_ | refine wpe_lstL ?_ | refine wpe_call0 ?_ | refine wpe_cb1 ?_ | refine wpe_cb2 ?_ | refine wpe_neg ?_ | refine wpe_slice ?_ | refine wpe_op ?_ | refine wpe_chain ?_ | refine wpo_none ?_ | refine wpo_some ?_ | refine wpl_nil ?_ | refine wpl_cons ?_ | refine wpa_cons ?_ | refine wpi_zipL ?_ | refine wpi_enuT1 ?_ | refine wpi_rng1 ?_ | refine wpi_seq ?_ | refine opd_ix (n := 0) (.inr rfl) rfl rfl ?_ | refine opd_ix (n := 1) (.inr rfl) rfl rfl ?_ | refine opd_ix (n := 2) (.inr rfl) rfl rfl ?_ | refine opd_b ?_ | refine opd_l (opd_b ?_) | refine opd_i ?_ | refine opd_l (opd_eqI ?_) | refine opd_l (opd_neI ?_) | refine opd_l (opd_neS ?_) | refine opd_l (opd_eqS ?_) | refine cbd_l (cbd_len (.inr rfl) ?_) | refine cbd_l (cbd_len (.inl rfl) ?_) | refine cbd_int1 ?_ | refine ite_t ?_ | refine ite_f ?_ | refine ⟨_, rfl, ?_⟩)
  refine ⟨p, _, rfl, ite_b (fun h => ?_) (fun h => ?_)⟩
  · cases x <;> first | cases h | skip
    repeat (first | with_reducible refine wps_nil ?_ | with_reducible refine wps_seq ?_ | refine wps_ret ?_ | refine wps_if ?_ | refine wps_newl ?_ | refine wps_set ?_ | refine wpt_not ?_ | refine wpt_or ?_ | refine wpt_and ?_ | refine wpt_B ?_ | refine wpt_test ?_ | refine wpe_var rfl ?_ | refine wpe_int ?_ | refine wpe_bl ?_ | refine wpe_str ?_ | refine wpe_non ?_ | refine wpe_ty ?_ | refine wpe_andV ?_ | refine wpe_orV ?_ | refine wpe_notV ?_ | refine wpe_if ?_ | refine wpe_call1 ?_ | refine wpe_call2 ?_ | refine wpe_call3 ?_ | refine wpe_callS rfl ?_ | refine wpe_tupL ?_ | refine wpe_lstL ?_ | refine wpe_call0 ?_ | refine wpe_cb1 ?_ | refine wpe_cb2 ?_ | refine wpe_neg ?_ | refine wpe_slice ?_ | refine wpe_op ?_ | refine wpe_chain ?_ | refine wpo_none ?_ | refine wpo_some ?_ | refine wpl_nil ?_ | refine wpl_cons ?_ | refine wpa_cons ?_ | refine wpi_zipL ?_ | refine wpi_enuT1 ?_ | refine wpi_rng1 ?_ | refine wpi_seq ?_ | refine opd_ix (n := 0) (.inr rfl) rfl rfl ?_ | refine opd_ix (n := 1) (.inr rfl) rfl rfl ?_ | refine opd_ix (n := 2) (.inr rfl) rfl rfl ?_ | refine opd_b ?_ | refine opd_l (opd_b ?_) | refine opd_i ?_ | refine opd_l (opd_eqI ?_) | refine opd_l (opd_neI ?_) | refine opd_l (opd_neS ?_) | refine opd_l (opd_eqS ?_) | refine cbd_l (cbd_len (.inr rfl) ?_) | refine cbd_l (cbd_len (.inl rfl) ?_) | refine cbd_int1 ?_ | refine ite_t ?_ | refine ite_f ?_ | refine ⟨_, rfl, ?_⟩)
    refine ite_b (fun h => ?_) (fun h => ?_)
    · repeat (first | with_reducible refine wps_nil ?_ | with_reducible refine wps_seq ?_ | refine wps_ret ?_ | refine wps_if ?_ | refine wps_newl ?_ | refine wps_set ?_ | refine wpt_not ?_ | refine wpt_or ?_ | refine wpt_and ?_ | refine wpt_B ?_ | refine wpt_test ?_ | refine wpe_var rfl ?_ | refine wpe_int ?_ | refine wpe_bl ?_ | refine wpe_str ?_ | refine wpe_non ?_ | refine wpe_ty ?_ | refine wpe_andV ?_ | refine wpe_orV ?_ | refine wpe_notV ?_ | refine wpe_if ?_ | refine wpe_call1 ?_ | refine wpe_call2 ?_ | refine wpe_call3 ?_ | refine wpe_callS rfl ?_ | refine wpe_tupL ?_ | refine wpe_lstL ?_ | refine wpe_call0 ?_ | refine wpe_cb1 ?_ | refine wpe_cb2 ?_ | refine wpe_neg ?_ | refine wpe_slice ?_ | refine wpe_op ?_ | refine wpe_chain ?_ | refine wpo_none ?_ | refine wpo_some ?_ | refine wpl_nil ?_ | refine wpl_cons ?_ | refine wpa_cons ?_ | refine wpi_zipL ?_ | refine wpi_enuT1 ?_ | refine wpi_rng1 ?_ | refine wpi_seq ?_ | refine opd_ix (n := 0) (.inr rfl) rfl rfl ?_ | refine opd_ix (n := 1) (.inr rfl) rfl rfl ?_ | refine opd_ix (n := 2) (.inr rfl) rfl rfl ?_ | refine opd_b ?_ | refine opd_l (opd_b ?_) | refine opd_i ?_ | refine opd_l (opd_eqI ?_) | refine opd_l (opd_neI ?_) | refine opd_l (opd_neS ?_) | refine opd_l (opd_eqS ?_) | refine cbd_l (cbd_len (.inr rfl) ?_) | refine cbd_l (cbd_len (.inl rfl) ?_) | refine cbd_int1 ?_ | refine ite_t ?_ | refine ite_f ?_ | refine ⟨_, rfl, ?_⟩)
      show D.bl _ = D.bl (decide _ && decide _)
      rw [h, Bool.true_and]
      rfl
    · show D.bl _ = D.bl (decide _ && decide _)
      rw [h, Bool.false_and]
  · cases x <;> first | rfl | cases h
theorem chrs_all {x : Str} {f : Nat → Bool} {g : D → Bool} (h : ∀ c, g (.str ⟨#[c]⟩) = f c) : (chrs x).all g = x.cps.toList.all f := by
  unfold chrs
  rw [List.all_map]
  congr 1
  funext c
  exact h c
theorem chrs_len {x : Str} : (chrs x).length = x.length := by
  unfold chrs
  rw [List.length_map, Array.length_toList]
  rfl
def isSign (z : Str) : D → Bool
  | .str x => decide (x.cps.toList.headD 0 ∈ z.cps.toList)
  | _ => false
theorem isName_str {x : Str} : isName (.str x) = (decide (1 ≤ (x.length : Int)) && decide ((x.length : Int) ≤ 12) && x.cps.toList.all fun c => decide (c ∈ letters.cps.toList)) := rfl
theorem zip_mem {d : D} : ∀ {xs ys : List D}, d ∈ zipD xs ys → ∃ x y, x ∈ xs ∧ y ∈ ys ∧ d = .tup [x, y]
  | [], _, h => nomatch h
  | _ :: _, [], h => nomatch h
  | x :: xs, y :: ys, h => by
    rcases List.mem_cons.mp h with rfl | h
    · exact ⟨x, y, by simp, by simp, rfl⟩
    · obtain ⟨a, b, h1, h2, e⟩ := zip_mem h
      exact ⟨a, b, by simp [h1], by simp [h2], e⟩
theorem d_is_ascending {f : Addr} {fd : FuncData} (B : Bly mg) (F : Fn K mg "is_ascending" s_is_ascending ["items"] f fd) : Dk P w K mg base "is_ascending" CX0 1 ["items"] (spW c_is_ascending 1) := by
  refine F.ok1 sc_is_ascending rfl fun cdv A outer s H E x' hr p => ⟨_, (pss_one (ps_ret (pe_callB (cr_allK (K := K) rfl rfl) (by rfl) B.all b_all (pa_cons (pe_lc (own := [("low", 1), ("high", 2)]) (g := gTup K 2 (gCons (gName 1) (gCons (gName 2) gNil))) (tt := tYes) (by rfl) sc_is_ascending.nd (RZ.pi_zipA (by rfl) B.zip (pa_cons (pv 0) (pa_cons (pe_slice (sl_K (K := K) rfl) (pv 0) (po_some pe_int) po_none) pa_nil))) (blkOk_by (N := ["items", "low", "high"]) (sc := defScope s_is_ascending) (by decide +kernel)) (fun _ _ _ _ _ => pg_tup rfl (pgs_cons (pg_name (i := 1) sc_is_ascending.nd rfl (by first | exact Or.inl rfl | exact Or.inr rfl)) (pgs_cons (pg_name (i := 2) sc_is_ascending.nd rfl (by first | exact Or.inl rfl | exact Or.inr rfl)) pgs_nil))) (fun _ _ _ _ _ => pts_nil) (fun _ _ _ _ _ => (pe_cmpR (op_lt.or op_lt_str) (pv 1) (pv 2) (nomark _)))) pa_nil)))), fun T => ?_⟩
  repeat (first | with_reducible refine wps_nil ?_ | with_reducible refine wps_seq ?_ | refine wps_ret ?_ | refine wps_if ?_ | refine wps_newl ?_ | refine wps_set ?_ | refine wpt_not ?_ | refine wpt_or ?_ | refine wpt_and ?_ | refine wpt_B ?_ | refine wpt_test ?_ | refine wpe_var rfl ?_ | refine wpe_int ?_ | refine wpe_bl ?_ | refine wpe_str ?_ | refine wpe_non ?_ | refine wpe_ty ?_ | refine wpe_andV ?_ | refine wpe_orV ?_ | refine wpe_notV ?_ | refine wpe_if ?_ | refine wpe_call1 ?_ | refine wpe_call2 ?_ | refine wpe_call3 ?_ | refine wpe_callS rfl ?_ | refine wpe_tupL ?_ | refine wpe_lstL ?_ | refine wpe_call0 ?_ | refine wpe_cb1 ?_ | refine wpe_cb2 ?_ | refine wpe_neg ?_ | refine wpe_slice ?_ | refine wpe_op ?_ | refine wpe_chain ?_ | refine wpo_none ?_ | refine wpo_some ?_ | refine wpl_nil ?_ | refine wpl_cons ?_ | refine wpa_cons ?_ | refine wpi_zipL ?_ | refine wpi_enuT1 ?_ | refine wpi_rng1 ?_ | refine wpi_seq ?_ | refine opd_ix (n := 0) (.inr rfl) rfl rfl ?_ | refine opd_ix (n := 1) (.inr rfl) rfl rfl ?_ | refine opd_ix (n := 2) (.inr rfl) rfl rfl ?_ | refine opd_b ?_ | refine opd_l (opd_b ?_) | refine opd_i ?_ | refine opd_l (opd_eqI ?_) | refine opd_l (opd_neI ?_) | refine opd_l (opd_neS ?_) | refine opd_l (opd_eqS ?_) | refine cbd_l (cbd_len (.inr rfl) ?_) | refine cbd_l (cbd_len (.inl rfl) ?_) | refine cbd_int1 ?_ | refine ite_t ?_ | refine ite_f ?_ | refine ⟨_, rfl, ?_⟩)
  refine wpe_map2 (fun d => .bl (ltP d)) (by simp) (by simp) (wpi_zipL (wpe_var rfl (wpe_slice (wpe_var rfl (wpo_some (wpe_int ⟨_, rfl, wpo_none ?_⟩))))))
  have e1 : ∀ ds : List D, cutD ds (some 1) none = ds.drop 1 := fun ds => cutD_from (k := 1)
  rcases p with ⟨zs, lz, p⟩ | ⟨xs, lx, p⟩
  · have fin : (zipD (zs.map D.int) ((zs.map D.int).drop 1)).length ≤ 100000 ∧ (∀ d ∈ zipD (zs.map D.int) ((zs.map D.int).drop 1), ∃ x y, d = .tup [x, y] ∧
        WpE ⟨E, fun _ _ => False, T⟩ (tOp (fun x y H Q => rI0 (fun i j => .bl (decide (i < j))) x y H Q ∨ (∃ i j, x = .str i ∧ y = .str j ∧ Q (.bl (decide (i.cps.toList < j.cps.toList))) H)) (tVar 1) (tVar 2)) (((wipeD [.da x', .no, .no] [1, 2]).set 1 (.da x)).set 2 (.da y)) fun z => z = .bl (ltP d)) := by
      refine ⟨by rw [zipD_len, List.length_map]; omega, fun d hd => ?_⟩
      obtain ⟨x, y, h1, h2, rfl⟩ := zip_mem hd
      obtain ⟨i, _, rfl⟩ := List.mem_map.mp h1
      obtain ⟨j, _, rfl⟩ := List.mem_map.mp (List.mem_of_mem_drop h2)
      refine ⟨_, _, rfl, ?_⟩
      repeat (first | with_reducible refine wps_nil ?_ | with_reducible refine wps_seq ?_ | refine wps_ret ?_ | refine wps_if ?_ | refine wps_newl ?_ | refine wps_set ?_ | refine wpt_not ?_ | refine wpt_or ?_ | refine wpt_and ?_ | refine wpt_B ?_ | refine wpt_test ?_ | refine wpe_var rfl ?_ | refine wpe_int ?_ | refine wpe_bl ?_ | refine wpe_str ?_ | refine wpe_non ?_ | refine wpe_ty ?_ | refine wpe_andV ?_ | refine wpe_orV ?_ | refine wpe_notV ?_ | refine wpe_if ?_ | refine wpe_call1 ?_ | refine wpe_call2 ?_ | refine wpe_call3 ?_ | refine wpe_callS rfl ?_ | refine wpe_tupL ?_ | refine wpe_lstL ?_ | refine wpe_call0 ?_ | refine wpe_cb1 ?_ | refine wpe_cb2 ?_ | refine wpe_neg ?_ | refine wpe_slice ?_ | refine wpe_op ?_ | refine wpe_chain ?_ | refine wpo_none ?_ | refine wpo_some ?_ | refine wpl_nil ?_ | refine wpl_cons ?_ | refine wpa_cons ?_ | refine wpi_zipL ?_ | refine wpi_enuT1 ?_ | refine wpi_rng1 ?_ | refine wpi_seq ?_ | refine opd_ix (n := 0) (.inr rfl) rfl rfl ?_ | refine opd_ix (n := 1) (.inr rfl) rfl rfl ?_ | refine opd_ix (n := 2) (.inr rfl) rfl rfl ?_ | refine opd_b ?_ | refine opd_l (opd_b ?_) | refine opd_i ?_ | refine opd_l (opd_eqI ?_) | refine opd_l (opd_neI ?_) | refine opd_l (opd_neS ?_) | refine opd_l (opd_eqS ?_) | refine cbd_l (cbd_len (.inr rfl) ?_) | refine cbd_l (cbd_len (.inl rfl) ?_) | refine cbd_int1 ?_ | refine ite_t ?_ | refine ite_f ?_ | refine ⟨_, rfl, ?_⟩)
      rfl
    rcases p with rfl | rfl
    · refine sld_l (sld_L ⟨_, _, .inl ⟨rfl, rfl⟩, ?_⟩)
      rw [e1]
      exact ⟨.inl fun d hd => by obtain ⟨i, _, rfl⟩ := List.mem_map.mp hd; rfl, fin.1, fin.2, cbd_allm rfl⟩
    · refine sld_r (sld_T ⟨_, _, .inr ⟨rfl, rfl⟩, ?_⟩)
      rw [e1]
      exact ⟨.inl fun d hd => by obtain ⟨i, _, rfl⟩ := List.mem_map.mp hd; rfl, fin.1, fin.2, cbd_allm rfl⟩
  · subst p
    refine sld_l (sld_L ⟨_, _, .inl ⟨rfl, rfl⟩, ?_⟩)
    rw [e1]
    refine ⟨.inl fun d hd => by obtain ⟨i, _, rfl⟩ := List.mem_map.mp hd; rfl, by rw [zipD_len, List.length_map]; omega, fun d hd => ?_, cbd_allm rfl⟩
    obtain ⟨x, y, h1, h2, rfl⟩ := zip_mem hd
    obtain ⟨i, _, rfl⟩ := List.mem_map.mp h1
    obtain ⟨j, _, rfl⟩ := List.mem_map.mp (List.mem_of_mem_drop h2)
    refine ⟨_, _, rfl, ?_⟩
    refine wpe_op (wpe_var rfl (wpe_var rfl (opd_r (opd_ltS rfl))))
end
end Nv
namespace Nv
open PySem PySem.Spec PyProof.Rows L2
variable [Tb]
abbrev s__law_mixed : Stmt := top 20
abbrev s__law_draw : Stmt := top 21
abbrev s__law_stream : Stmt := top 19
section
variable {P : Program} {w : World} {K : PySem.W.Frag} {mg : Str → Option Value} {base : Heap}
theorem scMixed : FnScope ["number", "step"] ["number", "step"] (defScope s__law_mixed) :=
  ⟨rfl, rfl, rfl, by decide +kernel, rfl, by decide +kernel, by decide +kernel⟩
def spMix : Sp := fun vs H Q _ => ∃ (a b : Int), vs = [.int a, .int b] ∧ ∀ z : Int, 0 ≤ z → Q (.int z) H
theorem ok_mixed {f : Addr} {fd : FuncData} (B : Bly mg) (F : Fun K "_law_mixed" "_law_mixed" s__law_mixed f fd) :
    FnOk P w K mg base CX0 1 f fd ["number", "step"] spMix := by
  refine F.ok scMixed (fun vs H Q E h => ?_) (fun cdv A outer s H vs Q E hr h => ?_)
  · obtain ⟨a, b, rfl, _⟩ := h
    rfl
  · obtain ⟨a, b, rfl, q⟩ := h
    refine ⟨_, (pss_cons (ps_set (i := 0) scMixed.nd rfl (.inl rfl) (pe_op op_mod (pe_callTy call_int1 (by rfl) B.int b_int (pa_cons (pe_op op_add (pe_op op_add (pe_op op_mul (pv 0) pe_int) (pe_op op_mul pe_int (pv 1))) pe_int) pa_nil)) pe_int))
      (pss_cons (ps_set (i := 0) scMixed.nd rfl (.inl rfl) (pe_op op_mod (pe_callTy call_int1 (by rfl) B.int b_int (pa_cons (pe_op op_mul (pv 0) (pe_op op_add (pe_op op_fdivN (pv 0) pe_int) pe_int)) pa_nil)) pe_int))
      (pss_one (ps_ret (pe_op op_mod (pe_callTy call_int1 (by rfl) B.int b_int (pa_cons (pe_op op_mul (pv 0) (pe_op op_add (pe_op op_fdivN (pv 0) pe_int) pe_int)) pa_nil)) pe_int))))), ?_⟩
    refine ⟨_, rfl, _, _, rfl, rfl, .inr ⟨by decide, by decide⟩, _, rfl, _, _, rfl, rfl, .inl ⟨by decide, by decide⟩, _, _, rfl, rfl, _, _, rfl, rfl, .inl ⟨_, rfl, _, _, rfl, rfl, (by show (0 : Int) < 2147483647; decide), ?_⟩⟩
    generalize hx : ((a * 48271 + 7919 * b + 30103) % 2147483647) = x
    have x0 : 0 ≤ x := by rw [← hx]; exact Int.emod_nonneg _ (by decide)
    have x1 : x < 2147483647 := by rw [← hx]; exact Int.emod_lt_of_pos _ (by decide)
    refine ⟨_, rfl, _, rfl, _, _, rfl, rfl, ⟨by decide, by decide⟩, _, _, rfl, rfl, _, _, rfl, rfl, .inl ⟨by omega, by omega⟩, .inl ⟨_, rfl, _, _, rfl, rfl, (by show (0 : Int) < 2147483647; decide), ?_⟩⟩
    generalize hy : (x * (x.fdiv 1009 + 69621)) % 2147483647 = y
    have y0 : 0 ≤ y := by rw [← hy]; exact Int.emod_nonneg _ (by decide)
    have y1 : y < 2147483647 := by rw [← hy]; exact Int.emod_lt_of_pos _ (by decide)
    refine ⟨_, rfl, _, rfl, _, _, rfl, rfl, ⟨by decide, by decide⟩, _, _, rfl, rfl, _, _, rfl, rfl, .inl ⟨by omega, by omega⟩, .inl ⟨_, rfl, _, _, rfl, rfl, (by show (0 : Int) < 2147483399; decide), ?_⟩⟩
    exact q _ (Int.emod_nonneg _ (by decide))
/-- a draw: some number below many -/
def spDrw (K : PySem.W.Frag) : Sp := fun vs H Q _ => ∃ (p c : Addr) (cs : List Int) (x q s n m : Int), vs = [.ref p, .int m] ∧ 0 < m ∧ m.natAbs < 2 ^ 200 ∧
  H p = some (.lst [.ref c, .int x, .int q, .int s, .int n]) ∧ SqL K H c (cs.map V.int) ∧ c ≠ p ∧ 0 ≤ x ∧ 0 ≤ q ∧
  ∀ (d x' q' n' : Int), 0 ≤ d → d < m → 0 ≤ x' → 0 ≤ q' → Q (.int d) (upd H p (.lst [.ref c, .int x', .int q', .int s, .int n']))
theorem scDraw : FnScope ["stream", "many", "cell", "told"] ["stream", "many"] (defScope s__law_draw) :=
  ⟨rfl, rfl, rfl, by decide +kernel, rfl, by decide +kernel, by decide +kernel⟩
theorem sq_upd {H : Hp} {c p : Addr} {xs : List V} {o : HO} (h : SqL K H c xs) (ne : c ≠ p) : SqL K (upd H p o) c xs := by
  rcases h with (h | ⟨o, h⟩) | h
  · exact .inl (.inl (by rw [upd_ne ne]; exact h))
  · exact .inl (.inr ⟨o, by rw [upd_ne ne]; exact h⟩)
  · exact .inr h
theorem ok_draw {f : Addr} {fd : FuncData} (B : Bly mg) (F : Fun K "_law_draw" "_law_draw" s__law_draw f fd) (D__law_mixed : Dk P w K mg base "_law_mixed" CX0 1 ["number", "step"] spMix) :
    FnOk P w K mg base CX0 2 f fd ["stream", "many"] (spDrw K) := by
  refine F.ok scDraw (fun vs H Q E h => ?_) (fun cdv A outer s H vs Q E hr h => ?_)
  · obtain ⟨p, c, cs, x, q, s, n, m, rfl, _⟩ := h
    rfl
  · obtain ⟨p, c, cs, x, q, sd, n, m, rfl, m0, m1, hp, hc, ne, x0, q0, k⟩ := h
    obtain ⟨t2, h2, hq2⟩ : ∃ t2, PSs (cxOf CX0 P w K mg base ["stream", "many", "cell", "told"] "_law_draw" (defScope s__law_draw) f cdv A outer s H E).nox ((defBody s__law_draw).drop 1) t2 ∧
        ∀ (H' : Hp) (σ' : L2.St) (x' q' n' : Int), σ'[0]? = some (some (.ref p)) → σ'[1]? = some (some (.int m)) → σ'.length = 4 → H' p = some (.lst [.ref c, .int x', .int q', .int sd, .int n']) → 0 ≤ x' → 0 ≤ q' →
          (∀ (d x2 q2 n2 : Int), 0 ≤ d → d < m → 0 ≤ x2 → 0 ≤ q2 → Q (.int d) (upd H' p (.lst [.ref c, .int x2, .int q2, .int sd, .int n2]))) → t2 { nx := fun _ H' => Q .non H', rt := Q } σ' H' := by
      refine ⟨_, (pss_cons (ps_if (pt_cmpR op_gt (pe_ix ix_list (pv 0) pe_int (fun _ _ => rfl)) pe_int (nomark _)) (pss_cons (ps_set (i := 3) scDraw.nd rfl (.inl rfl) (pe_op op_mod (pe_callTy call_int1 (by rfl) B.int b_int (pa_cons (pe_ix ix_list (pv 0) pe_int (fun _ _ => rfl)) pa_nil)) (pv 1)))
        (pss_cons (ps_asg (pe_op op_fdivW (pe_ix ix_list (pv 0) pe_int (fun _ _ => rfl)) (pv 1)) (pg_sub (pv 0) pe_int set_list))
        (pss_one (ps_ret (pv 3))))) pss_nil)
      (pss_cons (ps_asg (pe_op op_add (pe_ix ix_list (pv 0) pe_int (fun _ _ => rfl)) pe_int) (pg_sub (pv 0) pe_int set_list))
      (pss_one (ps_ret (pe_op op_mod (pe_callTy call_int1 (by rfl) B.int b_int (pa_cons (pe_callD D__law_mixed (hr.mono (by decide)) (by rfl) pass0 (pa_cons (pe_ix ix_list (pv 0) pe_int (fun _ _ => rfl)) (pa_cons (pe_ix ix_list (pv 0) pe_int (fun _ _ => rfl)) pa_nil))) pa_nil)) (pv 1)))))), ?_⟩
      intro H' σ' x' q' n' s0 s1 sl hp' x0' q0' k'
      refine ⟨_, s0, p, _, _, _, rfl, rfl, SqL.of hp', (by rfl), _, _, rfl, rfl, _, rfl, ?_⟩
      refine ite2 (fun h => ?_) (fun h => ?_)
      · refine ⟨_, s0, p, _, _, _, rfl, rfl, SqL.of hp', (by rfl), .inl ⟨_, rfl, _, s1, _, _, rfl, rfl, m0, ?_⟩⟩
        have a0 : (σ'.set 3 (some (V.int (q' % m))))[0]? = some (some (.ref p)) := by rw [List.getElem?_set_ne (by decide)]; exact s0
        have a1 : (σ'.set 3 (some (V.int (q' % m))))[1]? = some (some (.int m)) := by rw [List.getElem?_set_ne (by decide)]; exact s1
        refine ⟨_, a0, p, _, _, _, rfl, rfl, SqL.of hp', (by rfl), _, a1, _, _, rfl, rfl, wide_div m0 m1 (by decide) (by decide), _, a0, p, _, _, _, rfl, rfl, hp', (by rfl), _, List.getElem?_set_self (by omega), ?_⟩
        exact k' _ _ _ _ (Int.emod_nonneg _ (by omega)) (Int.emod_lt_of_pos _ m0) x0' (Int.ediv_nonneg q0' (by omega))
      · have hp2 : (upd H' p (.lst [.ref c, .int x', .int q', .int sd, .int (n' + 1)])) p = some (.lst [.ref c, .int x', .int q', .int sd, .int (n' + 1)]) := upd_same
        refine ⟨_, s0, p, _, _, _, rfl, rfl, SqL.of hp', (by rfl), _, _, rfl, rfl, _, s0, p, _, _, _, rfl, rfl, hp', (by rfl), ?_⟩
        refine ⟨_, s0, p, _, _, _, rfl, rfl, SqL.of hp2, (by rfl), _, s0, p, _, _, _, rfl, rfl, SqL.of hp2, (by rfl), _, _, rfl, fun z z0 => .inl ⟨_, rfl, _, s1, _, _, rfl, rfl, m0, ?_⟩⟩
        exact k' _ _ _ _ (Int.emod_nonneg _ (by omega)) (Int.emod_lt_of_pos _ m0) x0' q0'
    refine ⟨_, pss_cons (ps_if (PW.pt (pw_and (pt_cmpR op_eq (pe_ix ix_list (pv 0) pe_int (fun _ _ => rfl)) pe_int (by with_unfolding_all rfl)) (pw_and1 (pt_cmpR op_lt (pe_ix ix_list (pv 0) pe_int (fun _ _ => rfl)) (pe_callB call_len_seq (by rfl) B.len b_len (pa_cons (pe_ix ix_list (pv 0) pe_int (fun _ _ => rfl)) pa_nil)) (nomark _)))))
        (pss_cons (ps_set (i := 2) scDraw.nd rfl (.inl rfl) (pe_ix ix_list (pe_ix ix_list (pv 0) pe_int (fun _ _ => rfl)) (pe_ix ix_list (pv 0) pe_int (fun _ _ => rfl)) (fun _ _ => rfl)))
        (pss_cons (ps_asg (pe_op op_add (pe_ix ix_list (pv 0) pe_int (fun _ _ => rfl)) pe_int) (pg_sub (pv 0) pe_int set_list))
        (pss_cons (ps_if (pt_cmpR op_lt (pv 2) (pe_op op_pow pe_int pe_int) (nomark _)) (pss_cons (ps_asg (pe_op op_add (pe_ix ix_list (pv 0) pe_int (fun _ _ => rfl)) pe_int) (pg_sub (pv 0) pe_int set_list))
          (pss_one (ps_ret (pe_op op_mod (pe_callTy call_int1 (by rfl) B.int b_int (pa_cons (pe_callD D__law_mixed (hr.mono (by decide)) (by rfl) pass0 (pa_cons (pv 2) (pa_cons (pe_ix ix_list (pv 0) pe_int (fun _ _ => rfl)) pa_nil))) pa_nil)) (pv 1))))) pss_nil)
        (pss_one (ps_asg (pv 2) (pg_sub (pv 0) pe_int set_list)))))) pss_nil) h2, ?_⟩
    refine ⟨_, rfl, p, _, _, _, rfl, rfl, SqL.of hp, (by rfl), rfl, _, rfl, ?_⟩
    refine ite2 (fun h => ?_) (fun h => ?_)
    · have hq : q = 0 := by have := of_decide_eq_true h; exact V.int.inj this
      refine ⟨_, rfl, p, _, _, _, rfl, rfl, SqL.of hp, (by rfl), _, rfl, p, _, _, _, rfl, rfl, SqL.of hp, (by rfl), c, _, rfl, .inl hc, _, _, rfl, rfl, _, rfl, ?_⟩
      refine ite2 (fun h => ?_) (fun h => ?_)
      · have lt : x < cs.length := by have := of_decide_eq_true h; rw [List.length_map] at this; exact this
        obtain ⟨xn, rfl⟩ : ∃ xn : Nat, x = xn := ⟨x.toNat, by omega⟩
        have lx : xn < cs.length := by omega
        refine ⟨_, rfl, p, _, _, _, rfl, rfl, SqL.of hp, (by rfl), _, rfl, p, _, _, _, rfl, rfl, SqL.of hp, (by rfl), c, _, _, _, rfl, rfl, hc, atI_nat (v := .int cs[xn]) (by rw [List.getElem?_map, List.getElem?_eq_getElem lx]; rfl), ?_⟩
        generalize cs[xn] = cell
        refine ⟨_, rfl, p, _, _, _, rfl, rfl, SqL.of hp, (by rfl), _, _, rfl, rfl, _, rfl, p, _, _, _, rfl, rfl, hp, (by rfl), ?_⟩
        have hp2 : (upd H p (.lst [.ref c, .int (xn + 1), .int q, .int sd, .int n])) p = some (.lst [.ref c, .int (xn + 1), .int q, .int sd, .int n]) := upd_same
        refine ⟨_, rfl, _, _, rfl, rfl, ⟨by decide, by decide, by decide⟩, _, _, rfl, rfl, _, rfl, ?_⟩
        refine ite2 (fun h => ?_) (fun h => ?_)
        · have hp3 : (upd (upd H p (.lst [.ref c, .int (xn + 1), .int q, .int sd, .int n])) p (.lst [.ref c, .int (xn + 1), .int q, .int sd, .int (n + 1)])) p = some (.lst [.ref c, .int (xn + 1), .int q, .int sd, .int (n + 1)]) := upd_same
          refine ⟨_, rfl, p, _, _, _, rfl, rfl, SqL.of hp2, (by rfl), _, _, rfl, rfl, _, rfl, p, _, _, _, rfl, rfl, hp2, (by rfl), ?_⟩
          refine ⟨_, rfl, _, rfl, p, _, _, _, rfl, rfl, SqL.of hp3, (by rfl), _, _, rfl, fun z z0 => .inl ⟨_, rfl, _, rfl, _, _, rfl, rfl, m0, ?_⟩⟩
          show Q _ (upd (upd H p _) p _)
          rw [upd_upd]
          exact k _ _ _ _ (Int.emod_nonneg _ (by omega)) (Int.emod_lt_of_pos _ m0) (by omega) q0
        · have big : ¬ cell < 10 ^ 18 := fun z => h (decide_eq_true (show cell < 10 ^ Int.toNat 18 from z))
          refine ⟨_, rfl, _, rfl, p, _, _, _, rfl, rfl, hp2, (by rfl), ?_⟩
          refine hq2 _ _ (xn + 1) cell n rfl rfl rfl upd_same (by omega) (by omega) fun d x2 q2 n2 d0 d1 y0 y1 => ?_
          rw [upd_upd, upd_upd]
          exact k d x2 q2 n2 d0 d1 y0 y1
      · exact hq2 H _ x q n rfl rfl rfl hp x0 q0 k
    · exact hq2 H _ x q n rfl rfl rfl hp x0 q0 k
/-- the state of a script -/
def spStr (K : PySem.W.Frag) : Sp := fun vs H Q _ => ∃ (a : Addr) (ns : List Int), vs = [.ref a] ∧ SqL K H a (ns.map V.int) ∧ ns.length ≤ 1000 ∧
  ∀ (p c t : Addr) (cs : List Int) (x : HO) (s : Int), H t = none → upd H t x c = none → upd (upd H t x) c (.lst (cs.map V.int)) p = none → Q (.ref p) (upd (upd (upd H t x) c (.lst (cs.map V.int))) p (.lst [.ref c, .int 0, .int 0, .int s, .int 0]))
theorem scStream : FnScope ["script", "cells", "seed", "cell"] ["script"] (defScope s__law_stream) :=
  ⟨rfl, rfl, rfl, by decide +kernel, rfl, by decide +kernel, by decide +kernel⟩
theorem cutV_map {ns : List Int} {lo hi : Option Int} : ∃ cs : List Int, cutV (ns.map V.int) lo hi = cs.map V.int ∧ cs.length ≤ ns.length :=
  ⟨(ns.drop (HT.sIx (ns.map V.int).length 0 lo)).take (HT.sIx (ns.map V.int).length (ns.map V.int).length hi - HT.sIx (ns.map V.int).length 0 lo), by unfold cutV; rw [← List.map_drop, ← List.map_take], by
    rw [List.length_take, List.length_drop]; omega⟩
theorem ok_stream {f : Addr} {fd : FuncData} (B : Bly mg) (F : Fun K "_law_stream" "_law_stream" s__law_stream f fd) :
    FnOk P w K mg base CX0 1 f fd ["script"] (spStr K) := by
  refine F.ok scStream (fun vs H Q E h => ?_) (fun cdv A outer s H vs Q E hr h => ?_)
  · obtain ⟨a, ns, rfl, _⟩ := h
    rfl
  · obtain ⟨a, ns, rfl, ha, l, k⟩ := h
    refine ⟨_, (pss_cons (ps_set (i := 1) scStream.nd rfl (.inl rfl) (pe_callTy call_list_of (by rfl) B.list b_list (pa_cons (pe_slice sl_list (pv 0) po_none (po_some pe_int)) pa_nil)))
      (pss_cons (ps_set (i := 2) scStream.nd rfl (.inl rfl) pe_int)
      (pss_cons (ps_for PassesOwn.never rfl (pi_list (pv 1)) (pg_name (i := 3) scStream.nd rfl (.inl rfl)) (pss_one (ps_set (i := 2) scStream.nd rfl (.inl rfl) (pe_op op_mod (pe_callTy call_int1 (by rfl) B.int b_int (pa_cons (pe_op op_add (pe_op op_mul (pv 2) pe_int) (pv 3)) pa_nil)) pe_int))))
      (pss_one (ps_ret (pe_lst (pa_cons (pv 1) (pa_cons pe_int (pa_cons pe_int (pa_cons (pv 2) (pa_cons pe_int pa_nil))))))))))), ?_⟩
    obtain ⟨cs, ec, lc⟩ := cutV_map (ns := ns) (lo := none) (hi := some 63)
    refine ⟨_, rfl, 63, rfl, a, _, rfl, ha, fun t ht => ⟨t, _, rfl, .inl (SqL.of upd_same), fun c hc => ?_⟩⟩
    rw [ec] at hc ⊢
    refine ⟨_, rfl, c, rfl, ⟨_, SqL.of upd_same⟩, for_list (xs := cs.map V.int) (fun i σ' H' => H' = upd (upd H t (.lst (cs.map V.int))) c (.lst (cs.map V.int)) ∧ σ'[1]? = some (some (.ref c)) ∧ σ'.length = 4 ∧ ∃ z : Int, σ'[2]? = some (some (.int z))) ⟨rfl, rfl, rfl, 11, rfl⟩ (fun i σ' H' _ h => ?_) (fun i x σ' H' e h => ?_) (fun σ' H' h => ?_)⟩
    · obtain ⟨rfl, _⟩ := h
      exact SqL.of upd_same
    · obtain ⟨rfl, s1, sl, z, s2⟩ := h
      rw [List.getElem?_map] at e
      obtain ⟨y, _, rfl⟩ := Option.map_eq_some_iff.mp e
      have a1 : (σ'.set 3 (some (V.int y)))[2]? = some (some (.int z)) := by rw [List.getElem?_set_ne (by decide)]; exact s2
      have a2 : (σ'.set 3 (some (V.int y)))[3]? = some (some (.int y)) := List.getElem?_set_self (by omega)
      refine ⟨_, a1, _, _, rfl, rfl, .inr ⟨by decide, by decide⟩, _, a2, _, _, rfl, rfl, .inl ⟨_, rfl, _, _, rfl, rfl, (by show (0 : Int) < 2147483647; decide), rfl, ?_, ?_, _, List.getElem?_set_self (by rw [List.length_set]; omega)⟩⟩
      · rw [List.getElem?_set_ne (by decide), List.getElem?_set_ne (by decide)]
        exact s1
      · rw [List.length_set, List.length_set]
        exact sl
    · obtain ⟨rfl, s1, sl, z, s2⟩ := h
      exact ⟨_, s1, _, s2, (by show 5 ≤ sizeLine; decide), fun p hp => k p c t cs _ z ht hc hp⟩
def c_draw : Spc := spS (fun ds => ∃ m : Int, ds = [.int m] ∧ 0 < m ∧ m.natAbs < 2 ^ 200) fun ds d => ∀ m, ds = [.int m] → ∃ z, d = .int z ∧ 0 ≤ z ∧ z < m
theorem d_mixed {f : Addr} {fd : FuncData} (B : Bly mg) (F : Fn K mg "_law_mixed" s__law_mixed ["number", "step"] f fd) : Dk P w K mg base "_law_mixed" CX0 1 ["number", "step"] spMix :=
  ⟨f, fd, ok_mixed B F.F, F.m, F.F.kp, F.b⟩
theorem d_stream {f : Addr} {fd : FuncData} (B : Bly mg) (F : Fn K mg "_law_stream" s__law_stream ["script"] f fd) : Dk P w K mg base "_law_stream" CX0 1 ["script"] (spStr K) :=
  ⟨f, fd, ok_stream B F.F, F.m, F.F.kp, F.b⟩
theorem d_draw {f : Addr} {fd : FuncData} (B : Bly mg) (F : Fn K mg "_law_draw" s__law_draw ["stream", "many"] f fd) (D__law_mixed : Dk P w K mg base "_law_mixed" CX0 1 ["number", "step"] spMix) :
    Dk P w K mg base "_law_draw" CX0 2 ["stream", "many"] (spW c_draw 2) := by
  refine ⟨f, fd, (ok_draw B F.F D__law_mixed).imp fun vs H Q E h => ?_, F.m, F.F.kp, F.b⟩
  obtain ⟨S, G, as, l, sm, so, ar, ⟨a, ds, e, m, em, m0, m1⟩, k, _⟩ := h
  subst em
  subst e
  cases ar with
  | cons h1 t =>
    cases t with
    | cons h2 t =>
      cases t
      obtain ⟨rfl, hS⟩ := h1
      cases h2
      obtain ⟨gn, o, ha, mo⟩ := so a hS.1
      rcases mo with ⟨_, xs, rfl, c, cs, x, q, s, n, rfl, gc, x0, q0⟩ | ⟨u, _⟩
      case inr => exact absurd u hS.2
      have ne : c ≠ a := fun z => by rw [z, gn] at gc; exact nomatch gc
      refine ⟨a, c, cs, x, q, s, n, m, rfl, m0, m1, ha, .inl (.inl (sm _ _ gc)), ne, x0, q0, fun d x' q' n' d0 d1 x0' q0' => ?_⟩
      refine k _ (.int d) G _ ⟨.refl _, fun b u e n => ?_, fun b e => ?_, fun b e _ => e⟩ (fun b u e => ?_) (fun b hb => ?_) (.int d) (fun a2 ds2 e2 m2 em2 => ?_)
      · rw [upd_ne (fun q => n (by rw [q]; exact hS.1))]; exact e
      · by_cases q : b = a
        · rw [q, upd_same]; exact fun q => nomatch q
        · rw [upd_ne q]; exact e
      · rw [upd_ne (fun q => by rw [q, gn] at e; exact nomatch e)]; exact sm b u e
      · obtain ⟨g, o2, e2, mo2⟩ := so b hb
        by_cases q : b = a
        · subst q
          exact ⟨g, _, upd_same, .inl ⟨hS.2, _, rfl, c, cs, _, _, _, _, rfl, gc, x0', q0'⟩⟩
        · exact ⟨g, o2, by rw [upd_ne q]; exact e2, mo2⟩
      · subst em2
        obtain ⟨_, e3⟩ := List.cons.inj e2
        have := map_da_inj (as := [.int m]) (bs := [.int m2]) e3
        obtain rfl := D.int.inj (List.cons.inj this).1
        exact ⟨d, rfl, d0, d1⟩
end
section
variable {R : Rg} {δ : List Sl} {Φ : List Sl → Prop} {Ψ : D → Prop} {K : PySem.W.Frag} {u : TS}
/-- stream = _law_stream(script); .. -/
theorem wps_stream (us : ∀ a, Tb.U a → R.T.S a) {i : Nat} {E : XK} {a : Addr} {ns : List Int} (e0 : δ[0]? = some (.fx (.ref a))) (l : ns.length ≤ 1000) (sq : ∀ H, (∀ u, R.T.F a u → H a = some u) → SqL K H a (ns.map V.int))
    (h : ∀ p, ¬ R.T.O p → WpS ⟨R.E, R.X, R.T.add p⟩ u (δ.set i (.st p)) (fun δ' => Φ (δ'.map dropSt)) Ψ) :
    WpS R (tSeq (tAsg (tCall (spStr K) [] E (tCons (tVar 0) tNil)) (gName i)) u) δ Φ Ψ := fun σ G H en rz Z k1 k2 => by
  obtain ⟨o, eo, rfl⟩ := en.get 0 _ e0
  refine ⟨_, eo, a, ns, rfl, sq H fun u hu => (en.inv a u hu).1, l, fun p c t cs x s ht hc hp => ?_⟩
  have e1 := en.grow (same_upd (o := x) ht)
  have gc : G c = none := e1.same.free hc
  have s2 : Stp S0 G (upd H t x) (upd G c (.lst (cs.map V.int))) (upd (upd H t x) c (.lst (cs.map V.int))) := .new e1.same hc
  have e2 := e1.step0 s2 (upd_same2 e1.same)
  have e3 := e2.newSt us (i := i) (p := p) (xs := [.ref c, .int 0, .int 0, .int s, .int 0]) ⟨c, cs, 0, 0, s, 0, rfl, upd_same, by decide, by decide⟩ hp
  have fp := e2.fresh5 hp
  have sB : StB R.T.O R.T.S G H (upd G c (.lst (cs.map V.int))) (upd (upd (upd H t x) c (.lst (cs.map V.int))) p (.lst [.ref c, .int 0, .int 0, .int s, .int 0])) :=
    (((Stp.grow (S := R.T.S) (same_upd ht)).trans (s2.zero (S := R.T.S))).toB en.old).trans ((Stp.grow (S := R.T.S) (same_upd hp)).toB e2.old)
  refine h p fp.2.2 _ _ _ e3 (fun C dd w d G' H' sB' hx a xx sm so => ?_) Z (fun δ' σ' G' H' sB' e' q => ?_) (fun v d G' H' sB' sm so a q => ?_)
  · exact rz C dd w d G' H' (sB.trans (StB.narrow fp.2.2 sB')) hx a xx sm fun b hb => so b (.inl hb)
  · exact k1 _ σ' G' H' (sB.trans (StB.narrow fp.2.2 sB')) e'.narrow q
  · exact k2 v d G' H' (sB.trans (StB.narrow fp.2.2 sB')) sm (fun b hb => so b (.inl hb)) a q
end
end Nv
namespace Nv
open PySem PySem.Spec PyProof.Rows L2
variable [Tb]
abbrev s___init__ : Stmt := inClass (top 16) 0
abbrev s_standings : Stmt := inClass (top 16) 1
abbrev s_gaps : Stmt := inClass (top 16) 2
abbrev s_nexts : Stmt := inClass (top 16) 3
abbrev s_moved : Stmt := inClass (top 16) 4
abbrev s_left : Stmt := inClass (top 16) 5
abbrev s__lots : Stmt := inClass (top 16) 7
abbrev s__is_lot : Stmt := inClass (top 16) 8
abbrev s__check_lot : Stmt := inClass (top 16) 9
def lN : List Str := ["things", "labels"]
/-- a service of so many things and labels -/
def lwD (C : Addr) (t n : Nat) : D := .ins C lN [.int t, .int n]
structure OkL (t n : Nat) : Prop where
  t1 : 1 ≤ t
  t4 : t ≤ 4
  tn : t ≤ n
  n7 : n ≤ 7
section
variable {P : Program} {w : World} {K : PySem.W.Frag} {mg : Str → Option Value} {base : Heap} {C fI : Addr} {fdI : FuncData}
abbrev s_check_count : Stmt := top 12
theorem sc_check_count : FnScope ["value", "least", "most"] ["value", "least", "most"] (defScope s_check_count) :=
  ⟨rfl, rfl, rfl, by decide +kernel, rfl, by decide +kernel, by decide +kernel⟩
abbrev s_without_item : Stmt := top 17
theorem sc_without_item : FnScope ["items", "at"] ["items", "at"] (defScope s_without_item) :=
  ⟨rfl, rfl, rfl, by decide +kernel, rfl, by decide +kernel, by decide +kernel⟩
theorem sc___init__ : FnScope ["self", "things", "labels"] ["self", "things", "labels"] (defScope s___init__) :=
  ⟨rfl, rfl, rfl, by decide +kernel, rfl, by decide +kernel, by decide +kernel⟩
theorem sc_standings : FnScope ["self", "many", "lot"] ["self"] (defScope s_standings) :=
  ⟨rfl, rfl, rfl, by decide +kernel, rfl, by decide +kernel, by decide +kernel⟩
theorem sc_gaps : FnScope ["self", "standing"] ["self", "standing"] (defScope s_gaps) :=
  ⟨rfl, rfl, rfl, by decide +kernel, rfl, by decide +kernel, by decide +kernel⟩
theorem sc_nexts : FnScope ["self", "standing", "gap"] ["self", "standing", "gap"] (defScope s_nexts) :=
  ⟨rfl, rfl, rfl, by decide +kernel, rfl, by decide +kernel, by decide +kernel⟩
theorem sc_moved : FnScope ["self", "standing", "gap", "goal", "nexts", "old", "new"] ["self", "standing", "gap", "goal"] (defScope s_moved) :=
  ⟨rfl, rfl, rfl, by decide +kernel, rfl, by decide +kernel, by decide +kernel⟩
theorem sc__lots : FnScope ["self", "many", "labels"] ["self", "many"] (defScope s__lots) :=
  ⟨rfl, rfl, rfl, by decide +kernel, rfl, by decide +kernel, by decide +kernel⟩
theorem sc__is_lot : FnScope ["self", "value", "label"] ["self", "value"] (defScope s__is_lot) :=
  ⟨rfl, rfl, rfl, by decide +kernel, rfl, by decide +kernel, by decide +kernel⟩
theorem sc__check_lot : FnScope ["self", "value"] ["self", "value"] (defScope s__check_lot) :=
  ⟨rfl, rfl, rfl, by decide +kernel, rfl, by decide +kernel, by decide +kernel⟩
/-- the class -/
structure TLo (K : PySem.W.Frag) (mg : Str → Option Value) (C fI : Addr) (fdI : FuncData) : Prop where
  cl : Cls K C
  n1 : NoAttr K C "things"
  n2 : NoAttr K C "labels"
  M : Mk K C fI
  m : mg "LabelWorld" = some (.ref C)
  F : Fun K "__init__" "LabelWorld.__init__" s___init__ fI fdI
  b : Binds K fdI ["self", "things", "labels"] []
def c_count : Spc := { pre := fun as => ∃ v l m : Int, as = [.da (.int v), .da (.int l), .da (.int m)] ∧ l ≤ v ∧ v ≤ m, post := fun as d => True }
theorem d_countL {f : Addr} {fd : FuncData} (B : Bly mg) (F : Fn K mg "check_count" s_check_count ["value", "least", "most"] f fd) (D_is_integer : Dk P w K mg base "is_integer" CX0 1 ["value"] (spW c_is_integer 1)) :
    Dk P w K mg base "check_count" CX0 2 ["value", "least", "most"] (spW c_count 3) := by
  refine F.ok sc_check_count rfl fun cdv A outer s H E as hr ⟨v, l, m, e, h1, h2⟩ _ => ?_
  subst e
  refine ⟨_, (pss_one (ps_if (PW.pt (pw_or (pt_not (pt_val (pe_callD D_is_integer (hr.mono (by decide)) (by rfl) pass0 (pa_cons (pv 0) pa_nil)))) (pw_or1 (pt_not (pt_chain op_le op_le (pv 1) (pv 0) (pv 2)))))) (pss_one ps_never) pss_nil)), fun T => ?_⟩
  repeat (first | with_reducible refine wps_nil ?_ | with_reducible refine wps_seq ?_ | refine wps_ret ?_ | refine wps_if ?_ | refine wps_newl ?_ | refine wps_set ?_ | refine wpt_not ?_ | refine wpt_or ?_ | refine wpt_and ?_ | refine wpt_B ?_ | refine wpt_test ?_ | refine wpe_var rfl ?_ | refine wpe_int ?_ | refine wpe_bl ?_ | refine wpe_str ?_ | refine wpe_non ?_ | refine wpe_ty ?_ | refine wpe_andV ?_ | refine wpe_orV ?_ | refine wpe_notV ?_ | refine wpe_if ?_ | refine wpe_call1 ?_ | refine wpe_call2 ?_ | refine wpe_call3 ?_ | refine wpe_callS rfl ?_ | refine wpe_tupL ?_ | refine wpe_lstL ?_ | refine wpe_call0 ?_ | refine wpe_cb1 ?_ | refine wpe_cb2 ?_ | refine wpe_neg ?_ | refine wpe_slice ?_ | refine wpe_op ?_ | refine wpe_chain ?_ | refine wpo_none ?_ | refine wpo_some ?_ | refine wpl_nil ?_ | refine wpl_cons ?_ | refine wpa_cons ?_ | refine wpi_zipL ?_ | refine wpi_enuT1 ?_ | refine wpi_rng1 ?_ | refine wpi_seq ?_ | refine opd_ix (n := 0) (.inr rfl) rfl rfl ?_ | refine opd_ix (n := 1) (.inr rfl) rfl rfl ?_ | refine opd_ix (n := 2) (.inr rfl) rfl rfl ?_ | refine opd_b ?_ | refine opd_l (opd_b ?_) | refine opd_i ?_ | refine opd_l (opd_eqI ?_) | refine opd_l (opd_neI ?_) | refine opd_l (opd_neS ?_) | refine opd_l (opd_eqS ?_) | refine cbd_l (cbd_len (.inr rfl) ?_) | refine cbd_l (cbd_len (.inl rfl) ?_) | refine cbd_int1 ?_ | refine ite_t ?_ | refine ite_f ?_ | refine ⟨_, rfl, ?_⟩)
  refine ⟨rfl, _, rfl, ?_⟩
  refine ite_b (fun h => absurd (show false = true from h) (by decide)) fun h => ?_
  repeat (first | with_reducible refine wps_nil ?_ | with_reducible refine wps_seq ?_ | refine wps_ret ?_ | refine wps_if ?_ | refine wps_newl ?_ | refine wps_set ?_ | refine wpt_not ?_ | refine wpt_or ?_ | refine wpt_and ?_ | refine wpt_B ?_ | refine wpt_test ?_ | refine wpe_var rfl ?_ | refine wpe_int ?_ | refine wpe_bl ?_ | refine wpe_str ?_ | refine wpe_non ?_ | refine wpe_ty ?_ | refine wpe_andV ?_ | refine wpe_orV ?_ | refine wpe_notV ?_ | refine wpe_if ?_ | refine wpe_call1 ?_ | refine wpe_call2 ?_ | refine wpe_call3 ?_ | refine wpe_callS rfl ?_ | refine wpe_tupL ?_ | refine wpe_lstL ?_ | refine wpe_call0 ?_ | refine wpe_cb1 ?_ | refine wpe_cb2 ?_ | refine wpe_neg ?_ | refine wpe_slice ?_ | refine wpe_op ?_ | refine wpe_chain ?_ | refine wpo_none ?_ | refine wpo_some ?_ | refine wpl_nil ?_ | refine wpl_cons ?_ | refine wpa_cons ?_ | refine wpi_zipL ?_ | refine wpi_enuT1 ?_ | refine wpi_rng1 ?_ | refine wpi_seq ?_ | refine opd_ix (n := 0) (.inr rfl) rfl rfl ?_ | refine opd_ix (n := 1) (.inr rfl) rfl rfl ?_ | refine opd_ix (n := 2) (.inr rfl) rfl rfl ?_ | refine opd_b ?_ | refine opd_l (opd_b ?_) | refine opd_i ?_ | refine opd_l (opd_eqI ?_) | refine opd_l (opd_neI ?_) | refine opd_l (opd_neS ?_) | refine opd_l (opd_eqS ?_) | refine cbd_l (cbd_len (.inr rfl) ?_) | refine cbd_l (cbd_len (.inl rfl) ?_) | refine cbd_int1 ?_ | refine ite_t ?_ | refine ite_f ?_ | refine ⟨_, rfl, ?_⟩)
  refine ite_b (fun h => ?_) (fun h => ?_)
  · repeat (first | with_reducible refine wps_nil ?_ | with_reducible refine wps_seq ?_ | refine wps_ret ?_ | refine wps_if ?_ | refine wps_newl ?_ | refine wps_set ?_ | refine wpt_not ?_ | refine wpt_or ?_ | refine wpt_and ?_ | refine wpt_B ?_ | refine wpt_test ?_ | refine wpe_var rfl ?_ | refine wpe_int ?_ | refine wpe_bl ?_ | refine wpe_str ?_ | refine wpe_non ?_ | refine wpe_ty ?_ | refine wpe_andV ?_ | refine wpe_orV ?_ | refine wpe_notV ?_ | refine wpe_if ?_ | refine wpe_call1 ?_ | refine wpe_call2 ?_ | refine wpe_call3 ?_ | refine wpe_callS rfl ?_ | refine wpe_tupL ?_ | refine wpe_lstL ?_ | refine wpe_call0 ?_ | refine wpe_cb1 ?_ | refine wpe_cb2 ?_ | refine wpe_neg ?_ | refine wpe_slice ?_ | refine wpe_op ?_ | refine wpe_chain ?_ | refine wpo_none ?_ | refine wpo_some ?_ | refine wpl_nil ?_ | refine wpl_cons ?_ | refine wpa_cons ?_ | refine wpi_zipL ?_ | refine wpi_enuT1 ?_ | refine wpi_rng1 ?_ | refine wpi_seq ?_ | refine opd_ix (n := 0) (.inr rfl) rfl rfl ?_ | refine opd_ix (n := 1) (.inr rfl) rfl rfl ?_ | refine opd_ix (n := 2) (.inr rfl) rfl rfl ?_ | refine opd_b ?_ | refine opd_l (opd_b ?_) | refine opd_i ?_ | refine opd_l (opd_eqI ?_) | refine opd_l (opd_neI ?_) | refine opd_l (opd_neS ?_) | refine opd_l (opd_eqS ?_) | refine cbd_l (cbd_len (.inr rfl) ?_) | refine cbd_l (cbd_len (.inl rfl) ?_) | refine cbd_int1 ?_ | refine ite_t ?_ | refine ite_f ?_ | refine ⟨_, rfl, ?_⟩)
    refine ite_b (fun h => ?_) (fun h => ?_)
    · exfalso
      simp at h
      omega
    · exact wps_nil trivial
  · exfalso
    simp at h
    omega
def rowIs (t n : Nat) (ks : List Nat) : Prop := ks ∈ combs n ks.length ∧ ks.length ≤ t
def iniL : IniC := { pre := fun ds => ∃ t n : Nat, ds = [.int t, .int n] ∧ OkL t n, ns := lN, fs := fun ds => ds }
theorem run2 {t1 t2 u : TS} {Z : Ends} {σ : L2.St} {H : Hp} (h : tSeq t1 t2 { Z with nx := u Z } σ H) : tSeq t1 (tSeq t2 u) Z σ H := h
theorem ok_lI (B : Bly mg) (W : TLo K mg C fI fdI) (G_MOST_THINGS : Gv mg "MOST_THINGS" (.int 4)) (G_MOST_LABELS : Gv mg "MOST_LABELS" (.int 7))
    (D_check_count : Dk P w K mg base "check_count" CX0 2 ["value", "least", "most"] (spW c_count 3)) : FnOk P w K mg base CX0 3 fI fdI ["self", "things", "labels"] (spIni C iniL 2) := by
  refine W.F.ok sc___init__ (fun vs H Q E h => ?_) (fun cdv A outer s H vs Q E hr h => ?_)
  · obtain ⟨x, dx, S, G, as, avs, rfl, la, _, _, _, _, al, _⟩ := h
    rw [List.length_cons, al.length, la]
    rfl
  · obtain ⟨x, dx, S, G, as, avs, rfl, la, hx, sm, gx, so, al, ⟨t, n, rfl, ok⟩, k, _⟩ := h
    obtain ⟨o1, o2, o3, o4⟩ := ok
    cases al with
    | cons a1 al =>
      cases al with
      | cons a2 al =>
        cases al
        cases a1
        cases a2
        refine ⟨_, (pss_cons (ps_expr (pe_callD D_check_count (hr.mono (by decide)) (by rfl) pass0 (pa_cons (pv 1) (pa_cons pe_int (pa_cons (pe_gv G_MOST_THINGS (by rfl)) pa_nil)))))
    (pss_cons (ps_expr (pe_callD D_check_count (hr.mono (by decide)) (by rfl) pass0 (pa_cons (pv 2) (pa_cons (pv 1) (pa_cons (pe_gv G_MOST_LABELS (by rfl)) pa_nil)))))
    (pss_cons (ps_fld (pv 0) (pv 1) rfl)
    (pss_one (ps_fld (pv 0) (pv 2) rfl))))), ?_⟩
        let T : Tr := ⟨fun b => H b ≠ none, S, fun _ _ => False⟩
        have en : Ens T G H [.fx (.ref x), .da (.int t), .da (.int n)] [some (.ref x), some (.int t), some (.int n)] := by
          refine ⟨sm, rfl, fun i s e => ?_, so, fun b h => h, fun b u q => q.elim, fun i j b ds es e => ?_, fun i j b ds es e => ?_⟩
          · match i, e with
            | 0, e => obtain rfl : Sl.fx (.ref x) = s := by simpa using e
                      exact ⟨_, rfl, rfl⟩
            | 1, e => obtain rfl : Sl.da (.int t) = s := by simpa using e
                      exact ⟨_, rfl, _, rfl, .int _⟩
            | 2, e => obtain rfl : Sl.da (.int n) = s := by simpa using e
                      exact ⟨_, rfl, _, rfl, .int _⟩
            | n + 3, e => simp at e
          · match i, e with
            | 0, e => simp at e
            | 1, e => simp at e
            | 2, e => simp at e
            | n + 3, e => simp at e
          · match i, e with
            | 0, e => simp at e
            | 1, e => simp at e
            | 2, e => simp at e
            | n + 3, e => simp at e
        refine run2 ?_
        refine (?_ : WpS ⟨E, fun _ _ => False, T⟩ _ [.fx (.ref x), .da (.int t), .da (.int n)] (fun δ' => δ' = [.fx (.ref x), .da (.int t), .da (.int n)]) (fun _ => False)) _ G H en rz0 _ (fun δ' σ' G' H' sB en' e => ?_) (fun _ _ _ _ _ _ _ _ q => q.elim)
        · refine wps_seq (wps_drop (wpe_call0 (wpa_cons (wpe_var rfl (wpa_cons (wpe_int (wpa_cons (wpe_int (wpa_nil ⟨rfl, ⟨_, _, _, rfl, by omega, by omega⟩, fun _ _ => ?_, fun _ _ z => z⟩)))))))))
          exact wps_drop (wpe_call0 (wpa_cons (wpe_var rfl (wpa_cons (wpe_var rfl (wpa_cons (wpe_int (wpa_nil ⟨rfl, ⟨_, _, _, rfl, by omega, by omega⟩, fun _ _ => rfl, fun _ _ z => z⟩))))))))
        · subst e
          have st := sB.full
          have hx' : H' x = some (.ins C dx []) := sB.hs _ _ (show H x ≠ none by rw [hx]; exact fun z => nomatch z) hx (fun q => by
            obtain ⟨_, o9, e, mo⟩ := so x q
            rw [hx] at e
            obtain rfl := Option.some.inj e
            rcases mo with ⟨_, _, z, _⟩ | ⟨_, _, z, _⟩ <;> exact nomatch z)
          have gx' : G' x = none := sB.gn _ (show H x ≠ none by rw [hx]; exact fun z => nomatch z) gx
          obtain ⟨o0, e0, rfl⟩ := en'.get 0 _ rfl
          obtain ⟨o1, e1, v1, rfl, a1⟩ := en'.get 1 _ rfl
          obtain ⟨o2, e2, v2, rfl, a2⟩ := en'.get 2 _ rfl
          cases a1
          cases a2
          refine ⟨_, e1, _, e0, x, C, dx, _, rfl, hx', W.cl, W.n1, (by show 0 < 1000; decide), ?_⟩
          refine ⟨_, e2, _, e0, x, C, dx, _, rfl, upd_same, W.cl, W.n2, (by show 1 < 1000; decide), ?_⟩
          rw [upd_upd]
          exact k G' H' [("things", .int t), ("labels", .int n)] st en'.same en'.stt hx' gx' rfl (.cons (.int _) (.cons (.int _) .nil))
end
end Nv
namespace Nv
open PySem PySem.Spec PyProof.Rows L2
variable [Tb]
theorem natsD_inj : ∀ {xs ys : List Nat}, (xs.map fun (i : Nat) => D.int i) = ys.map (fun (i : Nat) => D.int i) → xs = ys
  | [], [], _ => rfl
  | [], _ :: _, h => nomatch h
  | _ :: _, [], h => nomatch h
  | x :: xs, y :: ys, h => by
    rw [List.map_cons, List.map_cons] at h
    obtain ⟨h1, h2⟩ := List.cons.inj h
    rw [natsD_inj h2, Int.ofNat.inj (D.int.inj h1)]
theorem rowN_inj {xs ys : List Nat} (h : rowN xs = rowN ys) : xs = ys := natsD_inj (D.tup.inj h)
theorem lwD_inj {C : Addr} {t n t' n' : Nat} (h : lwD C t n = lwD C t' n') : t = t' ∧ n = n' := by
  obtain ⟨_, _, h⟩ := D.ins.inj h
  obtain ⟨h1, h⟩ := List.cons.inj h
  obtain ⟨h2, _⟩ := List.cons.inj h
  exact ⟨Int.ofNat.inj (D.int.inj h1), Int.ofNat.inj (D.int.inj h2)⟩
/-- a value that may be a row of the service -/
def isLotB (t n : Int) : D → Bool
  | .tup ds => decide ((ds.length : Int) ≤ t) && (ds.all (isIdx n) && ascD (.tup ds))
  | _ => false
structure LotN (t n : Nat) (ks : List Nat) : Prop where
  le : ks.length ≤ t
  mem : ks ∈ combs n ks.length
theorem nat_len {ks : List Nat} : (ks.map fun (i : Nat) => D.int i).length = ks.length := List.length_map ..
theorem asc_rowN : ∀ {ks : List Nat}, ascN ks = true → (zipD (ks.map fun (i : Nat) => D.int i) ((ks.map fun (i : Nat) => D.int i).drop 1)).all ltP = true
  | [], _ => rfl
  | [a], _ => rfl
  | a :: b :: ks, h => by
    unfold ascN at h
    rw [Bool.and_eq_true] at h
    have ih := asc_rowN (ks := b :: ks) h.2
    simp only [List.map_cons, List.drop_succ_cons, List.drop_zero, zipD, List.all_cons, Bool.and_eq_true] at ih ⊢
    refine ⟨?_, ih⟩
    show decide ((a : Int) < b) = true
    have := of_decide_eq_true h.1
    exact decide_eq_true (by omega)
theorem lot_is {t n : Nat} {ks : List Nat} (ok : OkL t n) (h : LotN t n ks) : isLotB t n (rowN ks) = true := by
  have o1 := ok.t4; have o2 := ok.tn; have o3 := ok.n7; have o4 := h.le
  have K := combs_ok ok.n7 (show ks.length ≤ 4 by omega) (by omega)
  obtain ⟨_, hk⟩ := K.lk ks h.mem
  have as := List.all_eq_true.mp (chk_asc n (by omega) ks.length (by omega)) ks h.mem
  show (decide (((ks.map fun (i : Nat) => D.int i).length : Int) ≤ t) && ((ks.map fun (i : Nat) => D.int i).all (isIdx n) && (zipD (ks.map fun (i : Nat) => D.int i) ((ks.map fun (i : Nat) => D.int i).drop 1)).all ltP)) = true
  rw [asc_rowN as, Bool.and_true, nat_len, decide_eq_true (by omega), Bool.true_and, List.all_map]
  refine List.all_eq_true.mpr fun k m => ?_
  show (decide ((0 : Int) ≤ k) && decide ((k : Int) < n)) = true
  have := hk k m
  rw [decide_eq_true (by omega), decide_eq_true (by omega)]
  rfl
section
variable {P : Program} {w : World} {K : PySem.W.Frag} {mg : Str → Option Value} {base : Heap} {C fI : Addr} {fdI : FuncData}
def c_without : Spc := { pre := fun as => ∃ (ks : List Nat) (a : Nat), as = [.da (rowN ks), .da (.int a)] ∧ ks.length ≤ 100, post := fun as d => ∀ (ks : List Nat) (a : Nat), as = [.da (rowN ks), .da (.int a)] → d = rowN (wo ks a) }
theorem d_without {f : Addr} {fd : FuncData} (B : Bly mg) (F : Fn K mg "without_item" s_without_item ["items", "at"] f fd) : Dk P w K mg base "without_item" CX0 1 ["items", "at"] (spW c_without 2) := by
  refine F.ok sc_without_item rfl fun cdv A outer s H E as hr ⟨ks, a, e, l⟩ _ => ?_
  subst e
  refine ⟨_, (pss_one (ps_ret (pe_op (op_catK (K := K) rfl) (pe_slice (sl_K (K := K) rfl) (pv 0) po_none (po_some (pv 1))) (pe_slice (sl_K (K := K) rfl) (pv 0) (po_some (pe_op op_add (pv 1) pe_int)) po_none)))), fun T => ?_⟩
  repeat (first | with_reducible refine wps_nil ?_ | with_reducible refine wps_seq ?_ | refine wps_ret ?_ | refine wps_if ?_ | refine wps_newl ?_ | refine wps_set ?_ | refine wpt_not ?_ | refine wpt_or ?_ | refine wpt_and ?_ | refine wpt_B ?_ | refine wpt_test ?_ | refine wpe_var rfl ?_ | refine wpe_int ?_ | refine wpe_bl ?_ | refine wpe_str ?_ | refine wpe_non ?_ | refine wpe_ty ?_ | refine wpe_andV ?_ | refine wpe_orV ?_ | refine wpe_notV ?_ | refine wpe_if ?_ | refine wpe_call1 ?_ | refine wpe_call2 ?_ | refine wpe_call3 ?_ | refine wpe_callS rfl ?_ | refine wpe_tupL ?_ | refine wpe_lstL ?_ | refine wpe_call0 ?_ | refine wpe_cb1 ?_ | refine wpe_cb2 ?_ | refine wpe_neg ?_ | refine wpe_slice ?_ | refine wpe_op ?_ | refine wpe_chain ?_ | refine wpo_none ?_ | refine wpo_some ?_ | refine wpl_nil ?_ | refine wpl_cons ?_ | refine wpa_cons ?_ | refine wpi_zipL ?_ | refine wpi_enuT1 ?_ | refine wpi_rng1 ?_ | refine wpi_seq ?_ | refine opd_ix (n := 0) (.inr rfl) rfl rfl ?_ | refine opd_ix (n := 1) (.inr rfl) rfl rfl ?_ | refine opd_ix (n := 2) (.inr rfl) rfl rfl ?_ | refine opd_b ?_ | refine opd_l (opd_b ?_) | refine opd_i ?_ | refine opd_l (opd_eqI ?_) | refine opd_l (opd_neI ?_) | refine opd_l (opd_neS ?_) | refine opd_l (opd_eqS ?_) | refine cbd_l (cbd_len (.inr rfl) ?_) | refine cbd_l (cbd_len (.inl rfl) ?_) | refine cbd_int1 ?_ | refine ite_t ?_ | refine ite_f ?_ | refine ⟨_, rfl, ?_⟩)
  refine sld_r (sld_T ?_)
  repeat (first | with_reducible refine wps_nil ?_ | with_reducible refine wps_seq ?_ | refine wps_ret ?_ | refine wps_if ?_ | refine wps_newl ?_ | refine wps_set ?_ | refine wpt_not ?_ | refine wpt_or ?_ | refine wpt_and ?_ | refine wpt_B ?_ | refine wpt_test ?_ | refine wpe_var rfl ?_ | refine wpe_int ?_ | refine wpe_bl ?_ | refine wpe_str ?_ | refine wpe_non ?_ | refine wpe_ty ?_ | refine wpe_andV ?_ | refine wpe_orV ?_ | refine wpe_notV ?_ | refine wpe_if ?_ | refine wpe_call1 ?_ | refine wpe_call2 ?_ | refine wpe_call3 ?_ | refine wpe_callS rfl ?_ | refine wpe_tupL ?_ | refine wpe_lstL ?_ | refine wpe_call0 ?_ | refine wpe_cb1 ?_ | refine wpe_cb2 ?_ | refine wpe_neg ?_ | refine wpe_slice ?_ | refine wpe_op ?_ | refine wpe_chain ?_ | refine wpo_none ?_ | refine wpo_some ?_ | refine wpl_nil ?_ | refine wpl_cons ?_ | refine wpa_cons ?_ | refine wpi_zipL ?_ | refine wpi_enuT1 ?_ | refine wpi_rng1 ?_ | refine wpi_seq ?_ | refine opd_ix (n := 0) (.inr rfl) rfl rfl ?_ | refine opd_ix (n := 1) (.inr rfl) rfl rfl ?_ | refine opd_ix (n := 2) (.inr rfl) rfl rfl ?_ | refine opd_b ?_ | refine opd_l (opd_b ?_) | refine opd_i ?_ | refine opd_l (opd_eqI ?_) | refine opd_l (opd_neI ?_) | refine opd_l (opd_neS ?_) | refine opd_l (opd_eqS ?_) | refine cbd_l (cbd_len (.inr rfl) ?_) | refine cbd_l (cbd_len (.inl rfl) ?_) | refine cbd_int1 ?_ | refine ite_t ?_ | refine ite_f ?_ | refine ⟨_, rfl, ?_⟩)
  refine sld_r (sld_T ?_)
  have e1 : cutD (ks.map fun (i : Nat) => D.int i) none (some (a : Int)) = (ks.take a).map fun (i : Nat) => D.int i := by rw [cutD_to, List.map_take]
  have e2 : cutD (ks.map fun (i : Nat) => D.int i) (some ((a : Int) + 1)) none = (ks.drop (a + 1)).map fun (i : Nat) => D.int i := by
    rw [show (a : Int) + 1 = ((a + 1 : Nat) : Int) from rfl, cutD_from, List.map_drop]
  rw [e1, e2]
  refine opd_catT (by rw [List.length_map, List.length_map, List.length_take, List.length_drop]; omega) fun ks' a' e => ?_
  obtain ⟨h1, h2⟩ := List.cons.inj e
  obtain ⟨h2, _⟩ := List.cons.inj h2
  obtain rfl := rowN_inj (Sl.da.inj h1)
  obtain rfl := Int.ofNat.inj (D.int.inj (Sl.da.inj h2))
  unfold wo rowN
  rw [List.map_append]
def c_is_lot (C : Addr) : Spc := { pre := fun as => ∃ (t n : Nat) (x : D), as = [.da (lwD C t n), .da x] ∧ okD x = true, post := fun as d => ∀ (t n : Nat) (x : D), as = [.da (lwD C t n), .da x] → d = .bl (isLotB t n x) }
theorem d_is_lot {f : Addr} {fd : FuncData} (B : Bly mg) (W : TLo K mg C fI fdI) (F : Mn K C "_is_lot" "LabelWorld._is_lot" s__is_lot ["self", "value"] f fd)
    (D_is_index : Dk P w K mg base "is_index" CX0 2 ["value", "size"] (spW c_is_index 2)) (D_is_ascending : Dk P w K mg base "is_ascending" CX0 1 ["items"] (spW c_is_ascending 1)) :
    DmX f fd P w K mg base C "_is_lot" CX0 3 ["self", "value"] (spW (c_is_lot C) 2) := by
  refine F.ok sc__is_lot rfl fun cdv A outer s H E as hr ⟨t, n, x, e, hx⟩ _ => ?_
  subst e
  refine ⟨_, (pss_cons (ps_if (PW.pt (pw_or (pt_not (pt_val (pe_callB (call_isiK (K := K) rfl) (by rfl) B.isi b_isinstance (pa_cons (pv 1) (pa_cons (pe_bltn (v := .ty "tuple") (by rfl) B.tuple b_tuple rfl) pa_nil))))) (pw_or1 (pt_cmpR op_gt (pe_callB (call_lenK (K := K) rfl) (by rfl) B.len b_len (pa_cons (pv 1) pa_nil)) (pe_fldK (K := K) rfl (pv 0) rfl) (nomark _))))) (pss_one (ps_ret pe_bl)) pss_nil)
    (pss_one (ps_ret (pe_and (pe_callB (cr_allK (K := K) rfl rfl) (by rfl) B.all b_all (pa_cons (pe_lc (own := [("label", 2)]) (g := gName 2) (tt := tYes) (by rfl) sc__is_lot.nd (pi_seq (pv 1)) (blkOk_by (N := ["self", "value", "label"]) (sc := defScope s__is_lot) (by decide +kernel)) (fun _ _ _ _ _ => pg_name (i := 2) sc__is_lot.nd rfl (by first | exact Or.inl rfl | exact Or.inr rfl)) (fun _ _ _ _ _ => pts_nil) (fun _ _ _ _ _ => (pe_callD D_is_index (hr.mono (by decide)) (by rfl) pass0 (pa_cons (pv 2) (pa_cons (pe_fldK (K := K) rfl (pv 0) rfl) pa_nil))))) pa_nil)) (pe_one (pe_callD D_is_ascending (hr.mono (by decide)) (by rfl) pass0 (pa_cons (pv 1) pa_nil))))))), fun T => ?_⟩
  have fin : ∀ d, d = .bl (isLotB t n x) → (c_is_lot C).post [.da (lwD C t n), .da x] d := fun d hd t' n' x' e => by
    obtain ⟨h1, h2⟩ := List.cons.inj e
    obtain ⟨h2, _⟩ := List.cons.inj h2
    obtain ⟨rfl, rfl⟩ := lwD_inj (Sl.da.inj h1)
    obtain rfl := Sl.da.inj h2
    exact hd
  refine wps_mono (Ψ := fun d => d = .bl (isLotB t n x)) (Φ := fun _ => False) ?_ (fun _ z => z.elim) fin
  repeat (first | with_reducible refine wps_nil ?_ | with_reducible refine wps_seq ?_ | refine wps_ret ?_ | refine wps_if ?_ | refine wps_newl ?_ | refine wps_set ?_ | refine wpt_not ?_ | refine wpt_or ?_ | refine wpt_and ?_ | refine wpt_B ?_ | refine wpt_test ?_ | refine wpe_var rfl ?_ | refine wpe_int ?_ | refine wpe_bl ?_ | refine wpe_str ?_ | refine wpe_non ?_ | refine wpe_ty ?_ | refine wpe_andV ?_ | refine wpe_orV ?_ | refine wpe_notV ?_ | refine wpe_if ?_ | refine wpe_call1 ?_ | refine wpe_call2 ?_ | refine wpe_call3 ?_ | refine wpe_callS rfl ?_ | refine wpe_tupL ?_ | refine wpe_lstL ?_ | refine wpe_call0 ?_ | refine wpe_cb1 ?_ | refine wpe_cb2 ?_ | refine wpe_neg ?_ | refine wpe_slice ?_ | refine wpe_op ?_ | refine wpe_chain ?_ | refine wpo_none ?_ | refine wpo_some ?_ | refine wpl_nil ?_ | refine wpl_cons ?_ | refine wpa_cons ?_ | refine wpi_zipL ?_ | refine wpi_enuT1 ?_ | refine wpi_rng1 ?_ | refine wpi_seq ?_ | refine opd_ix (n := 0) (.inr rfl) rfl rfl ?_ | refine opd_ix (n := 1) (.inr rfl) rfl rfl ?_ | refine opd_ix (n := 2) (.inr rfl) rfl rfl ?_ | refine opd_b ?_ | refine opd_l (opd_b ?_) | refine opd_i ?_ | refine opd_l (opd_eqI ?_) | refine opd_l (opd_neI ?_) | refine opd_l (opd_neS ?_) | refine opd_l (opd_eqS ?_) | refine cbd_l (cbd_len (.inr rfl) ?_) | refine cbd_l (cbd_len (.inl rfl) ?_) | refine cbd_int1 ?_ | refine ite_t ?_ | refine ite_f ?_ | refine ⟨_, rfl, ?_⟩)
  refine cbd_isT (ok_pln hx) ⟨_, rfl, ite_b (fun h => ?_) (fun h => ?_)⟩
  · repeat (first | with_reducible refine wps_nil ?_ | with_reducible refine wps_seq ?_ | refine wps_ret ?_ | refine wps_if ?_ | refine wps_newl ?_ | refine wps_set ?_ | refine wpt_not ?_ | refine wpt_or ?_ | refine wpt_and ?_ | refine wpt_B ?_ | refine wpt_test ?_ | refine wpe_var rfl ?_ | refine wpe_int ?_ | refine wpe_bl ?_ | refine wpe_str ?_ | refine wpe_non ?_ | refine wpe_ty ?_ | refine wpe_andV ?_ | refine wpe_orV ?_ | refine wpe_notV ?_ | refine wpe_if ?_ | refine wpe_call1 ?_ | refine wpe_call2 ?_ | refine wpe_call3 ?_ | refine wpe_callS rfl ?_ | refine wpe_tupL ?_ | refine wpe_lstL ?_ | refine wpe_call0 ?_ | refine wpe_cb1 ?_ | refine wpe_cb2 ?_ | refine wpe_neg ?_ | refine wpe_slice ?_ | refine wpe_op ?_ | refine wpe_chain ?_ | refine wpo_none ?_ | refine wpo_some ?_ | refine wpl_nil ?_ | refine wpl_cons ?_ | refine wpa_cons ?_ | refine wpi_zipL ?_ | refine wpi_enuT1 ?_ | refine wpi_rng1 ?_ | refine wpi_seq ?_ | refine opd_ix (n := 0) (.inr rfl) rfl rfl ?_ | refine opd_ix (n := 1) (.inr rfl) rfl rfl ?_ | refine opd_ix (n := 2) (.inr rfl) rfl rfl ?_ | refine opd_b ?_ | refine opd_l (opd_b ?_) | refine opd_i ?_ | refine opd_l (opd_eqI ?_) | refine opd_l (opd_neI ?_) | refine opd_l (opd_neS ?_) | refine opd_l (opd_eqS ?_) | refine cbd_l (cbd_len (.inr rfl) ?_) | refine cbd_l (cbd_len (.inl rfl) ?_) | refine cbd_int1 ?_ | refine ite_t ?_ | refine ite_f ?_ | refine ⟨_, rfl, ?_⟩)
    cases x <;> first | rfl | cases h
  · obtain ⟨ds, rfl⟩ : ∃ ds, x = .tup ds := by cases x <;> first | exact ⟨_, rfl⟩ | cases h
    obtain ⟨l1, l2⟩ := ok_tup hx
    refine wpt_test (wpe_op (wpe_cb1 (wpe_var rfl (cbd_l (cbd_len (.inr rfl) ?_)))))
    refine wpe_fldC W.cl W.n1 rfl (by decide) (wpe_var rfl ⟨_, _, rfl, rfl, opd_b ⟨_, rfl, ite_b (fun h => ?_) (fun h => ?_)⟩⟩)
    · repeat (first | with_reducible refine wps_nil ?_ | with_reducible refine wps_seq ?_ | refine wps_ret ?_ | refine wps_if ?_ | refine wps_newl ?_ | refine wps_set ?_ | refine wpt_not ?_ | refine wpt_or ?_ | refine wpt_and ?_ | refine wpt_B ?_ | refine wpt_test ?_ | refine wpe_var rfl ?_ | refine wpe_int ?_ | refine wpe_bl ?_ | refine wpe_str ?_ | refine wpe_non ?_ | refine wpe_ty ?_ | refine wpe_andV ?_ | refine wpe_orV ?_ | refine wpe_notV ?_ | refine wpe_if ?_ | refine wpe_call1 ?_ | refine wpe_call2 ?_ | refine wpe_call3 ?_ | refine wpe_callS rfl ?_ | refine wpe_tupL ?_ | refine wpe_lstL ?_ | refine wpe_call0 ?_ | refine wpe_cb1 ?_ | refine wpe_cb2 ?_ | refine wpe_neg ?_ | refine wpe_slice ?_ | refine wpe_op ?_ | refine wpe_chain ?_ | refine wpo_none ?_ | refine wpo_some ?_ | refine wpl_nil ?_ | refine wpl_cons ?_ | refine wpa_cons ?_ | refine wpi_zipL ?_ | refine wpi_enuT1 ?_ | refine wpi_rng1 ?_ | refine wpi_seq ?_ | refine opd_ix (n := 0) (.inr rfl) rfl rfl ?_ | refine opd_ix (n := 1) (.inr rfl) rfl rfl ?_ | refine opd_ix (n := 2) (.inr rfl) rfl rfl ?_ | refine opd_b ?_ | refine opd_l (opd_b ?_) | refine opd_i ?_ | refine opd_l (opd_eqI ?_) | refine opd_l (opd_neI ?_) | refine opd_l (opd_neS ?_) | refine opd_l (opd_eqS ?_) | refine cbd_l (cbd_len (.inr rfl) ?_) | refine cbd_l (cbd_len (.inl rfl) ?_) | refine cbd_int1 ?_ | refine ite_t ?_ | refine ite_f ?_ | refine ⟨_, rfl, ?_⟩)
      show D.bl false = D.bl (decide ((ds.length : Int) ≤ t) && _)
      have := of_decide_eq_true h
      rw [decide_eq_false (by omega)]
      rfl
    · refine wps_nil (wps_ret (wpe_andV (wpe_cb1 (wpe_map (fun d => .bl (isIdx n d)) (by simp) (wpi_seq (wpe_var rfl ⟨ds, .inr rfl, by omega, fun d hd => ?_, cbd_allm ?_⟩))))))
      · refine wpe_call2 (wpe_var rfl (wpe_fldC W.cl W.n2 rfl (by decide) (wpe_var rfl ⟨_, _, rfl, rfl, ⟨ok_pln (l2 d hd), _, rfl⟩, ?_⟩)))
        rfl
      · have := of_decide_eq_false h
        refine ⟨_, rfl, ite_b (fun h => ?_) (fun h => ?_)⟩
        · have e := idx_ints h
          refine wpe_call1 (wpe_var rfl ⟨.inl ⟨ds.map intOf, by rw [List.length_map]; exact l1, .inr (congrArg D.tup e)⟩, ?_⟩)
          show D.bl _ = D.bl (decide ((ds.length : Int) ≤ t) && (ds.all (isIdx n) && ascD (.tup ds)))
          rw [h, decide_eq_true (by omega)]
          rfl
        · show D.bl false = D.bl (decide ((ds.length : Int) ≤ t) && (ds.all (isIdx n) && ascD (.tup ds)))
          rw [h, Bool.false_and, Bool.and_false]
theorem ok_tupOf {ds : List D} (l : ds.length ≤ 1000) (h : ∀ d ∈ ds, okD d = true) : okD (.tup ds) = true := by
  unfold okD
  rw [decide_eq_true l, okAll_of h]
  rfl
theorem ok_row {ks : List Nat} (h : ks.length ≤ 1000) : okD (rowN ks) = true := ok_tupOf (by rw [nat_len]; exact h) fun d hd => by
  obtain ⟨k, _, rfl⟩ := List.mem_map.mp hd
  rfl
def c_lots (C : Addr) : Spc := { pre := fun as => ∃ (t n r : Nat), as = [.da (lwD C t n), .da (.int r)] ∧ OkL t n ∧ r ≤ t, post := fun as d => ∀ (t n r : Nat), as = [.da (lwD C t n), .da (.int r)] → d = .lst ((combs n r).map rowN) }
theorem rgI_nat {n : Nat} : (rgI 0 n).map D.int = rngN n := by
  unfold rgI rngN
  rw [List.map_map, show ((n : Int) - 0).toNat = n by omega]
  refine List.map_congr_left fun i _ => ?_
  show D.int (0 + (i : Int)) = D.int i
  rw [Int.zero_add]
theorem d_lots {f : Addr} {fd : FuncData} (B : Bly mg) (W : TLo K mg C fI fdI) (mCo : mg "combinations" = some (.type "itertools.combinations")) (F : Mn K C "_lots" "LabelWorld._lots" s__lots ["self", "many"] f fd) :
    DmX f fd P w K mg base C "_lots" CX0 1 ["self", "many"] (spW (c_lots C) 2) := by
  refine F.ok sc__lots rfl fun cdv A outer s H E as hr ⟨t, n, r, e, ok, l⟩ _ => ?_
  subst e
  have := ok.t4; have := ok.tn; have := ok.n7
  refine ⟨_, (pss_cons (ps_set (i := 2) sc__lots.nd rfl (by first | exact Or.inl rfl | exact Or.inr rfl) (pe_listRg rfl (by rfl) B.list (prg_1 (by rfl) B.rng (pe_fldK (K := K) rfl (pv 0) rfl))))
    (pss_one (ps_ret (pe_lstCo rfl (by rfl) B.list (pco_2 (by rfl) mCo (pv 2) (pe_callTy call_int1 (by rfl) B.int b_int (pa_cons (pv 1) pa_nil))))))), fun T => ?_⟩
  refine wps_seq (wps_set (wpe_lrg1 (wpe_fldC W.cl W.n2 rfl (by decide) (wpe_var rfl ⟨_, _, rfl, rfl, n, rfl, by omega, by omega, ?_⟩))))
  rw [rgI_nat]
  refine wps_ret (wpe_lstCo (K := K) (wpe_var rfl (wpe_cb1 (wpe_var rfl (cbd_int1 ⟨n, r, rfl, rfl, by omega, by omega, by omega, ?_⟩)))))
  intro t' n' r' e
  obtain ⟨h1, h2⟩ := List.cons.inj e
  obtain ⟨h2, _⟩ := List.cons.inj h2
  obtain ⟨rfl, rfl⟩ := lwD_inj (Sl.da.inj h1)
  obtain rfl := Int.ofNat.inj (D.int.inj (Sl.da.inj h2))
  rfl
def allLots (t n : Nat) : List (List Nat) := (List.range (t + 1)).flatMap (combs n)
theorem all_len : ∀ t < 5, ((List.range 8).all fun n => decide ((allLots t n).length ≤ 1000)) = true := by decide +kernel
theorem rngN_len {n : Nat} : (rngN n).length = n := by unfold rngN; rw [List.length_map, List.length_range]
theorem lot_next {t n r : Nat} {gs : List Nat} (ok : OkL t n) (lt : r + 1 ≤ t) (h : gs ∈ combs n (r + 1)) : LotN t n gs ∧ gs.length = r + 1 := by
  have := ok.t4; have := ok.tn
  have K := combs_ok ok.n7 (show r + 1 ≤ 4 by omega) (by omega)
  have l := (K.lk gs h).1
  exact ⟨⟨by omega, by rw [l]; exact h⟩, l⟩
def neP : D → Bool
  | .tup [.int a, .int b] => !decide (a = b)
  | _ => false
theorem zip_rows : ∀ (xs ys : List Nat), (zipD (xs.map fun (i : Nat) => D.int i) (ys.map fun (i : Nat) => D.int i)).length = min xs.length ys.length := fun xs ys => by rw [zipD_len, nat_len, nat_len]
theorem eqm : ∀ (xs ys : List Nat), xs.length = ys.length → ((zipD (xs.map fun (i : Nat) => D.int i) (ys.map fun (i : Nat) => D.int i)).filter neP).length = mism xs ys := by
  intro xs
  induction xs with
  | nil => intro ys _; cases ys <;> rfl
  | cons x xs ih =>
    intro ys h
    cases ys with
    | nil => simp at h
    | cons y ys =>
      rw [List.map_cons, List.map_cons]
      show (List.filter neP (D.tup [.int x, .int y] :: zipD _ _)).length = (if x = y then 0 else 1) + mism xs ys
      have ih := ih ys (by simpa using h)
      rw [List.filter_cons]
      by_cases q : x = y
      · subst q
        rw [if_pos rfl, show neP (.tup [.int x, .int x]) = false by show (!decide ((x : Int) = x)) = false; simp, Nat.zero_add]
        simpa using ih
      · rw [if_neg q, show neP (.tup [.int x, .int y]) = true by show (!decide ((x : Int) = y)) = true; simp; omega]
        simp only [if_true, List.length_cons, ih]
        omega
end
end Nv
/-! LabelWorld's methods, which refuse -/
namespace Nv
open PySem PySem.Spec PyProof.Rows L2
variable [Tb]
abbrev sExI : Stmt := inClass (top 3) 0
section
variable {P : Program} {w : World} {K : PySem.W.Frag} {mg : Str → Option Value} {base : Heap}
theorem scExI : FnScope ["self", "what"] ["self", "what"] (defScope sExI) :=
  ⟨rfl, rfl, rfl, by decide +kernel, rfl, by decide +kernel, by decide +kernel⟩
theorem ok_exI {f : Addr} {fd : FuncData} (F : FunD K "__init__" "OweError.__init__" (defArgs sExI) (defBody sExI) (defScope sExI) [.non] [] f fd) :
    FnOk P w K mg base CX0 1 f fd ["self", "what"] (spExI K) := by
  refine F.ok scExI (fun vs H Q E h => ?_) (fun cdv A outer s H vs Q E hr h => ?_)
  · obtain ⟨a, C, v, rfl, _⟩ := h
    rfl
  · obtain ⟨a, C, v, rfl, ox, no, ha, q⟩ := h
    refine ⟨_, pss_one (ps_ost (pv 0) (pv 1)), ?_⟩
    exact ⟨_, rfl, _, rfl, a, C, rfl, ox, no, .inl ⟨ha, fun dx h1 h2 => q dx h1 h2⟩⟩
/-- the class, and how its errors are made -/
structure TLe (K : PySem.W.Frag) (mg : Str → Option Value) (C fI fE : Addr) (fdI fdE : FuncData) : Prop extends TLo K mg C fI fdI where
  FE : FunD K "__init__" "OweError.__init__" (defArgs sExI) (defBody sExI) (defScope sExI) [.non] [] fE fdE
  bE : Binds K fdE ["self", "what"] []
end
/-- a row of the service -/
def IsRowD (t n : Nat) (d : D) : Prop := ∃ ks, d = rowN ks ∧ LotH n ks ∧ ks.length ≤ t
theorem rowM {t n : Nat} {ks : List Nat} (ok : OkL t n) (l : LotH n ks) (h : ks.length ≤ t) : LotN t n ks := ⟨h, (combs_lot ok.n7 (Nat.le_trans h ok.t4)).mpr l⟩
theorem ascD_pw : ∀ {ks : List Nat}, (zipD (ks.map fun (i : Nat) => D.int i) ((ks.map fun (i : Nat) => D.int i).drop 1)).all ltP = true → ks.Pairwise (· < ·)
  | [], _ => .nil
  | [a], _ => .cons (fun _ h => nomatch h) .nil
  | a :: b :: ks, h => by
    simp only [List.map_cons, List.drop_succ_cons, List.drop_zero, zipD, List.all_cons, Bool.and_eq_true] at h
    have lt : a < b := by
      have h1 : decide ((a : Int) < b) = true := h.1
      have := of_decide_eq_true h1
      omega
    have ih := ascD_pw (ks := b :: ks) (by simp only [List.map_cons, List.drop_succ_cons, List.drop_zero]; exact h.2)
    refine .cons (fun c hc => ?_) ih
    rcases List.mem_cons.mp hc with rfl | hc
    · exact lt
    · have := (List.pairwise_cons.mp ih).1 c hc
      omega
theorem isLot_iff {t n : Nat} {d : D} (ok : OkL t n) : isLotB t n d = true ↔ IsRowD t n d := by
  constructor
  · intro h
    cases d with
    | tup ds =>
      unfold isLotB at h
      rw [Bool.and_eq_true, Bool.and_eq_true] at h
      obtain ⟨h0, h2, h3⟩ := h
      have h1 := of_decide_eq_true h0
      have e := idx_ints h2
      have pos : ∀ x ∈ ds, ∃ k : Nat, x = .int (k : Nat) ∧ k < n := fun x hx => by
        have q := List.all_eq_true.mp h2 x hx
        cases x <;> first | (cases q; done) | skip
        rename_i z
        have q : (decide ((0 : Int) ≤ z) && decide (z < (n : Int))) = true := q
        rw [Bool.and_eq_true] at q
        have q1 := of_decide_eq_true q.1
        have q2 := of_decide_eq_true q.2
        exact ⟨z.toNat, by congr 1; omega, by omega⟩
      obtain ⟨ks, rfl, hk⟩ : ∃ ks : List Nat, ds = ks.map (fun (i : Nat) => D.int i) ∧ ∀ k ∈ ks, k < n := by
        clear h0 h1 h2 h3 e
        induction ds with
        | nil => exact ⟨[], rfl, fun k h => nomatch h⟩
        | cons d ds ih =>
          obtain ⟨k, rfl, lk⟩ := pos d (by simp)
          obtain ⟨ks, rfl, hk⟩ := ih fun x hx => pos x (by simp [hx])
          exact ⟨k :: ks, rfl, fun z hz => by
            rcases List.mem_cons.mp hz with rfl | hz
            · exact lk
            · exact hk z hz⟩
      rw [nat_len] at h1
      exact ⟨ks, rfl, ⟨ascD_pw h3, hk⟩, by omega⟩
    | _ => exact nomatch h
  · rintro ⟨ks, rfl, l, h⟩
    exact lot_is ok (rowM ok l h)
def IsGapD (t : Nat) (a b : D) : Prop := ∃ (ks : List Nat) (g : Nat), a = rowN ks ∧ b = .int (g : Nat) ∧ ks.length < t ∧ g ≤ ks.length
def IsGoalD (n : Nat) (a c : D) : Prop := ∃ ks gs : List Nat, a = rowN ks ∧ c = rowN gs ∧ gs ∈ combs n (ks.length + 1)
section
variable {P : Program} {w : World} {K : PySem.W.Frag} {mg : Str → Option Value} {base : Heap} {C fI fE CL CG : Addr} {fdI fdE : FuncData}
def c_checkLX (C CL : Addr) : Spc :=
  { pre := fun as => ∃ (t n : Nat) (d : D), as = [.da (lwD C t n), .da d] ∧ OkL t n ∧ okD d = true
    post := fun as _ => ∀ (t n : Nat) (d : D), as = [.da (lwD C t n), .da d] → IsRowD t n d
    err := fun as C' d' => ∃ t n : Nat, as = [.da (lwD C t n), .da d'] ∧ C' = CL ∧ ¬ IsRowD t n d' }
theorem twoL_inj {t n t' n' : Nat} {d d' : D} (e : [Sl.da (lwD C t n), .da d] = [.da (lwD C t' n'), .da d']) : t = t' ∧ n = n' ∧ d = d' := by
  obtain ⟨h1, h2⟩ := List.cons.inj e
  obtain ⟨rfl, rfl⟩ := lwD_inj (Sl.da.inj h1)
  exact ⟨rfl, rfl, Sl.da.inj (List.cons.inj h2).1⟩
theorem threeL_inj {t n t' n' : Nat} {d d' y y' : D} (e : [Sl.da (lwD C t n), .da d, .da y] = [.da (lwD C t' n'), .da d', .da y']) : t = t' ∧ n = n' ∧ d = d' ∧ y = y' := by
  obtain ⟨h1, h2⟩ := List.cons.inj e
  obtain ⟨rfl, rfl⟩ := lwD_inj (Sl.da.inj h1)
  obtain ⟨h2, h3⟩ := List.cons.inj h2
  exact ⟨rfl, rfl, Sl.da.inj h2, Sl.da.inj (List.cons.inj h3).1⟩
theorem fourL_inj {t n t' n' : Nat} {d d' y y' z z' : D} (e : [Sl.da (lwD C t n), .da d, .da y, .da z] = [.da (lwD C t' n'), .da d', .da y', .da z']) : t = t' ∧ n = n' ∧ d = d' ∧ y = y' ∧ z = z' := by
  obtain ⟨h1, h2⟩ := List.cons.inj e
  obtain ⟨rfl, rfl⟩ := lwD_inj (Sl.da.inj h1)
  obtain ⟨h2, h3⟩ := List.cons.inj h2
  obtain ⟨h3, h4⟩ := List.cons.inj h3
  exact ⟨rfl, rfl, Sl.da.inj h2, Sl.da.inj h3, Sl.da.inj (List.cons.inj h4).1⟩
theorem d_checkLX {f : Addr} {fd : FuncData} (B : Bly mg) (W : TLe K mg C fI fE fdI fdE) (xl : ExC K mg "BadLot" CL fE) (F : Mn K C "_check_lot" "LabelWorld._check_lot" s__check_lot ["self", "value"] f fd)
    (M__is_lot : Dm P w K mg base C "_is_lot" CX0 3 ["self", "value"] (spW (c_is_lot C) 2)) : DmX f fd P w K mg base C "_check_lot" (L2.CX P w) 5 ["self", "value"] (spW (c_checkLX C CL) 2) := by
  have GE : FnOk P w K mg base CX0 1 fE fdE ["self", "what"] (spExI K) := ok_exI W.FE
  refine F.okX sc__check_lot rfl fun cdv A outer s H E as hr ⟨t, n, d, e, ok, v⟩ l => ?_
  subst e
  refine ⟨_, (pss_one (ps_if (pt_not (pt_val (pe_methD (pv 0) W.cl M__is_lot (hr.mono (by decide)) pass0 (pa_cons (pv 1) pa_nil)))) (pss_one (ps_raise rfl (takes_of rfl rfl rfl rfl) (pmk_oex xl.ox xl.iC xl.tI GE (hr.mono (by decide)) W.bE .nil pass0 (by rfl) xl.gC (pa_cons (pv 1) pa_nil)))) pss_nil)), fun T => ?_⟩
  refine wps_if (wpt_not (wpt_test (wpe_meth (by decide +kernel) (wpe_var rfl ⟨⟨_, rfl⟩, wpa_cons (wpe_var rfl (wpa_nil ⟨rfl, ⟨t, n, _, rfl, v⟩, fun d hd => ?_, fun _ _ z => z⟩))⟩))))
  have hd := hd t n _ rfl
  subst hd
  refine ⟨_, rfl, ite_b (fun h => ?_) (fun h => ?_)⟩
  · exact wps_raiseV xl (i := 1) rfl ⟨t, n, rfl, rfl, fun z => by
      rw [(isLot_iff ok).mpr z] at h
      exact nomatch h⟩
  · refine wps_nil fun t' n' d' e => ?_
    obtain ⟨rfl, rfl, rfl⟩ := twoL_inj e
    exact (isLot_iff ok).mp (by simpa using h)
def c_gapsX (C CL : Addr) : Spc :=
  { pre := (c_checkLX C CL).pre
    post := fun as y => ∀ (t n : Nat) (d : D), as = [.da (lwD C t n), .da d] → ∃ ks, d = rowN ks ∧ LotH n ks ∧ ks.length ≤ t ∧ y = .lst (if ks.length < t then rngN (ks.length + 1) else [])
    err := (c_checkLX C CL).err }
theorem d_gapsX {f : Addr} {fd : FuncData} (B : Bly mg) (W : TLe K mg C fI fE fdI fdE) (F : Mn K C "gaps" "LabelWorld.gaps" s_gaps ["self", "standing"] f fd)
    (M__check_lot : Dm P w K mg base C "_check_lot" (L2.CX P w) 5 ["self", "value"] (spW (c_checkLX C CL) 2)) : DmX f fd P w K mg base C "gaps" (L2.CX P w) 6 ["self", "standing"] (spW (c_gapsX C CL) 2) := by
  refine F.okX sc_gaps rfl fun cdv A outer s H E as hr ⟨t, n, d, e, ok, v⟩ _ => ?_
  subst e
  refine ⟨_, (pss_cons (ps_expr (pe_methD (pv 0) W.cl M__check_lot (hr.mono (by decide)) (passX (takes_of rfl rfl rfl rfl)) (pa_cons (pv 1) pa_nil)))
    (pss_one (ps_ret (pe_ifExp (pt_cmpR (op_lt.or op_lt_str) (pe_callB (call_lenK (K := K) rfl) (by rfl) B.len b_len (pa_cons (pv 1) pa_nil)) (pe_fldK (K := K) rfl (pv 0) rfl) (nomark _)) (pe_listRg rfl (by rfl) B.list (prg_1 (by rfl) B.rng (pe_op op_add (pe_callB (call_lenK (K := K) rfl) (by rfl) B.len b_len (pa_cons (pv 1) pa_nil)) pe_int))) (pe_lst pa_nil))))), fun T => ?_⟩
  refine wps_seq (wps_drop (wpe_methX (ns := lN) (by decide +kernel) (wpe_var rfl ⟨⟨_, rfl⟩, wpa_cons (wpe_var rfl (wpa_nil ⟨rfl, ⟨t, n, d, rfl, ok, v⟩, fun y hd => ?_, fun C' y hd => hd⟩))⟩)))
  obtain ⟨ks, rfl, lot, le⟩ := hd t n d rfl
  have := ok.t4
  refine wps_mono (Ψ := fun y => y = .lst (if ks.length < t then rngN (ks.length + 1) else [])) (Φ := fun _ => False) ?_ (fun _ z => z.elim) (fun y hd t' n' d' e => by
    obtain ⟨rfl, rfl, rfl⟩ := twoL_inj e
    exact ⟨ks, rfl, lot, le, hd⟩)
  refine wps_ret (wpe_if (wpt_test (wpe_op (wpe_cb1 (wpe_var rfl (cbd_l (cbd_len (.inr rfl) ?_)))))))
  rw [nat_len]
  refine wpe_fldC W.cl W.n1 rfl (by decide) (wpe_var rfl ⟨_, _, rfl, rfl, opd_l (opd_b ⟨_, rfl, ite_b (fun h => ?_) (fun h => ?_)⟩)⟩)
  · have h := of_decide_eq_true h
    refine wpe_lrg1 (wpe_op (wpe_cb1 (wpe_var rfl (cbd_l (cbd_len (.inr rfl) ?_)))))
    rw [nat_len]
    refine wpe_int (opd_i ⟨_, rfl, by omega, by omega, ?_⟩)
    rw [if_pos (by omega), show (ks.length : Int) + 1 = ((ks.length + 1 : Nat) : Int) from rfl, rgI_nat]
  · have h := of_decide_eq_false h
    refine wpe_lstL (wpl_nil ⟨by show 0 ≤ 1000; decide, ?_⟩)
    rw [if_neg (by omega)]
def c_nextsX (C CL CG : Addr) : Spc :=
  { pre := fun as => ∃ (t n : Nat) (a b : D), as = [.da (lwD C t n), .da a, .da b] ∧ OkL t n ∧ okD a = true ∧ plnD b = true
    post := fun as y => ∀ (t n : Nat) (a b : D), as = [.da (lwD C t n), .da a, .da b] → IsRowD t n a ∧ IsGapD t a b ∧ ∃ ks, a = rowN ks ∧ y = .lst ((combs n (ks.length + 1)).map rowN)
    err := fun as C' d' => ∃ (t n : Nat) (a b : D), as = [.da (lwD C t n), .da a, .da b] ∧ ((C' = CL ∧ ¬ IsRowD t n a ∧ d' = a) ∨ (C' = CG ∧ IsRowD t n a ∧ ¬ IsGapD t a b ∧ d' = b)) }
theorem isIdx_nat {m : Nat} {b : D} : isIdx (intOf (.int (m : Nat))) b = true ↔ ∃ g : Nat, b = .int (g : Nat) ∧ g < m := by
  constructor
  · intro h
    cases b <;> first | (cases h; done) | skip
    rename_i z
    have q : (decide ((0 : Int) ≤ z) && decide (z < (m : Int))) = true := h
    rw [Bool.and_eq_true] at q
    have q1 := of_decide_eq_true q.1
    have q2 := of_decide_eq_true q.2
    exact ⟨z.toNat, by congr 1; omega, by omega⟩
  · rintro ⟨g, rfl, lt⟩
    show (decide ((0 : Int) ≤ g) && decide ((g : Int) < (m : Nat))) = true
    rw [decide_eq_true (by omega), decide_eq_true (by omega)]
    rfl
theorem d_nextsX {f : Addr} {fd : FuncData} (B : Bly mg) (W : TLe K mg C fI fE fdI fdE) (xg : ExC K mg "BadGap" CG fE) (F : Mn K C "nexts" "LabelWorld.nexts" s_nexts ["self", "standing", "gap"] f fd)
    (D_is_index : Dk P w K mg base "is_index" CX0 2 ["value", "size"] (spW c_is_index 2)) (M_gaps : Dm P w K mg base C "gaps" (L2.CX P w) 6 ["self", "standing"] (spW (c_gapsX C CL) 2))
    (M__lots : Dm P w K mg base C "_lots" CX0 1 ["self", "many"] (spW (c_lots C) 2)) : DmX f fd P w K mg base C "nexts" (L2.CX P w) 7 ["self", "standing", "gap"] (spW (c_nextsX C CL CG) 3) := by
  have GE : FnOk P w K mg base CX0 1 fE fdE ["self", "what"] (spExI K) := ok_exI W.FE
  refine F.okX sc_nexts rfl fun cdv A outer s H E as hr ⟨t, n, a, b, e, ok, va, vb⟩ _ => ?_
  subst e
  refine ⟨_, (pss_cons (ps_if (pt_not (pt_val (pe_callD D_is_index (hr.mono (by decide)) (by rfl) pass0 (pa_cons (pv 2) (pa_cons (pe_callB (call_lenK (K := K) rfl) (by rfl) B.len b_len (pa_cons (pe_methD (pv 0) W.cl M_gaps (hr.mono (by decide)) (passX (takes_of rfl rfl rfl rfl)) (pa_cons (pv 1) pa_nil)) pa_nil)) pa_nil))))) (pss_one (ps_raise rfl (takes_of rfl rfl rfl rfl) (pmk_oex xg.ox xg.iC xg.tI GE (hr.mono (by decide)) W.bE .nil pass0 (by rfl) xg.gC (pa_cons (pv 2) pa_nil)))) pss_nil)
    (pss_one (ps_ret (pe_methD (pv 0) W.cl M__lots (hr.mono (by decide)) pass0 (pa_cons (pe_op op_add (pe_callB (call_lenK (K := K) rfl) (by rfl) B.len b_len (pa_cons (pv 1) pa_nil)) pe_int) pa_nil))))), fun T => ?_⟩
  have := ok.t4
  refine wps_seq (wps_if (wpt_not (wpt_test (wpe_call2 (wpe_var rfl (wpe_cb1 (wpe_methX (ns := lN) (by decide +kernel) (wpe_var rfl ⟨⟨_, rfl⟩, wpa_cons (wpe_var rfl (wpa_nil ⟨rfl, ⟨t, n, a, rfl, ok, va⟩, fun y hd => ?_, fun C' y hd => ?_⟩))⟩))))))))
  case refine_2 =>
    obtain ⟨t', n', e, rfl, nl⟩ := hd
    obtain ⟨rfl, rfl, rfl⟩ := twoL_inj e
    exact ⟨t, n, a, b, rfl, .inl ⟨rfl, nl, rfl⟩⟩
  obtain ⟨ks, rfl, lot, le, rfl⟩ := hd t n a rfl
  have row : IsRowD t n (rowN ks) := ⟨ks, rfl, lot, le⟩
  refine cbd_l (cbd_len (.inl rfl) ?_)
  have len : (if ks.length < t then rngN (ks.length + 1) else []).length = if ks.length < t then ks.length + 1 else 0 := by
    split
    · exact rngN_len
    · rfl
  rw [len]
  refine ⟨⟨vb, _, rfl⟩, _, rfl, ite_b (fun h => ?_) (fun h => ?_)⟩
  · refine wps_raiseV xg (i := 2) rfl ⟨t, n, _, _, rfl, .inr ⟨rfl, row, ?_, rfl⟩⟩
    rintro ⟨ks', g, e, rfl, lt, lg⟩
    have e2 := rowN_inj e
    subst e2
    rw [if_pos lt, isIdx_nat.mpr ⟨g, rfl, by omega⟩] at h
    exact nomatch h
  · obtain ⟨g, rfl, lg⟩ := isIdx_nat.mp (by simpa using h)
    have lt : ks.length < t := by
      by_cases q : ks.length < t
      · exact q
      · rw [if_neg q] at lg
        omega
    rw [if_pos lt] at lg
    refine wps_nil (wps_ret (wpe_meth (by decide +kernel) (wpe_var rfl ⟨⟨_, rfl⟩, wpa_cons (wpe_op (wpe_cb1 (wpe_var rfl (cbd_l (cbd_len (.inr rfl) ?_)))))⟩)))
    rw [nat_len]
    refine wpe_int (opd_i (wpa_nil ⟨rfl, ⟨t, n, ks.length + 1, rfl, ok, by omega⟩, fun d hd => ?_, fun _ _ z => z⟩))
    intro t' n' a' b' e
    obtain ⟨rfl, rfl, rfl, rfl⟩ := threeL_inj e
    exact ⟨row, ⟨ks, g, rfl, rfl, lt, by omega⟩, ks, rfl, hd t n (ks.length + 1) rfl⟩
def c_movedX (C CL CG : Addr) : Spc :=
  { pre := fun as => ∃ (t n : Nat) (a b c : D), as = [.da (lwD C t n), .da a, .da b, .da c] ∧ OkL t n ∧ okD a = true ∧ plnD b = true ∧ okD c = true
    post := fun as y => ∀ (t n : Nat) (a b c : D), as = [.da (lwD C t n), .da a, .da b, .da c] → IsRowD t n a ∧ IsGapD t a b ∧ IsGoalD n a c ∧ ∃ (ks : List Nat) (g : Nat) (gs : List Nat), a = rowN ks ∧ b = .int (g : Nat) ∧ c = rowN gs ∧ y = .int (movedN ks g gs : Nat)
    err := fun as C' d' => ∃ (t n : Nat) (a b c : D), as = [.da (lwD C t n), .da a, .da b, .da c] ∧ ((C' = CL ∧ ¬ IsRowD t n a ∧ d' = a) ∨ (C' = CG ∧ IsRowD t n a ∧ ¬ IsGapD t a b ∧ d' = b) ∨ (C' = CL ∧ IsRowD t n a ∧ IsGapD t a b ∧ ¬ IsGoalD n a c ∧ d' = c)) }
theorem d_movedX {f : Addr} {fd : FuncData} (B : Bly mg) (W : TLe K mg C fI fE fdI fdE) (xl : ExC K mg "BadLot" CL fE) (F : Mn K C "moved" "LabelWorld.moved" s_moved ["self", "standing", "gap", "goal"] f fd)
    (D_without_item : Dk P w K mg base "without_item" CX0 1 ["items", "at"] (spW c_without 2)) (M_nexts : Dm P w K mg base C "nexts" (L2.CX P w) 7 ["self", "standing", "gap"] (spW (c_nextsX C CL CG) 3))
    (M__is_lot : Dm P w K mg base C "_is_lot" CX0 3 ["self", "value"] (spW (c_is_lot C) 2)) : DmX f fd P w K mg base C "moved" (L2.CX P w) 8 ["self", "standing", "gap", "goal"] (spW (c_movedX C CL CG) 4) := by
  have GE : FnOk P w K mg base CX0 1 fE fdE ["self", "what"] (spExI K) := ok_exI W.FE
  refine F.okX sc_moved rfl fun cdv A outer s H E as hr ⟨t, n, a, b, c, e, ok, va, vb, vc⟩ _ => ?_
  subst e
  refine ⟨_, (pss_cons (ps_set (i := 4) sc_moved.nd rfl (by first | exact Or.inl rfl | exact Or.inr rfl) (pe_methD (pv 0) W.cl M_nexts (hr.mono (by decide)) (passX (takes_of rfl rfl rfl rfl)) (pa_cons (pv 1) (pa_cons (pv 2) pa_nil))))
    (pss_cons (ps_if (PW.pt (pw_or (pt_not (pt_val (pe_methD (pv 0) W.cl M__is_lot (hr.mono (by decide)) pass0 (pa_cons (pv 3) pa_nil)))) (pw_or1 (pt_cmpR (op_notInDK (K := K) rfl hr.units65) (pv 3) (pv 4) (by with_unfolding_all rfl))))) (pss_one (ps_raise rfl (takes_of rfl rfl rfl rfl) (pmk_oex xl.ox xl.iC xl.tI GE (hr.mono (by decide)) W.bE .nil pass0 (by rfl) xl.gC (pa_cons (pv 3) pa_nil)))) pss_nil)
    (pss_one (ps_ret (pe_callB (call_lenK (K := K) rfl) (by rfl) B.len b_len (pa_cons (pe_lc (own := [("old", 5), ("new", 6)]) (g := gTup K 2 (gCons (gName 5) (gCons (gName 6) gNil))) (by rfl) sc_moved.nd (RZ.pi_zipA (by rfl) B.zip (pa_cons (pv 1) (pa_cons (pe_callD D_without_item (hr.mono (by decide)) (by rfl) pass0 (pa_cons (pv 3) (pa_cons (pv 2) pa_nil))) pa_nil))) (blkOk_by (N := ["self", "standing", "gap", "goal", "nexts", "old", "new"]) (sc := defScope s_moved) (by decide +kernel)) (fun _ _ _ _ _ => pg_tup rfl (pgs_cons (pg_name (i := 5) sc_moved.nd rfl (by first | exact Or.inl rfl | exact Or.inr rfl)) (pgs_cons (pg_name (i := 6) sc_moved.nd rfl (by first | exact Or.inl rfl | exact Or.inr rfl)) pgs_nil))) (fun _ _ _ _ _ => (pts_one (pt_cmpR (op_neK (K := K) rfl hr.units) (pv 5) (pv 6) (by with_unfolding_all rfl)))) (fun _ _ _ _ _ => (pv 5))) pa_nil)))))), fun T => ?_⟩
  have := ok.t4
  refine wps_seq (wps_set (wpe_methX (ns := lN) (by decide +kernel) (wpe_var rfl ⟨⟨_, rfl⟩, wpa_cons (wpe_var rfl (wpa_cons (wpe_var rfl (wpa_nil ⟨rfl, ⟨t, n, a, b, rfl, ok, va, vb⟩, fun y hd => ?_, fun C' y hd => ?_⟩))))⟩)))
  case refine_2 =>
    obtain ⟨t', n', a', b', e, h⟩ := hd
    obtain ⟨rfl, rfl, rfl, rfl⟩ := threeL_inj e
    exact ⟨t, n, a, b, c, rfl, h.imp id .inl⟩
  obtain ⟨row, ⟨ks, g, rfl, rfl, lt, lg⟩, ks', ek, rfl⟩ := hd t n a b rfl
  have ek := rowN_inj ek
  subst ek
  have gap : IsGapD t (rowN ks) (.int (g : Nat)) := ⟨ks, g, rfl, rfl, lt, lg⟩
  have bad : ∀ {δ : List Sl} {Φ : List Sl → Prop} {Ψ : D → Prop}, ¬ IsGoalD n (rowN ks) c → δ[3]? = some (.da c) → WpS ⟨E, (c_movedX C CL CG).err [.da (lwD C t n), .da (rowN ks), .da (.int (g : Nat)), .da c], T⟩ (fun _ σ H => tMkO CL (spExI K) [] (tCons (tVar 3) tNil) σ H fun cls d H' => E cls d H') δ Φ Ψ := fun ng e =>
    wps_raiseV xl (i := 3) e ⟨t, n, _, _, _, rfl, .inr (.inr ⟨rfl, row, gap, ng, rfl⟩)⟩
  refine wps_seq (wps_if (wpt_or (wpt_not (wpt_test (wpe_meth (by decide +kernel) (wpe_var rfl ⟨⟨_, rfl⟩, wpa_cons (wpe_var rfl (wpa_nil ⟨rfl, ⟨t, n, _, rfl, vc⟩, fun d hd => ?_, fun _ _ z => z⟩))⟩))))))
  have hd := hd t n c rfl
  subst hd
  refine ⟨_, rfl, ite_b (fun h => ?_) (fun h => ?_)⟩
  · refine bad ?_ rfl
    rintro ⟨ks', gs, e, rfl, m⟩
    have e2 := rowN_inj e
    subst e2
    obtain ⟨ln, ll⟩ := lot_next ok (show ks.length + 1 ≤ t by omega) m
    rw [lot_is ok ln] at h
    exact nomatch h
  · obtain ⟨gs, rfl, lotg, lg2⟩ := (isLot_iff ok).mp (by simpa using h)
    refine wpt_test (wpe_op (wpe_var rfl (wpe_var rfl (opd_ninRows ⟨_, rfl, ?_⟩))))
    by_cases hg : gs ∈ combs n (ks.length + 1)
    · rw [decide_eq_true hg]
      refine wps_nil ?_
      obtain ⟨_, ll⟩ := lot_next ok (show ks.length + 1 ≤ t by omega) hg
      have lw : (wo gs g).length = ks.length := by have := wo_len (ks := gs) (a := g) (by omega); omega
      refine wps_ret (wpe_cb1 (wpe_flt (js := [5, 6]) neP fstD (by simp) (wpi_zipL (wpe_var rfl (wpe_call0 (wpa_cons (wpe_var rfl (wpa_cons (wpe_var rfl (wpa_nil ⟨rfl, ⟨gs, g, rfl, by omega⟩, fun d hd => ?_, fun _ _ z => z⟩))))))))))
      have hd := hd gs g rfl
      subst hd
      refine ⟨_, _, .inr ⟨rfl, rfl⟩, .inl fun d hd => by obtain ⟨i, _, rfl⟩ := List.mem_map.mp hd; rfl, by rw [zip_rows]; omega, fun d hd => ?_, ?_⟩
      · obtain ⟨x, y, hx, hy, rfl⟩ := zip_mem hd
        obtain ⟨x, _, rfl⟩ := List.mem_map.mp hx
        obtain ⟨y, _, rfl⟩ := List.mem_map.mp hy
        exact wpg_pair ⟨_, _, rfl, wpt_test (wpe_op (wpe_var rfl (wpe_var rfl (opd_l (opd_neI ⟨_, rfl, rfl, fun _ => wpe_var rfl rfl⟩)))))⟩
      · refine cbd_l (cbd_len (.inl rfl) ?_)
        rw [List.length_map, eqm _ _ lw.symm]
        intro t' n' a' b' c' e
        obtain ⟨rfl, rfl, rfl, rfl, rfl⟩ := fourL_inj e
        exact ⟨row, gap, ⟨ks, gs, rfl, rfl, hg⟩, ks, g, gs, rfl, rfl, rfl, rfl⟩
    · rw [decide_eq_false hg]
      refine bad ?_ rfl
      rintro ⟨ks', gs', e, e', m⟩
      rw [← rowN_inj e, ← rowN_inj e'] at m
      exact hg m
end
end Nv
/-! the law's own: odd values; what is a row; all rows; prices -/
namespace Nv
open PySem PySem.Spec PyProof.Rows L2
variable [Tb]
def deepD : Nat → D
  | 0 => .int 0
  | n + 1 => .tup [deepD n]
def oddL : List D := [.non, .bl true, .bl false, .int (-1), .int (10 ^ 20), .str "0", .str "", .tup [], .lst [], .dic [] [], .lst [.int 0], .tup [.bl true], .tup [.int 0, .int 0], .tup [.int 1, .int 0], .tup [.tup [.int 0, .int 0]], .tup [.tup [.bl true, .int 0]],
  deepD 24, .tup [.int 0, .bl false], .int 7, .tup [.non], .tup [.str "a"], .tup [.int 0, .int 1], .tup [.tup [], .tup []], .tup [.int (-1), .int (-1)], .tup [.bl true, .int (-1)]] ++
  [.tup [.lst [.int 0]], .tup [.dic [] []], .tup [.tup [.lst [.int 0], .int 0]], .tup [.tup [.tup [.lst [.int 0], .int 0]]], .tup [.lst [.int 0], .int 0]]
/-- a value that is passed: plain, and shown -/
structure V51 (d : D) : Prop where
  pl : plnD d = true
  ok : okD d = true
  it : ∀ ds, d = .tup ds → ds.length ≤ 100 ∧ ∀ x ∈ ds, plnD x = true
  v : ValR d
  nx : noX d = true
def itB : D → Bool
  | .tup ds => decide (ds.length ≤ 100) && ds.all plnD
  | _ => true
def chkV (d : D) : Bool := plnD d && okD d && itB d && eqB d 42 && (toPq d).showable && decide ((toPq d).depth ≤ 45) && decide ((toPq d).shown.length ≤ 3000) && noX d
theorem v51_of {d : D} (h : chkV d = true) : V51 d := by
  unfold chkV at h
  simp only [Bool.and_eq_true, decide_eq_true_eq] at h
  obtain ⟨⟨⟨⟨⟨⟨⟨h1, h0⟩, h2⟩, h3⟩, h4⟩, h5⟩, h6⟩, h7⟩ := h
  refine ⟨h1, h0, fun ds e => ?_, ⟨h3, h4, h5, h6⟩, h7⟩
  subst e
  unfold itB at h2
  rw [Bool.and_eq_true] at h2
  exact ⟨of_decide_eq_true h2.1, fun x hx => List.all_eq_true.mp h2.2 x hx⟩
theorem chk_odd : oddL.all chkV = true := by decide +kernel
theorem v51_odd {d : D} (h : d ∈ oddL) : V51 d := v51_of (List.all_eq_true.mp chk_odd d h)
theorem chk_rows51 : (subsN 7).all (fun ks => chkV (rowN ks)) = true := by decide +kernel
theorem v51_row {n : Nat} {ks : List Nat} (l : LotH n ks) (h : n ≤ 7) : V51 (rowN ks) := v51_of (List.all_eq_true.mp chk_rows51 ks (subsN_mem 7 ⟨l.asc, fun k hk => by have := l.lt k hk; omega⟩))
theorem chk_nums51 : (List.range 32).all (fun n => chkV (.int (n : Nat))) = true := by decide +kernel
theorem v51_num {n : Nat} (h : n < 32) : V51 (.int (n : Nat)) := v51_of (List.all_eq_true.mp chk_nums51 n (List.mem_range.mpr h))
theorem chk_row40 : (subsN 7).all (fun ks => eqB (rowN ks) 41 && (toPq (rowN ks)).showable && decide ((toPq (rowN ks)).depth ≤ 44) && decide ((toPq (rowN ks)).shown.length ≤ 40)) = true := by decide +kernel
theorem valR_rows {n : Nat} {kss : List (List Nat)} (h : ∀ ks ∈ kss, LotH n ks) (h7 : n ≤ 7) (l : kss.length ≤ 60) : ValR (.lst (kss.map rowN)) := by
  refine valR_lst (fun d hd => ?_) (by rw [List.length_map]; exact l)
  obtain ⟨ks, hk, rfl⟩ := List.mem_map.mp hd
  have lk := h ks hk
  have q := List.all_eq_true.mp chk_row40 ks (subsN_mem 7 ⟨lk.asc, fun k hk => by have := lk.lt k hk; omega⟩)
  simp only [Bool.and_eq_true, decide_eq_true_eq] at q
  exact ⟨q.1.1.1, q.1.1.2, q.1.2, q.2⟩
theorem rowN_inj' {xs ys : List Nat} (h : rowN xs = rowN ys) : xs = ys := rowN_inj h
section
variable {P : Program} {w : World} {K : PySem.W.Frag} {mg : Str → Option Value} {base : Heap} {C fI : Addr} {fdI : FuncData}
abbrev s__law_odd : Stmt := top 22
theorem sc__law_odd : FnScope ["stream", "deep", "k", "menu"] ["stream"] (defScope s__law_odd) :=
  ⟨rfl, rfl, rfl, by decide +kernel, rfl, by decide +kernel, by decide +kernel⟩
abbrev s__law_ascending : Stmt := top 24
theorem sc__law_ascending : FnScope ["value", "limit", "item"] ["value", "limit"] (defScope s__law_ascending) :=
  ⟨rfl, rfl, rfl, by decide +kernel, rfl, by decide +kernel, by decide +kernel⟩
abbrev s__law_is_row : Stmt := top 28
theorem sc__law_is_row : FnScope ["value", "things", "labels"] ["value", "things", "labels"] (defScope s__law_is_row) :=
  ⟨rfl, rfl, rfl, by decide +kernel, rfl, by decide +kernel, by decide +kernel⟩
abbrev s__law_int : Stmt := top 23
theorem sc__law_int : FnScope ["value"] ["value"] (defScope s__law_int) :=
  ⟨rfl, rfl, rfl, by decide +kernel, rfl, by decide +kernel, by decide +kernel⟩
abbrev s__law_service : Stmt := top 25
theorem sc__law_service : FnScope ["stream", "things", "labels"] ["stream"] (defScope s__law_service) :=
  ⟨rfl, rfl, rfl, by decide +kernel, rfl, by decide +kernel, by decide +kernel⟩
abbrev s__law_rows : Stmt := top 26
theorem sc__law_rows : FnScope ["things", "labels", "found", "bits", "row", "label"] ["things", "labels"] (defScope s__law_rows) :=
  ⟨rfl, rfl, rfl, by decide +kernel, rfl, by decide +kernel, by decide +kernel⟩
abbrev s__law_price : Stmt := top 27
theorem sc__law_price : FnScope ["row", "gap", "goal", "price", "place"] ["row", "gap", "goal"] (defScope s__law_price) :=
  ⟨rfl, rfl, rfl, by decide +kernel, rfl, by decide +kernel, by decide +kernel⟩
def c_lint : Spc := sp1 (fun x => plnD x = true) fun x => .bl (isInt x)
theorem d_lint {f : Addr} {fd : FuncData} (B : Bly mg) (F : Fn K mg "_law_int" s__law_int ["value"] f fd) : Dk P w K mg base "_law_int" CX0 1 ["value"] (spW c_lint 1) := by
  refine F.ok1 sc__law_int rfl fun cdv A outer s H E x hr p => ⟨_, (pss_one (ps_ret (pe_and (pe_callB (call_isiK (K := K) rfl) (by rfl) B.isi b_isinstance (pa_cons (pv 0) (pa_cons (pe_bltn (v := .ty "int") (by rfl) B.int b_int rfl) pa_nil))) (pe_one (pe_not (pe_callB (call_isiK (K := K) rfl) (by rfl) B.isi b_isinstance (pa_cons (pv 0) (pa_cons (pe_bltn (v := .ty "bool") (by rfl) B.bool b_bool rfl) pa_nil)))))))), fun T => ?_⟩
  repeat (first | with_reducible refine wps_nil ?_ | with_reducible refine wps_seq ?_ | refine wps_ret ?_ | refine wps_if ?_ | refine wps_newl ?_ | refine wps_set ?_ | refine wpt_not ?_ | refine wpt_or ?_ | refine wpt_and ?_ | refine wpt_B ?_ | refine wpt_test ?_ | refine wpe_var rfl ?_ | refine wpe_int ?_ | refine wpe_bl ?_ | refine wpe_str ?_ | refine wpe_non ?_ | refine wpe_ty ?_ | refine wpe_andV ?_ | refine wpe_orV ?_ | refine wpe_notV ?_ | refine wpe_if ?_ | refine wpe_call1 ?_ | refine wpe_call2 ?_ | refine wpe_call3 ?_ | refine wpe_callS rfl ?_ | refine wpe_tupL ?_ | refine wpe_lstL ?_ | refine wpe_call0 ?_ | refine wpe_cb1 ?_ | refine wpe_cb2 ?_ | refine wpe_neg ?_ | refine wpe_slice ?_ | refine wpe_op ?_ | refine wpe_chain ?_ | refine wpo_none ?_ | refine wpo_some ?_ | refine wpl_nil ?_ | refine wpl_cons ?_ | refine wpa_cons ?_ | refine wpi_zipL ?_ | refine wpi_enuT1 ?_ | refine wpi_rng1 ?_ | refine wpi_seq ?_ | refine opd_ix (n := 0) (.inr rfl) rfl rfl ?_ | refine opd_ix (n := 1) (.inr rfl) rfl rfl ?_ | refine opd_ix (n := 2) (.inr rfl) rfl rfl ?_ | refine opd_b ?_ | refine opd_l (opd_b ?_) | refine opd_i ?_ | refine opd_l (opd_eqI ?_) | refine opd_l (opd_neI ?_) | refine opd_l (opd_neS ?_) | refine opd_l (opd_eqS ?_) | refine cbd_l (cbd_len (.inr rfl) ?_) | refine cbd_l (cbd_len (.inl rfl) ?_) | refine cbd_int1 ?_ | refine ite_t ?_ | refine ite_f ?_ | refine ⟨_, rfl, ?_⟩)
  refine cbd_isI p ⟨_, rfl, ite_b (fun h => ?_) (fun h => ?_)⟩
  · repeat (first | with_reducible refine wps_nil ?_ | with_reducible refine wps_seq ?_ | refine wps_ret ?_ | refine wps_if ?_ | refine wps_newl ?_ | refine wps_set ?_ | refine wpt_not ?_ | refine wpt_or ?_ | refine wpt_and ?_ | refine wpt_B ?_ | refine wpt_test ?_ | refine wpe_var rfl ?_ | refine wpe_int ?_ | refine wpe_bl ?_ | refine wpe_str ?_ | refine wpe_non ?_ | refine wpe_ty ?_ | refine wpe_andV ?_ | refine wpe_orV ?_ | refine wpe_notV ?_ | refine wpe_if ?_ | refine wpe_call1 ?_ | refine wpe_call2 ?_ | refine wpe_call3 ?_ | refine wpe_callS rfl ?_ | refine wpe_tupL ?_ | refine wpe_lstL ?_ | refine wpe_call0 ?_ | refine wpe_cb1 ?_ | refine wpe_cb2 ?_ | refine wpe_neg ?_ | refine wpe_slice ?_ | refine wpe_op ?_ | refine wpe_chain ?_ | refine wpo_none ?_ | refine wpo_some ?_ | refine wpl_nil ?_ | refine wpl_cons ?_ | refine wpa_cons ?_ | refine wpi_zipL ?_ | refine wpi_enuT1 ?_ | refine wpi_rng1 ?_ | refine wpi_seq ?_ | refine opd_ix (n := 0) (.inr rfl) rfl rfl ?_ | refine opd_ix (n := 1) (.inr rfl) rfl rfl ?_ | refine opd_ix (n := 2) (.inr rfl) rfl rfl ?_ | refine opd_b ?_ | refine opd_l (opd_b ?_) | refine opd_i ?_ | refine opd_l (opd_eqI ?_) | refine opd_l (opd_neI ?_) | refine opd_l (opd_neS ?_) | refine opd_l (opd_eqS ?_) | refine cbd_l (cbd_len (.inr rfl) ?_) | refine cbd_l (cbd_len (.inl rfl) ?_) | refine cbd_int1 ?_ | refine ite_t ?_ | refine ite_f ?_ | refine ⟨_, rfl, ?_⟩)
    refine cbd_isB p ⟨_, rfl, ?_⟩
    cases x <;> first | rfl | cases h
  · cases x <;> first | rfl | cases h
def c_service (C : Addr) : Spc := spS (fun ds => ds = []) fun _ d => ∃ t n, d = lwD C t n ∧ OkL t n
theorem d_service {f : Addr} {fd : FuncData} (B : Bly mg) (W : TLo K mg C fI fdI) (GI : FnOk P w K mg base CX0 3 fI fdI ["self", "things", "labels"] (spIni C iniL 2))
    (F : Fn K mg "_law_service" s__law_service ["stream"] f fd) (D__law_draw : Dk P w K mg base "_law_draw" CX0 2 ["stream", "many"] (spW c_draw 2)) :
    Dk P w K mg base "_law_service" CX0 5 ["stream"] (spW (c_service C) 1) := by
  refine F.okS sc__law_service rfl fun cdv A outer s H E a ds hr e _ => ⟨_, (pss_cons (ps_set (i := 1) sc__law_service.nd rfl (by first | exact Or.inl rfl | exact Or.inr rfl) (pe_op op_add pe_int (pe_callD D__law_draw (hr.mono (by decide)) (by rfl) pass0 (pa_cons (pv 0) (pa_cons pe_int pa_nil)))))
    (pss_cons (ps_set (i := 2) sc__law_service.nd rfl (by first | exact Or.inl rfl | exact Or.inr rfl) (pe_op op_add (pv 1) (pe_callD D__law_draw (hr.mono (by decide)) (by rfl) pass0 (pa_cons (pv 0) (pa_cons (pe_op op_sub pe_int (pv 1)) pa_nil)))))
    (pss_one (ps_ret (pe_make W.M GI (hr.mono (by decide)) (by rfl) W.m W.b .nil pass0 (pa_cons (pv 1) (pa_cons (pv 2) pa_nil))))))), fun T => ?_⟩
  subst e
  refine wps_seq (wps_set (wpe_op (wpe_int (wpe_callS rfl (wpl_cons (wpe_int (wpl_nil ⟨rfl, ⟨4, rfl, by decide, by decide⟩, fun d hd => ?_⟩)))))))
  obtain ⟨x, rfl, x0, x1⟩ := hd 4 rfl
  refine opd_i ?_
  refine wps_seq (wps_set (wpe_op (wpe_var rfl (wpe_callS rfl (wpl_cons (wpe_op (wpe_int (wpe_var rfl (opd_i (wpl_nil ⟨rfl, ⟨_, rfl, by omega, ?_⟩, fun d hd => ?_⟩))))))))))
  · exact Nat.lt_of_le_of_lt (show _ ≤ 8 by omega) (by decide)
  obtain ⟨y, rfl, y0, y1⟩ := hd _ rfl
  refine opd_i ?_
  obtain ⟨xn, rfl⟩ : ∃ m : Nat, x = m := ⟨x.toNat, by omega⟩
  obtain ⟨yn, rfl⟩ : ∃ m : Nat, y = m := ⟨y.toNat, by omega⟩
  have ok : OkL (1 + xn) (1 + xn + yn) := ⟨by omega, by omega, by omega, by omega⟩
  refine wps_ret (wpe_mkC0 (c := iniL) (wpl_cons (wpe_var rfl (wpl_cons (wpe_var rfl (wpl_nil ⟨rfl, ⟨1 + xn, 1 + xn + yn, by push_cast; rfl, ok⟩, ⟨1 + xn, 1 + xn + yn, by show D.ins _ _ _ = D.ins _ _ _; push_cast; rfl, ok⟩, fun _ _ z => z⟩))))))
def c_odd : Spc := spS (fun ds => ds = []) fun _ d => d ∈ oddL
theorem d_odd {f : Addr} {fd : FuncData} (B : Bly mg) (F : Fn K mg "_law_odd" s__law_odd ["stream"] f fd) (D__law_draw : Dk P w K mg base "_law_draw" CX0 2 ["stream", "many"] (spW c_draw 2)) :
    Dk P w K mg base "_law_odd" CX0 4 ["stream"] (spW c_odd 1) := by
  refine F.okS sc__law_odd rfl fun cdv A outer s H E a ds hr e _ => ⟨_, (pss_cons (ps_set (i := 1) sc__law_odd.nd rfl (by first | exact Or.inl rfl | exact Or.inr rfl) pe_int)
    (pss_cons (ps_for PassesOwn.never rfl (pi_range1 (by rfl) B.rng (pa_cons pe_int pa_nil)) (pg_name (i := 2) sc__law_odd.nd rfl (by first | exact Or.inl rfl | exact Or.inr rfl)) (pss_one (ps_set (i := 1) sc__law_odd.nd rfl (by first | exact Or.inl rfl | exact Or.inr rfl) (pe_tupF (pa_cons (pv 1) pa_nil)))))
    (pss_cons (ps_set (i := 3) sc__law_odd.nd rfl (by first | exact Or.inl rfl | exact Or.inr rfl) (pe_lst (pa_cons pe_non (pa_cons pe_bl (pa_cons pe_bl (pa_cons (pe_un un_neg pe_int) (pa_cons (pe_op op_pow pe_int pe_int) (pa_cons pe_str (pa_cons pe_str (pa_cons (pe_tupF pa_nil) (pa_cons (pe_lst pa_nil) (pa_cons pe_dnewK (pa_cons (pe_lst (pa_cons pe_int pa_nil)) (pa_cons (pe_tupF (pa_cons pe_bl pa_nil)) (pa_cons (pe_tupF (pa_cons pe_int (pa_cons pe_int pa_nil))) (pa_cons (pe_tupF (pa_cons pe_int (pa_cons pe_int pa_nil))) (pa_cons (pe_tupF (pa_cons (pe_tupF (pa_cons pe_int (pa_cons pe_int pa_nil))) pa_nil)) (pa_cons (pe_tupF (pa_cons (pe_tupF (pa_cons pe_bl (pa_cons pe_int pa_nil))) pa_nil)) (pa_cons (pv 1) (pa_cons (pe_tupF (pa_cons pe_int (pa_cons pe_bl pa_nil))) (pa_cons pe_int (pa_cons (pe_tupF (pa_cons pe_non pa_nil)) (pa_cons (pe_tupF (pa_cons pe_str pa_nil)) (pa_cons (pe_tupF (pa_cons pe_int (pa_cons pe_int pa_nil))) (pa_cons (pe_tupF (pa_cons (pe_tupF pa_nil) (pa_cons (pe_tupF pa_nil) pa_nil))) (pa_cons (pe_tupF (pa_cons (pe_un un_neg pe_int) (pa_cons (pe_un un_neg pe_int) pa_nil))) (pa_cons (pe_tupF (pa_cons pe_bl (pa_cons (pe_un un_neg pe_int) pa_nil))) pa_nil)))))))))))))))))))))))))))
    (pss_cons (ps_set (i := 3) sc__law_odd.nd rfl (by first | exact Or.inl rfl | exact Or.inr rfl) (pe_op op_cat (pv 3) (pe_lst (pa_cons (pe_tupF (pa_cons (pe_lst (pa_cons pe_int pa_nil)) pa_nil)) (pa_cons (pe_tupF (pa_cons pe_dnewK pa_nil)) (pa_cons (pe_tupF (pa_cons (pe_tupF (pa_cons (pe_lst (pa_cons pe_int pa_nil)) (pa_cons pe_int pa_nil))) pa_nil)) (pa_cons (pe_tupF (pa_cons (pe_tupF (pa_cons (pe_tupF (pa_cons (pe_lst (pa_cons pe_int pa_nil)) (pa_cons pe_int pa_nil))) pa_nil)) pa_nil)) (pa_cons (pe_tupF (pa_cons (pe_lst (pa_cons pe_int pa_nil)) (pa_cons pe_int pa_nil))) pa_nil))))))))
    (pss_one (ps_ret (pe_ix (ix_K (K := K) rfl) (pv 3) (pe_callD D__law_draw (hr.mono (by decide)) (by rfl) pass0 (pa_cons (pv 0) (pa_cons (pe_callB (call_lenK (K := K) rfl) (by rfl) B.len b_len (pa_cons (pv 3) pa_nil)) pa_nil))) (fun _ _ => rfl)))))))), fun T => ?_⟩
  subst e
  refine wps_seq (wps_set (wpe_int ?_))
  refine wps_seq (wps_for (js := [2]) (wpi_rng1 (wpe_int ⟨24, rfl, by decide, by decide, fun i δ' => ∃ x2 : Sl, δ' = [.st a, .da (deepD i), x2, .no], ⟨_, rfl⟩, ?_, ?_⟩)))
  · rintro i d δ' ed ⟨x2, rfl⟩
    exact wpg_name (wps_set (wpe_tupL (wpl_cons (wpe_var rfl (wpl_nil ⟨by show 1 ≤ 1000; decide, _, rfl⟩)))))
  · rintro δ' ⟨x2, rfl⟩
    refine wps_seq (wps_set (wpe_lstL ?_))
    repeat (first | refine wpl_cons (wpe_non ?_) | refine wpl_cons (wpe_bl ?_) | refine wpl_cons (wpe_int ?_) | refine wpl_cons (wpe_str ?_) | refine wpl_cons (wpe_var rfl ?_) | refine wpl_cons (wpe_dnewQ ?_) | refine wpl_cons (wpe_neg (wpe_int ⟨_, rfl, ?_⟩)) | refine wpl_cons (wpe_op (wpe_int (wpe_int (opd_c ⟨by decide, by decide, by decide⟩ ?_)))) | refine wpl_cons (wpe_tupL ?_) | refine wpl_cons (wpe_lstL ?_) | refine wpl_nil ⟨by decide, ?_⟩)
    refine wps_seq (wps_set (wpe_op (wpe_var rfl (wpe_lstL ?_))))
    repeat (first | refine wpl_cons (wpe_non ?_) | refine wpl_cons (wpe_bl ?_) | refine wpl_cons (wpe_int ?_) | refine wpl_cons (wpe_str ?_) | refine wpl_cons (wpe_var rfl ?_) | refine wpl_cons (wpe_dnewQ ?_) | refine wpl_cons (wpe_neg (wpe_int ⟨_, rfl, ?_⟩)) | refine wpl_cons (wpe_tupL ?_) | refine wpl_cons (wpe_lstL ?_) | refine wpl_nil ⟨by decide, ?_⟩)
    refine opd_catL (by decide) ?_
    show WpS _ _ [.st a, .da (deepD 24), x2, .da (.lst oddL)] _ _
    refine wps_ret (wpe_op (wpe_var rfl (wpe_callS rfl (wpl_cons (wpe_cb1 (wpe_var rfl (cbd_l (cbd_len (.inl rfl) (wpl_nil ⟨rfl, ⟨30, rfl, by decide, by decide⟩, fun d hd => ?_⟩)))))))))
    obtain ⟨z, rfl, z0, z1⟩ := hd 30 rfl
    obtain ⟨n, rfl⟩ : ∃ m : Nat, z = m := ⟨z.toNat, by omega⟩
    have ln : n < oddL.length := by show n < 30; omega
    exact opd_ix (n := n) (.inl rfl) rfl (List.getElem?_eq_getElem ln) (List.getElem_mem ln)
/-- a tuple of numbers below n, ascending -/
def ascL (n : Nat) (d : D) : Prop := ∃ ks, d = rowN ks ∧ LotH n ks
open Classical in
def c_asc : Spc :=
  { pre := fun as => ∃ (d : D) (n : Nat), as = [.da d, .da (.int (n : Nat))] ∧ plnD d = true ∧ ∀ ds, d = .tup ds → ds.length ≤ 100 ∧ ∀ x ∈ ds, plnD x = true
    post := fun as y => ∀ (d : D) (n : Nat), as = [.da d, .da (.int (n : Nat))] → ∃ b, y = .bl b ∧ (b = true ↔ ascL n d) }
theorem lay_lstI {zs : List Int} : layD (.lst (zs.map D.int)) 5 = true := by
  show (decide (1 ≤ 5) && layAll (zs.map D.int) 4) = true
  rw [lay_ints]
  rfl
theorem opd_eqLI {K : PySem.W.Frag} {φ : D → Prop} {xs ys : List Int} (q : φ (.bl (decide (xs = ys)))) : OpD (fun x y H Q => rEq x y H Q ∨ rEqD K x y H Q) (.lst (xs.map D.int)) (.lst (ys.map D.int)) φ :=
  opd_r (opd_eqDD (n := 5) lay_lstI lay_lstI (by decide) (by rw [eqv_ints]; exact q))
theorem asc_sorted {zs ys : List Int} (pm : ys.Perm zs) (so : ys.Pairwise (· ≤ ·)) : decide (zs = ys) = true ↔ zs.Pairwise (· ≤ ·) := by
  rw [decide_eq_true_iff]
  constructor
  · intro e
    rw [e]
    exact so
  · intro h
    exact (pm.eq_of_pairwise (fun a b _ _ h1 h2 => by omega) so h).symm
theorem nodup_eq : ∀ {zs L : List Int}, L.Nodup → (∀ k ∈ L, k ∈ zs) → L.length = zs.length → zs.Nodup
  | [], _, _, _, _ => List.nodup_nil
  | z :: zs, L, nd, sub, e => by
    rw [List.length_cons] at e
    by_cases m : z ∈ L
    · have nz : z ∉ zs := fun h => by
        have := nodup_le (U := zs) nd fun k hk => by
          rcases List.mem_cons.mp (sub k hk) with rfl | h'
          · exact h
          · exact h'
        omega
      refine List.nodup_cons.mpr ⟨nz, nodup_eq (L := L.erase z) (nd.erase z) (fun k hk => ?_) (by rw [List.length_erase_of_mem m]; omega)⟩
      obtain ⟨h1, h2⟩ := (List.Nodup.mem_erase_iff nd).mp hk
      exact (List.mem_cons.mp (sub k h2)).resolve_left h1
    · have := nodup_le (U := zs) nd fun k hk => (List.mem_cons.mp (sub k hk)).resolve_left fun z' => m (by rw [← z']; exact hk)
      omega
theorem len_nodup {L zs : List Int} (nd : L.Nodup) (mem : ∀ k, k ∈ L ↔ k ∈ zs) : L.length = zs.length ↔ zs.Nodup :=
  ⟨nodup_eq nd fun k hk => (mem k).mp hk, fun h => ((List.perm_ext_iff_of_nodup nd h).mpr mem).length_eq⟩
theorem all_nats {n : Nat} : ∀ {ds : List D}, (∀ x ∈ ds, ∃ k : Nat, x = .int (k : Nat) ∧ k < n) → ∃ ks : List Nat, ds = ks.map (fun (i : Nat) => D.int i) ∧ ∀ k ∈ ks, k < n
  | [], _ => ⟨[], rfl, fun k h => nomatch h⟩
  | d :: ds, h => by
    obtain ⟨k, rfl, lk⟩ := h d (by simp)
    obtain ⟨ks, rfl, hk⟩ := all_nats (ds := ds) fun x hx => h x (by simp [hx])
    exact ⟨k :: ks, rfl, fun z hz => by
      rcases List.mem_cons.mp hz with rfl | hz
      · exact lk
      · exact hk z hz⟩
theorem ascL_nat {n : Nat} {x : D} {ds : List D} (h : ascL n (.tup ds)) (m : x ∈ ds) : ∃ k : Nat, x = .int (k : Nat) ∧ k < n := by
  obtain ⟨ks, e, l⟩ := h
  obtain rfl := D.tup.inj e
  obtain ⟨k, hk, rfl⟩ := List.mem_map.mp m
  exact ⟨k, rfl, l.lt k hk⟩
theorem isInt_of {x : D} (h : isInt x = true) : ∃ z : Int, x = .int z := by
  cases x <;> first | exact ⟨_, rfl⟩ | exact nomatch h
theorem d_asc {f : Addr} {fd : FuncData} (B : Bly mg) (Bset : mg "set" = none) (F : Fn K mg "_law_ascending" s__law_ascending ["value", "limit"] f fd) (D__law_int : Dk P w K mg base "_law_int" CX0 1 ["value"] (spW c_lint 1)) :
    Dk P w K mg base "_law_ascending" CX0 2 ["value", "limit"] (spW c_asc 2) := by
  refine F.ok sc__law_ascending rfl fun cdv A outer s H E as hr ⟨d, n, e, pl, it⟩ _ => ?_
  subst e
  refine ⟨_, (pss_cons (ps_if (pt_not (pt_val (pe_callB (call_isiK (K := K) rfl) (by rfl) B.isi b_isinstance (pa_cons (pv 0) (pa_cons (pe_bltn (v := .ty "tuple") (by rfl) B.tuple b_tuple rfl) pa_nil))))) (pss_one (ps_ret pe_bl)) pss_nil)
    (pss_cons (ps_for PassesOwn.never rfl (pi_seq (pv 0)) (pg_name (i := 2) sc__law_ascending.nd rfl (by first | exact Or.inl rfl | exact Or.inr rfl)) (pss_one (ps_if (PW.pt (pw_or (pt_not (pt_val (pe_callD D__law_int (hr.mono (by decide)) (by rfl) pass0 (pa_cons (pv 2) pa_nil)))) (pw_or (pt_cmpR (op_lt.or op_lt_str) (pv 2) pe_int (nomark _)) (pw_or1 (pt_cmpR op_ge (pv 2) (pv 1) (nomark _)))))) (pss_one (ps_ret pe_bl)) pss_nil)))
    (pss_one (ps_ret (pe_and (pe_cmpR (op_eqK (K := K) rfl hr.units) (pe_callTy (call_listK (K := K) rfl) (by rfl) B.list b_list (pa_cons (pv 0) pa_nil)) (pe_callB (cr_sortedK (K := K) rfl) (by rfl) B.srt b_sorted (pa_cons (pe_lc (own := [("item", 2)]) (g := gName 2) (tt := tYes) (by rfl) sc__law_ascending.nd (pi_seq (pv 0)) (blkOk_by (N := ["value", "limit", "item"]) (sc := defScope s__law_ascending) (by decide +kernel)) (fun _ _ _ _ _ => pg_name (i := 2) sc__law_ascending.nd rfl (by first | exact Or.inl rfl | exact Or.inr rfl)) (fun _ _ _ _ _ => pts_nil) (fun _ _ _ _ _ => (pe_callTy call_int1 (by rfl) B.int b_int (pa_cons (pv 2) pa_nil)))) pa_nil)) (by with_unfolding_all rfl)) (pe_one (pe_cmpR (op_eqK (K := K) rfl hr.units) (pe_lenSetZ (K := K) rfl rfl rfl B.len rfl Bset (pv 0)) (pe_callB (call_lenK (K := K) rfl) (by rfl) B.len b_len (pa_cons (pv 0) pa_nil)) (by with_unfolding_all rfl)))))))), fun T => ?_⟩
  refine wps_mono (Φ := fun _ => False) (Ψ := fun y => ∃ b, y = .bl b ∧ (b = true ↔ ascL n d)) ?_ (fun _ z => z.elim) (fun y hd d' n' e => by
    obtain ⟨h1, h2⟩ := List.cons.inj e
    obtain rfl := Sl.da.inj h1
    obtain rfl := Int.ofNat.inj (D.int.inj (Sl.da.inj (List.cons.inj h2).1))
    exact hd)
  refine wps_seq (wps_if (wpt_not (wpt_test (wpe_cb2 (wpe_var rfl (wpe_ty (cbd_isT pl ⟨_, rfl, ?_⟩)))))))
  cases d with
  | tup ds =>
    obtain ⟨lds, pls⟩ := it ds rfl
    refine wps_nil ?_
    refine wps_seq (wps_for (js := [2]) (wpi_seq (wpe_var rfl ⟨_, .inr rfl, fun i δ' => ∃ x2 : Sl, δ' = [.da (.tup ds), .da (.int (n : Nat)), x2] ∧ ∀ x ∈ ds.take i, ∃ k : Nat, x = .int (k : Nat) ∧ k < n, ⟨_, rfl, fun x hx => by rw [List.take_zero] at hx; exact nomatch hx⟩, ?_, ?_⟩)))
    · rintro i x δ' ed ⟨x2, rfl, hx⟩
      have mx := List.mem_of_getElem? ed
      refine wpg_name (wps_if (wpt_or (wpt_not (wpt_test (wpe_call1 (wpe_var rfl ⟨pls x mx, _, rfl, ?_⟩))))))
      by_cases hi : isInt x = true
      · rw [hi]
        obtain ⟨z, rfl⟩ := isInt_of hi
        refine ite_f (wpt_or (wpt_test (wpe_op (wpe_var rfl (wpe_int (opd_l (opd_b ⟨_, rfl, ite_b (fun h => ?_) (fun h => ?_)⟩)))))))
        · have h := of_decide_eq_true h
          refine wps_ret (wpe_bl ⟨false, rfl, fun q => (nomatch q), fun q => ?_⟩)
          obtain ⟨k, e, _⟩ := ascL_nat q mx
          have := D.int.inj e
          omega
        · have h := of_decide_eq_false h
          refine wpt_test (wpe_op (wpe_var rfl (wpe_var rfl (opd_b ⟨_, rfl, ite_b (fun h2 => ?_) (fun h2 => ?_)⟩))))
          · have h2 := of_decide_eq_true h2
            refine wps_ret (wpe_bl ⟨false, rfl, fun q => (nomatch q), fun q => ?_⟩)
            obtain ⟨k, e, lk⟩ := ascL_nat q mx
            have := D.int.inj e
            omega
          · have h2 := of_decide_eq_false h2
            refine wps_nil ⟨_, rfl, fun y hy => ?_⟩
            rw [List.take_add_one, ed] at hy
            rcases List.mem_append.mp hy with hy | hy
            · exact hx y hy
            · obtain rfl : y = .int z := by simpa using hy
              exact ⟨z.toNat, by congr 1; omega, by omega⟩
      · rw [Bool.not_eq_true] at hi
        rw [hi]
        refine wps_ret (wpe_bl ⟨false, rfl, fun q => (nomatch q), fun q => ?_⟩)
        obtain ⟨k, rfl, _⟩ := ascL_nat q mx
        exact nomatch hi
    · rintro δ' ⟨x2, rfl, hx⟩
      rw [List.take_length] at hx
      obtain ⟨ks, rfl, hk⟩ := all_nats hx
      have lks : ks.length ≤ 100 := by rw [List.length_map] at lds; exact lds
      rw [natI]
      have mapI : ((ks.map fun (i : Nat) => (i : Int)).map D.int).map (fun d => d) = (ks.map fun (i : Nat) => (i : Int)).map D.int := List.map_id' _
      refine wps_ret (wpe_andV (wpe_op (wpe_cb1 (wpe_var rfl (cbd_lstOf (.inr rfl) (wpe_cb1 (wpe_map (fun d => d) (by simp) (wpi_seq (wpe_var rfl ⟨_, .inr rfl, by rw [List.length_map, List.length_map]; omega, fun d hd => ?_, ?_⟩)))))))))
      · obtain ⟨z, _, rfl⟩ := List.mem_map.mp hd
        exact wpe_cb1 (wpe_var rfl (cbd_int1 rfl))
      rw [mapI]
      refine cbd_sorted fun ys pm so => opd_eqLI ⟨_, rfl, ite_b (fun h => ?_) (fun h => ?_)⟩
      · have srt := (asc_sorted pm so).mp h
        refine wpe_op (wpe_lenSetZ (wpe_var rfl ⟨_, rfl, by rw [List.length_map]; omega, fun L nd mem => wpe_cb1 (wpe_var rfl (cbd_l (cbd_len (.inr rfl) (opd_l (opd_eqI ⟨_, rfl, ?_⟩)))))⟩))
        rw [decide_eq_true_iff]
        have ln := len_nodup nd mem
        rw [List.length_map] at ln
        constructor
        · intro e
          have nd2 := ln.mp (by rw [List.length_map, List.length_map] at e; omega)
          refine ⟨ks, congrArg D.tup natI.symm, ?_, hk⟩
          refine (List.pairwise_map.mp (srt.and nd2)).imp fun {a b} ⟨h1, h2⟩ => ?_
          have h2 : (a : Int) ≠ b := h2
          omega
        · rintro ⟨ks', e', l'⟩
          have e2 : ks = ks' := rowN_inj' (by show D.tup _ = _; rw [natI]; exact e')
          subst e2
          have := ln.mpr (List.pairwise_map.mpr (l'.asc.imp fun {a b} h => by show (a : Int) ≠ b; omega))
          rw [List.length_map, List.length_map]
          omega
      · refine ⟨false, rfl, fun q => (nomatch q), ?_⟩
        rintro ⟨ks', e', l'⟩
        have e2 : ks = ks' := rowN_inj' (by show D.tup _ = _; rw [natI]; exact e')
        subst e2
        have := (asc_sorted pm so).mpr (List.pairwise_map.mpr (l'.asc.imp fun {a b} h => by show (a : Int) ≤ b; omega))
        rw [h] at this
        exact nomatch this
  | _ => exact wps_ret (wpe_bl ⟨false, rfl, fun q => (nomatch q), fun ⟨ks, e, _⟩ => nomatch e⟩)
def c_isrowL : Spc :=
  { pre := fun as => ∃ (d : D) (t n : Nat), as = [.da d, .da (.int (t : Nat)), .da (.int (n : Nat))] ∧ V51 d
    post := fun as y => ∀ (d : D) (t n : Nat), as = [.da d, .da (.int (t : Nat)), .da (.int (n : Nat))] → ∃ b, y = .bl b ∧ (b = true ↔ IsRowD t n d) }
theorem d_isrowL {f : Addr} {fd : FuncData} (B : Bly mg) (F : Fn K mg "_law_is_row" s__law_is_row ["value", "things", "labels"] f fd) (D__law_ascending : Dk P w K mg base "_law_ascending" CX0 2 ["value", "limit"] (spW c_asc 2)) :
    Dk P w K mg base "_law_is_row" CX0 3 ["value", "things", "labels"] (spW c_isrowL 3) := by
  refine F.ok sc__law_is_row rfl fun cdv A outer s H E as hr ⟨d, t, n, e, v⟩ _ => ?_
  subst e
  refine ⟨_, (pss_one (ps_ret (pe_and (pe_callD D__law_ascending (hr.mono (by decide)) (by rfl) pass0 (pa_cons (pv 0) (pa_cons (pv 2) pa_nil))) (pe_one (pe_cmpR op_le (pe_callB (call_lenK (K := K) rfl) (by rfl) B.len b_len (pa_cons (pv 0) pa_nil)) (pv 1) (nomark _)))))), fun T => ?_⟩
  refine wps_mono (Φ := fun _ => False) (Ψ := fun y => ∃ b, y = .bl b ∧ (b = true ↔ IsRowD t n d)) ?_ (fun _ z => z.elim) (fun y hd d' t' n' e => by
    obtain ⟨h1, h2⟩ := List.cons.inj e
    obtain rfl := Sl.da.inj h1
    obtain ⟨h2, h3⟩ := List.cons.inj h2
    obtain rfl := Int.ofNat.inj (D.int.inj (Sl.da.inj h2))
    obtain rfl := Int.ofNat.inj (D.int.inj (Sl.da.inj (List.cons.inj h3).1))
    exact hd)
  refine wps_ret (wpe_andV (wpe_call0 (wpa_cons (wpe_var rfl (wpa_cons (wpe_var rfl (wpa_nil ⟨rfl, ⟨d, n, rfl, v.pl, v.it⟩, fun y hy => ?_, fun _ _ z => z⟩)))))))
  obtain ⟨b, rfl, hb⟩ := hy d n rfl
  refine ⟨b, rfl, ite_b (fun h => ?_) (fun h => ?_)⟩
  · obtain ⟨ks, rfl, l⟩ := hb.mp h
    refine wpe_op (wpe_cb1 (wpe_var rfl (cbd_l (cbd_len (.inr rfl) (wpe_var rfl (opd_b ⟨_, rfl, ?_⟩))))))
    rw [nat_len, decide_eq_true_iff]
    exact ⟨fun m => ⟨ks, rfl, l, by omega⟩, fun ⟨k, e, _, m⟩ => by rw [rowN_inj' e]; omega⟩
  · refine ⟨false, rfl, fun q => (nomatch q), fun ⟨k, e, l, _⟩ => ?_⟩
    have := hb.mpr ⟨k, e, l⟩
    rw [h] at this
    exact nomatch this
theorem pow_at : ∀ {i : Nat}, i < 7 → ([D.int 1, .int 2, .int 4, .int 8, .int 16, .int 32, .int 64] : List D)[i]? = some (.int ((2 ^ i : Nat) : Int))
  | 0, _ => rfl
  | 1, _ => rfl
  | 2, _ => rfl
  | 3, _ => rfl
  | 4, _ => rfl
  | 5, _ => rfl
  | 6, _ => rfl
  | n + 7, h => absurd h (by omega)
theorem pow2_at : ∀ {i : Nat}, 1 ≤ i → i ≤ 7 → ([D.int 2, .int 4, .int 8, .int 16, .int 32, .int 64, .int 128] : List D)[i - 1]? = some (.int ((2 ^ i : Nat) : Int))
  | 1, _, _ => rfl
  | 2, _, _ => rfl
  | 3, _, _ => rfl
  | 4, _, _ => rfl
  | 5, _, _ => rfl
  | 6, _, _ => rfl
  | 7, _, _ => rfl
  | 0, h, _ => absurd h (by omega)
  | n + 8, _, h => absurd h (by omega)
theorem rngD_nat {n : Nat} : rngD 0 n = (List.range n).map fun (i : Nat) => D.int i := by
  unfold rngD
  refine List.map_congr_left fun i _ => ?_
  rw [Int.zero_add]
def c_rowsL : Spc :=
  { pre := fun as => ∃ t n : Nat, as = [.da (.int (t : Nat)), .da (.int (n : Nat))] ∧ OkL t n
    post := fun as d => ∀ t n : Nat, as = [.da (.int (t : Nat)), .da (.int (n : Nat))] → d = .lst ((rowsL t n).map rowN) }
theorem d_rowsL {f cc PS : Addr} {fd : FuncData} (B : Bly mg) (F : FnC K mg "_law_rows" s__law_rows ["things", "labels"] f fd cc) (TB : LamX.TabB base mg cc PS) (hU : Tb.U PS) (hnm : Tb.nm PS = ("_law_rows.<locals>.<lambda>" : Str)) :
    Dk P w K mg base "_law_rows" CX0 2 ["things", "labels"] (spWT c_rowsL 2) := by
  refine F.okT sc__law_rows rfl fun A outer s H E as hr ⟨t, n, e, ok⟩ _ => ⟨_, (pss_cons (ps_set (i := 2) sc__law_rows.nd rfl (by first | exact Or.inl rfl | exact Or.inr rfl) (pe_lst pa_nil))
    (pss_cons (ps_for PassesOwn.never rfl (pi_range1 (by rfl) B.rng (pa_cons (pe_op op_pow pe_int pe_int) pa_nil)) (pg_name (i := 3) sc__law_rows.nd rfl (by first | exact Or.inl rfl | exact Or.inr rfl)) (pss_cons (ps_set (i := 4) sc__law_rows.nd rfl (by first | exact Or.inl rfl | exact Or.inr rfl) (pe_callTy (call_tupleK (K := K) rfl) (by rfl) B.tuple b_tuple (pa_cons (pe_lc (own := [("label", 5)]) (g := gName 5) (by rfl) sc__law_rows.nd (pi_range1 (by rfl) B.rng (pa_cons (pv 1) pa_nil)) (blkOk_by (N := ["things", "labels", "found", "bits", "row", "label"]) (sc := defScope s__law_rows) (by decide +kernel)) (fun _ _ _ _ _ => pg_name (i := 5) sc__law_rows.nd rfl (by first | exact Or.inl rfl | exact Or.inr rfl)) (fun _ _ _ _ _ => (pts_one (pt_cmpR (op_eqK (K := K) rfl hr.units) (pe_op op_mod (pe_callTy call_int1 (by rfl) B.int b_int (pa_cons (pe_op op_fdivN (pv 3) (pe_ix (ix_K (K := K) rfl) (pe_lst (pa_cons pe_int (pa_cons pe_int (pa_cons pe_int (pa_cons pe_int (pa_cons pe_int (pa_cons pe_int (pa_cons pe_int pa_nil)))))))) (pv 5) (fun _ _ => rfl))) pa_nil)) pe_int) pe_int (by with_unfolding_all rfl)))) (fun _ _ _ _ _ => (pv 5))) pa_nil)))
      (pss_one (ps_if (PW.pt (pw_and (pt_cmpR op_le (pe_callB (call_lenK (K := K) rfl) (by rfl) B.len b_len (pa_cons (pv 4) pa_nil)) (pv 0) (nomark _)) (pw_and1 (pt_cmpR (op_lt.or op_lt_str) (pv 3) (pe_ix (ix_K (K := K) rfl) (pe_lst (pa_cons pe_int (pa_cons pe_int (pa_cons pe_int (pa_cons pe_int (pa_cons pe_int (pa_cons pe_int (pa_cons pe_int pa_nil)))))))) (pe_op op_sub (pv 1) pe_int) (fun _ _ => rfl)) (nomark _))))) (pss_one (ps_expr (pe_bm PySem.F.plainAttrs_list PySem.F.slot_list_append PySem.F.type_list_append mt_append (pv 2) (pa_cons (pv 4) pa_nil)))) pss_nil))))
    (pss_one (ps_ret (pe_sortRow hr TB rfl (by rfl) B.srt B.len ⟨rfl, rfl, rfl, by decide +kernel, by decide +kernel, rfl, rfl, fun _ _ _ _ _ _ => rfl⟩ (pv 2) rfl))))), fun T us => ?_⟩
  subst e
  have o1 := ok.t1
  have o2 := ok.t4
  have o3 := ok.tn
  have o4 := ok.n7
  refine wps_seq (wps_newl fun p => ?_)
  refine wps_seq (wps_for (js := [3]) (wpi_rng1 (wpe_op (wpe_int (wpe_int (opd_c ⟨by decide, by decide, by decide⟩ ⟨_, rfl, by decide, by decide, ?_⟩))))))
  refine ⟨fun i δ' => ∃ x3 x4 : Sl, δ' = [.da (.int (t : Nat)), .da (.int (n : Nat)), .ow p ((foundB t n i).map rowN), x3, x4, .no], ⟨_, _, rfl⟩, ?_, ?_⟩
  · rintro i d δ' ed ⟨x3, x4, rfl⟩
    obtain ⟨rfl, li⟩ := rngD_at ed
    have li : i < 128 := li
    rw [Int.zero_add]
    refine wpg_name ?_
    refine wps_seq (wps_set (wpe_cb1 (wpe_flt (js := [5]) (fun d => decide (i / 2 ^ (intOf d).toNat % 2 = 1)) (fun d => d) (by simp) (wpi_rng1 (wpe_var rfl ⟨n, rfl, by omega, by omega, by rw [rngD_len]; omega, fun d hd => ?_, ?_⟩)))))
    · obtain ⟨k, ek⟩ := List.mem_iff_getElem?.mp hd
      obtain ⟨rfl, lk⟩ := rngD_at ek
      have lk : k < n := lk
      rw [Int.zero_add]
      refine wpg_name (wpt_test (wpe_op (wpe_op (wpe_cb1 (wpe_op (wpe_var rfl (wpe_op (wpe_lstL ?_))))))))
      repeat (first | refine wpl_cons (wpe_int ?_) | refine wpl_nil ⟨by decide, ?_⟩)
      refine wpe_var rfl (opd_ix (n := k) (.inl rfl) rfl (pow_at (by omega)) (opd_c ?_ (cbd_int1 (wpe_int (opd_c (by decide) (wpe_int (opd_l (opd_eqI ⟨_, rfl, ?_⟩))))))))
      · have p0 := Nat.two_pow_pos k
        have p1 : 2 ^ k ≤ 2 ^ 7 := Nat.pow_le_pow_right (by decide) (by omega)
        exact ⟨fun z => by omega, by rw [Int.natAbs_natCast]; omega⟩
      · refine ⟨?_, fun _ => wpe_var rfl rfl⟩
        show decide ((((i : Int).fdiv ((2 ^ k : Nat) : Int)) % 2) = 1) = decide (i / 2 ^ k % 2 = 1)
        have e9 : ((i : Int).fdiv ((2 ^ k : Nat) : Int)) % 2 = ((i / 2 ^ k % 2 : Nat) : Int) := by
          rw [Int.fdiv_eq_ediv_of_nonneg _ (Int.natCast_nonneg _), Int.natCast_emod, Int.natCast_ediv]
          rfl
        rw [e9, Bool.eq_iff_iff, decide_eq_true_iff, decide_eq_true_iff]
        omega
    · have e1 : ((rngD 0 (n : Int).toNat).filter fun d => decide (i / 2 ^ (intOf d).toNat % 2 = 1)).map (fun d => d) = (ofBits n i).map fun (k : Nat) => D.int k := by
        rw [List.map_id', show (n : Int).toNat = n by omega, rngD_nat, List.filter_map]
        rfl
      rw [e1]
      refine cbd_tupL ?_
      have lb : (ofBits n i).length ≤ n := by
        have := List.length_filter_le (fun k => decide (i / 2 ^ k % 2 = 1)) (List.range n)
        rw [List.length_range] at this
        exact this
      have fin : ∀ {x : Bool}, x = rowIn t n i → (x = true → WpS ⟨E, c_rowsL.err [.da (.int (t : Nat)), .da (.int (n : Nat))], T⟩ (tDrop (tBM K "list" rAppend (tVar 2) (tCons (tVar 4) tNil))) [.da (.int (t : Nat)), .da (.int (n : Nat)), .ow p ((foundB t n i).map rowN), .da (.int (i : Nat)), .da (rowN (ofBits n i)), .no] (fun δ' => ∃ x3 x4 : Sl, δ' = [.da (.int (t : Nat)), .da (.int (n : Nat)), .ow p ((foundB t n (i + 1)).map rowN), x3, x4, .no]) (c_rowsL.post [.da (.int (t : Nat)), .da (.int (n : Nat))])) := by
        intro x ex hx
        have lf : ((foundB t n i).map rowN).length < 100000 := by
          rw [List.length_map]
          unfold foundB
          rw [List.length_map]
          have := List.length_filter_le (rowIn t n) (List.range i)
          rw [List.length_range] at this
          omega
        have ef : (foundB t n i).map rowN ++ [rowN (ofBits n i)] = (foundB t n (i + 1)).map rowN := by
          rw [found_succ, if_pos (by rw [← ex]; exact hx), List.map_append]
          rfl
        refine wps_append (i := 2) rfl (by omega) (wpe_var rfl ⟨.da (.int (i : Nat)), .da (rowN (ofBits n i)), ?_⟩)
        rw [ef]
        rfl
      have skip : rowIn t n i = false → ∃ x3 x4 : Sl, [Sl.da (.int (t : Nat)), .da (.int (n : Nat)), .ow p ((foundB t n i).map rowN), .da (.int (i : Nat)), .da (rowN (ofBits n i)), .no] = [.da (.int (t : Nat)), .da (.int (n : Nat)), .ow p ((foundB t n (i + 1)).map rowN), x3, x4, .no] := fun ex =>
        ⟨_, _, by rw [found_succ, if_neg (by rw [ex]; exact Bool.false_ne_true), List.append_nil]⟩
      refine wps_if (wpt_and (wpt_test (wpe_op (wpe_cb1 (wpe_var rfl (cbd_l (cbd_len (.inr rfl) ?_)))))))
      rw [nat_len]
      refine wpe_var rfl (opd_b ⟨_, rfl, ite_b (fun h => ?_) (fun h => ?_)⟩)
      · have h := of_decide_eq_true h
        refine wpt_test (wpe_op (wpe_var rfl (wpe_op (wpe_lstL ?_))))
        repeat (first | refine wpl_cons (wpe_int ?_) | refine wpl_nil ⟨by decide, ?_⟩)
        refine wpe_op (wpe_var rfl (wpe_int (opd_i (opd_ix (n := n - 1) (.inl rfl) (by omega) (pow2_at (by omega) (by omega)) (opd_l (opd_b ⟨_, rfl, ite_b (fun h2 => ?_) (fun h2 => ?_)⟩))))))
        · have h2 := of_decide_eq_true h2
          refine fin (x := true) ?_ rfl
          unfold rowIn
          rw [decide_eq_true (by omega), decide_eq_true (by omega)]
          rfl
        · have h2 := of_decide_eq_false h2
          refine wps_nil (skip ?_)
          unfold rowIn
          rw [decide_eq_false (show ¬ i < 2 ^ n by omega), Bool.and_false]
      · have h := of_decide_eq_false h
        refine wps_nil (skip ?_)
        unfold rowIn
        rw [decide_eq_false (show ¬ (ofBits n i).length ≤ t by omega), Bool.false_and]
  · rintro δ' ⟨x3, x4, rfl⟩
    refine wps_freeze (i := 2) rfl (wps_ret (wpe_sortRow hU (by rw [hnm]; show ((("_law_rows" : Str) ++ (".<locals>." : Str)) ++ ("<lambda>" : Str) : Str) = _; decide +kernel) us (wpe_var rfl ⟨(foundB t n 128).map fun ks => ks.map fun (i : Nat) => (i : Int), ?_, ?_, ?_, fun yss pm so => ?_⟩)))
    · show D.lst ((foundB t n 128).map rowN) = _
      rw [List.map_map]
      congr 1
      refine List.map_congr_left fun ks _ => ?_
      show D.tup _ = D.tup _
      rw [natI]
    · rw [List.length_map]
      unfold foundB
      rw [List.length_map]
      have := List.length_filter_le (rowIn t n) (List.range 128)
      rw [List.length_range] at this
      omega
    · intro b hb
      obtain ⟨ks, hk, rfl⟩ := List.mem_map.mp hb
      unfold foundB at hk
      obtain ⟨j, _, rfl⟩ := List.mem_map.mp hk
      have := List.length_filter_le (fun k => decide (j / 2 ^ k % 2 = 1)) (List.range n)
      rw [List.length_range] at this
      rw [List.length_map]
      show (ofBits n j).length ≤ 100000
      unfold ofBits
      omega
    · have := rows_sorted ok.t4 ok.n7 ok.tn pm so
      subst this
      intro t' n' e
      obtain ⟨h1, h2⟩ := List.cons.inj e
      obtain rfl := Int.ofNat.inj (D.int.inj (Sl.da.inj h1))
      obtain rfl := Int.ofNat.inj (D.int.inj (Sl.da.inj (List.cons.inj h2).1))
      rw [List.map_map]
      congr 1
      refine List.map_congr_left fun ks _ => ?_
      show D.tup _ = D.tup _
      rw [natI]
end
end Nv
/-! the law's own: prices, what is told, what is due -/
namespace Nv
open PySem PySem.Spec PyProof.Rows L2
variable [Tb]
def natsT : D → List Nat
  | .tup ds => ds.map fun d => (intOf d).toNat
  | _ => []
theorem natsT_N {ks : List Nat} : natsT (rowN ks) = ks := by
  show (ks.map fun (i : Nat) => D.int i).map (fun d => (intOf d).toNat) = ks
  rw [List.map_map]
  exact (List.map_congr_left fun a _ => rfl).trans (List.map_id ks)
section
variable {R : Rg} {δ : List Sl} {te ta : TE} {φ : D → Prop} {σ : L2.St}
theorem wpe1_cb1 {r : List V → Hp → VK → Prop} (h : WpE1 R ta δ (fun x => CbD r [x] φ) σ) : WpE1 R (tCB r (tCons ta tNil)) δ φ σ := fun G H en rz Q k =>
  h G H en rz _ fun v d G1 H1 s1 e1 a1 q => q G1 H1 [v] e1.same (.cons a1 .nil) Q fun z d G3 H3 s3 sm a3 q => k z d G3 H3 (s1.trans s3.zero) (e1.step0 s3 sm) a3 q
/-- (word, te) -/
theorem wpe1_tupS {z9 : Str} (h : WpE1 R te δ (fun d => φ (.tup [.str z9, d])) σ) : WpE1 R (tTupF (tCons (tC (.str z9)) (tCons te tNil))) δ φ σ := fun G H en rz Q k =>
  h G H en rz _ fun v d G1 H1 s1 e1 a1 q => ⟨by show 2 ≤ sizeLine; decide, fun p o hp hd => by
    have s2 : Stp S0 G1 H1 (upd G1 p (TpO o [.str z9, v])) (upd H1 p (TpO o [.str z9, v])) := .new e1.same hp
    exact k _ _ _ _ (s1.trans s2.zero) (e1.step0 s2 (upd_same2 e1.same)) (.tup (.inl ⟨_, upd_same, hd⟩) (.cons (.str _) (.cons (a1.same s2.gs) .nil))) q⟩
/-- (word, e.what) -/
theorem wpx_pair {T : Tr} {i : Nat} {δ : List Sl} {C : Addr} {d : D} {φ : D → Prop} {z9 : Str} (q : φ (.tup [.str z9, d])) : WpX T i (fun z cls dd => tTupF (tCons (tC (.str z9)) (tCons (tXf z cls dd C "what" (tVar i)) tNil))) δ C d φ := fun z dd w τ G H e en hd a Q k => by
  refine ⟨_, e, rfl, rfl, dd, _, w, rfl, hd, what_look, by show 2 ≤ sizeLine; decide, fun p o9 hp hd9 => ?_⟩
  have s2 : Stp S0 G H (upd G p (TpO o9 [.str z9, w])) (upd H p (TpO o9 [.str z9, w])) := .new en.same hp
  exact k _ _ _ _ s2.zero (en.step0 s2 (upd_same2 en.same)) (.tup (.inl ⟨_, upd_same, hd9⟩) (.cons (.str _) (.cons (a.same s2.gs) .nil))) q
end
theorem ite_yes {c : Bool} {p q : Prop} (h : c = true) (r : p) : (if c = true then p else q) := by rw [if_pos h]; exact r
theorem ite_no {c : Bool} {p q : Prop} (h : c = false) (r : q) : (if c = true then p else q) := by rw [h]; exact r
theorem cbd_int1b {k : Bool} {φ : D → Prop} (q : φ (.int (if k then 1 else 0))) : CbD (fun xs H Q => (∃ i, xs = [.int i] ∧ Q (.int i) H) ∨ ∃ k, xs = [.bl k] ∧ Q (.int (if k then 1 else 0)) H) [.bl k] φ := fun G H vs s a Q kk => by
  cases a with
  | cons a t =>
    cases t
    cases a
    exact .inr ⟨k, rfl, kk _ _ G H .refl s (.int _) q⟩
theorem mism_snoc : ∀ {xs ys : List Nat} {x y : Nat}, xs.length = ys.length → mism (xs ++ [x]) (ys ++ [y]) = mism xs ys + (if x = y then 0 else 1)
  | [], [], x, y, _ => by
    show (if x = y then 0 else 1) + mism [] [] = mism [] [] + _
    unfold mism
    omega
  | [], _ :: _, _, _, h => by simp at h
  | _ :: _, [], _, _, h => by simp at h
  | a :: xs, b :: ys, x, y, h => by
    show (if a = b then 0 else 1) + mism (xs ++ [x]) (ys ++ [y]) = ((if a = b then 0 else 1) + mism xs ys) + _
    rw [mism_snoc (by simpa using h)]
    omega
theorem wo_at {gs : List Nat} {g i : Nat} (h : g ≤ gs.length) : (wo gs g)[i]? = gs[i + if g ≤ i then 1 else 0]? := by
  unfold wo
  by_cases q : g ≤ i
  · rw [if_pos q, List.getElem?_append_right (by rw [List.length_take]; omega), List.length_take, List.getElem?_drop]
    congr 1
    omega
  · rw [if_neg q, List.getElem?_append_left (by rw [List.length_take]; omega), List.getElem?_take]
    rw [if_pos (by omega)]
    rfl
open Classical in
/-- what is told -/
noncomputable def tellL (t n : Nat) (a b c : D) (wd : Str) : D :=
  if IsRowD t n a then
    if IsGapD t a b then
      if wd = "nexts" then .tup [.str "told", .lst ((combs n ((natsT a).length + 1)).map rowN)]
      else if IsGoalD n a c then .tup [.str "told", .int (movedN (natsT a) (intOf b).toNat (natsT c) : Nat)] else .tup [.str "lot", c]
    else .tup [.str "gap", b]
  else .tup [.str "lot", a]
section
variable {t n : Nat} {a b c : D} {wd : Str}
theorem tellL_lot (h : ¬ IsRowD t n a) : tellL t n a b c wd = .tup [.str "lot", a] := by unfold tellL; rw [if_neg h]
theorem tellL_gap (h : IsRowD t n a) (g : ¬ IsGapD t a b) : tellL t n a b c wd = .tup [.str "gap", b] := by unfold tellL; rw [if_pos h, if_neg g]
theorem tellL_goal (h : IsRowD t n a) (g : IsGapD t a b) (nw : wd ≠ "nexts") (l : ¬ IsGoalD n a c) : tellL t n a b c wd = .tup [.str "lot", c] := by unfold tellL; rw [if_pos h, if_pos g, if_neg nw, if_neg l]
theorem tellL_next {ks : List Nat} (h : IsRowD t n (rowN ks)) (g : IsGapD t (rowN ks) b) : tellL t n (rowN ks) b c "nexts" = .tup [.str "told", .lst ((combs n (ks.length + 1)).map rowN)] := by unfold tellL; rw [if_pos h, if_pos g, if_pos rfl, natsT_N]
theorem tellL_moved {ks gs : List Nat} {g : Nat} (h : IsRowD t n (rowN ks)) (hg : IsGapD t (rowN ks) (.int (g : Nat))) (nw : wd ≠ "nexts") (l : IsGoalD n (rowN ks) (rowN gs)) : tellL t n (rowN ks) (.int (g : Nat)) (rowN gs) wd = .tup [.str "told", .int (movedN ks g gs : Nat)] := by
  unfold tellL
  rw [if_pos h, if_pos hg, if_neg nw, if_pos l, natsT_N, natsT_N]
  rfl
end
section
variable {P : Program} {w : World} {K : PySem.W.Frag} {mg : Str → Option Value} {base : Heap} {C fI fE CL CG : Addr} {fdI fdE : FuncData}
abbrev s__law_told : Stmt := top 29
theorem sc__law_told : FnScope ["service", "row", "gap", "goal", "word", "found", "e"] ["service", "row", "gap", "goal", "word"] (defScope s__law_told) :=
  ⟨rfl, rfl, rfl, by decide +kernel, rfl, by decide +kernel, by decide +kernel⟩
abbrev s__law_due : Stmt := top 30
theorem sc__law_due : FnScope ["service", "row", "gap", "goal", "word", "rows", "other"] ["service", "row", "gap", "goal", "word", "rows"] (defScope s__law_due) :=
  ⟨rfl, rfl, rfl, by decide +kernel, rfl, by decide +kernel, by decide +kernel⟩
def c_price : Spc :=
  { pre := fun as => ∃ (ks : List Nat) (g : Nat) (gs : List Nat), as = [.da (rowN ks), .da (.int (g : Nat)), .da (rowN gs)] ∧ ks.length ≤ 100 ∧ g ≤ ks.length ∧ gs.length = ks.length + 1
    post := fun as d => ∀ (ks : List Nat) (g : Nat) (gs : List Nat), as = [.da (rowN ks), .da (.int (g : Nat)), .da (rowN gs)] → d = .int (movedN ks g gs : Nat) }
theorem d_price {f : Addr} {fd : FuncData} (B : Bly mg) (F : Fn K mg "_law_price" s__law_price ["row", "gap", "goal"] f fd) : Dk P w K mg base "_law_price" CX0 1 ["row", "gap", "goal"] (spW c_price 3) := by
  refine F.ok sc__law_price rfl fun cdv A outer s H E as hr ⟨ks, g, gs, e, lk, lg, ll⟩ _ => ?_
  subst e
  refine ⟨_, (pss_cons (ps_set (i := 3) sc__law_price.nd rfl (by first | exact Or.inl rfl | exact Or.inr rfl) pe_int)
    (pss_cons (ps_for PassesOwn.never rfl (pi_range1 (by rfl) B.rng (pa_cons (pe_callB (call_lenK (K := K) rfl) (by rfl) B.len b_len (pa_cons (pv 0) pa_nil)) pa_nil)) (pg_name (i := 4) sc__law_price.nd rfl (by first | exact Or.inl rfl | exact Or.inr rfl)) (pss_one (ps_if (pt_cmpR (op_neK (K := K) rfl hr.units) (pe_ix (ix_K (K := K) rfl) (pv 2) (pe_op op_add (pv 4) (pe_callTy call_int1 (by rfl) B.int b_int (pa_cons (pe_cmpR op_ge (pv 4) (pv 1) (nomark _)) pa_nil))) (fun _ _ => rfl)) (pe_ix (ix_K (K := K) rfl) (pv 0) (pv 4) (fun _ _ => rfl)) (by with_unfolding_all rfl)) (pss_one (ps_set (i := 3) sc__law_price.nd rfl (by first | exact Or.inl rfl | exact Or.inr rfl) (pe_op op_add (pv 3) pe_int))) pss_nil)))
    (pss_one (ps_ret (pv 3))))), fun T => ?_⟩
  refine wps_seq (wps_set (wpe_int ?_))
  have lw : (wo gs g).length = ks.length := by have := wo_len (ks := gs) (a := g) (by omega); omega
  refine wps_seq (wps_for (js := [4]) (wpi_rng1 (wpe_cb1 (wpe_var rfl (cbd_l (cbd_len (.inr rfl) ?_))))))
  rw [nat_len]
  refine ⟨_, rfl, by omega, by omega, fun i δ' => ∃ x4 : Sl, δ' = [.da (rowN ks), .da (.int (g : Nat)), .da (rowN gs), .da (.int (mism (ks.take i) ((wo gs g).take i) : Nat)), x4], ⟨.no, by rw [List.take_zero, List.take_zero]; rfl⟩, ?_, ?_⟩
  · rintro i d δ' ed ⟨x4, rfl⟩
    obtain ⟨rfl, li⟩ := rngD_at ed
    have li : i < ks.length := by omega
    rw [Int.zero_add]
    have li2 : i < (wo gs g).length := by omega
    have ex : ks[i]? = some ks[i] := List.getElem?_eq_getElem li
    have ey : (wo gs g)[i]? = some (wo gs g)[i] := List.getElem?_eq_getElem li2
    generalize ks[i] = x at ex
    generalize (wo gs g)[i] = y at ey
    have eg := ey
    rw [wo_at (by omega)] at eg
    have step : mism (ks.take (i + 1)) ((wo gs g).take (i + 1)) = mism (ks.take i) ((wo gs g).take i) + (if x = y then 0 else 1) := by
      rw [List.take_add_one, List.take_add_one, ex, ey]
      exact mism_snoc (by rw [List.length_take, List.length_take]; omega)
    refine wpg_name (wps_if (wpt_test (wpe_op (wpe_op (wpe_var rfl (wpe_op (wpe_var rfl (wpe_cb1 (wpe_op (wpe_var rfl (wpe_var rfl (opd_b (cbd_int1b (opd_i ?_))))))))))))))
    have ei : (i : Int) + (if decide ((g : Int) ≤ (i : Int)) then 1 else 0) = ((i + if g ≤ i then 1 else 0 : Nat) : Int) := by
      by_cases q : g ≤ i
      · rw [if_pos (by simpa using q), if_pos q]
        rfl
      · rw [if_neg (by simpa using q), if_neg q]
        rfl
    refine opd_ix (n := i + if g ≤ i then 1 else 0) (.inr rfl) ?_ (by rw [List.getElem?_map, eg]; rfl) (wpe_op (wpe_var rfl (wpe_var rfl (opd_ix (n := i) (.inr rfl) rfl (by rw [List.getElem?_map, ex]; rfl) (opd_l (opd_neI ⟨_, rfl, ite_b (fun h => ?_) (fun h => ?_)⟩))))))
    · exact ei
    · refine wps_set (wpe_op (wpe_var rfl (wpe_int (opd_i ⟨.da (.int (i : Nat)), ?_⟩))))
      have ne : x ≠ y := fun z => by
        subst z
        simp at h
      rw [step, if_neg ne]
      rfl
    · have eq : x = y := by
        simp at h
        omega
      refine wps_nil ⟨.da (.int (i : Nat)), ?_⟩
      rw [step, if_pos eq]
      rfl
  · rintro δ' ⟨x4, rfl⟩
    refine wps_ret (wpe_var rfl fun ks' g' gs' e => ?_)
    obtain ⟨h1, h2⟩ := List.cons.inj e
    obtain ⟨h2, h3⟩ := List.cons.inj h2
    obtain rfl := rowN_inj (Sl.da.inj h1)
    obtain rfl := Int.ofNat.inj (D.int.inj (Sl.da.inj h2))
    obtain rfl := rowN_inj (Sl.da.inj (List.cons.inj h3).1)
    rw [rngD_len]
    rw [show ((ks.length : Nat) : Int).toNat = ks.length by omega, List.take_length, ← lw, List.take_length]
    rfl
def c_tellL (C : Addr) : Spc :=
  { pre := fun as => ∃ (t n : Nat) (a b c : D) (wd : Str), as = [.da (lwD C t n), .da a, .da b, .da c, .da (.str wd)] ∧ OkL t n ∧ V51 a ∧ V51 b ∧ V51 c ∧ (wd = "nexts" ∨ wd = "moved")
    post := fun as d => ∀ (t n : Nat) (a b c : D) (wd : Str), as = [.da (lwD C t n), .da a, .da b, .da c, .da (.str wd)] → d = tellL t n a b c wd }
theorem d_tellL {f : Addr} {fd : FuncData} (B : Bly mg) (W : TLe K mg C fI fE fdI fdE) (xl : ExC K mg "BadLot" CL fE) (xg : ExC K mg "BadGap" CG fE) (ap : PySem.W.exmOne K (.ref CG) (.ref CL) = some false)
    (F : Fn K mg "_law_told" s__law_told ["service", "row", "gap", "goal", "word"] f fd)
    (MK_nexts : Dmkn P w K mg base C "nexts" (L2.CX P w) 7 ["self", "standing", "gap"] 1 ["gap", "standing"] [1, 0] (spW (c_nextsX C CL CG) 3))
    (MK_moved : Dmkn P w K mg base C "moved" (L2.CX P w) 8 ["self", "standing", "gap", "goal"] 1 ["goal", "gap", "standing"] [2, 1, 0] (spW (c_movedX C CL CG) 4)) :
    Dk P w K mg base "_law_told" CX0 10 ["service", "row", "gap", "goal", "word"] (spW (c_tellL C) 5) := by
  refine F.ok sc__law_told rfl fun cdv A outer s H E as hr ⟨t, n, a, b, c, wd, e, ok, va, vb, vc, hw⟩ _ => ⟨_, (pss_cons (ps_set (i := 5) sc__law_told.nd rfl (by first | exact Or.inl rfl | exact Or.inr rfl) pe_non)
    (pss_cons (ps_try_named (i := 6) (Wo := fun _ _ _ _ => False) rfl rfl sc__law_told.nd rfl rfl takes0 (fun _ pn xe tk _ => (pss_one (ps_if (pt_cmpR (op_eqK (K := K) rfl hr.units) (pv 4) pe_str (by with_unfolding_all rfl)) (pss_one (ps_set (i := 5) sc__law_told.nd rfl (by first | exact Or.inl rfl | exact Or.inr rfl) (pe_tupF (pa_cons pe_str (pa_cons (pe_methDkS (pv 0) W.cl MK_nexts (hr.mono (by decide)) (fun σ => passAt tk σ) (pk_cons (pv 2) (pk_cons (pv 1) pk_nil))) pa_nil))))) (pss_one (ps_set (i := 5) sc__law_told.nd rfl (by first | exact Or.inl rfl | exact Or.inr rfl) (pe_tupF (pa_cons pe_str (pa_cons (pe_methDkS (pv 0) W.cl MK_moved (hr.mono (by decide)) (fun σ => passAt tk σ) (pk_cons (pv 3) (pk_cons (pv 2) (pk_cons (pv 1) pk_nil)))) pa_nil)))))))) (.more ⟨rfl, by decide, .inl xl.gC⟩ (fun a oe cls d pn hz hf => (pss_one (ps_set (i := 5) sc__law_told.nd rfl (by first | exact Or.inl rfl | exact Or.inr rfl) (pe_tupF (pa_cons pe_str (pa_cons (pe_xf xl.xf xl.no hz hf (pv 6)) pa_nil)))))) (.more ⟨rfl, by decide, .inl xg.gC⟩ (fun a oe cls d pn hz hf => (pss_one (ps_set (i := 5) sc__law_told.nd rfl (by first | exact Or.inl rfl | exact Or.inr rfl) (pe_tupF (pa_cons pe_str (pa_cons (pe_xf xg.xf xg.no hz hf (pv 6)) pa_nil)))))) .none)))
    (pss_one (ps_ret (pv 5))))), fun T => ?_⟩
  subst e
  refine wps_seq (wps_set (wpe_non ?_))
  have fin : ∀ {R : Rg} {Φ : List Sl → Prop} {d : D}, d = tellL t n a b c wd → WpS R (tRet (tVar 5)) [.da (lwD C t n), .da a, .da b, .da c, .da (.str wd), .da d, .no] Φ ((c_tellL C).post [.da (lwD C t n), .da a, .da b, .da c, .da (.str wd)]) := by
    intro R Φ d ed
    refine wps_ret (wpe_var rfl fun t' n' a' b' c' wd' e2 => ?_)
    obtain ⟨h1, h2⟩ := List.cons.inj e2
    obtain ⟨rfl, rfl⟩ := lwD_inj (Sl.da.inj h1)
    obtain ⟨h2, h3⟩ := List.cons.inj h2
    obtain rfl := Sl.da.inj h2
    obtain ⟨h3, h4⟩ := List.cons.inj h3
    obtain rfl := Sl.da.inj h3
    obtain ⟨h4, h5⟩ := List.cons.inj h4
    obtain rfl := Sl.da.inj h4
    obtain rfl := D.str.inj (Sl.da.inj (List.cons.inj h5).1)
    exact ed
  refine wps_seq (wps_named (X' := fun C' d => (C' = CL ∧ tellL t n a b c wd = .tup [.str "lot", d]) ∨ (C' = CG ∧ tellL t n a b c wd = .tup [.str "gap", d])) rfl (fun σ W9 => ?_) (fun C' d x => ?_))
  · rcases hw with rfl | rfl
    · refine wps1_if (wpt_test (wpe_op (wpe_var rfl (wpe_str (opd_l (opd_eqS ⟨_, rfl, ite_yes (by decide +kernel) ?_⟩))))))
      refine wps1_set (wpe1_tupS (wpe_methS (ns := lN) rfl (by decide +kernel) (wpe_var rfl ⟨⟨_, rfl⟩, wpa_nil (wpa_cons (wpe_var rfl (wpa_cons (wpe_var rfl (wpa_nil ⟨rfl, rfl, rfl, ⟨t, n, a, b, rfl, ok, va.ok, vb.pl⟩, fun d hd => ?_, fun C2 d hd => ?_⟩)))))⟩)))
      · obtain ⟨row, gap, ks, ea, rfl⟩ := hd t n a b rfl
        refine fin ?_
        subst ea
        rw [tellL_next row gap]
      · obtain ⟨t', n', a', b', e2, h⟩ := hd
        obtain ⟨rfl, rfl, rfl, rfl⟩ := threeL_inj e2
        rcases h with ⟨rfl, nl, rfl⟩ | ⟨rfl, la, nl, rfl⟩
        · exact .inl ⟨rfl, tellL_lot nl⟩
        · exact .inr ⟨rfl, tellL_gap la nl⟩
    · refine wps1_if (wpt_test (wpe_op (wpe_var rfl (wpe_str (opd_l (opd_eqS ⟨_, rfl, ite_no (by decide +kernel) ?_⟩))))))
      have nw : ("moved" : Str) ≠ "nexts" := by decide +kernel
      refine wps1_set (wpe1_tupS (wpe_methS (ns := lN) rfl (by decide +kernel) (wpe_var rfl ⟨⟨_, rfl⟩, wpa_nil (wpa_cons (wpe_var rfl (wpa_cons (wpe_var rfl (wpa_cons (wpe_var rfl (wpa_nil ⟨rfl, rfl, rfl, ⟨t, n, a, b, c, rfl, ok, va.ok, vb.pl, vc.ok⟩, fun d hd => ?_, fun C2 d hd => ?_⟩)))))))⟩)))
      · obtain ⟨row, gap, goal, ks, g, gs, rfl, rfl, rfl, rfl⟩ := hd t n a b c rfl
        refine fin ?_
        rw [tellL_moved row gap nw goal]
      · obtain ⟨t', n', a', b', c', e2, h⟩ := hd
        obtain ⟨rfl, rfl, rfl, rfl, rfl⟩ := fourL_inj e2
        rcases h with ⟨rfl, nl, rfl⟩ | ⟨rfl, la, nl, rfl⟩ | ⟨rfl, la, lg, nl, rfl⟩
        · exact .inl ⟨rfl, tellL_lot nl⟩
        · exact .inr ⟨rfl, tellL_gap la nl⟩
        · exact .inl ⟨rfl, tellL_goal la lg nw nl⟩
  · rcases x with ⟨rfl, e⟩ | ⟨rfl, e⟩
    · exact ⟨_, .inl ⟨xl.te, rfl⟩, sus_set rfl (by decide) (wpx_pair (fin e.symm))⟩
    · exact ⟨_, .inr ⟨ap, .inl ⟨xg.te, rfl⟩⟩, sus_set rfl (by decide) (wpx_pair (fin e.symm))⟩
theorem chk_fltB : ∀ t < 5, ∀ n < 8, t ≤ n → ((List.range 5).all fun r => decide (t < r) || ((rowsL t n).filter (fun ks => ks.length == r) == combs n r)) = true := by decide +kernel
theorem chk_flt {t n r : Nat} (ht : t < 5) (hn : n < 8) (tn : t ≤ n) (hr : r < 5) (rt : r ≤ t) : (rowsL t n).filter (fun ks => decide (((ks.length : Nat) : Int) = (r : Nat))) = combs n r := by
  have := List.all_eq_true.mp (chk_fltB t ht n hn tn) r (List.mem_range.mpr hr)
  rw [decide_eq_false (by omega), Bool.false_or, beq_iff_eq] at this
  rw [← this]
  congr 1
  funext ks
  rw [Bool.eq_iff_iff, decide_eq_true_iff, beq_iff_eq]
  omega
theorem chk_len : ∀ t < 5, ∀ n < 8, t ≤ n → (rowsL t n).length ≤ 100 := by decide +kernel
def c_dueL (C : Addr) : Spc :=
  { pre := fun as => ∃ (t n : Nat) (a b c : D) (wd : Str), as = [.da (lwD C t n), .da a, .da b, .da c, .da (.str wd), .da (.lst ((rowsL t n).map rowN))] ∧ OkL t n ∧ V51 a ∧ V51 b ∧ V51 c ∧ (wd = "nexts" ∨ wd = "moved")
    post := fun as d => ∀ (t n : Nat) (a b c : D) (wd : Str), as = [.da (lwD C t n), .da a, .da b, .da c, .da (.str wd), .da (.lst ((rowsL t n).map rowN))] → d = tellL t n a b c wd }
theorem d_dueL {f : Addr} {fd : FuncData} (B : Bly mg) (W : TLo K mg C fI fdI) (F : Fn K mg "_law_due" s__law_due ["service", "row", "gap", "goal", "word", "rows"] f fd) (D__law_int : Dk P w K mg base "_law_int" CX0 1 ["value"] (spW c_lint 1))
    (D__law_is_row : Dk P w K mg base "_law_is_row" CX0 3 ["value", "things", "labels"] (spW c_isrowL 3)) (D__law_price : Dk P w K mg base "_law_price" CX0 1 ["row", "gap", "goal"] (spW c_price 3)) :
    Dk P w K mg base "_law_due" CX0 4 ["service", "row", "gap", "goal", "word", "rows"] (spW (c_dueL C) 6) := by
  refine F.ok sc__law_due rfl fun cdv A outer s H E as hr ⟨t, n, a, b, c, wd, e, ok, va, vb, vc, hw⟩ _ => ⟨_, (pss_cons (ps_if (pt_not (pt_val (pe_callD D__law_is_row (hr.mono (by decide)) (by rfl) pass0 (pa_cons (pv 1) (pa_cons (pe_fldK (K := K) rfl (pv 0) rfl) (pa_cons (pe_fldK (K := K) rfl (pv 0) rfl) pa_nil)))))) (pss_one (ps_ret (pe_tupF (pa_cons pe_str (pa_cons (pv 1) pa_nil))))) pss_nil)
    (pss_cons (ps_if (PW.pt (pw_or (pt_not (pt_val (pe_callD D__law_int (hr.mono (by decide)) (by rfl) pass0 (pa_cons (pv 2) pa_nil)))) (pw_or (pt_cmpR (op_lt.or op_lt_str) (pv 2) pe_int (nomark _)) (pw_or (pt_cmpR op_gt (pv 2) (pe_callB (call_lenK (K := K) rfl) (by rfl) B.len b_len (pa_cons (pv 1) pa_nil)) (nomark _)) (pw_or1 (pt_cmpR (op_eqK (K := K) rfl hr.units) (pe_callB (call_lenK (K := K) rfl) (by rfl) B.len b_len (pa_cons (pv 1) pa_nil)) (pe_fldK (K := K) rfl (pv 0) rfl) (by with_unfolding_all rfl))))))) (pss_one (ps_ret (pe_tupF (pa_cons pe_str (pa_cons (pv 2) pa_nil))))) pss_nil)
    (pss_cons (ps_if (pt_cmpR (op_eqK (K := K) rfl hr.units) (pv 4) pe_str (by with_unfolding_all rfl)) (pss_one (ps_ret (pe_tupF (pa_cons pe_str (pa_cons (pe_lc (own := [("other", 6)]) (g := gName 6) (by rfl) sc__law_due.nd (pi_seq (pv 5)) (blkOk_by (N := ["service", "row", "gap", "goal", "word", "rows", "other"]) (sc := defScope s__law_due) (by decide +kernel)) (fun _ _ _ _ _ => pg_name (i := 6) sc__law_due.nd rfl (by first | exact Or.inl rfl | exact Or.inr rfl)) (fun _ _ _ _ _ => (pts_one (pt_cmpR (op_eqK (K := K) rfl hr.units) (pe_callB (call_lenK (K := K) rfl) (by rfl) B.len b_len (pa_cons (pv 6) pa_nil)) (pe_op op_add (pe_callB (call_lenK (K := K) rfl) (by rfl) B.len b_len (pa_cons (pv 1) pa_nil)) pe_int) (by with_unfolding_all rfl)))) (fun _ _ _ _ _ => (pv 6))) pa_nil))))) pss_nil)
    (pss_cons (ps_if (PW.pt (pw_or (pt_not (pt_val (pe_callD D__law_is_row (hr.mono (by decide)) (by rfl) pass0 (pa_cons (pv 3) (pa_cons (pe_fldK (K := K) rfl (pv 0) rfl) (pa_cons (pe_fldK (K := K) rfl (pv 0) rfl) pa_nil)))))) (pw_or1 (pt_cmpR (op_neK (K := K) rfl hr.units) (pe_callB (call_lenK (K := K) rfl) (by rfl) B.len b_len (pa_cons (pv 3) pa_nil)) (pe_op op_add (pe_callB (call_lenK (K := K) rfl) (by rfl) B.len b_len (pa_cons (pv 1) pa_nil)) pe_int) (by with_unfolding_all rfl))))) (pss_one (ps_ret (pe_tupF (pa_cons pe_str (pa_cons (pv 3) pa_nil))))) pss_nil)
    (pss_one (ps_ret (pe_tupF (pa_cons pe_str (pa_cons (pe_callD D__law_price (hr.mono (by decide)) (by rfl) pass0 (pa_cons (pv 1) (pa_cons (pv 2) (pa_cons (pv 3) pa_nil)))) pa_nil))))))))), fun T => ?_⟩
  subst e
  refine wps_mono (Φ := fun _ => False) (Ψ := fun d => d = tellL t n a b c wd) ?_ (fun _ z => z.elim) (fun d hd t' n' a' b' c' wd' e => by
    obtain ⟨h1, h2⟩ := List.cons.inj e
    obtain ⟨rfl, rfl⟩ := lwD_inj (Sl.da.inj h1)
    obtain ⟨h2, h3⟩ := List.cons.inj h2
    obtain rfl := Sl.da.inj h2
    obtain ⟨h3, h4⟩ := List.cons.inj h3
    obtain rfl := Sl.da.inj h3
    obtain ⟨h4, h5⟩ := List.cons.inj h4
    obtain rfl := Sl.da.inj h4
    obtain rfl := D.str.inj (Sl.da.inj (List.cons.inj h5).1)
    exact hd)
  have o1 := ok.t1
  have o2 := ok.t4
  have o3 := ok.tn
  have o4 := ok.n7
  have isrow : ∀ {R : Rg} {δ : List Sl} {ψ : Bool → Prop} {i : Nat} {x : D}, V51 x → δ[i]? = some (.da x) → δ[0]? = some (.da (lwD C t n)) → (∀ b, (b = true ↔ IsRowD t n x) → ψ b) →
      WpT R (tB (tCall (spW c_isrowL 3) [] E0 (tCons (tVar i) (tCons (tFld K (tVar 0) "things") (tCons (tFld K (tVar 0) "labels") tNil))))) δ ψ := fun vx e1 e0 q => by
    refine wpt_B (wpe_call0 (wpa_cons (wpe_var e1 (wpa_cons (wpe_fldC W.cl W.n1 rfl (by decide) (wpe_var e0 ⟨_, _, rfl, rfl, wpa_cons (wpe_fldC W.cl W.n2 rfl (by decide) (wpe_var e0 ⟨_, _, rfl, rfl, wpa_nil ⟨rfl, ⟨_, t, n, rfl, vx⟩, fun d hd => ?_, fun _ _ z => z⟩⟩))⟩))))))
    obtain ⟨b, rfl, hb⟩ := hd _ t n rfl
    exact ⟨b, rfl, q b hb⟩
  have ret2 : ∀ {R : Rg} {Φ : List Sl → Prop} {δ : List Sl} {z : Str} {i : Nat} {x d0 : D}, δ[i]? = some (.da x) → .tup [.str z, x] = d0 → WpS R (tRet (tTupF (tCons (tC (.str z)) (tCons (tVar i) tNil)))) δ Φ (fun d => d = d0) := fun e1 e2 =>
    wps_ret (wpe_tupL (wpl_cons (wpe_str (wpl_cons (wpe_var e1 (wpl_nil ⟨by show 2 ≤ 1000; decide, e2⟩))))))
  refine wps_seq (wps_if (wpt_not (isrow va rfl rfl fun x hx => ?_)))
  cases x with
  | false => exact ret2 (i := 1) rfl (tellL_lot fun z => nomatch hx.mpr z).symm
  | true =>
    have row := hx.mp rfl
    obtain ⟨ks, rfl, lot, le⟩ := id row
    refine wps_nil ?_
    have nogap : ∀ {R : Rg} {Φ : List Sl → Prop} {δ : List Sl}, ¬ IsGapD t (rowN ks) b → δ[2]? = some (.da b) → WpS R (tRet (tTupF (tCons (tC (.str "gap")) (tCons (tVar 2) tNil)))) δ Φ (fun d => d = tellL t n (rowN ks) b c wd) := fun ng e =>
      ret2 (i := 2) e (tellL_gap row ng).symm
    refine wps_seq (wps_if (wpt_or (wpt_not (wpt_test (wpe_call1 (wpe_var rfl ⟨vb.pl, _, rfl, ?_⟩))))))
    by_cases hi : isInt b = true
    · rw [hi]
      obtain ⟨z, rfl⟩ := isInt_of hi
      refine ite_f (wpt_or (wpt_test (wpe_op (wpe_var rfl (wpe_int (opd_l (opd_b ⟨_, rfl, ite_b (fun h => ?_) (fun h => ?_)⟩)))))))
      · have h := of_decide_eq_true h
        refine nogap (fun z9 => ?_) rfl
        obtain ⟨ks', g, e1, e2, _⟩ := z9
        have := D.int.inj e2
        omega
      have h := of_decide_eq_false h
      refine wpt_or (wpt_test (wpe_op (wpe_var rfl (wpe_cb1 (wpe_var rfl (cbd_l (cbd_len (.inr rfl) (opd_b ⟨_, rfl, ite_b (fun h2 => ?_) (fun h2 => ?_)⟩))))))))
      · rw [nat_len] at h2
        have h2 := of_decide_eq_true h2
        refine nogap (fun z9 => ?_) rfl
        obtain ⟨ks', g, e1, e2, _, lg⟩ := z9
        have := D.int.inj e2
        have := rowN_inj e1
        subst this
        omega
      rw [nat_len] at h2
      have h2 := of_decide_eq_false h2
      refine wpt_test (wpe_op (wpe_cb1 (wpe_var rfl (cbd_l (cbd_len (.inr rfl) ?_)))))
      rw [nat_len]
      refine wpe_fldC W.cl W.n1 rfl (by decide) (wpe_var rfl ⟨_, _, rfl, rfl, opd_l (opd_eqI ⟨_, rfl, ite_b (fun h3 => ?_) (fun h3 => ?_)⟩)⟩)
      · have h3 := of_decide_eq_true h3
        refine nogap (fun z9 => ?_) rfl
        obtain ⟨ks', g, e1, e2, lt, lg⟩ := z9
        have := rowN_inj e1
        subst this
        omega
      have h3 := of_decide_eq_false h3
      obtain ⟨g, rfl⟩ : ∃ g : Nat, z = g := ⟨z.toNat, by omega⟩
      have lt : ks.length < t := by omega
      have gap : IsGapD t (rowN ks) (.int (g : Nat)) := ⟨ks, g, rfl, rfl, lt, by omega⟩
      refine wps_nil ?_
      rcases hw with rfl | rfl
      · refine wps_seq (wps_if (wpt_test (wpe_op (wpe_var rfl (wpe_str (opd_l (opd_eqS ⟨_, rfl, ite_yes (by decide +kernel) ?_⟩)))))))
        refine wps_ret (wpe_tupL (wpl_cons (wpe_str (wpl_cons (wpe_flt (js := [6]) (fun d => decide (((natsT d).length : Int) = ((ks.length + 1 : Nat) : Int))) id (by simp) (wpi_seq (wpe_var rfl ⟨_, .inl rfl, by rw [List.length_map]; have := chk_len t (by omega) n (by omega) o3; omega, fun d hd => ?_, wpl_nil ⟨by show 2 ≤ 1000; decide, ?_⟩⟩)))))))
        · obtain ⟨k, _, rfl⟩ := List.mem_map.mp hd
          refine wpg_name (wpt_test (wpe_op (wpe_cb1 (wpe_var rfl (cbd_l (cbd_len (.inr rfl) ?_))))))
          rw [nat_len]
          refine wpe_op (wpe_cb1 (wpe_var rfl (cbd_l (cbd_len (.inr rfl) ?_))))
          rw [nat_len]
          refine wpe_int (opd_i (opd_l (opd_eqI ⟨_, rfl, ?_⟩)))
          rw [natsT_N]
          exact ⟨rfl, fun _ => wpe_var rfl rfl⟩
        · rw [flt_rowsH (q := fun os => decide (((os.length : Nat) : Int) = ((ks.length + 1 : Nat) : Int))) (fun os => by
            show decide (((natsT (rowN os)).length : Int) = _) = _
            rw [natsT_N]), chk_flt (by omega) (by omega) o3 (by omega) (by omega), tellL_next row gap]
      · have nw : ("moved" : Str) ≠ "nexts" := by decide +kernel
        refine wps_seq (wps_if (wpt_test (wpe_op (wpe_var rfl (wpe_str (opd_l (opd_eqS ⟨_, rfl, ite_no (by decide +kernel) ?_⟩)))))))
        refine wps_nil ?_
        have nogoal : ∀ {R : Rg} {Φ : List Sl → Prop} {δ : List Sl}, ¬ IsGoalD n (rowN ks) c → δ[3]? = some (.da c) → WpS R (tRet (tTupF (tCons (tC (.str "lot")) (tCons (tVar 3) tNil)))) δ Φ (fun d => d = tellL t n (rowN ks) (.int (g : Nat)) c "moved") := fun ng e =>
          ret2 (i := 3) e (tellL_goal row gap nw ng).symm
        refine wps_seq (wps_if (wpt_or (wpt_not (isrow vc rfl rfl fun x2 hx2 => ?_))))
        cases x2 with
        | false =>
          refine nogoal (fun z9 => ?_) rfl
          obtain ⟨ks', gs, e1, e2, m⟩ := z9
          have := rowN_inj e1
          subst this
          obtain ⟨ln, ll⟩ := lot_next ok (show ks.length + 1 ≤ t by omega) m
          have : IsRowD t n c := ⟨gs, e2, (combs_lot o4 (by omega)).mp ln.mem, ln.le⟩
          exact nomatch hx2.mpr this
        | true =>
          obtain ⟨gs, rfl, lotg, leg⟩ := hx2.mp rfl
          refine ite_f (wpt_test (wpe_op (wpe_cb1 (wpe_var rfl (cbd_l (cbd_len (.inr rfl) ?_))))))
          rw [nat_len]
          refine wpe_op (wpe_cb1 (wpe_var rfl (cbd_l (cbd_len (.inr rfl) ?_))))
          rw [nat_len]
          refine wpe_int (opd_i (opd_l (opd_neI ⟨_, rfl, ite_b (fun h4 => ?_) (fun h4 => ?_)⟩)))
          · refine nogoal (fun z9 => ?_) rfl
            obtain ⟨ks', gs', e1, e2, m⟩ := z9
            have := rowN_inj e1
            subst this
            have := rowN_inj e2
            subst this
            obtain ⟨ln, ll⟩ := lot_next ok (show ks.length + 1 ≤ t by omega) m
            simp at h4
            omega
          · have ll : gs.length = ks.length + 1 := by
              simp at h4
              omega
            have m : gs ∈ combs n (ks.length + 1) := by
              rw [← ll]
              exact (combs_lot o4 (by omega)).mpr lotg
            refine wps_nil (wps_ret (wpe_tupL (wpl_cons (wpe_str (wpl_cons (wpe_call0 (wpa_cons (wpe_var rfl (wpa_cons (wpe_var rfl (wpa_cons (wpe_var rfl (wpa_nil ⟨rfl, ⟨ks, g, gs, rfl, by omega, by omega, ll⟩, fun d hd => wpl_nil ⟨by show 2 ≤ 1000; decide, ?_⟩, fun _ _ z => z⟩)))))))))))))
            rw [hd ks g gs rfl, tellL_moved row gap nw ⟨ks, gs, rfl, rfl, m⟩]
    · rw [Bool.not_eq_true] at hi
      rw [hi]
      refine nogap (fun z9 => ?_) rfl
      obtain ⟨ks', g, e1, e2, _⟩ := z9
      rw [e2] at hi
      exact nomatch hi
end
end Nv
namespace Nv
open PySem PySem.Spec PyProof.Rows L2
variable [Tb]
theorem mism_le9 : ∀ {xs ys : List Nat}, mism xs ys ≤ xs.length
  | [], _ => by unfold mism; exact Nat.zero_le _
  | _ :: _, [] => by unfold mism; exact Nat.zero_le _
  | x :: xs, y :: ys => by
    unfold mism
    have := mism_le9 (xs := xs) (ys := ys)
    rw [List.length_cons]
    split <;> omega
theorem rows_lot {t n : Nat} {k : List Nat} (ok : OkL t n) (h : k ∈ rowsL t n) : LotH n k ∧ k.length ≤ t := by
  unfold rowsL at h
  obtain ⟨r, hr, hk⟩ := List.mem_flatMap.mp h
  have hr := List.mem_range.mp hr
  have := ok.t4; have := ok.tn; have := ok.n7
  have l := ((combs_ok ok.n7 (show r ≤ 4 by omega) (by omega)).lk k hk).1
  refine ⟨(combs_lot ok.n7 (by omega)).mp (by rw [l]; exact hk), by omega⟩
theorem chk_pos : ∀ t < 5, ∀ n < 8, 0 < (rowsL t n).length := by decide +kernel
theorem combs_few {t n r : Nat} (ok : OkL t n) (h : r ≤ t) : (combs n r).length ≤ 60 := by
  have q : ∀ n < 8, ∀ r < 5, (combs n r).length ≤ 60 := by decide +kernel
  have := ok.t4; have := ok.n7
  exact q n (by omega) r (by omega)
theorem combs_lots {t n r : Nat} (ok : OkL t n) (h : r ≤ t) {k : List Nat} (hk : k ∈ combs n r) : LotH n k := by
  have := ok.t4; have := ok.tn; have := ok.n7
  have l := ((combs_ok ok.n7 (show r ≤ 4 by omega) (by omega)).lk k hk).1
  exact (combs_lot ok.n7 (by omega)).mp (by rw [l]; exact hk)
theorem combs_nint {t n r : Nat} (ok : OkL t n) (h : r ≤ t) : ((combs n r).map rowN).all isIntB = false := by
  have := ok.t4; have := ok.tn; have := ok.n7
  have e := (combs_ok ok.n7 (show r ≤ 4 by omega) (by omega)).e0
  cases q : ((combs n r).map rowN).all isIntB with
  | false => rfl
  | true =>
    have := List.all_eq_true.mp q (rowN (List.range r)) (List.mem_map.mpr ⟨_, List.mem_of_getElem? e, rfl⟩)
    exact nomatch this
theorem tell_sh {t n : Nat} {a b c : D} {wd : Str} (ok : OkL t n) (va : V51 a) (vb : V51 b) (vc : V51 c) : ∃ z v, tellL t n a b c wd = .tup [.str z, v] ∧ ShR [.str z, v] ∧ (z = "told" → IsRowD t n a ∧ IsGapD t a b) := by
  have := ok.t4
  by_cases la : IsRowD t n a
  · by_cases lg : IsGapD t a b
    · by_cases nw : wd = "nexts"
      · subst nw
        obtain ⟨ks, g, rfl, rfl, lt, _⟩ := id lg
        refine ⟨_, _, tellL_next la lg, shr_pair (by decide +kernel) (valR_rows (n := n) (fun k hk => combs_lots ok (by omega) hk) ok.n7 (combs_few ok (by omega))), fun _ => ⟨la, lg⟩⟩
      · by_cases lb : IsGoalD n a c
        · obtain ⟨ks, g, rfl, rfl, lt, _⟩ := id lg
          obtain ⟨ks', gs, e, rfl, m⟩ := id lb
          refine ⟨_, _, tellL_moved la lg nw lb, shr_pair (by decide +kernel) (v51_num ?_).v, fun _ => ⟨la, lg⟩⟩
          have := mism_le9 (xs := ks) (ys := wo gs g)
          show mism ks (wo gs g) < 32
          omega
        · exact ⟨_, _, tellL_goal la lg nw lb, shr_pair (by decide +kernel) vc.v, fun _ => ⟨la, lg⟩⟩
    · exact ⟨_, _, tellL_gap la lg, shr_pair (by decide +kernel) vb.v, fun e => absurd e (by decide +kernel)⟩
  · exact ⟨_, _, tellL_lot la, shr_pair (by decide +kernel) va.v, fun e => absurd e (by decide +kernel)⟩
section
variable {P : Program} {w : World} {K : PySem.W.Frag} {mg : Str → Option Value} {base : Heap} {C fI : Addr} {fdI : FuncData}
abbrev s_law : Stmt := top 31
theorem sc_law : FnScope ["script", "stream", "service", "rows", "turn", "row", "longer", "goal", "gap", "word", "told", "other"] ["script"] (defScope s_law) :=
  ⟨rfl, rfl, rfl, by decide +kernel, rfl, by decide +kernel, by decide +kernel⟩
theorem ok_law {f : Addr} {fd : FuncData} (B : Bly mg) (Br : mg "repr" = none) (W : TLo K mg C fI fdI) (F : Fun K "law" "law" s_law f fd)
    (D__law_stream : Dk P w K mg base "_law_stream" CX0 1 ["script"] (spStr K)) (D__law_draw : Dk P w K mg base "_law_draw" CX0 2 ["stream", "many"] (spW c_draw 2))
    (D__law_service : Dk P w K mg base "_law_service" CX0 5 ["stream"] (spW (c_service C) 1)) (D__law_odd : Dk P w K mg base "_law_odd" CX0 4 ["stream"] (spW c_odd 1))
    (D__law_rows : Dk P w K mg base "_law_rows" CX0 2 ["things", "labels"] (spWT c_rowsL 2))
    (D__law_told : Dk P w K mg base "_law_told" CX0 10 ["service", "row", "gap", "goal", "word"] (spW (c_tellL C) 5))
    (D__law_due : Dk P w K mg base "_law_due" CX0 4 ["service", "row", "gap", "goal", "word", "rows"] (spW (c_dueL C) 6)) :
    FnG P w K mg base CX0 12 f fd ["script"] (spLawTS K) := by
  refine fnG_ok F sc_law (fun vs H Q E h => ?_) (fun cdv A outer s H vs Q E gd hr h => ?_)
  · obtain ⟨a, ns, rfl, _⟩ := h
    rfl
  · obtain ⟨a, ns, rfl, hl, ht, sys, hs, q⟩ := h
    refine ⟨_, (pss_cons (ps_set (i := 1) sc_law.nd rfl (by first | exact Or.inl rfl | exact Or.inr rfl) (pe_callD D__law_stream (hr.mono (by decide)) (by rfl) pass0 (pa_cons (pv 0) pa_nil)))
    (pss_cons (ps_set (i := 2) sc_law.nd rfl (by first | exact Or.inl rfl | exact Or.inr rfl) (pe_callD D__law_service (hr.mono (by decide)) (by rfl) pass0 (pa_cons (pv 1) pa_nil)))
    (pss_cons (ps_set (i := 3) sc_law.nd rfl (by first | exact Or.inl rfl | exact Or.inr rfl) (pe_callD D__law_rows (hr.mono (by decide)) (by rfl) pass0 (pa_cons (pe_fldK (K := K) rfl (pv 2) rfl) (pa_cons (pe_fldK (K := K) rfl (pv 2) rfl) pa_nil))))
    (pss_cons (ps_for PassesOwn.never rfl (pi_range1 (by rfl) B.rng (pa_cons pe_int pa_nil)) (pg_name (i := 4) sc_law.nd rfl (by first | exact Or.inl rfl | exact Or.inr rfl)) (pss_cons (ps_set (i := 5) sc_law.nd rfl (by first | exact Or.inl rfl | exact Or.inr rfl) (pe_ix (ix_K (K := K) rfl) (pv 3) (pe_callD D__law_draw (hr.mono (by decide)) (by rfl) pass0 (pa_cons (pv 1) (pa_cons (pe_callB (call_lenK (K := K) rfl) (by rfl) B.len b_len (pa_cons (pv 3) pa_nil)) pa_nil))) (fun _ _ => rfl)))
      (pss_cons (ps_set (i := 6) sc_law.nd rfl (by first | exact Or.inl rfl | exact Or.inr rfl) (pe_op op_cat (pe_lc (own := [("other", 11)]) (g := gName 11) (by rfl) sc_law.nd (pi_seq (pv 3)) (blkOk_by (N := ["script", "stream", "service", "rows", "turn", "row", "longer", "goal", "gap", "word", "told", "other"]) (sc := defScope s_law) (by decide +kernel)) (fun _ _ _ _ _ => pg_name (i := 11) sc_law.nd rfl (by first | exact Or.inl rfl | exact Or.inr rfl)) (fun _ _ _ _ _ => (pts_one (pt_cmpR (op_eqK (K := K) rfl hr.units) (pe_callB (call_lenK (K := K) rfl) (by rfl) B.len b_len (pa_cons (pv 11) pa_nil)) (pe_op op_add (pe_callB (call_lenK (K := K) rfl) (by rfl) B.len b_len (pa_cons (pv 5) pa_nil)) pe_int) (by with_unfolding_all rfl)))) (fun _ _ _ _ _ => (pv 11))) (pe_lst (pa_cons (pe_ix (ix_K (K := K) rfl) (pv 3) pe_int (fun _ _ => rfl)) pa_nil))))
      (pss_cons (ps_set (i := 7) sc_law.nd rfl (by first | exact Or.inl rfl | exact Or.inr rfl) (pe_ix (ix_K (K := K) rfl) (pv 6) (pe_callD D__law_draw (hr.mono (by decide)) (by rfl) pass0 (pa_cons (pv 1) (pa_cons (pe_callB (call_lenK (K := K) rfl) (by rfl) B.len b_len (pa_cons (pv 6) pa_nil)) pa_nil))) (fun _ _ => rfl)))
      (pss_cons (ps_set (i := 8) sc_law.nd rfl (by first | exact Or.inl rfl | exact Or.inr rfl) (pe_callD D__law_draw (hr.mono (by decide)) (by rfl) pass0 (pa_cons (pv 1) (pa_cons (pe_op op_add (pe_callB (call_lenK (K := K) rfl) (by rfl) B.len b_len (pa_cons (pv 5) pa_nil)) pe_int) pa_nil))))
      (pss_cons (ps_if (pt_cmpR (op_eqK (K := K) rfl hr.units) (pe_callD D__law_draw (hr.mono (by decide)) (by rfl) pass0 (pa_cons (pv 1) (pa_cons pe_int pa_nil))) pe_int (by with_unfolding_all rfl)) (pss_one (ps_set (i := 5) sc_law.nd rfl (by first | exact Or.inl rfl | exact Or.inr rfl) (pe_callD D__law_odd (hr.mono (by decide)) (by rfl) pass0 (pa_cons (pv 1) pa_nil)))) pss_nil)
      (pss_cons (ps_if (pt_cmpR (op_eqK (K := K) rfl hr.units) (pe_callD D__law_draw (hr.mono (by decide)) (by rfl) pass0 (pa_cons (pv 1) (pa_cons pe_int pa_nil))) pe_int (by with_unfolding_all rfl)) (pss_one (ps_set (i := 8) sc_law.nd rfl (by first | exact Or.inl rfl | exact Or.inr rfl) (pe_callD D__law_odd (hr.mono (by decide)) (by rfl) pass0 (pa_cons (pv 1) pa_nil)))) pss_nil)
      (pss_cons (ps_if (pt_cmpR (op_eqK (K := K) rfl hr.units) (pe_callD D__law_draw (hr.mono (by decide)) (by rfl) pass0 (pa_cons (pv 1) (pa_cons pe_int pa_nil))) pe_int (by with_unfolding_all rfl)) (pss_one (ps_set (i := 7) sc_law.nd rfl (by first | exact Or.inl rfl | exact Or.inr rfl) (pe_ix (ix_K (K := K) rfl) (pe_lst (pa_cons (pe_callD D__law_odd (hr.mono (by decide)) (by rfl) pass0 (pa_cons (pv 1) pa_nil)) (pa_cons (pe_ix (ix_K (K := K) rfl) (pv 3) (pe_callD D__law_draw (hr.mono (by decide)) (by rfl) pass0 (pa_cons (pv 1) (pa_cons (pe_callB (call_lenK (K := K) rfl) (by rfl) B.len b_len (pa_cons (pv 3) pa_nil)) pa_nil))) (fun _ _ => rfl)) pa_nil))) (pe_callD D__law_draw (hr.mono (by decide)) (by rfl) pass0 (pa_cons (pv 1) (pa_cons pe_int pa_nil))) (fun _ _ => rfl)))) pss_nil)
      (pss_one (ps_for PassesOwn.never rfl (pi_seq (pe_lst (pa_cons pe_str (pa_cons pe_str pa_nil)))) (pg_name (i := 9) sc_law.nd rfl (by first | exact Or.inl rfl | exact Or.inr rfl)) (pss_cons (ps_set (i := 10) sc_law.nd rfl (by first | exact Or.inl rfl | exact Or.inr rfl) (pe_callD D__law_told (hr.mono (by decide)) (by rfl) pass0 (pa_cons (pv 2) (pa_cons (pv 5) (pa_cons (pv 8) (pa_cons (pv 7) (pa_cons (pv 9) pa_nil)))))))
        (pss_cons (ps_if (pt_cmpR (op_neK (K := K) rfl hr.units) (pe_callB (call_reprR (K := K) rfl hr gd) (by rfl) Br b_repr (pa_cons (pv 10) pa_nil)) (pe_callB (call_reprR (K := K) rfl hr gd) (by rfl) Br b_repr (pa_cons (pe_callD D__law_due (hr.mono (by decide)) (by rfl) pass0 (pa_cons (pv 2) (pa_cons (pv 5) (pa_cons (pv 8) (pa_cons (pv 7) (pa_cons (pv 9) (pa_cons (pv 3) pa_nil))))))) pa_nil)) (by with_unfolding_all rfl)) (pss_one (ps_ret pe_bl)) pss_nil)
        (pss_one (ps_if (PW.pt (pw_and (pt_cmpR (op_eqK (K := K) rfl hr.units) (pe_ix (ix_K (K := K) rfl) (pv 10) pe_int (fun _ _ => rfl)) pe_str (by with_unfolding_all rfl)) (pw_and1 (pt_cmpR (op_eqK (K := K) rfl hr.units) (pv 9) pe_str (by with_unfolding_all rfl))))) (pss_one (ps_expr (pe_bm PySem.F.plainAttrs_list PySem.F.slot_list_append PySem.F.type_list_append mt_append (pe_ix (ix_K (K := K) rfl) (pv 10) pe_int (fun _ _ => rfl)) (pa_cons pe_non pa_nil)))) pss_nil))))))))))))))
    (pss_one (ps_ret pe_bl)))))), ?_⟩
    let T : Tr := ⟨fun b => H b ≠ none, Tb.U, keepF H a⟩
    have us : ∀ b, Tb.U b → T.S b := fun _ h => h
    have sq : ∀ H', (∀ u, T.F a u → H' a = some u) → SqL K H' a (ns.map V.int) := fun H' h => sq_inv (fun u hu => h u ⟨.inl rfl, hu⟩) hs
    have en : Ens T (fun _ => none) H [.fx (.ref a), .no, .no, .no, .no, .no, .no, .no, .no, .no, .no, .no] (some (.ref a) :: List.replicate 11 none) := ens_lawTS (n := 11) ht
    refine (?_ : WpS ⟨E, fun _ _ => False, T⟩ _ [.fx (.ref a), .no, .no, .no, .no, .no, .no, .no, .no, .no, .no, .no] (fun _ => False) (fun d => d = .bl true)) _ _ H en rz0 _ (fun _ _ _ _ _ _ z => z.elim) (fun v d G' H' _ _ _ at' e => by
      subst e
      cases at'
      exact q H')
    refine wps_stream (ns := ns) (fun _ h => h) rfl (by omega) sq fun p np => ?_
    have hS : ∀ H', (∀ b u, keepF H a b u → H' b = some u) → Sys K H' := keep_sys sys
    refine wps_seq (wps_set (wpe_callS rfl (wpl_nil ⟨rfl, rfl, fun d hd => ?_⟩)))
    obtain ⟨t, n, rfl, ok⟩ := hd
    have o1 := ok.t1
    have o2 := ok.t4
    have o3 := ok.tn
    have o4 := ok.n7
    refine wps_seq (wps_set (wpe_callT (fun b h => .inl h) (wpa_cons (wpe_fldC W.cl W.n1 rfl (by decide) (wpe_var rfl ⟨_, _, rfl, rfl, wpa_cons (wpe_fldC W.cl W.n2 rfl (by decide) (wpe_var rfl ⟨_, _, rfl, rfl, wpa_nil ⟨rfl, ⟨t, n, rfl, ok⟩, fun d hd => ?_, fun _ _ z => z⟩⟩))⟩)))))
    have hd := hd t n rfl
    subst hd
    have l100 := chk_len t (by omega) n (by omega) o3
    have pos := chk_pos t (by omega) n (by omega)
    have dll : ((rowsL t n).map rowN).length = (rowsL t n).length := List.length_map ..
    have pickL : ∀ {R : Rg} {δ : List Sl} {φ : D → Prop} {r : List V → Hp → VK → Prop} {i : Nat} {L : List (List Nat)}, L.length ≤ 200 → 0 < L.length → (∀ {ψ : D → Prop}, ψ (.int (L.length : Nat)) → CbD r [.lst (L.map rowN)] ψ) → δ[1]? = some (.st p) → δ[i]? = some (.da (.lst (L.map rowN))) → (∀ k ∈ L, φ (rowN k)) →
        WpE R (tOp (rIx K) (tVar i) (tCall (spW c_draw 2) [] E0 (tCons (tVar 1) (tCons (tCB r (tCons (tVar i) tNil)) tNil)))) δ φ := fun {R δ φ r i L} l200 lp cl e1 e5 q => by
      refine wpe_op (wpe_var e5 (wpe_callS e1 (wpl_cons (wpe_cb1 (wpe_var e5 (cl (wpl_nil ⟨rfl, ⟨_, rfl, by omega, ?_⟩, fun d hd => ?_⟩)))))))
      · exact Nat.lt_of_le_of_lt (show _ ≤ 200 by omega) (by decide)
      obtain ⟨z, rfl, z0, z1⟩ := hd _ rfl
      obtain ⟨zn, rfl⟩ : ∃ m : Nat, z = m := ⟨z.toNat, by omega⟩
      have lz : zn < L.length := by omega
      exact opd_ix (n := zn) (.inl rfl) rfl (by rw [List.getElem?_map, List.getElem?_eq_getElem lz]; rfl) (q _ (List.getElem_mem lz))
    have drw : ∀ {R : Rg} {δ : List Sl} {φ : D → Prop} (n : Nat), 0 < n → n < 1000 → δ[1]? = some (.st p) → (∀ z : Nat, z < n → φ (.int z)) → WpE R (tCall (spW c_draw 2) [] E0 (tCons (tVar 1) (tCons (tC (.int (n : Nat))) tNil))) δ φ := fun {R δ φ} n n0 n1 e1 q => by
      refine wpe_callS e1 (wpl_cons (wpe_int (wpl_nil ⟨rfl, ⟨n, rfl, by omega, ?_⟩, fun d hd => ?_⟩)))
      · exact Nat.lt_of_le_of_lt (show _ ≤ 1000 by omega) (by decide)
      obtain ⟨z, rfl, z0, z1⟩ := hd _ rfl
      obtain ⟨zn, rfl⟩ : ∃ m : Nat, z = m := ⟨z.toNat, by omega⟩
      exact q zn (by omega)
    have odd : ∀ {R : Rg} {δ : List Sl} {φ : D → Prop}, δ[1]? = some (.st p) → (∀ d, V51 d → φ d) → WpE R (tCall (spW c_odd 1) [] E0 (tCons (tVar 1) tNil)) δ φ := fun e1 q =>
      wpe_callS e1 (wpl_nil ⟨rfl, rfl, fun d hd => q d (v51_odd hd)⟩)
    let Sh : Sl → Sl → Sl → Sl → Sl → Sl → Sl → Sl → List Sl := fun x4 x5 x6 x7 x8 x9 x10 x11 => [.fx (.ref a), .st p, .da (lwD C t n), .da (.lst ((rowsL t n).map rowN)), x4, x5, x6, x7, x8, x9, x10, x11]
    have vrow : ∀ {k : List Nat}, k ∈ rowsL t n → V51 (rowN k) := fun h => v51_row (rows_lot ok h).1 o4
    refine wps_seq (wps_for (js := [4]) (wpi_rng1 (wpe_int ⟨16, rfl, by decide, by decide, ?_⟩)))
    refine ⟨fun i δ' => ∃ x4 x5 x6 x7 x8 x9 x10 x11 : Sl, δ' = Sh x4 x5 x6 x7 x8 x9 x10 x11, ⟨_, _, _, _, _, _, _, _, rfl⟩, ?_, ?_⟩
    · rintro i d δ' ed ⟨x4, x5, x6, x7, x8, x9, x10, x11, rfl⟩
      refine wpg_name ?_
      refine wps_seq (wps_set (pickL (i := 3) (by omega) pos (fun q => cbd_l (cbd_len (.inl rfl) (by rw [dll]; exact q))) rfl rfl fun k1 mk1 => ?_))
      obtain ⟨lot1, le1⟩ := rows_lot ok mk1
      obtain ⟨k0, e0⟩ : ∃ k0, (rowsL t n)[0]? = some k0 := ⟨_, List.getElem?_eq_getElem pos⟩
      have len : ∀ {R : Rg} {δ : List Sl} {φ : D → Prop} {r : List V → Hp → VK → Prop} {i : Nat} {k : List Nat}, (∀ {ψ : D → Prop}, ψ (.int (k.length : Nat)) → CbD r [rowN k] ψ) → δ[i]? = some (.da (rowN k)) → φ (.int (k.length : Nat)) → WpE R (tCB r (tCons (tVar i) tNil)) δ φ := fun cl e q => wpe_cb1 (wpe_var e (cl q))
      refine wps_seq (wps_set (wpe_op (wpe_flt (js := [11]) (fun d => decide (((natsT d).length : Int) = ((k1.length + 1 : Nat) : Int))) id (by simp) (wpi_seq (wpe_var rfl ⟨_, .inl rfl, by rw [dll]; omega, fun d hd => ?_, wpe_lstL (wpl_cons (wpe_op (wpe_var rfl (wpe_int (opd_ix (n := 0) (.inl rfl) rfl (by rw [List.getElem?_map, e0]; rfl) (wpl_nil ⟨by show 1 ≤ 1000; decide, ?_⟩))))))⟩)))))
      · obtain ⟨k, _, rfl⟩ := List.mem_map.mp hd
        refine wpg_name (wpt_test (wpe_op (wpe_cb1 (wpe_var rfl (cbd_l (cbd_len (.inr rfl) ?_))))))
        rw [nat_len]
        refine wpe_op (wpe_cb1 (wpe_var rfl (cbd_l (cbd_len (.inr rfl) ?_))))
        rw [nat_len]
        refine wpe_int (opd_i (opd_l (opd_eqI ⟨_, rfl, ?_⟩)))
        rw [natsT_N]
        exact ⟨rfl, fun _ => wpe_var rfl rfl⟩
      rw [flt_rowsH (q := fun os => decide (((os.length : Nat) : Int) = ((k1.length + 1 : Nat) : Int))) (fun os => by
        show decide (((natsT (rowN os)).length : Int) = _) = _
        rw [natsT_N])]
      have ll := List.length_filter_le (fun os : List Nat => decide (((os.length : Nat) : Int) = ((k1.length + 1 : Nat) : Int))) (rowsL t n)
      refine opd_catL (by rw [List.length_map, List.length_singleton]; omega) ?_
      have eL : (List.map rowN ((rowsL t n).filter fun os => decide (((os.length : Nat) : Int) = ((k1.length + 1 : Nat) : Int))) ++ [rowN k0]) = (((rowsL t n).filter fun os => decide (((os.length : Nat) : Int) = ((k1.length + 1 : Nat) : Int))) ++ [k0]).map rowN := by
        rw [List.map_append]
        rfl
      rw [eL]
      have subL : ∀ k ∈ ((rowsL t n).filter fun os => decide (((os.length : Nat) : Int) = ((k1.length + 1 : Nat) : Int))) ++ [k0], k ∈ rowsL t n := fun k hk => by
        rcases List.mem_append.mp hk with hk | hk
        · exact (List.mem_filter.mp hk).1
        · rw [List.mem_singleton.mp hk]
          exact List.mem_of_getElem? e0
      have lenL : (((rowsL t n).filter fun os => decide (((os.length : Nat) : Int) = ((k1.length + 1 : Nat) : Int))) ++ [k0]).length ≤ 200 ∧ 0 < (((rowsL t n).filter fun os => decide (((os.length : Nat) : Int) = ((k1.length + 1 : Nat) : Int))) ++ [k0]).length := by
        rw [List.length_append, List.length_singleton]
        omega
      generalize ((rowsL t n).filter fun os => decide (((os.length : Nat) : Int) = ((k1.length + 1 : Nat) : Int))) ++ [k0] = LL at subL lenL
      refine wps_seq (wps_set (pickL (i := 6) lenL.1 lenL.2 (fun q => cbd_l (cbd_len (.inl rfl) (by rw [List.length_map]; exact q))) rfl rfl fun k2 mk2 => ?_))
      have mk2 := subL k2 mk2
      refine wps_seq (wps_set (wpe_callS rfl (wpl_cons (wpe_op (wpe_cb1 (wpe_var rfl (cbd_l (cbd_len (.inr rfl) ?_))))))))
      rw [nat_len]
      refine wpe_int (opd_i (wpl_nil ⟨rfl, ⟨_, rfl, by omega, ?_⟩, fun d hd => ?_⟩))
      · exact Nat.lt_of_le_of_lt (show _ ≤ 6 by omega) (by decide)
      obtain ⟨z, rfl, z0, z1⟩ := hd _ rfl
      obtain ⟨z, rfl⟩ : ∃ m : Nat, z = m := ⟨z.toNat, by omega⟩
      have v1 : V51 (rowN k1) := vrow mk1
      have v2 : V51 (rowN k2) := vrow mk2
      have v3 : V51 (.int (z : Nat)) := v51_num (by omega)
      refine wps_seq (wps_mono (Φ := fun δ' => ∃ row, V51 row ∧ δ' = Sh (.da d) (.da row) (.da (.lst (LL.map rowN))) (.da (rowN k2)) (.da (.int (z : Nat))) x9 x10 x11) (Ψ := fun d => d = .bl true) ?_ ?_ (fun _ h => h))
      · refine wps_if (wpt_test (wpe_op (drw 4 (by decide) (by decide) rfl fun y _ => wpe_int (opd_l (opd_eqI ⟨_, rfl, ite_b (fun _ => ?_) (fun _ => wps_nil ⟨_, v1, rfl⟩)⟩)))))
        exact wps_set (odd rfl fun o vo => ⟨_, vo, rfl⟩)
      rintro δ' ⟨row, vr, rfl⟩
      refine wps_seq (wps_mono (Φ := fun δ' => ∃ gap, V51 gap ∧ δ' = Sh (.da d) (.da row) (.da (.lst (LL.map rowN))) (.da (rowN k2)) (.da gap) x9 x10 x11) (Ψ := fun d => d = .bl true) ?_ ?_ (fun _ h => h))
      · refine wps_if (wpt_test (wpe_op (drw 4 (by decide) (by decide) rfl fun y _ => wpe_int (opd_l (opd_eqI ⟨_, rfl, ite_b (fun _ => ?_) (fun _ => wps_nil ⟨_, v3, rfl⟩)⟩)))))
        exact wps_set (odd rfl fun o vo => ⟨_, vo, rfl⟩)
      rintro δ' ⟨gap, vg, rfl⟩
      refine wps_seq (wps_mono (Φ := fun δ' => ∃ goal, V51 goal ∧ δ' = Sh (.da d) (.da row) (.da (.lst (LL.map rowN))) (.da goal) (.da gap) x9 x10 x11) (Ψ := fun d => d = .bl true) ?_ ?_ (fun _ h => h))
      · refine wps_if (wpt_test (wpe_op (drw 4 (by decide) (by decide) rfl fun y _ => wpe_int (opd_l (opd_eqI ⟨_, rfl, ite_b (fun _ => ?_) (fun _ => wps_nil ⟨_, v2, rfl⟩)⟩)))))
        refine wps_set (wpe_op (wpe_lstL (wpl_cons (odd rfl fun o vo => wpl_cons (pickL (i := 3) (by omega) pos (fun q => cbd_l (cbd_len (.inl rfl) (by rw [dll]; exact q))) rfl rfl fun k3 mk3 => wpl_nil ⟨by show 2 ≤ 1000; decide, drw 2 (by decide) (by decide) rfl fun y ly => ?_⟩)))))
        rcases (show y = 0 ∨ y = 1 by omega) with rfl | rfl
        · exact opd_ix (n := 0) (.inl rfl) rfl rfl ⟨_, vo, rfl⟩
        · exact opd_ix (n := 1) (.inl rfl) rfl rfl ⟨_, vrow mk3, rfl⟩
      rintro δ' ⟨goal, vgo, rfl⟩
      generalize Sl.da (.lst (LL.map rowN)) = x6
      have told : ∀ {R : Rg} {δ : List Sl} {φ : D → Prop} {wd : Str}, (wd = "nexts" ∨ wd = "moved") → δ[2]? = some (.da (lwD C t n)) → δ[5]? = some (.da row) → δ[8]? = some (.da gap) → δ[7]? = some (.da goal) → δ[9]? = some (.da (.str wd)) → φ (tellL t n row gap goal wd) →
          WpE R (tCall (spW (c_tellL C) 5) [] E0 (tCons (tVar 2) (tCons (tVar 5) (tCons (tVar 8) (tCons (tVar 7) (tCons (tVar 9) tNil)))))) δ φ := fun {R δ φ wd} hw e2 e5 e8 e7 e9 q => by
        refine wpe_call0 (wpa_cons (wpe_var e2 (wpa_cons (wpe_var e5 (wpa_cons (wpe_var e8 (wpa_cons (wpe_var e7 (wpa_cons (wpe_var e9 (wpa_nil ⟨rfl, ⟨t, n, row, gap, goal, wd, rfl, ok, vr, vg, vgo, hw⟩, fun d hd => ?_, fun _ _ z => z⟩)))))))))))
        rw [hd t n row gap goal wd rfl]
        exact q
      have due : ∀ {R : Rg} {δ : List Sl} {φ : D → Prop} {wd : Str}, (wd = "nexts" ∨ wd = "moved") → δ[2]? = some (.da (lwD C t n)) → δ[5]? = some (.da row) → δ[8]? = some (.da gap) → δ[7]? = some (.da goal) → δ[9]? = some (.da (.str wd)) → δ[3]? = some (.da (.lst ((rowsL t n).map rowN))) → φ (tellL t n row gap goal wd) →
          WpE R (tCall (spW (c_dueL C) 6) [] E0 (tCons (tVar 2) (tCons (tVar 5) (tCons (tVar 8) (tCons (tVar 7) (tCons (tVar 9) (tCons (tVar 3) tNil))))))) δ φ := fun {R δ φ wd} hw e2 e5 e8 e7 e9 e3 q => by
        refine wpe_call0 (wpa_cons (wpe_var e2 (wpa_cons (wpe_var e5 (wpa_cons (wpe_var e8 (wpa_cons (wpe_var e7 (wpa_cons (wpe_var e9 (wpa_cons (wpe_var e3 (wpa_nil ⟨rfl, ⟨t, n, row, gap, goal, wd, rfl, ok, vr, vg, vgo, hw⟩, fun d hd => ?_, fun _ _ z => z⟩)))))))))))))
        rw [hd t n row gap goal wd rfl]
        exact q
      refine wps_for (js := [9]) (wpi_seq (wpe_lstL (wpl_cons (wpe_str (wpl_cons (wpe_str (wpl_nil ⟨by show 2 ≤ 1000; decide, _, .inl rfl, fun i δ' => ∃ x9 x10 : Sl, δ' = Sh (.da d) (.da row) x6 (.da goal) (.da gap) x9 x10 x11, ⟨_, _, rfl⟩, ?_, ?_⟩)))))))
      · rintro j e δ' ee ⟨x9, x10, rfl⟩
        obtain ⟨wd, rfl, hw⟩ : ∃ wd, e = .str wd ∧ (wd = "nexts" ∨ wd = "moved") := by
          match j, ee with
          | 0, ee => exact ⟨"nexts", (Option.some.inj ee).symm, .inl rfl⟩
          | 1, ee => exact ⟨"moved", (Option.some.inj ee).symm, .inr rfl⟩
          | j + 2, ee => simp at ee
        obtain ⟨z1, y1, et, sh, gd1⟩ := tell_sh (wd := wd) ok vr vg vgo
        refine wpg_name ?_
        by_cases good : wd = "nexts" ∧ IsRowD t n row ∧ IsGapD t row gap
        · obtain ⟨rfl, gr, gg⟩ := good
          obtain ⟨ks, g, rfl, rfl, lt, lg⟩ := id gg
          have en2 := tellL_next (c := goal) gr gg
          refine wps_toldX (i := 10) (d := tellL t n (rowN ks) (.int (g : Nat)) goal "nexts") (δ0 := [.no, .no, .da (lwD C t n), .no, .no, .da (rowN ks), .no, .da goal, .da (.int (g : Nat)), .da (.str "nexts"), .no, .no])
            (δ1 := [.no, .no, .da (lwD C t n), .da (.lst ((rowsL t n).map rowN)), .no, .da (rowN ks), .no, .da goal, .da (.int (g : Nat)), .da (.str "nexts"), .da (tellL t n (rowN ks) (.int (g : Nat)) goal "nexts"), .no])
            (.no (.no (.da rfl (.no (.no (.da vr.nx (.no (.da vgo.nx (.da rfl (.da rfl (.no (.no .nil)))))))))))) ?_ ⟨_, _, en2, by rw [List.length_map]; have := combs_few ok (show ks.length + 1 ≤ t by omega); omega, combs_nint ok (by omega)⟩
            (.no (.no (.da (.da (.no (.da (.no (.da (.da (.da (.da (.no .nil)))))))))))) ?_ ?_ (by show 10 < 12; decide) ⟨_, _, rfl⟩
          · exact told (.inl rfl) rfl rfl rfl rfl rfl rfl
          · refine wpt_test (wpe_op (wpe_reprR hS (wpe_var rfl ⟨_, et, sh, wpe_reprR hS (due (.inl rfl) rfl rfl rfl rfl rfl rfl ⟨_, et, sh, opd_l (opd_neS ⟨_, rfl, ?_⟩)⟩)⟩)))
            rw [decide_eq_true rfl]
            rfl
          · refine wpt_and (wpt_test (wpe_op (wpe_op (wpe_var rfl (wpe_int (opd_ix (n := 0) (.inr en2) rfl rfl (wpe_str (opd_l (opd_eqS ⟨_, rfl, ?_⟩)))))))))
            rw [decide_eq_true rfl]
            exact wpt_test (wpe_op (wpe_var rfl (wpe_str (opd_l (opd_eqS ⟨_, rfl, decide_eq_true rfl⟩)))))
        · refine wps_seq (wps_set (told hw rfl rfl rfl rfl rfl ?_))
          refine wps_seq (wps_if (wpt_test (wpe_op (wpe_reprR hS (wpe_var rfl ⟨_, et, sh, wpe_reprR hS (due hw rfl rfl rfl rfl rfl rfl ⟨_, et, sh, opd_l (opd_neS ⟨_, rfl, ?_⟩)⟩)⟩)))))
          rw [decide_eq_true rfl]
          refine wps_nil ?_
          refine wps_if (wpt_and (wpt_test (wpe_op (wpe_op (wpe_var rfl (wpe_int (opd_ix (n := 0) (.inr et) rfl rfl (wpe_str (opd_l (opd_eqS ⟨_, rfl, ite_b (fun h => ?_) (fun h => wps_nil ⟨_, _, rfl⟩)⟩))))))))))
          have h := of_decide_eq_true h
          have nw : wd ≠ "nexts" := fun e => good ⟨e, gd1 h⟩
          refine wpt_test (wpe_op (wpe_var rfl (wpe_str (opd_l (opd_eqS ⟨_, rfl, ?_⟩)))))
          rw [decide_eq_false nw]
          exact wps_nil ⟨_, _, rfl⟩
      · rintro δ' ⟨x9, x10, rfl⟩
        exact ⟨_, _, _, _, _, _, _, _, rfl⟩
    · rintro δ' ⟨x4, x5, x6, x7, x8, x9, x10, x11, rfl⟩
      exact wps_ret (wpe_bl rfl)
end
end Nv
namespace Nv
open PySem PySem.Spec PyProof.Rows L2
theorem all_mk {P : Program} {w : World} {K : PySem.W.Frag} {h : Heap} {mg : Str → Option Value} {fa C fI f_d0 f_d1 f_d2 f_d3 f_d4 f_d5 f_d6 f_d7 f_d8 f_d9 f_d10 f_d11 f_d12 f_d13 f_d14 f_d15 f_d16 f_d17 f_d18 f_d19 f_d20 f_d21 f_d22 f_d23 : Addr} (X : K.In h) (G : h.Ns mainGlobals mg) (hfa : mg "law" = some (.ref fa))
    {odI anI od_d0 an_d0 od_d1 an_d1 od_d2 an_d2 od_d3 an_d3 od_d4 an_d4 od_d5 an_d5 od_d6 an_d6 od_d7 an_d7 od_d8 an_d8 od_d9 an_d9 od_d10 an_d10 od_d11 an_d11 od_d12 an_d12 od_d13 an_d13 od_d14 an_d14 od_d15 an_d15 od_d16 an_d16 od_d17 an_d17 od_d18 an_d18 od_d19 an_d19 od_d20 an_d20 od_d21 an_d21 od_d22 an_d22 od_d23 an_d23 : Option Addr} {slI sl_d0 sl_d1 sl_d2 sl_d3 sl_d4 sl_d5 sl_d6 sl_d7 sl_d8 sl_d9 sl_d10 sl_d11 sl_d12 sl_d13 sl_d14 sl_d15 sl_d16 sl_d17 sl_d18 sl_d19 sl_d20 sl_d21 sl_d22 sl_d23 : Array (Option Value)}
    {ocI kVI dcI pmI cdI ctI oc_d0 kV_d0 dc_d0 pm_d0 cd_d0 ct_d0 oc_d1 kV_d1 dc_d1 pm_d1 cd_d1 ct_d1 oc_d2 kV_d2 dc_d2 pm_d2 cd_d2 ct_d2 oc_d3 kV_d3 dc_d3 pm_d3 cd_d3 ct_d3 oc_d4 kV_d4 dc_d4 pm_d4 cd_d4 ct_d4 oc_d5 kV_d5 dc_d5 pm_d5 cd_d5 ct_d5 oc_d6 kV_d6 dc_d6 pm_d6 cd_d6 ct_d6 oc_d7 kV_d7 dc_d7 pm_d7 cd_d7 ct_d7 oc_d8 kV_d8 dc_d8 pm_d8 cd_d8 ct_d8 oc_d9 kV_d9 dc_d9 pm_d9 cd_d9 ct_d9 oc_d10 kV_d10 dc_d10 pm_d10 cd_d10 ct_d10 oc_d11 kV_d11 dc_d11 pm_d11 cd_d11 ct_d11 oc_d12 kV_d12 dc_d12 pm_d12 cd_d12 ct_d12 oc_d13 kV_d13 dc_d13 pm_d13 cd_d13 ct_d13 oc_d14 kV_d14 dc_d14 pm_d14 cd_d14 ct_d14 oc_d15 kV_d15 dc_d15 pm_d15 cd_d15 ct_d15 oc_d16 kV_d16 dc_d16 pm_d16 cd_d16 ct_d16 oc_d17 kV_d17 dc_d17 pm_d17 cd_d17 ct_d17 oc_d18 kV_d18 dc_d18 pm_d18 ct_d18 oc_d19 kV_d19 dc_d19 pm_d19 cd_d19 ct_d19 oc_d20 kV_d20 dc_d20 pm_d20 cd_d20 ct_d20 oc_d21 kV_d21 dc_d21 pm_d21 cd_d21 ct_d21 oc_d22 kV_d22 dc_d22 pm_d22 cd_d22 ct_d22 oc_d23 kV_d23 dc_d23 pm_d23 cd_d23 ct_d23 : Value}
    {tk_MOST_THINGS tk_MOST_LABELS : Tok}
    {fE TE : Addr} {odE anE : Option Addr} {slE : Array (Option Value)} {ocE kVE dcE pmE cdE ctE : Value} {oE : Obj} {nE : Nat}
    {CBl : Addr} {nmBl qBl : Str} {NBl : Addr} {bsBl bmBl : List Value} {snBl : List Str} {subBl : List Value} {abBl : Bool} {colBl : Option Bool} {ddBl : Option Addr} {m0Bl m1Bl m2Bl m3Bl m5Bl : Option Value}
    {CBg : Addr} {nmBg qBg : Str} {NBg : Addr} {bsBg bmBg : List Value} {snBg : List Str} {subBg : List Value} {abBg : Bool} {colBg : Option Bool} {ddBg : Option Addr} {m0Bg m1Bg m2Bg m3Bg m5Bg : Option Value} {cc PS : Addr} {oC : Obj} {vsC : Array Value}
    (z_len : PySem.W.nsIn K mainGlobals "len" = some none)
    (z_int : PySem.W.nsIn K mainGlobals "int" = some none)
    (z_bool : PySem.W.nsIn K mainGlobals "bool" = some none)
    (z_str : PySem.W.nsIn K mainGlobals "str" = some none)
    (z_tuple : PySem.W.nsIn K mainGlobals "tuple" = some none)
    (z_list : PySem.W.nsIn K mainGlobals "list" = some none)
    (z_abs : PySem.W.nsIn K mainGlobals "abs" = some none)
    (z_isinstance : PySem.W.nsIn K mainGlobals "isinstance" = some none)
    (z_range : PySem.W.nsIn K mainGlobals "range" = some none)
    (z_zip : PySem.W.nsIn K mainGlobals "zip" = some none)
    (z_enumerate : PySem.W.nsIn K mainGlobals "enumerate" = some none)
    (z_all : PySem.W.nsIn K mainGlobals "all" = some none)
    (z_sorted : PySem.W.nsIn K mainGlobals "sorted" = some none)
    (z_repr : PySem.W.nsIn K mainGlobals "repr" = some none)
    (z_set : PySem.W.nsIn K mainGlobals "set" = some none)
    (g_MOST_THINGS : PySem.W.nsIn K mainGlobals "MOST_THINGS" = some (some (.int 4 tk_MOST_THINGS)))
    (g_MOST_LABELS : PySem.W.nsIn K mainGlobals "MOST_LABELS" = some (some (.int 7 tk_MOST_LABELS)))
    (y_combinations : PySem.W.nsIn K mainGlobals "combinations" = some (some (.type "itertools.combinations")))
    (aC : PySem.W.nsIn K mainGlobals "LabelWorld" = some (some (.ref C)))
    (aI : PySem.W.findIn K (.ref C) "__init__" = some (some (.ref fI)))
    (iI : PySem.W.isFn K (.ref fI) = true)
    (lI : K.lookup fI = some ⟨ocI, odI, .func (PySem.W.fnOf "__init__" "LabelWorld.__init__" (defArgs s___init__) (defBody s___init__) (defScope s___init__) .none kVI dcI pmI anI cdI ctI), slI⟩)
    (cI : PySem.W.codeIn K cdI "LabelWorld.__init__" = true)
    (kI : PySem.W.keepIn K (.ref fI) = true)
    (pg : PySem.W.plainGet K C Str.empty = true)
    (hd : PySem.W.hasDictIn K C = true)
    (po : PySem.W.plainOver K C = true)
    (sa : PySem.W.findIn K (.ref C) "__setattr__" = some (some (.builtin "object.__setattr__")))
    (mk : PySem.W.makesIn K C = true)
    (kc : PySem.W.keepIn K (.ref C) = true)
    (n1 : PySem.W.findIn K (.ref C) "things" = some none)
    (n2 : PySem.W.findIn K (.ref C) "labels" = some none)
    (aBl : PySem.W.nsIn K mainGlobals "BadLot" = some (some (.ref CBl)))
    (aBg : PySem.W.nsIn K mainGlobals "BadGap" = some (some (.ref CBg)))
    (iB : PySem.W.findIn K (.ref CBl) "__init__" = some (some (.ref fE)))
    (tE : PySem.W.typeIn K (.ref fE) = some (.type "function"))
    (lE : K.lookup fE = some ⟨ocE, odE, .func (PySem.W.fnOf "__init__" "OweError.__init__" (defArgs sExI) (defBody sExI) (defScope sExI) (.ref TE) kVE dcE pmE anE cdE ctE), slE⟩)
    (cE : PySem.W.codeIn K cdE "OweError.__init__" = true)
    (kE : PySem.W.keepIn K (.ref fE) = true)
    (tlE : K.lookup TE = some oE)
    (tdE : oE.data = .seq [Value.none].toArray nE)
    (xLBl : K.lookup CBl = some (excClassObj nmBl qBl CBl NBl bsBl bmBl true snBl subBl abBl colBl ddBl m0Bl m1Bl m2Bl m3Bl m5Bl "ValueError.__new__"))
    (rVBl : PySem.HandSPX.refsVE bmBl = true)
    (sBl : PySem.W.findIn K (.ref CBl) "__setattr__" = some (some (.builtin "object.__setattr__")))
    (gBl : PySem.W.findIn K (.ref CBl) "__getattribute__" = some (some (.builtin "BaseException.__getattribute__")))
    (ggBl : PySem.W.findIn K (.ref CBl) "__getattr__" = some none)
    (nBl : PySem.W.findIn K (.ref CBl) "what" = some none)
    (iBl : PySem.W.findIn K (.ref CBl) "__init__" = some (some (.ref fE)))
    (kBl : PySem.W.keepIn K (.ref CBl) = true)
    (eBl : PySem.W.subIn K (.ref CBl) (.type "BaseException") = some true)
    (tBl : PySem.W.typeIn K (.ref CBl) = some (.type "type"))
    (hBl : PySem.W.hasDictIn K CBl = true)
    (cBl : PySem.W.isClsIn K CBl = true)
    (ssBl : PySem.W.subIn K (.ref CBl) (.ref CBl) = some true)
    (xLBg : K.lookup CBg = some (excClassObj nmBg qBg CBg NBg bsBg bmBg true snBg subBg abBg colBg ddBg m0Bg m1Bg m2Bg m3Bg m5Bg "ValueError.__new__"))
    (rVBg : PySem.HandSPX.refsVE bmBg = true)
    (sBg : PySem.W.findIn K (.ref CBg) "__setattr__" = some (some (.builtin "object.__setattr__")))
    (gBg : PySem.W.findIn K (.ref CBg) "__getattribute__" = some (some (.builtin "BaseException.__getattribute__")))
    (ggBg : PySem.W.findIn K (.ref CBg) "__getattr__" = some none)
    (nBg : PySem.W.findIn K (.ref CBg) "what" = some none)
    (iBg : PySem.W.findIn K (.ref CBg) "__init__" = some (some (.ref fE)))
    (kBg : PySem.W.keepIn K (.ref CBg) = true)
    (eBg : PySem.W.subIn K (.ref CBg) (.type "BaseException") = some true)
    (tBg : PySem.W.typeIn K (.ref CBg) = some (.type "type"))
    (hBg : PySem.W.hasDictIn K CBg = true)
    (cBg : PySem.W.isClsIn K CBg = true)
    (ssBg : PySem.W.subIn K (.ref CBg) (.ref CBg) = some true)
    (no_Bg_Bl : PySem.W.subIn K (.ref CBg) (.ref CBl) = some false)
    (a_d0 : PySem.W.nsIn K mainGlobals "is_integer" = some (some (.ref f_d0)))
    (l_d0 : K.lookup f_d0 = some ⟨oc_d0, od_d0, .func (PySem.W.fnOf "is_integer" "is_integer" (defArgs s_is_integer) (defBody s_is_integer) (defScope s_is_integer) .none kV_d0 dc_d0 pm_d0 an_d0 cd_d0 ct_d0), sl_d0⟩)
    (c_d0 : PySem.W.codeIn K cd_d0 "is_integer" = true)
    (k_d0 : PySem.W.keepIn K (.ref f_d0) = true)
    (a_d1 : PySem.W.nsIn K mainGlobals "is_index" = some (some (.ref f_d1)))
    (l_d1 : K.lookup f_d1 = some ⟨oc_d1, od_d1, .func (PySem.W.fnOf "is_index" "is_index" (defArgs s_is_index) (defBody s_is_index) (defScope s_is_index) .none kV_d1 dc_d1 pm_d1 an_d1 cd_d1 ct_d1), sl_d1⟩)
    (c_d1 : PySem.W.codeIn K cd_d1 "is_index" = true)
    (k_d1 : PySem.W.keepIn K (.ref f_d1) = true)
    (a_d2 : PySem.W.nsIn K mainGlobals "is_ascending" = some (some (.ref f_d2)))
    (l_d2 : K.lookup f_d2 = some ⟨oc_d2, od_d2, .func (PySem.W.fnOf "is_ascending" "is_ascending" (defArgs s_is_ascending) (defBody s_is_ascending) (defScope s_is_ascending) .none kV_d2 dc_d2 pm_d2 an_d2 cd_d2 ct_d2), sl_d2⟩)
    (c_d2 : PySem.W.codeIn K cd_d2 "is_ascending" = true)
    (k_d2 : PySem.W.keepIn K (.ref f_d2) = true)
    (a_d3 : PySem.W.nsIn K mainGlobals "check_count" = some (some (.ref f_d3)))
    (l_d3 : K.lookup f_d3 = some ⟨oc_d3, od_d3, .func (PySem.W.fnOf "check_count" "check_count" (defArgs s_check_count) (defBody s_check_count) (defScope s_check_count) .none kV_d3 dc_d3 pm_d3 an_d3 cd_d3 ct_d3), sl_d3⟩)
    (c_d3 : PySem.W.codeIn K cd_d3 "check_count" = true)
    (k_d3 : PySem.W.keepIn K (.ref f_d3) = true)
    (a_d4 : PySem.W.nsIn K mainGlobals "without_item" = some (some (.ref f_d4)))
    (l_d4 : K.lookup f_d4 = some ⟨oc_d4, od_d4, .func (PySem.W.fnOf "without_item" "without_item" (defArgs s_without_item) (defBody s_without_item) (defScope s_without_item) .none kV_d4 dc_d4 pm_d4 an_d4 cd_d4 ct_d4), sl_d4⟩)
    (c_d4 : PySem.W.codeIn K cd_d4 "without_item" = true)
    (k_d4 : PySem.W.keepIn K (.ref f_d4) = true)
    (a_d5 : PySem.W.findIn K (.ref C) "_lots" = some (some (.ref f_d5)))
    (i_d5 : PySem.W.isFn K (.ref f_d5) = true)
    (l_d5 : K.lookup f_d5 = some ⟨oc_d5, od_d5, .func (PySem.W.fnOf "_lots" "LabelWorld._lots" (defArgs s__lots) (defBody s__lots) (defScope s__lots) .none kV_d5 dc_d5 pm_d5 an_d5 cd_d5 ct_d5), sl_d5⟩)
    (c_d5 : PySem.W.codeIn K cd_d5 "LabelWorld._lots" = true)
    (k_d5 : PySem.W.keepIn K (.ref f_d5) = true)
    (a_d6 : PySem.W.findIn K (.ref C) "_is_lot" = some (some (.ref f_d6)))
    (i_d6 : PySem.W.isFn K (.ref f_d6) = true)
    (l_d6 : K.lookup f_d6 = some ⟨oc_d6, od_d6, .func (PySem.W.fnOf "_is_lot" "LabelWorld._is_lot" (defArgs s__is_lot) (defBody s__is_lot) (defScope s__is_lot) .none kV_d6 dc_d6 pm_d6 an_d6 cd_d6 ct_d6), sl_d6⟩)
    (c_d6 : PySem.W.codeIn K cd_d6 "LabelWorld._is_lot" = true)
    (k_d6 : PySem.W.keepIn K (.ref f_d6) = true)
    (a_d7 : PySem.W.findIn K (.ref C) "_check_lot" = some (some (.ref f_d7)))
    (i_d7 : PySem.W.isFn K (.ref f_d7) = true)
    (l_d7 : K.lookup f_d7 = some ⟨oc_d7, od_d7, .func (PySem.W.fnOf "_check_lot" "LabelWorld._check_lot" (defArgs s__check_lot) (defBody s__check_lot) (defScope s__check_lot) .none kV_d7 dc_d7 pm_d7 an_d7 cd_d7 ct_d7), sl_d7⟩)
    (c_d7 : PySem.W.codeIn K cd_d7 "LabelWorld._check_lot" = true)
    (k_d7 : PySem.W.keepIn K (.ref f_d7) = true)
    (a_d8 : PySem.W.findIn K (.ref C) "gaps" = some (some (.ref f_d8)))
    (i_d8 : PySem.W.isFn K (.ref f_d8) = true)
    (l_d8 : K.lookup f_d8 = some ⟨oc_d8, od_d8, .func (PySem.W.fnOf "gaps" "LabelWorld.gaps" (defArgs s_gaps) (defBody s_gaps) (defScope s_gaps) .none kV_d8 dc_d8 pm_d8 an_d8 cd_d8 ct_d8), sl_d8⟩)
    (c_d8 : PySem.W.codeIn K cd_d8 "LabelWorld.gaps" = true)
    (k_d8 : PySem.W.keepIn K (.ref f_d8) = true)
    (a_d9 : PySem.W.findIn K (.ref C) "nexts" = some (some (.ref f_d9)))
    (i_d9 : PySem.W.isFn K (.ref f_d9) = true)
    (l_d9 : K.lookup f_d9 = some ⟨oc_d9, od_d9, .func (PySem.W.fnOf "nexts" "LabelWorld.nexts" (defArgs s_nexts) (defBody s_nexts) (defScope s_nexts) .none kV_d9 dc_d9 pm_d9 an_d9 cd_d9 ct_d9), sl_d9⟩)
    (c_d9 : PySem.W.codeIn K cd_d9 "LabelWorld.nexts" = true)
    (k_d9 : PySem.W.keepIn K (.ref f_d9) = true)
    (a_d10 : PySem.W.findIn K (.ref C) "moved" = some (some (.ref f_d10)))
    (i_d10 : PySem.W.isFn K (.ref f_d10) = true)
    (l_d10 : K.lookup f_d10 = some ⟨oc_d10, od_d10, .func (PySem.W.fnOf "moved" "LabelWorld.moved" (defArgs s_moved) (defBody s_moved) (defScope s_moved) .none kV_d10 dc_d10 pm_d10 an_d10 cd_d10 ct_d10), sl_d10⟩)
    (c_d10 : PySem.W.codeIn K cd_d10 "LabelWorld.moved" = true)
    (k_d10 : PySem.W.keepIn K (.ref f_d10) = true)
    (a_d11 : PySem.W.nsIn K mainGlobals "_law_mixed" = some (some (.ref f_d11)))
    (l_d11 : K.lookup f_d11 = some ⟨oc_d11, od_d11, .func (PySem.W.fnOf "_law_mixed" "_law_mixed" (defArgs s__law_mixed) (defBody s__law_mixed) (defScope s__law_mixed) .none kV_d11 dc_d11 pm_d11 an_d11 cd_d11 ct_d11), sl_d11⟩)
    (c_d11 : PySem.W.codeIn K cd_d11 "_law_mixed" = true)
    (k_d11 : PySem.W.keepIn K (.ref f_d11) = true)
    (a_d12 : PySem.W.nsIn K mainGlobals "_law_draw" = some (some (.ref f_d12)))
    (l_d12 : K.lookup f_d12 = some ⟨oc_d12, od_d12, .func (PySem.W.fnOf "_law_draw" "_law_draw" (defArgs s__law_draw) (defBody s__law_draw) (defScope s__law_draw) .none kV_d12 dc_d12 pm_d12 an_d12 cd_d12 ct_d12), sl_d12⟩)
    (c_d12 : PySem.W.codeIn K cd_d12 "_law_draw" = true)
    (k_d12 : PySem.W.keepIn K (.ref f_d12) = true)
    (a_d13 : PySem.W.nsIn K mainGlobals "_law_stream" = some (some (.ref f_d13)))
    (l_d13 : K.lookup f_d13 = some ⟨oc_d13, od_d13, .func (PySem.W.fnOf "_law_stream" "_law_stream" (defArgs s__law_stream) (defBody s__law_stream) (defScope s__law_stream) .none kV_d13 dc_d13 pm_d13 an_d13 cd_d13 ct_d13), sl_d13⟩)
    (c_d13 : PySem.W.codeIn K cd_d13 "_law_stream" = true)
    (k_d13 : PySem.W.keepIn K (.ref f_d13) = true)
    (a_d14 : PySem.W.nsIn K mainGlobals "_law_odd" = some (some (.ref f_d14)))
    (l_d14 : K.lookup f_d14 = some ⟨oc_d14, od_d14, .func (PySem.W.fnOf "_law_odd" "_law_odd" (defArgs s__law_odd) (defBody s__law_odd) (defScope s__law_odd) .none kV_d14 dc_d14 pm_d14 an_d14 cd_d14 ct_d14), sl_d14⟩)
    (c_d14 : PySem.W.codeIn K cd_d14 "_law_odd" = true)
    (k_d14 : PySem.W.keepIn K (.ref f_d14) = true)
    (a_d15 : PySem.W.nsIn K mainGlobals "_law_int" = some (some (.ref f_d15)))
    (l_d15 : K.lookup f_d15 = some ⟨oc_d15, od_d15, .func (PySem.W.fnOf "_law_int" "_law_int" (defArgs s__law_int) (defBody s__law_int) (defScope s__law_int) .none kV_d15 dc_d15 pm_d15 an_d15 cd_d15 ct_d15), sl_d15⟩)
    (c_d15 : PySem.W.codeIn K cd_d15 "_law_int" = true)
    (k_d15 : PySem.W.keepIn K (.ref f_d15) = true)
    (a_d16 : PySem.W.nsIn K mainGlobals "_law_ascending" = some (some (.ref f_d16)))
    (l_d16 : K.lookup f_d16 = some ⟨oc_d16, od_d16, .func (PySem.W.fnOf "_law_ascending" "_law_ascending" (defArgs s__law_ascending) (defBody s__law_ascending) (defScope s__law_ascending) .none kV_d16 dc_d16 pm_d16 an_d16 cd_d16 ct_d16), sl_d16⟩)
    (c_d16 : PySem.W.codeIn K cd_d16 "_law_ascending" = true)
    (k_d16 : PySem.W.keepIn K (.ref f_d16) = true)
    (a_d17 : PySem.W.nsIn K mainGlobals "_law_service" = some (some (.ref f_d17)))
    (l_d17 : K.lookup f_d17 = some ⟨oc_d17, od_d17, .func (PySem.W.fnOf "_law_service" "_law_service" (defArgs s__law_service) (defBody s__law_service) (defScope s__law_service) .none kV_d17 dc_d17 pm_d17 an_d17 cd_d17 ct_d17), sl_d17⟩)
    (c_d17 : PySem.W.codeIn K cd_d17 "_law_service" = true)
    (k_d17 : PySem.W.keepIn K (.ref f_d17) = true)
    (a_d18 : PySem.W.nsIn K mainGlobals "_law_rows" = some (some (.ref f_d18)))
    (l_d18 : K.lookup f_d18 = some ⟨oc_d18, od_d18, .func (PySem.W.fnOf "_law_rows" "_law_rows" (defArgs s__law_rows) (defBody s__law_rows) (defScope s__law_rows) .none kV_d18 dc_d18 pm_d18 an_d18 (.ref cc) ct_d18), sl_d18⟩)
    (c_d18 : PySem.W.codeIn K (.ref cc) "_law_rows" = true)
    (k_d18 : PySem.W.keepIn K (.ref f_d18) = true)
    (a_d19 : PySem.W.nsIn K mainGlobals "_law_price" = some (some (.ref f_d19)))
    (l_d19 : K.lookup f_d19 = some ⟨oc_d19, od_d19, .func (PySem.W.fnOf "_law_price" "_law_price" (defArgs s__law_price) (defBody s__law_price) (defScope s__law_price) .none kV_d19 dc_d19 pm_d19 an_d19 cd_d19 ct_d19), sl_d19⟩)
    (c_d19 : PySem.W.codeIn K cd_d19 "_law_price" = true)
    (k_d19 : PySem.W.keepIn K (.ref f_d19) = true)
    (a_d20 : PySem.W.nsIn K mainGlobals "_law_is_row" = some (some (.ref f_d20)))
    (l_d20 : K.lookup f_d20 = some ⟨oc_d20, od_d20, .func (PySem.W.fnOf "_law_is_row" "_law_is_row" (defArgs s__law_is_row) (defBody s__law_is_row) (defScope s__law_is_row) .none kV_d20 dc_d20 pm_d20 an_d20 cd_d20 ct_d20), sl_d20⟩)
    (c_d20 : PySem.W.codeIn K cd_d20 "_law_is_row" = true)
    (k_d20 : PySem.W.keepIn K (.ref f_d20) = true)
    (a_d21 : PySem.W.nsIn K mainGlobals "_law_told" = some (some (.ref f_d21)))
    (l_d21 : K.lookup f_d21 = some ⟨oc_d21, od_d21, .func (PySem.W.fnOf "_law_told" "_law_told" (defArgs s__law_told) (defBody s__law_told) (defScope s__law_told) .none kV_d21 dc_d21 pm_d21 an_d21 cd_d21 ct_d21), sl_d21⟩)
    (c_d21 : PySem.W.codeIn K cd_d21 "_law_told" = true)
    (k_d21 : PySem.W.keepIn K (.ref f_d21) = true)
    (a_d22 : PySem.W.nsIn K mainGlobals "_law_due" = some (some (.ref f_d22)))
    (l_d22 : K.lookup f_d22 = some ⟨oc_d22, od_d22, .func (PySem.W.fnOf "_law_due" "_law_due" (defArgs s__law_due) (defBody s__law_due) (defScope s__law_due) .none kV_d22 dc_d22 pm_d22 an_d22 cd_d22 ct_d22), sl_d22⟩)
    (c_d22 : PySem.W.codeIn K cd_d22 "_law_due" = true)
    (k_d22 : PySem.W.keepIn K (.ref f_d22) = true)
    (a_d23 : PySem.W.nsIn K mainGlobals "law" = some (some (.ref f_d23)))
    (l_d23 : K.lookup f_d23 = some ⟨oc_d23, od_d23, .func (PySem.W.fnOf "law" "law" (defArgs s_law) (defBody s_law) (defScope s_law) .none kV_d23 dc_d23 pm_d23 an_d23 cd_d23 ct_d23), sl_d23⟩)
    (c_d23 : PySem.W.codeIn K cd_d23 "law" = true)
    (k_d23 : PySem.W.keepIn K (.ref f_d23) = true)
    (lcc : K.lookup cc = some oC)
    (dcc : oC.data = .fields vsC)
    (pcc : vsC[11]? = some (.ref PS))
    (nPS : K.lookup PS = none)
    (hcd : PySem.W.CodeHd h cc PS ∧ h.get? PS = some { cls := .none, data := .fields #[] }) :
    ∃ (fd : FuncData) (cs : List (Addr × Addr)) (sp : Sp), (∀ p ∈ cs, h.get? p.2 = some { cls := .none, data := .fields #[] }) ∧ (∀ p ∈ cs, K.lookup p.2 = none) ∧ (∀ p ∈ cs, PySem.W.CodeHd h p.1 p.2) ∧
      (∀ (s : Shared) (v : Value), BindsTo s fd ⟨[v], []⟩ [("script", v)]) ∧
      (∀ (H : Hp) (a : Addr) (ns : List Int), ns.length ≤ 63 → (∀ p ∈ cs, p.2 ≠ a ∧ p.2 ≠ sysModules ∧ H p.2 = some (.tbl #[])) → Sys K H → SqL K H a (ns.map V.int) → sp [.ref a] H (fun v _ => v = .bl true) fun _ _ _ => False) ∧
      ∀ base : Heap, K.In base → base.Ns mainGlobals mg → (∀ p ∈ cs, LamX.TabB base mg p.1 p.2) → FnG P w K mg base CX0 12 fa fd ["script"] sp := by
  have e := hfa.symm.trans (PySem.W.mg_of X G a_d23)
  cases e
  letI : Tb := ⟨fun a => a = PS, fun _ => ("_law_rows.<locals>.<lambda>" : Str), w⟩
  have B : Bly mg := ⟨PySem.W.mg_none_of X G z_len, PySem.W.mg_none_of X G z_int, PySem.W.mg_none_of X G z_bool, PySem.W.mg_none_of X G z_str, PySem.W.mg_none_of X G z_tuple, PySem.W.mg_none_of X G z_list, PySem.W.mg_none_of X G z_abs, PySem.W.mg_none_of X G z_isinstance, PySem.W.mg_none_of X G z_range, PySem.W.mg_none_of X G z_zip, PySem.W.mg_none_of X G z_enumerate, PySem.W.mg_none_of X G z_all, PySem.W.mg_none_of X G z_sorted⟩
  have T : Blt mg := ⟨PySem.W.mg_none_of X G z_len, PySem.W.mg_none_of X G z_int, PySem.W.mg_none_of X G z_bool, PySem.W.mg_none_of X G z_abs, PySem.W.mg_none_of X G z_isinstance, PySem.W.mg_none_of X G z_repr, PySem.W.mg_none_of X G z_range⟩
  have Bset : mg "set" = none := PySem.W.mg_none_of X G z_set
  have G_MOST_THINGS : Gv mg "MOST_THINGS" (.int 4) := ⟨_, PySem.W.mg_of X G g_MOST_THINGS, _, rfl⟩
  have G_MOST_LABELS : Gv mg "MOST_LABELS" (.int 7) := ⟨_, PySem.W.mg_of X G g_MOST_LABELS, _, rfl⟩
  have m_combinations : mg "combinations" = some (.type "itertools.combinations") := PySem.W.mg_of X G y_combinations
  have FI := fun_mk (st := s___init__) lI cI kI
  have bI := FI.binds (ps := ["self", "things", "labels"]) fun _ _ _ _ _ _ us hl => match us, hl with | [_, _, _], _ => rfl
  have W : TLo K mg C fI _ := ⟨⟨pg, hd, po, sa⟩, n1, n2, ⟨mk, aI, iI, kc⟩, PySem.W.mg_of X G aC, FI, bI⟩
  have FE := funD_mk (st := sExI) (dvs := [.non]) lE cE kE tlE tdE (.cons rfl .nil) (by simp)
  obtain ⟨dsE, rE, bE⟩ := FE.binds1 (ps := ["self", "what"]) 2 1 (by simp) rfl
    (fun T kV doc pm an cdv ct us its h1 h2 => match us, its, h1, h2 with | [_, _], [_], _, _ => ⟨_, rfl, rfl⟩)
  cases rE
  have xBl : ExC K mg "BadLot" CBl fE := exC_mk (PySem.W.mg_of X G aBl) xLBl rVBl sBl gBl ggBl nBl iBl tE kBl eBl tBl hBl cBl ssBl
  have xBg : ExC K mg "BadGap" CBg fE := exC_mk (PySem.W.mg_of X G aBg) xLBg rVBg sBg gBg ggBg nBg iBg tE kBg eBg tBg hBg cBg ssBg
  have x_Bg_Bl : PySem.W.exmOne K (.ref CBg) (.ref CBl) = some false := exm_of eBl cBl tBl no_Bg_Bl
  have Brepr : mg "repr" = none := PySem.W.mg_none_of X G z_repr
  have WE : TLe K mg C fI fE _ _ := ⟨W, FE, bE⟩
  have F_d0 := fun_mk (st := s_is_integer) l_d0 c_d0 k_d0
  have N_d0 : Fn K mg "is_integer" s_is_integer ["value"] _ _ := ⟨F_d0, PySem.W.mg_of X G a_d0, F_d0.binds (ps := ["value"]) fun _ _ _ _ _ _ us hl => match us, hl with | [_], _ => rfl⟩
  have F_d1 := fun_mk (st := s_is_index) l_d1 c_d1 k_d1
  have N_d1 : Fn K mg "is_index" s_is_index ["value", "size"] _ _ := ⟨F_d1, PySem.W.mg_of X G a_d1, F_d1.binds (ps := ["value", "size"]) fun _ _ _ _ _ _ us hl => match us, hl with | [_, _], _ => rfl⟩
  have F_d2 := fun_mk (st := s_is_ascending) l_d2 c_d2 k_d2
  have N_d2 : Fn K mg "is_ascending" s_is_ascending ["items"] _ _ := ⟨F_d2, PySem.W.mg_of X G a_d2, F_d2.binds (ps := ["items"]) fun _ _ _ _ _ _ us hl => match us, hl with | [_], _ => rfl⟩
  have F_d3 := fun_mk (st := s_check_count) l_d3 c_d3 k_d3
  have N_d3 : Fn K mg "check_count" s_check_count ["value", "least", "most"] _ _ := ⟨F_d3, PySem.W.mg_of X G a_d3, F_d3.binds (ps := ["value", "least", "most"]) fun _ _ _ _ _ _ us hl => match us, hl with | [_, _, _], _ => rfl⟩
  have F_d4 := fun_mk (st := s_without_item) l_d4 c_d4 k_d4
  have N_d4 : Fn K mg "without_item" s_without_item ["items", "at"] _ _ := ⟨F_d4, PySem.W.mg_of X G a_d4, F_d4.binds (ps := ["items", "at"]) fun _ _ _ _ _ _ us hl => match us, hl with | [_, _], _ => rfl⟩
  have F_d5 := fun_mk (st := s__lots) l_d5 c_d5 k_d5
  have N_d5 : Mn K C "_lots" "LabelWorld._lots" s__lots ["self", "many"] _ _ := ⟨F_d5, ⟨a_d5, i_d5, k_d5⟩, F_d5.binds (ps := ["self", "many"]) fun _ _ _ _ _ _ us hl => match us, hl with | [_, _], _ => rfl⟩
  have F_d6 := fun_mk (st := s__is_lot) l_d6 c_d6 k_d6
  have N_d6 : Mn K C "_is_lot" "LabelWorld._is_lot" s__is_lot ["self", "value"] _ _ := ⟨F_d6, ⟨a_d6, i_d6, k_d6⟩, F_d6.binds (ps := ["self", "value"]) fun _ _ _ _ _ _ us hl => match us, hl with | [_, _], _ => rfl⟩
  have F_d7 := fun_mk (st := s__check_lot) l_d7 c_d7 k_d7
  have N_d7 : Mn K C "_check_lot" "LabelWorld._check_lot" s__check_lot ["self", "value"] _ _ := ⟨F_d7, ⟨a_d7, i_d7, k_d7⟩, F_d7.binds (ps := ["self", "value"]) fun _ _ _ _ _ _ us hl => match us, hl with | [_, _], _ => rfl⟩
  have F_d8 := fun_mk (st := s_gaps) l_d8 c_d8 k_d8
  have N_d8 : Mn K C "gaps" "LabelWorld.gaps" s_gaps ["self", "standing"] _ _ := ⟨F_d8, ⟨a_d8, i_d8, k_d8⟩, F_d8.binds (ps := ["self", "standing"]) fun _ _ _ _ _ _ us hl => match us, hl with | [_, _], _ => rfl⟩
  have F_d9 := fun_mk (st := s_nexts) l_d9 c_d9 k_d9
  have N_d9 : Mn K C "nexts" "LabelWorld.nexts" s_nexts ["self", "standing", "gap"] _ _ := ⟨F_d9, ⟨a_d9, i_d9, k_d9⟩, F_d9.binds (ps := ["self", "standing", "gap"]) fun _ _ _ _ _ _ us hl => match us, hl with | [_, _, _], _ => rfl⟩
  have F_d10 := fun_mk (st := s_moved) l_d10 c_d10 k_d10
  have N_d10 : Mn K C "moved" "LabelWorld.moved" s_moved ["self", "standing", "gap", "goal"] _ _ := ⟨F_d10, ⟨a_d10, i_d10, k_d10⟩, F_d10.binds (ps := ["self", "standing", "gap", "goal"]) fun _ _ _ _ _ _ us hl => match us, hl with | [_, _, _, _], _ => rfl⟩
  have F_d11 := fun_mk (st := s__law_mixed) l_d11 c_d11 k_d11
  have N_d11 : Fn K mg "_law_mixed" s__law_mixed ["number", "step"] _ _ := ⟨F_d11, PySem.W.mg_of X G a_d11, F_d11.binds (ps := ["number", "step"]) fun _ _ _ _ _ _ us hl => match us, hl with | [_, _], _ => rfl⟩
  have F_d12 := fun_mk (st := s__law_draw) l_d12 c_d12 k_d12
  have N_d12 : Fn K mg "_law_draw" s__law_draw ["stream", "many"] _ _ := ⟨F_d12, PySem.W.mg_of X G a_d12, F_d12.binds (ps := ["stream", "many"]) fun _ _ _ _ _ _ us hl => match us, hl with | [_, _], _ => rfl⟩
  have F_d13 := fun_mk (st := s__law_stream) l_d13 c_d13 k_d13
  have N_d13 : Fn K mg "_law_stream" s__law_stream ["script"] _ _ := ⟨F_d13, PySem.W.mg_of X G a_d13, F_d13.binds (ps := ["script"]) fun _ _ _ _ _ _ us hl => match us, hl with | [_], _ => rfl⟩
  have F_d14 := fun_mk (st := s__law_odd) l_d14 c_d14 k_d14
  have N_d14 : Fn K mg "_law_odd" s__law_odd ["stream"] _ _ := ⟨F_d14, PySem.W.mg_of X G a_d14, F_d14.binds (ps := ["stream"]) fun _ _ _ _ _ _ us hl => match us, hl with | [_], _ => rfl⟩
  have F_d15 := fun_mk (st := s__law_int) l_d15 c_d15 k_d15
  have N_d15 : Fn K mg "_law_int" s__law_int ["value"] _ _ := ⟨F_d15, PySem.W.mg_of X G a_d15, F_d15.binds (ps := ["value"]) fun _ _ _ _ _ _ us hl => match us, hl with | [_], _ => rfl⟩
  have F_d16 := fun_mk (st := s__law_ascending) l_d16 c_d16 k_d16
  have N_d16 : Fn K mg "_law_ascending" s__law_ascending ["value", "limit"] _ _ := ⟨F_d16, PySem.W.mg_of X G a_d16, F_d16.binds (ps := ["value", "limit"]) fun _ _ _ _ _ _ us hl => match us, hl with | [_, _], _ => rfl⟩
  have F_d17 := fun_mk (st := s__law_service) l_d17 c_d17 k_d17
  have N_d17 : Fn K mg "_law_service" s__law_service ["stream"] _ _ := ⟨F_d17, PySem.W.mg_of X G a_d17, F_d17.binds (ps := ["stream"]) fun _ _ _ _ _ _ us hl => match us, hl with | [_], _ => rfl⟩
  have F_d18 := fun_mk (st := s__law_rows) l_d18 c_d18 k_d18
  have N_d18 : FnC K mg "_law_rows" s__law_rows ["things", "labels"] _ _ cc := ⟨⟨_, _, _, _, _, _, _, _, rfl, l_d18, c_d18⟩, k_d18, PySem.W.mg_of X G a_d18, F_d18.binds (ps := ["things", "labels"]) fun _ _ _ _ _ _ us hl => match us, hl with | [_, _], _ => rfl⟩
  have F_d19 := fun_mk (st := s__law_price) l_d19 c_d19 k_d19
  have N_d19 : Fn K mg "_law_price" s__law_price ["row", "gap", "goal"] _ _ := ⟨F_d19, PySem.W.mg_of X G a_d19, F_d19.binds (ps := ["row", "gap", "goal"]) fun _ _ _ _ _ _ us hl => match us, hl with | [_, _, _], _ => rfl⟩
  have F_d20 := fun_mk (st := s__law_is_row) l_d20 c_d20 k_d20
  have N_d20 : Fn K mg "_law_is_row" s__law_is_row ["value", "things", "labels"] _ _ := ⟨F_d20, PySem.W.mg_of X G a_d20, F_d20.binds (ps := ["value", "things", "labels"]) fun _ _ _ _ _ _ us hl => match us, hl with | [_, _, _], _ => rfl⟩
  have F_d21 := fun_mk (st := s__law_told) l_d21 c_d21 k_d21
  have N_d21 : Fn K mg "_law_told" s__law_told ["service", "row", "gap", "goal", "word"] _ _ := ⟨F_d21, PySem.W.mg_of X G a_d21, F_d21.binds (ps := ["service", "row", "gap", "goal", "word"]) fun _ _ _ _ _ _ us hl => match us, hl with | [_, _, _, _, _], _ => rfl⟩
  have F_d22 := fun_mk (st := s__law_due) l_d22 c_d22 k_d22
  have N_d22 : Fn K mg "_law_due" s__law_due ["service", "row", "gap", "goal", "word", "rows"] _ _ := ⟨F_d22, PySem.W.mg_of X G a_d22, F_d22.binds (ps := ["service", "row", "gap", "goal", "word", "rows"]) fun _ _ _ _ _ _ us hl => match us, hl with | [_, _, _, _, _, _], _ => rfl⟩
  have F_d23 := fun_mk (st := s_law) l_d23 c_d23 k_d23
  refine ⟨PySem.W.fnOf "law" "law" (defArgs s_law) (defBody s_law) (defScope s_law) .none kV_d23 dc_d23 pm_d23 an_d23 cd_d23 ct_d23, [(cc, PS)], spLawTS K, fun p hp => by rw [List.mem_singleton] at hp; subst hp; exact hcd.2, fun p hp => by rw [List.mem_singleton] at hp; subst hp; exact nPS, fun p hp => by rw [List.mem_singleton] at hp; subst hp; exact hcd.1, fun s v => .of_eq rfl, fun H a ns hl hH hq hS => ⟨a, ns, rfl, hl, fun b hb => by rw [show b = PS from hb]; exact hH (cc, PS) (List.mem_singleton.mpr rfl), hq, hS, fun _ => rfl⟩, fun base _ _ hTB => ?_⟩
  have TB : LamX.TabB base mg cc PS := hTB (cc, PS) (List.mem_singleton.mpr rfl)
  have D_is_integer := d_is_integer (P := P) (w := w) (base := base) B N_d0
  have D_is_index := d_is_index (P := P) (w := w) (base := base) B N_d1 D_is_integer
  have D_is_ascending := d_is_ascending (P := P) (w := w) (base := base) B N_d2
  have D_check_count := d_countL (P := P) (w := w) (base := base) B N_d3 D_is_integer
  have GI := ok_lI (P := P) (w := w) (base := base) B W G_MOST_THINGS G_MOST_LABELS D_check_count
  have D_without_item := d_without (P := P) (w := w) (base := base) B N_d4
  have XM__lots := d_lots (P := P) (w := w) (base := base) B W m_combinations N_d5
  have M__lots := XM__lots.dm
  have XM__is_lot := d_is_lot (P := P) (w := w) (base := base) B W N_d6 D_is_index D_is_ascending
  have M__is_lot := XM__is_lot.dm
  have XM__check_lot := d_checkLX (P := P) (w := w) (base := base) B WE xBl N_d7 M__is_lot
  have M__check_lot := XM__check_lot.dm
  have XM_gaps := d_gapsX (P := P) (w := w) (base := base) B WE N_d8 M__check_lot
  have M_gaps := XM_gaps.dm
  have XM_nexts := d_nextsX (P := P) (w := w) (base := base) B WE xBg N_d9 D_is_index M_gaps M__lots
  have M_nexts := XM_nexts.dm
  have XM_moved := d_movedX (P := P) (w := w) (base := base) B WE xBl N_d10 D_without_item M_nexts M__is_lot
  have M_moved := XM_moved.dm
  have MK_nexts := XM_nexts.kwn (fun_kbi (ps := _) (ks := ["gap", "standing"]) (n := 1) [1, 0] F_d9 (fun _ _ _ _ _ _ us ws h1 h2 => match us, ws, h1, h2 with | [_], [_, _], _, _ => rfl))
  have MK_moved := XM_moved.kwn (fun_kbi (ps := _) (ks := ["goal", "gap", "standing"]) (n := 1) [2, 1, 0] F_d10 (fun _ _ _ _ _ _ us ws h1 h2 => match us, ws, h1, h2 with | [_], [_, _, _], _, _ => rfl))
  have D__law_mixed := d_mixed (P := P) (w := w) (base := base) B N_d11
  have D__law_draw := d_draw (P := P) (w := w) (base := base) B N_d12 D__law_mixed
  have D__law_stream := d_stream (P := P) (w := w) (base := base) B N_d13
  have D__law_odd := d_odd (P := P) (w := w) (base := base) B N_d14 D__law_draw
  have D__law_int := d_lint (P := P) (w := w) (base := base) B N_d15
  have D__law_ascending := d_asc (P := P) (w := w) (base := base) B Bset N_d16 D__law_int
  have D__law_service := d_service (P := P) (w := w) (base := base) B W GI N_d17 D__law_draw
  have D__law_rows := d_rowsL (P := P) (w := w) (base := base) B N_d18 TB rfl rfl
  have D__law_price := d_price (P := P) (w := w) (base := base) B N_d19
  have D__law_is_row := d_isrowL (P := P) (w := w) (base := base) B N_d20 D__law_ascending
  have D__law_told := d_tellL (P := P) (w := w) (base := base) B WE xBl xBg x_Bg_Bl N_d21 MK_nexts MK_moved
  have D__law_due := d_dueL (P := P) (w := w) (base := base) B W N_d22 D__law_int D__law_is_row D__law_price
  exact ok_law B Brepr W F_d23 D__law_stream D__law_draw D__law_service D__law_odd D__law_rows D__law_told D__law_due
theorem walk {l : PySem.W.OpenLaw} {q : Program} {loose : List Str} {XP : (Str → Option Value) → Heap → Prop} {YP : World → Heap → Prop} {d : DefRec} {K : Params → PySem.W.Frag}
    (hn : l.most = some 63) (hdf : d.params.defaults = []) (him : importsNone q = true) (hY : ∀ (w : World) (h : Heap), YP w h → (K w.params).In h)
    (F : ∀ (w : World) (mg : Str → Option Value) (fa : Addr) (h : Heap), YP w h →
      (K w.params).In h → h.Ns mainGlobals mg → mg d.name = some (.ref fa) →
      ∃ (fd : FuncData) (cs : List (Addr × Addr)) (sp : Sp), (∀ p ∈ cs, h.get? p.2 = some { cls := .none, data := .fields #[] }) ∧ (∀ p ∈ cs, (K w.params).lookup p.2 = none) ∧ (∀ p ∈ cs, PySem.W.CodeHd h p.1 p.2) ∧
        (∀ (s : Shared) (u : Value), BindsTo s fd ⟨[u], []⟩ [("script", u)]) ∧
        (∀ (H : Hp) (a : Addr) (ns : List Int), ns.length ≤ 63 → (∀ p ∈ cs, p.2 ≠ a ∧ p.2 ≠ sysModules ∧ H p.2 = some (.tbl #[])) → Sys (K w.params) H → SqL (K w.params) H a (ns.map V.int) → sp [.ref a] H (fun v _ => v = .bl true) fun _ _ _ => False) ∧
        ∀ base : Heap, (K w.params).In base → base.Ns mainGlobals mg → (∀ p ∈ cs, LamX.TabB base mg p.1 p.2) → FnG l.prog w (K w.params) mg base CX0 12 fa fd ["script"] sp) :
    PySem.W.WalkO q loose XP YP l.row.toRowW d [] (fun f vs => PySem.call f vs) :=
  law_walkTS (n := 63) (k := 12) (x := "script") hn (by decide) hdf ⟨rfl, by decide, by decide⟩ him hY F
end Nv
open PySem PySem.W PyProof.Rows
set_option maxRecDepth 100000 in
set_option maxHeartbeats 0 in
theorem PySem.Challenge.cw_neverowing_k51_relabelled_things_holds : PySem.Challenge.rw_neverowing_k51_relabelled_things.Holds := by
  w_on; o_law; k_head; (case hw => w_witness2)
  k_fill
  refine Nv.walk (l := PySem.Challenge.rw_neverowing_k51_relabelled_things) rfl rfl (by decide +kernel) (fun w h Y => PySem.W.km_in_of Y) ?F
  case F =>
    intro w mg fa h Y KX G hmg
    refine' Nv.all_mk KX G hmg ?z_len ?z_int ?z_bool ?z_str ?z_tuple ?z_list ?z_abs ?z_isinstance ?z_range ?z_zip ?z_enumerate ?z_all ?z_sorted ?z_repr ?z_set ?g_MOST_THINGS ?g_MOST_LABELS ?y_combinations ?aC ?aI ?iI ?lI ?cI ?kI ?pg ?hd ?po ?sa ?mk ?kc ?n1 ?n2 ?aBl ?aBg ?iB ?tE ?lE ?cE ?kE ?tlE ?tdE ?xLBl ?rVBl ?sBl ?gBl ?ggBl ?nBl ?iBl ?kBl ?eBl ?tBl ?hBl ?cBl ?ssBl ?xLBg ?rVBg ?sBg ?gBg ?ggBg ?nBg ?iBg ?kBg ?eBg ?tBg ?hBg ?cBg ?ssBg ?no_Bg_Bl ?a_d0 ?l_d0 ?c_d0 ?k_d0 ?a_d1 ?l_d1 ?c_d1 ?k_d1 ?a_d2 ?l_d2 ?c_d2 ?k_d2 ?a_d3 ?l_d3 ?c_d3 ?k_d3 ?a_d4 ?l_d4 ?c_d4 ?k_d4 ?a_d5 ?i_d5 ?l_d5 ?c_d5 ?k_d5 ?a_d6 ?i_d6 ?l_d6 ?c_d6 ?k_d6 ?a_d7 ?i_d7 ?l_d7 ?c_d7 ?k_d7 ?a_d8 ?i_d8 ?l_d8 ?c_d8 ?k_d8 ?a_d9 ?i_d9 ?l_d9 ?c_d9 ?k_d9 ?a_d10 ?i_d10 ?l_d10 ?c_d10 ?k_d10 ?a_d11 ?l_d11 ?c_d11 ?k_d11 ?a_d12 ?l_d12 ?c_d12 ?k_d12 ?a_d13 ?l_d13 ?c_d13 ?k_d13 ?a_d14 ?l_d14 ?c_d14 ?k_d14 ?a_d15 ?l_d15 ?c_d15 ?k_d15 ?a_d16 ?l_d16 ?c_d16 ?k_d16 ?a_d17 ?l_d17 ?c_d17 ?k_d17 ?a_d18 ?l_d18 ?c_d18 ?k_d18 ?a_d19 ?l_d19 ?c_d19 ?k_d19 ?a_d20 ?l_d20 ?c_d20 ?k_d20 ?a_d21 ?l_d21 ?c_d21 ?k_d21 ?a_d22 ?l_d22 ?c_d22 ?k_d22 ?a_d23 ?l_d23 ?c_d23 ?k_d23 ?lcc ?dcc ?pcc ?nPS ?hcd
    (case z_len => k_is); (case z_int => k_is); (case z_bool => k_is); (case z_str => k_is); (case z_tuple => k_is); (case z_list => k_is)
    (case z_abs => k_is); (case z_isinstance => k_is); (case z_range => k_is); (case z_zip => k_is); (case z_enumerate => k_is); (case z_all => k_is)
    (case z_sorted => k_is); (case z_repr => k_is); (case z_set => k_is); (case g_MOST_THINGS => k_is); (case g_MOST_LABELS => k_is); (case y_combinations => k_is)
    (case aC => k_is); (case aI => k_is); (case iI => k_is); (case lI => k_is); (case cI => k_is); (case kI => k_is)
    (case pg => k_is); (case hd => k_is); (case po => k_is); (case sa => k_is); (case mk => k_is); (case kc => k_is)
    (case n1 => k_is); (case n2 => k_is); (case aBl => k_is); (case aBg => k_is); (case iB => k_is); (case tE => k_is)
    (case lE => k_is); (case cE => k_is); (case kE => k_is); (case tlE => k_is); (case tdE => rfl); (case xLBl => k_is)
    (case rVBl => first | rfl | decide +kernel); (case sBl => k_is); (case gBl => k_is); (case ggBl => k_is); (case nBl => k_is); (case iBl => k_is)
    (case kBl => k_is); (case eBl => k_is); (case tBl => k_is); (case hBl => k_is); (case cBl => k_is); (case ssBl => first | rfl | k_is)
    (case xLBg => k_is); (case rVBg => first | rfl | decide +kernel); (case sBg => k_is); (case gBg => k_is); (case ggBg => k_is); (case nBg => k_is)
    (case iBg => k_is); (case kBg => k_is); (case eBg => k_is); (case tBg => k_is); (case hBg => k_is); (case cBg => k_is)
    (case ssBg => first | rfl | k_is); (case no_Bg_Bl => k_is); (case a_d0 => k_is); (case l_d0 => k_is); (case c_d0 => k_is); (case k_d0 => k_is)
    (case a_d1 => k_is); (case l_d1 => k_is); (case c_d1 => k_is); (case k_d1 => k_is); (case a_d2 => k_is); (case l_d2 => k_is)
    (case c_d2 => k_is); (case k_d2 => k_is); (case a_d3 => k_is); (case l_d3 => k_is); (case c_d3 => k_is); (case k_d3 => k_is)
    (case a_d4 => k_is); (case l_d4 => k_is); (case c_d4 => k_is); (case k_d4 => k_is); (case a_d5 => k_is); (case i_d5 => k_is)
    (case l_d5 => k_is); (case c_d5 => k_is); (case k_d5 => k_is); (case a_d6 => k_is); (case i_d6 => k_is); (case l_d6 => k_is)
    (case c_d6 => k_is); (case k_d6 => k_is); (case a_d7 => k_is); (case i_d7 => k_is); (case l_d7 => k_is); (case c_d7 => k_is)
    (case k_d7 => k_is); (case a_d8 => k_is); (case i_d8 => k_is); (case l_d8 => k_is); (case c_d8 => k_is); (case k_d8 => k_is)
    (case a_d9 => k_is); (case i_d9 => k_is); (case l_d9 => k_is); (case c_d9 => k_is); (case k_d9 => k_is); (case a_d10 => k_is)
    (case i_d10 => k_is); (case l_d10 => k_is); (case c_d10 => k_is); (case k_d10 => k_is); (case a_d11 => k_is); (case l_d11 => k_is)
    (case c_d11 => k_is); (case k_d11 => k_is); (case a_d12 => k_is); (case l_d12 => k_is); (case c_d12 => k_is); (case k_d12 => k_is)
    (case a_d13 => k_is); (case l_d13 => k_is); (case c_d13 => k_is); (case k_d13 => k_is); (case a_d14 => k_is); (case l_d14 => k_is)
    (case c_d14 => k_is); (case k_d14 => k_is); (case a_d15 => k_is); (case l_d15 => k_is); (case c_d15 => k_is); (case k_d15 => k_is)
    (case a_d16 => k_is); (case l_d16 => k_is); (case c_d16 => k_is); (case k_d16 => k_is); (case a_d17 => k_is); (case l_d17 => k_is)
    (case c_d17 => k_is); (case k_d17 => k_is); (case a_d18 => k_is); (case l_d18 => k_is); (case c_d18 => k_is); (case k_d18 => k_is)
    (case a_d19 => k_is); (case l_d19 => k_is); (case c_d19 => k_is); (case k_d19 => k_is); (case a_d20 => k_is); (case l_d20 => k_is)
    (case c_d20 => k_is); (case k_d20 => k_is); (case a_d21 => k_is); (case l_d21 => k_is); (case c_d21 => k_is); (case k_d21 => k_is)
    (case a_d22 => k_is); (case l_d22 => k_is); (case c_d22 => k_is); (case k_d22 => k_is); (case a_d23 => k_is); (case l_d23 => k_is)
    (case c_d23 => k_is); (case k_d23 => k_is); (case lcc => k_is); (case dcc => rfl); (case pcc => rfl); (case nPS => kernel_rfl)
    (case hcd => exact ⟨PySem.W.codeHd_of_K KX (by kernel_rfl), PySem.W.km_tabs_of Y _ (by first | k_mem | simp)⟩)
