import PyProof.Rows.All
import Wide.All
import OpenK.AllK
import Wide.FinOn
import HandS.ForMost
import HandS.Strs
import HandS.TupSets
import HandS.SortInts
import HandS.IsInst
import HandS.TupLe
import HandS.TupAny
import HandS.DictComp
import HandS.Style
import HandS.Walk
import HandS.Conv
import KE.SortData
import KE.GoesMore
import HandS.Exc
import HandS.ExcOwn
import HandS.ExcInit
import HandS.ExcCtx
import HandS.ExcField
import HandS.TryOnly
import HandS.TryMany
import HandS.WordsExc
import KE.KExcIs
import HandS.ExcIs
import HandS.Deep
import HandS.Lambda
import HandS.EndTab
import KE.KNestM
import PyProof.SetRoads
import HandS.SetFor
import HandS.TupMul
import HandS.Zip
import KE.KDictZip
import HandS.Zip0
import HandS.Comp
import HandS.WideBits
import HandS.More
import HandS.SetBool
import PyProof.TupleOfSeq
import HandS.Hot
import HandS.Iter
import HandS.HotCalls
import PySem.Challenge.RW_fewtraps_k06_pinches_beside_all_regions
set_option Elab.async false
set_option linter.all false
set_option maxRecDepth 100000
set_option maxHeartbeats 4000000
/-! The layer's additions: repr of data, calls of defs that ask for it, sets of ints, a dict comprehension given to a name. -/
namespace Ft
open PySem PySem.Spec PyProof.Rows L2

/-! ### repr of data -/
mutual
theorem dp_plain {K : PySem.W.Frag} {H : Hp} : ∀ (d : PyData) (v : V), Dp K H v d → d.hasDict = false
  | .none, _, _ => by simp only [PyData.hasDict]
  | .bool _, _, _ => by simp only [PyData.hasDict]
  | .int _, _, _ => by simp only [PyData.hasDict]
  | .str _, _, _ => by simp only [PyData.hasDict]
  | .list ds, _, h => by
    cases h with
    | lst _ a => simp only [PyData.hasDict]; exact dp_plains ds _ a
  | .tuple ds, _, h => by
    cases h with
    | tup _ a => simp only [PyData.hasDict]; exact dp_plains ds _ a
  | .dict _, _, h => by cases h
theorem dp_plains {K : PySem.W.Frag} {H : Hp} : ∀ (ds : List PyData) (vs : List V), DpAll K H vs ds → PyData.hasDictAll ds = false
  | [], _, _ => by simp only [PyData.hasDictAll]
  | d :: ds, _, h => by
    cases h with
    | cons h1 h2 => simp only [PyData.hasDictAll, dp_plain d _ h1, dp_plains ds _ h2, Bool.or_self]
end

/-- data that repr shows without meeting a bound -/
structure Shows (d : PyData) : Prop where
  sh : d.showable = true
  lv : d.leavesShort 13 = true
  wt : d.weight ≤ 2 ^ 20
  dp : d.depth ≤ 60

def rRepr (K : PySem.W.Frag) : List V → Hp → VK → Prop := fun xs H Q => ∃ x d, xs = [x] ∧ Dp K H x d ∧ Shows d ∧ Q (.str d.shown) H
theorem cr_repr {X : Cx} (hg : X.A.guards = some []) (hu : X.A.units + 64 < cLine) : CallR X (.builtin "repr") (rRepr X.K) := by
  intro pins s σ H xs us Q I r h
  obtain ⟨x, d, rfl, hd, S, q⟩ := h
  obtain ⟨u, rfl, rx⟩ := vals1 r
  have fits := PyData.shown_fits (by decide) (by decide) S.lv S.wt
  cases hd with
  | non =>
    cases rx
    simp only [PyData.shown] at q
    exact PySem.P.repr_of_none ⟨.str _, H, I.tok _, ⟨_, rfl⟩, q⟩
  | bl b =>
    cases rx
    simp only [PyData.shown] at q
    exact PySem.P.repr_of_bool ⟨.str _, H, I.tok _, ⟨_, rfl⟩, q⟩
  | int i =>
    obtain ⟨t, rfl⟩ := rx
    have hs := S.sh
    simp only [PyData.showable, decide_eq_true_eq] at hs
    simp only [PyData.shown] at q
    exact PySem.P.repr_of_int hs ⟨.str _, H, I.tok _, ⟨_, rfl⟩, q⟩
  | str z =>
    obtain ⟨t, rfl⟩ := rx
    simp only [PyData.shown] at q fits
    exact PySem.P.repr_of_str ⟨.str _, H, I.tok _, ⟨_, rfl⟩, q⟩ fits
  | lst h1 h2 =>
    obtain ⟨as, rd⟩ := Dp.reads I _ _ u (.lst h1 h2) rx
    cases rx
    exact repr_of_reads' rd S.sh (PyData.noDict_hsm (dp_plain _ _ (Dp.lst h1 h2))) hg (by have := S.dp; omega) (fun _ _ e => e) (fun h' v tk k => ⟨.str _, H, I.kept k, ⟨_, rfl⟩, q⟩) fits
  | tup h1 h2 =>
    obtain ⟨as, rd⟩ := Dp.reads I _ _ u (.tup h1 h2) rx
    cases rx
    exact repr_of_reads' rd S.sh (PyData.noDict_hsm (dp_plain _ _ (Dp.tup h1 h2))) hg (by have := S.dp; omega) (fun _ _ e => e) (fun h' v tk k => ⟨.str _, H, I.kept k, ⟨_, rfl⟩, q⟩) fits
end Ft

set_option Elab.async false
set_option linter.all false
set_option maxRecDepth 100000
set_option maxHeartbeats 4000000
namespace Ft
open PySem PySem.Spec PyProof.Rows L2
/-! ### defs that are called where no repr is under way -/
structure FnG (P : Program) (w : World) (K : PySem.W.Frag) (mg : Str → Option Value) (base : Heap) (k : Nat) (f : Addr) (fd : FuncData) (ps : List Str) (sp : Sp) : Prop where
  many : ∀ vs H Q E, sp vs H Q E → vs.length = ps.length
  goes : ∀ (A : Around) (out : List Env) (s : Shared) (H : Hp) (args : Args) (us : List Value) (vs : List V) (Q : VK) (E : XK), A.guards = some [] → Room k A → Env0 P w K mg base A out s H →
    BindsTo s fd args (ps.zip us) → Vals vs us → sp vs H Q E → codeAny (model P w) A (.call (.ref f) args) (CR CX0 out P w H s Q E) s
section
variable {P : Program} {w : World} {K : PySem.W.Frag} {mg : Str → Option Value} {base : Heap}
/-- by its body -/
theorem gfun {x : Str} {st : Stmt} {f : Addr} {fd : FuncData} {N ps : List Str} {k : Nat} {sp : Sp} (F : L2.Fun K x x st f fd) (S : FnScope N ps (L2.defScope st)) (many : ∀ vs H Q E, sp vs H Q E → vs.length = ps.length)
    (body : ∀ (cdv : Value) (A : Around) (out : List Env) (s : Shared) (H : Hp) (vs : List V) (Q : VK) (E : XK), A.guards = some [] → Room k (A.deeper (envOfC x (L2.defScope st) s.heap.objs.size f cdv)) → sp vs H Q E →
      ∃ t, PSs (cxOf L2.CX0 P w K mg base N x (L2.defScope st) f cdv A out s H E).nox (L2.defBody st) t ∧ t { nx := fun _ H' => Q .non H', rt := Q } (start N vs) H) :
    FnG P w K mg base (k + 1) f fd ps sp := by
  obtain ⟨oc, od, kV, doc, pm, an, cdv, ct, osl, rfl, lk, hcd⟩ := F.ex
  refine ⟨many, ?_⟩
  intro A out s H args us vs Q E hg hr e0 hb r hsp
  have hin : K.In s.heap := e0.mod.kin.keeps (fun b o q => (e0.bs b o q).1)
  have nolim : s.heap.NoLimit := e0.mod.nolimit.keeps (fun b o q => (e0.bs b o q).1)
  have kinds : ∀ y ∈ ps.zip us, (L2.defScope st).names.lookup y.1 = some .local ∨ ((L2.defScope st).names.lookup y.1 = some .cell ∧ ((cellsFrom (s.heap.objs.size + 1) (L2.defScope st).names []).lookup y.1).isSome = true) := by
    intro y hy
    cases S.par y.1 (List.of_mem_zip (a := y.1) (b := y.2) hy).1 with
    | inl q => exact .inl q
    | inr q => exact .inr ⟨q, PySem.W.cellsFrom_some _ _ _ (.inl q)⟩
  refine codeAny_call_function hr.depth (hin _ _ lk) rfl S.co S.gen rfl (PySem.W.codeRec_of hin hcd) (hb _ _ _ _ ?_)
  refine wpAny_newFunctionEnv_cells S.kind kinds fun env he s1 z => ?_
  subst he
  refine ⟨nolim.keeps z.toInCall.keep, codeAny_func ?_⟩
  obtain ⟨t, ht, hq⟩ := body cdv A out s H vs Q E hg (hr.deeper _) hsp
  have I := inv_start (CX := L2.CX0) (E := E) (f := f) (cd := cdv) (qual := x) S hr.hd e0 (many _ _ _ _ hsp) r z
  refine wpAny_mono (ht.nox.run [] s1 (start N vs) H _ I hq) ?_ (fun e s' hs => hs)
  intro fl s' hs
  have ends : ∀ {σ' : L2.St} {H' : Hp} {v : V} {u : Value}, Inv (cxOf L2.CX0 P w K mg base N x (L2.defScope st) f cdv A out s H E) [] σ' H' s' → RelV v u → Q v H' → CE out P w H s Q u s' := by
    intro σ' H' v u J rv q
    exact ⟨v, H', J.os, J.bare, J.base, J.hok, rv, q⟩
  cases fl with
  | ret u => exact let ⟨v, σ', H', J, rv, q⟩ := hs; ends J rv q
  | next => exact let ⟨σ', H', J, q⟩ := hs; ends (v := V.non) (u := Value.none) J rfl q
  | brk => exact let ⟨_, _, _, q⟩ := hs; q.elim
  | cont => exact let ⟨_, _, _, q⟩ := hs; q.elim
end
/-- called by its name -/
structure CalG (P : Program) (w : World) (K : PySem.W.Frag) (mg : Str → Option Value) (base : Heap) (k : Nat) (x : Str) (sp : Sp) : Prop where
  ex : ∃ (f : Addr) (fd : FuncData) (ps : List Str), FnG P w K mg base k f fd ps sp ∧ mg x = some (.ref f) ∧ PySem.W.keepIn K (.ref f) = true ∧ Binds K fd ps []
section
variable {X : Cx} {k j : Nat} {x : Str} {sp : Sp} {p pos : Pos} {e : Expr} {es : List Expr} {t : TA}
theorem pe_g (c : CalG X.prog X.w X.K X.mg X.base k x sp) (hgd : X.A.guards = some []) (hr : Room j X.A) (hk : k ≤ j) (hg : Gl X x) (ha : PA X (e :: es) t)
    (hdb : (x == ("__debug__" : Str)) = false := by decide) (he : starEach (e :: es) X.env = (false, eval e X.env) :: starEach es X.env := by rfl) (hpl : (backTo pos (starEach es X.env)).any (·.1) = false := by rfl) :
    PE X (.Call (.Name x p) (e :: es) [] pos) (tCall sp [] L2.E0 t) := by
  obtain ⟨f, fd, ps, F, hm, kp, b⟩ := c.ex
  refine ⟨fun pins s σ H Q I h => ?_⟩
  refine wpAny_Call_Name_kw (ld_glob I hg hm ?_ hdb)
  refine PySem.W.callWith_K (h₀ := X.base) I.ok.mod.kin kp (thn (ha.run pos pins s σ H _ I h) fun us s1 ⟨vs, H1, I1, r, q⟩ => ⟨I1.kIn, ?_⟩) he hpl
  have q2 : sp vs H1 Q L2.E0 := by
    have z : sp (vs ++ []) H1 Q L2.E0 := q
    rw [List.append_nil] at z
    exact z
  have hl : (us ++ []).length = ps.length := by rw [List.append_nil, ← r.length]; exact F.many _ _ _ _ q2
  have hb := b s1 us I1.kIn hl
  rw [List.append_nil] at hb
  refine wpAny_call (codeAny_mono (F.goes X.A X.stack s1 H1 ⟨us, []⟩ us vs Q L2.E0 hgd (hr.mono hk) I1.env0 hb r q2) ?_)
  intro o s' hq
  cases o with
  | error e => exact hq.elim
  | ok fl =>
    cases fl with
    | ret u => exact I1.after hq
    | next => exact hq.elim
    | brk => exact hq.elim
    | cont => exact hq.elim
end
/-! ### the end of a law row whose def asks for repr -/
theorem glaw {P : Program} {w : World} {K : PySem.W.Frag} {mg mb : Str → Option Value} {k : Nat} {fa a : Addr} {fd : FuncData} {x : Str} {sp : Sp} {s₁ : Shared} {vs : List Value} {ns : List Int}
    (KX : K.In s₁.heap) (hns : s₁.heap.Ns mainGlobals mg) (hb : s₁.heap.Ns builtinsNs mb) (hbb : ∀ x : Str, x ≠ "__name__" → mb x = bootBuiltins x) (hlim : s₁.heap.NoLimit) (hg : s₁.gens = #[])
    (ha : s₁.heap.get? a = some { cls := .type "list", data := .seq vs.toArray }) (hi : IntsAre vs ns) (hl : ns.length ≤ sizeLine) (hr : Room k callerA)
    (F : ∀ base : Heap, K.In base → base.Ns mainGlobals mg → FnG P w K mg base k fa fd [x] sp) (hbind : ∀ (s : Shared) (u : Value), BindsTo s fd ⟨[u], []⟩ [(x, u)])
    (hsp : ∀ H : Hp, Only H → SqL K H a (ns.map V.int) → sp [.ref a] H (fun v _ => v = .bl true) fun _ _ _ => False) :
    codeAny (model P w) callerA (.call (.ref fa) ⟨[.ref a], []⟩) (fun r s' => r = .ok (.ret (.bool true)) ∧ OldK s₁.heap s'.heap ∧ s'.os = s₁.os ∧ AllBare s'.gens) s₁ := by
  have rv := vals_ints hi
  have heart : ∀ H : Hp, Only H → SqL K H a (ns.map V.int) → HOk P w H s₁.heap → (∀ b, H b ≠ none → b = a) → (H a ≠ none → K.lookup a = none) →
      codeAny (model P w) callerA (.call (.ref fa) ⟨[.ref a], []⟩) (fun r s' => r = .ok (.ret (.bool true)) ∧ OldK s₁.heap s'.heap ∧ s'.os = s₁.os ∧ AllBare s'.gens) s₁ := by
    intro H only hS hok hA hK
    have same : ∀ {b : Addr} {u : HO}, H b = some u → b = a := fun {b u} q => hA b (by rw [q]; exact fun z => nomatch z)
    have stays : ∀ {b : Addr} {o : Obj}, s₁.heap.get? b = some o → H b = none → (hidT s₁.heap H).get? b = some o := fun q n => hidT_get q n
    have dictOff : ∀ {b : Addr} {o : Obj} {es : Array DictEntry} {ep : Nat}, s₁.heap.get? b = some o → o.data = .dict es ep → H b = none := by
      intro b o es ep q d
      cases z : H b with
      | none => rfl
      | some u =>
        have hba := same z
        subst hba
        have eo := Option.some.inj (ha.symm.trans q)
        rw [← eo] at d
        exact nomatch d
    have nsIn : ∀ {b : Addr} {m : Str → Option Value}, s₁.heap.Ns b m → (hidT s₁.heap H).Ns b m := fun ⟨o, es, ep, q, d, r⟩ => ⟨o, es, ep, stays q (dictOff q d), d, r⟩
    have kIn : K.In (hidT s₁.heap H) := by
      intro b o q
      refine stays (KX b o q) ?_
      cases z : H b with
      | none => rfl
      | some u =>
        have hba := same z
        subst hba
        have := hK (by rw [z]; exact fun y => nomatch y)
        rw [this] at q
        exact nomatch q
    have hM : Mod K mg (hidT s₁.heap H) := by
      obtain ⟨mc, l1, l2⟩ := hlim
      exact ⟨kIn, nsIn hns, ⟨mb, nsIn hb, hbb⟩, ⟨mc, nsIn l1, l2⟩⟩
    have e0 : Env0 P w K mg (hidT s₁.heap H) callerA [] s₁ H :=
      ⟨rfl, hM, fun b o q => of_hidT q, Nat.le_of_eq (hidT_size _ _), trivial, fun b hb => absurd (show b ∈ ([] : List Addr) from hb) List.not_mem_nil, hok, .of_eq hg⟩
    refine codeAny_mono ((F _ kIn (nsIn hns)).goes callerA [] s₁ H ⟨[.ref a], []⟩ [.ref a] [.ref a] _ _ rfl hr e0 (hbind s₁ (.ref a)) (.cons rfl .nil) (hsp H only hS)) ?_
    intro r s' h
    cases r with
    | error e => exact h.elim
    | ok fl =>
      cases fl with
      | next => exact h.elim
      | brk => exact h.elim
      | cont => exact h.elim
      | ret u =>
        obtain ⟨v, H', os, bare, un, hok', rr, q⟩ := h
        have q' : v = V.bl true := q
        subst q'
        have eu : u = Value.bool true := rr
        subst eu
        refine ⟨rfl, OldK.of_keep ?_, os, bare⟩
        intro b o q
        cases z : H b with
        | none => exact un.keep b o q z (fun y => absurd (show b ∈ ([] : List Addr) from y) List.not_mem_nil) (fun y => absurd y List.not_mem_nil)
        | some u =>
          rcases only b with y | ⟨ob, xs, y⟩
          · exact nomatch (z.symm.trans y)
          · obtain ⟨e1, _⟩ := hok b _ y
            obtain ⟨e2, _⟩ := hok' b _ (un.frzs b ob _ y)
            have eo := Option.some.inj (q.symm.trans e1)
            rw [eo]
            exact e2
  cases hk : K.lookup a with
  | some o =>
    have eo := Option.some.inj ((KX a o hk).symm.trans ha)
    subst eo
    exact heart (fun _ => none) (fun _ => .inl rfl) (.inr ⟨_, vs.toArray, _, hk, rfl, rfl, rfl, by rw [List.size_toArray, hi.length]; exact hl, by simpa using rv⟩) (fun b u z => nomatch (show (none : Option HO) = some u from z)) (fun b z => absurd rfl z) (fun z => absurd rfl z)
  | none =>
    have there : ∀ b u, (if b = a then some (HO.frz { cls := .type "list", data := .seq vs.toArray } (.lst (ns.map V.int))) else none) = some u → b = a ∧ u = HO.frz { cls := .type "list", data := .seq vs.toArray } (.lst (ns.map V.int)) := by
      intro b u z
      by_cases hba : b = a
      · rw [if_pos hba] at z
        exact ⟨hba, (Option.some.inj z).symm⟩
      · rw [if_neg hba] at z
        exact nomatch z
    refine heart (fun b => if b = a then some (.frz { cls := .type "list", data := .seq vs.toArray } (.lst (ns.map V.int))) else none) ?_ (.inl (.inr ⟨{ cls := .type "list", data := .seq vs.toArray }, if_pos rfl⟩)) ?_ ?_ (fun _ => hk)
    · intro b
      by_cases hba : b = a
      · exact .inr ⟨_, _, if_pos hba⟩
      · exact .inl (if_neg hba)
    · intro b u z
      obtain ⟨e1, e2⟩ := there b u z
      subst e1
      subst e2
      exact ⟨ha, by rw [List.length_map]; exact hl, vs, _, rv, ha⟩
    · intro b z
      by_cases hba : b = a
      · exact hba
      · exact absurd (if_neg hba) z
theorem gwalk {l : PySem.W.OpenLaw} {n k : Nat} {q : Program} {loose : List Str} {XP : (Str → Option Value) → Heap → Prop} {YP : World → Heap → Prop} {d : DefRec} {K : Params → PySem.W.Frag} {sp : World → Sp} {x : Str}
    (hn : l.most = some n) (hn2 : n ≤ sizeLine) (hdf : d.params.defaults = []) (hr : Room k callerA) (hY : ∀ (w : World) (h : Heap), YP w h → (K w.params).In h)
    (F : ∀ (w : World) (mg : Str → Option Value) (fa : Addr) (h : Heap), (K w.params).In h → h.Ns mainGlobals mg → mg d.name = some (.ref fa) →
      ∃ fd : FuncData, (∀ (s : Shared) (u : Value), BindsTo s fd ⟨[u], []⟩ [(x, u)]) ∧ ∀ base : Heap, (K w.params).In base → base.Ns mainGlobals mg → FnG l.prog w (K w.params) mg base k fa fd [x] (sp w))
    (hsp : ∀ (w : World) (H : Hp) (a : Addr) (ns : List Int), ns.length ≤ n → Only H → SqL (K w.params) H a (ns.map V.int) → sp w [.ref a] H (fun v _ => v = .bl true) fun _ _ _ => False) :
    PySem.W.WalkO q loose XP YP l.row.toRowW d [] (fun f vs => PySem.call f vs) := by
  refine Att.attach_call hn hdf ?_
  intro w s₀ s₁ mg mb fa o pm cd doc a vs ns G Y ho hd hcd hmg hobj hints hlen hg
  have KX := hY w _ Y
  obtain ⟨fd, hb, hF⟩ := F w mg fa _ KX G.T.g hmg
  exact glaw KX G.T.g G.T.b G.T.builtins G.T.nolimit hg hobj hints (Nat.le_trans hlen hn2) hr hF hb (fun H only hS => hsp w H a ns hlen only hS)
end Ft

set_option Elab.async false
set_option linter.all false
set_option maxRecDepth 100000
set_option maxHeartbeats 4000000
namespace Ft
open PySem PySem.Spec PyProof.Rows L2
/-! ### set(xs), xs a list of ints -/
/-- an empty set, as it is made -/
abbrev bareSet (w : World) : Obj := { cls := .type "set", dict := none, data := .set #[] 0 (.fresh 0 0 (!w.params.followText "set-order")) }
section
variable {P : Program} {w : World} {A : Around} {E : Value → Shared → Prop} {s : Shared}
set_option maxRecDepth 100000 in
theorem set_of_list {l : Addr} {its : Array Value} (ns : List Int) {Q : Value → Shared → Prop} (calm : A.handled = none) (isl : s.heap.IsList l its) (pIs : IntsAre its.toList ns) (few : ns.length + 1 < scanBound)
    (done : ∀ (h' : Heap) (tk c : Nat), SetR w h' s.heap.objs.size (fun j => decide (j ∈ ns)) c → c ≤ ns.length → (∀ b o, s.heap.get? b = some o → h'.get? b = some o) → Q (.ref s.heap.objs.size) { s with heap := h', toks := tk }) :
    wpAny (model P w) A (call (.type "set") [.ref l]) Q E s := by
  have size : its.size = ns.length := by rw [← IntsAre.length pIs, Array.length_toList]
  obtain ⟨c, tl, way⟩ := F.called_set.mro
  have made := F.called_set.made
  have under := F.called_set.sub
  refine wpAny_call (codeAny_of_tree ?_)
  show wpAny _ _ (callAny (.type "set") _) _ _ _
  refine wpAny_pure (And.intro (Code.quiet_builtin _ (by decide +kernel)) (codeAny_builtin F.entry_type_call ?_))
  rw [Around.under_plain (weight_type_call_type "set" [Value.ref l] []) rfl]
  have k1 := F.called_set.notType
  have k2 := F.called_set.canCreate
  have k3 := F.typeCall_set_1 (Value.ref l)
  repeat (any_goals (first | assumption | wp_step))
  refine codeAny_mono (code_set_led1 (.ref l) (E := E) (Q₁ := fun obj t => obj = .ref s.heap.objs.size ∧ t = { s with heap := s.heap.push (bareSet w) }) ⟨rfl, rfl⟩) fun r t ht => ?_
  match r, ht with
  | .error e, ht => exact ht
  | .ok .next, ht => exact ht
  | .ok .brk, ht => exact ht
  | .ok .cont, ht => exact ht
  | .ok (.ret obj), ht =>
    obtain ⟨e1, e2⟩ := ht
    subst e1 e2
    have atS : (s.heap.push (bareSet w)).get? s.heap.objs.size = some (bareSet w) := Heap.get?_push_size _ rfl
    have tyS : Shared.TypeIs { s with heap := s.heap.push (bareSet w) } (.ref s.heap.objs.size) "set" := ⟨_, atS, rfl⟩
    have look := F.called_set.init.lookup
    have binds := F.called_set.init.bind (.ref s.heap.objs.size)
    repeat (any_goals (first | assumption | wp_step))
    refine codeAny_mono (codeAny_call_builtin (R := wants (fun r u => r = .none ∧ ∃ h' tk c, u = { s with heap := h', toks := tk } ∧ SetR w h' s.heap.objs.size (fun j => decide (j ∈ ns)) c ∧ c ≤ ns.length ∧ (∀ b o, s.heap.get? b = some o → h'.get? b = some o)) E)
      F.called_set.init.plain F.entry_set_init (check_set_init_1 tyS ?_)) fun r2 u hu => ?_
    · obtain ⟨⟨oc, od, dat, osl⟩, hol, hcl, nl, hdl⟩ := isl
      simp only at hcl hdl
      subst hcl hdl
      have atL : (s.heap.push (bareSet w)).get? l = some { cls := .type "list", dict := od, data := .seq its nl, slots := osl } := Heap.get?_push_of_some _ hol
      have q1 := F.sub_list_set
      have q2 := F.sub_list_frozenset
      have q3 : (Value.type "list" == Value.type "dict") = false := by decide
      have isl1 : (s.heap.push (bareSet w)).IsList l its := ⟨_, atL, rfl, nl, rfl⟩
      unfold Builtin.«set.__init__» noKeywords Builtin.Frozenset.updateFrom
      generalize hit : pyIter = it
      wp_walk
      subst hit
      refine wpAny_pyIter_list isl1 ?_
      refine wpAny_bind (wpAny_runValue ?_)
      have below : l < s.heap.objs.size := Heap.lt_size hol
      have calm3 : A.in1.in1.in1.handled = none := by simp [calm]
      have apart : l ≠ (s.heap.push (bareSet w)).objs.size := by
        rw [Heap.size_push]
        exact Nat.ne_of_lt (Nat.lt_succ_of_lt below)
      have apartS : s.heap.objs.size ∉ [(s.heap.push (bareSet w)).objs.size, l] := by
        rw [Heap.size_push]
        simp only [List.mem_cons, List.mem_singleton, List.not_mem_nil, or_false, not_or]
        exact And.intro (Nat.ne_of_lt (Nat.lt_succ_self _)) (Nat.ne_of_gt below)
      have vals : ∀ (i : Nat) (v : Value), its[i]? = some v → ∃ k t, ns[i]? = some k ∧ v = .int k t := by
        intro i v hv
        have hi : i < ns.length := by
          rw [← size]
          exact (Array.getElem?_eq_some_iff.mp hv).1
        obtain ⟨t, e⟩ := PyProof.Rows.IntsAre.int_at pIs i v (by rw [Array.getElem?_toList]; exact hv)
        refine ⟨ns[i], t, List.getElem?_eq_getElem hi, ?_⟩
        rw [e, List.getD_eq_getElem?_getD, List.getElem?_eq_getElem hi]
        rfl
      refine set_update_ints ((Walks.list calm3 _ l apart its).toS) s.heap.objs.size apartS ns size few vals (its.size - 0) 0 _ (by omega) (Nat.zero_le _) ⟨⟨_, Heap.get?_push_size _ rfl, rfl, rfl⟩, isl1.push _⟩ ?start ?ends
      case start =>
        exact ⟨0, Nat.le_refl 0, setR_new_at (Heap.get?_push_of_some _ atS)⟩
      case ends =>
        intro v c' hm hc' hS'
        obtain ⟨h', g2, d', tk', os'⟩ := v
        have eg : g2 = s.gens := hm.gens
        have ed : d' = s.drawn := hm.drawn
        have eo : os' = s.os := hm.os
        subst eg ed eo
        show wpAny _ _ _ _ _ _
        refine wpAny_pure ?_
        show wpAny _ _ (ret Value.none) _ _ _
        rw [size] at hc'
        refine wpAny_pure ⟨rfl, h', tk', c', rfl, hS', hc', ?_⟩
        intro b o e
        have hb0 : b < s.heap.objs.size := Heap.lt_size e
        refine hm.heap b o ?_ (Heap.get?_push_of_some _ (Heap.get?_push_of_some _ e))
        rw [Heap.size_push]
        simp only [List.mem_cons, List.mem_singleton, List.not_mem_nil, or_false, not_or]
        exact And.intro (Nat.ne_of_lt hb0) (Nat.ne_of_lt (Nat.lt_succ_of_lt hb0))
    · match r2, hu with
      | .error e, hu => exact hu
      | .ok .next, hu => exact hu
      | .ok .brk, hu => exact hu
      | .ok .cont, hu => exact hu
      | .ok (.ret u0), hu =>
        obtain ⟨e1, h', tk, c2, e2, hS, hc2, hk⟩ := hu
        subst e1 e2
        repeat (any_goals (first | assumption | wp_step))
        exact done h' tk c2 hS hc2 hk
/-- set(xs) over the layer: a list or a tuple of ints -/
def rSetI (K : PySem.W.Frag) (w : World) : List V → Hp → VK → Prop := fun xs H Q => ∃ (l : Addr) (ns : List Int), xs = [V.ref l] ∧ (SqL K H l (ns.map V.int) ∨ SqT K H l (ns.map V.int)) ∧ ns.length ≤ 1000 ∧
  ∀ (p : Addr) (n : Nat), H p = none → n ≤ ns.length → Q (.ref p) (upd H p (SetO w p (fun j => decide (j ∈ ns)) n))
theorem cr_setI {X : Cx} (hc : X.calm = true) : CallR X (.type "set") (rSetI X.K X.w) := by
  intro pins s σ H xs us Q I r h
  obtain ⟨l, ns, rfl, hl, few, q⟩ := h
  have few1 : ns.length + 1 < scanBound := Nat.lt_of_le_of_lt (Nat.succ_le_succ few) (by decide)
  have free : H s.heap.objs.size = none := I.hok.fresh (Nat.le_refl _)
  rw [Vals.ref1 r]
  rcases hl with hl | hl
  · obtain ⟨its, rv, pl, hz⟩ := I.list hl
    refine set_of_list ns (I.ok.hd hc) pl.isList (by simpa using rv.ints) few1 fun h' tk c hS hc2 hk => ?_
    exact ⟨.ref _, upd H s.heap.objs.size (SetO X.w s.heap.objs.size (fun j => decide (j ∈ ns)) c), I.laid (t' := tk) hk (Nat.le_refl _) (setO_new hS), rfl, q _ _ free hc2⟩
  · obtain ⟨its, rv, pt, hz⟩ := I.tuple hl
    have pt2 : s.heap.IsTuple l its.toArray := pt
    refine call_set_tupI ns (I.ok.hd hc) pt2 (by simpa using ints_of_vals rv) few1 fun h' tk c hS hc2 hk => ?_
    exact ⟨.ref _, upd H s.heap.objs.size (SetO X.w s.heap.objs.size (fun j => decide (j ∈ ns)) c), I.laid (t' := tk) hk (Nat.le_refl _) (setO_new hS), rfl, q _ _ free hc2⟩
end
end Ft

set_option Elab.async false
set_option linter.all false
set_option maxRecDepth 100000
set_option maxHeartbeats 4000000
namespace Ft
open PySem PySem.Spec PyProof.Rows L2
/-! ### sorted of tuples of ints, whatever their lengths -/
abbrev Row := Addr × List Int
def leR (p q : Row) : Bool := decide (p.2 ≤ q.2)
def encR (p : Row) : PyData := .tuple (p.2.map .int)
theorem leR_is : PySem.W.dataLe false encR = leR := by
  funext p q
  show (!PySem.W.dataLt (.tuple (q.2.map .int)) (.tuple (p.2.map .int))) = decide (p.2 ≤ q.2)
  rw [PySem.W.dataLt_tuple]
  have e := PySem.W.dataLt_ints q.2 p.2
  unfold PySem.W.rowLt at e
  rw [e]
  by_cases h : q.2 < p.2
  · have h' : ¬ p.2 ≤ q.2 := fun r => List.not_lt.mpr r h
    simp [h, h']
  · have h' : p.2 ≤ q.2 := List.not_lt.mp h
    simp [h, h']
theorem leR_trans (a b c : Row) (h1 : leR a b = true) (h2 : leR b c = true) : leR a c = true :=
  decide_eq_true (List.le_trans (of_decide_eq_true h1) (of_decide_eq_true h2))
theorem leR_total (a b : Row) : (leR a b || leR b a) = true := by
  rcases List.le_total a.2 b.2 with h | h
  · simp [leR, h]
  · simp [leR, h]
theorem rows_alike (L : List Row) : PySem.W.AllAlike (L.map encR) :=
  PySem.W.AllAlike.of fun b b' => by
    show PySem.W.alike (.tuple (b.2.map .int)) (.tuple (b'.2.map .int)) = true
    simp only [PySem.W.alike]
    exact PySem.W.alike_ints _ _
theorem rows_sortable {L : List Row} (h : ∀ p ∈ L, p.2 ≠ []) : PySem.W.Sortable (L.map encR) := .inl fun d hd => by
  obtain ⟨b, hb, rfl⟩ := List.mem_map.mp hd
  have := h b hb
  show ∃ x r, PyData.tuple (b.2.map .int) = .tuple (x :: r)
  cases e : b.2 with
  | nil => exact absurd e this
  | cons x r => exact ⟨.int x, r.map .int, rfl⟩
theorem rows_deep {A : Around} {k : Nat} {L : List Row} (hu : A.units + k + 1 < cLine) : ∀ b, b ∈ L → A.units + k + (encR b).depth < cLine := by
  intro b _
  have e : (encR b).depth = 1 := by
    show PyData.depth (.tuple (b.2.map .int)) = 1
    simp only [PyData.depth, PySem.W.depth_ints]
  rw [e]
  exact hu
theorem rows_each : ∀ (L : List Row), PySem.W.EachIs (fun v (p : Row) => v = Value.ref p.1) (L.map fun p => Value.ref p.1) L
  | [] => .nil
  | p :: L => .cons rfl (rows_each L)
theorem rows_back : ∀ {vs : List Value} {L : List Row}, PySem.W.EachIs (fun v (p : Row) => v = Value.ref p.1) vs L → vs = L.map fun p => Value.ref p.1
  | _, _, .nil => rfl
  | _, _, .cons h t => by rw [h, rows_back t]; rfl
section
variable {X : Cx} {pins : List (Addr × Obj)} {σ : L2.St} {H : Hp} {s : Shared}
theorem dpAll_ints {K : PySem.W.Frag} {H : Hp} : ∀ ns : List Int, DpAll K H (ns.map V.int) (ns.map PyData.int)
  | [] => .nil
  | n :: ns => .cons (.int n) (dpAll_ints ns)
theorem rows_read (I : Inv X pins σ H s) : ∀ (L : List Row), (∀ p ∈ L, SqT X.K H p.1 (p.2.map V.int)) → PySem.W.EachIs (fun v b => ∃ as, Reads s.heap v (encR b) as) (L.map fun p => Value.ref p.1) L
  | [], _ => .nil
  | p :: L, h => .cons (Dp.reads I (encR p) (.ref p.1) (.ref p.1) (.tup (h p List.mem_cons_self) (dpAll_ints p.2)) rfl) (rows_read I L fun q hq => h q (List.mem_cons_of_mem _ hq))
end
/-- sorted(xs), xs a list of tuples of ints -/
def rSortedR (K : PySem.W.Frag) : List V → Hp → VK → Prop := fun vs H Q => ∃ (a : Addr) (L : List Row), vs = [V.ref a] ∧ SqL K H a (L.map fun p => V.ref p.1) ∧ (∀ p ∈ L, SqT K H p.1 (p.2.map V.int)) ∧ (∀ p ∈ L, p.2 ≠ []) ∧
  ∀ p, H p = none → Q (.ref p) (upd H p (.lst ((L.mergeSort leR).map fun p => V.ref p.1)))
theorem cr_sortedR {X : Cx} (hu : X.A.units + 64 < cLine) : CallR X (.builtin "sorted") (rSortedR X.K) := by
  intro pins s σ H xs us Q I r h
  obtain ⟨a, L, rfl, hl, hk, hne, q⟩ := h
  rw [Vals.ref1 r]
  obtain ⟨its, rv, pl, hz⟩ := I.list hl
  have ei : its = L.map fun p => Value.ref p.1 := refs_of_vals rv
  subst ei
  have hz2 : L.length ≤ sizeLine := by simpa using hz
  refine PySem.W.sorted_data (bs := L) (enc := encR) pl.isList (rows_each L) (rows_read I L hk) (rows_alike L) (rows_sortable hne) hz2 (rows_deep (k := 2) (by omega)) fun out hlen he => ?_
  rw [leR_is] at he
  have eo := rows_back he
  subst eo
  obtain ⟨ep, ho⟩ := PyProof.Rows.sortedAll_at s.heap (L.map fun p => Value.ref p.1) ((L.mergeSort leR).map fun p => Value.ref p.1).toArray
  refine ⟨.ref _, upd H (s.heap.objs.size + 1) (.lst ((L.mergeSort leR).map fun p => V.ref p.1)), I.laid (t' := s.toks) (fun _ _ => PyProof.Rows.sortedAll_old) (Nat.le_succ _) ⟨?_, _, ep, vals_of_refs _, ho⟩, rfl, q _ (I.hok.fresh (Nat.le_succ _))⟩
  rw [List.length_map, List.length_mergeSort]
  exact hz2
/-- sorted of a set of tuples of ints -/
theorem rows_order {L : List Row} : ∀ {vs : List Value}, (∀ v ∈ vs, ∃ q ∈ L, v = Value.ref q.1) → ∃ L1 : List Row, vs = L1.map (fun q => Value.ref q.1) ∧ ∀ q ∈ L1, q ∈ L
  | [], _ => ⟨[], rfl, fun q hq => nomatch hq⟩
  | v :: vs, h => by
    obtain ⟨q, hq, e⟩ := h v List.mem_cons_self
    obtain ⟨L1, e1, h1⟩ := rows_order (vs := vs) fun u hu => h u (List.mem_cons_of_mem _ hu)
    refine ⟨q :: L1, by rw [e, e1]; rfl, fun r hr => ?_⟩
    cases hr with
    | head => exact hq
    | tail _ z => exact h1 r z
section
variable {P : Program} {w : World} {A : Around} {E : Value → Shared → Prop} {s : Shared}
theorem nodup_back {α β : Type} {f : α → β} : ∀ {l : List α}, (l.map f).Nodup → l.Nodup
  | [], _ => List.nodup_nil
  | a :: l, h => by
    obtain ⟨h1, h2⟩ := List.nodup_cons.mp h
    exact List.nodup_cons.mpr ⟨fun z => h1 (List.mem_map.mpr ⟨a, z, rfl⟩), nodup_back h2⟩
theorem sorted_rows {a : Addr} {L : List Row} {es : Array (Int × Value)} {ep : Nat} {t : SetTable} {Q : Value → Shared → Prop} (R : SetTR P w s.heap a L es ep t) (hh : A.handled = none) (hu : A.units + 64 < cLine) (hne : ∀ p ∈ L, p.2 ≠ [])
    (rd : ∀ p ∈ L, ∃ as, Reads s.heap (.ref p.1) (encR p) as)
    (done : ∀ s' p (c : Nat) (L' : List Row), (∀ b o, s.heap.get? b = some o → s'.heap.get? b = some o) → s'.gens = s.gens → s'.os = s.os → s.heap.objs.size ≤ p →
      s'.heap.get? p = some (seqObj "list" (L'.map fun q => Value.ref q.1).toArray c) → L'.Perm L → L'.Pairwise (fun q r => q.2 ≤ r.2) → Q (.ref p) s') :
    wpAny (model P w) A (call (.builtin "sorted") [.ref a]) Q E s := by
  obtain ⟨o, ho, hex, hd⟩ := R.ob
  have size := R.size
  have few := R.few
  refine Calls.call_function_entry kind_sorted plain_sorted entry_sorted (args_sorted1 _) ?_
  unfold Builtin.«sorted»
  refine wpAny_bind (m := checkCount "sorted" 1 1 _) (wpAny_pure ?_)
  refine wpAny_bind (collect_set (A := A.in1) hh ⟨o, ho, hex.1, hd⟩ R.fits (by rw [size]; exact Nat.lt_trans few (by decide)) R.tab.ris R.led fun s1 vs k1 hz g1 o1 pm => ?_)
  have rows : es.toList.map (·.2) = L.map fun q => Value.ref q.1 := by
    rw [R.rows]
    unfold rowsOf
    rw [List.map_map]
    rfl
  rw [rows] at pm
  obtain ⟨L1, e1, sub1⟩ := rows_order (L := L) (vs := vs) fun v hv => by
    obtain ⟨q, hq, e⟩ := List.mem_map.mp (pm.mem_iff.mp hv)
    exact ⟨q, hq, e.symm⟩
  have apart : ∀ q ∈ L, ∀ r ∈ L, q.1 = r.1 → q = r := by
    intro q hq r hr e
    have t1 := R.tup q hq
    have t2 := R.tup r hr
    rw [e] at t1
    exact Prod.ext e (t1.inj t2)
  have pm1 : L1.Perm L := by
    have nL : L.Nodup := nodup_back R.nd
    have nR : (L.map fun q => Value.ref q.1).Nodup := by
      refine List.pairwise_map.mpr (List.Pairwise.imp_of_mem (fun {q r} hq hr hn e => ?_) nL)
      injection e with e
      exact hn (apart q hq r hr e)
    rw [e1] at pm
    refine (List.perm_ext_iff_of_nodup (nodup_back (pm.nodup_iff.mpr nR)) nL).mpr fun q => ⟨sub1 q, fun hq => ?_⟩
    obtain ⟨r, hr, e⟩ := List.mem_map.mp (pm.mem_iff.mpr (List.mem_map.mpr ⟨q, hq, rfl⟩))
    injection e with e
    rw [← apart r (sub1 r hr) q hq e]
    exact hr
  subst e1
  have len1 : L1.length < 64 := by rw [pm1.length_eq]; exact few
  have line1 : L1.length ≤ sizeLine := by rw [sizeLine_eq]; omega
  refine wpAny_bind (wpAny_newList ?_ (by simpa using line1))
  have hoL : (s1.heap.push (seqObj "list" (L1.map fun q => Value.ref q.1).toArray 0)).get? s1.heap.objs.size = some (seqObj "list" (L1.map fun q => Value.ref q.1).toArray 0) := Heap.get?_push_size _ rfl
  have er : ∀ (M : List Row), (∀ q ∈ M, q ∈ L) → PySem.W.EachIs (fun v b => ∃ as, Reads (s1.heap.push (seqObj "list" (L1.map fun q => Value.ref q.1).toArray 0)) v (encR b) as ∧ s1.heap.objs.size ∉ as) (M.map fun p => Value.ref p.1) M := by
    intro M
    induction M with
    | nil => intro _; exact .nil
    | cons p M ih =>
      intro hM
      obtain ⟨as, r0⟩ := rd p (hM p List.mem_cons_self)
      have r1 := PyProof.Rows.Reads.keeps (h' := s1.heap.push (seqObj "list" (L1.map fun q => Value.ref q.1).toArray 0)) (fun b u e => Heap.get?_push_of_some _ (k1 b u e)) r0
      refine .cons ⟨as, r1, ?_⟩ (ih fun q hq => hM q (List.mem_cons_of_mem _ hq))
      have flat : ∀ {h : Heap} {ns : List Int} {us : List Value} {bs : List Addr}, ReadsAll h us (ns.map PyData.int) bs → bs = [] := by
        intro h ns
        induction ns with
        | nil => intro us bs z; cases z; rfl
        | cons n ns ih2 =>
          intro us bs z
          cases z with
          | cons z1 z2 =>
            cases z1
            rw [ih2 z2]
            rfl
      have e0 : as = [] := by
        cases r0 with
        | tuple _ _ _ z => exact flat z
      rw [e0]
      exact List.not_mem_nil
  refine wpAny_bind (wpAny_holding (PySem.W.list_sort_data (s := { s1 with heap := s1.heap.push (seqObj "list" (L1.map fun q => Value.ref q.1).toArray 0) }) (R := fun v (p : Row) => v = Value.ref p.1) (bs := L1) (enc := encR) hoL (rows_each L1) (er L1 sub1) (rows_alike L1)
    (rows_sortable fun p hp => hne p (sub1 p hp)) line1 (rows_deep (k := 1) (by show A.units + 1 + 1 + 1 < cLine; omega)) fun out hlen he => ?_))
  rw [leR_is] at he
  have eo := rows_back he
  subst eo
  obtain ⟨c, hc⟩ := sortedHeap_at (vs := L1.map fun q => Value.ref q.1) (out := ((L1.mergeSort leR).map fun q => Value.ref q.1).toArray) hoL
  refine wpAny_pure ⟨_, rfl, done _ s1.heap.objs.size c (L1.mergeSort leR) (fun b u e => ?_) g1 o1 hz hc ((List.mergeSort_perm L1 leR).trans pm1) ?_⟩
  · have q := k1 b u e
    have hlt := Heap.lt_size q
    show (sortedHeap (s1.heap.push (seqObj "list" (L1.map fun q => Value.ref q.1).toArray 0)) s1.heap.objs.size (L1.map fun q => Value.ref q.1) _).get? b = some u
    rw [sortedHeap_old (Nat.ne_of_lt hlt) (by rw [size_push']; exact Nat.lt_succ_of_lt hlt)]
    exact Heap.get?_push_of_some _ q
  · exact (List.pairwise_mergeSort leR_trans leR_total L1).imp fun h => of_decide_eq_true h
end
/-- sorted(set), any tuples of ints -/
def rSortedS (K : PySem.W.Frag) (P : Program) (w : World) : List V → Hp → VK → Prop := fun vs H Q => ∃ (a : Addr) (L : List Row), vs = [V.ref a] ∧ H a = some (SetTO P w a L) ∧ (∀ p ∈ L, SqT K H p.1 (p.2.map V.int)) ∧ (∀ p ∈ L, p.2 ≠ []) ∧
  ∀ (L' : List Row) (p : Addr), L'.Perm L → (L'.map (·.2)).Nodup → L'.length < 64 → L'.Pairwise (fun q r => q.2 ≤ r.2) → H p = none → Q (.ref p) (upd H p (.lst (L'.map fun q => V.ref q.1)))
theorem cr_sortedSR {X : Cx} (hc : X.calm = true) (hu : X.A.units + 64 < cLine) : CallR X (.builtin "sorted") (rSortedS X.K X.prog X.w) := by
  intro pins s σ H xs us Q I r h
  obtain ⟨a, L, rfl, ha, hk, hne, q⟩ := h
  obtain ⟨es, ep, t, R⟩ := SetT0.full (I.hok a _ ha).1 fun p hp => I.isT (hk p hp)
  rw [Vals.ref1 r]
  refine sorted_rows R (I.ok.hd hc) hu hne (fun p hp => Dp.reads I (encR p) (.ref p.1) (.ref p.1) (.tup (hk p hp) (dpAll_ints p.2)) rfl) fun s' p c L' k g o hp hg pm pw => ?_
  have few : L'.length < 64 := by rw [pm.length_eq]; exact R.few
  have line : (L'.map fun q => V.ref q.1).length ≤ sizeLine := by rw [List.length_map, sizeLine_eq]; omega
  have free : H p = none := I.hok.fresh hp
  have J : Inv X pins σ (upd H p (.lst (L'.map fun q => V.ref q.1))) s' := I.call' (s' := s') (ch := []) o (Un.laid k hp free) (I.hok.laid k hp ⟨line, _, c, vals_of_refs L', hg⟩) (by rw [g]; exact I.bare) (fun _ z => nomatch z)
  exact ⟨.ref p, _, J, rfl, q L' p pm ((pm.map (·.2)).nodup_iff.mpr R.nd) few pw free⟩
end Ft

set_option Elab.async false
set_option linter.all false
set_option maxRecDepth 100000
set_option maxHeartbeats 4000000
namespace Ft
open PySem PySem.Spec PyProof.Rows L2
/-! ### a def that may be called by its name -/
structure Cal (P : Program) (w : World) (K : PySem.W.Frag) (mg : Str → Option Value) (base : Heap) (k : Nat) (x : Str) (sp : Sp) : Prop where
  ex : ∃ (f : Addr) (fd : FuncData) (ps : List Str), FnOk P w K mg base L2.CX0 k f fd ps sp ∧ mg x = some (.ref f) ∧ PySem.W.keepIn K (.ref f) = true ∧ Binds K fd ps []
theorem pe_c {X : Cx} {k j : Nat} {x : Str} {sp : Sp} {p pos : Pos} {e : Expr} {es : List Expr} {t : TA} (c : Cal X.prog X.w X.K X.mg X.base k x sp) (hr : Room j X.A) (hk : k ≤ j) (hg : Gl X x) (ha : PA X (e :: es) t)
    (hdb : (x == ("__debug__" : Str)) = false := by decide) (he : starEach (e :: es) X.env = (false, eval e X.env) :: starEach es X.env := by rfl) (hpl : (backTo pos (starEach es X.env)).any (·.1) = false := by rfl) :
    PE X (.Call (.Name x p) (e :: es) [] pos) (tCall sp [] L2.E0 t) := by
  obtain ⟨f, fd, ps, F, hm, kp, b⟩ := c.ex
  exact pe_call F (hr.mono hk) hg hm kp b .nil L2.pass0 ha hdb he hpl
/-- a def of the module as it stands behind the top, under its name -/
structure Def (K : PySem.W.Frag) (mg : Str → Option Value) (x : Str) (st : Stmt) : Prop where
  ex : ∃ (f : Addr) (fd : FuncData), L2.Fun K x x st f fd ∧ mg x = some (.ref f)
theorem cal_of {P : Program} {w : World} {K : PySem.W.Frag} {mg : Str → Option Value} {base : Heap} {x : Str} {st : Stmt} {N ps : List Str} {k : Nat} {sp : Sp} (D : Def K mg x st) (S : FnScope N ps (L2.defScope st))
    (bd : ∀ (kV doc pm : Value) (an : Option Addr) (cdv ct : Value) (us : List Value), us.length = ps.length → bindArgs (PySem.W.fnOf x x (L2.defArgs st) (L2.defBody st) (L2.defScope st) .none kV doc pm an cdv ct) ⟨us, []⟩ = pure (ps.zip us))
    (len : ∀ vs H Q E, sp vs H Q E → vs.length = ps.length)
    (body : ∀ (f : Addr) (cdv : Value) (A : Around) (outer : List Env) (s : Shared) (H : Hp) (vs : List V) (Q : VK) (E : XK), Room k (A.deeper (envOfC x (L2.defScope st) s.heap.objs.size f cdv)) → sp vs H Q E →
      ∃ t, PSs (cxOf L2.CX0 P w K mg base N x (L2.defScope st) f cdv A outer s H E).nox (L2.defBody st) t ∧ t { nx := fun _ H' => Q .non H', rt := Q } (start N vs) H) : Cal P w K mg base (k + 1) x sp := by
  obtain ⟨f, fd, F, hm⟩ := D.ex
  exact ⟨f, fd, ps, F.ok S len (body f), hm, F.kp, F.binds bd⟩
theorem calG_of {P : Program} {w : World} {K : PySem.W.Frag} {mg : Str → Option Value} {base : Heap} {x : Str} {st : Stmt} {N ps : List Str} {k : Nat} {sp : Sp} (D : Def K mg x st) (S : FnScope N ps (L2.defScope st))
    (bd : ∀ (kV doc pm : Value) (an : Option Addr) (cdv ct : Value) (us : List Value), us.length = ps.length → bindArgs (PySem.W.fnOf x x (L2.defArgs st) (L2.defBody st) (L2.defScope st) .none kV doc pm an cdv ct) ⟨us, []⟩ = pure (ps.zip us))
    (len : ∀ vs H Q E, sp vs H Q E → vs.length = ps.length)
    (body : ∀ (f : Addr) (cdv : Value) (A : Around) (out : List Env) (s : Shared) (H : Hp) (vs : List V) (Q : VK) (E : XK), A.guards = some [] → Room k (A.deeper (envOfC x (L2.defScope st) s.heap.objs.size f cdv)) → sp vs H Q E →
      ∃ t, PSs (cxOf L2.CX0 P w K mg base N x (L2.defScope st) f cdv A out s H E).nox (L2.defBody st) t ∧ t { nx := fun _ H' => Q .non H', rt := Q } (start N vs) H) : CalG P w K mg base (k + 1) x sp := by
  obtain ⟨f, fd, F, hm⟩ := D.ex
  exact ⟨f, fd, ps, gfun F S len (body f), hm, F.kp, F.binds bd⟩

/-! ### enumerate(tuple) -/
theorem enum_newT (l : Addr) (items : Array Value) (n : Nat) (dct : Option Addr) (sl : Array (Option Value)) :
    Meets (Builtin.«enumerate.__new__» ⟨[.type "enumerate", .ref l], []⟩) (fun _ R s => s.heap.get? l = some { cls := .type "tuple", dict := dct, data := .seq items n, slots := sl } ∧
      R (.ok (.ret (.ref (s.heap.push { cls := .type "tuple_iterator", data := .fields #[.ref l, .int 0 0] }).objs.size)))
        { s with heap := (s.heap.push { cls := .type "tuple_iterator", data := .fields #[.ref l, .int 0 0] }).push { cls := .type "enumerate", data := .fields #[.none, .bool false, .ref s.heap.objs.size, rawInt 0, .none, .none] } }) :=
  .of_wp fun prog w A R s h => by
    obtain ⟨hp, g, d, tk, os⟩ := s
    obtain ⟨hl, h⟩ := h
    have sub := sub_enumerate
    have tup : Heap.IsTuple (Shared.heap ⟨hp, g, d, tk, os⟩) l items := ⟨_, hl, rfl, n, rfl⟩
    wp_walk using PySem.AutoSeq1.wpAny_loadPart' hl
    refine wpAny_stack_any fun st => wpAny_pure ?_
    split
    · rename_i c _ _ _ _ _
      cases (c == Value.type "enumerate")
      · wp_walk using PySem.AutoSeq1.wpAny_loadPart' hl, wpAny_pyIter_tuple tup
        exact ⟨_, rfl, h⟩
      · wp_walk using PySem.AutoSeq1.wpAny_loadPart' hl, wpAny_pyIter_tuple tup
        exact ⟨_, rfl, h⟩
    · wp_walk using PySem.AutoSeq1.wpAny_loadPart' hl, wpAny_pyIter_tuple tup
      exact ⟨_, rfl, h⟩
theorem enum_tuple {prog : Program} {w : World} {A : Around} {E : Value → Shared → Prop} {s : Shared} {l : Addr} {items : Array Value} {Q : Value → Shared → Prop} (hL : s.heap.IsTuple l items)
    (h : ∀ h', IsEnum h' (s.heap.objs.size + 1) s.heap.objs.size 0 .none → h'.IsTupleIter s.heap.objs.size l 0 → h'.objs.size = s.heap.objs.size + 2 → (∀ b o, s.heap.get? b = some o → h'.get? b = some o) → Q (.ref (s.heap.objs.size + 1)) { s with heap := h' }) :
    wpAny (model prog w) A (call (.type "enumerate") [.ref l]) Q E s := by
  obtain ⟨⟨c, dct, dt, sl⟩, hl, hc, n, hd⟩ := hL
  replace hc : c = .type "tuple" := hc
  replace hd : dt = .seq items n := hd
  subst hc hd
  refine callType_new F.called_enumerate (by decide) (F.typeCall_enumerate_1 _) (F.newCall_enumerate_1 _) (fun obj => F.args_object_init_2 obj _) F.entry_enumerate_new (enum_newT l items n dct sl) ⟨hl, ?_⟩
  have hz : (s.heap.push { cls := .type "tuple_iterator", data := .fields #[.ref l, .int 0 0] }).objs.size = s.heap.objs.size + 1 := Heap.size_push ..
  show _ ∧ _
  rw [hz]
  have he : IsEnum ((s.heap.push { cls := .type "tuple_iterator", data := .fields #[.ref l, .int 0 0] }).push { cls := .type "enumerate", data := .fields #[.none, .bool false, .ref s.heap.objs.size, rawInt 0, .none, .none] }) (s.heap.objs.size + 1) s.heap.objs.size 0 .none := by
    have q := Heap.get?_push_size (s.heap.push { cls := .type "tuple_iterator", data := .fields #[.ref l, .int 0 0] }) (o := { cls := .type "enumerate", data := .fields #[.none, .bool false, .ref s.heap.objs.size, rawInt 0, .none, .none] }) rfl
    rw [hz] at q
    exact q
  exact ⟨⟨_, he, rfl⟩, h _ he ⟨_, Heap.get?_push_of_some _ (Heap.get?_push_size _ rfl), rfl, rfl⟩ (by rw [Heap.size_push, hz]) fun b o x => Heap.get?_push_of_some _ (Heap.get?_push_of_some _ x)⟩
def IteT (K : PySem.W.Frag) (a : Addr) : It :=
  ⟨fun i H => ∃ (xs : List V) (x : V), SqT K H a xs ∧ xs[i]? = some x, fun i H v H' => ∃ T x, v = .ref T ∧ H T = none ∧ H' = upd H T (.tup [.int (i : Nat), x]) ∧ ∀ xs, SqT K H a xs → xs[i]? = some x, fun i H => ∃ xs : List V, SqT K H a xs ∧ xs.length = i⟩
theorem turn_enumT {P : Program} {w : World} {K : PySem.W.Frag} {elts : List Expr} {kk : Nat} {tpos : Pos} (a e it : Addr) :
    Turn P w K (.Tuple elts kk tpos) (IteT K a) [e, it] e (fun i h => (∃ old, IsEnum h e it ((i : Nat) : Int) old) ∧ h.IsTupleIter it a i ∧ e ≠ it ∧ a ≠ it ∧ e ≠ a) where
  mem := by simp
  obj := fun i h st b hb => by
    obtain ⟨⟨old, he⟩, ⟨o, ho, hc, hd⟩, _⟩ := st
    have e' : b = e ∨ b = it := by simpa using hb
    rcases e' with z | z
    · rw [z]; exact ⟨_, he, fun v q => nomatch q⟩
    · rw [z]; exact ⟨o, ho, fun v q => by rw [hd] at q; cases q⟩
  keep := fun i h h' st k => let ⟨⟨old, he⟩, hi, hne⟩ := st; ⟨⟨old, k e (by simp) _ he⟩, hi.at fun o q => k it (by simp) o q, hne⟩
  item := by
    intro X hP hw hK hc i pins s σ H E I hf st hg
    subst hP hw hK
    obtain ⟨⟨old, he⟩, hit, hne, hai, hea⟩ := st
    obtain ⟨xs, x, hq, hx⟩ := hg
    obtain ⟨its, rv, p, hz⟩ := I.tuple hq
    have pt : s.heap.IsTuple a its.toArray := p
    obtain ⟨u, hu, ru⟩ := rv.get hx
    have hel : e < s.heap.objs.size := Heap.lt_size he
    have hil : it < s.heap.objs.size := by obtain ⟨_, q, _⟩ := hit; exact Heap.lt_size q
    have hlt : i < its.toArray.size := by
      have := (List.getElem?_eq_some_iff.mp hu).1
      simpa using this
    refine wpAny_pyNext_enum_itemD (Draws.tuple (A := X.A.in1) (by simpa using I.ok.hd hc) it a hai its.toArray) he ⟨hit, pt⟩ hlt hne (by simp [hne, hea]) fun y h' tk hy ho hit' hT hsz hk => ?_
    have eu : y = u := by
      have z : its[i]? = some y := by simpa using hy
      exact Option.some.inj (z.symm.trans hu)
    subst eu
    refine ⟨_, rfl, wpAny_letOwnedTupleGo_enum (s := { s with heap := h', toks := tk + 1 }) ho fun h'' he' sb => ?_⟩
    have hT2 : h''.get? s.heap.objs.size = some { cls := .type "tuple", data := .seq #[.int i tk, y] } := (sb.2 _ (Nat.ne_of_gt hel)).trans hT
    have new : ObjOk X.prog X.w (upd H s.heap.objs.size (.tup [.int (i : Nat), x])) h'' s.heap.objs.size (.tup [.int (i : Nat), x]) :=
      ⟨by show 2 ≤ sizeLine; decide, [.int i tk, y], .cons ⟨_, rfl⟩ (.cons ru .nil), ⟨_, hT2, rfl, _, rfl⟩⟩
    have I1 : Inv X pins σ (upd H s.heap.objs.size (.tup [.int (i : Nat), x])) { s with heap := h'', toks := tk + 1 } :=
      I.turnedNew (ch := [e, it]) (fun b ob hb q => (sb.2 b (fun z => hb (by simp [z]))).trans (hk b ob (fun z => hb (by simp [z])) (fun z => hb (by simp [z])) q)) hf (Nat.le_refl _) new
    refine ⟨.ref s.heap.objs.size, _, I1, rfl, ⟨_, x, rfl, I.hok.fresh (Nat.le_refl _), rfl, fun ys hy => by rw [I.tuple_inj hy hq]; exact hx⟩, ⟨⟨y, ?_⟩, hit'.1.at fun o q => (sb.2 it (Ne.symm hne)).trans q, hne, hai, hea⟩, fun b hb => ?_⟩
    · have e1 : ((i + 1 : Nat) : Int) = (i : Int) + 1 := by omega
      rw [e1]; exact he'
    · have e' : b = e ∨ b = it := by simpa using hb
      have hb' : b < s.heap.objs.size := by
        rcases e' with z | z
        · rw [z]; exact hel
        · rw [z]; exact hil
      rw [upd_ne (Nat.ne_of_lt hb')]
      exact (hf b hb).1
  done := by
    intro X hP hw hK hc i pins s σ H E I hf st hg
    subst hP hw hK
    obtain ⟨⟨old, he⟩, hit, hne, hai, hea⟩ := st
    obtain ⟨xs, hq, hx⟩ := hg
    obtain ⟨its, rv, p, hz⟩ := I.tuple hq
    have pt : s.heap.IsTuple a its.toArray := p
    obtain ⟨f0, f1, f2, f3, f4, f5⟩ := hf it (by simp)
    have hl : its.toArray.size = i := by
      rw [← hx, rv.length]
      simp
    refine wpAny_pyNext_enum_endD (Draws.tuple (A := X.A.in1) (by simpa using I.ok.hd hc) it a hai its.toArray) he ⟨by rw [hl]; exact hit, pt⟩ fun h' eb => ⟨rfl, I.turned (t' := s.toks) (fun b o hb q => eb b o hb q) f0 f1 f3 f4 f5⟩
  self := fun A i s Q E st h => let ⟨⟨_, he⟩, _⟩ := st; wpAny_pyIter_enum he h
def iEnumT (K : PySem.W.Frag) (ta : TA) : TI := fun σ H R => ta σ H fun vs H1 => ∃ a xs, vs = [.ref a] ∧ SqT K H1 a xs ∧ R (IteT K a) H1
theorem pi_enumT {X : Cx} {e : Expr} {ta : TA} {p pos tpos : Pos} {elts : List Expr} {kk : Nat} (hg : Gl X "enumerate") (hm : X.mg "enumerate" = none) (ha : PA X [e] ta) (hs : starEach [e] X.env = [(false, eval e X.env)] := by rfl) :
    PI X (.Tuple elts kk tpos) (.Call (.Name "enumerate" p) [e] [] pos) (iEnumT X.K ta) := by
  refine ⟨fun pins s σ H R I h => ?_⟩
  refine Call_ (ld_blt I hg hm boot_enumerate (PyProof.Rows.callWith_type1 (thn (ha.run pos pins s σ H _ I h) fun us s1 ⟨vs, H1, I1, r1, q1⟩ => ?_) hs rfl))
  obtain ⟨a, xs, ex, hq, q⟩ := q1
  subst ex
  cases r1 with
  | cons r rr =>
    cases rr
    cases r
    obtain ⟨its, rv, p', hz⟩ := I1.tuple hq
    have pt : s1.heap.IsTuple a its.toArray := p'
    have below : a < s1.heap.objs.size := by obtain ⟨_, q, _⟩ := pt; exact Heap.lt_size q
    refine enum_tuple pt fun h' he hit hsz hk => wpAny_pyIter_enum he ?_
    have I2 : Inv X pins σ H1 { s1 with heap := h' } := I1.kept (t' := s1.toks) hk
    refine ⟨s1.heap.objs.size + 1, [s1.heap.objs.size + 1, s1.heap.objs.size], _, _, H1, rfl, I2, turn_enumT a (s1.heap.objs.size + 1) s1.heap.objs.size, ⟨⟨.none, he⟩, hit, Nat.succ_ne_self _, Nat.ne_of_lt below, Nat.ne_of_gt (Nat.lt_succ_of_lt below)⟩, fun b hb => ?_, q⟩
    have e' : b = s1.heap.objs.size + 1 ∨ b = s1.heap.objs.size := by simpa using hb
    have hle : s1.heap.objs.size ≤ b := by
      rcases e' with z | z
      · rw [z]; exact Nat.le_add_right _ _
      · rw [z]; exact Nat.le_refl _
    exact I1.fpOk hle (I1.hok.fresh hle)
theorem walk_enumT {K : PySem.W.Frag} {a : Addr} {xs : List V} : L2.Walk (IteT K a) xs.length (fun H => SqT K H a xs) (YPair (fun i => some (.int (i : Nat))) (fun i => xs[i]?)) :=
  ⟨fun i H hi q => ⟨xs, xs[i], q, by simp [hi]⟩, fun H q => ⟨xs, q, rfl⟩, fun i H x H' hi q ⟨T, y, e1, e2, e3, e4⟩ => ⟨T, _, y, e1, e2, e3, rfl, e4 xs q⟩⟩

/-! ### a dict comprehension over any walk -/
theorem dc_it {J : It} {n : Nat} {G : Hp → Prop} {Y : Nat → Hp → V → Hp → Prop} (w : L2.Walk J n G Y) {g : TG} {tt : TT} {tk tv : TE} {vs : List Nat} {σ : L2.St} {H1 : Hp} {D : Addr} {Qd : Hp → Prop} (Pv : Nat → Hp → Prop) (h0 : Pv 0 (upd H1 D (.dK []))) (hG : ∀ i H, i ≤ n → Pv i H → G H)
    (hs : ∀ i x H H', i < n → Pv i H → Y i H x H' → g x (wipe σ vs) H' fun σ2 H2 => wipe σ2 vs = wipe σ vs ∧ tt σ2 H2 fun b H3 =>
      if b = true then tk σ2 H3 fun y H4 => tv σ2 H4 fun z H5 => ∃ kvs k, y = kV k ∧ H5 D = some (.dK kvs) ∧ kvs.length < sizeLine ∧ Pv (i + 1) (upd H5 D (.dK (putK kvs k z))) else Pv (i + 1) H3) (hd : ∀ H, Pv n H → Qd H) :
    ∃ W : Nat → Nat → Hp → Prop, (∃ m, W 0 m (upd H1 D (.dK []))) ∧ ∀ i m H, W i m H →
      (J.stop i H ∧ Qd H) ∨ (J.go i H ∧ ∃ Nx : Hp → Prop, (∀ H', Nx H' → ∃ m', m' < m ∧ W (i + 1) m' H') ∧ ∀ x H', J.yld i H x H' → g x (wipe σ vs) H' fun σ2 H2 => wipe σ2 vs = wipe σ vs ∧ tt σ2 H2 fun b H3 =>
        if b = true then tk σ2 H3 fun y H4 => tv σ2 H4 fun z H5 => ∃ kvs k, y = kV k ∧ H5 D = some (.dK kvs) ∧ kvs.length < sizeLine ∧ Nx (upd H5 D (.dK (putK kvs k z))) else Nx H3) := by
  refine ⟨fun i m H => m = n - i ∧ i ≤ n ∧ Pv i H, ⟨n, rfl, Nat.zero_le _, h0⟩, fun i m H ⟨em, hi, p⟩ => ?_⟩
  subst em
  have q := hG i H hi p
  rcases Nat.lt_or_eq_of_le hi with hlt | e
  · exact .inr ⟨w.goes i H hlt q, Pv (i + 1), fun H' p' => ⟨n - (i + 1), by omega, rfl, hlt, p'⟩, fun x H' y => hs i x H H' hlt p (w.yields i H x H' hlt q y)⟩
  · subst e
    exact .inl ⟨w.stops H q, hd H p⟩

/-! ### isinstance, one class -/
theorem isi_tuple {K : PySem.W.Frag} {H : Hp} {a : Addr} {xs : List V} (h : SqT K H a xs) : TyX K H (.ref a) (.type "tuple") := by
  rcases h with (h | ⟨o, h⟩) | ⟨o, _, _, e, c, _⟩
  · exact .base (.tup h)
  · exact .fTuple h
  · exact .kTuple e c
end Ft
namespace Ft
open PySem PySem.Spec PyProof.Rows L2
/-- a block within a block -/
theorem blkIn {N : List Str} {env : Env} {cl : List (Str × Addr)} {C : Addr} {scope inner sc : Scope} {own : List (Str × Nat)} (he : env.scope = sc) (h : blkC N (relS scope sc) inner own = true) : BlkOk N (compEnvC scope cl C env).scope inner own := by
  subst he
  exact blkOk_by h
end Ft
namespace Ft
open PySem PySem.Spec PyProof.Rows L2
/-! ### the layer's rules whose reading names the written part, under names of their own -/
def rLenS (K : PySem.W.Frag) : List V → Hp → VK → Prop := fun xs H Q => ∃ p ys, xs = [.ref p] ∧ (SqL K H p ys ∨ SqT K H p ys) ∧ Q (.int ys.length) H
theorem call_lenS {X : Cx} : CallR X (.builtin "len") (rLenS X.K) := call_len_seq
def rListOf (K : PySem.W.Frag) : List V → Hp → VK → Prop := fun xs H Q => ∃ p ys, xs = [.ref p] ∧ (SqL K H p ys ∨ SqT K H p ys) ∧ ∀ l, H l = none → Q (.ref l) (upd H l (.lst ys))
theorem call_listOf {X : Cx} : CallR X (.type "list") (rListOf X.K) := call_list_of
def rTupleOf (K : PySem.W.Frag) : List V → Hp → VK → Prop := fun xs H Q => ∃ p ys, xs = [.ref p] ∧ ((SqL K H p ys ∧ ∀ l, H l = none → Q (.ref l) (upd H l (.tup ys))) ∨ (SqT K H p ys ∧ Q (.ref p) H))
theorem call_tupleOf {X : Cx} : CallR X (.type "tuple") (rTupleOf X.K) := call_tuple_of
end Ft
namespace Ft
open PySem PySem.Spec PyProof.Rows L2
theorem at_name {i : Nat} {v : V} {σ : L2.St} {H : Hp} {Q : L2.St → Hp → Prop} (h : Q (σ.set i (some v)) H) : gName i v σ H Q := h
theorem at_seq {a b : TS} {D : Ends} {σ : L2.St} {H : Hp} (h : a { D with nx := b D } σ H) : tSeq a b D σ H := h
end Ft
namespace Ft
open PySem PySem.Spec PyProof.Rows L2
/-! ### a word between two statements, and behind an expression -/
def tCut (t u : TS) : TS := fun D σ H => ∃ M : L2.St → Hp → Prop, t { D with nx := M } σ H ∧ ∀ σ' H', M σ' H' → u D σ' H'
theorem ps_cut {X : Cx} {st : Stmt} {rest : List Stmt} {t u : TS} (h1 : PS X st t) (h2 : PSs X rest u) : PSs X (st :: rest) (tCut t u) := by
  refine ⟨fun pins s σ H D I h => ?_⟩
  obtain ⟨M, hm, hu⟩ := h
  refine wpAny_execs_cons (thn (h1.run pins s σ H { D with nx := M } I hm) ?_)
  intro f s1 q
  match f, q with
  | .next, q =>
    obtain ⟨σ', H', I', q⟩ := q
    exact h2.run pins s1 σ' H' D I' (hu σ' H' q)
  | .ret v, q => exact q
  | .brk, q => exact q
  | .cont, q => exact q
def tMid (te : TE) : TE := fun σ H Q => ∃ M : V → Hp → Prop, te σ H M ∧ ∀ v H', M v H' → Q v H'
theorem pe_mid {X : Cx} {e : Expr} {te : TE} (h : PE X e te) : PE X e (tMid te) := by
  refine ⟨fun pins s σ H Q I ⟨M, hm, hu⟩ => ?_⟩
  exact thn (h.run pins s σ H M I hm) fun u s1 ⟨v, H1, I1, r, m⟩ => ⟨v, H1, I1, r, hu v H1 m⟩
def tMidT (tt : TT) : TT := fun σ H Q => ∃ M : Bool → Hp → Prop, tt σ H M ∧ ∀ b H', M b H' → Q b H'
theorem pt_mid {X : Cx} {e : Expr} {tt : TT} (h : PT X e tt) : PT X e (tMidT tt) := by
  refine ⟨fun pins s σ H Q I ⟨M, hm, hu⟩ => ?_⟩
  exact thn (h.run pins s σ H M I hm) fun b s1 ⟨H1, I1, m⟩ => ⟨H1, I1, hu b H1 m⟩
theorem ite_any {c : Bool} {A B : Prop} (a : c = true → A) (b : c = false → B) : if c = true then A else B := by
  cases c with
  | true => exact iteT (a rfl)
  | false => exact iteF (b rfl)
end Ft

set_option Elab.async false
set_option linter.all false
set_option maxRecDepth 100000
set_option maxHeartbeats 4000000
namespace Ft
open PySem PySem.Spec PyProof.Rows L2
/-! ### the heap: what stays, and maps as they lie in it -/
def vN (n : Nat) : V := .int (n : Int)
def iN (l : List Nat) : List Int := l.map fun (n : Nat) => (n : Int)
theorem vN_map (l : List Nat) : l.map vN = (iN l).map V.int := by
  unfold iN
  rw [List.map_map]
  rfl
theorem iN_length (l : List Nat) : (iN l).length = l.length := List.length_map ..
theorem iN_mem {l : List Nat} {n : Nat} : (n : Int) ∈ iN l ↔ n ∈ l := by
  unfold iN
  constructor
  · intro h
    obtain ⟨m, hm, e⟩ := List.mem_map.mp h
    have : m = n := by omega
    exact this ▸ hm
  · intro h
    exact List.mem_map.mpr ⟨n, h, rfl⟩
/-- all but the objects in ex stay as they are -/
def Kp (ex : List Addr) (H H' : Hp) : Prop := ∀ b o, b ∉ ex → H b = some o → H' b = some o
theorem Kp.refl (ex : List Addr) (H : Hp) : Kp ex H H := fun _ _ _ h => h
theorem Kp.trans {ex : List Addr} {H H1 H2 : Hp} (a : Kp ex H H1) (b : Kp ex H1 H2) : Kp ex H H2 := fun c o n h => b c o n (a c o n h)
theorem Kp.of_same {ex : List Addr} {H H1 : Hp} (a : Same H H1) : Kp ex H H1 := fun c o _ h => a c o h
theorem Same.kp {ex : List Addr} {H H1 : Hp} (a : Same H H1) : Kp ex H H1 := fun c o _ h => a c o h
theorem same_upd {H : Hp} {p : Addr} {o : HO} (n : H p = none) : Same H (upd H p o) := fun b u e => by
  rw [upd_ne (ne_of_none e n)]
  exact e
theorem same_free {H H' : Hp} (a : Same H H') {p : Addr} (n : H' p = none) : H p = none := a.free n
theorem kp_free {ex : List Addr} {H H' : Hp} (a : Kp ex H H') {p : Addr} (hp : p ∉ ex) (n : H' p = none) : H p = none := by
  cases q : H p with
  | none => rfl
  | some o =>
    rw [a p o hp q] at n
    cases n
/-- a tuple stays where only lists and dicts change -/
def Lists (ex : List Addr) (H : Hp) : Prop := ∀ b ∈ ex, ∃ o, H b = some o ∧ (∀ xs, o ≠ .tup xs) ∧ ∀ q xs, o ≠ .frz q (.tup xs)
theorem Kp.sqT {K : PySem.W.Frag} {ex : List Addr} {H H' : Hp} (k : Kp ex H H') (l : Lists ex H) {a : Addr} {xs : List V} (h : SqT K H a xs) : SqT K H' a xs := by
  have off : ∀ o, H a = some o → ((∃ ys, o = .tup ys) ∨ ∃ q ys, o = .frz q (.tup ys)) → a ∉ ex := by
    intro o e t m
    obtain ⟨u, e1, n1, n2⟩ := l a m
    have : o = u := Option.some.inj (e.symm.trans e1)
    subst this
    rcases t with ⟨ys, t⟩ | ⟨q, ys, t⟩
    · exact n1 ys t
    · exact n2 q ys t
  rcases h with (h | ⟨o, h⟩) | h
  · exact .inl (.inl (k _ _ (off _ h (.inl ⟨_, rfl⟩)) h))
  · exact .inl (.inr ⟨o, k _ _ (off _ h (.inr ⟨_, _, rfl⟩)) h⟩)
  · exact .inr h
theorem Kp.sqL {K : PySem.W.Frag} {ex : List Addr} {H H' : Hp} (k : Kp ex H H') {a : Addr} {xs : List V} (n : a ∉ ex) (h : SqL K H a xs) : SqL K H' a xs := by
  rcases h with (h | ⟨o, h⟩) | h
  · exact .inl (.inl (k _ _ n h))
  · exact .inl (.inr ⟨o, k _ _ n h⟩)
  · exact .inr h
theorem lists_nil (H : Hp) : Lists [] H := fun _ h => nomatch h
theorem Same.sqT {K : PySem.W.Frag} {H H' : Hp} (k : Same H H') {a : Addr} {xs : List V} (h : SqT K H a xs) : SqT K H' a xs := (Same.kp (ex := []) k).sqT (lists_nil H) h

/-- a map -/
structure Chart where
  n : Nat
  roads : List (Nat × Nat)
  wished : List Nat
/-- a row of pairs at the addresses ts -/
def PairsAt (K : PySem.W.Frag) (H : Hp) (ts : List Addr) (ps : List (Nat × Nat)) : Prop := Paired (fun (t : Addr) (p : Nat × Nat) => SqT K H t [vN p.1, vN p.2]) ts ps
structure ChartAt (K : PySem.W.Frag) (H : Hp) (c : Addr) (C : Chart) (r w : Addr) (ts : List Addr) : Prop where
  top : SqT K H c [vN C.n, .ref r, .ref w]
  row : SqT K H r (ts.map V.ref)
  prs : PairsAt K H ts C.roads
  wis : SqT K H w (C.wished.map vN)
def IsChart (K : PySem.W.Frag) (H : Hp) (c : Addr) (C : Chart) : Prop := ∃ r w ts, ChartAt K H c C r w ts
theorem paired_imp {α β : Type} {R S : α → β → Prop} (h : ∀ a b, R a b → S a b) : ∀ {as : List α} {bs : List β}, Paired R as bs → Paired S as bs
  | _, _, .nil => .nil
  | _, _, .cons r t => .cons (h _ _ r) (paired_imp h t)
theorem PairsAt.keep {K : PySem.W.Frag} {ex : List Addr} {H H' : Hp} (k : Kp ex H H') (l : Lists ex H) {ts : List Addr} {ps : List (Nat × Nat)} (h : PairsAt K H ts ps) : PairsAt K H' ts ps :=
  paired_imp (fun _ _ q => k.sqT l q) h
theorem ChartAt.keep {K : PySem.W.Frag} {ex : List Addr} {H H' : Hp} (k : Kp ex H H') (l : Lists ex H) {c r w : Addr} {C : Chart} {ts : List Addr} (h : ChartAt K H c C r w ts) : ChartAt K H' c C r w ts :=
  ⟨k.sqT l h.top, k.sqT l h.row, h.prs.keep k l, k.sqT l h.wis⟩
theorem IsChart.keep {K : PySem.W.Frag} {ex : List Addr} {H H' : Hp} (k : Kp ex H H') (l : Lists ex H) {c : Addr} {C : Chart} (h : IsChart K H c C) : IsChart K H' c C := let ⟨r, w, ts, q⟩ := h; ⟨r, w, ts, q.keep k l⟩
theorem IsChart.same {K : PySem.W.Frag} {H H' : Hp} (k : Same H H') {c : Addr} {C : Chart} (h : IsChart K H c C) : IsChart K H' c C := h.keep (Same.kp (ex := []) k) (lists_nil H)
theorem ChartAt.same {K : PySem.W.Frag} {H H' : Hp} (k : Same H H') {c r w : Addr} {C : Chart} {ts : List Addr} (h : ChartAt K H c C r w ts) : ChartAt K H' c C r w ts := h.keep (Same.kp (ex := []) k) (lists_nil H)
theorem paired_get {α β : Type} {R : α → β → Prop} : ∀ {as : List α} {bs : List β} {i : Nat} {b : β}, Paired R as bs → bs[i]? = some b → ∃ a, as[i]? = some a ∧ R a b
  | _, _, _, _, .nil, e => by simp at e
  | _, _, 0, _, .cons r _, e => by
    simp at e
    subst e
    exact ⟨_, rfl, r⟩
  | _, _, i + 1, b, .cons _ t, e => by
    obtain ⟨a, h1, h2⟩ := paired_get (i := i) t (by simpa using e)
    exact ⟨a, by simpa using h1, h2⟩
theorem paired_getL {α β : Type} {R : α → β → Prop} : ∀ {as : List α} {bs : List β} {i : Nat} {a : α}, Paired R as bs → as[i]? = some a → ∃ b, bs[i]? = some b ∧ R a b
  | _, _, _, _, .nil, e => by simp at e
  | _, _, 0, _, .cons r _, e => by
    simp at e
    subst e
    exact ⟨_, rfl, r⟩
  | _, _, i + 1, b, .cons _ t, e => by
    obtain ⟨a, h1, h2⟩ := paired_getL (i := i) t (by simpa using e)
    exact ⟨a, by simpa using h1, h2⟩
/-- the order of pairs -/
def ltP (p q : Nat × Nat) : Prop := p.1 < q.1 ∨ (p.1 = q.1 ∧ p.2 < q.2)
structure Chart.Ok (C : Chart) : Prop where
  n60 : C.n ≤ 60
  many : C.roads.length ≤ 240
  inR : ∀ p ∈ C.roads, p.1 < C.n ∧ p.2 < C.n
  upR : C.roads.Pairwise ltP
  inW : ∀ a ∈ C.wished, a < C.n
  upW : C.wished.Pairwise (· < ·)
/-- the builtins' names that the top has left alone, and its own two numbers -/
structure Txt (mg : Str → Option Value) : Prop where
  isinstance : mg "isinstance" = none
  len : mg "len" = none
  tuple : mg "tuple" = none
  int : mg "int" = none
  bool : mg "bool" = none
  enumerate : mg "enumerate" = none
  range : mg "range" = none
  set : mg "set" = none
  list : mg "list" = none
  sorted : mg "sorted" = none
  min : mg "min" = none
  max : mg "max" = none
  repr : mg "repr" = none
  dict : mg "dict" = none
  str : mg "str" = none
  any : mg "any" = none
  all : mg "all" = none
  sum : mg "sum" = none
  zip : mg "zip" = none
end Ft

set_option Elab.async false
set_option linter.all false
set_option maxRecDepth 100000
set_option maxHeartbeats 4000000
namespace Ft
open PySem PySem.Spec PyProof.Rows L2
/-! ### set(xs), xs many ints among few -/
theorem nodup_sub_len {α : Type} [DecidableEq α] : ∀ (l D : List α), l.Nodup → (∀ x ∈ l, x ∈ D) → l.length ≤ D.length
  | [], _, _, _ => Nat.zero_le _
  | x :: l, D, nd, h => by
    obtain ⟨n1, n2⟩ := List.nodup_cons.mp nd
    have hx := h x List.mem_cons_self
    have ih := nodup_sub_len l (D.erase x) n2 fun y hy => (List.mem_erase_of_ne (fun e : y = x => n1 (e ▸ hy))).mpr (h y (List.mem_cons_of_mem _ hy))
    rw [List.length_erase_of_mem hx] at ih
    have := List.length_pos_of_mem hx
    rw [List.length_cons]
    omega
theorem setR_count {w : World} {h : Heap} {a : Addr} {S : Int → Bool} {n : Nat} (R : SetR w h a S n) {D : List Int} (hD : ∀ k, S k = true → k ∈ D) : n ≤ D.length := by
  obtain ⟨o, es, ep, t, _, _, _, _, nd, mem, _, _, e, _⟩ := R
  have := nodup_sub_len _ D nd fun k hk => hD k ((mem k).mpr hk)
  rw [List.length_map, Array.length_toList] at this
  omega
def rSetN (K : PySem.W.Frag) (w : World) : List V → Hp → VK → Prop := fun xs H Q => ∃ (l : Addr) (ns : List Int), xs = [V.ref l] ∧ (SqL K H l (ns.map V.int) ∨ SqT K H l (ns.map V.int)) ∧ ns.length ≤ 1000 ∧
  ∀ (p : Addr) (n : Nat), H p = none → (∀ D : List Int, (∀ k ∈ ns, k ∈ D) → n ≤ D.length) → Q (.ref p) (upd H p (SetO w p (fun j => decide (j ∈ ns)) n))
theorem cr_setN {X : Cx} (hc : X.calm = true) : CallR X (.type "set") (rSetN X.K X.w) := by
  intro pins s σ H xs us Q I r h
  obtain ⟨l, ns, rfl, hl, few, q⟩ := h
  have few1 : ns.length + 1 < scanBound := Nat.lt_of_le_of_lt (Nat.succ_le_succ few) (by decide)
  have free : H s.heap.objs.size = none := I.hok.fresh (Nat.le_refl _)
  rw [Vals.ref1 r]
  rcases hl with hl | hl
  · obtain ⟨its, rv, pl, hz⟩ := I.list hl
    refine set_of_list ns (I.ok.hd hc) pl.isList (by simpa using rv.ints) few1 fun h' tk c hS hc2 hk => ?_
    exact ⟨.ref _, upd H s.heap.objs.size (SetO X.w s.heap.objs.size (fun j => decide (j ∈ ns)) c), I.laid (t' := tk) hk (Nat.le_refl _) (setO_new hS), rfl, q _ _ free fun D hD => setR_count hS fun k hk => hD k (of_decide_eq_true hk)⟩
  · obtain ⟨its, rv, pt, hz⟩ := I.tuple hl
    have pt2 : s.heap.IsTuple l its.toArray := pt
    refine call_set_tupI ns (I.ok.hd hc) pt2 (by simpa using ints_of_vals rv) few1 fun h' tk c hS hc2 hk => ?_
    exact ⟨.ref _, upd H s.heap.objs.size (SetO X.w s.heap.objs.size (fun j => decide (j ∈ ns)) c), I.laid (t' := tk) hk (Nat.le_refl _) (setO_new hS), rfl, q _ _ free fun D hD => setR_count hS fun k hk => hD k (of_decide_eq_true hk)⟩
end Ft

set_option Elab.async false
set_option linter.all false
set_option maxRecDepth 100000
set_option maxHeartbeats 4000000
/-! An error of an own class with an own __init__, made where nothing is handled: its context is None. -/
namespace Ft
open PySem PySem.Spec PyProof.Rows L2
section
variable {X : Cx} {e : Expr} {es : List Expr} {ta : TA} {p pos : Pos}
theorem pmk_oexN {CX : CXT} {x : Str} {C fI : Addr} {k : Nat} {fd : FuncData} {ps : List Str} {sp : Sp} (T : OexC X.K C) (iC : PySem.W.findIn X.K (.ref C) "__init__" = some (some (.ref fI))) (tI : PySem.W.typeIn X.K (.ref fI) = some (.type "function"))
    (init : FnOk X.prog X.w X.K X.mg X.base CX k fI fd ps sp) (hr : Room (k + 1) X.A) (binds : Binds X.K fd ps []) (silent : Passes CX X (fun _ _ _ => False)) (hg : Gl X x) (hm : X.mg x = some (.ref C)) (ha : PA X (e :: es) ta)
    (hdb : (x == ("__debug__" : Str)) = false := by decide) (he : starEach (e :: es) X.env = (false, eval e X.env) :: starEach es X.env := by rfl) (hpl : (backTo pos (starEach es X.env)).any (·.1) = false := by rfl) :
    L2N.PMk X (.Call (.Name x p) (e :: es) [] pos) (tMkO C sp [] ta) := by
  intro pins s σ H Q I h
  obtain ⟨nm, q, N, bs, bm, sn, sub, ab, col, dd, c0, c1, c2, c3, c5, stands, flags⟩ := T.cls
  refine wpAny_Call_Name_kw (ld_glob I hg hm (PySem.W.callWith_K (h₀ := X.base) I.ok.mod.kin T.kC (thn (ha.run pos pins s σ H _ I h) fun us s1 ran => ?_) he hpl) hdb)
  obtain ⟨vs, H1, I1, rel, few, told⟩ := ran
  refine ⟨I1.kIn, ?_⟩
  obtain ⟨hp, gens, drawn, toks, os⟩ := s1
  have above : hp.objs.size ≤ hp.objs.size + 1 := Nat.le_succ _
  have wish := told (hp.objs.size + 1) (I1.hok.fresh above)
  rw [List.append_nil] at wish
  have made : ((hp.push (PySem.W.kdv_tup us)).push (PySem.HandSPX.excO C hp.objs.size)).get? (hp.objs.size + 1) = some (PySem.HandSPX.excO C hp.objs.size) := by heap_get
  have old : ∀ b o, hp.get? b = some o → ((hp.push (PySem.W.kdv_tup us)).push (PySem.HandSPX.excO C hp.objs.size)).get? b = some o := fun b o z => Heap.get?_push_of_some _ (Heap.get?_push_of_some _ z)
  have I2 : Inv X pins σ (upd H1 (hp.objs.size + 1) (exo (hp.objs.size + 1) C none)) ⟨(hp.push (PySem.W.kdv_tup us)).push (PySem.HandSPX.excO C hp.objs.size), gens, drawn, toks, os⟩ := I1.laid (t' := toks) old above (exo_ok made)
  have rel2 : Vals (V.ref (hp.objs.size + 1) :: vs) (Value.ref (hp.objs.size + 1) :: us) := .cons rfl rel
  have size : (Value.ref (hp.objs.size + 1) :: us).length = ps.length := rel2.length.symm.trans (init.len _ _ _ _ wish)
  have bound := binds _ (Value.ref (hp.objs.size + 1) :: us) I2.kIn (by rw [List.append_nil]; exact size)
  rw [List.append_nil] at bound
  have fits : us.length ≤ sizeLine := by
    have := Paired.length rel
    rw [sizeLine_eq]
    omega
  refine wpAny_call (PySem.HandSPX.call_own F.excBase_ValueError (fun Y => PySem.HandSPX.refsVE_contains Y bm flags) (I1.kIn _ _ stands) (PySem.W.looks_findIn I1.kIn iC) (fun self => PySem.W.bind_fn I1.kIn self tI) fits ?_)
  refine codeAny_mono (init.run _ X.stack _ _ ⟨Value.ref (hp.objs.size + 1) :: us, []⟩ _ _ _ (fun _ _ _ => False) (hr.make C us []) (I2.env0.make C us []) bound rel2 wish) fun r s2 ended => ?_
  rcases r with er | (_ | _ | _ | u)
  · exact silent pins σ _ _ er s2 I2 ended
  all_goals first | exact False.elim ended | skip
  obtain ⟨v, H2, eos, bare, un, hok, rv, rfl, d, fs, ea, ed, free, q2⟩ := ended
  obtain ⟨h2, gens2, drawn2, toks2, os2⟩ := s2
  refine ⟨rv, ?_⟩
  obtain ⟨t0, G, J, back, gone, whole, na⟩ := mk_end0 (d2 := drawn2) (t2 := toks2) I1 above old un hok eos bare ea ed free
  exact ⟨hp.objs.size + 1, _, _, ⟨G, gens2, drawn2, toks2, os2⟩, _, .ref C, some d, rfl, J, back, gone, whole, ⟨rfl, rfl, fun fields z => by cases z; rfl⟩, rfl, rfl, na, rfl, bare, raises_own T.exC T.tyC, q2⟩
end
end Ft

set_option Elab.async false
set_option linter.all false
set_option maxRecDepth 100000
set_option maxHeartbeats 4000000
/-! Errors of own classes that share one __init__(self, what): raised, let through by a def, caught. -/
namespace Ft
open PySem PySem.Spec PyProof.Rows L2
/-- the class x of the text, at C; fI: the __init__ that it has -/
structure ErrC (K : PySem.W.Frag) (mg : Str → Option Value) (x : Str) (C fI : Addr) : Prop where
  g : mg x = some (.ref C)
  oex : OexC K C
  iC : PySem.W.findIn K (.ref C) "__init__" = some (some (.ref fI))
  tI : PySem.W.typeIn K (.ref fI) = some (.type "function")
  noW : PySem.W.findIn K (.ref C) "what" = some none
  xf : XfC K C
/-- __init__(self, what) -/
def spInit (K : PySem.W.Frag) : Sp := fun vs H Q _ => ∃ (a C : Addr) (v : V), vs = [.ref a, v] ∧ OexC K C ∧ PySem.W.findIn K (.ref C) "what" = some none ∧ H a = some (exo a C none) ∧
  ∀ dx, H dx = none → dx ≠ a → Q .non (upd (upd H dx (exd dx [("what", v)])) a (exo a C (some dx)))
/-- an error that may be raised -/
structure Er (P : Program) (w : World) (K : PySem.W.Frag) (mg : Str → Option Value) (base : Heap) (ca : Str → Addr) (x : Str) : Prop where
  ex : ∃ (fI : Addr) (fd : FuncData), ErrC K mg x (ca x) fI ∧ FnOk P w K mg base L2.CX0 1 fI fd ["self", "what"] (spInit K) ∧ Binds K fd ["self", "what"] []
theorem Er.c {P : Program} {w : World} {K : PySem.W.Frag} {mg : Str → Option Value} {base : Heap} {ca : Str → Addr} {x : Str} (e : Er P w K mg base ca x) : ∃ fI, ErrC K mg x (ca x) fI := let ⟨fI, _, h, _⟩ := e.ex; ⟨fI, h⟩
theorem upd_del {H : Hp} {a d : Addr} {o : HO} {u v : HO} {w : HO} (na : H a = none) (hd : d ≠ a) : upd (del (upd (upd (upd H a o) d u) a v) a) d w = upd H d w := by
  funext b
  by_cases h1 : b = d
  · rw [h1, upd_same, upd_same]
  · rw [upd_ne h1, upd_ne h1]
    by_cases h2 : b = a
    · rw [h2, del_same, na]
    · rw [del_ne h2, upd_ne h2, upd_ne h1, upd_ne h2]
theorem passF {X : Cx} {E : XK} : Passes L2.CX0 X E := fun _ _ _ _ _ _ _ h => h.elim
def tMidA (ta : TA) : TA := fun σ H Q => ∃ M : List V → Hp → Prop, ta σ H M ∧ ∀ vs H', M vs H' → Q vs H'
theorem pa_mid {X : Cx} {es : List Expr} {ta : TA} (h : PA X es ta) : PA X es (tMidA ta) := by
  refine ⟨fun pos pins s σ H Q I ⟨M, hm, hu⟩ => ?_⟩
  exact thn (h.run pos pins s σ H M I hm) fun us s1 ⟨vs, H1, I1, r, m⟩ => ⟨vs, H1, I1, r, hu vs H1 m⟩
/-- raise x(e) -/
def tRaise (C : Addr) (W : WX) (ta : TA) : TS := fun _ σ H => ta σ H fun vs H1 => ∃ v, vs = [v] ∧ ∀ d, H1 d = none → W (.ref C) (some d) σ (upd H1 d (.xd [("what", v)]))
section
variable {X : Cx} {ca : Str → Addr} {x : Str} {W : WX} {e : Expr} {es : List Expr} {ta : TA} {p pos pos2 : Pos} {k : Nat}
theorem ps_raiseE (hc : X.calm = true) (er : Er X.prog X.w X.K X.mg X.base ca x) (hr : Room k X.A) (hk : 2 ≤ k) (tk : L2N.Takes X W) (hg : Gl X x) (ha : PA X (e :: es) ta)
    (hdb : (x == ("__debug__" : Str)) = false := by decide) (he : starEach (e :: es) X.env = (false, eval e X.env) :: starEach es X.env := by rfl) (hpl : (backTo pos (starEach es X.env)).any (·.1) = false := by rfl) :
    PS X (.Raise (some (.Call (.Name x p) (e :: es) [] pos)) none pos2) (tRaise (ca x) W ta) := by
  obtain ⟨fI, fd, c, F, b⟩ := er.ex
  refine ⟨fun pins s σ H D I h => ?_⟩
  refine (L2N.ps_raise (pos := pos2) hc tk (pmk_oexN (pos := pos) (p := p) c.oex c.iC c.tI F (hr.mono hk) b passF hg c.g (pa_mid ha) hdb he hpl)).run pins s σ H D I ?_
  have imp : ∀ vs H1, (∃ v, vs = [v] ∧ ∀ d, H1 d = none → W (.ref (ca x)) (some d) σ (upd H1 d (.xd [("what", v)]))) →
      vs.length ≤ 1000 ∧ ∀ a, H1 a = none → spInit X.K (.ref a :: (vs ++ [])) (upd H1 a (exo a (ca x) none)) (fun v H2 => v = .non ∧ ∃ (d : Addr) (fs : List (Str × V)), H2 a = some (exo a (ca x) (some d)) ∧ H2 d = some (exd d fs) ∧ H1 d = none ∧ W (.ref (ca x)) (some d) σ (upd (del H2 a) d (.xd fs))) (fun _ _ _ => False) := by
    rintro vs H1 ⟨v, rfl, q⟩
    refine ⟨by simp, fun a na => ⟨a, ca x, v, rfl, c.oex, c.noW, upd_same, fun dx ndx hda => ⟨rfl, dx, [("what", v)], upd_same, ?_, ?_, ?_⟩⟩⟩
    · rw [upd_ne hda, upd_same]
    · rwa [upd_ne hda] at ndx
    · rw [upd_del na hda]
      rw [upd_ne hda] at ndx
      exact q dx ndx
  exact ⟨_, h, imp⟩
end
/-! ### defs that may raise -/
structure CalX (P : Program) (w : World) (K : PySem.W.Frag) (mg : Str → Option Value) (base : Heap) (k : Nat) (x : Str) (sp : Sp) : Prop where
  ex : ∃ (f : Addr) (fd : FuncData) (ps : List Str), FnOk P w K mg base (L2N.CX P w) k f fd ps sp ∧ mg x = some (.ref f) ∧ PySem.W.keepIn K (.ref f) = true ∧ Binds K fd ps []
theorem pe_x {X : Cx} {k j : Nat} {x : Str} {sp : Sp} {W : WX} {p pos : Pos} {e : Expr} {es : List Expr} {t : TA} (tk : L2N.Takes X W) (c : CalX X.prog X.w X.K X.mg X.base k x sp) (hr : Room j X.A) (hk : k ≤ j) (hg : Gl X x) (ha : PA X (e :: es) t)
    (hdb : (x == ("__debug__" : Str)) = false := by decide) (he : starEach (e :: es) X.env = (false, eval e X.env) :: starEach es X.env := by rfl) (hpl : (backTo pos (starEach es X.env)).any (·.1) = false := by rfl) :
    PE X (.Call (.Name x p) (e :: es) [] pos) (tCallS sp (WE W) t) := by
  obtain ⟨f, fd, ps, F, hm, kp, b⟩ := c.ex
  exact pe_callS F (hr.mono hk) hg hm kp b (fun σ => L2N.passAt tk σ) ha hdb he hpl
theorem okN {P : Program} {w : World} {K : PySem.W.Frag} {mg : Str → Option Value} {base : Heap} {x qual : Str} {st : Stmt} {f : Addr} {fd : FuncData} {N ps : List Str} {k : Nat} {sp : Sp} (F : L2.Fun K x qual st f fd) (S : FnScope N ps (L2.defScope st)) (len : ∀ vs H Q E, sp vs H Q E → vs.length = ps.length)
    (body : ∀ (cdv : Value) (A : Around) (outer : List Env) (s : Shared) (H : Hp) (vs : List V) (Q : VK) (E : XK), Room k (A.deeper (envOfC qual (L2.defScope st) s.heap.objs.size f cdv)) → sp vs H Q E →
      ∃ t, PSs (cxOf (L2N.CX P w) P w K mg base N qual (L2.defScope st) f cdv A outer s H E) (L2.defBody st) t ∧ t { nx := fun _ H' => Q .non H', rt := Q } (start N vs) H) : FnOk P w K mg base (L2N.CX P w) (k + 1) f fd ps sp := by
  obtain ⟨_, _, _, _, _, _, cdv, _, _, rfl, at_, code⟩ := F.ex
  exact fn_of at_ code S len fun A outer s H vs Q E => body cdv A outer s H vs Q E
theorem calx_of {P : Program} {w : World} {K : PySem.W.Frag} {mg : Str → Option Value} {base : Heap} {x : Str} {st : Stmt} {N ps : List Str} {k : Nat} {sp : Sp} (D : Def K mg x st) (S : FnScope N ps (L2.defScope st))
    (bd : ∀ (kV doc pm : Value) (an : Option Addr) (cdv ct : Value) (us : List Value), us.length = ps.length → bindArgs (PySem.W.fnOf x x (L2.defArgs st) (L2.defBody st) (L2.defScope st) .none kV doc pm an cdv ct) ⟨us, []⟩ = pure (ps.zip us))
    (len : ∀ vs H Q E, sp vs H Q E → vs.length = ps.length)
    (body : ∀ (f : Addr) (cdv : Value) (A : Around) (outer : List Env) (s : Shared) (H : Hp) (vs : List V) (Q : VK) (E : XK), Room k (A.deeper (envOfC x (L2.defScope st) s.heap.objs.size f cdv)) → sp vs H Q E →
      ∃ t, PSs (cxOf (L2N.CX P w) P w K mg base N x (L2.defScope st) f cdv A outer s H E) (L2.defBody st) t ∧ t { nx := fun _ H' => Q .non H', rt := Q } (start N vs) H) : CalX P w K mg base (k + 1) x sp := by
  obtain ⟨f, fd, F, hm⟩ := D.ex
  exact ⟨f, fd, ps, okN F S len (body f), hm, F.kp, F.binds bd⟩
/-- .. where nothing is raised -/
theorem fnOk_valid {P : Program} {w : World} {K : PySem.W.Frag} {mg : Str → Option Value} {base : Heap} {k : Nat} {f : Addr} {fd : FuncData} {ps : List Str} {sp sp' : Sp} (F : FnOk P w K mg base (L2N.CX P w) k f fd ps sp)
    (h : ∀ vs H Q E, sp' vs H Q E → sp vs H Q L2.E0) : FnOk P w K mg base L2.CX0 k f fd ps sp' :=
  ⟨fun vs H Q E q => F.len vs H Q _ (h _ _ _ _ q), fun A outer s H args us vs Q E hr he hb hv hs => codeAny_mono (F.run A outer s H args us vs Q L2.E0 hr he hb hv (h _ _ _ _ hs)) fun r s' hq => by
    cases r with
    | error e =>
      obtain ⟨_, _, _, _, _, _, _, _, _, _, _, _, z⟩ := hq
      exact z.elim
    | ok fl => cases fl <;> exact hq⟩
theorem CalX.valid {P : Program} {w : World} {K : PySem.W.Frag} {mg : Str → Option Value} {base : Heap} {k : Nat} {x : Str} {sp sp' : Sp} (c : CalX P w K mg base k x sp) (h : ∀ vs H Q E, sp' vs H Q E → sp vs H Q L2.E0) : Cal P w K mg base k x sp' := by
  obtain ⟨f, fd, ps, F, hm, kp, b⟩ := c.ex
  exact ⟨f, fd, ps, fnOk_valid F h, hm, kp, b⟩
theorem Cal.imp {P : Program} {w : World} {K : PySem.W.Frag} {mg : Str → Option Value} {base : Heap} {k : Nat} {x : Str} {sp sp' : Sp} (c : Cal P w K mg base k x sp) (h : ∀ vs H Q E, sp' vs H Q E → sp vs H Q E) : Cal P w K mg base k x sp' := by
  obtain ⟨f, fd, ps, F, hm, kp, b⟩ := c.ex
  exact ⟨f, fd, ps, F.imp h, hm, kp, b⟩
/-- what is wanted of an error e, of all that may leave -/
def Raised (K : PySem.W.Frag) (ca : Str → Addr) (H : Hp) (E : XK) (e : Str × PyData) : Prop := ∀ (d : Addr) (H' : Hp) (v : V), Same H H' → H' d = some (.xd [("what", v)]) → Dp K H' v e.2 → E (.ref (ca e.1)) (some d) H'
theorem Raised.same {K : PySem.W.Frag} {ca : Str → Addr} {H H1 : Hp} {E : XK} {e : Str × PyData} (r : Raised K ca H E e) (s : Same H H1) : Raised K ca H1 E e := fun d H' v s' hd hv => r d H' v (s.trans s') hd hv
end Ft

set_option Elab.async false
set_option linter.all false
set_option maxRecDepth 100000
set_option maxHeartbeats 4000000
/-! Several except clauses, each with a name or without. -/
namespace Ft
open PySem PySem.Spec PyProof.Rows L2
theorem takesN0 {X : Cx} : L2N.Takes X (fun _ _ _ _ => False) := fun _ _ ⟨_, _, _, _, _, _, _, _, _, _, _, _, _, _, _, _, z⟩ => z.elim
abbrev Hd := Value × Option Nat × (Addr → Value → Option Addr → TS)
def gone (i : Nat) (D : Ends) : Ends := { nx := fun σ' H' => D.nx (σ'.set i none) H', rt := D.rt, bk := fun σ' H' => D.bk (σ'.set i none) H', ct := fun σ' H' => D.ct (σ'.set i none) H' }
def wHd (o : Option Nat) (ts : Addr → Value → Option Addr → TS) (a : Addr) (cls : Value) (d : Option Addr) (D : Ends) (σ : L2.St) (H : Hp) : Prop := match o with
  | none => ts a cls d D σ H
  | some i => ts a cls d (gone i D) (σ.set i (some (.ref a))) H
/-- what the clauses wish of an exception of the body -/
def wMs (K : PySem.W.Frag) (n : Nat) (Wout : WX) (D : Ends) : List Hd → WX
  | [] => Wout
  | (c, o, ts) :: r => fun cls d σ H => ∃ b, PySem.W.exmOne K cls c = some b ∧ (b = true → ∀ a, H a = none → σ.length = n → wHd o ts a cls d D σ H) ∧ (b = false → wMs K n Wout D r cls d σ H)
inductive HdsA (X : Cx) : List ExceptHandler → List Hd → Prop
  | nil : HdsA X [] []
  | no {x : Str} {c : Value} {ts : Addr → Value → Option Addr → TS} {b₀ : Stmt} {suite : List Stmt} {np pos' : Pos} {hds : List ExceptHandler} {l : List Hd} (hc : Names X x c)
      (hsu : ∀ (a : Addr) (oe : Obj) (cls : Value) (d : Option Addr) (pn : List (Addr × Obj)), L2N.Zn cls d oe → (∃ vs, oe.data = .fields vs) → PSs (X.suite a ((a, oe) :: pn)) (b₀ :: suite) (ts a cls d)) (r : HdsA X hds l) :
      HdsA X (.ExceptHandler (some (.Name x np)) none (b₀ :: suite) pos' :: hds) ((c, none, ts) :: l)
  | as {x n : Str} {c : Value} {i : Nat} {ts : Addr → Value → Option Addr → TS} {b₀ : Stmt} {suite : List Stmt} {np pos' : Pos} {hds : List ExceptHandler} {l : List Hd} (hi : X.N[i]? = some n) (hln : X.env.kindOf n = some .local) (hc : Names X x c)
      (hsu : ∀ (a : Addr) (oe : Obj) (cls : Value) (d : Option Addr) (pn : List (Addr × Obj)), L2N.Zn cls d oe → (∃ vs, oe.data = .fields vs) → PSs (X.suite a ((a, oe) :: pn)) (b₀ :: suite) (ts a cls d)) (r : HdsA X hds l) :
      HdsA X (.ExceptHandler (some (.Name x np)) (some n) (b₀ :: suite) pos' :: hds) ((c, some i, ts) :: l)
section
variable {X : Cx} {body : List Stmt} {h₀ : ExceptHandler} {hds : List ExceptHandler} {l : List Hd} {pos : Pos} {tb : WX → TS} {Wout : WX}
theorem ps_try_ms (hs : X.stack = X.env :: X.outer) (hf : X.env.frame = some X.env.locals) (hN : X.N.Nodup) (tk : L2N.Takes X Wout)
    (hb : ∀ (W : WX) (pn : List (Addr × Obj)) (xe : Value → Shared → Prop), L2N.Takes (X.tr pn xe) W → PassesOwn (model X.prog X.w) X.A X.env xe → PSs (X.tr pn xe) body (tb W))
    (hh : HdsA X (h₀ :: hds) l) : PS X (.Try body (h₀ :: hds) [] [] pos) (fun D σ H => tb (wMs X.K X.N.length Wout D l) D σ H) := by
  refine ⟨fun pins s σ H D I h => ?_⟩
  have ok := I.ok
  have hfr : X.A.frames = some (X.env :: X.outer) := by rw [ok.frames, hs]
  refine wpAny_Try_except ?_
  refine wpAny_mono ((hb (wMs X.K X.N.length Wout D l) (X.pn ++ pins) (fun e s₁ => wpAny (model X.prog X.w) X.A (noteFrame e X.env) (fun _ s₂ => wpAny (model X.prog X.w) X.A (setFlight e none) (fun _ s₃ =>
    wpAny (model X.prog X.w) X.A (handleBy e X.env (h₀ :: hds)) (SP X pins D) X.xe s₃) X.xe s₂) X.xe s₁) (fun u s' xx => ?_) PassesOwn.looking).run [] s σ H D (I.toTry _) h) (fun f s1 hsp => ?_) (fun e s1 he => he)
  · -- the catch
    obtain ⟨a, B, sI, pins', σ', H', cls, d, rfl, J', nb, up, sky, na, os, ag, w⟩ := xx
    have J : Inv X pins σ' H' sI := J'.ofTry ok
    have sky' : Sky B (X.env :: X.outer) a (L2N.Zn cls d) X.env.locals s'.heap := by rw [← hs]; exact sky
    show wpAny (model X.prog X.w) X.A (noteFrame (.ref a) X.env) _ _ _
    refine L2N.Sky.land L2N.Zn.steady hfr hf sky' fun h3 fl3 up3 => ?_
    have J3 : Inv X pins σ' H' { s' with heap := h3 } := J.landed nb fl3.1 (up.trans up3) os ag
    obtain ⟨oe3, vs3, he3, hz3, hd3⟩ := fl3.there
    have notFr : ∀ {h : Heap} {o : Obj} {vs : Array Value}, h.FunFrames B (X.env :: X.outer) → h.get? a = some o → o.data = .fields vs → a ∉ frs (X.env :: X.outer) := fun {h o vs} ff e dd hm => by
      obtain ⟨_, o', e', hnf⟩ := ff.mem hm
      rw [e] at e'; cases e'
      exact hnf _ dd
    have nfr := notFr fl3.2.2.1 he3 hd3
    have nL : a ≠ X.env.locals := fun z => nfr (List.mem_filterMap.mpr ⟨X.env, List.mem_cons_self, by rw [hf, z]⟩)
    have nF : a ∉ X.fs := fun hm => by
      obtain ⟨e, he, q⟩ := List.mem_filterMap.mp hm
      exact nfr (List.mem_filterMap.mpr ⟨e, List.mem_cons_of_mem _ he, q⟩)
    have S3 := J3.suite he3 hd3 na nL nF
    have LT : PySem.W.Looks (model X.prog X.w) h3 (typeOf (.ref a)) cls := fun A Q E s k q => wpAny_typeOf_ref (k _ _ he3) (by rw [hz3.1]; exact q)
    have test : ∀ {x : Str} {c : Value} {np : Pos} (hc : Names X x c) {Q : Value → Shared → Prop} {E : Value → Shared → Prop}, Q c { s' with heap := h3 } → wpAny (model X.prog X.w) (X.A.mark (some (.ref a))) (eval (.Name x np) X.env) Q E { s' with heap := h3 } := fun {x c np} hc {Q E} q => by
      obtain ⟨hg, hdbg, hm | ⟨hm, hv, hnn⟩⟩ := hc
      · exact ld_glob (X := X.suite a ((a, oe3) :: (X.pn ++ pins))) S3 hg hm q hdbg
      · exact ld_blt (X := X.suite a ((a, oe3) :: (X.pn ++ pins))) S3 hg hm hv q hnn hdbg
    have go : ∀ {hds' : List ExceptHandler} {l' : List Hd}, HdsA X hds' l' → wMs X.K X.N.length Wout D l' cls d σ' H' →
        wpAny (model X.prog X.w) X.A (handleBy (.ref a) X.env hds') (SP X pins D) X.xe { s' with heap := h3 } := by
      intro hds' l' hk
      induction hk with
      | nil =>
        intro w
        refine wpAny_handleBy_nil ?_
        obtain ⟨k1, k2, k3, oe, vs, T, oT, ts', he, hz, hd, h1, hr⟩ := id fl3
        unfold PySem.passOn
        refine wpAny_bind (wpAny_field he hd h1 ?_)
        rw [if_neg (show ¬ ((Value.ref T == Value.none) = true) from by simp)]
        have fin : wpAny (model X.prog X.w) X.A (setFlight (.ref a) X.env.frame) (fun _ s4 => wpAny (model X.prog X.w) X.A (throw (.ref a) : Sem Flow) (SP X pins D) X.xe s4) X.xe { s' with heap := h3 } := by
          rw [hf]
          refine HandSPX.setFlight_upZ fl3 fun h4 hh4 up4 => wpAny_throw (tk _ _ ?_)
          exact ⟨a, B, sI, pins, σ', H', cls, d, rfl, J, nb, (up.trans up3).trans up4, .inr (.inr (by rw [hs]; exact hh4)), na, os, ag, w⟩
        first
          | exact wpAny_bind (wpAny_pure (wpAny_bind fin))
          | exact wpAny_bind fin
      | @no x c ts b₀ suite np pos' hds2 l2 hc hsu r ih =>
        intro w
        obtain ⟨b, hb1, hyes, hno⟩ := w
        have LM := PySem.W.exm_one (M := model X.prog X.w) (J3.kIn) LT hb1
        refine wpAny_handleBy_cons (codeAny_handlers_test ?_) (by intro q; cases q)
        refine test hc (LM.here ?_)
        cases b with
        | true =>
          refine codeAny_handlers_suite ?_
          refine HandSPX.lands_againZ fl3 fun h4 fl4 up4 => ?_
          have J4 : Inv X pins σ' H' { s' with heap := h4 } := J.landed nb fl4.1 ((up.trans up3).trans up4) os ag
          obtain ⟨oe4, vs4, he4, hz4, hd4⟩ := fl4.there
          have S4 := J4.suite he4 hd4 na nL nF
          refine wpAny_mono ((hsu a oe4 cls d (X.pn ++ pins) hz4 ⟨_, hd4⟩).run [] _ _ H' _ S4 (hyes rfl a na J.len)) (fun f s6 hsp => ?_) (fun _ _ z => False.elim z)
          cases f with
          | next =>
            obtain ⟨σ6, H6, S6, q6⟩ := hsp
            exact ⟨_, _, S6.unsuite ok, q6⟩
          | brk =>
            obtain ⟨σ6, H6, S6, q6⟩ := hsp
            exact ⟨_, _, S6.unsuite ok, q6⟩
          | cont =>
            obtain ⟨σ6, H6, S6, q6⟩ := hsp
            exact ⟨_, _, S6.unsuite ok, q6⟩
          | ret u =>
            obtain ⟨v6, σ6, H6, S6, r6, q6⟩ := hsp
            exact ⟨_, _, _, S6.unsuite ok, r6, q6⟩
        | false =>
          show wpAny _ X.A (handleBy (.ref a) X.env hds2) _ _ _
          exact ih (hno rfl)
      | @as x n c i ts b₀ suite np pos' hds2 l2 hi hln hc hsu r ih =>
        intro w
        obtain ⟨b, hb1, hyes, hno⟩ := w
        have LM := PySem.W.exm_one (M := model X.prog X.w) (J3.kIn) LT hb1
        refine wpAny_handleBy_cons (codeAny_handlers_test ?_) (by intro q; cases q)
        refine test hc (LM.here ?_)
        cases b with
        | true =>
          refine codeAny_handlers_suite_as ?_
          refine HandSPX.lands_againZ fl3 fun h4 fl4 up4 => ?_
          have J4 : Inv X pins σ' H' { s' with heap := h4 } := J.landed nb fl4.1 ((up.trans up3).trans up4) os ag
          obtain ⟨oe4, vs4, he4, hz4, hd4⟩ := fl4.there
          have S4 := J4.suite he4 hd4 na nL nF
          refine store_ok (X := X.suite a ((a, oe4) :: (X.pn ++ pins))) (v := .ref a) S4 hN hi (.inl hln) rfl (fun s5 S5 => ?_) (.inr hln)
          refine wpAny_mono ((hsu a oe4 cls d (X.pn ++ pins) hz4 ⟨_, hd4⟩).run [] s5 _ H' _ S5 (hyes rfl a na J.len)) (fun f s6 hsp => ?_) (fun _ _ z => False.elim z)
          have end_ : ∀ {σ6 : L2.St} {H6 : Hp} {Q : Shared → Prop}, Inv (X.suite a ((a, oe4) :: (X.pn ++ pins))) [] σ6 H6 s6 → (∀ s7, Inv X pins (σ6.set i none) H6 s7 → Q s7) →
              wpAny (model X.prog X.w) X.A (do bindName X.env n .none; unbindBehindTheSuite X.env n pos') (fun _ s7 => Q s7) X.xe s6 := fun {σ6 H6 Q} S6 hq => gone_ok (S6.unsuite ok) hN hi hln hq
          cases f with
          | next =>
            obtain ⟨σ6, H6, S6, q6⟩ := hsp
            exact end_ S6 fun s7 J7 => ⟨_, _, J7, q6⟩
          | brk =>
            obtain ⟨σ6, H6, S6, q6⟩ := hsp
            exact end_ S6 fun s7 J7 => ⟨_, _, J7, q6⟩
          | cont =>
            obtain ⟨σ6, H6, S6, q6⟩ := hsp
            exact end_ S6 fun s7 J7 => ⟨_, _, J7, q6⟩
          | ret u =>
            obtain ⟨v6, σ6, H6, S6, r6, q6⟩ := hsp
            exact end_ S6 fun s7 J7 => ⟨_, _, _, J7, r6, q6⟩
        | false =>
          show wpAny _ X.A (handleBy (.ref a) X.env hds2) _ _ _
          exact ih (hno rfl)
    exact go hh w
  · cases f with
    | next =>
      obtain ⟨σ', H', J', q⟩ := hsp
      exact wpAny_execs_nil ⟨σ', H', J'.ofTry ok, q⟩
    | brk =>
      obtain ⟨σ', H', J', q⟩ := hsp
      exact ⟨σ', H', J'.ofTry ok, q⟩
    | cont =>
      obtain ⟨σ', H', J', q⟩ := hsp
      exact ⟨σ', H', J'.ofTry ok, q⟩
    | ret u =>
      obtain ⟨v, σ', H', J', r, q⟩ := hsp
      exact ⟨v, σ', H', J'.ofTry ok, r, q⟩
end
end Ft

set_option Elab.async false
set_option linter.all false
set_option maxRecDepth 100000
set_option maxHeartbeats 4000000
/-! Data as it lies in the heap, and what the program's judges say of it. -/
namespace Ft
open PySem PySem.Spec PyProof.Rows L2
/-! ### data stay -/
theorem Same.sqL {K : PySem.W.Frag} {H H' : Hp} (k : Same H H') {a : Addr} {xs : List V} (h : SqL K H a xs) : SqL K H' a xs := (Same.kp (ex := []) k).sqL (by simp) h
mutual
theorem dp_same {K : PySem.W.Frag} {H H' : Hp} (s : Same H H') : ∀ (d : PyData) (v : V), Dp K H v d → Dp K H' v d
  | .none, _, h => by cases h; exact .non
  | .bool _, _, h => by cases h; exact .bl _
  | .int _, _, h => by cases h; exact .int _
  | .str _, _, h => by cases h; exact .str _
  | .list ds, _, h => by
    cases h with
    | lst h a => exact .lst (Same.sqL s h) (dp_sames s ds _ a)
  | .tuple ds, _, h => by
    cases h with
    | tup h a => exact .tup (Same.sqT s h) (dp_sames s ds _ a)
  | .dict _, _, h => by cases h
theorem dp_sames {K : PySem.W.Frag} {H H' : Hp} (s : Same H H') : ∀ (ds : List PyData) (vs : List V), DpAll K H vs ds → DpAll K H' vs ds
  | [], _, h => by cases h; exact .nil
  | d :: ds, _, h => by
    cases h with
    | cons h1 h2 => exact .cons (dp_same s d _ h1) (dp_sames s ds _ h2)
end
theorem Dp.same {K : PySem.W.Frag} {H H' : Hp} (s : Same H H') {d : PyData} {v : V} (h : Dp K H v d) : Dp K H' v d := dp_same s d v h
theorem DpAll.same {K : PySem.W.Frag} {H H' : Hp} (s : Same H H') {ds : List PyData} {vs : List V} (h : DpAll K H vs ds) : DpAll K H' vs ds := dp_sames s ds vs h
/-! no list in it -/
mutual
def noList : PyData → Bool
  | .list _ => false
  | .tuple ds => noLists ds
  | _ => true
def noLists : List PyData → Bool
  | [] => true
  | d :: ds => noList d && noLists ds
end
mutual
theorem dp_kp {K : PySem.W.Frag} {ex : List Addr} {H H' : Hp} (k : Kp ex H H') (l : Lists ex H) : ∀ (d : PyData) (v : V), noList d = true → Dp K H v d → Dp K H' v d
  | .none, _, _, h => by cases h; exact .non
  | .bool _, _, _, h => by cases h; exact .bl _
  | .int _, _, _, h => by cases h; exact .int _
  | .str _, _, _, h => by cases h; exact .str _
  | .list ds, _, n, h => by simp [noList] at n
  | .tuple ds, _, n, h => by
    cases h with
    | tup h a => exact .tup (k.sqT l h) (dp_kps k l ds _ (by simpa [noList] using n) a)
  | .dict _, _, _, h => by cases h
theorem dp_kps {K : PySem.W.Frag} {ex : List Addr} {H H' : Hp} (k : Kp ex H H') (l : Lists ex H) : ∀ (ds : List PyData) (vs : List V), noLists ds = true → DpAll K H vs ds → DpAll K H' vs ds
  | [], _, _, h => by cases h; exact .nil
  | d :: ds, _, n, h => by
    simp only [noLists, Bool.and_eq_true] at n
    cases h with
    | cons h1 h2 => exact .cons (dp_kp k l d _ n.1 h1) (dp_kps k l ds _ n.2 h2)
end
theorem dpAll_length {K : PySem.W.Frag} {H : Hp} : ∀ {vs : List V} {ds : List PyData}, DpAll K H vs ds → vs.length = ds.length
  | _, _, .nil => rfl
  | _, _, .cons _ t => by rw [List.length_cons, List.length_cons, dpAll_length t]
theorem dpAll_get {K : PySem.W.Frag} {H : Hp} : ∀ {vs : List V} {ds : List PyData} {i : Nat} {v : V}, DpAll K H vs ds → vs[i]? = some v → ∃ d, ds[i]? = some d ∧ Dp K H v d
  | _, _, _, _, .nil, e => by simp at e
  | _, _, 0, _, .cons r _, e => by
    simp at e
    subst e
    exact ⟨_, rfl, r⟩
  | _, _, i + 1, _, .cons _ t, e => by
    obtain ⟨d, h1, h2⟩ := dpAll_get (i := i) t (by simpa using e)
    exact ⟨d, by simpa using h1, h2⟩
theorem dpAll_getD {K : PySem.W.Frag} {H : Hp} : ∀ {vs : List V} {ds : List PyData} {i : Nat} {d : PyData}, DpAll K H vs ds → ds[i]? = some d → ∃ v, vs[i]? = some v ∧ Dp K H v d
  | _, _, _, _, .nil, e => by simp at e
  | _, _, 0, _, .cons r _, e => by
    simp at e
    subst e
    exact ⟨_, rfl, r⟩
  | _, _, i + 1, _, .cons _ t, e => by
    obtain ⟨d, h1, h2⟩ := dpAll_getD (i := i) t (by simpa using e)
    exact ⟨d, by simpa using h1, h2⟩
/-! ### isinstance of data -/
def tyD : PyData → String
  | .none => "NoneType"
  | .bool _ => "bool"
  | .int _ => "int"
  | .str _ => "str"
  | .list _ => "list"
  | .tuple _ => "tuple"
  | .dict _ => "dict"
theorem isi_dp {K : PySem.W.Frag} {H : Hp} {v : V} {d : PyData} (h : Dp K H v d) : TyX K H v (.type (tyD d)) := by
  cases h with
  | non => exact .base .non
  | bl b => exact .base (.bl b)
  | int i => exact .base (.int i)
  | str x => exact .base (.str x)
  | lst h _ =>
    rcases h with (h | ⟨o, h⟩) | ⟨o, _, _, e, c, _⟩
    · exact .base (.lst h)
    · exact .base (.frz h)
    · exact .kList e c
  | tup h _ => exact isi_tuple h
def isTup : PyData → Bool
  | .tuple _ => true
  | _ => false
def isIntB : PyData → Bool
  | .int _ => true
  | .bool _ => true
  | _ => false
def isBl : PyData → Bool
  | .bool _ => true
  | _ => false
def isNum : PyData → Bool
  | .int _ => true
  | _ => false
theorem kit_tup {K : PySem.W.Frag} (d : PyData) : PySem.W.kitOne K (.type (tyD d)) (.type "tuple") = some (isTup d) := by
  cases d with
  | none => exact kit_ty (show kitB "NoneType" "tuple" = some false by decide +kernel)
  | bool b => exact kit_ty (show kitB "bool" "tuple" = some false by decide +kernel)
  | int i => exact kit_ty (show kitB "int" "tuple" = some false by decide +kernel)
  | str z => exact kit_ty (show kitB "str" "tuple" = some false by decide +kernel)
  | list l => exact kit_ty (show kitB "list" "tuple" = some false by decide +kernel)
  | tuple l => exact kit_ty (show kitB "tuple" "tuple" = some true by decide +kernel)
  | dict l => exact kit_ty (show kitB "dict" "tuple" = some false by decide +kernel)
theorem kit_int {K : PySem.W.Frag} (d : PyData) : PySem.W.kitOne K (.type (tyD d)) (.type "int") = some (isIntB d) := by
  cases d with
  | none => exact kit_ty (show kitB "NoneType" "int" = some false by decide +kernel)
  | bool b => exact kit_ty (show kitB "bool" "int" = some true by decide +kernel)
  | int i => exact kit_ty (show kitB "int" "int" = some true by decide +kernel)
  | str z => exact kit_ty (show kitB "str" "int" = some false by decide +kernel)
  | list l => exact kit_ty (show kitB "list" "int" = some false by decide +kernel)
  | tuple l => exact kit_ty (show kitB "tuple" "int" = some false by decide +kernel)
  | dict l => exact kit_ty (show kitB "dict" "int" = some false by decide +kernel)
theorem kit_bool {K : PySem.W.Frag} (d : PyData) : PySem.W.kitOne K (.type (tyD d)) (.type "bool") = some (isBl d) := by
  cases d with
  | none => exact kit_ty (show kitB "NoneType" "bool" = some false by decide +kernel)
  | bool b => exact kit_ty (show kitB "bool" "bool" = some true by decide +kernel)
  | int i => exact kit_ty (show kitB "int" "bool" = some false by decide +kernel)
  | str z => exact kit_ty (show kitB "str" "bool" = some false by decide +kernel)
  | list l => exact kit_ty (show kitB "list" "bool" = some false by decide +kernel)
  | tuple l => exact kit_ty (show kitB "tuple" "bool" = some false by decide +kernel)
  | dict l => exact kit_ty (show kitB "dict" "bool" = some false by decide +kernel)
theorem isTup_not {d : PyData} (h : isTup d = false) : ∀ ds, d ≠ .tuple ds := by
  intro ds z
  subst z
  cases h
theorem isTup_is {d : PyData} (h : isTup d = true) : ∃ ds, d = .tuple ds := by
  cases d with
  | tuple ds => exact ⟨ds, rfl⟩
  | _ => cases h
theorem isNum_is {d : PyData} (h : isNum d = true) : ∃ i, d = .int i := by
  cases d with
  | int i => exact ⟨i, rfl⟩
  | _ => cases h
theorem dp_int {K : PySem.W.Frag} {H : Hp} {v : V} {i : Int} (h : Dp K H v (.int i)) : v = .int i := by cases h; rfl
theorem dp_tup {K : PySem.W.Frag} {H : Hp} {v : V} {ds : List PyData} (h : Dp K H v (.tuple ds)) : ∃ a xs, v = .ref a ∧ SqT K H a xs ∧ DpAll K H xs ds := by
  cases h with
  | tup h1 h2 => exact ⟨_, _, rfl, h1, h2⟩
/-! ### numbers, places, lots -/
def numOf : PyData → Int
  | .int i => i
  | _ => 0
def numIn (lo hi : Int) (d : PyData) : Bool := isNum d && (decide (lo ≤ numOf d) && decide (numOf d ≤ hi))
theorem numIn_is {lo hi : Int} {d : PyData} (h : numIn lo hi d = true) : ∃ i, d = .int i ∧ lo ≤ i ∧ i ≤ hi := by
  unfold numIn at h
  simp only [Bool.and_eq_true, decide_eq_true_eq] at h
  obtain ⟨i, rfl⟩ := isNum_is h.1
  exact ⟨i, rfl, h.2.1, h.2.2⟩
theorem numIn_int {lo hi i : Int} : numIn lo hi (.int i) = true ↔ lo ≤ i ∧ i ≤ hi := by
  unfold numIn
  simp only [isNum, numOf, Bool.true_and, Bool.and_eq_true]
  exact ⟨fun h => ⟨of_decide_eq_true h.1, of_decide_eq_true h.2⟩, fun h => ⟨decide_eq_true h.1, decide_eq_true h.2⟩⟩
def nD (n : Nat) : PyData := .int (n : Int)
theorem numIn_nat {lo hi : Int} {n : Nat} : numIn lo hi (nD n) = true ↔ lo ≤ (n : Int) ∧ (n : Int) ≤ hi := numIn_int
theorem dp_nat {K : PySem.W.Frag} {H : Hp} (n : Nat) : Dp K H (vN n) (nD n) := .int _
theorem dp_nats {K : PySem.W.Frag} {H : Hp} : ∀ (ws : List Nat), DpAll K H (ws.map vN) (ws.map nD)
  | [] => .nil
  | _ :: ws => .cons (dp_nat _) (dp_nats ws)
theorem nats_dp {K : PySem.W.Frag} {H : Hp} : ∀ {ws : List Nat} {xs : List V}, DpAll K H xs (ws.map nD) → xs = ws.map vN
  | [], _, h => by cases h; rfl
  | w :: ws, _, h => by
    cases h with
    | cons h1 h2 =>
      have := nats_dp (ws := ws) h2
      subst this
      cases h1
      rfl
def lotD (ws : List Nat) : PyData := .tuple (ws.map nD)
theorem dp_lot {K : PySem.W.Frag} {H : Hp} {a : Addr} {ws : List Nat} (h : SqT K H a (ws.map vN)) : Dp K H (.ref a) (lotD ws) := .tup h (dp_nats ws)
theorem lot_dp {K : PySem.W.Frag} {H : Hp} {v : V} {ws : List Nat} (h : Dp K H v (lotD ws)) : ∃ a, v = .ref a ∧ SqT K H a (ws.map vN) := by
  obtain ⟨a, xs, rfl, h1, h2⟩ := dp_tup h
  rw [nats_dp h2] at h1
  exact ⟨a, rfl, h1⟩
/-- the first that is no place or not above the one before it -/
def badPlace (n : Nat) : Int → Nat → List PyData → Option Nat
  | _, _, [] => none
  | b, i, d :: ds => if numIn (b + 1) ((n : Int) - 1) d = true then badPlace n (numOf d) (i + 1) ds else some i
theorem badPlace_ok {n : Nat} : ∀ {ws : List Nat} {b : Int} {i : Nat}, ws.Pairwise (· < ·) → (∀ x ∈ ws, x < n) → (∀ x ∈ ws, b < (x : Int)) → badPlace n b i (ws.map nD) = none
  | [], _, _, _, _, _ => rfl
  | w :: ws, b, i, up, lt, ab => by
    have h1 := lt w List.mem_cons_self
    have h2 := ab w List.mem_cons_self
    show (if numIn (b + 1) ((n : Int) - 1) (nD w) = true then badPlace n (numOf (nD w)) (i + 1) (ws.map nD) else some i) = none
    rw [if_pos (numIn_nat.mpr ⟨by omega, by omega⟩)]
    obtain ⟨u1, u2⟩ := List.pairwise_cons.mp up
    exact badPlace_ok u2 (fun x hx => lt x (List.mem_cons_of_mem _ hx)) fun x hx => by
      have := u1 x hx
      show (w : Int) < x
      omega
theorem badPlace_none {n : Nat} : ∀ {ds : List PyData} {b : Int} {i : Nat}, -1 ≤ b → badPlace n b i ds = none → ∃ ws : List Nat, ds = ws.map nD ∧ ws.Pairwise (· < ·) ∧ (∀ x ∈ ws, x < n) ∧ ∀ x ∈ ws, b < (x : Int)
  | [], _, _, _, _ => ⟨[], rfl, List.Pairwise.nil, (fun _ h => nomatch h), (fun _ h => nomatch h)⟩
  | d :: ds, b, i, hb, h => by
    unfold badPlace at h
    by_cases c : numIn (b + 1) ((n : Int) - 1) d = true
    · rw [if_pos c] at h
      obtain ⟨x, rfl, l1, l2⟩ := numIn_is c
      obtain ⟨ws, rfl, up, lt, ab⟩ := badPlace_none (b := x) (by omega) h
      refine ⟨x.toNat :: ws, ?_, List.pairwise_cons.mpr ⟨fun y hy => ?_, up⟩, fun y hy => ?_, fun y hy => ?_⟩
      · have : (x.toNat : Int) = x := by omega
        simp only [List.map_cons, nD]
        rw [this]
      · have := ab y hy
        omega
      · rcases List.mem_cons.mp hy with rfl | hy
        · omega
        · exact lt y hy
      · rcases List.mem_cons.mp hy with rfl | hy
        · omega
        · have := ab y hy
          omega
    · rw [if_neg c] at h
      cases h
def lotOk (n : Nat) : PyData → Bool
  | .tuple ds => (badPlace n (-1) 0 ds).isNone
  | _ => false
theorem lotOk_lot {n : Nat} {ws : List Nat} (up : ws.Pairwise (· < ·)) (lt : ∀ x ∈ ws, x < n) : lotOk n (lotD ws) = true := by
  unfold lotOk lotD
  simp only []
  rw [badPlace_ok up lt (fun x _ => by omega)]
  rfl
theorem lotOk_is {n : Nat} {d : PyData} (h : lotOk n d = true) : ∃ ws, d = lotD ws ∧ ws.Pairwise (· < ·) ∧ ∀ x ∈ ws, x < n := by
  cases d with
  | tuple ds =>
    unfold lotOk at h
    simp only [Option.isNone_iff_eq_none] at h
    obtain ⟨ws, rfl, up, lt, _⟩ := badPlace_none (by omega) h
    exact ⟨ws, rfl, up, lt⟩
  | _ => cases h
def optI : Option Nat → Option Int
  | none => none
  | some i => some (i : Int)
theorem optI_none {o : Option Nat} (h : optI o = none) : o = none := by
  cases o with
  | none => rfl
  | some i => cases h
/-! ### roads -/
def pairD (p : Nat × Nat) : PyData := .tuple [nD p.1, nD p.2]
def pairOf (n : Nat) : PyData → Option (Nat × Nat)
  | .tuple [a, b] => if (numIn 0 ((n : Int) - 1) a && numIn 0 ((n : Int) - 1) b) = true then some ((numOf a).toNat, (numOf b).toNat) else none
  | _ => none
theorem pairOf_pair {n : Nat} {p : Nat × Nat} (h : p.1 < n ∧ p.2 < n) : pairOf n (pairD p) = some p := by
  unfold pairOf pairD
  simp only []
  rw [if_pos]
  · rfl
  · rw [Bool.and_eq_true, numIn_nat, numIn_nat]
    omega
theorem pairOf_is {n : Nat} {d : PyData} {p : Nat × Nat} (h : pairOf n d = some p) : d = pairD p ∧ p.1 < n ∧ p.2 < n := by
  unfold pairOf at h
  split at h
  · rename_i a b
    split at h
    · rename_i c
      rw [Bool.and_eq_true] at c
      obtain ⟨i, rfl, i1, i2⟩ := numIn_is c.1
      obtain ⟨j, rfl, j1, j2⟩ := numIn_is c.2
      cases h
      refine ⟨?_, ?_, ?_⟩
      · unfold pairD nD
        simp only [numOf]
        rw [show ((i.toNat : Nat) : Int) = i by omega, show ((j.toNat : Nat) : Int) = j by omega]
      · simp only [numOf]
        omega
      · simp only [numOf]
        omega
    · cases h
  · cases h
instance (p q : Nat × Nat) : Decidable (ltP p q) := by unfold ltP; exact inferInstance
def above (p : Option (Nat × Nat)) (q : Nat × Nat) : Bool := match p with
  | none => true
  | some p => decide (ltP p q)
def badRoad (n : Nat) : Option (Nat × Nat) → Nat → List PyData → Option Nat
  | _, _, [] => none
  | p, i, d :: ds => match pairOf n d with
    | none => some i
    | some q => if above p q = true then badRoad n (some q) (i + 1) ds else some i
theorem badRoad_ok {n : Nat} : ∀ {ps : List (Nat × Nat)} {p : Option (Nat × Nat)} {i : Nat}, ps.Pairwise ltP → (∀ q ∈ ps, q.1 < n ∧ q.2 < n) → (∀ q ∈ ps, above p q = true) → badRoad n p i (ps.map pairD) = none
  | [], _, _, _, _, _ => rfl
  | q :: ps, p, i, up, lt, ab => by
    obtain ⟨u1, u2⟩ := List.pairwise_cons.mp up
    show (match pairOf n (pairD q) with
      | none => some i
      | some q => if above p q = true then badRoad n (some q) (i + 1) (ps.map pairD) else some i) = none
    rw [pairOf_pair (lt q List.mem_cons_self)]
    simp only []
    rw [if_pos (ab q List.mem_cons_self)]
    exact badRoad_ok u2 (fun x hx => lt x (List.mem_cons_of_mem _ hx)) fun x hx => decide_eq_true (u1 x hx)
theorem ltP_trans {a b c : Nat × Nat} (h1 : ltP a b) (h2 : ltP b c) : ltP a c := by
  unfold ltP at *
  omega
theorem badRoad_none {n : Nat} : ∀ {ds : List PyData} {p : Option (Nat × Nat)} {i : Nat}, badRoad n p i ds = none → ∃ ps : List (Nat × Nat), ds = ps.map pairD ∧ ps.Pairwise ltP ∧ (∀ q ∈ ps, q.1 < n ∧ q.2 < n) ∧ ∀ q ∈ ps, above p q = true
  | [], _, _, _ => ⟨[], rfl, List.Pairwise.nil, (fun _ h => nomatch h), (fun _ h => nomatch h)⟩
  | d :: ds, p, i, h => by
    unfold badRoad at h
    cases e : pairOf n d with
    | none => rw [e] at h; cases h
    | some q =>
      rw [e] at h
      simp only [] at h
      obtain ⟨e1, e2⟩ := pairOf_is e
      subst e1
      by_cases c : above p q = true
      · rw [if_pos c] at h
        obtain ⟨ps, rfl, up, lt, ab⟩ := badRoad_none h
        have ab' : ∀ x ∈ ps, ltP q x := fun x hx => of_decide_eq_true (ab x hx)
        refine ⟨q :: ps, rfl, List.pairwise_cons.mpr ⟨ab', up⟩, fun x hx => ?_, fun x hx => ?_⟩
        · rcases List.mem_cons.mp hx with rfl | hx
          · exact e2
          · exact lt x hx
        · rcases List.mem_cons.mp hx with rfl | hx
          · exact c
          · cases p with
            | none => rfl
            | some p => exact decide_eq_true (ltP_trans (of_decide_eq_true c) (ab' x hx))
      · rw [if_neg c] at h
        cases h
def roadsErr (n : Nat) : PyData → Option Int
  | .tuple ds => if ds.length ≤ 240 then optI (badRoad n none 0 ds) else some (-3)
  | _ => some (-3)
/-! ### maps -/
def chartD (C : Chart) : PyData := .tuple [nD C.n, .tuple (C.roads.map pairD), lotD C.wished]
def wishErr (n : Nat) : PyData → Option Int
  | .tuple ds => optI (badPlace n (-1) 0 ds)
  | _ => some (-1)
def mapErr3 (p r w : PyData) : Option (Str × Int) :=
  if numIn 0 60 p = true then
    match roadsErr (numOf p).toNat r with
    | some i => some ("BadMap", i)
    | none => (wishErr (numOf p).toNat w).map fun i => ("BadWish", i)
  else some ("BadMap", -2)
def mapErr : PyData → Option (Str × Int)
  | .tuple [p, r, w] => mapErr3 p r w
  | _ => some ("BadMap", -1)
theorem mapErr_chart {C : Chart} (ok : C.Ok) : mapErr (chartD C) = none := by
  have n60 := ok.n60
  unfold chartD mapErr mapErr3
  simp only []
  rw [if_pos (by rw [numIn_nat]; omega)]
  have e : (numOf (nD C.n)).toNat = C.n := by simp [nD, numOf]
  rw [e]
  have e1 : roadsErr C.n (.tuple (C.roads.map pairD)) = none := by
    unfold roadsErr
    simp only []
    rw [if_pos (by rw [List.length_map]; exact ok.many), badRoad_ok ok.upR ok.inR (fun _ _ => rfl)]
    rfl
  have e2 : wishErr C.n (lotD C.wished) = none := by
    unfold wishErr lotD
    simp only []
    rw [badPlace_ok ok.upW ok.inW (fun _ _ => by omega)]
    rfl
  rw [e1, e2]
  rfl
theorem mapErr3_none {p r w : PyData} (h : mapErr3 p r w = none) : ∃ C : Chart, C.Ok ∧ p = nD C.n ∧ r = .tuple (C.roads.map pairD) ∧ w = lotD C.wished := by
  unfold mapErr3 at h
  split at h
  · rename_i c
    obtain ⟨i, rfl, i1, i2⟩ := numIn_is c
    have ei : ((numOf (PyData.int i)).toNat : Int) = i := by simp only [numOf]; omega
    cases e : roadsErr (numOf (.int i)).toNat r with
    | some j => rw [e] at h; cases h
    | none =>
      rw [e] at h
      simp only [Option.map_eq_none_iff] at h
      cases r with
      | tuple rs =>
        unfold roadsErr at e
        simp only [] at e
        split at e
        · rename_i l
          have e := optI_none e
          obtain ⟨ps, rfl, up, lt, _⟩ := badRoad_none e
          cases w with
          | tuple ws =>
            unfold wishErr at h
            have h := optI_none h
            obtain ⟨vs, rfl, upv, ltv, _⟩ := badPlace_none (by omega) h
            refine ⟨⟨(numOf (.int i)).toNat, ps, vs⟩, ⟨?_, ?_, lt, up, ltv, upv⟩, ?_, rfl, rfl⟩
            · show (numOf (.int i)).toNat ≤ 60
              omega
            · rw [List.length_map] at l
              exact l
            · show PyData.int i = .int ((numOf (.int i)).toNat : Int)
              rw [ei]
          | _ => cases h
        · cases e
      | _ => cases e
  · cases h
theorem mapErr_none {d : PyData} (h : mapErr d = none) : ∃ C : Chart, C.Ok ∧ d = chartD C := by
  unfold mapErr at h
  split at h
  · obtain ⟨C, ok, rfl, rfl, rfl⟩ := mapErr3_none h
    exact ⟨C, ok, rfl⟩
  · cases h
theorem dp_pairs {K : PySem.W.Frag} {H : Hp} : ∀ {ts : List Addr} {ps : List (Nat × Nat)}, PairsAt K H ts ps → DpAll K H (ts.map V.ref) (ps.map pairD)
  | _, _, .nil => .nil
  | _, _, .cons r t => .cons (.tup r (.cons (dp_nat _) (.cons (dp_nat _) .nil))) (dp_pairs t)
theorem pairs_dp {K : PySem.W.Frag} {H : Hp} : ∀ {ps : List (Nat × Nat)} {xs : List V}, DpAll K H xs (ps.map pairD) → ∃ ts, xs = ts.map V.ref ∧ PairsAt K H ts ps
  | [], _, h => by cases h; exact ⟨[], rfl, .nil⟩
  | p :: ps, _, h => by
    cases h with
    | cons h1 h2 =>
      obtain ⟨ts, rfl, q⟩ := pairs_dp (ps := ps) h2
      obtain ⟨a, xs, rfl, hs, ha⟩ := dp_tup h1
      have e : xs = [p.1, p.2].map vN := nats_dp (ws := [p.1, p.2]) ha
      subst e
      exact ⟨a :: ts, rfl, .cons hs q⟩
theorem dp_chart {K : PySem.W.Frag} {H : Hp} {c : Addr} {C : Chart} (h : IsChart K H c C) : Dp K H (.ref c) (chartD C) := by
  obtain ⟨r, w, ts, q⟩ := h
  exact .tup q.top (.cons (dp_nat _) (.cons (.tup q.row (dp_pairs q.prs)) (.cons (dp_lot q.wis) .nil)))
theorem chart_dp {K : PySem.W.Frag} {H : Hp} {v : V} {C : Chart} (h : Dp K H v (chartD C)) : ∃ c, v = .ref c ∧ IsChart K H c C := by
  obtain ⟨c, xs, rfl, hs, ha⟩ := dp_tup h
  cases ha with
  | cons h1 ha =>
    cases ha with
    | cons h2 ha =>
      cases ha with
      | cons h3 ha =>
        cases ha
        cases h1
        obtain ⟨r, ys, rfl, hr, har⟩ := dp_tup h2
        obtain ⟨w, rfl, hw⟩ := lot_dp h3
        obtain ⟨ts, rfl, pr⟩ := pairs_dp har
        exact ⟨c, rfl, r, w, ts, hs, hr, pr, hw⟩
/-! ### standings -/
/-- the first that is no place -/
def noPlace (n : Nat) : Nat → List PyData → Option Nat
  | _, [] => none
  | i, d :: ds => if numIn 0 ((n : Int) - 1) d = true then noPlace n (i + 1) ds else some i
def standErr (n : Nat) : PyData → Option Int
  | .tuple ds => if 1 ≤ ds.length ∧ ds.length ≤ 3 then optI (noPlace n 0 ds) else some (-1)
  | _ => some (-1)
theorem noPlace_ok {n : Nat} : ∀ {ws : List Nat} {i : Nat}, (∀ x ∈ ws, x < n) → noPlace n i (ws.map nD) = none
  | [], _, _ => rfl
  | w :: ws, i, lt => by
    have h1 := lt w List.mem_cons_self
    show (if numIn 0 ((n : Int) - 1) (nD w) = true then noPlace n (i + 1) (ws.map nD) else some i) = none
    rw [if_pos (numIn_nat.mpr ⟨by omega, by omega⟩)]
    exact noPlace_ok fun x hx => lt x (List.mem_cons_of_mem _ hx)
theorem noPlace_none {n : Nat} : ∀ {ds : List PyData} {i : Nat}, noPlace n i ds = none → ∃ ws : List Nat, ds = ws.map nD ∧ ∀ x ∈ ws, x < n
  | [], _, _ => ⟨[], rfl, (fun _ h => nomatch h)⟩
  | d :: ds, i, h => by
    unfold noPlace at h
    by_cases c : numIn 0 ((n : Int) - 1) d = true
    · rw [if_pos c] at h
      obtain ⟨x, rfl, l1, l2⟩ := numIn_is c
      obtain ⟨ws, rfl, lt⟩ := noPlace_none h
      refine ⟨x.toNat :: ws, ?_, fun y hy => ?_⟩
      · have : (x.toNat : Int) = x := by omega
        simp only [List.map_cons, nD]
        rw [this]
      · rcases List.mem_cons.mp hy with rfl | hy
        · omega
        · exact lt y hy
    · rw [if_neg c] at h
      cases h
theorem standErr_ok {n : Nat} {S : List Nat} (lt : ∀ x ∈ S, x < n) (l1 : 1 ≤ S.length) (l3 : S.length ≤ 3) : standErr n (lotD S) = none := by
  unfold standErr lotD
  simp only []
  rw [if_pos (by rw [List.length_map]; exact ⟨l1, l3⟩), noPlace_ok lt]
  rfl
theorem standErr_none {n : Nat} {d : PyData} (h : standErr n d = none) : ∃ S : List Nat, d = lotD S ∧ (∀ x ∈ S, x < n) ∧ 1 ≤ S.length ∧ S.length ≤ 3 := by
  cases d with
  | tuple ds =>
    unfold standErr at h
    simp only [] at h
    split at h
    · rename_i c
      have h := optI_none h
      obtain ⟨ws, rfl, lt⟩ := noPlace_none h
      rw [List.length_map] at c
      exact ⟨ws, rfl, lt, c.1, c.2⟩
    · cases h
  | _ => cases h
end Ft

set_option Elab.async false
set_option linter.all false
set_option maxRecDepth 100000
set_option maxHeartbeats 4000000
namespace Ft
open PySem PySem.Spec PyProof.Rows L2
theorem Er.g {P : Program} {w : World} {K : PySem.W.Frag} {mg : Str → Option Value} {base : Heap} {ca : Str → Addr} {x : Str} (e : Er P w K mg base ca x) : mg x = some (.ref (ca x)) := let ⟨_, _, h, _⟩ := e.ex; h.g
/-- the errors of a class keep what they were made with -/
structure WhatC (K : PySem.W.Frag) (C : Addr) : Prop where
  xf : XfC K C
  no : PySem.W.findIn K (.ref C) "what" = some none
theorem Er.w {P : Program} {w : World} {K : PySem.W.Frag} {mg : Str → Option Value} {base : Heap} {ca : Str → Addr} {x : Str} (e : Er P w K mg base ca x) : WhatC K (ca x) := let ⟨_, _, h, _⟩ := e.ex; ⟨h.xf, h.noW⟩
/-- error.what, in the suite of a clause -/
def tWhat (K : PySem.W.Frag) (a : Addr) (cls : Value) (d : Option Addr) (te : TE) : TE := fun σ H Q => te σ H fun x H1 => x = .ref a ∧ ∃ (C dd : Addr) (v : V), cls = .ref C ∧ WhatC K C ∧ d = some dd ∧ H1 dd = some (.xd [("what", v)]) ∧ Q v H1
theorem pe_what {X : Cx} {a : Addr} {oe : Obj} {cls : Value} {d : Option Addr} {pn : List (Addr × Obj)} {e : Expr} {te : TE} {pos : Pos}
    (hz : L2N.Zn cls d oe) (hf : ∃ vs, oe.data = .fields vs) (he : PE (X.suite a ((a, oe) :: pn)) e te) (hb : attributeBase e "what" X.env (eval e X.env) = eval e X.env := by rfl) :
    PE (X.suite a ((a, oe) :: pn)) (.Attribute e "what" pos) (tWhat X.K a cls d te) := by
  refine ⟨fun pins s σ H Q I h => ?_⟩
  have he2 : PE (X.suite a ((a, oe) :: pn)) e (fun σ H Q => ∃ M : V → Hp → Prop, te σ H M ∧ ∀ v H', M v H' → Q v H') := ⟨fun pins s σ H Q I ⟨M, hm, hu⟩ => thn (he.run pins s σ H M I hm) fun u s1 ⟨v, H1, I1, r, m⟩ => ⟨v, H1, I1, r, hu v H1 m⟩⟩
  refine attr_of hb (thn (he2.run pins s σ H (fun x H1 => x = .ref a ∧ ∃ (C dd : Addr) (v : V), cls = .ref C ∧ WhatC X.K C ∧ d = some dd ∧ H1 dd = some (.xd [("what", v)]) ∧ Q v H1) I ⟨_, h, fun _ _ z => z⟩) fun u s1 hh => ?_)
  obtain ⟨x, H1, I1, rx, ex, C, dd, v, ec, T, ed, ea, q⟩ := hh
  subst ex
  obtain rfl : u = Value.ref a := rx
  subst ec
  subst ed
  obtain ⟨ha, _⟩ := I1.pin (a, oe) (List.mem_append_left _ List.mem_cons_self)
  obtain ⟨vs, hd⟩ := hf
  have hx : ObjOk X.prog X.w H1 s1.heap dd (.xd [("what", v)]) := I1.hok dd _ ea
  obtain ⟨mA, hns, hr⟩ := hx
  obtain ⟨od, ho, hl⟩ := lookIn_ns hns
  have l : List.lookup ("what" : Str) [(("what" : Str), v)] = some v := by simp [List.lookup]
  obtain ⟨u, hu, ru⟩ := RelO.some_of (v := v) (o := mA "what") (by rw [← l]; exact hr "what")
  have J : PySem.W.InstAt s1.heap a oe C (some od) := ⟨ha, hz.1, by unfold PySem.W.notCls; rw [hd] <;> rfl, by rw [hz.2.1]; exact ho⟩
  exact HandSPX.exc_get I1.kIn J T.xf.ga T.xf.gg T.xf.exC (PySem.W.findObj_own T.xf.hdC T.no rfl (by rw [hl, hu])) (handed_of ru) ⟨v, H1, I1.tok _, ru, q⟩
/-- an error of the class c is one that «except d» names, or is not -/
def Exm (K : PySem.W.Frag) (ca : Str → Addr) (c d : Str) (b : Bool) : Prop := PySem.W.exmOne K (.ref (ca c)) (.ref (ca d)) = some b
/-- a module's number -/
def MgI (mg : Str → Option Value) (x : Str) (n : Int) : Prop := ∃ t, mg x = some (.int n t)
theorem pe_globI {X : Cx} {x : Str} {n : Int} {pos : Pos} (hg : Gl X x) (h : MgI X.mg x n) (hd : (x == ("__debug__" : Str)) = false := by decide) : PE X (.Name x pos) (tC (.int n)) := by
  obtain ⟨t, h⟩ := h
  exact pe_glob (v := .int n) hg h ⟨_, rfl⟩ hd
end Ft

set_option Elab.async false
set_option linter.all false
set_option maxRecDepth 100000
set_option maxHeartbeats 4000000
namespace Ft
open PySem PySem.Spec PyProof.Rows L2
def top (i : Nat) : Stmt := PySem.Challenge.pw_fewtraps_k06_pinches_beside_all_regions.main.body.getD i (.Pass ⟨0, 0, 0, 0⟩)
abbrev s_wall : Stmt := top 0
theorem sc_wall : FnScope ["k"] ["k"] (L2.defScope s_wall) := ⟨rfl, rfl, rfl, by decide +kernel, rfl, by decide +kernel, by decide +kernel⟩
abbrev s_made_map : Stmt := top 11
theorem sc_made_map : FnScope ["thing", "places", "roads", "wished", "index"] ["thing"] (L2.defScope s_made_map) := ⟨rfl, rfl, rfl, by decide +kernel, rfl, by decide +kernel, by decide +kernel⟩
abbrev s_is_number : Stmt := top 12
theorem sc_is_number : FnScope ["thing"] ["thing"] (L2.defScope s_is_number) := ⟨rfl, rfl, rfl, by decide +kernel, rfl, by decide +kernel, by decide +kernel⟩
abbrev s_number_within : Stmt := top 13
theorem sc_number_within : FnScope ["thing", "low", "high"] ["thing", "low", "high"] (L2.defScope s_number_within) := ⟨rfl, rfl, rfl, by decide +kernel, rfl, by decide +kernel, by decide +kernel⟩
abbrev s_first_bad_place : Stmt := top 14
theorem sc_first_bad_place : FnScope ["places", "items", "before", "index", "item"] ["places", "items"] (L2.defScope s_first_bad_place) := ⟨rfl, rfl, rfl, by decide +kernel, rfl, by decide +kernel, by decide +kernel⟩
abbrev s_check_roads : Stmt := top 15
theorem sc_check_roads : FnScope ["places", "roads", "index", "road"] ["places", "roads"] (L2.defScope s_check_roads) := ⟨rfl, rfl, rfl, by decide +kernel, rfl, by decide +kernel, by decide +kernel⟩
abbrev s_road_fits : Stmt := top 16
theorem sc_road_fits : FnScope ["places", "thing"] ["places", "thing"] (L2.defScope s_road_fits) := ⟨rfl, rfl, rfl, by decide +kernel, rfl, by decide +kernel, by decide +kernel⟩
abbrev s_lot_fits : Stmt := top 17
theorem sc_lot_fits : FnScope ["chart", "thing"] ["chart", "thing"] (L2.defScope s_lot_fits) := ⟨rfl, rfl, rfl, by decide +kernel, rfl, by decide +kernel, by decide +kernel⟩
abbrev s_free_fits : Stmt := top 18
theorem sc_free_fits : FnScope ["chart", "thing", "place"] ["chart", "thing"] (L2.defScope s_free_fits) := ⟨rfl, rfl, rfl, by decide +kernel, rfl, by decide +kernel, by decide +kernel⟩
abbrev s_check_lot : Stmt := top 19
theorem sc_check_lot : FnScope ["chart", "thing"] ["chart", "thing"] (L2.defScope s_check_lot) := ⟨rfl, rfl, rfl, by decide +kernel, rfl, by decide +kernel, by decide +kernel⟩
abbrev s_check_free : Stmt := top 20
theorem sc_check_free : FnScope ["chart", "thing"] ["chart", "thing"] (L2.defScope s_check_free) := ⟨rfl, rfl, rfl, by decide +kernel, rfl, by decide +kernel, by decide +kernel⟩
abbrev s_places_next : Stmt := top 21
theorem sc_places_next : FnScope ["chart", "lot", "inside", "wished", "a", "b"] ["chart", "lot"] (L2.defScope s_places_next) := ⟨rfl, rfl, rfl, by decide +kernel, rfl, by decide +kernel, by decide +kernel⟩
abbrev s_flow_of : Stmt := top 24
theorem sc_flow_of : FnScope ["chart", "lot", "free"] ["chart", "lot", "free"] (L2.defScope s_flow_of) := ⟨rfl, rfl, rfl, by decide +kernel, rfl, by decide +kernel, by decide +kernel⟩
abbrev s_arriving : Stmt := top 25
theorem sc_arriving : FnScope ["place"] ["place"] (L2.defScope s_arriving) := ⟨rfl, rfl, rfl, by decide +kernel, rfl, by decide +kernel, by decide +kernel⟩
abbrev s_leaving : Stmt := top 26
theorem sc_leaving : FnScope ["place"] ["place"] (L2.defScope s_leaving) := ⟨rfl, rfl, rfl, by decide +kernel, rfl, by decide +kernel, by decide +kernel⟩
abbrev s_gate : Stmt := top 27
theorem sc_gate : FnScope ["place"] ["place"] (L2.defScope s_gate) := ⟨rfl, rfl, rfl, by decide +kernel, rfl, by decide +kernel, by decide +kernel⟩
abbrev s_Net___init__ : Stmt := L2.inClass (top 28) 0
theorem sc_Net___init__ : FnScope ["self", "chart", "place", "a", "b", "_"] ["self", "chart"] (L2.defScope s_Net___init__) := ⟨rfl, rfl, rfl, by decide +kernel, rfl, by decide +kernel, by decide +kernel⟩
abbrev s_Net__join : Stmt := L2.inClass (top 28) 1
theorem sc_Net__join : FnScope ["self", "side", "other", "room"] ["self", "side", "other", "room"] (L2.defScope s_Net__join) := ⟨rfl, rfl, rfl, by decide +kernel, rfl, by decide +kernel, by decide +kernel⟩
abbrev s_Flow___init__ : Stmt := L2.inClass (top 29) 0
theorem sc_Flow___init__ : FnScope ["self", "net", "lot", "free", "most", "place"] ["self", "net", "lot", "free", "most"] (L2.defScope s_Flow___init__) := ⟨rfl, rfl, rfl, by decide +kernel, rfl, by decide +kernel, by decide +kernel⟩
abbrev s_Flow_many : Stmt := L2.inClass (top 29) 1
theorem sc_Flow_many : FnScope ["self"] ["self"] (L2.defScope s_Flow_many) := ⟨rfl, rfl, rfl, by decide +kernel, rfl, by decide +kernel, by decide +kernel⟩
abbrev s_Flow_near : Stmt := L2.inClass (top 29) 2
theorem sc_Flow_near : FnScope ["self", "chart", "place"] ["self"] (L2.defScope s_Flow_near) := ⟨rfl, rfl, rfl, by decide +kernel, rfl, by decide +kernel, by decide +kernel⟩
abbrev s_Flow_far : Stmt := L2.inClass (top 29) 3
theorem sc_Flow_far : FnScope ["self"] ["self"] (L2.defScope s_Flow_far) := ⟨rfl, rfl, rfl, by decide +kernel, rfl, by decide +kernel, by decide +kernel⟩
abbrev s_Flow_ways : Stmt := L2.inClass (top 29) 4
theorem sc_Flow_ways : FnScope ["self", "used", "found", "end"] ["self"] (L2.defScope s_Flow_ways) := ⟨rfl, rfl, rfl, by decide +kernel, rfl, by decide +kernel, by decide +kernel⟩
abbrev s_Flow__fill : Stmt := L2.inClass (top 29) 5
theorem sc_Flow__fill : FnScope ["self", "most", "end"] ["self", "most"] (L2.defScope s_Flow__fill) := ⟨rfl, rfl, rfl, by decide +kernel, rfl, by decide +kernel, by decide +kernel⟩
abbrev s_Flow__further_end : Stmt := L2.inClass (top 29) 6
theorem sc_Flow__further_end : FnScope ["self", "net", "came", "waiting", "side", "path", "other", "place"] ["self"] (L2.defScope s_Flow__further_end) := ⟨rfl, rfl, rfl, by decide +kernel, rfl, by decide +kernel, by decide +kernel⟩
abbrev s_Flow__add_way : Stmt := L2.inClass (top 29) 7
theorem sc_Flow__add_way : FnScope ["self", "end", "path"] ["self", "end"] (L2.defScope s_Flow__add_way) := ⟨rfl, rfl, rfl, by decide +kernel, rfl, by decide +kernel, by decide +kernel⟩
abbrev s_Flow__sides_before_ends : Stmt := L2.inClass (top 29) 8
theorem sc_Flow__sides_before_ends : FnScope ["self"] ["self"] (L2.defScope s_Flow__sides_before_ends) := ⟨rfl, rfl, rfl, by decide +kernel, rfl, by decide +kernel, by decide +kernel⟩
abbrev s_Flow__way_to : Stmt := L2.inClass (top 29) 9
theorem sc_Flow__way_to : FnScope ["self", "end", "used", "way", "place"] ["self", "end", "used"] (L2.defScope s_Flow__way_to) := ⟨rfl, rfl, rfl, by decide +kernel, rfl, by decide +kernel, by decide +kernel⟩
abbrev s_Flow__place_before : Stmt := L2.inClass (top 29) 10
theorem sc_Flow__place_before : FnScope ["self", "place", "used", "path"] ["self", "place", "used"] (L2.defScope s_Flow__place_before) := ⟨rfl, rfl, rfl, by decide +kernel, rfl, by decide +kernel, by decide +kernel⟩
abbrev s_pinch : Stmt := top 31
theorem sc_pinch : FnScope ["chart", "lot", "free"] ["chart", "lot", "free"] (L2.defScope s_pinch) := ⟨rfl, rfl, rfl, by decide +kernel, rfl, by decide +kernel, by decide +kernel⟩
abbrev s_law_pool : Stmt := top 33
theorem sc_law_pool : FnScope ["script", "first", "size"] ["script"] (L2.defScope s_law_pool) := ⟨rfl, rfl, rfl, by decide +kernel, rfl, by decide +kernel, by decide +kernel⟩
abbrev s_law_draw : Stmt := top 34
theorem sc_law_draw : FnScope ["pool", "many", "cell", "size", "found"] ["pool", "many"] (L2.defScope s_law_draw) := ⟨rfl, rfl, rfl, by decide +kernel, rfl, by decide +kernel, by decide +kernel⟩
abbrev s_law_turned : Stmt := top 35
theorem sc_law_turned : FnScope ["pool", "many", "left", "found", "turn"] ["pool", "many"] (L2.defScope s_law_turned) := ⟨rfl, rfl, rfl, by decide +kernel, rfl, by decide +kernel, by decide +kernel⟩
abbrev s_law_map_named : Stmt := top 36
theorem sc_law_map_named : FnScope ["pool", "places", "roads", "wished", "names", "told", "a", "b"] ["pool", "places", "roads", "wished"] (L2.defScope s_law_map_named) := ⟨rfl, rfl, rfl, by decide +kernel, rfl, by decide +kernel, by decide +kernel⟩
abbrev s_law_map_some_wished : Stmt := top 37
theorem sc_law_map_some_wished : FnScope ["pool", "places", "roads", "way", "last", "a", "road"] ["pool", "places", "roads"] (L2.defScope s_law_map_some_wished) := ⟨rfl, rfl, rfl, by decide +kernel, rfl, by decide +kernel, by decide +kernel⟩
abbrev s_law_map_drawn : Stmt := top 38
theorem sc_law_map_drawn : FnScope ["pool", "most", "places", "way", "roads", "turn", "a", "b", "ahead", "size"] ["pool", "most"] (L2.defScope s_law_map_drawn) := ⟨rfl, rfl, rfl, by decide +kernel, rfl, by decide +kernel, by decide +kernel⟩
abbrev s_law_map_planted : Stmt := top 39
theorem sc_law_map_planted : FnScope ["pool", "ring", "ways", "behind", "places", "roads", "last", "way", "turn", "wished", "lot", "chart", "names", "told", "a"] ["pool", "ring", "ways", "behind"] (L2.defScope s_law_map_planted) := ⟨rfl, rfl, rfl, by decide +kernel, rfl, by decide +kernel, by decide +kernel⟩
abbrev s_law_map_lot : Stmt := top 40
theorem sc_law_map_lot : FnScope ["pool", "chart", "way", "a"] ["pool", "chart"] (L2.defScope s_law_map_lot) := ⟨rfl, rfl, rfl, by decide +kernel, rfl, by decide +kernel, by decide +kernel⟩
abbrev s_law_way_inner : Stmt := top 41
theorem sc_law_way_inner : FnScope ["chart", "lot", "left", "met", "turn", "ahead", "a", "b"] ["chart", "lot"] (L2.defScope s_law_way_inner) := ⟨rfl, rfl, rfl, by decide +kernel, rfl, by decide +kernel, by decide +kernel⟩
abbrev s_law_way_next : Stmt := top 42
theorem sc_law_way_next : FnScope ["chart", "lot", "found", "a", "b"] ["chart", "lot"] (L2.defScope s_law_way_next) := ⟨rfl, rfl, rfl, by decide +kernel, rfl, by decide +kernel, by decide +kernel⟩
abbrev s_law_way_regions : Stmt := top 43
theorem sc_law_way_regions : FnScope ["chart", "lot", "regions", "place", "p", "region"] ["chart", "lot"] (L2.defScope s_law_way_regions) := ⟨rfl, rfl, rfl, by decide +kernel, rfl, by decide +kernel, by decide +kernel⟩
abbrev s_law_way_fewest : Stmt := top 44
theorem sc_law_way_fewest : FnScope ["pairs", "free", "good", "least", "pair", "p"] ["pairs", "free"] (L2.defScope s_law_way_fewest) := ⟨rfl, rfl, rfl, by decide +kernel, rfl, by decide +kernel, by decide +kernel⟩
abbrev s_law_way_nearest : Stmt := top 45
theorem sc_law_way_nearest : FnScope ["pairs", "free", "fewest", "least", "pair"] ["pairs", "free"] (L2.defScope s_law_way_nearest) := ⟨rfl, rfl, rfl, by decide +kernel, rfl, by decide +kernel, by decide +kernel⟩
abbrev s_law_way_no_charts : Stmt := top 46
theorem sc_law_way_no_charts : FnScope ["chart", "places", "roads", "wished", "beyond", "found"] ["chart"] (L2.defScope s_law_way_no_charts) := ⟨rfl, rfl, rfl, by decide +kernel, rfl, by decide +kernel, by decide +kernel⟩
abbrev s_law_way_no_lots : Stmt := top 47
theorem sc_law_way_no_lots : FnScope ["chart"] ["chart"] (L2.defScope s_law_way_no_lots) := ⟨rfl, rfl, rfl, by decide +kernel, rfl, by decide +kernel, by decide +kernel⟩
abbrev s_law_way_raised : Stmt := top 48
theorem sc_law_way_raised : FnScope ["call", "error", "under", "names", "at", "name"] ["call"] (L2.defScope s_law_way_raised) := ⟨rfl, rfl, rfl, by decide +kernel, rfl, by decide +kernel, by decide +kernel⟩
abbrev s_law_planted : Stmt := top 49
theorem sc_law_planted : FnScope ["pool", "chart", "ring", "waists", "last", "free", "due", "at", "waist"] ["pool"] (L2.defScope s_law_planted) := ⟨rfl, rfl, rfl, by decide +kernel, rfl, by decide +kernel, by decide +kernel⟩
abbrev s_law_refused : Stmt := top 50
theorem sc_law_refused : FnScope ["chart", "lot", "free", "thing", "name", "what", "p"] ["chart", "lot", "free"] (L2.defScope s_law_refused) := ⟨rfl, rfl, rfl, by decide +kernel, rfl, by decide +kernel, by decide +kernel⟩
abbrev s_law : Stmt := top 51
theorem sc_law : FnScope ["script", "pool", "chart", "lot", "some", "free", "inner", "pairs", "places", "p"] ["script"] (L2.defScope s_law) := ⟨rfl, rfl, rfl, by decide +kernel, rfl, by decide +kernel, by decide +kernel⟩
abbrev s_init : Stmt := L2.inClass (top 2) 0
theorem sc_init : FnScope ["self", "what"] ["self", "what"] (L2.defScope s_init) := ⟨rfl, rfl, rfl, by decide +kernel, rfl, by decide +kernel, by decide +kernel⟩
end Ft

set_option Elab.async false
set_option linter.all false
set_option maxRecDepth 100000
set_option maxHeartbeats 4000000
namespace Ft
open PySem PySem.Spec PyProof.Rows L2
section
variable {P : Program} {w : World} {K : PySem.W.Frag} {mg : Str → Option Value} {base : Heap} {ca : Str → Addr}
/-! ### is_number, number_within, of data -/
def sp_is_number (K : PySem.W.Frag) : Sp := fun vs H Q _ => ∃ (v : V) (d : PyData), vs = [v] ∧ Dp K H v d ∧ Q (.bl (isNum d)) H
theorem cal_is_number (T : Txt mg) (D : Def K mg "is_number" s_is_number) : Cal P w K mg base 1 "is_number" (sp_is_number K) := by
  refine cal_of D sc_is_number (fun _ _ _ _ _ _ us hl => match us, hl with | [_], _ => rfl) (fun vs H Q E h => ?_) (fun f cdv A outer s H vs Q E hr h => ?_)
  · obtain ⟨v, d, rfl, _⟩ := h
    rfl
  · obtain ⟨v, d, rfl, hd, q⟩ := h
    refine ⟨_, (pss_one (ps_ret (pe_and (pe_callB (show CallR _ _ (rIsi K) from call_isi) (by rfl) T.isinstance (by decide +kernel) (pa_cons (pv 0) (pa_cons (pe_bltn (v := .ty "int") (u := .type "int") (by rfl) T.int (by decide +kernel) rfl) pa_nil))) (pe_one (pe_not (pe_callB (show CallR _ _ (rIsi K) from call_isi) (by rfl) T.isinstance (by decide +kernel) (pa_cons (pv 0) (pa_cons (pe_bltn (v := .ty "bool") (u := .type "bool") (by rfl) T.bool (by decide +kernel) rfl) pa_nil)))))))), ?_⟩
    refine ⟨_, rfl, _, _, _, _, isIntB d, rfl, .ty "int", isi_dp hd, kit_int d, isIntB d, rfl, ?_⟩
    cases e : isIntB d with
    | false =>
      have : isNum d = false := by cases d <;> first | rfl | cases e
      rw [this] at q
      exact iteF q
    | true =>
      refine iteT ?_
      refine ⟨_, rfl, _, _, _, _, isBl d, rfl, .ty "bool", isi_dp hd, kit_bool d, isBl d, rfl, ?_⟩
      have : isNum d = !isBl d := by cases d <;> first | rfl | cases e
      rw [this] at q
      exact q
def sp_number_within (K : PySem.W.Frag) : Sp := fun vs H Q _ => ∃ (v : V) (d : PyData) (lo hi : Int), vs = [v, .int lo, .int hi] ∧ Dp K H v d ∧ Q (.bl (numIn lo hi d)) H
theorem cal_number_within (T : Txt mg) (D : Def K mg "number_within" s_number_within) (c_is_number : Cal P w K mg base 1 "is_number" (sp_is_number K)) : Cal P w K mg base 2 "number_within" (sp_number_within K) := by
  refine cal_of D sc_number_within (fun _ _ _ _ _ _ us hl => match us, hl with | [_, _, _], _ => rfl) (fun vs H Q E h => ?_) (fun f cdv A outer s H vs Q E hr h => ?_)
  · obtain ⟨v, d, lo, hi, rfl, _⟩ := h
    rfl
  · obtain ⟨v, d, lo, hi, rfl, hd, q⟩ := h
    refine ⟨_, (pss_one (ps_ret (pe_and (pe_c c_is_number hr (by decide) (by rfl) (pa_cons (pv 0) pa_nil)) (pe_one (pe_chain op_le op_le (pv 1) (pv 0) (pv 2)))))), ?_⟩
    refine ⟨_, rfl, v, d, rfl, hd, isNum d, rfl, ?_⟩
    cases e : isNum d with
    | false =>
      have : numIn lo hi d = false := by unfold numIn; rw [e]; rfl
      rw [this] at q
      exact iteF q
    | true =>
      refine iteT ?_
      obtain ⟨i, rfl⟩ := isNum_is e
      cases dp_int hd
      have e2 : numIn lo hi (.int i) = (decide (lo ≤ i) && decide (i ≤ hi)) := by unfold numIn; rw [e]; rfl
      rw [e2] at q
      refine ⟨_, rfl, _, rfl, _, _, rfl, rfl, _, rfl, ?_⟩
      by_cases h1 : lo ≤ i
      · rw [decide_eq_true h1] at q ⊢
        exact iteT ⟨_, rfl, _, _, rfl, rfl, q⟩
      · rw [decide_eq_false h1] at q ⊢
        exact iteF q
end
end Ft

set_option Elab.async false
set_option linter.all false
set_option maxRecDepth 100000
set_option maxHeartbeats 4000000
namespace Ft
open PySem PySem.Spec PyProof.Rows L2
section
variable {P : Program} {w : World} {K : PySem.W.Frag} {mg : Str → Option Value} {base : Heap} {ca : Str → Addr}
theorem get_map {α β : Type} {f : α → β} {l : List α} {i : Nat} {y : β} (h : (l.map f)[i]? = some y) : ∃ x, l[i]? = some x ∧ y = f x := by
  rw [List.getElem?_map] at h
  cases e : l[i]? with
  | none => rw [e] at h; cases h
  | some x => rw [e] at h; exact ⟨x, rfl, (Option.some.inj h).symm⟩
theorem up_get {ws : List Nat} (up : ws.Pairwise (· < ·)) {i j a b : Nat} (hi : ws[i]? = some a) (hj : ws[j]? = some b) (h : i < j) : a < b := by
  obtain ⟨h1, e1⟩ := List.getElem?_eq_some_iff.mp hi
  obtain ⟨h2, e2⟩ := List.getElem?_eq_some_iff.mp hj
  rw [← e1, ← e2]
  exact List.pairwise_iff_getElem.mp up i j h1 h2 h
/-! ### first_bad_place, of data -/
def optV : Option Nat → V
  | none => .non
  | some i => .int (i : Int)
theorem drop_get {α : Type} {l : List α} {i : Nat} {x : α} (h : l[i]? = some x) : l.drop i = x :: l.drop (i + 1) := by
  obtain ⟨hi, e⟩ := List.getElem?_eq_some_iff.mp h
  rw [← e]
  exact List.drop_eq_getElem_cons hi
theorem badPlace_cons {n : Nat} {b : Int} {i : Nat} {d : PyData} {ds : List PyData} : badPlace n b i (d :: ds) = if numIn (b + 1) ((n : Int) - 1) d = true then badPlace n (numOf d) (i + 1) ds else some i := rfl
def sp_first_bad_place (K : PySem.W.Frag) : Sp := fun vs H Q _ => ∃ (n : Nat) (a : Addr) (xs : List V) (ds : List PyData), vs = [vN n, .ref a] ∧ SqT K H a xs ∧ DpAll K H xs ds ∧ ∀ H', Same H H' → Q (optV (badPlace n (-1) 0 ds)) H'
theorem cal_first_bad_place (T : Txt mg) (D : Def K mg "first_bad_place" s_first_bad_place) (c_number_within : Cal P w K mg base 2 "number_within" (sp_number_within K)) : Cal P w K mg base 3 "first_bad_place" (sp_first_bad_place K) := by
  refine cal_of D sc_first_bad_place (fun _ _ _ _ _ _ us hl => match us, hl with | [_, _], _ => rfl) (fun vs H Q E h => ?_) (fun f cdv A outer s H vs Q E hr h => ?_)
  · obtain ⟨n, a, xs, ds, rfl, _⟩ := h
    rfl
  · obtain ⟨n, a, xs, ds, rfl, hW, hD, q⟩ := h
    refine ⟨_, (pss_cons (ps_set (i := 2) sc_first_bad_place.nd rfl (Or.inl rfl) (pe_un un_neg pe_int))
      (pss_cons (ps_for PassesOwn.never rfl (show PI _ _ _ (iEnumT K _) from pi_enumT (by rfl) T.enumerate (pa_cons (pv 1) pa_nil)) (show PG _ _ (gTup K 2 _) from pg_tup (by rfl) (pgs_cons (pg_name (i := 3) sc_first_bad_place.nd rfl (Or.inl rfl)) (pgs_cons (pg_name (i := 4) sc_first_bad_place.nd rfl (Or.inl rfl)) pgs_nil))) (pss_cons (ps_if (pt_not (pt_val (pe_c c_number_within hr (by decide) (by rfl) (pa_cons (pv 4) (pa_cons (pe_op op_add (pv 2) pe_int) (pa_cons (pe_op op_sub (pv 0) pe_int) pa_nil)))))) (pss_one (ps_ret (pv 3))) pss_nil)
        (pss_one (ps_set (i := 2) sc_first_bad_place.nd rfl (Or.inl rfl) (pv 4)))))
      (pss_one (ps_ret pe_non)))), ?_⟩
    refine ⟨_, rfl, _, rfl, a, _, rfl, hW, for_it walk_enumT (fun i σ H' => ∃ (b : Int) (v3 v4 : Option V), σ = [some (vN n), some (.ref a), some (.int b), v3, v4] ∧ Same H H' ∧ badPlace n (-1) 0 ds = badPlace n b i (ds.drop i)) ⟨-1, _, _, rfl, fun _ _ h => h, rfl⟩ (fun i σ H' _ ⟨_, _, _, _, s1, _⟩ => Same.sqT s1 hW) ?_ ?_⟩
    · rintro i x σ H1 H2 hi ⟨b, v3, v4, rfl, s1, eb⟩ ⟨t, x0, y, rfl, nt, rfl, e1, e2⟩
      obtain ⟨d, hd, dd⟩ := dpAll_get hD e2
      have s2 := s1.trans (same_upd (o := .tup [.int (i : Nat), y]) nt)
      rw [drop_get hd, badPlace_cons] at eb
      cases e1
      refine ⟨t, _, rfl, .inl (.inl upd_same), rfl, _, _, rfl, _, _, rfl, rfl, ?_⟩
      refine ⟨_, rfl, _, rfl, _, _, rfl, rfl, _, rfl, _, _, rfl, rfl, _, d, _, _, rfl, Dp.same s2 dd, numIn (b + 1) ((n : Int) - 1) d, rfl, ?_⟩
      cases c : numIn (b + 1) ((n : Int) - 1) d with
      | false =>
        rw [c, if_neg Bool.false_ne_true] at eb
        refine iteT ?_
        have := q _ s2
        rw [eb] at this
        exact ⟨_, rfl, this⟩
      | true =>
        rw [c, if_pos rfl] at eb
        obtain ⟨z, rfl, _, _⟩ := numIn_is c
        cases dp_int dd
        refine iteF ?_
        exact ⟨_, rfl, z, _, _, rfl, s2, eb⟩
    · rintro σ H1 ⟨b, v3, v4, rfl, s1, eb⟩
      rw [dpAll_length hD, List.drop_length] at eb
      have := q H1 s1
      rw [eb] at this
      exact this
/-! ### road_fits, of data -/
def sp_road_fits (K : PySem.W.Frag) : Sp := fun vs H Q _ => ∃ (n : Nat) (v : V) (d : PyData), vs = [vN n, v] ∧ Dp K H v d ∧ Q (.bl (pairOf n d).isSome) H
theorem pairOf_two {n : Nat} {a b : PyData} : (pairOf n (.tuple [a, b])).isSome = (numIn 0 ((n : Int) - 1) a && numIn 0 ((n : Int) - 1) b) := by
  unfold pairOf
  simp only []
  split
  · rename_i h
    rw [h]
    rfl
  · rename_i h
    rw [Bool.not_eq_true] at h
    rw [h]
    rfl
theorem pairOf_len {n : Nat} {ds : List PyData} (h : ds.length ≠ 2) : pairOf n (.tuple ds) = none := by
  unfold pairOf
  split
  · rename_i a b e
    cases e
    exact absurd rfl h
  · rfl
theorem pairOf_not {n : Nat} {d : PyData} (h : isTup d = false) : pairOf n d = none := by
  cases d <;> first | rfl | cases h
theorem cal_road_fits (T : Txt mg) (D : Def K mg "road_fits" s_road_fits) (c_number_within : Cal P w K mg base 2 "number_within" (sp_number_within K)) : Cal P w K mg base 3 "road_fits" (sp_road_fits K) := by
  refine cal_of D sc_road_fits (fun _ _ _ _ _ _ us hl => match us, hl with | [_, _], _ => rfl) (fun vs H Q E h => ?_) (fun f cdv A outer s H vs Q E hr h => ?_)
  · obtain ⟨n, v, d, rfl, _⟩ := h
    rfl
  · obtain ⟨n, v, d, rfl, hd, q⟩ := h
    refine ⟨_, (pss_cons (ps_if (PW.pt (pw_or (pt_not (pt_val (pe_callB (show CallR _ _ (rIsi K) from call_isi) (by rfl) T.isinstance (by decide +kernel) (pa_cons (pv 1) (pa_cons (pe_bltn (v := .ty "tuple") (u := .type "tuple") (by rfl) T.tuple (by decide +kernel) rfl) pa_nil))))) (pw_or1 (pt_cmpR op_ne (pe_callB (show CallR _ _ (rLenS K) from call_lenS) (by rfl) T.len (by decide +kernel) (pa_cons (pv 1) pa_nil)) pe_int (nomark _))))) (pss_one (ps_ret pe_bl)) pss_nil)
      (pss_one (ps_ret (pe_and (pe_c c_number_within hr (by decide) (by rfl) (pa_cons (pe_ix (show IxR _ (rIxT K) from ix_tup) (pv 1) pe_int (fun _ _ => rfl)) (pa_cons pe_int (pa_cons (pe_op op_sub (pv 0) pe_int) pa_nil)))) (pe_one (pe_c c_number_within hr (by decide) (by rfl) (pa_cons (pe_ix (show IxR _ (rIxT K) from ix_tup) (pv 1) pe_int (fun _ _ => rfl)) (pa_cons pe_int (pa_cons (pe_op op_sub (pv 0) pe_int) pa_nil))))))))), ?_⟩
    refine ⟨_, rfl, _, _, _, _, isTup d, rfl, .ty "tuple", isi_dp hd, kit_tup d, isTup d, rfl, ?_⟩
    cases e : isTup d with
    | false =>
      rw [pairOf_not e] at q
      exact iteT (iteT q)
    | true =>
      obtain ⟨ds, rfl⟩ := isTup_is e
      obtain ⟨t, xs, rfl, ht, ha⟩ := dp_tup hd
      refine iteF ?_
      refine ⟨_, rfl, _, _, rfl, .inr ht, rfl, _, rfl, ?_⟩
      by_cases l : ds.length = 2
      · have e2 : (!decide (V.int ((xs.length : Nat) : Int) = V.int 2)) = false := by
          rw [dpAll_length ha, l]
          rfl
        obtain ⟨a, b, rfl⟩ : ∃ a b, ds = [a, b] := by
          match ds, l with
          | [a, b], _ => exact ⟨a, b, rfl⟩
        cases ha with
        | cons h1 h2 =>
          cases h2 with
          | cons h2 h3 =>
            cases h3
            rename_i x y
            refine iteF ?_
            rw [pairOf_two] at q
            refine ⟨_, rfl, _, _, _, _, rfl, rfl, ht, rfl, _, rfl, _, _, rfl, rfl, x, a, _, _, rfl, h1, numIn 0 ((n : Int) - 1) a, rfl, ?_⟩
            cases c : numIn 0 ((n : Int) - 1) a with
            | false =>
              rw [c] at q
              exact iteF q
            | true =>
              rw [c] at q
              refine iteT ?_
              exact ⟨_, rfl, _, _, _, _, rfl, rfl, ht, rfl, _, rfl, _, _, rfl, rfl, y, b, _, _, rfl, h2, q⟩
      · rw [pairOf_len l] at q
        have e2 : (!decide (V.int ((xs.length : Nat) : Int) = V.int 2)) = true := by
          rw [dpAll_length ha, decide_eq_false]
          · rfl
          · intro z
            have z' := V.int.inj z
            omega
        exact ite_any (fun _ => q) (fun z => absurd (show (!decide (V.int ((xs.length : Nat) : Int) = V.int 2)) = false from z) (by rw [e2]; exact fun h => nomatch h))
end
end Ft

set_option Elab.async false
set_option linter.all false
set_option maxRecDepth 100000
set_option maxHeartbeats 4000000
namespace Ft
open PySem PySem.Spec PyProof.Rows L2
section
variable {P : Program} {w : World} {K : PySem.W.Frag} {mg : Str → Option Value} {base : Heap} {ca : Str → Addr}
/-! ### check_roads, of data -/
theorem upP_get {ps : List (Nat × Nat)} (up : ps.Pairwise ltP) {i j : Nat} {a b : Nat × Nat} (hi : ps[i]? = some a) (hj : ps[j]? = some b) (h : i < j) : ltP a b := by
  obtain ⟨h1, e1⟩ := List.getElem?_eq_some_iff.mp hi
  obtain ⟨h2, e2⟩ := List.getElem?_eq_some_iff.mp hj
  rw [← e1, ← e2]
  exact List.pairwise_iff_getElem.mp up i j h1 h2 h
theorem lex_two {a b c d : Nat} :
    Ob.lexAt (fun j => decide (([(c : Int), (d : Int)] : List Int).getD j 0 = ([(a : Int), (b : Int)] : List Int).getD j 0)) (fun j => decide (([(c : Int), (d : Int)] : List Int).getD j 0 ≤ ([(a : Int), (b : Int)] : List Int).getD j 0)) (decide (([(c : Int), (d : Int)] : List Int).length ≤ ([(a : Int), (b : Int)] : List Int).length)) 0 (min ([(c : Int), (d : Int)] : List Int).length ([(a : Int), (b : Int)] : List Int).length) = !decide (ltP (a, b) (c, d)) := by
  simp only [List.length_cons, List.length_nil, Nat.min_self, Ob.lexAt, List.getD_cons_zero, List.getD_cons_succ]
  have e : decide (ltP (a, b) (c, d)) = decide (a < c ∨ (a = c ∧ b < d)) := by
    by_cases h : ltP (a, b) (c, d)
    · rw [decide_eq_true h]
      exact (decide_eq_true h).symm
    · rw [decide_eq_false h]
      exact (decide_eq_false h).symm
  rw [e]
  rcases Nat.lt_trichotomy a c with h | h | h
  · have n1 : ¬ ((c : Int) = a) := by omega
    have n2 : ¬ ((c : Int) ≤ a) := by omega
    have n3 : a < c ∨ (a = c ∧ b < d) := .inl h
    simp [n1, n2, n3]
  · have n1 : ((c : Int) = a) := by omega
    rcases Nat.lt_trichotomy b d with h2 | h2 | h2
    · have n2 : ¬ ((d : Int) = b) := by omega
      have n3 : ¬ ((d : Int) ≤ b) := by omega
      have n4 : a < c ∨ (a = c ∧ b < d) := .inr ⟨h, h2⟩
      simp [n1, n2, n3, n4]
    · have n2 : ((d : Int) = b) := by omega
      have n4 : ¬ (a < c ∨ (a = c ∧ b < d)) := by omega
      simp [n1, n2, n4]
    · have n2 : ¬ ((d : Int) = b) := by omega
      have n3 : ((d : Int) ≤ b) := by omega
      have n4 : ¬ (a < c ∨ (a = c ∧ b < d)) := by omega
      simp [n1, n2, n3, n4]
  · have n1 : ¬ ((c : Int) = a) := by omega
    have n2 : ((c : Int) ≤ a) := by omega
    have n3 : ¬ (a < c ∨ (a = c ∧ b < d)) := by omega
    simp [n1, n2, n3]
theorem badRoad_cons {n : Nat} {p : Option (Nat × Nat)} {i : Nat} {d : PyData} {ds : List PyData} : badRoad n p i (d :: ds) = match pairOf n d with
    | none => some i
    | some q => if above p q = true then badRoad n (some q) (i + 1) ds else some i := rfl
theorem pair_dp {K : PySem.W.Frag} {H : Hp} {v : V} {p : Nat × Nat} (h : Dp K H v (pairD p)) : ∃ t, v = .ref t ∧ SqT K H t [vN p.1, vN p.2] := by
  obtain ⟨a, xs, rfl, hs, ha⟩ := dp_tup h
  have e : xs = [p.1, p.2].map vN := nats_dp (ws := [p.1, p.2]) ha
  subst e
  exact ⟨a, rfl, hs⟩
def spX_check_roads (K : PySem.W.Frag) (ca : Str → Addr) : Sp := fun vs H Q E => ∃ (n : Nat) (v : V) (d : PyData), vs = [vN n, v] ∧ Dp K H v d ∧ (roadsErr n d = none → ∀ H', Same H H' → Q .non H') ∧ ∀ i, roadsErr n d = some i → Raised K ca H E ("BadMap", .int i)
theorem cal_check_roads (T : Txt mg) (D : Def K mg "check_roads" s_check_roads) (m_MOST_ROADS : MgI mg "MOST_ROADS" 240) (e_BadMap : Er P w K mg base ca "BadMap") (c_road_fits : Cal P w K mg base 3 "road_fits" (sp_road_fits K)) : CalX P w K mg base 4 "check_roads" (spX_check_roads K ca) := by
  refine calx_of D sc_check_roads (fun _ _ _ _ _ _ us hl => match us, hl with | [_, _], _ => rfl) (fun vs H Q E h => ?_) (fun f cdv A outer s H vs Q E hr h => ?_)
  · obtain ⟨n, v, d, rfl, _⟩ := h
    rfl
  · obtain ⟨n, v, d, rfl, hd, q, r⟩ := h
    refine ⟨_, (pss_cons (ps_if (PW.pt (pw_or (pt_not (pt_val (pe_callB (show CallR _ _ (rIsi K) from call_isi) (by rfl) T.isinstance (by decide +kernel) (pa_cons (pv 1) (pa_cons (pe_bltn (v := .ty "tuple") (u := .type "tuple") (by rfl) T.tuple (by decide +kernel) rfl) pa_nil))))) (pw_or1 (pt_cmpR op_gt (pe_callB (show CallR _ _ (rLenS K) from call_lenS) (by rfl) T.len (by decide +kernel) (pa_cons (pv 1) pa_nil)) (pe_globI (n := 240) rfl m_MOST_ROADS) (nomark _))))) (pss_one (ps_raiseE rfl e_BadMap hr (by decide) (L2N.takes_of rfl rfl rfl rfl) (by rfl) (pa_cons (pe_un un_neg pe_int) pa_nil))) pss_nil)
      (pss_one (ps_for (passes_of rfl) rfl (show PI _ _ _ (iEnumT K _) from pi_enumT (by rfl) T.enumerate (pa_cons (pv 1) pa_nil)) (show PG _ _ (gTup K 2 _) from pg_tup (by rfl) (pgs_cons (pg_name (i := 2) sc_check_roads.nd rfl (Or.inl rfl)) (pgs_cons (pg_name (i := 3) sc_check_roads.nd rfl (Or.inl rfl)) pgs_nil))) (pss_cons (ps_if (pt_not (pt_val (pe_c c_road_fits hr (by decide) (by rfl) (pa_cons (pv 0) (pa_cons (pv 3) pa_nil))))) (pss_one (ps_raiseE rfl e_BadMap hr (by decide) (L2N.takes_of rfl rfl rfl rfl) (by rfl) (pa_cons (pv 2) pa_nil))) pss_nil)
        (pss_one (ps_if (PW.pt (pw_and (pt_cmpR op_gt (pv 2) pe_int (nomark _)) (pw_and1 (pt_cmpR (show OpR _ _ (rLeT K) from op_leT hr.units0) (pv 3) (pe_ix (show IxR _ (rIxT K) from ix_tup) (pv 1) (pe_op op_sub (pv 2) pe_int) (fun _ _ => rfl)) (nomark _))))) (pss_one (ps_raiseE rfl e_BadMap hr (by decide) (L2N.takes_of rfl rfl rfl rfl) (by rfl) (pa_cons (pv 2) pa_nil))) pss_nil)))))), ?_⟩
    refine ⟨_, rfl, _, _, _, _, isTup d, rfl, .ty "tuple", isi_dp hd, kit_tup d, isTup d, rfl, ?_⟩
    cases e : isTup d with
    | false =>
      refine iteT (iteT ?_)
      refine ⟨_, rfl, _, rfl, fun dd hdd => ?_⟩
      exact r (-3) (by cases d <;> first | rfl | cases e) dd _ _ (same_upd hdd) upd_same (.int _)
    | true =>
      obtain ⟨ds, rfl⟩ := isTup_is e
      obtain ⟨a, xs, rfl, hR, hP⟩ := dp_tup hd
      have len := dpAll_length hP
      refine iteF ?_
      refine ⟨_, rfl, _, _, rfl, .inr hR, _, _, rfl, rfl, _, rfl, ?_⟩
      by_cases many : ds.length ≤ 240
      · rw [decide_eq_false (show ¬ ((240 : Int) < (xs.length : Nat)) by rw [len]; omega)]
        have er : roadsErr n (.tuple ds) = optI (badRoad n none 0 ds) := if_pos many
        rw [er] at q
        have r : ∀ i, optI (badRoad n none 0 ds) = some i → _ := fun i h => r i (er.trans h)
        refine iteF ?_
        refine ⟨_, rfl, a, _, rfl, hR, for_it walk_enumT (fun i σ H' => ∃ (v3 v4 : Option V) (p : Option (Nat × Nat)), σ = [some (vN n), some (.ref a), v3, v4] ∧ Same H H' ∧ badRoad n none 0 ds = badRoad n p i (ds.drop i) ∧ (i = 0 → p = none) ∧ ∀ i', i = i' + 1 → ∃ q, p = some q ∧ ds[i']? = some (pairD q)) ⟨_, _, none, rfl, (fun _ _ h => h), rfl, (fun _ => rfl), fun i' h => nomatch h⟩ (fun i σ H' _ ⟨_, _, _, _, s1, _⟩ => Same.sqT s1 hR) ?_ ?_⟩
        · rintro i x σ H1 H2 hi ⟨v3, v4, p, rfl, s1, eb, p0, pp⟩ ⟨t, x0, y, rfl, nt, rfl, e1, e2⟩
          obtain ⟨dy, hdy, dd⟩ := dpAll_get hP e2
          have s2 := s1.trans (same_upd (o := .tup [.int (i : Nat), y]) nt)
          rw [drop_get hdy, badRoad_cons] at eb
          cases e1
          refine ⟨t, _, rfl, .inl (.inl upd_same), rfl, _, _, rfl, _, _, rfl, rfl, ?_⟩
          refine ⟨_, rfl, _, rfl, n, y, dy, rfl, Dp.same s2 dd, (pairOf n dy).isSome, rfl, ?_⟩
          cases ep : pairOf n dy with
          | none =>
            rw [ep] at eb
            refine iteT ?_
            refine ⟨_, rfl, _, rfl, fun dx hdx => ?_⟩
            exact r i (by rw [eb]; rfl) dx _ _ (s2.trans (same_upd hdx)) upd_same (.int _)
          | some qr =>
            rw [ep] at eb
            simp only [] at eb
            obtain ⟨rfl, b1, b2⟩ := pairOf_is ep
            obtain ⟨z, rfl, pz⟩ := pair_dp dd
            refine iteF ?_
            refine ⟨_, rfl, _, _, rfl, rfl, _, rfl, ?_⟩
            cases i with
            | zero =>
              rw [decide_eq_false (show ¬ ((0 : Int) < ((0 : Nat) : Int)) by omega)]
              rw [p0 rfl] at eb
              rw [if_pos (show above none qr = true from rfl)] at eb
              refine iteF (iteF ⟨_, _, some qr, rfl, s2, eb, (fun h => nomatch h), fun i' h => ⟨qr, rfl, ?_⟩⟩)
              cases h
              exact hdy
            | succ i' =>
              rw [decide_eq_true (show (0 : Int) < ((i' + 1 : Nat) : Int) by omega)]
              refine iteT ?_
              obtain ⟨q0, rfl, hq0⟩ := pp i' rfl
              obtain ⟨y0, hy0, dy0⟩ := dpAll_getD hP hq0
              obtain ⟨z0, rfl, pz0⟩ := pair_dp dy0
              have ei : atI xs (((i' + 1 : Nat) : Int) - 1) = some (.ref z0) := by
                have e : ((i' + 1 : Nat) : Int) - 1 = (i' : Nat) := by omega
                rw [e]
                exact atI_nat hy0
              refine ⟨_, rfl, _, rfl, _, rfl, _, _, rfl, rfl, a, _, _, _, rfl, rfl, Same.sqT s2 hR, ei, z, z0, [(qr.1 : Int), (qr.2 : Int)], [(q0.1 : Int), (q0.2 : Int)], rfl, rfl, Same.sqT s2 pz, Same.sqT s2 pz0, _, rfl, ?_⟩
              rw [lex_two]
              by_cases lt : ltP q0 qr
              · have e3 : (!decide (ltP (q0.1, q0.2) (qr.1, qr.2))) = false := by rw [decide_eq_true (show ltP (q0.1, q0.2) (qr.1, qr.2) from lt)]; rfl
                rw [e3]
                rw [if_pos (show above (some q0) qr = true from decide_eq_true lt)] at eb
                refine iteF ⟨_, _, some qr, rfl, s2, eb, (fun h => nomatch h), fun j h => ⟨qr, rfl, ?_⟩⟩
                cases h
                exact hdy
              · have e3 : (!decide (ltP (q0.1, q0.2) (qr.1, qr.2))) = true := by rw [decide_eq_false (show ¬ ltP (q0.1, q0.2) (qr.1, qr.2) from lt)]; rfl
                rw [e3]
                rw [if_neg (show ¬ above (some q0) qr = true from fun h => lt (of_decide_eq_true h))] at eb
                refine iteT ?_
                refine ⟨_, rfl, _, rfl, fun dx hdx => ?_⟩
                exact r ((i' + 1 : Nat) : Int) (by rw [eb]; rfl) dx _ _ (s2.trans (same_upd hdx)) upd_same (.int _)
        · rintro σ H1 ⟨v3, v4, p, rfl, s1, eb, _⟩
          rw [len, List.drop_length] at eb
          exact q (by rw [eb]; rfl) H1 s1
      · rw [decide_eq_true (show ((240 : Int) < (xs.length : Nat)) by rw [len]; omega)]
        refine iteT ?_
        refine ⟨_, rfl, _, rfl, fun dx hdx => ?_⟩
        exact r (-3) (if_neg many) dx _ _ (same_upd hdx) upd_same (.int _)
end
end Ft

set_option Elab.async false
set_option linter.all false
set_option maxRecDepth 100000
set_option maxHeartbeats 4000000
namespace Ft
open PySem PySem.Spec PyProof.Rows L2
section
variable {P : Program} {w : World} {K : PySem.W.Frag} {mg : Str → Option Value} {base : Heap} {ca : Str → Addr}
/-! ### made_map, of data -/
theorem mapErr_not {d : PyData} (h : isTup d = false) : mapErr d = some (("BadMap" : Str), -1) := by
  cases d <;> first | rfl | cases h
theorem mapErr_len {ds : List PyData} (h : ds.length ≠ 3) : mapErr (.tuple ds) = some (("BadMap" : Str), -1) := by
  unfold mapErr
  split
  · rename_i a b c e
    cases e
    exact absurd rfl h
  · rfl
theorem mapErr_name {d : PyData} {x : Str} {i : Int} (h : mapErr d = some (x, i)) : x = "BadMap" ∨ x = "BadWish" := by
  unfold mapErr at h
  split at h
  · rename_i p r w
    unfold mapErr3 at h
    split at h
    · cases e : roadsErr (numOf p).toNat r with
      | some j => rw [e] at h; cases h; exact .inl rfl
      | none =>
        rw [e] at h
        cases e2 : wishErr (numOf p).toNat w with
        | some j => rw [e2] at h; cases h; exact .inr rfl
        | none => rw [e2] at h; cases h
    · cases h
      exact .inl rfl
  · cases h
    exact .inl rfl
/-- what is wanted behind a check: the answer, or the error that is due -/
def Due (K : PySem.W.Frag) (ca : Str → Addr) (H : Hp) (E : XK) (e : Option (Str × Int)) (ok : Prop) : Prop := (e = none → ok) ∧ ∀ x i, e = some (x, i) → Raised K ca H E (x, .int i)
def spX_made_map (K : PySem.W.Frag) (ca : Str → Addr) : Sp := fun vs H Q E => ∃ (v : V) (d : PyData), vs = [v] ∧ Dp K H v d ∧ Due K ca H E (mapErr d) (∀ c C c' H', v = .ref c → d = chartD C → C.Ok → Same H H' → IsChart K H' c' C → Q (.ref c') H')
def mapErrN (n : Nat) (rd wd : PyData) : Option (Str × Int) := match roadsErr n rd with
  | some i => some ("BadMap", i)
  | none => match wishErr n wd with
    | some i => some ("BadWish", i)
    | none => none
theorem mapErrN_map {n : Nat} {rd wd : PyData} {i : Int} (h : roadsErr n rd = some i) : mapErrN n rd wd = some (("BadMap" : Str), i) := by unfold mapErrN; rw [h]
theorem mapErrN_wish {n : Nat} {rd wd : PyData} {i : Int} (h : roadsErr n rd = none) (h2 : wishErr n wd = some i) : mapErrN n rd wd = some (("BadWish" : Str), i) := by unfold mapErrN; rw [h, h2]
theorem mapErrN_none {n : Nat} {rd wd : PyData} (h : roadsErr n rd = none) (h2 : wishErr n wd = none) : mapErrN n rd wd = none := by unfold mapErrN; rw [h, h2]
theorem dpAll_three {K : PySem.W.Frag} {H : Hp} {xs : List V} {a b c : PyData} (h : DpAll K H xs [a, b, c]) : ∃ x y z, xs = [x, y, z] ∧ Dp K H x a ∧ Dp K H y b ∧ Dp K H z c := by
  cases h with
  | cons h1 h =>
    cases h with
    | cons h2 h =>
      cases h with
      | cons h3 h =>
        cases h
        exact ⟨_, _, _, rfl, h1, h2, h3⟩
theorem dpAll_two {K : PySem.W.Frag} {H : Hp} {xs : List V} {a b : PyData} (h : DpAll K H xs [a, b]) : ∃ x y, xs = [x, y] ∧ Dp K H x a ∧ Dp K H y b := by
  cases h with
  | cons h1 h =>
    cases h with
    | cons h2 h =>
      cases h
      exact ⟨_, _, rfl, h1, h2⟩
theorem nD_toNat (n : Nat) : (numOf (nD n)).toNat = n := by simp [nD, numOf]
theorem int_nD {i : Int} (h : 0 ≤ i) : PyData.int i = nD (numOf (.int i)).toNat := by
  show PyData.int i = .int ((numOf (.int i)).toNat : Int)
  have : ((numOf (PyData.int i)).toNat : Int) = i := by
    simp only [numOf]
    omega
  rw [this]
theorem cal_made_map (T : Txt mg) (D : Def K mg "made_map" s_made_map) (m_MOST_PLACES : MgI mg "MOST_PLACES" 60) (e_BadMap : Er P w K mg base ca "BadMap") (e_BadWish : Er P w K mg base ca "BadWish") (c_number_within : Cal P w K mg base 2 "number_within" (sp_number_within K)) (c_check_roads : CalX P w K mg base 4 "check_roads" (spX_check_roads K ca))
    (c_first_bad_place : Cal P w K mg base 3 "first_bad_place" (sp_first_bad_place K)) : CalX P w K mg base 5 "made_map" (spX_made_map K ca) := by
  refine calx_of D sc_made_map (fun _ _ _ _ _ _ us hl => match us, hl with | [_], _ => rfl) (fun vs H Q E h => ?_) (fun f cdv A outer s H vs Q E hr h => ?_)
  · obtain ⟨v, d, rfl, _⟩ := h
    rfl
  · obtain ⟨v, d, rfl, hd, q, r⟩ := h
    have r : ∀ x i, mapErr d = some (x, i) → Raised K ca H E (x, .int i) := r
    refine ⟨_, (pss_cons (ps_if (PW.pt (pw_or (pt_not (pt_val (pe_callB (show CallR _ _ (rIsi K) from call_isi) (by rfl) T.isinstance (by decide +kernel) (pa_cons (pv 0) (pa_cons (pe_bltn (v := .ty "tuple") (u := .type "tuple") (by rfl) T.tuple (by decide +kernel) rfl) pa_nil))))) (pw_or1 (pt_cmpR op_ne (pe_callB (show CallR _ _ (rLenS K) from call_lenS) (by rfl) T.len (by decide +kernel) (pa_cons (pv 0) pa_nil)) pe_int (nomark _))))) (pss_one (ps_raiseE rfl e_BadMap hr (by decide) (L2N.takes_of rfl rfl rfl rfl) (by rfl) (pa_cons (pe_un un_neg pe_int) pa_nil))) pss_nil)
      (pss_cons (ps_asg (pv 0) (show PG _ _ (gTup K 3 _) from pg_tup (by rfl) (pgs_cons (pg_name (i := 1) sc_made_map.nd rfl (Or.inl rfl)) (pgs_cons (pg_name (i := 2) sc_made_map.nd rfl (Or.inl rfl)) (pgs_cons (pg_name (i := 3) sc_made_map.nd rfl (Or.inl rfl)) pgs_nil)))))
      (pss_cons (ps_if (pt_not (pt_val (pe_c c_number_within hr (by decide) (by rfl) (pa_cons (pv 1) (pa_cons pe_int (pa_cons (pe_globI (n := 60) rfl m_MOST_PLACES) pa_nil)))))) (pss_one (ps_raiseE rfl e_BadMap hr (by decide) (L2N.takes_of rfl rfl rfl rfl) (by rfl) (pa_cons (pe_un un_neg pe_int) pa_nil))) pss_nil)
      (pss_cons (ps_expr (pe_x (L2N.takes_of rfl rfl rfl rfl) c_check_roads hr (by decide) (by rfl) (pa_cons (pv 1) (pa_cons (pv 2) pa_nil))))
      (pss_cons (ps_if (pt_not (pt_val (pe_callB (show CallR _ _ (rIsi K) from call_isi) (by rfl) T.isinstance (by decide +kernel) (pa_cons (pv 3) (pa_cons (pe_bltn (v := .ty "tuple") (u := .type "tuple") (by rfl) T.tuple (by decide +kernel) rfl) pa_nil))))) (pss_one (ps_raiseE rfl e_BadWish hr (by decide) (L2N.takes_of rfl rfl rfl rfl) (by rfl) (pa_cons (pe_un un_neg pe_int) pa_nil))) pss_nil)
      (pss_cons (ps_set (i := 4) sc_made_map.nd rfl (Or.inl rfl) (pe_c c_first_bad_place hr (by decide) (by rfl) (pa_cons (pv 1) (pa_cons (pv 3) pa_nil))))
      (pss_cons (ps_if (pt_cmpR op_notN (pv 4) pe_non (nomark _)) (pss_one (ps_raiseE rfl e_BadWish hr (by decide) (L2N.takes_of rfl rfl rfl rfl) (by rfl) (pa_cons (pv 4) pa_nil))) pss_nil)
      (pss_one (ps_ret (pe_tup (pa_cons (pv 1) (pa_cons (pv 2) (pa_cons (pv 3) pa_nil))))))))))))), ?_⟩
    refine ⟨_, rfl, _, _, _, _, isTup d, rfl, .ty "tuple", isi_dp hd, kit_tup d, isTup d, rfl, ?_⟩
    cases e : isTup d with
    | false =>
      refine iteT (iteT ?_)
      exact ⟨_, rfl, _, rfl, fun dd hdd => r _ _ (mapErr_not e) dd _ _ (same_upd hdd) upd_same (.int _)⟩
    | true =>
      obtain ⟨ds, rfl⟩ := isTup_is e
      obtain ⟨c, xs, rfl, hC, hP⟩ := dp_tup hd
      have len := dpAll_length hP
      refine iteF ?_
      refine ⟨_, rfl, _, _, rfl, .inr hC, rfl, _, rfl, ?_⟩
      by_cases l : ds.length = 3
      · have e2 : (!decide (V.int ((xs.length : Nat) : Int) = V.int 3)) = false := by
          rw [len, l]
          rfl
        refine ite_any (fun z => absurd (show (!decide (V.int ((xs.length : Nat) : Int) = V.int 3)) = true from z) (by rw [e2]; exact fun h => nomatch h)) (fun _ => ?_)
        obtain ⟨p, rd, wd, rfl⟩ : ∃ a b c, ds = [a, b, c] := by
          match ds, l with
          | [a, b, c], _ => exact ⟨a, b, c, rfl⟩
        obtain ⟨vp, vr, vw, rfl, h1, h2, h3⟩ := dpAll_three hP
        refine ⟨_, rfl, c, _, rfl, hC, rfl, _, _, rfl, _, _, rfl, _, _, rfl, rfl, ?_⟩
        refine ⟨_, rfl, _, p, _, _, rfl, h1, numIn 0 60 p, rfl, ?_⟩
        have em : mapErr (.tuple [p, rd, wd]) = mapErr3 p rd wd := rfl
        rw [em] at q
        have r : ∀ x i, mapErr3 p rd wd = some (x, i) → _ := fun x i h => r x i (em.trans h)
        cases cn : numIn 0 60 p with
        | false =>
          refine iteT ?_
          exact ⟨_, rfl, _, rfl, fun dd hdd => r _ _ (by unfold mapErr3; rw [cn]; rfl) dd _ _ (same_upd hdd) upd_same (.int _)⟩
        | true =>
          obtain ⟨i, rfl, i1, i2⟩ := numIn_is cn
          cases dp_int h1
          obtain ⟨n, ep⟩ : ∃ n : Nat, PyData.int i = nD n := ⟨_, int_nD i1⟩
          have ei : i = (n : Int) := by
            have z : PyData.int i = .int (n : Int) := ep
            cases z
            rfl
          subst ei
          refine iteF ?_
          have e3 : mapErr3 (nD n) rd wd = mapErrN n rd wd := by
            unfold mapErr3 mapErrN
            rw [if_pos (by rw [numIn_nat]; omega), nD_toNat]
            cases roadsErr n rd with
            | some i => rfl
            | none => cases wishErr n wd <;> rfl
          have r : ∀ x i, mapErrN n rd wd = some (x, i) → Raised K ca H E (x, .int i) := fun x i h => r x i (e3.trans h)
          have q : mapErrN n rd wd = none → _ := fun h => q (e3.trans h)
          refine ⟨_, rfl, _, rfl, n, vr, rd, rfl, h2, fun er H1 s1 => ?_, fun j er => ?_⟩
          · have h31 := Dp.same s1 h3
            refine ⟨_, rfl, _, _, _, _, isTup wd, rfl, .ty "tuple", isi_dp h31, kit_tup wd, isTup wd, rfl, ?_⟩
            cases ew : isTup wd with
            | false =>
              have ew' : wishErr n wd = some (-1) := by cases wd <;> first | rfl | cases ew
              refine iteT ?_
              exact ⟨_, rfl, _, rfl, fun dd hdd => r _ _ (mapErrN_wish er ew') dd _ _ (s1.trans (same_upd hdd)) upd_same (.int _)⟩
            | true =>
              obtain ⟨wds, rfl⟩ := isTup_is ew
              obtain ⟨wa, ys, rfl, hW, hWs⟩ := dp_tup h31
              refine iteF ?_
              refine ⟨_, rfl, _, rfl, n, wa, ys, wds, rfl, hW, hWs, fun H2 s2 => ?_⟩
              have s12 := s1.trans s2
              have ew2 : wishErr n (.tuple wds) = optI (badPlace n (-1) 0 wds) := rfl
              cases eb : badPlace n (-1) 0 wds with
              | some k =>
                refine ⟨_, rfl, rfl, _, rfl, iteT ?_⟩
                exact ⟨_, rfl, _, rfl, fun dd hdd => r _ _ (mapErrN_wish er (by rw [ew2, eb]; rfl)) dd _ _ (s12.trans (same_upd hdd)) upd_same (.int _)⟩
              | none =>
                refine ⟨_, rfl, rfl, _, rfl, iteF ?_⟩
                have e1 : mapErrN n rd (.tuple wds) = none := mapErrN_none er (by rw [ew2, eb]; rfl)
                have e0 : mapErr3 (nD n) rd (.tuple wds) = none := e3.trans e1
                obtain ⟨C, ok, p1, p2, p3⟩ := mapErr3_none e0
                refine ⟨_, rfl, _, rfl, _, rfl, (by show 3 ≤ sizeLine; decide), fun p' hp => ?_⟩
                have s3 := s12.trans (same_upd (o := .tup [vN n, vr, .ref wa]) hp)
                have dd : Dp K (upd H2 p' (.tup [vN n, vr, .ref wa])) (.ref p') (chartD C) := by
                  have z : chartD C = .tuple [nD n, rd, .tuple wds] := by
                    unfold chartD
                    rw [← p1, ← p2, ← p3]
                  rw [z]
                  exact .tup (.inl (.inl upd_same)) (.cons (.int _) (.cons (Dp.same s3 h2) (.cons (Dp.same (s2.trans (same_upd hp)) h31) .nil)))
                obtain ⟨c2, ec, isC⟩ := chart_dp dd
                cases ec
                refine q e1 c C p' _ rfl ?_ ok s3 isC
                show PyData.tuple [nD n, rd, .tuple wds] = _
                unfold chartD
                rw [← p1, ← p2, ← p3]
          · intro dd H' v s' hdd hv
            exact r _ _ (mapErrN_map er) dd H' v s' hdd hv
      · refine ite_any (fun _ => ?_) (fun z => absurd (show (!decide (V.int ((xs.length : Nat) : Int) = V.int 3)) = false from z) (by
          rw [len, decide_eq_false]
          · exact fun h => nomatch h
          · intro z
            have z' := V.int.inj z
            omega))
        exact ⟨_, rfl, _, rfl, fun dd hdd => r _ _ (mapErr_len l) dd _ _ (same_upd hdd) upd_same (.int _)⟩
/-- of a map -/
def sp_made_map (K : PySem.W.Frag) : Sp := fun vs H Q _ => ∃ (c : Addr) (C : Chart), vs = [.ref c] ∧ IsChart K H c C ∧ C.Ok ∧ ∀ c' H', Same H H' → IsChart K H' c' C → Q (.ref c') H'
theorem chartD_inj {C C' : Chart} (h : chartD C = chartD C') : C = C' := by
  obtain ⟨n, rs, ws⟩ := C
  obtain ⟨n', rs', ws'⟩ := C'
  unfold chartD lotD at h
  simp only [PyData.tuple.injEq, List.cons.injEq, and_true] at h
  obtain ⟨h1, h2, h3⟩ := h
  have inN : ∀ {a b : Nat}, nD a = nD b → a = b := fun {a b} z => by
    have z' : PyData.int (a : Int) = .int (b : Int) := z
    cases z'
    rfl
  have inL : ∀ {f : Nat → PyData} {g : Nat → PyData}, True := fun {_ _} => trivial
  have e3 : ws = ws' := by
    refine List.map_inj_right (f := nD) (fun {a b} z => inN z) |>.mp h3
  have e2 : rs = rs' := by
    refine List.map_inj_right (f := pairD) (fun {a b} z => ?_) |>.mp h2
    unfold pairD at z
    simp only [PyData.tuple.injEq, List.cons.injEq, and_true] at z
    exact Prod.ext (inN z.1) (inN z.2)
  rw [inN h1, e2, e3]
theorem lotD_inj {ws ws' : List Nat} (h : lotD ws = lotD ws') : ws = ws' := by
  unfold lotD at h
  simp only [PyData.tuple.injEq] at h
  exact List.map_inj_right (f := nD) (fun {a b} z => by
    have z' : PyData.int (a : Int) = .int (b : Int) := z
    cases z'
    rfl) |>.mp h
theorem calv_made_map (c_made_map : CalX P w K mg base 5 "made_map" (spX_made_map K ca)) : Cal P w K mg base 5 "made_map" (sp_made_map K) :=
  c_made_map.valid fun vs H Q E ⟨c, C, e, isC, ok, q⟩ => ⟨_, _, e, dp_chart isC, fun _ c0 C' c' H' ec eC _ s' isC' => q c' H' s' (by rw [chartD_inj eC]; exact isC'), fun x i h => by rw [mapErr_chart ok] at h; cases h⟩
end
end Ft

set_option Elab.async false
set_option linter.all false
set_option maxRecDepth 100000
set_option maxHeartbeats 4000000
namespace Ft
open PySem PySem.Spec PyProof.Rows L2
section
variable {P : Program} {w : World} {K : PySem.W.Frag} {mg : Str → Option Value} {base : Heap} {ca : Str → Addr}
/-! ### place_fits, check_place, lot_fits, check_lot, of data -/
def rngD (n : Nat) (d : PyData) : Bool := numIn 0 ((n : Int) - 1) d
theorem rngD_nat {n i : Nat} (h : i < n) : rngD n (nD i) = true := numIn_nat.mpr ⟨by omega, by omega⟩
theorem rngD_is {n : Nat} {d : PyData} (h : rngD n d = true) : ∃ i, d = nD i ∧ i < n := by
  obtain ⟨i, rfl, h1, h2⟩ := numIn_is h
  refine ⟨i.toNat, ?_, by omega⟩
  show PyData.int i = .int (i.toNat : Int)
  rw [show ((i.toNat : Nat) : Int) = i by omega]
def sp_lot_fits (K : PySem.W.Frag) : Sp := fun vs H Q _ => ∃ (c r wd : Addr) (n : Nat) (v : V) (d : PyData), vs = [.ref c, v] ∧ SqT K H c [vN n, .ref r, .ref wd] ∧ Dp K H v d ∧ ∀ H', Same H H' → Q (.bl (lotOk n d)) H'
theorem cal_lot_fits (T : Txt mg) (D : Def K mg "lot_fits" s_lot_fits) (c_first_bad_place : Cal P w K mg base 3 "first_bad_place" (sp_first_bad_place K)) : Cal P w K mg base 4 "lot_fits" (sp_lot_fits K) := by
  refine cal_of D sc_lot_fits (fun _ _ _ _ _ _ us hl => match us, hl with | [_, _], _ => rfl) (fun vs H Q E h => ?_) (fun f cdv A outer s H vs Q E hr h => ?_)
  · obtain ⟨c, r, wd, n, v, d, rfl, _⟩ := h
    rfl
  · obtain ⟨c, r, wd, n, v, d, rfl, hc, hd, q⟩ := h
    refine ⟨_, (pss_one (ps_ret (pe_and (pe_callB (show CallR _ _ (rIsi K) from call_isi) (by rfl) T.isinstance (by decide +kernel) (pa_cons (pv 1) (pa_cons (pe_bltn (v := .ty "tuple") (u := .type "tuple") (by rfl) T.tuple (by decide +kernel) rfl) pa_nil))) (pe_one (pe_cmpR op_isN (pe_c c_first_bad_place hr (by decide) (by rfl) (pa_cons (pe_ix (show IxR _ (rIxT K) from ix_tup) (pv 0) pe_int (fun _ _ => rfl)) (pa_cons (pv 1) pa_nil))) pe_non (nomark _)))))), ?_⟩
    refine ⟨_, rfl, _, _, _, _, isTup d, rfl, .ty "tuple", isi_dp hd, kit_tup d, isTup d, rfl, ?_⟩
    cases e : isTup d with
    | false =>
      have : lotOk n d = false := by cases d <;> first | rfl | cases e
      rw [this] at q
      exact iteF (q H fun _ _ h => h)
    | true =>
      obtain ⟨ds, rfl⟩ := isTup_is e
      obtain ⟨a, xs, rfl, hT, hD⟩ := dp_tup hd
      refine iteT ?_
      refine ⟨_, rfl, _, _, _, _, rfl, rfl, hc, rfl, _, rfl, n, a, xs, ds, rfl, hT, hD, fun H2 s2 => ?_⟩
      have z := q H2 s2
      have e2 : lotOk n (.tuple ds) = (badPlace n (-1) 0 ds).isNone := rfl
      rw [e2] at z
      cases eb : badPlace n (-1) 0 ds with
      | none =>
        rw [eb] at z
        exact ⟨rfl, z⟩
      | some k =>
        rw [eb] at z
        exact ⟨rfl, z⟩
def spX_check_lot (K : PySem.W.Frag) (ca : Str → Addr) : Sp := fun vs H Q E => ∃ (c r wd : Addr) (n : Nat) (v : V) (d : PyData), vs = [.ref c, v] ∧ SqT K H c [vN n, .ref r, .ref wd] ∧ Dp K H v d ∧ (lotOk n d = true → ∀ H', Same H H' → Q .non H') ∧ (lotOk n d = false → Raised K ca H E ("BadLot", .int (-1)))
theorem cal_check_lot (T : Txt mg) (D : Def K mg "check_lot" s_check_lot) (e_BadLot : Er P w K mg base ca "BadLot") (c_lot_fits : Cal P w K mg base 4 "lot_fits" (sp_lot_fits K)) : CalX P w K mg base 5 "check_lot" (spX_check_lot K ca) := by
  refine calx_of D sc_check_lot (fun _ _ _ _ _ _ us hl => match us, hl with | [_, _], _ => rfl) (fun vs H Q E h => ?_) (fun f cdv A outer s H vs Q E hr h => ?_)
  · obtain ⟨c, r, wd, n, v, d, rfl, _⟩ := h
    rfl
  · obtain ⟨c, r, wd, n, v, d, rfl, hc, hd, q1, q2⟩ := h
    refine ⟨_, (pss_one (ps_if (pt_not (pt_val (pe_c c_lot_fits hr (by decide) (by rfl) (pa_cons (pv 0) (pa_cons (pv 1) pa_nil))))) (pss_one (ps_raiseE rfl e_BadLot hr (by decide) (L2N.takes_of rfl rfl rfl rfl) (by rfl) (pa_cons (pe_un un_neg pe_int) pa_nil))) pss_nil)), ?_⟩
    refine ⟨_, rfl, _, rfl, c, r, wd, n, v, d, rfl, hc, hd, fun H2 s2 => ⟨lotOk n d, rfl, ?_⟩⟩
    cases e : lotOk n d with
    | true => exact iteF (q1 e H2 s2)
    | false => exact iteT ⟨_, rfl, _, rfl, fun dd hdd => q2 e dd _ _ (s2.trans (same_upd hdd)) upd_same (.int _)⟩
def sp_check_lot (K : PySem.W.Frag) : Sp := fun vs H Q _ => ∃ (c t r wd : Addr) (n : Nat) (T : List Nat), vs = [.ref c, .ref t] ∧ SqT K H c [vN n, .ref r, .ref wd] ∧ SqT K H t (T.map vN) ∧ (∀ x ∈ T, x < n) ∧ T.Pairwise (· < ·) ∧ ∀ H', Same H H' → Q .non H'
theorem calv_check_lot (c_check_lot : CalX P w K mg base 5 "check_lot" (spX_check_lot K ca)) : Cal P w K mg base 5 "check_lot" (sp_check_lot K) :=
  c_check_lot.valid fun vs H Q E ⟨c, t, r, wd, n, T, e, hc, hT, lt, up, q⟩ => ⟨c, r, wd, n, _, _, e, hc, dp_lot hT, fun _ => q, fun h => by rw [lotOk_lot up lt] at h; cases h⟩
end
end Ft

set_option Elab.async false
set_option linter.all false
set_option maxRecDepth 100000
set_option maxHeartbeats 4000000
namespace Ft
open PySem PySem.Spec PyProof.Rows L2
/-- the places to which roads of the row lead from a, in the row's order -/
def succs (rs : List (Nat × Nat)) (a : Nat) : List Nat := (rs.filter fun p => p.1 == a).map (·.2)
theorem succs_more (rs : List (Nat × Nat)) (p : Nat × Nat) (a : Nat) : succs (rs ++ [p]) a = if p.1 = a then succs rs a ++ [p.2] else succs rs a := by
  unfold succs
  rw [List.filter_append, List.map_append]
  by_cases h : p.1 = a
  · rw [if_pos h]
    have : (p.1 == a) = true := by simp [h]
    simp [List.filter_cons, this]
  · rw [if_neg h]
    have : (p.1 == a) = false := by simp [h]
    simp [List.filter_cons, this]
theorem succs_len (rs : List (Nat × Nat)) (a : Nat) : (succs rs a).length ≤ rs.length := by
  unfold succs
  rw [List.length_map]
  exact List.length_filter_le _ _
theorem succs_mem {rs : List (Nat × Nat)} {a b : Nat} : b ∈ succs rs a ↔ (a, b) ∈ rs := by
  unfold succs
  simp only [List.mem_map, List.mem_filter, beq_iff_eq]
  constructor
  · rintro ⟨⟨x, y⟩, ⟨h1, h2⟩, h3⟩
    dsimp at h2 h3
    subst h2 h3
    exact h1
  · intro h
    exact ⟨(a, b), ⟨h, rfl⟩, rfl⟩
theorem nodup_inj {α : Type} {l : List α} (nd : l.Nodup) {i j : Nat} {a : α} (hi : l[i]? = some a) (hj : l[j]? = some a) : i = j := by
  obtain ⟨h1, e1⟩ := List.getElem?_eq_some_iff.mp hi
  obtain ⟨h2, e2⟩ := List.getElem?_eq_some_iff.mp hj
  have ap := List.pairwise_iff_getElem.mp nd
  rcases Nat.lt_trichotomy i j with h | h | h
  · exact absurd (e1.trans e2.symm) (ap i j h1 h2 h)
  · exact h
  · exact absurd (e2.trans e1.symm) (ap j i h2 h1 h)
theorem take_more {α : Type} {l : List α} {i : Nat} {x : α} (h : l[i]? = some x) : l.take (i + 1) = l.take i ++ [x] := by
  rw [List.take_add_one, h]
  rfl
section
variable {P : Program} {w : World} {K : PySem.W.Frag} {mg : Str → Option Value} {base : Heap} {t1 t2 : Tok}
/-! ### roads_from -/
/-- a list of lists of places stands at q -/
structure LotsAt (H : Hp) (q : Addr) (ls : List Addr) (f : Nat → List Nat) : Prop where
  top : H q = some (.lst (ls.map V.ref))
  each : ∀ a l, ls[a]? = some l → H l = some (.lst ((f a).map vN))
def sp_roads_from (K : PySem.W.Frag) : Sp := fun vs H Q _ => ∃ (c : Addr) (C : Chart), vs = [.ref c] ∧ IsChart K H c C ∧ C.Ok ∧ ∀ q ls H', Same H H' → ls.length = C.n → LotsAt H' q ls (succs C.roads) → Q (.ref q) H'
end
end Ft

set_option Elab.async false
set_option linter.all false
set_option maxRecDepth 100000
set_option maxHeartbeats 4000000
/-! Plain mathematics: ascending lists, reach -/
namespace Ft
theorem asc_ext : ∀ {l1 l2 : List Nat}, l1.Pairwise (· < ·) → l2.Pairwise (· < ·) → (∀ x, x ∈ l1 ↔ x ∈ l2) → l1 = l2
  | [], [], _, _, _ => rfl
  | [], b :: l2, _, _, h => absurd ((h b).mpr List.mem_cons_self) List.not_mem_nil
  | a :: l1, [], _, _, h => absurd ((h a).mp List.mem_cons_self) List.not_mem_nil
  | a :: l1, b :: l2, h1, h2, h => by
    obtain ⟨a1, p1⟩ := List.pairwise_cons.mp h1
    obtain ⟨a2, p2⟩ := List.pairwise_cons.mp h2
    have e : a = b := by
      rcases List.mem_cons.mp ((h a).mp List.mem_cons_self) with e | m
      · exact e
      · rcases List.mem_cons.mp ((h b).mpr List.mem_cons_self) with e | m'
        · exact e.symm
        · have := a2 a m
          have := a1 b m'
          omega
    subst e
    refine congrArg (a :: ·) (asc_ext p1 p2 fun x => ⟨fun m => ?_, fun m => ?_⟩)
    · rcases List.mem_cons.mp ((h x).mp (List.mem_cons_of_mem _ m)) with e | m'
      · have := a1 x m
        omega
      · exact m'
    · rcases List.mem_cons.mp ((h x).mpr (List.mem_cons_of_mem _ m)) with e | m'
      · have := a2 x m
        omega
      · exact m'
/-- the places below n with a property, ascending -/
noncomputable def those (n : Nat) (P : Nat → Prop) : List Nat := (List.range n).filter fun b => @decide (P b) (Classical.propDecidable _)
theorem up_nodup {l : List Nat} (h : l.Pairwise (· < ·)) : l.Nodup := h.imp fun {a b} x e => by subst e; exact Nat.lt_irrefl _ x
theorem range_up (n : Nat) : (List.range n).Pairwise (· < ·) := List.pairwise_lt_range
theorem those_up (n : Nat) (P : Nat → Prop) : (those n P).Pairwise (· < ·) := (range_up n).filter _
theorem those_mem {n : Nat} {P : Nat → Prop} {b : Nat} : b ∈ those n P ↔ b < n ∧ P b := by
  unfold those
  rw [List.mem_filter, List.mem_range]
  simp
theorem those_is {n : Nat} {P : Nat → Prop} {l : List Nat} (up : l.Pairwise (· < ·)) (h : ∀ x, x ∈ l ↔ x < n ∧ P x) : l = those n P :=
  asc_ext up (those_up n P) fun x => (h x).trans those_mem.symm
/-- a sorted copy of numbers -/
theorem sorted_iN {F : List Nat} (nd : F.Nodup) {ys : List Int} (pm : ys.Perm (F.map fun (n : Nat) => (n : Int))) (up : ys.Pairwise (· ≤ ·)) :
    ∃ l : List Nat, ys = l.map (fun (n : Nat) => (n : Int)) ∧ l.Pairwise (· < ·) ∧ ∀ x, x ∈ l ↔ x ∈ F := by
  have nn : ∀ y ∈ ys, 0 ≤ y := by
    intro y hy
    obtain ⟨n, _, e⟩ := List.mem_map.mp (pm.mem_iff.mp hy)
    omega
  have e : ys = (ys.map Int.toNat).map (fun (n : Nat) => (n : Int)) := by
    rw [List.map_map]
    conv => lhs; rw [← List.map_id ys]
    exact List.map_congr_left fun y hy => (Int.toNat_of_nonneg (nn y hy)).symm
  have ndy : ys.Nodup := by
    refine pm.nodup_iff.mpr ?_
    exact List.pairwise_map.mpr (nd.imp fun h e => h (by omega))
  refine ⟨ys.map Int.toNat, e, ?_, fun x => ?_⟩
  · refine List.pairwise_map.mpr ?_
    have both : ys.Pairwise fun a b => a ≤ b ∧ a ≠ b := List.Pairwise.and up ndy
    refine List.Pairwise.imp_of_mem (fun {a b} ha hb h => ?_) both
    have h1 := nn a ha
    have h2 := nn b hb
    omega
  · constructor
    · intro h
      obtain ⟨y, hy, e1⟩ := List.mem_map.mp h
      obtain ⟨n, hn, e2⟩ := List.mem_map.mp (pm.mem_iff.mp hy)
      have : n = x := by omega
      exact this ▸ hn
    · intro h
      have : (x : Int) ∈ ys := pm.mem_iff.mpr (List.mem_map.mpr ⟨x, h, rfl⟩)
      exact List.mem_map.mpr ⟨(x : Int), this, by omega⟩
/-- from a place along roads over unwished places -/
inductive Reach (rs : List (Nat × Nat)) (ws : List Nat) : Nat → Nat → Prop
  | one {a b : Nat} : (a, b) ∈ rs → Reach rs ws a b
  | more {a b c : Nat} : Reach rs ws a b → b ∉ ws → (b, c) ∈ rs → Reach rs ws a c
theorem Reach.cons {rs : List (Nat × Nat)} {ws : List Nat} {a b c : Nat} (h : (a, b) ∈ rs) (hb : b ∉ ws) (r : Reach rs ws b c) : Reach rs ws a c := by
  induction r with
  | one h2 => exact .more (.one h) hb h2
  | more _ h2 h3 ih => exact .more ih h2 h3
theorem Reach.trans {rs : List (Nat × Nat)} {ws : List Nat} {a b c : Nat} (r : Reach rs ws a b) (hb : b ∉ ws) (q : Reach rs ws b c) : Reach rs ws a c := by
  induction q with
  | one h2 => exact .more r hb h2
  | more _ h2 h3 ih => exact .more ih h2 h3
/-- what is closed and holds the first steps holds all -/
theorem Reach.within {rs : List (Nat × Nat)} {ws : List Nat} {S : Nat → Prop} {a b : Nat} (r : Reach rs ws a b) (h1 : ∀ x, (a, x) ∈ rs → S x) (h2 : ∀ x y, S x → x ∉ ws → (x, y) ∈ rs → S y) : S b := by
  induction r with
  | one h => exact h1 _ h
  | more _ hb h ih => exact h2 _ _ ih hb h
/-- the places that some place of S comes to -/
noncomputable def met (n : Nat) (rs : List (Nat × Nat)) (ws S : List Nat) : List Nat := those n fun b => ∃ a ∈ S, Reach rs ws a b
end Ft

set_option Elab.async false
set_option linter.all false
set_option maxRecDepth 100000
set_option maxHeartbeats 4000000
namespace Ft
open PySem PySem.Spec PyProof.Rows L2
section
variable {P : Program} {w : World} {K : PySem.W.Frag} {mg : Str → Option Value} {base : Heap} {t1 t2 : Tok}
theorem up_len {l : List Nat} {n : Nat} (h : l.Pairwise (· < ·)) (b : ∀ a ∈ l, a < n) : l.length ≤ n := by
  have := nat_nodup_len l (List.range n) (up_nodup h) fun x hx => List.mem_range.mpr (b x hx)
  rwa [List.length_range] at this
/-! ### unwished_of -/
def unw (C : Chart) : List Nat := (List.range C.n).filter fun a => !decide (a ∈ C.wished)
theorem range_more (n i : Nat) (h : i < n) : (List.range n).take (i + 1) = (List.range n).take i ++ [i] := by
  refine take_more ?_
  rw [List.getElem?_range h]
theorem range_take_mem {n i a : Nat} (h : i ≤ n) : a ∈ (List.range n).take i ↔ a < i := by
  have e : (List.range n).take i = List.range i := by
    rw [List.take_range, Nat.min_eq_left h]
  rw [e, List.mem_range]
def sp_unwished_of (K : PySem.W.Frag) : Sp := fun vs H Q _ => ∃ (c : Addr) (C : Chart), vs = [.ref c] ∧ IsChart K H c C ∧ C.Ok ∧ ∀ q H', Same H H' → H q = none → H' q = some (.lst ((unw C).map vN)) → Q (.ref q) H'
end
end Ft

set_option Elab.async false
set_option linter.all false
set_option maxRecDepth 100000
set_option maxHeartbeats 4000000
namespace Ft
open PySem PySem.Spec PyProof.Rows L2
/-- a dict of places, each with True -/
def keysOf (F : List Nat) : List (Key × V) := F.map fun (n : Nat) => ((Sum.inl (n : Int) : Key), V.bl true)
theorem keysOf_val : ∀ (F : List Nat) (x : Nat), valV (keysOf F) (Sum.inl (x : Int) : Key) = if x ∈ F then some (.bl true) else none
  | [], x => by simp [keysOf, valV]
  | a :: F, x => by
    have ih := keysOf_val F x
    unfold valV keysOf at ih ⊢
    rw [List.map_cons, List.find?_cons]
    by_cases h : a = x
    · subst h
      simp
    · have e : decide (((Sum.inl (a : Int) : Key)) = Sum.inl (x : Int)) = false := by
        refine decide_eq_false fun q => h ?_
        have := Sum.inl.inj q
        omega
      have hx : x ≠ a := fun q => h q.symm
      simp only [e, List.mem_cons, hx, false_or]
      exact ih
theorem keysOf_put (F : List Nat) (x : Nat) (h : x ∉ F) : putK (keysOf F) (Sum.inl (x : Int) : Key) (.bl true) = keysOf (F ++ [x]) := by
  rw [putK_new _ (by rw [keysOf_val, if_neg h])]
  unfold keysOf
  rw [List.map_append]
  rfl
theorem keysOf_len (F : List Nat) : (keysOf F).length = F.length := List.length_map ..
theorem keysOf_keys (F : List Nat) : (keysOf F).map (·.1) = (iN F).map Sum.inl := by
  unfold keysOf iN
  rw [List.map_map, List.map_map]
  rfl
theorem nodup_lt {F : List Nat} {n : Nat} (nd : F.Nodup) (b : ∀ x ∈ F, x < n) : F.length ≤ n := by
  have := nat_nodup_len F (List.range n) nd fun x hx => List.mem_range.mpr (b x hx)
  rwa [List.length_range] at this
/-- what holds between two turns of the search -/
structure Hunt (C : Chart) (S F W : List Nat) : Prop where
  nd : F.Nodup
  lt : ∀ b ∈ F, b < C.n
  fair : ∀ b ∈ F, ∃ a ∈ S, Reach C.roads C.wished a b
  wait : ∀ x ∈ W, x ∈ S ∨ (x ∈ F ∧ x ∉ C.wished)
structure Done (C : Chart) (S F W : List Nat) (off : Nat → Prop) : Prop where
  ok : ∀ x, (x ∈ S ∨ (x ∈ F ∧ x ∉ C.wished)) → x ∈ W ∨ off x ∨ ∀ b, (x, b) ∈ C.roads → b ∈ F
theorem hunt_end {C : Chart} {S F : List Nat} (h : Hunt C S F []) (d : Done C S F [] fun _ => False) : ∀ x, x ∈ F ↔ x < C.n ∧ ∃ a ∈ S, Reach C.roads C.wished a x := by
  intro x
  constructor
  · intro m
    exact ⟨h.lt x m, h.fair x m⟩
  · rintro ⟨_, a, ha, r⟩
    have all : ∀ y, (y ∈ S ∨ (y ∈ F ∧ y ∉ C.wished)) → ∀ b, (y, b) ∈ C.roads → b ∈ F := by
      intro y hy
      rcases d.ok y hy with z | z | z
      · exact absurd z List.not_mem_nil
      · exact z.elim
      · exact z
    exact r.within (S := (· ∈ F)) (fun y hy => all a (.inl ha) y hy) fun y z hy hw hz => all y (.inr ⟨hy, hw⟩) z hz
section
variable {P : Program} {w : World} {K : PySem.W.Frag} {mg : Str → Option Value} {base : Heap} {t1 t2 : Tok}
/-! ### reached -/
def hungry (n : Nat) (d wt : Addr) (H : Hp) : Nat := match H d, H wt with
  | some (.dK kvs), some (.lst ws) => 2 * (n - kvs.length) + ws.length
  | _, _ => 0
theorem hungry_is {n : Nat} {d wt : Addr} {H : Hp} {kvs : List (Key × V)} {ws : List V} (h1 : H d = some (.dK kvs)) (h2 : H wt = some (.lst ws)) : hungry n d wt H = 2 * (n - kvs.length) + ws.length := by
  unfold hungry
  rw [h1, h2]
def sp_reached (K : PySem.W.Frag) : Sp := fun vs H Q _ => ∃ (c st : Addr) (C : Chart) (S : List Nat), vs = [.ref c, .ref st] ∧ IsChart K H c C ∧ C.Ok ∧ SqT K H st (S.map vN) ∧ (∀ a ∈ S, a < C.n) ∧ S.length ≤ 60 ∧
  ∀ q H', Same H H' → H q = none → H' q = some (.lst ((met C.n C.roads C.wished S).map vN)) → Q (.ref q) H'
end
end Ft

set_option Elab.async false
set_option linter.all false
set_option maxRecDepth 100000
set_option maxHeartbeats 4000000
namespace Ft
open PySem PySem.Spec PyProof.Rows L2
/-- the unwished places that some place of S comes to -/
noncomputable def metU (C : Chart) (S : List Nat) : List Nat := those C.n fun b => b ∉ C.wished ∧ ∃ a ∈ S, Reach C.roads C.wished a b
/-- the piece of a place -/
noncomputable def pieceOf (C : Chart) (a : Nat) : List Nat := if a ∈ C.wished then [a] else those C.n fun b => b ∉ C.wished ∧ (b = a ∨ (Reach C.roads C.wished a b ∧ Reach C.roads C.wished b a))
theorem unw_mem {C : Chart} {a : Nat} : a ∈ unw C ↔ a < C.n ∧ a ∉ C.wished := by
  unfold unw
  simp [List.mem_filter]
theorem unw_up (C : Chart) : (unw C).Pairwise (· < ·) := (range_up C.n).filter _
theorem unw_len (C : Chart) : (unw C).length ≤ C.n := by
  have := List.length_filter_le (fun a => !decide (a ∈ C.wished)) (List.range C.n)
  rwa [List.length_range] at this
theorem those_len (n : Nat) (P : Nat → Prop) : (those n P).length ≤ n := up_len (those_up n P) fun a h => (those_mem.mp h).1
/-- a dict of places, each with an object -/
def dictOf : List Nat → List Addr → List (Key × V)
  | a :: l, d :: ds => (Sum.inl (a : Int), .ref d) :: dictOf l ds
  | _, _ => []
theorem dictOf_more : ∀ (l : List Nat) (ds : List Addr) (a : Nat) (d : Addr), l.length = ds.length → dictOf (l ++ [a]) (ds ++ [d]) = dictOf l ds ++ [(Sum.inl (a : Int), .ref d)]
  | [], [], _, _, _ => rfl
  | x :: l, y :: ds, a, d, h => by
    have := dictOf_more l ds a d (Nat.succ.inj h)
    show _ :: dictOf (l ++ [a]) (ds ++ [d]) = _ :: (dictOf l ds ++ _)
    rw [this]
  | [], _ :: _, _, _, h => nomatch h
  | _ :: _, [], _, _, h => nomatch h
theorem dictOf_len : ∀ (l : List Nat) (ds : List Addr), l.length = ds.length → (dictOf l ds).length = l.length
  | [], [], _ => rfl
  | x :: l, y :: ds, h => congrArg (· + 1) (dictOf_len l ds (Nat.succ.inj h))
  | [], _ :: _, h => nomatch h
  | _ :: _, [], h => nomatch h
theorem dictOf_none : ∀ (l : List Nat) (ds : List Addr) (x : Nat), x ∉ l → valV (dictOf l ds) (Sum.inl (x : Int) : Key) = none
  | [], _, _, _ => by simp [dictOf, valV]
  | _ :: _, [], _, _ => by simp [dictOf, valV]
  | a :: l, d :: ds, x, h => by
    have ih := dictOf_none l ds x fun m => h (List.mem_cons_of_mem _ m)
    unfold valV at ih ⊢
    show ((((Sum.inl (a : Int) : Key), V.ref d) :: dictOf l ds).find? fun kv => decide (kv.1 = Sum.inl (x : Int))).map (·.2) = none
    rw [List.find?_cons]
    have e : decide (((Sum.inl (a : Int) : Key)) = Sum.inl (x : Int)) = false := by
      refine decide_eq_false fun q => h ?_
      have := Sum.inl.inj q
      have : a = x := by omega
      rw [this]
      exact List.mem_cons_self
    simp only [e]
    exact ih
theorem dictOf_val : ∀ (l : List Nat) (ds : List Addr) (i x : Nat) (d : Addr), l.Nodup → l[i]? = some x → ds[i]? = some d → valV (dictOf l ds) (Sum.inl (x : Int) : Key) = some (.ref d)
  | [], _, _, _, _, _, h, _ => by simp at h
  | _ :: _, [], _, _, _, _, _, h => by simp at h
  | a :: l, e :: ds, 0, x, d, _, h1, h2 => by
    simp at h1 h2
    subst h1 h2
    unfold valV
    show ((((Sum.inl (a : Int) : Key), V.ref e) :: dictOf l ds).find? fun kv => decide (kv.1 = Sum.inl (a : Int))).map (·.2) = some (.ref e)
    rw [List.find?_cons]
    simp
  | a :: l, e :: ds, i + 1, x, d, nd, h1, h2 => by
    obtain ⟨n1, n2⟩ := List.nodup_cons.mp nd
    have ih := dictOf_val l ds i x d n2 (by simpa using h1) (by simpa using h2)
    have hx : x ∈ l := List.mem_of_getElem? (by simpa using h1 : l[i]? = some x)
    unfold valV at ih ⊢
    show ((((Sum.inl (a : Int) : Key), V.ref e) :: dictOf l ds).find? fun kv => decide (kv.1 = Sum.inl (x : Int))).map (·.2) = some (.ref d)
    rw [List.find?_cons]
    have e2 : decide (((Sum.inl (a : Int) : Key)) = Sum.inl (x : Int)) = false := by
      refine decide_eq_false fun q => n1 ?_
      have := Sum.inl.inj q
      have : a = x := by omega
      rw [this]
      exact hx
    simp only [e2]
    exact ih
section
variable {P : Program} {w : World} {K : PySem.W.Frag} {mg : Str → Option Value} {base : Heap} {t1 t2 : Tok}
/-! ### reached_unwished -/
def sp_reached_unwished (K : PySem.W.Frag) : Sp := fun vs H Q _ => ∃ (c st : Addr) (C : Chart) (S : List Nat), vs = [.ref c, .ref st] ∧ IsChart K H c C ∧ C.Ok ∧ SqT K H st (S.map vN) ∧ (∀ a ∈ S, a < C.n) ∧ S.length ≤ 60 ∧
  ∀ q H', Same H H' → H q = none → H' q = some (.lst ((metU C S).map vN)) → Q (.ref q) H'
end
end Ft

set_option Elab.async false
set_option linter.all false
set_option maxRecDepth 100000
set_option maxHeartbeats 8000000
namespace Ft
open PySem PySem.Spec PyProof.Rows L2
section
variable {P : Program} {w : World} {K : PySem.W.Frag} {mg : Str → Option Value} {base : Heap} {t1 t2 : Tok}
/-! ### piece_table -/
/-- the pieces at the addresses rows -/
def PiecesAt (K : PySem.W.Frag) (H : Hp) (C : Chart) (rows : List Addr) : Prop := rows.length = C.n ∧ ∀ x t, rows[x]? = some t → SqT K H t ((pieceOf C x).map vN)
theorem piece_filter {C : Chart} {a : Nat} (ha : a < C.n) (hw : a ∉ C.wished) : (unw C).filter (fun b => decide (a = b) || (decide (b ∈ metU C [a]) && decide (a ∈ metU C [b]))) = pieceOf C a := by
  unfold pieceOf
  rw [if_neg hw]
  refine those_is ((unw_up C).filter _) fun x => ?_
  rw [List.mem_filter, unw_mem]
  unfold metU
  simp only [Bool.or_eq_true, Bool.and_eq_true, decide_eq_true_eq, those_mem, List.mem_singleton, exists_eq_left]
  constructor
  · rintro ⟨⟨h1, h2⟩, h3⟩
    refine ⟨h1, h2, ?_⟩
    rcases h3 with e | ⟨⟨_, _, r1⟩, ⟨_, _, r2⟩⟩
    · exact .inl e.symm
    · exact .inr ⟨r1, r2⟩
  · rintro ⟨h1, h2, h3⟩
    refine ⟨⟨h1, h2⟩, ?_⟩
    rcases h3 with e | ⟨r1, r2⟩
    · exact .inl e.symm
    · exact .inr ⟨⟨h1, h2, r1⟩, ⟨ha, hw, r2⟩⟩
def sp_piece_table (K : PySem.W.Frag) : Sp := fun vs H Q _ => ∃ (c : Addr) (C : Chart), vs = [.ref c] ∧ IsChart K H c C ∧ C.Ok ∧ ∀ q rows H', Same H H' → H q = none → H' q = some (.lst (rows.map V.ref)) → PiecesAt K H' C rows → Q (.ref q) H'
end
end Ft

set_option Elab.async false
set_option linter.all false
set_option maxRecDepth 100000
set_option maxHeartbeats 8000000
namespace Ft
open PySem PySem.Spec PyProof.Rows L2
theorem piece_self {C : Chart} {a : Nat} (h : a < C.n) : a ∈ pieceOf C a := by
  unfold pieceOf
  by_cases hw : a ∈ C.wished
  · rw [if_pos hw]
    exact List.mem_singleton.mpr rfl
  · rw [if_neg hw]
    exact those_mem.mpr ⟨h, hw, .inl rfl⟩
theorem piece_up (C : Chart) (a : Nat) : (pieceOf C a).Pairwise (· < ·) := by
  unfold pieceOf
  by_cases hw : a ∈ C.wished
  · rw [if_pos hw]
    exact List.pairwise_singleton _ _
  · rw [if_neg hw]
    exact those_up _ _
theorem piece_lt {C : Chart} {a b : Nat} (ha : a < C.n) (h : b ∈ pieceOf C a) : b < C.n := by
  unfold pieceOf at h
  by_cases hw : a ∈ C.wished
  · rw [if_pos hw] at h
    rw [List.mem_singleton.mp h]
    exact ha
  · rw [if_neg hw] at h
    exact (those_mem.mp h).1
/-- rows of places at the addresses ts -/
def RowsAt (K : PySem.W.Frag) (H : Hp) (ts : List Addr) (lls : List (List Nat)) : Prop := Paired (fun (t : Addr) (l : List Nat) => SqT K H t (l.map vN)) ts lls
theorem RowsAt.keep {K : PySem.W.Frag} {ex : List Addr} {H H' : Hp} (k : Kp ex H H') (l : Lists ex H) {ts : List Addr} {lls : List (List Nat)} (h : RowsAt K H ts lls) : RowsAt K H' ts lls := paired_imp (fun _ _ q => k.sqT l q) h
theorem RowsAt.same {K : PySem.W.Frag} {H H' : Hp} (k : Same H H') {ts : List Addr} {lls : List (List Nat)} (h : RowsAt K H ts lls) : RowsAt K H' ts lls := paired_imp (fun _ _ q => Same.sqT k q) h
theorem paired_app {α β : Type} {R : α → β → Prop} : ∀ {as as' : List α} {bs bs' : List β}, Paired R as bs → Paired R as' bs' → Paired R (as ++ as') (bs ++ bs')
  | _, _, _, _, .nil, h => h
  | _, _, _, _, .cons r t, h => .cons r (paired_app t h)
/-- whether a place is the least one of its piece -/
noncomputable def isLeast (C : Chart) (a : Nat) : Bool := decide ((pieceOf C a).head? = some a)
noncomputable def piecesL (C : Chart) : List (List Nat) := ((unw C).filter (isLeast C)).map (pieceOf C)
section
variable {P : Program} {w : World} {K : PySem.W.Frag} {mg : Str → Option Value} {base : Heap} {t1 t2 : Tok}
end
end Ft

set_option Elab.async false
set_option linter.all false
set_option maxRecDepth 100000
set_option maxHeartbeats 8000000
namespace Ft
open PySem PySem.Spec PyProof.Rows L2
/-- the draws' pool stands at p, its further cells at l -/
def PoolAt (H : Hp) (p l : Addr) : Prop := ∃ (a b : Int) (cs : List Int), H p = some (.lst [.int a, .int b, .ref l]) ∧ H l = some (.lst (cs.map V.int)) ∧ 0 ≤ a ∧ 0 ≤ b
theorem PoolAt.ne {H : Hp} {p l : Addr} (h : PoolAt H p l) : p ≠ l := by
  obtain ⟨a, b, cs, h1, h2, _⟩ := h
  intro e
  subst e
  have z := Option.some.inj (h1.symm.trans h2)
  have z2 : ([V.int a, V.int b, V.ref p] : List V) = cs.map V.int := by injection z
  have z3 : V.ref p ∈ cs.map V.int := by rw [← z2]; simp
  obtain ⟨c, _, e⟩ := List.mem_map.mp z3
  exact nomatch e
theorem PoolAt.lists {H : Hp} {p l : Addr} (h : PoolAt H p l) : Lists [p, l] H := by
  obtain ⟨a, b, cs, h1, h2, _⟩ := h
  intro x hx
  rcases List.mem_cons.mp hx with e | hx
  · rw [e]
    exact ⟨_, h1, (fun _ z => nomatch z), (fun _ _ z => nomatch z)⟩
  · rw [List.mem_singleton.mp hx]
    exact ⟨_, h2, (fun _ z => nomatch z), (fun _ _ z => nomatch z)⟩
theorem PoolAt.same {H H' : Hp} {p l : Addr} (k : Same H H') (h : PoolAt H p l) : PoolAt H' p l := by
  obtain ⟨a, b, cs, h1, h2, h3⟩ := h
  exact ⟨a, b, cs, k _ _ h1, k _ _ h2, h3⟩
theorem PoolAt.free {H : Hp} {p l : Addr} (h : PoolAt H p l) {q : Addr} (n : H q = none) : q ∉ [p, l] := by
  obtain ⟨a, b, cs, h1, h2, _⟩ := h
  intro m
  rcases List.mem_cons.mp m with e | m
  · rw [e, h1] at n
    cases n
  · rw [List.mem_singleton.mp m, h2] at n
    cases n
theorem ints_shaped (cs : List Int) : SeqAt.shaped (.list (cs.map .int)) = true := by
  unfold SeqAt.shaped
  have h1 : ∀ cs : List Int, PyData.canLayAll0 (cs.map .int) = true := by
    intro cs
    induction cs with
    | nil => simp [PyData.canLayAll0]
    | cons c cs ih => simp [PyData.canLayAll0, PyData.canLay0, ih]
  have h2 : PyData.depth (.list (cs.map .int)) = 1 := by
    simp only [PyData.depth, PySem.W.depth_ints]
  rw [h2]
  simp [PyData.canLay0, h1]
section
variable {P : Program} {w : World} {K : PySem.W.Frag} {mg : Str → Option Value} {base : Heap} {t1 t2 : Tok}
/-! ### _law_pool -/
def sp_law_pool (K : PySem.W.Frag) : Sp := fun vs H Q _ => ∃ (a : Addr) (ns : List Int), vs = [.ref a] ∧ SqL K H a (ns.map V.int) ∧ ∀ p l H', Same H H' → H p = none → H l = none → PoolAt H' p l → Q (.ref p) H'
theorem cal_law_pool (T : Txt mg) (D : Def K mg "_law_pool" s_law_pool) : Cal P w K mg base 2 "_law_pool" (sp_law_pool K) := by
  refine cal_of D sc_law_pool (fun _ _ _ _ _ _ us hl => match us, hl with | [_], _ => rfl) (fun vs H Q E h => ?_) (fun f cdv A outer s H vs Q E hr h => ?_)
  · obtain ⟨a, ns, rfl, _⟩ := h
    rfl
  · obtain ⟨a, ns, rfl, hS, q⟩ := h
    refine ⟨_, (pss_cons (ps_set (i := 1) sc_law_pool.nd rfl (Or.inl rfl) (pe_mid (pe_ifExp (pt_cmpR op_gt (pe_callB (show CallR _ _ (rLenS K) from call_lenS) (by rfl) T.len (by decide +kernel) (pa_cons (pv 0) pa_nil)) pe_int (nomark _)) (pe_callTy call_int1 (by rfl) T.int (by decide +kernel) (pa_cons (pe_ix (show IxR _ (rIxL K) from ix_list) (pv 0) pe_int (fun _ _ => rfl)) pa_nil)) pe_int)))
      (pss_cons (ps_set (i := 2) sc_law_pool.nd rfl (Or.inl rfl) (pe_mid (pe_ifExp (pt_cmpR op_ge (pv 1) pe_int (nomark _)) (pe_op op_mul pe_int (pv 1)) (pe_op op_sub (pe_un un_neg pe_int) (pe_op op_mul pe_int (pv 1))))))
      (pss_one (ps_ret (pe_lst (pa_cons (pe_mid (pe_ifExp (pt_cmpR op_ge (pv 2) (pe_op op_pow pe_int pe_int) (nomark _)) (pv 2) pe_int)) (pa_cons (pe_op op_add (pe_op op_mod (pe_callTy call_int1 (by rfl) T.int (by decide +kernel) (pa_cons (pe_op op_add (pe_op op_mul (pv 2) pe_int) pe_int) pa_nil)) pe_int) pe_int) (pa_cons (pe_callTy (show CallR _ _ (rListOf K) from call_listOf) (by rfl) T.list (by decide +kernel) (pa_cons (pe_slice (show SlR _ (rSlL K) from sl_list) (pv 0) (po_some pe_int) po_none) pa_nil)) pa_nil)))))))), ?_⟩
    refine ⟨fun v H' => ∃ x : Int, v = .int x ∧ H' = H, ⟨_, rfl, a, _, rfl, .inl hS, _, _, rfl, rfl, _, rfl, ite_any (fun h => ?_) (fun h => ⟨0, rfl, rfl⟩)⟩, ?_⟩
    · have h0 := of_decide_eq_true h
      cases ns with
      | nil => exact absurd h0 (by simp)
      | cons n0 ns => exact ⟨_, rfl, a, _, _, _, rfl, rfl, hS, atI_nat (j := 0) (v := V.int n0) rfl, .inl ⟨_, rfl, _, rfl, rfl⟩⟩
    rintro v H1 ⟨x, rfl, rfl⟩
    refine ⟨fun v H' => ∃ x : Int, v = .int x ∧ H' = H1 ∧ 0 ≤ x, ⟨_, rfl, _, _, rfl, rfl, _, rfl, ite_any (fun h => ?_) (fun h => ?_)⟩, ?_⟩
    · have h0 := of_decide_eq_true h
      exact ⟨_, rfl, _, _, rfl, rfl, .inl ⟨by decide, by decide⟩, _, rfl, rfl, by omega⟩
    · have h0 := of_decide_eq_false h
      exact ⟨_, rfl, _, rfl, _, _, rfl, rfl, .inl ⟨by decide, by decide⟩, _, _, rfl, rfl, _, rfl, rfl, by omega⟩
    rintro v H2 ⟨y, rfl, rfl, hy⟩
    refine ⟨fun v H' => ∃ x : Int, v = .int x ∧ H' = H2 ∧ 0 ≤ x, ⟨_, rfl, _, _, rfl, rfl, ⟨by decide, by decide, by decide⟩, _, _, rfl, rfl, _, rfl, ite_any (fun h => ⟨_, rfl, y, rfl, rfl, hy⟩) (fun h => ⟨0, rfl, rfl, by decide⟩)⟩, ?_⟩
    rintro v H3 ⟨z, rfl, rfl, hz⟩
    refine ⟨_, rfl, _, _, rfl, rfl, .inr ⟨by decide, by decide⟩, _, _, rfl, rfl, .inl ⟨_, rfl, _, _, rfl, rfl, (by show (0 : Int) < 2147483629; decide), _, _, rfl, rfl, ?_⟩⟩
    refine ⟨_, rfl, _, rfl, a, _, rfl, hS, fun e he => ?_⟩
    refine ⟨e, _, rfl, .inl (.inl (.inl upd_same)), fun l hl => ?_⟩
    refine ⟨by show 3 ≤ sizeLine; decide, fun p hp => ?_⟩
    have nel : e ≠ l := ne_of_none upd_same hl
    have npl : l ≠ p := ne_of_none upd_same hp
    have hl0 : H3 l = none := by rw [upd_ne nel.symm] at hl; exact hl
    have s1 : Same H3 (upd (upd H3 e (.lst (cutV (ns.map V.int) (some 1) none))) l (.lst (cutV (ns.map V.int) (some 1) none))) := (same_upd he).trans (same_upd hl)
    refine q p l _ (s1.trans (same_upd hp)) (s1.free hp) hl0 ?_
    refine ⟨z, _, (cutV (ns.map V.int) (some 1) none).map (fun v => match v with | .int i => i | _ => 0), upd_same, ?_, hz, ?_⟩
    · rw [upd_ne npl, upd_same]
      congr 2
      rw [List.map_map]
      conv => lhs; rw [← List.map_id (cutV (ns.map V.int) (some 1) none)]
      refine List.map_congr_left fun v hv => ?_
      have : v ∈ ns.map V.int := by
        unfold cutV at hv
        exact List.mem_of_mem_drop (List.mem_of_mem_take hv)
      obtain ⟨i, _, rfl⟩ := List.mem_map.mp this
      rfl
    · have := Int.emod_nonneg (y * 48271 + 1009) (show (2147483629 : Int) ≠ 0 by decide)
      omega
/-! ### _law_draw -/
def sp_law_draw : Sp := fun vs H Q _ => ∃ (p l : Addr) (m : Nat), vs = [.ref p, vN m] ∧ PoolAt H p l ∧ 0 < m ∧ m < 1073741824 ∧ ∀ (r : Nat) H', r < m → PoolAt H' p l → Kp [p, l] H H' → Q (vN r) H'
theorem cal_law_draw (T : Txt mg) (D : Def K mg "_law_draw" s_law_draw) : Cal P w K mg base 2 "_law_draw" sp_law_draw := by
  refine cal_of D sc_law_draw (fun _ _ _ _ _ _ us hl => match us, hl with | [_, _], _ => rfl) (fun vs H Q E h => ?_) (fun f cdv A outer s H vs Q E hr h => ?_)
  · obtain ⟨p, l, m, rfl, _⟩ := h
    rfl
  · obtain ⟨p, l, m, rfl, hP, m0, m1, q⟩ := h
    have hU := hr.units
    have npl := hP.ne
    refine ⟨_, (ps_cut (ps_if (PW.pt (pw_and (pt_cmpR op_eq (pe_ix (show IxR _ (rIxL K) from ix_list) (pv 0) pe_int (fun _ _ => rfl)) pe_int (nomark _)) (pw_and1 (pt_cmpR (show OpR _ _ (rNeD K) from op_neD hU) (pe_ix (show IxR _ (rIxL K) from ix_list) (pv 0) pe_int (fun _ _ => rfl)) (pe_lst pa_nil) (nomark _))))) (pss_cons (ps_set (i := 2) sc_law_draw.nd rfl (Or.inl rfl) (pe_callTy call_int1 (by rfl) T.int (by decide +kernel) (pa_cons (pe_bm PySem.F.plainAttrs_list PySem.F.slot_list_pop PySem.F.type_list_pop mt_popAt (pe_ix (show IxR _ (rIxL K) from ix_list) (pv 0) pe_int (fun _ _ => rfl)) (pa_cons pe_int pa_nil)) pa_nil)))
        (pss_cons (ps_set (i := 3) sc_law_draw.nd rfl (Or.inl rfl) (pe_mid (pe_ifExp (pt_cmpR op_ge (pv 2) pe_int (nomark _)) (pe_op op_mul pe_int (pv 2)) (pe_op op_sub (pe_un un_neg pe_int) (pe_op op_mul pe_int (pv 2))))))
        (pss_cons (ps_asg (pe_mid (pe_ifExp (pt_cmpR op_ge (pv 3) (pe_op op_pow pe_int pe_int) (nomark _)) (pv 3) pe_int)) (pg_sub (pv 0) pe_int set_list))
        (pss_one (ps_asg (pe_op op_add (pe_op op_mod (pe_callTy call_int1 (by rfl) T.int (by decide +kernel) (pa_cons (pe_op op_add (pe_ix (show IxR _ (rIxL K) from ix_list) (pv 0) pe_int (fun _ _ => rfl)) (pe_op op_mul (pv 3) pe_int)) pa_nil)) pe_int) pe_int) (pg_sub (pv 0) pe_int set_list)))))) pss_nil)
      (pss_cons (ps_if (pt_cmpR op_gt (pe_ix (show IxR _ (rIxL K) from ix_list) (pv 0) pe_int (fun _ _ => rfl)) pe_int (nomark _)) (pss_cons (ps_set (i := 4) sc_law_draw.nd rfl (Or.inl rfl) (pe_op op_mod (pe_callTy call_int1 (by rfl) T.int (by decide +kernel) (pa_cons (pe_ix (show IxR _ (rIxL K) from ix_list) (pv 0) pe_int (fun _ _ => rfl)) pa_nil)) (pv 1)))
        (pss_cons (ps_asg (pe_op op_fdiv (pe_ix (show IxR _ (rIxL K) from ix_list) (pv 0) pe_int (fun _ _ => rfl)) (pv 1)) (pg_sub (pv 0) pe_int set_list))
        (pss_one (ps_ret (pv 4))))) pss_nil)
      (pss_cons (ps_asg (pe_op op_mod (pe_callTy call_int1 (by rfl) T.int (by decide +kernel) (pa_cons (pe_op op_add (pe_op op_mul (pe_ix (show IxR _ (rIxL K) from ix_list) (pv 0) pe_int (fun _ _ => rfl)) pe_int) pe_int) pa_nil)) pe_int) (pg_sub (pv 0) pe_int set_list))
      (pss_one (ps_ret (pe_op op_mod (pe_op op_fdiv (pe_op op_mod (pe_callTy call_int1 (by rfl) T.int (by decide +kernel) (pa_cons (pe_op op_mul (pe_ix (show IxR _ (rIxL K) from ix_list) (pv 0) pe_int (fun _ _ => rfl)) (pe_ix (show IxR _ (rIxL K) from ix_list) (pv 0) pe_int (fun _ _ => rfl))) pa_nil)) pe_int) pe_int) (pv 1))))))), ?_⟩
    refine ⟨fun σ' H' => ∃ v2 v3 : Option V, σ' = [some (.ref p), some (vN m), v2, v3, none] ∧ PoolAt H' p l ∧ Kp [p, l] H H', ?_, ?_⟩
    · obtain ⟨a, b, cs, h1, h2, ha, hb⟩ := id hP
      refine ⟨_, rfl, p, _, _, _, rfl, rfl, .inl (.inl h1), rfl, rfl, _, rfl, ite_any (fun _ => ?_) (fun _ => ?_)⟩
      · refine ⟨_, rfl, p, _, _, _, rfl, rfl, .inl (.inl h1), rfl, Nat.zero_le _, fun e he => ?_⟩
        have s1 : Same H (upd H e (.lst [])) := same_upd he
        have nep : p ≠ e := ne_of_none h1 he
        have nel : l ≠ e := ne_of_none h2 he
        have h1' := s1 _ _ h1
        have h2' := s1 _ _ h2
        refine ⟨.list (cs.map .int), .list [], .lst (.inl (.inl h2')) (dpAll_ints cs), .lst (.inl (.inl upd_same)) .nil, ints_shaped cs, rfl, _, rfl, ite_any (fun hc => ?_) (fun _ => ?_)⟩
        · cases cs with
          | nil => exact absurd hc (by decide)
          | cons c cs =>
            have n1 : (-(2 ^ 63) : Int) ≤ 0 := by decide
            have n2 : (0 : Int) < 2 ^ 63 := by decide
            refine ⟨_, rfl, p, _, _, _, rfl, rfl, .inl (.inl h1'), rfl, .inl ⟨rfl, _, .inl (.inl h2')⟩, l, _, 0, 0, .int c, rfl, rfl, h2', n1, n2, ?_, rfl, .inl ⟨_, rfl, ?_⟩⟩
            · simp [seqIndex?]
            have h1b : (upd (upd H e (.lst [])) l (.lst ((List.map V.int (c :: cs)).eraseIdx 0))) p = some (.lst [.int a, .int b, .ref l]) := by rw [upd_ne npl]; exact h1'
            obtain ⟨Hc, eHc⟩ : ∃ Hc, Hc = upd (upd H e (.lst [])) l (.lst ((List.map V.int (c :: cs)).eraseIdx 0)) := ⟨_, rfl⟩
            rw [← eHc] at h1b ⊢
            refine ⟨fun v H' => ∃ x : Int, v = .int x ∧ H' = Hc ∧ 0 ≤ x, ⟨_, rfl, _, _, rfl, rfl, _, rfl, ite_any (fun h => ?_) (fun h => ?_)⟩, ?_⟩
            · have h0 := of_decide_eq_true h
              exact ⟨_, rfl, _, _, rfl, rfl, .inl ⟨by decide, by decide⟩, _, rfl, rfl, by omega⟩
            · have h0 := of_decide_eq_false h
              exact ⟨_, rfl, _, rfl, _, _, rfl, rfl, .inl ⟨by decide, by decide⟩, _, _, rfl, rfl, _, rfl, rfl, by omega⟩
            rintro v H2 ⟨y, rfl, rfl, hy⟩
            refine ⟨fun v H' => ∃ x : Int, v = .int x ∧ H' = H2 ∧ 0 ≤ x, ⟨_, rfl, _, _, rfl, rfl, ⟨by decide, by decide, by decide⟩, _, _, rfl, rfl, _, rfl, ite_any (fun h => ⟨_, rfl, y, rfl, rfl, hy⟩) (fun h => ⟨0, rfl, rfl, by decide⟩)⟩, ?_⟩
            rintro v H3 ⟨z, rfl, rfl, hz⟩
            subst eHc
            refine ⟨_, rfl, p, _, _, 0, rfl, rfl, h1b, rfl, ?_⟩
            refine ⟨_, rfl, p, _, _, _, rfl, rfl, .inl (.inl upd_same), rfl, _, rfl, _, _, rfl, rfl, .inr ⟨by decide, by decide⟩, _, _, rfl, rfl, .inl ⟨_, rfl, _, _, rfl, rfl, (by show (0 : Int) < 2147483629; decide), _, _, rfl, rfl, ?_⟩⟩
            refine ⟨_, rfl, p, _, _, 1, rfl, rfl, upd_same, rfl, ?_⟩
            refine ⟨_, _, rfl, ⟨z, _, cs, upd_same, ?_, hz, ?_⟩, ?_⟩
            · rw [upd_ne npl.symm, upd_ne npl.symm, upd_same]
              rfl
            · have := Int.emod_nonneg (b + y * 69621) (show (2147483629 : Int) ≠ 0 by decide)
              omega
            · intro b' o n e'
              have n1 : b' ≠ p := fun z => n (by rw [z]; simp)
              have n2 : b' ≠ l := fun z => n (by rw [z]; simp)
              rw [upd_ne n1, upd_ne n1, upd_ne n2]
              exact s1 _ _ e'
        · exact ⟨_, _, rfl, hP.same s1, Same.kp s1⟩
      · exact ⟨_, _, rfl, hP, Kp.refl _ _⟩
    · rintro σ' H1 ⟨v2, v3, rfl, ⟨a, b, cs, h1, h2, ha, hb⟩, k1⟩
      refine ⟨_, rfl, p, _, _, _, rfl, rfl, .inl (.inl h1), rfl, _, _, rfl, rfl, _, rfl, ite_any (fun hc => ?_) (fun hc => ?_)⟩
      · refine ⟨_, rfl, p, _, _, _, rfl, rfl, .inl (.inl h1), rfl, .inl ⟨_, rfl, _, rfl, _, _, rfl, rfl, (by show (0 : Int) < (m : Int); omega), ?_⟩⟩
        refine ⟨_, rfl, p, _, _, _, rfl, rfl, .inl (.inl h1), rfl, _, rfl, _, _, rfl, rfl, ⟨by show (0 : Int) < (m : Int); omega, by show (m : Int) < 1073741824; omega⟩, ?_⟩
        refine ⟨_, rfl, p, _, _, 0, rfl, rfl, h1, rfl, ?_⟩
        have h3 := Int.emod_nonneg a (show (m : Int) ≠ 0 by omega)
        have h4 := Int.emod_lt_of_pos a (show (0 : Int) < m by omega)
        refine ⟨_, rfl, ?_⟩
        have e0 : V.int (a % (m : Int)) = vN (a % (m : Int)).toNat := by
          unfold vN
          rw [Int.toNat_of_nonneg h3]
        show Q (V.int (a % (m : Int))) _
        rw [e0]
        refine q _ _ (by omega) ⟨a / m, b, cs, upd_same, by rw [upd_ne npl.symm]; exact h2, Int.ediv_nonneg ha (by omega), hb⟩ ?_
        intro b' o n e'
        rw [upd_ne (fun z => n (by rw [z]; simp))]
        exact k1 _ _ n e'
      · refine ⟨_, rfl, p, _, _, _, rfl, rfl, .inl (.inl h1), rfl, _, _, rfl, rfl, .inr ⟨by decide, by decide⟩, _, _, rfl, rfl, .inl ⟨_, rfl, _, _, rfl, rfl, (by show (0 : Int) < 2147483647; decide), ?_⟩⟩
        refine ⟨_, rfl, p, _, _, 1, rfl, rfl, h1, rfl, ?_⟩
        have h3 := Int.emod_nonneg (b * 48271 + 11) (show (2147483647 : Int) ≠ 0 by decide)
        have h4 := Int.emod_lt_of_pos (b * 48271 + 11) (show (0 : Int) < 2147483647 by decide)
        refine ⟨_, rfl, p, _, _, _, rfl, rfl, .inl (.inl upd_same), rfl, _, rfl, p, _, _, _, rfl, rfl, .inl (.inl upd_same), rfl, _, _, rfl, rfl, .inl ⟨by omega, by omega⟩, .inl ⟨_, rfl, _, _, rfl, rfl, (by show (0 : Int) < 2147483629; decide), ?_⟩⟩
        refine ⟨_, _, rfl, rfl, ⟨by decide, by decide⟩, _, rfl, _, _, rfl, rfl, (by show (0 : Int) < (m : Int); omega), ?_⟩
        have h5 := Int.emod_nonneg ((b * 48271 + 11) % 2147483647 * ((b * 48271 + 11) % 2147483647) % 2147483629 / 32) (show (m : Int) ≠ 0 by omega)
        have h6 := Int.emod_lt_of_pos ((b * 48271 + 11) % 2147483647 * ((b * 48271 + 11) % 2147483647) % 2147483629 / 32) (show (0 : Int) < m by omega)
        show Q (V.int (((b * 48271 + 11) % 2147483647 * ((b * 48271 + 11) % 2147483647) % 2147483629 / 32) % (m : Int))) _
        generalize ((b * 48271 + 11) % 2147483647 * ((b * 48271 + 11) % 2147483647) % 2147483629 / 32) % (m : Int) = z at h5 h6 ⊢
        have e0 : V.int z = vN z.toNat := by
          unfold vN
          rw [Int.toNat_of_nonneg h5]
        rw [e0]
        refine q _ _ (by omega) ⟨a, (b * 48271 + 11) % 2147483647, cs, upd_same, by rw [upd_ne npl.symm]; exact h2, ha, h3⟩ ?_
        intro b' o n e'
        rw [upd_ne (fun z => n (by rw [z]; simp))]
        exact k1 _ _ n e'
end
end Ft

set_option Elab.async false
set_option linter.all false
set_option maxRecDepth 100000
set_option maxHeartbeats 4000000
/-! isinstance of the error that a suite holds, whose class is known only then and which has a dict of its own. -/
namespace Ft
open PySem PySem.Spec PyProof.Rows L2
/-- what a class says so that isinstance asks its errors rightly -/
structure IsC (K : PySem.W.Frag) (C : Addr) : Prop where
  cl : (PySem.W.clsIn K C).isSome = true
  ga : PySem.W.findIn K (.ref C) "__getattribute__" = some (some (.builtin "BaseException.__getattribute__"))
  gg : PySem.W.findIn K (.ref C) "__getattr__" = some none
  ex : PySem.W.subIn K (.ref C) (.type "BaseException") = some true
  ha : PySem.W.findIn K (.ref C) "__class__" = some (some (.builtin "object.__class__"))
  hn : PySem.W.specialIn K (.builtin "object.__class__") "__get__" = some (some (.builtin "getset_descriptor.__get__"))
  ht : PySem.W.takesIn K (.builtin "object.__class__") = some true
  hm : PySem.W.mroIn K C (.type "object") = some true
def rIsX (K : PySem.W.Frag) (a : Addr) (cls : Value) (d : Option Addr) (cv : Value) : List V → Hp → VK → Prop := fun xs H Q => ∃ (c : V) (b : Bool) (C dd : Addr) (v : V), xs = [.ref a, c] ∧ (∀ u, RelV c u → u = cv) ∧ cls = .ref C ∧ IsC K C ∧ d = some dd ∧ H dd = some (.xd [("what", v)]) ∧ PySem.W.kitOne K (.ref C) cv = some b ∧ Q (.bl b) H
theorem call_isX {X : Cx} {a : Addr} {oe : Obj} {cls : Value} {d : Option Addr} {cv : Value} {pn : List (Addr × Obj)} (hz : L2N.Zn cls d oe) (hf : ∃ vs, oe.data = .fields vs) : CallR (X.suite a ((a, oe) :: pn)) (.builtin "isinstance") (rIsX X.K a cls d cv) := by
  intro pins s σ H xs us Q I r h
  obtain ⟨c, b, C, dd, v, rfl, hcv, rfl, ic, rfl, hdd, e, q⟩ := h
  cases r with
  | cons rx rr =>
    cases rr with
    | cons rt rr =>
      cases rr
      cases rx
      have ec := hcv _ rt
      subst ec
      obtain ⟨ha, _⟩ := I.pin (a, oe) (List.mem_append_left _ List.mem_cons_self)
      obtain ⟨vs, hd⟩ := hf
      have hx : ObjOk X.prog X.w H s.heap dd (.xd [("what", v)]) := I.hok dd _ hdd
      obtain ⟨mA, hns, hr⟩ := hx
      obtain ⟨od, ho, hl⟩ := lookIn_ns hns
      have J : PySem.W.InstAt s.heap a oe C (some od) := ⟨ha, hz.1, by unfold PySem.W.notCls; rw [hd] <;> rfl, by rw [hz.2.1]; exact ho⟩
      exact PySem.W.kia_one (PySem.W.kitx_exc ic.cl ic.ga ic.gg ic.ex ic.ha ic.hn ic.ht ic.hm) I.kIn J e (fun z => nomatch z) fun tk => ⟨.bl b, H, I.kept (t' := tk) fun _ _ z => z, rfl, q⟩
/-- an error of class c is one of class d, too; of the builtin one d -/
def Kit (K : PySem.W.Frag) (ca : Str → Addr) (c d : Str) : Prop := PySem.W.kitOne K (.ref (ca c)) (.ref (ca d)) = some true
def KitB (K : PySem.W.Frag) (ca : Str → Addr) (c : Str) (d : String) : Prop := PySem.W.kitOne K (.ref (ca c)) (.type d) = some true
end Ft

set_option Elab.async false
set_option linter.all false
set_option maxRecDepth 100000
set_option maxHeartbeats 4000000
namespace Ft
open PySem PySem.Spec PyProof.Rows L2
/-! x in t, t a tuple of data of any depth; t[i], t a list or a tuple; a class as a value -/
def rInTD (K : PySem.W.Frag) : R2 := fun x y H Q => ∃ d ds, Dp K H x d ∧ Dp K H y (.tuple ds) ∧ SeqAt.shaped d = true ∧ SeqAt.shaped (.tuple ds) = true ∧ Q (.bl (ds.any fun z => PyData.eqv z d)) H
def rNotInTD (K : PySem.W.Frag) : R2 := fun x y H Q => ∃ d ds, Dp K H x d ∧ Dp K H y (.tuple ds) ∧ SeqAt.shaped d = true ∧ SeqAt.shaped (.tuple ds) = true ∧ Q (.bl (!ds.any fun z => PyData.eqv z d)) H
theorem op_inTD {X : Cx} (hu : X.A.units + 65 < cLine) : OpR X (compareOp .In) (rInTD X.K) := by
  intro pins s σ H x y v u Q I rx ry h
  obtain ⟨d, ds, hd, he, sd, se, q⟩ := h
  obtain ⟨as, r1⟩ := Dp.reads I d x v hd rx
  obtain ⟨bs, r2⟩ := Dp.reads I (.tuple ds) y u he ry
  exact SeqAt.in_tuple_reads r2 r1 (SeqAt.canLay_of_shaped se) (SeqAt.canLay_of_shaped sd) (room_in_shaped sd hu) ⟨.bl _, H, I, rfl, q⟩
theorem op_notInTD {X : Cx} (hu : X.A.units + 65 < cLine) : OpR X (compareOp .NotIn) (rNotInTD X.K) := by
  intro pins s σ H x y v u Q I rx ry h
  obtain ⟨d, ds, hd, he, sd, se, q⟩ := h
  obtain ⟨as, r1⟩ := Dp.reads I d x v hd rx
  obtain ⟨bs, r2⟩ := Dp.reads I (.tuple ds) y u he ry
  exact SeqAt.notIn_tuple_reads r2 r1 (SeqAt.canLay_of_shaped se) (SeqAt.canLay_of_shaped sd) (room_in_shaped sd hu) ⟨.bl _, H, I, rfl, q⟩
def rIxA (K : PySem.W.Frag) : R2 := fun x y H Q => rIxL K x y H Q ∨ rIxT K x y H Q
theorem ix_any {X : Cx} : IxR X (rIxA X.K) := fun value slice pins s σ H x y v u Q I rx ry h hs => h.elim (fun h => ix_list value slice pins s σ H x y v u Q I rx ry h hs) (fun h => ix_tup value slice pins s σ H x y v u Q I rx ry h hs)
theorem pe_globC {X : Cx} {x : Str} {C : Addr} {pos : Pos} (hg : Gl X x) (h : X.mg x = some (.ref C)) (hd : (x == ("__debug__" : Str)) = false := by decide) : PE X (.Name x pos) (tC (.ref C)) := pe_glob (v := .ref C) hg h rfl hd
end Ft

set_option Elab.async false
set_option linter.all false
set_option maxRecDepth 100000
set_option maxHeartbeats 8000000
namespace Ft
open PySem PySem.Spec PyProof.Rows L2
theorem seqIndex_nat {r n : Nat} (h : r < n) : seqIndex? (r : Int) n = some r := by
  unfold seqIndex?
  have h0 : ¬ ((r : Int) < 0) := by omega
  have h1 : (r : Int) < n := by omega
  have h2 : (0 : Int) ≤ (r : Int) := by omega
  simp [h0, h1, h2]
theorem map_erase {α β : Type} (f : α → β) : ∀ (l : List α) (i : Nat), (l.map f).eraseIdx i = (l.eraseIdx i).map f
  | [], _ => rfl
  | _ :: _, 0 => rfl
  | a :: l, i + 1 => congrArg (f a :: ·) (map_erase f l i)
theorem cons_erase {α : Type} : ∀ {l : List α} {r : Nat} {x : α}, l[r]? = some x → (x :: l.eraseIdx r).Perm l
  | [], _, _, h => by simp at h
  | a :: l, 0, x, h => by
    have e : a = x := by simpa using h
    rw [e]
    exact List.Perm.refl _
  | a :: l, r + 1, x, h => (List.Perm.swap a x (l.eraseIdx r)).trans ((cons_erase (l := l) (r := r) (by simpa using h)).cons a)
theorem rgV_nat (n : Nat) : rgV 0 (n : Int) = (List.range n).map vN := by
  unfold rgV
  have e : ((n : Int) - 0).toNat = n := by omega
  rw [e]
  refine List.map_congr_left fun i _ => ?_
  show V.int (0 + (i : Int)) = V.int (i : Int)
  rw [Int.zero_add]
section
variable {P : Program} {w : World} {K : PySem.W.Frag} {mg : Str → Option Value} {base : Heap} {t1 t2 : Tok}
/-! ### _law_pick, of a list -/
def sp_law_pick (K : PySem.W.Frag) : Sp := fun vs H Q _ => ∃ (p l t : Addr) (xs : List V), vs = [.ref p, .ref t] ∧ PoolAt H p l ∧ SqL K H t xs ∧ t ∉ [p, l] ∧ 0 < xs.length ∧ xs.length < 1073741824 ∧ ∀ x H', x ∈ xs → PoolAt H' p l → Kp [p, l] H H' → Q x H'
/-! ### _law_turned -/
def sp_law_turned (K : PySem.W.Frag) : Sp := fun vs H Q _ => ∃ (p l : Addr) (m : Nat), vs = [.ref p, vN m] ∧ PoolAt H p l ∧ m ≤ 1000 ∧ ∀ (q : Addr) (perm : List Nat) (H' : Hp), perm.Perm (List.range m) → H q = none → H' q = some (.lst (perm.map vN)) → PoolAt H' p l → Kp [p, l] H H' → Q (.ref q) H'
theorem cal_law_turned (T : Txt mg) (D : Def K mg "_law_turned" s_law_turned) (c_law_draw : Cal P w K mg base 2 "_law_draw" sp_law_draw) : Cal P w K mg base 3 "_law_turned" (sp_law_turned K) := by
  refine cal_of D sc_law_turned (fun _ _ _ _ _ _ us hl => match us, hl with | [_, _], _ => rfl) (fun vs H Q E h => ?_) (fun f cdv A outer s H vs Q E hr h => ?_)
  · obtain ⟨p, l, m, rfl, _⟩ := h
    rfl
  · obtain ⟨p, l, m, rfl, hP, m1, q⟩ := h
    refine ⟨_, (pss_cons (ps_par (i := 2) (j := 3) (by rfl) sc_law_turned.nd rfl rfl (by decide) rfl rfl (pa_cons (pe_listRg rfl (by rfl) T.list (prg_1 (by rfl) T.range (pv 1))) (pa_cons (pe_lst pa_nil) pa_nil)) (by rfl))
      (pss_cons (ps_for PassesOwn.never rfl (pi_range1 (by rfl) T.range (pa_cons (pv 1) pa_nil)) (pg_name (i := 4) sc_law_turned.nd rfl (Or.inl rfl)) (pss_one (ps_expr (pe_bm PySem.F.plainAttrs_list PySem.F.slot_list_append PySem.F.type_list_append mt_append (pv 3) (pa_cons (pe_bm PySem.F.plainAttrs_list PySem.F.slot_list_pop PySem.F.type_list_pop mt_popAt (pv 2) (pa_cons (pe_c c_law_draw hr (by decide) (by rfl) (pa_cons (pv 0) (pa_cons (pe_callB (show CallR _ _ (rLenS K) from call_lenS) (by rfl) T.len (by decide +kernel) (pa_cons (pv 2) pa_nil)) pa_nil))) pa_nil)) pa_nil)))))
      (pss_one (ps_ret (pv 3))))), ?_⟩
    refine ⟨_, rfl, _, rfl, .of_le (by omega) (by omega) (by omega) (by omega), fun a ha => ?_⟩
    have s1 : Same H (upd H a (.lst (rgV 0 (m : Int)))) := same_upd ha
    have hA : (upd H a (.lst (rgV 0 (m : Int)))) a = some (.lst ((List.range m).map vN)) := by rw [upd_same, rgV_nat]
    generalize upd H a (.lst (rgV 0 (m : Int))) = H1 at s1 hA
    refine ⟨Nat.zero_le _, fun d hd => ?_⟩
    have nad : a ≠ d := ne_of_none hA hd
    have s2 : Same H1 (upd H1 d (.lst [])) := same_upd hd
    refine ⟨_, _, rfl, ?_⟩
    have k0 : ∀ b, b ∈ [p, l] → b ≠ a ∧ b ≠ d := by
      intro b hb
      obtain ⟨o, e, _⟩ := hP.lists b hb
      exact ⟨ne_of_none e ha, ne_of_none (s1 _ _ e) hd⟩
    refine ⟨_, rfl, _, rfl, by omega, by omega, for_range (lo := 0) (n := m) (fun i σ H' => ∃ (L F : List Nat) (v4 : Option V), σ = [some (.ref p), some (vN m), some (.ref a), some (.ref d), v4] ∧ PoolAt H' p l ∧ Kp [p, l] H H' ∧ H' a = some (.lst (L.map vN)) ∧ H' d = some (.lst (F.map vN)) ∧ (F ++ L).Perm (List.range m) ∧ F.length = i)
      ⟨List.range m, [], _, rfl, (hP.same s1).same s2, Same.kp (s1.trans s2), s2 _ _ hA, upd_same, List.Perm.refl _, rfl⟩ ?_ ?_⟩
    · rintro i σ H2 hi ⟨L, F, v4, rfl, hP2, k2, hL, hF, pm, eF⟩
      have len := pm.length_eq
      rw [List.length_append, List.length_range, eF] at len
      refine ⟨_, rfl, .inl ⟨rfl, _, .inl (.inl hF)⟩, _, rfl, .inl ⟨rfl, _, .inl (.inl hL)⟩, ?_⟩
      refine ⟨_, rfl, _, rfl, a, _, rfl, .inl (.inl (.inl hL)), p, l, L.length, ?_, hP2, by omega, by omega, fun r H3 hr3 hP3 k3 => ?_⟩
      · rw [List.length_map]
        rfl
      have na : a ∉ [p, l] := fun m => (k0 a m).1 rfl
      have nd : d ∉ [p, l] := fun m => (k0 d m).2 rfl
      have hL3 := k3 _ _ na hL
      have hF3 := k3 _ _ nd hF
      obtain ⟨x, hx⟩ : ∃ x, L[r]? = some x := ⟨_, List.getElem?_eq_getElem hr3⟩
      refine ⟨a, _, (r : Int), r, vN x, rfl, rfl, hL3, by omega, by omega, seqIndex_nat (by rw [List.length_map]; exact hr3), by rw [List.getElem?_map, hx]; rfl, ?_⟩
      have hF4 : (upd H3 a (.lst ((L.map vN).eraseIdx r))) d = some (.lst (F.map vN)) := by rw [upd_ne nad.symm]; exact hF3
      refine ⟨d, _, _, rfl, rfl, hF4, by rw [List.length_map, eF]; exact small1000 (by omega), L.eraseIdx r, F ++ [x], _, rfl, ?_, ?_, ?_, ?_, ?_, by rw [List.length_append, eF]; rfl⟩
      · obtain ⟨a1, b1, cs, h1, h2, h3⟩ := hP3
        exact ⟨a1, b1, cs, by rw [upd_ne (k0 p (by simp)).2, upd_ne (k0 p (by simp)).1]; exact h1, by rw [upd_ne (k0 l (by simp)).2, upd_ne (k0 l (by simp)).1]; exact h2, h3⟩
      · intro b o n e
        have na1 : b ≠ a := ne_of_none e ha
        have nd1 : b ≠ d := ne_of_none (s1 _ _ e) hd
        rw [upd_ne nd1, upd_ne na1]
        exact k3 b o n (k2 b o n e)
      · rw [upd_ne nad, upd_same, map_erase]
      · rw [upd_same, List.map_append]
        rfl
      · have pe : (x :: L.eraseIdx r).Perm L := cons_erase hx
        have e1 : F ++ [x] ++ L.eraseIdx r = F ++ (x :: L.eraseIdx r) := by simp
        rw [e1]
        exact (List.Perm.append_left F pe).trans pm
    · rintro σ H2 ⟨L, F, v4, rfl, hP2, k2, hL, hF, pm, eF⟩
      have len := pm.length_eq
      rw [List.length_append, List.length_range, eF] at len
      have eL : L = [] := List.length_eq_zero_iff.mp (by omega)
      subst eL
      rw [List.append_nil] at pm
      exact ⟨_, rfl, q d F H2 pm (s1.free hd) hF hP2 k2⟩
end
end Ft

set_option Elab.async false
set_option linter.all false
set_option maxRecDepth 100000
set_option maxHeartbeats 8000000
namespace Ft
open PySem PySem.Spec PyProof.Rows L2
/-! ### rows of two numbers, sorted -/
def two (p : Nat × Nat) : List Int := [(p.1 : Int), (p.2 : Int)]
theorem two_lt {p q : Nat × Nat} (le : two p ≤ two q) (ne : two p ≠ two q) : ltP p q := by
  unfold two at le ne
  rw [List.cons_le_cons_iff] at le
  rcases le with h | ⟨h1, h2⟩
  · exact .inl (by omega)
  · rw [List.cons_le_cons_iff] at h2
    rcases h2 with h | ⟨h3, _⟩
    · exact .inr ⟨by omega, by omega⟩
    · exact absurd (by rw [h1, h3]) ne
theorem two_inj {p q : Nat × Nat} (h : two p = two q) : p = q := by
  unfold two at h
  simp only [List.cons.injEq, and_true] at h
  exact Prod.ext (by omega) (by omega)
theorem rows_two : ∀ (L : List Row), (∀ r ∈ L, ∃ p, r.2 = two p) → ∃ ps : List (Nat × Nat), L.map (·.2) = ps.map two
  | [], _ => ⟨[], rfl⟩
  | r :: L, h => by
    obtain ⟨p, hp⟩ := h r List.mem_cons_self
    obtain ⟨ps, hps⟩ := rows_two L fun q hq => h q (List.mem_cons_of_mem _ hq)
    exact ⟨p :: ps, by rw [List.map_cons, List.map_cons, hp, hps]⟩
theorem rows_up {L : List Row} {ps : List (Nat × Nat)} (e : L.map (·.2) = ps.map two) (up : L.Pairwise fun q r => q.2 ≤ r.2) (nd : (L.map (·.2)).Nodup) : ps.Pairwise ltP := by
  have h1 : (ps.map two).Pairwise (· ≤ ·) := by
    rw [← e]
    exact List.pairwise_map.mpr up
  rw [e] at nd
  have h2 := List.Pairwise.and h1 nd
  exact (List.pairwise_map.mp h2).imp fun h => two_lt h.1 h.2
theorem rows_pairs {K : PySem.W.Frag} {H : Hp} : ∀ {L : List Row} {ps : List (Nat × Nat)}, L.map (·.2) = ps.map two → (∀ r ∈ L, SqT K H r.1 (r.2.map V.int)) → PairsAt K H (L.map (·.1)) ps
  | [], [], _, _ => .nil
  | [], _ :: _, e, _ => nomatch e
  | _ :: _, [], e, _ => nomatch e
  | r :: L, p :: ps, e, h => by
    rw [List.map_cons, List.map_cons] at e
    injection e with e1 e2
    refine .cons ?_ (rows_pairs e2 fun q hq => h q (List.mem_cons_of_mem _ hq))
    have := h r List.mem_cons_self
    rw [e1] at this
    exact this
/-! ### maps whose places are named anew -/
/-- the new name of a place -/
def nm (perm : List Nat) (a : Nat) : Nat := perm.getD a 0
theorem nm_get {perm : List Nat} {a : Nat} (h : a < perm.length) : perm[a]? = some (nm perm a) := by
  unfold nm
  rw [List.getD_eq_getElem?_getD, List.getElem?_eq_getElem h]
  rfl
structure Named (n : Nat) (prs : List (Nat × Nat)) (ws perm : List Nat) (C : Chart) : Prop where
  n : C.n = n
  ok : C.Ok
  roads : ∀ x y, (x, y) ∈ C.roads ↔ ∃ a b, (a, b) ∈ prs ∧ x = nm perm a ∧ y = nm perm b
  wished : ∀ x, x ∈ C.wished ↔ ∃ a ∈ ws, x = nm perm a
theorem perm_lt {perm : List Nat} {n : Nat} (pm : perm.Perm (List.range n)) {a : Nat} (h : a < n) : nm perm a < n := by
  have len : perm.length = n := by rw [pm.length_eq, List.length_range]
  have := List.mem_of_getElem? (nm_get (perm := perm) (a := a) (by rw [len]; exact h))
  exact List.mem_range.mp (pm.mem_iff.mp this)
theorem nm_at {perm : List Nat} {n : Nat} (pm : perm.Perm (List.range n)) {a : Nat} (h : a < n) : atI (perm.map vN) (a : Int) = some (vN (nm perm a)) := by
  have len : perm.length = n := by rw [pm.length_eq, List.length_range]
  refine atI_nat ?_
  rw [List.getElem?_map, nm_get (by rw [len]; exact h)]
  rfl
section
variable {P : Program} {w : World} {K : PySem.W.Frag} {mg : Str → Option Value} {base : Heap} {t1 t2 : Tok}
/-! ### _law_map_named -/
def sp_law_map_named (K : PySem.W.Frag) : Sp := fun vs H Q _ => ∃ (p l ro wi : Addr) (n : Nat) (ts : List Addr) (prs : List (Nat × Nat)) (ws : List Nat), vs = [.ref p, vN n, .ref ro, .ref wi] ∧ PoolAt H p l ∧ n ≤ 60 ∧
  H ro = some (.lst (ts.map V.ref)) ∧ ro ∉ [p, l] ∧ PairsAt K H ts prs ∧ prs.length < 64 ∧ (∀ q ∈ prs, q.1 < n ∧ q.2 < n) ∧ H wi = some (.lst (ws.map vN)) ∧ wi ∉ [p, l] ∧ ws.length < 64 ∧ (∀ a ∈ ws, a < n) ∧
  ∀ (q c na : Addr) (perm : List Nat) (C : Chart) (H' : Hp), perm.Perm (List.range n) → H q = none → H na = none → H' q = some (.lst [.ref c, .ref na]) → IsChart K H' c C → H' na = some (.lst (perm.map vN)) → Named n prs ws perm C → PoolAt H' p l → Kp [p, l] H H' → Q (.ref q) H'
theorem cal_law_map_named (T : Txt mg) (D : Def K mg "_law_map_named" s_law_map_named) (c_law_turned : Cal P w K mg base 3 "_law_turned" (sp_law_turned K)) : Cal P w K mg base 4 "_law_map_named" (sp_law_map_named K) := by
  refine cal_of D sc_law_map_named (fun _ _ _ _ _ _ us hl => match us, hl with | [_, _, _, _], _ => rfl) (fun vs H Q E h => ?_) (fun f cdv A outer s H vs Q E hr h => ?_)
  · obtain ⟨p, l, ro, wi, n, ts, prs, ws, rfl, _⟩ := h
    rfl
  · obtain ⟨p, l, ro, wi, n, ts, prs, ws, rfl, hP, n60, hRo, oR, hPr, fewP, inP, hWi, oW, fewW, inW, q⟩ := h
    have hU := hr.units
    refine ⟨_, (pss_cons (ps_set (i := 4) sc_law_map_named.nd rfl (Or.inr rfl) (pe_c c_law_turned hr (by decide) (by rfl) (pa_cons (pv 0) (pa_cons (pv 1) pa_nil))))
      (pss_cons (ps_set (i := 5) sc_law_map_named.nd rfl (Or.inl rfl) (pe_callTy (show CallR _ _ (rTupleOf K) from call_tupleOf) (by rfl) T.tuple (by decide +kernel) (pa_cons (pe_callB (show CallR _ _ (rSortedS K P w) from cr_sortedSR rfl hU) (by rfl) T.sorted (by decide +kernel) (pa_cons (pe_callTy (show CallR _ _ (rSetOfT K P w) from cr_setOfT rfl hU) (by rfl) T.set (by decide +kernel) (pa_cons (pe_lc (own := [("a", 6), ("b", 7)]) rfl sc_law_map_named.nd (show PI _ _ _ (iList K _) from pi_list (pv 2)) (blkOk_by (N := ["pool", "places", "roads", "wished", "names", "told", "a", "b"]) (sc := L2.defScope s_law_map_named) (by decide +kernel)) (fun _ _ _ _ _ => (show PG _ _ (gTup K 2 _) from pg_tup (by rfl) (pgs_cons (pg_name (i := 6) sc_law_map_named.nd rfl (Or.inl rfl)) (pgs_cons (pg_name (i := 7) sc_law_map_named.nd rfl (Or.inl rfl)) pgs_nil)))) (fun _ _ _ _ _ => pts_nil) (fun _ _ _ _ _ => (pe_tup (pa_cons (pe_ix (show IxR _ (rIxL K) from ix_list) (pv 4) (pv 6) (fun _ _ => rfl)) (pa_cons (pe_ix (show IxR _ (rIxL K) from ix_list) (pv 4) (pv 7) (fun _ _ => rfl)) pa_nil))))) pa_nil)) pa_nil)) pa_nil)))
      (pss_one (ps_ret (pe_lst (pa_cons (pe_tup (pa_cons (pv 1) (pa_cons (pv 5) (pa_cons (pe_callTy (show CallR _ _ (rTupleOf K) from call_tupleOf) (by rfl) T.tuple (by decide +kernel) (pa_cons (pe_callB (show CallR _ _ (rSortedSet w) from cr_sortedSet rfl) (by rfl) T.sorted (by decide +kernel) (pa_cons (pe_callTy (show CallR _ _ (rSetI K w) from cr_setI rfl) (by rfl) T.set (by decide +kernel) (pa_cons (pe_lc (own := [("a", 6)]) rfl sc_law_map_named.nd (show PI _ _ _ (iList K _) from pi_list (pv 3)) (blkOk_by (N := ["pool", "places", "roads", "wished", "names", "told", "a", "b"]) (sc := L2.defScope s_law_map_named) (by decide +kernel)) (fun _ _ _ _ _ => (pg_name (i := 6) sc_law_map_named.nd rfl (Or.inl rfl))) (fun _ _ _ _ _ => pts_nil) (fun _ _ _ _ _ => (pe_ix (show IxR _ (rIxL K) from ix_list) (pv 4) (pv 6) (fun _ _ => rfl)))) pa_nil)) pa_nil)) pa_nil)) pa_nil)))) (pa_cons (pv 4) pa_nil))))))), ?_⟩
    refine ⟨_, rfl, _, rfl, p, l, n, rfl, hP, by omega, fun na perm H1 pm hna hN hP1 k1 => ?_⟩
    have hRo1 := k1 _ _ oR hRo
    have hWi1 := k1 _ _ oW hWi
    have hPr1 : PairsAt K H1 ts prs := hPr.keep k1 hP.lists
    refine ⟨_, rfl, ro, rfl, ⟨_, .inl (.inl hRo1)⟩, fun d hd => ?_⟩
    have keep : ∀ {H' : Hp}, Kp [d] H1 H' → Same H1 H' := fun {H'} k b o e => k b o (fun m => by rw [List.mem_singleton.mp m, hd] at e; cases e) e
    refine lc_list (K := K) (xs := ts.map V.ref) (fun i H' => ∃ rows : List Row, rows.map (·.2) = (prs.take i).map (fun q => two (nm perm q.1, nm perm q.2)) ∧ Kp [d] H1 H' ∧ H' d = some (.lst (rows.map fun r => V.ref r.1)) ∧ ∀ r ∈ rows, H' r.1 = some (.tup (r.2.map V.int)))
      ⟨[], rfl, (fun b o x e => by rw [upd_ne (ne_of_none e hd)]; exact e), upd_same, fun r h => nomatch h⟩ (fun i H' _ ⟨_, _, k, _⟩ => .inl (.inl (keep k _ _ hRo1))) ?_ ?_
    · rintro i x H2 hx ⟨rows, e2, k2, hD, all⟩
      obtain ⟨t, ht, rfl⟩ := get_map hx
      obtain ⟨q0, hq0, pt⟩ := paired_getL hPr1 ht
      obtain ⟨b1, b2⟩ := inP q0 (List.mem_of_getElem? hq0)
      have hN2 := keep k2 _ _ hN
      have il : i < prs.length := (List.getElem?_eq_some_iff.mp hq0).1
      have el : rows.length = i := by
        have := congrArg List.length e2
        rw [List.length_map, List.length_map, List.length_take] at this
        omega
      refine ⟨t, _, rfl, Same.sqT (keep k2) pt, rfl, _, _, rfl, _, _, rfl, rfl, rfl, ?_⟩
      refine ⟨_, rfl, _, rfl, na, _, _, _, rfl, rfl, .inl (.inl hN2), nm_at pm b1, _, rfl, _, rfl, na, _, _, _, rfl, rfl, .inl (.inl hN2), nm_at pm b2, (by show 2 ≤ sizeLine; decide), fun e he => ?_⟩
      have nde : d ≠ e := ne_of_none hD he
      refine ⟨_, Eq.trans (upd_ne nde) hD, by rw [List.length_map, el]; exact small1000 (by omega), rows ++ [(e, two (nm perm q0.1, nm perm q0.2))], ?_, ?_, by rw [upd_same, List.map_append]; rfl, ?_⟩
      · rw [List.map_append, e2, take_more hq0, List.map_append]
        rfl
      · intro b o nb eb
        have := k2 b o nb eb
        rw [upd_ne (fun z => nb (by rw [z]; simp)), upd_ne (ne_of_none this he)]
        exact this
      · intro r hr'
        rcases List.mem_append.mp hr' with hr' | hr'
        · have := all r hr'
          have n1 : r.1 ≠ d := fun z => by rw [z, hD] at this; cases this
          rw [upd_ne n1, upd_ne (ne_of_none this he)]
          exact this
        · rw [List.mem_singleton.mp hr', upd_ne nde.symm, upd_same]
          rfl
    rintro H2 ⟨rows, e2, k2, hD, all⟩
    rw [List.take_of_length_le (by rw [List.length_map]; exact Nat.le_of_eq (Paired.length hPr1).symm)] at e2
    have elen : rows.length = prs.length := by
      have := congrArg List.length e2
      rw [List.length_map, List.length_map] at this
      exact this
    have shape : ∀ r ∈ rows, ∃ z, r.2 = two z := by
      intro r hr'
      have : r.2 ∈ rows.map (·.2) := List.mem_map.mpr ⟨r, hr', rfl⟩
      rw [e2] at this
      obtain ⟨z, _, ez⟩ := List.mem_map.mp this
      exact ⟨_, ez.symm⟩
    refine ⟨d, rows, rfl, .inl (.inl hD), (fun r hr' => .inl (.inl (all r hr'))), by omega, fun a L ha sub sup => ?_⟩
    have s3 : Same H2 (upd H2 a (SetTO P w a L)) := same_upd ha
    refine ⟨a, L, rfl, upd_same, (fun r hr' => Same.sqT s3 (.inl (.inl (all r (sub r hr'))))), (fun r hr' => by obtain ⟨z, ez⟩ := shape r (sub r hr'); rw [ez]; exact fun y => nomatch y), fun L' u pm' nd few pw hu' => ?_⟩
    have s4 : Same H2 (upd (upd H2 a (SetTO P w a L)) u (.lst (L'.map fun r => V.ref r.1))) := s3.trans (same_upd hu')
    refine ⟨u, _, rfl, .inl ⟨.inl (.inl upd_same), fun tp htp => ?_⟩⟩
    have s5 := s4.trans (same_upd (o := .tup (L'.map fun r => V.ref r.1)) htp)
    have hTp : (upd (upd (upd H2 a (SetTO P w a L)) u (.lst (L'.map fun r => V.ref r.1))) tp (.tup (L'.map fun r => V.ref r.1))) tp = some (.tup (L'.map fun r => V.ref r.1)) := upd_same
    generalize upd (upd (upd H2 a (SetTO P w a L)) u (.lst (L'.map fun r => V.ref r.1))) tp (.tup (L'.map fun r => V.ref r.1)) = H3 at s5 hTp
    have sub' : ∀ r ∈ L', r ∈ rows := fun r hr' => sub r (pm'.mem_iff.mp hr')
    obtain ⟨rds, erds⟩ := rows_two L' fun r hr' => shape r (sub' r hr')
    have upR : rds.Pairwise ltP := rows_up erds pw nd
    have hRd : PairsAt K H3 (L'.map (·.1)) rds := rows_pairs erds fun r hr' => .inl (.inl (s5 _ _ (all r (sub' r hr'))))
    have memR : ∀ x y, (x, y) ∈ rds ↔ ∃ a b, (a, b) ∈ prs ∧ x = nm perm a ∧ y = nm perm b := by
      intro x y
      have h1 : (x, y) ∈ rds ↔ two (x, y) ∈ rds.map two := by
        constructor
        · intro h
          exact List.mem_map.mpr ⟨_, h, rfl⟩
        · intro h
          obtain ⟨z, hz, ez⟩ := List.mem_map.mp h
          rw [← two_inj ez]
          exact hz
      rw [h1, ← erds]
      constructor
      · intro h
        obtain ⟨r, hr', er⟩ := List.mem_map.mp h
        have : r.2 ∈ rows.map (·.2) := List.mem_map.mpr ⟨r, sub' r hr', rfl⟩
        rw [e2, er] at this
        obtain ⟨⟨a', b'⟩, hab, ez⟩ := List.mem_map.mp this
        have := two_inj ez
        injection this with z1 z2
        exact ⟨a', b', hab, z1.symm, z2.symm⟩
      · rintro ⟨a', b', hab, rfl, rfl⟩
        have : two (nm perm a', nm perm b') ∈ rows.map (·.2) := by
          rw [e2]
          exact List.mem_map.mpr ⟨(a', b'), hab, rfl⟩
        obtain ⟨r, hr', er⟩ := List.mem_map.mp this
        have h2 := sup r hr'
        rw [er] at h2
        exact (pm'.map (·.2)).mem_iff.mpr h2
    have s13 : Same H1 H3 := (keep k2).trans s5
    have hN3 := s13 _ _ hN
    have hWi3 := s13 _ _ hWi1
    refine ⟨_, rfl, _, rfl, _, rfl, wi, rfl, ⟨_, .inl (.inl hWi3)⟩, fun d2 hd2 => ?_⟩
    have keep2 : ∀ {H' : Hp}, Kp [d2] H3 H' → Same H3 H' := fun {H'} k b o e => k b o (fun m => by rw [List.mem_singleton.mp m, hd2] at e; cases e) e
    refine lc_list (K := K) (xs := ws.map vN) (fun i H' => Kp [d2] H3 H' ∧ H' d2 = some (.lst (((ws.take i).map (nm perm)).map vN)))
      ⟨(fun b o x e => by rw [upd_ne (ne_of_none e hd2)]; exact e), upd_same⟩ (fun i H' _ ⟨k, _⟩ => .inl (.inl (keep2 k _ _ hWi3))) ?_ ?_
    · rintro i x H4 hx ⟨k4, hD4⟩
      obtain ⟨a', ha', rfl⟩ := get_map hx
      have il : i < ws.length := (List.getElem?_eq_some_iff.mp ha').1
      refine ⟨rfl, ?_⟩
      refine ⟨_, rfl, _, rfl, na, _, _, _, rfl, rfl, .inl (.inl (keep2 k4 _ _ hN3)), nm_at pm (inW a' (List.mem_of_getElem? ha')), _, hD4, ?_, ?_, ?_⟩
      · rw [List.length_map, List.length_map, List.length_take]
        exact small1000 (by omega)
      · intro b o nb eb
        rw [upd_ne (fun z => nb (by rw [z]; simp))]
        exact k4 b o nb eb
      · rw [upd_same, take_more ha', List.map_append, List.map_append]
        rfl
    rintro H4 ⟨k4, hD4⟩
    rw [List.take_of_length_le (by rw [List.length_map]; exact Nat.le_refl _)] at hD4
    refine ⟨d2, iN (ws.map (nm perm)), rfl, .inl (.inl (.inl (by rw [← vN_map]; exact hD4))), by rw [iN_length, List.length_map]; omega, fun p2 n2 hp2 hn2 => ?_⟩
    rw [iN_length, List.length_map] at hn2
    refine ⟨p2, _, n2, rfl, upd_same, by omega, fun ns u2 up2 mem2 _ hu2 => ?_⟩
    refine ⟨u2, _, rfl, .inl ⟨.inl (.inl upd_same), fun tw htw => ?_⟩⟩
    have s6 : Same H4 (upd (upd (upd H4 p2 (SetO w p2 (fun j => decide (j ∈ iN (ws.map (nm perm)))) n2)) u2 (.lst (ns.map V.int))) tw (.tup (ns.map V.int))) := ((same_upd hp2).trans (same_upd hu2)).trans (same_upd htw)
    have hTw : (upd (upd (upd H4 p2 (SetO w p2 (fun j => decide (j ∈ iN (ws.map (nm perm)))) n2)) u2 (.lst (ns.map V.int))) tw (.tup (ns.map V.int))) tw = some (.tup (ns.map V.int)) := upd_same
    generalize upd (upd (upd H4 p2 (SetO w p2 (fun j => decide (j ∈ iN (ws.map (nm perm)))) n2)) u2 (.lst (ns.map V.int))) tw (.tup (ns.map V.int)) = H5 at s6 hTw
    have s15 : Same H1 H5 := s13.trans ((keep2 k4).trans s6)
    have s35 : Same H3 H5 := (keep2 k4).trans s6
    obtain ⟨wl, ewl, memW⟩ : ∃ wl : List Nat, ns = iN wl ∧ ∀ x, x ∈ wl ↔ x ∈ ws.map (nm perm) := by
      have nn : ∀ y ∈ ns, 0 ≤ y := by
        intro y hy
        have := of_decide_eq_true ((mem2 y).mp hy)
        unfold iN at this
        obtain ⟨z, _, ez⟩ := List.mem_map.mp this
        omega
      refine ⟨ns.map Int.toNat, ?_, fun x => ?_⟩
      · unfold iN
        rw [List.map_map]
        conv => lhs; rw [← List.map_id ns]
        exact List.map_congr_left fun y hy => (Int.toNat_of_nonneg (nn y hy)).symm
      · constructor
        · intro h
          obtain ⟨y, hy, ey⟩ := List.mem_map.mp h
          have h2 := of_decide_eq_true ((mem2 y).mp hy)
          have h3 : y = (x : Int) := by
            have := nn y hy
            omega
          rw [h3] at h2
          exact iN_mem.mp h2
        · intro h
          exact List.mem_map.mpr ⟨(x : Int), (mem2 _).mpr (decide_eq_true (iN_mem.mpr h)), by omega⟩
    have upW : wl.Pairwise (· < ·) := by
      rw [ewl] at up2
      unfold iN at up2
      exact (List.pairwise_map.mp up2).imp fun h => by omega
    refine ⟨by show 3 ≤ sizeLine; decide, fun ct hct => ?_⟩
    have s7 : Same H5 (upd H5 ct (.tup [vN n, .ref tp, .ref tw])) := same_upd hct
    refine ⟨_, rfl, by show 2 ≤ sizeLine; decide, fun qa hqa => ?_⟩
    have s8 := s7.trans (same_upd (o := .lst [.ref ct, .ref na]) hqa)
    have s18 := s15.trans s8
    have len : perm.length = n := by rw [pm.length_eq, List.length_range]
    refine q qa ct na perm ⟨n, rds, wl⟩ _ pm ?_ hna upd_same ⟨tp, tw, L'.map (·.1), ?_, ?_, ?_, ?_⟩ (s18 _ _ hN) ⟨rfl, ⟨n60, ?_, ?_, upR, ?_, upW⟩, memR, ?_⟩ (hP1.same s18) ?_
    · have h1 := (s15.trans s7).free hqa
      cases eq : H qa with
      | none => rfl
      | some o =>
        have : qa ∉ [p, l] := by
          intro m
          obtain ⟨o', e', _⟩ := hP1.lists qa m
          rw [e'] at h1
          cases h1
        rw [k1 _ _ this eq] at h1
        cases h1
    · exact .inl (.inl (by rw [upd_ne (ne_of_none upd_same hqa)]; exact upd_same))
    · refine .inl (.inl ?_)
      have := s8 _ _ (s35 _ _ hTp)
      rw [List.map_map]
      exact this
    · exact hRd.keep (Same.kp (ex := []) (s35.trans s8)) (lists_nil _)
    · refine .inl (.inl ?_)
      have := s8 _ _ hTw
      rw [vN_map, ← ewl]
      exact this
    · show rds.length ≤ 240
      have e := congrArg List.length erds
      rw [List.length_map, List.length_map] at e
      omega
    · rintro ⟨x, y⟩ hxy
      obtain ⟨a', b', hab, e1, e3⟩ := (memR x y).mp hxy
      obtain ⟨b1, b2⟩ := inP _ hab
      rw [e1, e3]
      exact ⟨perm_lt pm b1, perm_lt pm b2⟩
    · intro x hx
      obtain ⟨a', ha', e1⟩ := List.mem_map.mp ((memW x).mp hx)
      rw [← e1]
      exact perm_lt pm (inW a' ha')
    · intro x
      rw [memW x, List.mem_map]
      exact ⟨fun ⟨a', h1, h2⟩ => ⟨a', h1, h2.symm⟩, fun ⟨a', h1, h2⟩ => ⟨a', h1, h2.symm⟩⟩
    · exact k1.trans (Same.kp s18)
end
end Ft

set_option Elab.async false
set_option linter.all false
set_option maxRecDepth 100000
set_option maxHeartbeats 8000000
namespace Ft
open PySem PySem.Spec PyProof.Rows L2
/-- ascending places below i -/
structure Upto (F : List Nat) (i : Nat) : Prop where
  up : F.Pairwise (· < ·)
  lt : ∀ a ∈ F, a < i
theorem Upto.nil (i : Nat) : Upto [] i := ⟨.nil, fun _ h => nomatch h⟩
theorem Upto.wider {F : List Nat} {i : Nat} (h : Upto F i) : Upto F (i + 1) := ⟨h.up, fun a m => Nat.lt_succ_of_lt (h.lt a m)⟩
theorem Upto.more {F : List Nat} {i : Nat} (h : Upto F i) : Upto (F ++ [i]) (i + 1) := by
  refine ⟨List.pairwise_append.mpr ⟨h.up, List.pairwise_singleton _ _, fun a ha b hb => ?_⟩, fun a m => ?_⟩
  · rw [List.mem_singleton.mp hb]
    exact h.lt a ha
  · rcases List.mem_append.mp m with m | m
    · exact Nat.lt_succ_of_lt (h.lt a m)
    · rw [List.mem_singleton.mp m]
      omega
theorem Upto.len {F : List Nat} {i : Nat} (h : Upto F i) : F.length ≤ i := up_len h.up h.lt
theorem upto_range (n : Nat) : Upto (List.range n) n := ⟨range_up n, fun _ h => List.mem_range.mp h⟩
theorem nodup_lt_len {l : List Nat} {n : Nat} (nd : l.Nodup) (b : ∀ a ∈ l, a < n) : l.length ≤ n := by
  have := nat_nodup_len l (List.range n) nd fun x hx => List.mem_range.mpr (b x hx)
  rwa [List.length_range] at this
/-! ### a list of pairs as data -/
def encP (p : Nat × Nat) : PyData := .tuple [.int (p.1 : Int), .int (p.2 : Int)]
theorem pairs_shaped (ps : List (Nat × Nat)) : SeqAt.shaped (.list (ps.map encP)) = true := by
  unfold SeqAt.shaped
  have h1 : PyData.canLayAll0 (ps.map encP) = true := by
    induction ps with
    | nil => simp [PyData.canLayAll0]
    | cons c cs ih => simp [PyData.canLayAll0, PyData.canLay0, encP, ih]
  have h2 : PyData.depthAll (ps.map encP) ≤ 1 := by
    induction ps with
    | nil => simp [PyData.depthAll]
    | cons c cs ih =>
      have ih' := ih (by
        have := h1
        simp [PyData.canLayAll0, PyData.canLay0, encP] at this
        exact this)
      simp [PyData.depthAll, PyData.depth, encP]
      omega
  simp [PyData.canLay0, h1, PyData.depth]
  omega
theorem dpAll_pairs {K : PySem.W.Frag} {H : Hp} : ∀ (L : List (Addr × (Nat × Nat))), (∀ r ∈ L, SqT K H r.1 [vN r.2.1, vN r.2.2]) → DpAll K H (L.map fun r => V.ref r.1) (L.map fun r => encP r.2)
  | [], _ => .nil
  | r :: L, h => .cons (.tup (h r List.mem_cons_self) (.cons (.int _) (.cons (.int _) .nil))) (dpAll_pairs L fun q hq => h q (List.mem_cons_of_mem _ hq))
theorem in_vN {x : Nat} {F : List Nat} : inV (vN x) (F.map vN) = decide (x ∈ F) := by
  rw [Bool.eq_iff_iff]
  unfold inV
  rw [List.any_map, List.any_eq_true, decide_eq_true_eq]
  constructor
  · rintro ⟨y, hy, e⟩
    have : (y : Int) = x := by simpa [eqV, vN] using e
    have : y = x := by omega
    exact this ▸ hy
  · intro h
    exact ⟨x, h, by simp [eqV, vN]⟩
theorem all_vN (F : List Nat) : (F.map vN).all flatV = true := by
  rw [List.all_map, List.all_eq_true]
  intro x _
  rfl
theorem PoolAt.set {H : Hp} {p l e : Addr} {o : HO} (n : e ∉ [p, l]) (h : PoolAt H p l) : PoolAt (upd H e o) p l := by
  obtain ⟨a, b, cs, h1, h2, h3⟩ := h
  exact ⟨a, b, cs, by rw [upd_ne (fun z => n (by simp [z]))]; exact h1, by rw [upd_ne (fun z => n (by simp [z]))]; exact h2, h3⟩
/-- what was made on the way does not count -/
theorem kp_made {p l e : Addr} {H H1 H2 : Hp} (k : Kp [p, l] H H1) (he : H1 e = none) (k2 : Kp [p, l, e] H1 H2) : Kp [p, l] H H2 := fun b o nb eb => by
  have e1 := k b o nb eb
  refine k2 b o (fun m => ?_) e1
  simp only [List.mem_cons, List.not_mem_nil, or_false] at m nb
  rcases m with m | m | m
  · exact nb (.inl m)
  · exact nb (.inr m)
  · rw [m, he] at e1
    cases e1
section
variable {P : Program} {w : World} {K : PySem.W.Frag} {mg : Str → Option Value} {base : Heap} {t1 t2 : Tok}
/-! ### _law_map_some_wished -/
def sp_law_map_some_wished (K : PySem.W.Frag) : Sp := fun vs H Q _ => ∃ (p l ro : Addr) (n : Nat) (ts : List Addr) (prs : List (Nat × Nat)), vs = [.ref p, vN n, .ref ro] ∧ PoolAt H p l ∧ n ≤ 60 ∧
  H ro = some (.lst (ts.map V.ref)) ∧ ro ∉ [p, l] ∧ PairsAt K H ts prs ∧ prs.length < 64 ∧
  ∀ (q : Addr) (ws : List Nat) (H' : Hp), ws.Nodup → (∀ a ∈ ws, a < n) → H q = none → H' q = some (.lst (ws.map vN)) → PoolAt H' p l → Kp [p, l] H H' → Q (.ref q) H'
theorem cal_law_map_some_wished (T : Txt mg) (D : Def K mg "_law_map_some_wished" s_law_map_some_wished) (c_law_draw : Cal P w K mg base 2 "_law_draw" sp_law_draw) : Cal P w K mg base 3 "_law_map_some_wished" (sp_law_map_some_wished K) := by
  refine cal_of D sc_law_map_some_wished (fun _ _ _ _ _ _ us hl => match us, hl with | [_, _, _], _ => rfl) (fun vs H Q E h => ?_) (fun f cdv A outer s H vs Q E hr h => ?_)
  · obtain ⟨p, l, ro, n, ts, prs, rfl, _⟩ := h
    rfl
  · obtain ⟨p, l, ro, n, ts, prs, rfl, hP, n60, hRo, oR, hPr, fewP, q⟩ := h
    have hU := hr.units
    refine ⟨_, (pss_cons (ps_asg (pe_tup (pa_cons (pe_c c_law_draw hr (by decide) (by rfl) (pa_cons (pv 0) (pa_cons pe_int pa_nil))) (pa_cons (pe_lc (own := [("a", 5)]) rfl sc_law_map_some_wished.nd (pi_range1 (by rfl) T.range (pa_cons (pv 1) pa_nil)) (blkOk_by (N := ["pool", "places", "roads", "way", "last", "a", "road"]) (sc := L2.defScope s_law_map_some_wished) (by decide +kernel)) (fun _ _ _ _ _ => (pg_name (i := 5) sc_law_map_some_wished.nd rfl (Or.inr rfl))) (fun _ _ _ _ _ => pts_one (pt_cmpR (show OpR _ _ (rEqD K) from op_eqD hU) (pe_lc (own := [("road", 6)]) rfl sc_law_map_some_wished.nd (show PI _ _ _ (iList K _) from pi_list (pv 2)) (blkIn (N := ["pool", "places", "roads", "way", "last", "a", "road"]) (sc := L2.defScope s_law_map_some_wished) rfl (by decide +kernel)) (fun _ _ _ _ _ => (pg_name (i := 6) sc_law_map_some_wished.nd rfl (Or.inl rfl))) (fun _ _ _ _ _ => pts_one (pt_cmpR op_eq (pe_ix (show IxR _ (rIxT K) from ix_tup) (pv 6) pe_int (fun _ _ => rfl)) (pv 5) (nomark _))) (fun _ _ _ _ _ => (pv 6))) (pe_lst pa_nil) (nomark _))) (fun _ _ _ _ _ => (pv 5))) pa_nil))) (show PG _ _ (gTup K 2 _) from pg_tup (by rfl) (pgs_cons (pg_name (i := 3) sc_law_map_some_wished.nd rfl (Or.inr rfl)) (pgs_cons (pg_name (i := 4) sc_law_map_some_wished.nd rfl (Or.inr rfl)) pgs_nil))))
      (pss_cons (ps_if (pt_cmpR op_lt (pv 3) pe_int (nomark _)) (pss_one (ps_ret (pe_op op_cat (pv 4) (pe_lc (own := [("a", 5)]) rfl sc_law_map_some_wished.nd (pi_range1 (by rfl) T.range (pa_cons (pv 1) pa_nil)) (blkOk_by (N := ["pool", "places", "roads", "way", "last", "a", "road"]) (sc := L2.defScope s_law_map_some_wished) (by decide +kernel)) (fun _ _ _ _ _ => (pg_name (i := 5) sc_law_map_some_wished.nd rfl (Or.inl rfl))) (fun _ _ _ _ _ => pts_one (PW.pt (pw_and (pt_cmpR (show OpR _ _ (rIn K true) from op_notIn_seq) (pv 5) (pv 4) (by rfl)) (pw_and (pt_cmpR op_gt (pv 3) pe_int (nomark _)) (pw_and1 (pt_cmpR op_eq (pe_c c_law_draw hr (by decide) (by rfl) (pa_cons (pv 0) (pa_cons pe_int pa_nil))) pe_int (nomark _))))))) (fun _ _ _ _ _ => (pv 5)))))) pss_nil)
      (pss_cons (ps_if (pt_cmpR op_lt (pv 3) pe_int (nomark _)) (pss_one (ps_ret (pe_lc (own := [("a", 5)]) rfl sc_law_map_some_wished.nd (pi_range1 (by rfl) T.range (pa_cons (pv 1) pa_nil)) (blkOk_by (N := ["pool", "places", "roads", "way", "last", "a", "road"]) (sc := L2.defScope s_law_map_some_wished) (by decide +kernel)) (fun _ _ _ _ _ => (pg_name (i := 5) sc_law_map_some_wished.nd rfl (Or.inl rfl))) (fun _ _ _ _ _ => pts_one (pt_cmpR op_eq (pe_c c_law_draw hr (by decide) (by rfl) (pa_cons (pv 0) (pa_cons (pe_op op_sub (pv 3) pe_int) pa_nil))) pe_int (nomark _))) (fun _ _ _ _ _ => (pv 5))))) pss_nil)
      (pss_one (ps_ret (pe_ifExp (pt_cmpR op_gt (pe_c c_law_draw hr (by decide) (by rfl) (pa_cons (pv 0) (pa_cons pe_int pa_nil))) pe_int (nomark _)) (pe_lst pa_nil) (pe_listRg rfl (by rfl) T.list (prg_1 (by rfl) T.range (pv 1))))))))), ?_⟩
    refine ⟨_, rfl, p, l, 8, rfl, hP, by decide, by decide, fun way H1 hway hP1 k1 => ?_⟩
    have hRo1 := k1 _ _ oR hRo
    have hPr1 : PairsAt K H1 ts prs := hPr.keep k1 hP.lists
    refine ⟨_, rfl, _, rfl, by omega, by omega, fun d hd => ?_⟩
    have keep : ∀ {H' : Hp}, Kp [d] H1 H' → Same H1 H' := fun {H'} k b o e => k b o (fun m => by rw [List.mem_singleton.mp m, hd] at e; cases e) e
    refine lc_range (lo := 0) (n := n) (fun i H' => ∃ F : List Nat, Kp [d] H1 H' ∧ H' d = some (.lst (F.map vN)) ∧ Upto F i)
      ⟨[], (fun b o x e => by rw [upd_ne (ne_of_none e hd)]; exact e), upd_same, Upto.nil 0⟩ ?_ ?_
    · rintro i H2 hi ⟨F, k2, hD, hF⟩
      have e0 : (0 : Int) + (i : Nat) = (i : Nat) := by omega
      refine ⟨rfl, ?_⟩
      rw [e0]
      refine ⟨_, rfl, ro, rfl, ⟨_, .inl (.inl (keep k2 _ _ hRo1))⟩, fun e he => ?_⟩
      have keep2 : ∀ {H' : Hp}, Kp [e] H2 H' → Same H2 H' := fun {H'} k b o e' => k b o (fun m => by rw [List.mem_singleton.mp m, he] at e'; cases e') e'
      refine lc_list (K := K) (xs := ts.map V.ref) (fun j H' => ∃ L : List (Addr × (Nat × Nat)), Kp [e] H2 H' ∧ H' e = some (.lst (L.map fun r => V.ref r.1)) ∧ L.length ≤ j ∧ ∀ r ∈ L, SqT K H2 r.1 [vN r.2.1, vN r.2.2])
        ⟨[], (fun b o x e' => by rw [upd_ne (ne_of_none e' he)]; exact e'), upd_same, Nat.le_refl _, fun _ h => nomatch h⟩ (fun j H' _ ⟨_, k, _⟩ => .inl (.inl (keep2 k _ _ (keep k2 _ _ hRo1)))) ?_ ?_
      · rintro j x H3 hx ⟨L, k3, hE, fl, all⟩
        obtain ⟨t, ht, rfl⟩ := get_map hx
        obtain ⟨q0, hq0, pt⟩ := paired_getL hPr1 ht
        have jl : j < prs.length := (List.getElem?_eq_some_iff.mp hq0).1
        have pt2 := Same.sqT (keep k2) pt
        have pt3 := Same.sqT (keep2 k3) pt2
        refine ⟨rfl, ?_⟩
        refine ⟨_, rfl, t, _, _, _, rfl, rfl, pt3, rfl, _, rfl, rfl, _, rfl, ite_any (fun _ => ?_) (fun _ => ?_)⟩
        · refine ⟨_, rfl, _, hE, by rw [List.length_map]; exact small1000 (by omega), L ++ [(t, q0)], ?_, by rw [upd_same, List.map_append]; rfl, by rw [List.length_append]; exact Nat.succ_le_succ fl, ?_⟩
          · intro b o nb eb
            rw [upd_ne (fun z => nb (by rw [z]; simp))]
            exact k3 b o nb eb
          · intro r hr'
            rcases List.mem_append.mp hr' with hr' | hr'
            · exact all r hr'
            · rw [List.mem_singleton.mp hr']
              exact pt2
        · exact ⟨L, k3, hE, by omega, all⟩
      · rintro H3 ⟨L, k3, hE, fl, all⟩
        refine ⟨Nat.zero_le _, fun g hg => ?_⟩
        have s4 : Same H3 (upd H3 g (.lst [])) := same_upd hg
        have hD3 := keep2 k3 _ _ hD
        have kd : Kp [d] H1 (upd H3 g (.lst [])) := fun b o nb eb => s4 _ _ (keep2 k3 _ _ (k2 b o nb eb))
        refine ⟨.list (L.map fun r => encP r.2), .list [], .lst (.inl (.inl (s4 _ _ hE))) (dpAll_pairs L fun r hr' => Same.sqT ((keep2 k3).trans s4) (all r hr')), .lst (.inl (.inl upd_same)) .nil, by have z := pairs_shaped (L.map (·.2)); rw [List.map_map] at z; exact z, rfl, _, rfl, ite_any (fun _ => ?_) (fun _ => ?_)⟩
        · refine ⟨_, rfl, _, s4 _ _ hD3, by rw [List.length_map]; exact small1000 (by have := hF.len; omega), F ++ [i], ?_, by rw [upd_same, List.map_append]; rfl, hF.more⟩
          intro b o nb eb
          rw [upd_ne (fun z => nb (by rw [z]; simp))]
          exact kd b o nb eb
        · exact ⟨F, kd, s4 _ _ hD3, hF.wider⟩
    rintro H2 ⟨F, k2, hD, hF⟩
    refine ⟨by show 2 ≤ sizeLine; decide, fun tp htp => ?_⟩
    have hD' : (upd H2 tp (.tup [vN way, .ref d])) d = some (.lst (F.map vN)) := (same_upd htp) _ _ hD
    refine ⟨tp, _, rfl, .inl (.inl upd_same), rfl, _, _, rfl, _, _, rfl, rfl, ?_⟩
    have s3 : Same H1 (upd H2 tp (.tup [vN way, .ref d])) := (keep k2).trans (same_upd htp)
    generalize upd H2 tp (.tup [vN way, .ref d]) = H3 at s3 hD'
    have hP3 := hP1.same s3
    have k3 : Kp [p, l] H H3 := k1.trans (Same.kp s3)
    have dpl : d ∉ [p, l] := hP1.free hd
    have hd0 : H d = none := kp_free k1 dpl hd
    refine ⟨_, rfl, _, _, rfl, rfl, _, rfl, ite_any (fun _ => ?_) (fun hw4 => ?_)⟩
    · refine ⟨_, rfl, _, rfl, _, rfl, by omega, by omega, fun e he => ?_⟩
      have hde : d ≠ e := ne_of_none hD' he
      have epl : e ∉ [p, l] := hP3.free he
      refine lc_range (lo := 0) (n := n) (fun i H' => ∃ G : List Nat, Kp [p, l, e] H3 H' ∧ H' e = some (.lst (G.map vN)) ∧ PoolAt H' p l ∧ Upto G i ∧ ∀ x ∈ G, x ∉ F)
        ⟨[], (fun b o x e' => by rw [upd_ne (ne_of_none e' he)]; exact e'), upd_same, hP3.same (same_upd he), Upto.nil 0, fun _ h => nomatch h⟩ ?_ ?_
      · rintro i H4 hi ⟨G, k4, hE, hP4, hG, off⟩
        have e0 : (0 : Int) + (i : Nat) = (i : Nat) := by omega
        have hD4 : H4 d = some (.lst (F.map vN)) := k4 _ _ (by simp only [List.mem_cons, List.not_mem_nil, or_false] at dpl ⊢; simp [dpl, hde]) hD'
        refine ⟨rfl, ?_⟩
        rw [e0]
        refine ⟨_, rfl, _, rfl, d, _, rfl, .inl (.inl (.inl hD4)), rfl, all_vN F, _, rfl, ite_any (fun hn => ?_) (fun _ => ?_)⟩
        · have hn' : i ∉ F := by
            have hn2 : (!inV (vN i) (F.map vN)) = true := hn
            rw [in_vN] at hn2
            simpa using hn2
          refine ⟨_, rfl, _, _, rfl, rfl, _, rfl, ite_any (fun _ => ?_) (fun _ => ?_)⟩
          · refine ⟨_, rfl, p, l, 6, rfl, hP4, by decide, by decide, fun r H5 hr5 hP5 k5 => ?_⟩
            have k45 : Kp [p, l, e] H3 H5 := fun b o nb eb => k5 _ _ (fun m => nb (by simp only [List.mem_cons, List.not_mem_nil, or_false] at m ⊢; rcases m with m | m <;> simp [m])) (k4 b o nb eb)
            have hE5 := k5 _ _ epl hE
            refine ⟨rfl, _, rfl, ite_any (fun _ => ?_) (fun _ => ?_)⟩
            · refine ⟨_, rfl, _, hE5, by rw [List.length_map]; exact small1000 (by have := hG.len; omega), G ++ [i], ?_, by rw [upd_same, List.map_append]; rfl, ?_, hG.more, ?_⟩
              · intro b o nb eb
                rw [upd_ne (fun z => nb (by rw [z]; simp))]
                exact k45 b o nb eb
              · exact hP5.set epl
              · intro x hx
                rcases List.mem_append.mp hx with hx | hx
                · exact off x hx
                · rw [List.mem_singleton.mp hx]
                  exact hn'
            · exact ⟨G, k45, hE5, hP5, hG.wider, off⟩
          · exact ⟨G, k4, hE, hP4, hG.wider, off⟩
        · exact ⟨G, k4, hE, hP4, hG.wider, off⟩
      · rintro H4 ⟨G, k4, hE, hP4, hG, off⟩
        have hD4 : H4 d = some (.lst (F.map vN)) := k4 _ _ (by simp only [List.mem_cons, List.not_mem_nil, or_false] at dpl ⊢; simp [dpl, hde]) hD'
        refine ⟨d, e, _, _, rfl, rfl, hD4, hE, ?_, fun z hz => ?_⟩
        · rw [List.length_map, List.length_map]
          have h1 := hF.len
          have h2 := hG.len
          show F.length + G.length ≤ sizeLine
          have h3 : (1000 : Nat) ≤ sizeLine := by decide
          omega
        · have s5 : Same H4 (upd H4 z (.lst (F.map vN ++ G.map vN))) := same_upd hz
          have k34 : Kp [p, l] H H4 := kp_made k3 he k4
          refine q z (F ++ G) _ ?_ ?_ (kp_free k34 (hP4.free hz) hz) (by rw [upd_same, List.map_append]) (hP4.same s5) (k34.trans (Same.kp s5))
          · rw [List.nodup_append]
            exact ⟨up_nodup hF.up, up_nodup hG.up, fun x hx y hy z => off y hy (z ▸ hx)⟩
          · intro x hx
            rcases List.mem_append.mp hx with hx | hx
            · exact hF.lt x hx
            · exact hG.lt x hx
    · have hw4' := of_decide_eq_false hw4
      refine ⟨_, rfl, _, _, rfl, rfl, _, rfl, ite_any (fun hw => ?_) (fun _ => ?_)⟩
      · refine ⟨_, rfl, _, rfl, by omega, by omega, fun e he => ?_⟩
        have epl : e ∉ [p, l] := hP3.free he
        refine lc_range (lo := 0) (n := n) (fun i H' => ∃ G : List Nat, Kp [p, l, e] H3 H' ∧ H' e = some (.lst (G.map vN)) ∧ PoolAt H' p l ∧ Upto G i)
          ⟨[], (fun b o x e' => by rw [upd_ne (ne_of_none e' he)]; exact e'), upd_same, hP3.same (same_upd he), Upto.nil 0⟩ ?_ ?_
        · rintro i H4 hi ⟨G, k4, hE, hP4, hG⟩
          have e0 : (0 : Int) + (i : Nat) = (i : Nat) := by omega
          refine ⟨rfl, ?_⟩
          rw [e0]
          refine ⟨_, rfl, _, rfl, _, _, rfl, rfl, p, l, way - 2, ?_, hP4, by omega, by omega, fun r H5 hr5 hP5 k5 => ?_⟩
          · have : ((way : Nat) : Int) - 2 = ((way - 2 : Nat) : Int) := by omega
            show [V.ref p, V.int ((way : Nat) - 2)] = [V.ref p, V.int ((way - 2 : Nat) : Int)]
            rw [this]
          have k45 : Kp [p, l, e] H3 H5 := fun b o nb eb => k5 _ _ (fun m => nb (by simp only [List.mem_cons, List.not_mem_nil, or_false] at m ⊢; rcases m with m | m <;> simp [m])) (k4 b o nb eb)
          have hE5 := k5 _ _ epl hE
          refine ⟨rfl, _, rfl, ite_any (fun _ => ?_) (fun _ => ?_)⟩
          · refine ⟨_, rfl, _, hE5, by rw [List.length_map]; exact small1000 (by have := hG.len; omega), G ++ [i], ?_, by rw [upd_same, List.map_append]; rfl, hP5.set epl, hG.more⟩
            intro b o nb eb
            rw [upd_ne (fun z => nb (by rw [z]; simp))]
            exact k45 b o nb eb
          · exact ⟨G, k45, hE5, hP5, hG.wider⟩
        · rintro H4 ⟨G, k4, hE, hP4, hG⟩
          have k34 : Kp [p, l] H H4 := kp_made k3 he k4
          exact q e G _ (up_nodup hG.up) hG.lt (kp_free k3 epl he) hE hP4 k34
      · refine ⟨_, rfl, p, l, 3, rfl, hP3, by decide, by decide, fun r H4 hr4 hP4 k4 => ?_⟩
        refine ⟨_, _, rfl, rfl, _, rfl, ite_any (fun _ => ?_) (fun _ => ?_)⟩
        · refine ⟨Nat.zero_le _, fun e he => ?_⟩
          have epl : e ∉ [p, l] := hP4.free he
          exact q e [] _ .nil (fun _ h => nomatch h) (kp_free (k3.trans k4) epl he) upd_same (hP4.set epl) ((k3.trans k4).trans (Same.kp (same_upd he)))
        · refine ⟨_, rfl, _, rfl, .of_le (by omega) (by omega) (by omega) (by omega), fun e he => ?_⟩
          have epl : e ∉ [p, l] := hP4.free he
          exact q e (List.range n) _ (up_nodup (range_up n)) (fun _ h => List.mem_range.mp h) (kp_free (k3.trans k4) epl he) (by rw [upd_same, rgV_nat]) (hP4.set epl) ((k3.trans k4).trans (Same.kp (same_upd he)))
end
end Ft

set_option Elab.async false
set_option linter.all false
set_option maxRecDepth 100000
set_option maxHeartbeats 8000000
namespace Ft
open PySem PySem.Spec PyProof.Rows L2
/-- pairs as fresh tuples -/
def TupsAt (H : Hp) (L : List (Addr × (Nat × Nat))) : Prop := ∀ r ∈ L, H r.1 = some (.tup [vN r.2.1, vN r.2.2])
theorem TupsAt.keep {ex : List Addr} {H H' : Hp} (k : Kp ex H H') (l : Lists ex H) {L : List (Addr × (Nat × Nat))} (h : TupsAt H L) : TupsAt H' L := fun r hr => by
  refine k _ _ (fun m => ?_) (h r hr)
  obtain ⟨o, e, n, _⟩ := l _ m
  rw [h r hr] at e
  exact n _ (Option.some.inj e).symm
theorem TupsAt.same {H H' : Hp} (k : Same H H') {L : List (Addr × (Nat × Nat))} (h : TupsAt H L) : TupsAt H' L := fun r hr => k _ _ (h r hr)
theorem TupsAt.set {H : Hp} {d : Addr} {xs : List V} {o : HO} (hd : H d = some (.lst xs)) {L : List (Addr × (Nat × Nat))} (h : TupsAt H L) : TupsAt (upd H d o) L := fun r hr => by
  have := h r hr
  rw [upd_ne (fun z => by rw [z, hd] at this; cases this)]
  exact this
theorem TupsAt.add {H : Hp} {t : Addr} {p : Nat × Nat} {L : List (Addr × (Nat × Nat))} (h : TupsAt H L) (ht : H t = some (.tup [vN p.1, vN p.2])) : TupsAt H (L ++ [(t, p)]) := fun r hr => by
  rcases List.mem_append.mp hr with hr | hr
  · exact h r hr
  · rw [List.mem_singleton.mp hr]
    exact ht
theorem TupsAt.pairs {K : PySem.W.Frag} {H : Hp} : ∀ {L : List (Addr × (Nat × Nat))}, TupsAt H L → PairsAt K H (L.map (·.1)) (L.map (·.2))
  | [], _ => .nil
  | r :: L, h => .cons (.inl (.inl (h r List.mem_cons_self))) (TupsAt.pairs fun q hq => h q (List.mem_cons_of_mem _ hq))
theorem TupsAt.not {H : Hp} {d : Addr} {xs : List V} (hd : H d = some (.lst xs)) {L : List (Addr × (Nat × Nat))} (h : TupsAt H L) : ∀ r ∈ L, r.1 ≠ d := fun r hr z => by
  have := h r hr
  rw [z, hd] at this
  cases this
theorem Named.few {n : Nat} {prs : List (Nat × Nat)} {ws perm : List Nat} {C : Chart} (h : Named n prs ws perm C) : C.roads.length ≤ prs.length := by
  have nd : C.roads.Nodup := h.ok.upR.imp fun {a b} hab (e : a = b) => by
    subst e
    unfold ltP at hab
    omega
  have h1 := nodup_sub_len C.roads (prs.map fun q => (nm perm q.1, nm perm q.2)) nd fun q hq => by
    obtain ⟨a, b, hab, e1, e2⟩ := (h.roads q.1 q.2).mp hq
    exact List.mem_map.mpr ⟨(a, b), hab, Prod.ext e1.symm e2.symm⟩
  rwa [List.length_map] at h1
theorem floor_nat (i z : Nat) : (i : Int) / (1 + (z : Int)) * (1 + (z : Int)) = ((i / (1 + z) * (1 + z) : Nat) : Int) := by
  push_cast
  rfl
section
variable {P : Program} {w : World} {K : PySem.W.Frag} {mg : Str → Option Value} {base : Heap} {t1 t2 : Tok}
/-! ### _law_map_drawn -/
def sp_law_map_drawn (K : PySem.W.Frag) : Sp := fun vs H Q _ => ∃ (p l : Addr) (most : Nat), vs = [.ref p, vN most] ∧ PoolAt H p l ∧ most ≤ 20 ∧ ∀ (c : Addr) (C : Chart) (H' : Hp), IsChart K H' c C → C.Ok → C.n ≤ most → PoolAt H' p l → Kp [p, l] H H' → Q (.ref c) H'
theorem cal_law_map_drawn (T : Txt mg) (D : Def K mg "_law_map_drawn" s_law_map_drawn) (c_law_draw : Cal P w K mg base 2 "_law_draw" sp_law_draw) (c_law_map_named : Cal P w K mg base 4 "_law_map_named" (sp_law_map_named K))
    (c_law_map_some_wished : Cal P w K mg base 3 "_law_map_some_wished" (sp_law_map_some_wished K)) : Cal P w K mg base 5 "_law_map_drawn" (sp_law_map_drawn K) := by
  refine cal_of D sc_law_map_drawn (fun _ _ _ _ _ _ us hl => match us, hl with | [_, _], _ => rfl) (fun vs H Q E h => ?_) (fun f cdv A outer s H vs Q E hr h => ?_)
  · obtain ⟨p, l, most, rfl, _⟩ := h
    rfl
  · obtain ⟨p, l, most, rfl, hP, m20, q⟩ := h
    have hU := hr.units
    refine ⟨_, (pss_cons (ps_set (i := 2) sc_law_map_drawn.nd rfl (Or.inr rfl) (pe_c c_law_draw hr (by decide) (by rfl) (pa_cons (pv 0) (pa_cons (pe_op op_add (pv 1) pe_int) pa_nil))))
      (pss_cons (ps_if (pt_cmpR op_eq (pv 2) pe_int (nomark _)) (pss_one (ps_ret (pe_tup (pa_cons pe_int (pa_cons (pe_tup pa_nil) (pa_cons (pe_tup pa_nil) pa_nil)))))) pss_nil)
      (pss_cons (ps_par (i := 3) (j := 4) (by rfl) sc_law_map_drawn.nd rfl rfl (by decide) rfl rfl (pa_cons (pe_c c_law_draw hr (by decide) (by rfl) (pa_cons (pv 0) (pa_cons pe_int pa_nil))) (pa_cons (pe_lst pa_nil) pa_nil)) (by rfl))
      (pss_cons (ps_for PassesOwn.never rfl (pi_range1 (by rfl) T.range (pa_cons (pe_c c_law_draw hr (by decide) (by rfl) (pa_cons (pv 0) (pa_cons (pe_op op_add (pe_op op_mul pe_int (pv 2)) pe_int) pa_nil))) pa_nil)) (pg_name (i := 5) sc_law_map_drawn.nd rfl (Or.inl rfl)) (pss_cons (ps_par (i := 6) (j := 7) (by rfl) sc_law_map_drawn.nd rfl rfl (by decide) rfl rfl (pa_cons (pe_c c_law_draw hr (by decide) (by rfl) (pa_cons (pv 0) (pa_cons (pv 2) pa_nil))) (pa_cons (pe_c c_law_draw hr (by decide) (by rfl) (pa_cons (pv 0) (pa_cons (pv 2) pa_nil))) pa_nil)) (by rfl))
        (pss_cons (ps_set (i := 8) sc_law_map_drawn.nd rfl (Or.inl rfl) (pe_mid (pe_or (pe_cmpR op_eq (pv 3) pe_int (nomark _)) (pe_one (pe_and (pe_cmpR op_gt (pv 3) pe_int (nomark _)) (pe_one (pe_cmpR op_gt (pe_c c_law_draw hr (by decide) (by rfl) (pa_cons (pv 0) (pa_cons pe_int pa_nil))) pe_int (nomark _))))))))
        (pss_one (ps_expr (pe_bm PySem.F.plainAttrs_list PySem.F.slot_list_append PySem.F.type_list_append mt_append (pv 4) (pa_cons (pe_mid (pe_ifExp (pt_truth (pv 8) (by intro _; rfl)) (pe_tup (pa_cons (pe_callB (call_min2 rfl) (by rfl) T.min (by decide +kernel) (pa_cons (pv 6) (pa_cons (pv 7) pa_nil))) (pa_cons (pe_callB (call_max2 rfl) (by rfl) T.max (by decide +kernel) (pa_cons (pv 6) (pa_cons (pv 7) pa_nil))) pa_nil))) (pe_tup (pa_cons (pv 6) (pa_cons (pv 7) pa_nil))))) pa_nil)))))))
      (ps_cut (ps_if (pt_cmpR op_eq (pv 3) pe_int (nomark _)) (pss_cons (ps_set (i := 9) sc_law_map_drawn.nd rfl (Or.inr rfl) (pe_op op_add pe_int (pe_c c_law_draw hr (by decide) (by rfl) (pa_cons (pv 0) (pa_cons pe_int pa_nil)))))
        (pss_one (ps_set (i := 4) sc_law_map_drawn.nd rfl (Or.inl rfl) (pe_op op_cat (pv 4) (pe_lc (own := [("a", 6)]) rfl sc_law_map_drawn.nd (pi_range1 (by rfl) T.range (pa_cons (pe_op op_sub (pv 2) pe_int) pa_nil)) (blkOk_by (N := ["pool", "most", "places", "way", "roads", "turn", "a", "b", "ahead", "size"]) (sc := L2.defScope s_law_map_drawn) (by decide +kernel)) (fun _ _ _ _ _ => (pg_name (i := 6) sc_law_map_drawn.nd rfl (Or.inl rfl))) (fun _ _ _ _ _ => pts_nil) (fun _ _ _ _ _ => (pe_tup (pa_cons (pv 6) (pa_cons (pe_mid (pe_ifExp (PW.pt (pw_and (pt_cmpR op_gt (pe_op op_mod (pe_callTy call_int1 (by rfl) T.int (by decide +kernel) (pa_cons (pe_op op_add (pv 6) pe_int) pa_nil)) (pv 9)) pe_int (nomark _)) (pw_and1 (pt_cmpR op_lt (pe_op op_add (pv 6) pe_int) (pv 2) (nomark _))))) (pe_op op_add (pv 6) pe_int) (pe_op op_mul (pe_op op_fdiv (pv 6) (pv 9)) (pv 9)))) pa_nil))))))))) pss_nil)
      (pss_one (ps_ret (pe_ix (show IxR _ (rIxL K) from ix_list) (pe_c c_law_map_named hr (by decide) (by rfl) (pa_cons (pv 0) (pa_cons (pv 2) (pa_cons (pv 4) (pa_cons (pe_c c_law_map_some_wished hr (by decide) (by rfl) (pa_cons (pv 0) (pa_cons (pv 2) (pa_cons (pv 4) pa_nil)))) pa_nil))))) pe_int (fun _ _ => rfl))))))))), ?_⟩
    refine ⟨_, rfl, _, rfl, _, _, rfl, rfl, p, l, most + 1, rfl, hP, by omega, by omega, fun n H1 hn hP1 k1 => ?_⟩
    refine ⟨_, rfl, rfl, _, rfl, ite_any (fun h0 => ?_) (fun h0 => ?_)⟩
    · have hn0 : n = 0 := by
        have := of_decide_eq_true h0
        unfold vN at this
        have := V.int.inj this
        omega
      refine ⟨Nat.zero_le _, fun r1 h1 => ?_⟩
      have s1 : Same H1 (upd H1 r1 (.tup [])) := same_upd h1
      have hT1 : (upd H1 r1 (.tup [])) r1 = some (.tup []) := upd_same
      generalize upd H1 r1 (.tup []) = H2 at s1 hT1
      refine ⟨Nat.zero_le _, fun r2 h2 => ?_⟩
      have s2 : Same H2 (upd H2 r2 (.tup [])) := same_upd h2
      have hT2 : (upd H2 r2 (.tup [])) r2 = some (.tup []) := upd_same
      generalize upd H2 r2 (.tup []) = H3 at s2 hT2
      refine ⟨by show 3 ≤ sizeLine; decide, fun c hc => ?_⟩
      have s3 : Same H3 (upd H3 c (.tup [.int 0, .ref r1, .ref r2])) := same_upd hc
      have s13 := (s1.trans s2).trans s3
      refine q c ⟨0, [], []⟩ _ ⟨r1, r2, [], .inl (.inl upd_same), .inl (.inl (s3 _ _ (s2 _ _ hT1))), .nil, .inl (.inl (s3 _ _ hT2))⟩ ⟨by decide, by decide, (fun _ h => nomatch h), .nil, (fun _ h => nomatch h), .nil⟩ (Nat.zero_le _) (hP1.same s13) (k1.trans (Same.kp s13))
    have hn0 : 0 < n := by
      have := of_decide_eq_false h0
      unfold vN at this
      rcases Nat.eq_zero_or_pos n with e | e
      · exact absurd (by rw [e]; rfl) this
      · exact e
    refine ⟨_, rfl, p, l, 4, rfl, hP1, by decide, by decide, fun way H2 hway hP2 k2 => ?_⟩
    refine ⟨Nat.zero_le _, fun d hd => ?_⟩
    have s3 : Same H2 (upd H2 d (.lst [])) := same_upd hd
    have hD3 : (upd H2 d (.lst [])) d = some (.lst []) := upd_same
    have dpl : d ∉ [p, l] := hP2.free hd
    have hP3 := hP2.same s3
    have k3 : Kp [p, l] H (upd H2 d (.lst [])) := (k1.trans k2).trans (Same.kp s3)
    have hd0 : H d = none := kp_free (k1.trans k2) dpl hd
    generalize upd H2 d (.lst []) = H3 at s3 hD3 hP3 k3
    refine ⟨_, _, rfl, ?_⟩
    refine ⟨_, rfl, _, rfl, _, _, rfl, rfl, .inl ⟨by decide, by decide⟩, _, _, rfl, rfl, p, l, 2 * n + 2, rfl, hP3, by omega, by omega, fun m H4 hm hP4 k4 => ?_⟩
    have hD4 := k4 _ _ dpl hD3
    have kset : ∀ {H' : Hp} {o : HO}, Kp [p, l] H H' → Kp [p, l] H (upd H' d o) := fun {H' o} k b x nb e => by
      rw [upd_ne (ne_of_none e hd0)]
      exact k b x nb e
    refine ⟨_, rfl, by omega, by omega, for_range (lo := 0) (n := m) (fun i σ H' => ∃ (L : List (Addr × (Nat × Nat))) (v5 v6 v7 v8 : Option V), σ = [some (.ref p), some (vN most), some (vN n), some (vN way), some (.ref d), v5, v6, v7, v8, none] ∧ PoolAt H' p l ∧ Kp [p, l] H H' ∧ H' d = some (.lst (L.map fun r => V.ref r.1)) ∧ TupsAt H' L ∧ (∀ r ∈ L, r.2.1 < n ∧ r.2.2 < n) ∧ L.length = i)
      ⟨[], _, _, _, _, rfl, hP4, k3.trans k4, hD4, (fun _ h => nomatch h), (fun _ h => nomatch h), rfl⟩ ?_ ?_⟩
    · rintro i σ H5 hi ⟨L, v5, v6, v7, v8, rfl, hP5, k5, hD5, hL5, inL, eL⟩
      refine ⟨_, rfl, _, rfl, p, l, n, rfl, hP5, by omega, by omega, fun a H6 ha hP6 k6 => ?_⟩
      refine ⟨_, rfl, _, rfl, p, l, n, rfl, hP6, by omega, by omega, fun b H7 hb hP7 k7 => ?_⟩
      refine ⟨_, _, rfl, ?_⟩
      have k67 := k6.trans k7
      have hD7 := k67 _ _ dpl hD5
      have hL7 : TupsAt H7 L := hL5.keep k67 hP5.lists
      refine ⟨fun v H' => ∃ c : Bool, v = .bl c ∧ PoolAt H' p l ∧ Kp [p, l] H7 H', ⟨_, rfl, rfl, _, rfl, ite_any (fun _ => ⟨_, rfl, hP7, Kp.refl _ _⟩) (fun _ => ⟨_, rfl, _, _, rfl, rfl, _, rfl, ite_any (fun _ => ?_) (fun _ => ⟨_, rfl, hP7, Kp.refl _ _⟩)⟩)⟩, ?_⟩
      · exact ⟨_, rfl, p, l, 5, rfl, hP7, by decide, by decide, fun r H8 hr8 hP8 k8 => ⟨_, _, rfl, rfl, _, rfl, hP8, k8⟩⟩
      rintro v H8 ⟨c, rfl, hP8, k8⟩
      have hD8 := k8 _ _ dpl hD7
      have hL8 : TupsAt H8 L := hL7.keep k8 hP7.lists
      refine ⟨_, rfl, .inl ⟨rfl, _, .inl (.inl hD8)⟩, ?_⟩
      refine ⟨fun v H' => ∃ (t : Addr) (x y : Nat), v = .ref t ∧ H8 t = none ∧ H' = upd H8 t (.tup [vN x, vN y]) ∧ x < n ∧ y < n, ⟨_, rfl, _, rfl, ite_any (fun _ => ?_) (fun _ => ?_)⟩, ?_⟩
      · refine ⟨_, rfl, _, rfl, _, _, rfl, _, rfl, _, rfl, _, _, rfl, by show 2 ≤ sizeLine; decide, fun t ht => ?_⟩
        have e1 : V.int (if (b : Int) < (a : Int) then (b : Int) else (a : Int)) = vN (if b < a then b else a) := by
          by_cases h : b < a
          · rw [if_pos h, if_pos (by omega)]
            rfl
          · rw [if_neg h, if_neg (by omega)]
            rfl
        have e2 : V.int (if (a : Int) < (b : Int) then (b : Int) else (a : Int)) = vN (if a < b then b else a) := by
          by_cases h : a < b
          · rw [if_pos h, if_pos (by omega)]
            rfl
          · rw [if_neg h, if_neg (by omega)]
            rfl
        refine ⟨t, (if b < a then b else a), (if a < b then b else a), rfl, ht, by rw [← e1, ← e2], ?_, ?_⟩
        · by_cases h : b < a
          · rw [if_pos h]; exact hb
          · rw [if_neg h]; exact ha
        · by_cases h : a < b
          · rw [if_pos h]; exact hb
          · rw [if_neg h]; exact ha
      · exact ⟨_, rfl, _, rfl, by show 2 ≤ sizeLine; decide, fun t ht => ⟨t, a, b, rfl, ht, rfl, ha, hb⟩⟩
      rintro v H9 ⟨t, x, y, rfl, ht, rfl, hx, hy⟩
      have s9 : Same H8 (upd H8 t (.tup [vN x, vN y])) := same_upd ht
      have hT9 : (upd H8 t (.tup [vN x, vN y])) t = some (.tup [vN x, vN y]) := upd_same
      have hD9 := s9 _ _ hD8
      refine ⟨d, _, _, rfl, rfl, hD9, by rw [List.length_map]; exact small1000 (by omega), L ++ [(t, (x, y))], _, _, _, _, rfl, (hP8.same s9).set dpl, kset ((k5.trans (k67.trans k8)).trans (Same.kp s9)), by rw [upd_same, List.map_append]; rfl, ((hL8.same s9).add hT9).set hD9, ?_, by rw [List.length_append, eL]; rfl⟩
      intro r hr'
      rcases List.mem_append.mp hr' with hr' | hr'
      · exact inL r hr'
      · rw [List.mem_singleton.mp hr']
        exact ⟨hx, hy⟩
    rintro σ H5 ⟨L, v5, v6, v7, v8, rfl, hP5, k5, hD5, hL5, inL, eL⟩
    refine ⟨fun σ' H' => ∃ (ro : Addr) (L' : List (Addr × (Nat × Nat))) (v5 v6 v7 v8 v9 : Option V), σ' = [some (.ref p), some (vN most), some (vN n), some (vN way), some (.ref ro), v5, v6, v7, v8, v9] ∧ PoolAt H' p l ∧ Kp [p, l] H H' ∧ ro ∉ [p, l] ∧ H' ro = some (.lst (L'.map fun r => V.ref r.1)) ∧ TupsAt H' L' ∧ (∀ r ∈ L', r.2.1 < n ∧ r.2.2 < n) ∧ L'.length < 64, ?_, ?_⟩
    · refine ⟨_, rfl, rfl, _, rfl, ite_any (fun _ => ?_) (fun _ => ?_)⟩
      · refine ⟨_, rfl, p, l, 3, rfl, hP5, by decide, by decide, fun z H6 hz hP6 k6 => ?_⟩
        have hD6 := k6 _ _ dpl hD5
        have hL6 : TupsAt H6 L := hL5.keep k6 hP5.lists
        refine ⟨_, _, rfl, rfl, ?_⟩
        refine ⟨_, rfl, _, rfl, _, _, rfl, rfl, _, rfl, by omega, by omega, fun e he => ?_⟩
        have epl : e ∉ [p, l] := hP6.free he
        have hde : d ≠ e := ne_of_none hD6 he
        refine lc_range (lo := 0) (n := ((n : Int) - 1).toNat) (fun i H' => ∃ M : List (Addr × (Nat × Nat)), Kp [e] H6 H' ∧ H' e = some (.lst (M.map fun r => V.ref r.1)) ∧ TupsAt H' M ∧ (∀ r ∈ M, r.2.1 < n ∧ r.2.2 < n) ∧ M.length ≤ i)
          ⟨[], (fun b o x e' => by rw [upd_ne (ne_of_none e' he)]; exact e'), upd_same, (fun _ h => nomatch h), (fun _ h => nomatch h), Nat.zero_le _⟩ ?_ ?_
        · rintro i H7 hi ⟨M, k7, hE, hM, inM, eM⟩
          have e0 : (0 : Int) + (i : Nat) = (i : Nat) := by omega
          refine ⟨rfl, ?_⟩
          rw [e0]
          refine ⟨_, rfl, fun v H' => ∃ x : Nat, x < n ∧ v = vN x ∧ H' = H7, ?_, ?_⟩
          · have fl : ∃ x : Nat, x < n ∧ V.int ((i : Int) / (1 + (z : Int)) * (1 + (z : Int))) = vN x ∧ H7 = H7 := by
              refine ⟨i / (1 + z) * (1 + z), ?_, congrArg V.int (floor_nat i z), rfl⟩
              have := Nat.div_mul_le_self i (1 + z)
              omega
            have z1 : (0 : Int) < 1 + (z : Int) := by omega
            have z2 : (1 : Int) + (z : Int) < 1073741824 := by omega
            have z3 : -2 ^ 64 < (1 : Int) + (z : Int) := by omega
            have z4 : (1 : Int) + (z : Int) < 2 ^ 64 := by omega
            refine ⟨_, rfl, _, _, rfl, rfl, .inl ⟨_, rfl, _, rfl, _, _, rfl, rfl, z1, _, _, rfl, rfl, _, rfl, ite_any (fun _ => ?_) (fun _ => ?_)⟩⟩
            · refine ⟨_, rfl, _, _, rfl, rfl, _, rfl, _, _, rfl, rfl, _, rfl, ite_any (fun hx => ?_) (fun _ => ?_)⟩
              · have hx' := of_decide_eq_true hx
                exact ⟨_, rfl, _, _, rfl, rfl, i + 1, by omega, rfl, rfl⟩
              · exact ⟨_, rfl, _, rfl, _, _, rfl, rfl, ⟨z1, z2⟩, _, rfl, _, _, rfl, rfl, .inr ⟨z3, z4⟩, fl⟩
            · exact ⟨_, rfl, _, rfl, _, _, rfl, rfl, ⟨z1, z2⟩, _, rfl, _, _, rfl, rfl, .inr ⟨z3, z4⟩, fl⟩
          rintro v H8 ⟨x, hx, rfl, rfl⟩
          refine ⟨by show 2 ≤ sizeLine; decide, fun t ht => ?_⟩
          have s9 : Same H8 (upd H8 t (.tup [vN i, vN x])) := same_upd ht
          have hT9 : (upd H8 t (.tup [vN i, vN x])) t = some (.tup [vN i, vN x]) := upd_same
          have hE9 := s9 _ _ hE
          refine ⟨_, hE9, by rw [List.length_map]; exact small1000 (by omega), M ++ [(t, (i, x))], ?_, by rw [upd_same, List.map_append]; rfl, ((hM.same s9).add hT9).set hE9, ?_, by rw [List.length_append]; exact Nat.succ_le_succ eM⟩
          · intro b o nb eb
            rw [upd_ne (fun z => nb (by rw [z]; simp))]
            exact s9 _ _ (k7 b o nb eb)
          · intro r hr'
            rcases List.mem_append.mp hr' with hr' | hr'
            · exact inM r hr'
            · rw [List.mem_singleton.mp hr']
              exact ⟨by show i < n; omega, hx⟩
        · rintro H7 ⟨M, k7, hE, hM, inM, eM⟩
          have s7 : Same H6 H7 := fun b o eb => k7 b o (fun m => by rw [List.mem_singleton.mp m, he] at eb; cases eb) eb
          have hP7 := hP6.same s7
          refine ⟨d, e, _, _, rfl, rfl, s7 _ _ hD6, hE, ?_, fun ro hro => ?_⟩
          · rw [List.length_map, List.length_map]
            have h3 : (1000 : Nat) ≤ sizeLine := by decide
            omega
          · have s8 : Same H7 (upd H7 ro (.lst ((L.map fun r => V.ref r.1) ++ M.map fun r => V.ref r.1))) := same_upd hro
            refine ⟨ro, L ++ M, _, _, _, _, _, rfl, hP7.same s8, (k5.trans k6).trans (Same.kp (s7.trans s8)), hP7.free hro, by rw [upd_same, List.map_append], ?_, ?_, by rw [List.length_append]; omega⟩
            · intro r hr'
              rcases List.mem_append.mp hr' with hr' | hr'
              · exact (hL6.same (s7.trans s8)) r hr'
              · exact (hM.same s8) r hr'
            · intro r hr'
              rcases List.mem_append.mp hr' with hr' | hr'
              · exact inL r hr'
              · exact inM r hr'
      · exact ⟨d, L, _, _, _, _, _, rfl, hP5, k5, dpl, hD5, hL5, inL, by omega⟩
    · rintro σ' H6 ⟨ro, L', v5, v6, v7, v8, v9, rfl, hP6, k6, rpl, hRo, hL', inL', few⟩
      have ePr : (L'.map fun r => V.ref r.1) = (L'.map (·.1)).map V.ref := by rw [List.map_map]; rfl
      rw [ePr] at hRo
      have len : (L'.map (·.2)).length < 64 := by rw [List.length_map]; exact few
      refine ⟨_, rfl, _, rfl, _, rfl, _, rfl, _, rfl, _, rfl, p, l, ro, n, L'.map (·.1), L'.map (·.2), rfl, hP6, by omega, hRo, rpl, hL'.pairs, len, fun wi ws H7 nd ltw hw0 hW hP7 k7 => ?_⟩
      have hRo7 := k7 _ _ rpl hRo
      refine ⟨p, l, ro, wi, n, L'.map (·.1), L'.map (·.2), ws, rfl, hP7, by omega, hRo7, rpl, hL'.pairs.keep k7 hP6.lists, len, ?_, hW, hP6.free hw0, ?_, ltw, fun q' c na perm C H8 pm _ _ hQ hC _ nmd hP8 k8 => ?_⟩
      · intro r hr'
        obtain ⟨z, hz, rfl⟩ := List.mem_map.mp hr'
        exact inL' z hz
      · have := nodup_lt_len nd ltw
        omega
      · refine ⟨q', _, _, _, rfl, rfl, .inl (.inl hQ), rfl, ?_⟩
        exact q c C H8 hC nmd.ok (by rw [nmd.n]; omega) hP8 ((k6.trans k7).trans k8)
end
end Ft

set_option linter.all false
namespace Ft
theorem take_flat {α β : Type} {f : α → List β} {l : List α} {i : Nat} {x : α} (h : l[i]? = some x) : (l.take (i + 1)).flatMap f = (l.take i).flatMap f ++ f x := by
  rw [List.take_add_one, h, Option.toList_some, List.flatMap_append, List.flatMap_cons, List.flatMap_nil, List.append_nil]
theorem take_filter {α : Type} {f : α → Bool} {l : List α} {i : Nat} {x : α} (h : l[i]? = some x) : (l.take (i + 1)).filter f = (l.take i).filter f ++ (if f x = true then [x] else []) := by
  rw [List.take_add_one, h, Option.toList_some, List.filter_append, List.filter_cons, List.filter_nil]
theorem natZ {l : List Int} (h : ∀ x ∈ l, 0 ≤ x) : ∃ m, l = iN m := by
  refine ⟨l.map Int.toNat, ?_⟩
  unfold iN
  rw [List.map_map]
  conv => lhs; rw [← List.map_id l]
  exact List.map_congr_left fun x hx => (Int.toNat_of_nonneg (h x hx)).symm
end Ft

set_option Elab.async false
set_option linter.all false
set_option maxRecDepth 100000
set_option maxHeartbeats 4000000
namespace Ft
open PySem PySem.Spec PyProof.Rows L2
/-! ### what repr shows of rows of places -/
def encL (l : List Nat) : PyData := .tuple (l.map fun (n : Nat) => .int (n : Int))
theorem small_int : ∀ n : Fin 64, (PyData.int ((n.1 : Nat) : Int)).showable = true ∧ (PyData.int ((n.1 : Nat) : Int)).leavesShort 13 = true ∧ (PyData.int ((n.1 : Nat) : Int)).weight ≤ 7 := by decide +kernel
theorem small_nat {n : Nat} (h : n < 64) : (PyData.int (n : Int)).showable = true ∧ (PyData.int (n : Int)).leavesShort 13 = true ∧ (PyData.int (n : Int)).weight ≤ 7 := small_int ⟨n, h⟩
theorem ints_shown : ∀ l : List Nat, (∀ n ∈ l, n < 64) → PyData.showableAll (l.map fun (n : Nat) => .int (n : Int)) = true ∧ PyData.leavesShortAll 13 (l.map fun (n : Nat) => .int (n : Int)) = true ∧ PyData.weightAll (l.map fun (n : Nat) => .int (n : Int)) ≤ 8 * l.length ∧ PyData.depthAll (l.map fun (n : Nat) => .int (n : Int)) = 0
  | [], _ => by simp [PyData.showableAll, PyData.leavesShortAll, PyData.weightAll, PyData.depthAll]
  | n :: l, h => by
    obtain ⟨a1, a2, a3⟩ := small_nat (h n List.mem_cons_self)
    obtain ⟨b1, b2, b3, b4⟩ := ints_shown l fun m hm => h m (List.mem_cons_of_mem _ hm)
    simp only [List.map_cons, PyData.showableAll, PyData.leavesShortAll, PyData.weightAll, PyData.depthAll, a1, a2, b1, b2, b4, List.length_cons, PyData.depth, Bool.and_self, Nat.max_self, true_and, and_true]
    omega
theorem shows_row {l : List Nat} (h : ∀ n ∈ l, n < 64) (few : l.length ≤ 64) : Shows (encL l) := by
  obtain ⟨b1, b2, b3, b4⟩ := ints_shown l h
  unfold encL
  refine ⟨?_, ?_, ?_, ?_⟩
  · simp only [PyData.showable, b1]
  · simp only [PyData.leavesShort, b2]
  · simp only [PyData.weight]
    omega
  · simp only [PyData.depth, b4]
    omega
theorem rows_shown : ∀ lls : List (List Nat), (∀ l ∈ lls, (∀ n ∈ l, n < 64) ∧ l.length ≤ 64) → PyData.showableAll (lls.map encL) = true ∧ PyData.leavesShortAll 13 (lls.map encL) = true ∧ PyData.weightAll (lls.map encL) ≤ 513 * lls.length ∧ PyData.depthAll (lls.map encL) ≤ 1
  | [], _ => by simp [PyData.showableAll, PyData.leavesShortAll, PyData.weightAll, PyData.depthAll]
  | l :: lls, h => by
    obtain ⟨a1, a2⟩ := h l List.mem_cons_self
    obtain ⟨c1, c2, c3, c4⟩ := ints_shown l a1
    obtain ⟨b1, b2, b3, b4⟩ := rows_shown lls fun m hm => h m (List.mem_cons_of_mem _ hm)
    have e : encL l = .tuple (l.map fun (n : Nat) => .int (n : Int)) := rfl
    simp only [List.map_cons, PyData.showableAll, PyData.leavesShortAll, PyData.weightAll, PyData.depthAll, b1, b2, List.length_cons, e, PyData.showable, PyData.leavesShort, PyData.weight, PyData.depth, c1, c2, c4, Bool.and_self, true_and]
    omega
theorem shows_rows {lls : List (List Nat)} (h : ∀ l ∈ lls, (∀ n ∈ l, n < 64) ∧ l.length ≤ 64) (few : lls.length ≤ 64) : Shows (.tuple (lls.map encL)) := by
  obtain ⟨b1, b2, b3, b4⟩ := rows_shown lls h
  refine ⟨?_, ?_, ?_, ?_⟩
  · simp only [PyData.showable, b1]
  · simp only [PyData.leavesShort, b2]
  · simp only [PyData.weight]
    omega
  · simp only [PyData.depth]
    omega
theorem dp_row {K : PySem.W.Frag} {H : Hp} {t : Addr} {l : List Nat} (h : SqT K H t (l.map vN)) : Dp K H (.ref t) (encL l) := by
  refine .tup h ?_
  have : DpAll K H ((iN l).map V.int) ((iN l).map PyData.int) := dpAll_ints _
  rw [← vN_map] at this
  unfold iN at this
  rw [List.map_map] at this
  exact this
end Ft

set_option Elab.async false
set_option linter.all false
set_option maxRecDepth 100000
set_option maxHeartbeats 4000000
/-! Lambdas that may raise, where the error's context is known to be None. -/
namespace Ft
open PySem PySem.Spec PyProof.Rows L2
open LamX (TabB TabS Tabs ExtN CodeO LamS lamCx lamEnv tLam)
def lamCxN (X : Cx) (A : Around) (outer : List Env) (s : Shared) (H : Hp) (E : XK) (sc : Scope) (f c' : Addr) : Cx :=
  { lamCx X A outer s H E sc f c' with xe := fun e z => wpAny (model X.prog X.w) (A.deeper (lamEnv X sc s.heap.objs.size f c')) (leaving (lamEnv X sc s.heap.objs.size f c') e) (fun _ y => L2N.CX X.prog X.w outer H s E e y) (fun e2 y => L2N.CX X.prog X.w outer H s E e2 y) z }
theorem lamN_inv {X : Cx} {A : Around} {outer : List Env} {s z : Shared} {H G : Hp} {E : XK} {sc : Scope} {f c' : Addr} {pins : List (Addr × Obj)} {σ : L2.St} (J : Inv (lamCx X A outer s H E sc f c') pins σ G z) : Inv (lamCxN X A outer s H E sc f c') pins σ G z := by
  have O := J.ok
  exact ⟨⟨O.mod, O.kind, O.glob, O.blt, O.above, O.inj, O.has, O.cab, O.hd, O.frames, O.stk, O.exf, O.bs, O.bsz, O.noex, O.exfs, O.funs, O.frf⟩, J.os, J.bare, J.base, J.loc, J.cell, J.free, J.freeC, J.pin, J.hok, J.len⟩
def GivesToN (X : Cx) (Ng : List Str) (x : Str) (sg : Scope) (g : Addr) (cdg : Value) (bg : List Stmt) (a : Str) (q : Str) (TT : (XK → Hp → VK → Prop) → Hp → VK → Prop) : Prop :=
  ∀ (f c' : Addr) (s : Shared) (H : Hp) (Q : VK) (tl : XK → Hp → VK → Prop),
    (∀ (W : WX) (pn : List (Addr × Obj)) (xe : Value → Shared → Prop) (E : XK) (p1 p2 : Pos), L2N.Takes ((cxOf L2.CX0 X.prog X.w X.K X.mg X.base Ng x sg g cdg X.A X.stack s H L2.E0).tr pn xe) W → (∀ cls d τ G, E cls d G → W cls d τ G) →
      PE ((cxOf L2.CX0 X.prog X.w X.K X.mg X.base Ng x sg g cdg X.A X.stack s H L2.E0).tr pn xe) (.Call (.Name a p1) [] [] p2) (fun τ G R => τ[0]? = some (some (.ref f)) ∧ G c' = some (CodeO c' q) ∧ tl E G R)) →
    H c' = some (CodeO c' q) → TT tl H Q →
    ∃ t, PSs (cxOf L2.CX0 X.prog X.w X.K X.mg X.base Ng x sg g cdg X.A X.stack s H L2.E0).nox bg t ∧ t { nx := fun _ G => Q .non G, rt := Q } (L2.start Ng [.ref f]) H
section
variable {X : Cx} {pins : List (Addr × Obj)} {σ : L2.St} {H : Hp} {s : Shared}
/-- the lambda called, within the def that got it -/
theorem pe_actN {CXg : CXT} {Eg : XK} {Ng : List Str} {qg : Str} {sg : Scope} {g f c' : Addr} {cdg pm ctv : Value} {params : Arguments} {body : Expr} {sc : Scope} {k i : Nat} {a : Str} {pn : List (Addr × Obj)} {xe : Value → Shared → Prop} {W : WX} {E : XK} {tb : TE} {p1 p2 : Pos}
    (I : Inv X pins σ H s) (L : LamS X.env.scope sc) (isF : s.heap.get? f = some (PySem.W.kla_obj "<lambda>" (X.env.qual ++ "<lambda>") params body sc (cloFrom X.env.cells sc.names []) pm c' ctv)) (noH : H f = none) (noFr : f ∉ frs X.stack)
    (binds : bindArgs (PySem.W.kla_fn "<lambda>" (X.env.qual ++ "<lambda>") params body sc (cloFrom X.env.cells sc.names []) pm (.ref c') ctv) ⟨[], []⟩ = pure [])
    (tk : L2N.Takes ((cxOf CXg X.prog X.w X.K X.mg X.base Ng qg sg g cdg X.A X.stack s H Eg).tr pn xe) W) (hW : ∀ cls d τ G, E cls d G → W cls d τ G) (hr : Room (k + 1) (X.A.deeper (envOfC qg sg s.heap.objs.size g cdg)))
    (hbody : ∀ (A : Around) (outer : List Env) (s : Shared) (H : Hp), Room k (A.deeper (lamEnv X sc s.heap.objs.size f c')) → PE (lamCxN X A outer s H E sc f c') body tb)
    (hN : Ng[i]? = some a) (hv : Vis sg a) (hd : (a == ("__debug__" : Str)) = false := by decide) (hcd : (a == ("__classdict__" : Str)) = false := by decide) :
    PE ((cxOf CXg X.prog X.w X.K X.mg X.base Ng qg sg g cdg X.A X.stack s H Eg).tr pn xe) (.Call (.Name a p1) [] [] p2) (fun τ G R => τ[i]? = some (some (.ref f)) ∧ G c' = some (CodeO c' (X.env.qual ++ "<lambda>")) ∧ tb σ G R) := by
  refine ⟨fun pinsZ z τ G R JZ ⟨slot, code, want⟩ => ?_⟩
  refine wpAny_Call_Name_kw (thn ((pe_var (pos := p1) (i := i) hN hv hd hcd).run pinsZ z τ G (fun v G1 => v = .ref f ∧ G1 = G) JZ ⟨.ref f, slot, rfl, rfl⟩) fun u z1 ⟨v, G1, J1, rel, ev, eG⟩ => ?_)
  subst ev eG
  obtain rfl : u = Value.ref f := rel
  have isF1 := J1.base.keep f _ isF noH noFr (fun m => nomatch (show f ∈ ([] : List Addr) from m))
  have ran : codeAny (model X.prog X.w) (X.A.deeper (envOfC qg sg s.heap.objs.size g cdg)) (.call (.ref f) ⟨[], []⟩) (CR (L2N.CX X.prog X.w) (envOfC qg sg s.heap.objs.size g cdg :: X.stack) X.prog X.w G1 z1 R E) z1 := by
    obtain ⟨⟨oc, vs, t, oAt, oData, oVs⟩, _, _⟩ := J1.hok c' _ code
    refine PySem.W.kla_callFunE hr.depth isF1 rfl L.co L.gen rfl ⟨c', oc, vs, t, rfl, oAt, oData, oVs⟩ ?_
    rw [binds]
    refine wpAny_pure (wpAny_newFunctionEnv (fun y hy => (L.own y hy).2) (fun y hy => absurd hy (by simp)) (fun h1 ns sb => ⟨J1.nolimit.fresh _ sb, ?_⟩) L.kind)
    show codeAny _ _ (.expr body (lamEnv X sc z1.heap.objs.size f c')) _ _
    have start := lamN_inv (LamX.lam_start2 (E := E) (f := f) (c' := c') (A := X.A.deeper (envOfC qg sg s.heap.objs.size g cdg)) (outer := envOfC qg sg s.heap.objs.size g cdg :: X.stack) (tk := z1.toks + ([] : List (Str × Value)).length) I L J1.env0 hr.hd J1.base ns fun b o e => sb.extBut b o (Nat.ne_of_lt (Heap.lt_size e)) (Heap.get?_push_of_some _ e))
    refine PySem.W.kla_codeExpr (wpAny_mono ((hbody _ _ z1 G1 (hr.deeper _)).run [] _ _ G1 R start want) (fun v y got => ?_) fun _ _ gone => gone)
    obtain ⟨v2, G2, J2, rel2, fin⟩ := got
    exact ⟨v2, G2, J2.os, J2.bare, J2.base, J2.hok, rel2, fin⟩
  refine PySem.W.callWith_F0 ⟨_, _, _, _, isF1⟩ (wpAny_call (codeAny_mono ran fun r y ended => ?_))
  rcases r with er | (_ | _ | _ | u)
  · exact L2N.passes_call tk hW pinsZ τ G1 z1 er y J1 ended
  all_goals first | exact False.elim ended | exact J1.after ended
end
/-- x(lambda: body) -/
theorem pe_lamcallN {X : Cx} {T : List (Addr × Str)} {TT : (XK → Hp → VK → Prop) → Hp → VK → Prop} {x a : Str} {g c P : Addr} {k : Nat} {pg : Arguments} {bg : List Stmt} {sg : Scope} {dV kV doc pm cdv ct oc : Value} {an od : Option Addr} {osl : Array (Option Value)} {Ng : List Str}
    {params : Arguments} {body : Expr} {sc : Scope} {t : XK → TE} {p lpos pos : Pos} (hg : Gl X x) (hm : X.mg x = some (.ref g)) (hk : PySem.W.keepIn X.K (.ref g) = true)
    (lk : X.K.lookup g = some ⟨oc, od, .func (PySem.W.fnOf x x pg bg sg dV kV doc pm an cdv ct), osl⟩) (code : PySem.W.codeIn X.K cdv x = true) (binds : L2.Binds X.K (PySem.W.fnOf x x pg bg sg dV kV doc pm an cdv ct) [a] []) (Sg : FnScope Ng [a] sg) (first : Ng[0]? = some a) (hva : Vis sg a)
    (gives : GivesToN X Ng x sg g cdv bg a (X.env.qual ++ "<lambda>") TT)
    (TB : TabB X.base X.mg c P) (mine : X.env.code = .ref c) (inT : (P, X.env.qual ++ "<lambda>") ∈ T) (alone : ∀ p ∈ T, p.1 = P → p.2 = X.env.qual ++ "<lambda>") (hr : Room (k + 2) X.A) (L : LamS X.env.scope sc) (hdef : defaultsOf params X.env = ([], []))
    (hbind : ∀ (q : Str) (cl : List (Str × Addr)) (pm cv ctv : Value), bindArgs (PySem.W.kla_fn "<lambda>" q params body sc cl pm cv ctv) ⟨[], []⟩ = pure [])
    (hbody : ∀ (A : Around) (outer : List Env) (s : Shared) (H : Hp) (E : XK) (f c' : Addr), Room k (A.deeper (lamEnv X sc s.heap.objs.size f c')) → PE (lamCxN X A outer s H E sc f c') body (t E))
    (hdb : (x == ("__debug__" : Str)) = false := by decide) (hd : (a == ("__debug__" : Str)) = false := by decide) (hcd : (a == ("__classdict__" : Str)) = false := by decide) :
    PE X (.Call (.Name x p) [.Lambda params body sc lpos] [] pos) (tLam T TT t) := by
  refine ⟨fun pins s σ H Q I ⟨tabs, want⟩ => wpAny_Call_Name_kw (ld_glob I hg hm (PySem.W.callWith_K (h₀ := X.base) I.ok.mod.kin hk ?_ (by rfl) (by rfl)) hdb)⟩
  show wpAny _ _ (spliced ((false, eval (.Lambda params body sc lpos) X.env) :: backTo pos (starEach [] X.env))) _ _ s
  refine Calls.spliced_cons (LamX.lam_make2 I TB mine inT alone tabs hdef (L.has I.ok) fun f c' pm2 ctv H1 z I1 grown tabs1 isF noH noFr codeAt => Calls.spliced_nil ⟨I1.kIn, ?_⟩)
  have ran : codeAny (model X.prog X.w) X.A (.call (.ref g) ⟨[.ref f], []⟩) (CR L2.CX0 X.stack X.prog X.w H1 z Q L2.E0) z := by
    refine LamX.run_ofS (N := Ng) (ps := [a]) (us := [.ref f]) (vs := [.ref f]) lk code Sg hr I1.env0 (binds z [.ref f] I1.kIn rfl) (.cons rfl .nil) rfl fun room => ?_
    obtain ⟨u, hu, fin⟩ := gives f c' z H1 Q (fun E G R => t E σ G R) (fun W pn xe E p1 p2 tk hW => pe_actN (i := 0) I1 L isF noH noFr (hbind _ _ _ _ _) tk hW room (fun A outer s H r => hbody A outer s H E f c' r) first hva hd hcd) codeAt (want H1 grown tabs1)
    exact ⟨u, hu.nox, fin⟩
  refine wpAny_call (codeAny_mono ran fun r y ended => ?_)
  rcases r with er | (_ | _ | _ | u)
  all_goals first | exact I1.after ended | exact (show False from ended).elim
end Ft

set_option Elab.async false
set_option linter.all false
set_option maxRecDepth 100000
set_option maxHeartbeats 4000000
/-! Lambdas without parameters, handed to a def that calls them; the end of a law whose defs make such. -/
namespace Ft
open PySem PySem.Spec PyProof.Rows L2
open LamX (TabB TabS Tabs ExtN CodeO LamS lamSB lamS_by lamEnv tLam)
/-! ### defs that make lambdas: their code object is known -/
structure DefT (K : PySem.W.Frag) (mg : Str → Option Value) (x : Str) (st : Stmt) (c : Addr) : Prop where
  ex : ∃ (f : Addr) (oc : Value) (od : Option Addr) (kV doc pm : Value) (an : Option Addr) (ct : Value) (osl : Array (Option Value)),
    K.lookup f = some ⟨oc, od, .func (PySem.W.fnOf x x (L2.defArgs st) (L2.defBody st) (L2.defScope st) .none kV doc pm an (.ref c) ct), osl⟩ ∧ PySem.W.codeIn K (.ref c) x = true ∧ PySem.W.keepIn K (.ref f) = true ∧ mg x = some (.ref f)
section
variable {P : Program} {w : World} {K : PySem.W.Frag} {mg : Str → Option Value} {base : Heap}
theorem calG_ofT {x : Str} {st : Stmt} {c : Addr} {N ps : List Str} {k : Nat} {sp : Sp} (D : DefT K mg x st c) (S : FnScope N ps (L2.defScope st))
    (bd : ∀ (kV doc pm : Value) (an : Option Addr) (cdv ct : Value) (us : List Value), us.length = ps.length → bindArgs (PySem.W.fnOf x x (L2.defArgs st) (L2.defBody st) (L2.defScope st) .none kV doc pm an cdv ct) ⟨us, []⟩ = pure (ps.zip us))
    (many : ∀ vs H Q E, sp vs H Q E → vs.length = ps.length)
    (body : ∀ (f : Addr) (A : Around) (out : List Env) (s : Shared) (H : Hp) (vs : List V) (Q : VK) (E : XK), A.guards = some [] → Room k (A.deeper (envOfC x (L2.defScope st) s.heap.objs.size f (.ref c))) → sp vs H Q E →
      ∃ t, PSs (cxOf L2.CX0 P w K mg base N x (L2.defScope st) f (.ref c) A out s H E).nox (L2.defBody st) t ∧ t { nx := fun _ H' => Q .non H', rt := Q } (start N vs) H) : CalG P w K mg base (k + 1) x sp := by
  obtain ⟨f, oc, od, kV, doc, pm, an, ct, osl, lk, hcd, kp, hm⟩ := D.ex
  refine ⟨f, _, ps, ⟨many, ?_⟩, hm, kp, .all (bd kV doc pm an (.ref c) ct)⟩
  intro A out s H args us vs Q E hg hr e0 hb r hsp
  have hin : K.In s.heap := e0.mod.kin.keeps (fun b o q => (e0.bs b o q).1)
  have nolim : s.heap.NoLimit := e0.mod.nolimit.keeps (fun b o q => (e0.bs b o q).1)
  have kinds : ∀ y ∈ ps.zip us, (L2.defScope st).names.lookup y.1 = some .local ∨ ((L2.defScope st).names.lookup y.1 = some .cell ∧ ((cellsFrom (s.heap.objs.size + 1) (L2.defScope st).names []).lookup y.1).isSome = true) := by
    intro y hy
    cases S.par y.1 (List.of_mem_zip (a := y.1) (b := y.2) hy).1 with
    | inl q => exact .inl q
    | inr q => exact .inr ⟨q, PySem.W.cellsFrom_some _ _ _ (.inl q)⟩
  refine codeAny_call_function hr.depth (hin _ _ lk) rfl S.co S.gen rfl (PySem.W.codeRec_of hin hcd) (hb _ _ _ _ ?_)
  refine wpAny_newFunctionEnv_cells S.kind kinds fun env he s1 z => ?_
  subst he
  refine ⟨nolim.keeps z.toInCall.keep, codeAny_func ?_⟩
  obtain ⟨t, ht, hq⟩ := body f A out s H vs Q E hg (hr.deeper _) hsp
  have I := inv_start (CX := L2.CX0) (E := E) (f := f) (cd := .ref c) (qual := x) S hr.hd e0 (many _ _ _ _ hsp) r z
  refine wpAny_mono (ht.nox.run [] s1 (start N vs) H _ I hq) ?_ (fun e s' hs => hs)
  intro fl s' hs
  have ends : ∀ {σ' : L2.St} {H' : Hp} {v : V} {u : Value}, Inv (cxOf L2.CX0 P w K mg base N x (L2.defScope st) f (.ref c) A out s H E) [] σ' H' s' → RelV v u → Q v H' → CE out P w H s Q u s' := by
    intro σ' H' v u J rv q
    exact ⟨v, H', J.os, J.bare, J.base, J.hok, rv, q⟩
  cases fl with
  | ret u => exact let ⟨v, σ', H', J, rv, q⟩ := hs; ends J rv q
  | next => exact let ⟨σ', H', J, q⟩ := hs; ends (v := V.non) (u := Value.none) J rfl q
  | brk => exact let ⟨_, _, _, q⟩ := hs; q.elim
  | cont => exact let ⟨_, _, _, q⟩ := hs; q.elim
end
/-! ### the def that calls what it got -/
/-- x() within a try, x the lambda handed in (slot 0) -/
def tAct (f c' : Addr) (q : Str) (tl : XK → Hp → VK → Prop) (W : WX) : TE := fun σ H Q => ∃ Ech : XK, (∀ cls d σ' H', Ech cls d H' → W cls d σ' H') ∧ σ[0]? = some (some (.ref f)) ∧ H c' = some (CodeO c' q) ∧ tl Ech H Q
theorem pe_actE {Y : Cx} {f c' : Addr} {q : Str} {tl : XK → Hp → VK → Prop} {W : WX} {e : Expr}
    (act : ∀ E : XK, (∀ cls d σ' H', E cls d H' → W cls d σ' H') → PE Y e (fun σZ HZ Q => σZ[0]? = some (some (.ref f)) ∧ HZ c' = some (CodeO c' q) ∧ tl E HZ Q)) : PE Y e (tAct f c' q tl W) :=
  ⟨fun pins s σ H Q I ⟨Ech, hW, h1, h2, h3⟩ => (act Ech hW).run pins s σ H Q I ⟨h1, h2, h3⟩⟩
/-! ### the lambda's body: a call of a def that may raise -/
theorem lam_takes {X : Cx} {A : Around} {outer : List Env} {s : Shared} {H : Hp} {E : XK} {scope : Scope} {f c' : Addr} : L2N.Takes (lamCxN X A outer s H E scope f c') (fun cls d _ H => E cls d H) :=
  L2N.takes_of rfl rfl rfl rfl
/-! ### the end of a law row: tables stand beside the script -/
theorem glawT {P : Program} {w : World} {K : PySem.W.Frag} {mg mb : Str → Option Value} {k : Nat} {fa a : Addr} {fd : FuncData} {x : Str} {sp : Sp} {s₁ : Shared} {vs : List Value} {ns : List Int} (cs : List (Addr × Addr))
    (KX : K.In s₁.heap) (hns : s₁.heap.Ns mainGlobals mg) (hb : s₁.heap.Ns builtinsNs mb) (hbb : ∀ x : Str, x ≠ "__name__" → mb x = bootBuiltins x) (hlim : s₁.heap.NoLimit) (hg : s₁.gens = #[])
    (hT : ∀ p ∈ cs, s₁.heap.get? p.2 = some { cls := .none, data := .fields #[] }) (nT : ∀ p ∈ cs, K.lookup p.2 = none) (hC : ∀ p ∈ cs, PySem.W.CodeHd s₁.heap p.1 p.2)
    (hbm : ∃ (bm : Addr) (ob : Obj), mg "__builtins__" = some (.ref bm) ∧ bm ≠ builtinsNs ∧ s₁.heap.get? bm = some ob ∧ ob.cls = .type "module" ∧ ob.dict = some builtinsNs ∧ ob.data = .plain)
    (ha : s₁.heap.get? a = some { cls := .type "list", data := .seq vs.toArray }) (hi : IntsAre vs ns) (hl : ns.length ≤ sizeLine) (hr : Room k callerA)
    (F : ∀ base : Heap, K.In base → base.Ns mainGlobals mg → (∀ p ∈ cs, TabB base mg p.1 p.2) → FnG P w K mg base k fa fd [x] sp) (hbind : ∀ (s : Shared) (u : Value), BindsTo s fd ⟨[u], []⟩ [(x, u)])
    (hsp : ∀ H : Hp, (∀ p ∈ cs, H p.2 = some (.tbl #[])) → SqL K H a (ns.map V.int) → sp [.ref a] H (fun v _ => v = .bl true) fun _ _ _ => False) :
    codeAny (model P w) callerA (.call (.ref fa) ⟨[.ref a], []⟩) (fun r s' => r = .ok (.ret (.bool true)) ∧ OldK s₁.heap s'.heap ∧ s'.os = s₁.os ∧ AllBare s'.gens) s₁ := by
  have rv := vals_ints hi
  let tabs : List Addr := cs.map (·.2)
  have tabAt : ∀ b ∈ tabs, s₁.heap.get? b = some { cls := .none, data := .fields #[] } := by
    intro b hb'
    obtain ⟨p, hp, rfl⟩ := List.mem_map.mp hb'
    exact hT p hp
  have tabIn : ∀ p ∈ cs, p.2 ∈ tabs := fun p hp => List.mem_map.mpr ⟨p, hp, rfl⟩
  have aOff : a ∉ tabs := by
    intro m
    have e := (tabAt a m).symm.trans ha
    have e2 := congrArg (fun o => (Option.map Obj.data o)) e
    simp at e2
  have heart : ∀ H : Hp, (∀ p ∈ cs, H p.2 = some (.tbl #[])) → (∀ b u, H b = some u → (b ∈ tabs ∧ u = .tbl #[]) ∨ (b = a ∧ ∃ o xs, u = .frz o (.lst xs))) → SqL K H a (ns.map V.int) → HOk P w H s₁.heap → (H a ≠ none → K.lookup a = none) →
      codeAny (model P w) callerA (.call (.ref fa) ⟨[.ref a], []⟩) (fun r s' => r = .ok (.ret (.bool true)) ∧ OldK s₁.heap s'.heap ∧ s'.os = s₁.os ∧ AllBare s'.gens) s₁ := by
    intro H hH hO hS hok hK
    have stays : ∀ {b : Addr} {o : Obj}, s₁.heap.get? b = some o → H b = none → (hidT s₁.heap H).get? b = some o := fun q n => hidT_get q n
    have off : ∀ {b : Addr} {o : Obj}, s₁.heap.get? b = some o → (∀ us n, o.data ≠ .seq us n) → o.data ≠ .fields #[] → H b = none := by
      intro b o q d1 d2
      cases z : H b with
      | none => rfl
      | some u =>
        rcases hO b u z with ⟨m, _⟩ | ⟨e, _⟩
        · have eo := Option.some.inj (q.symm.trans (tabAt b m))
          rw [eo] at d2
          exact absurd rfl d2
        · rw [e] at q
          have eo := Option.some.inj (q.symm.trans ha)
          rw [eo] at d1
          exact absurd rfl (d1 _ _)
    have dictOff : ∀ {b : Addr} {o : Obj} {es : Array DictEntry} {ep : Nat}, s₁.heap.get? b = some o → o.data = .dict es ep → H b = none := fun q d => off q (fun _ _ z => by rw [d] at z; cases z) (fun z => by rw [d] at z; cases z)
    have nsIn : ∀ {b : Addr} {m : Str → Option Value}, s₁.heap.Ns b m → (hidT s₁.heap H).Ns b m := fun ⟨o, es, ep, q, d, r⟩ => ⟨o, es, ep, stays q (dictOff q d), d, r⟩
    have kIn : K.In (hidT s₁.heap H) := by
      intro b o q
      refine stays (KX b o q) ?_
      cases z : H b with
      | none => rfl
      | some u =>
        rcases hO b u z with ⟨m, _⟩ | ⟨e, _⟩
        · obtain ⟨p, hp, ep⟩ := List.mem_map.mp m
          have := nT p hp
          rw [ep, q] at this
          cases this
        · subst e
          have := hK (by rw [z]; exact fun y => nomatch y)
          rw [this] at q
          exact nomatch q
    have hM : Mod K mg (hidT s₁.heap H) := by
      obtain ⟨mc, l1, l2⟩ := hlim
      exact ⟨kIn, nsIn hns, ⟨mb, nsIn hb, hbb⟩, ⟨mc, nsIn l1, l2⟩⟩
    have hTB : ∀ p ∈ cs, TabB (hidT s₁.heap H) mg p.1 p.2 := by
      intro p hp
      have hTp := hT p hp
      refine ⟨?_, ?_, fun z => ?_⟩
      · obtain ⟨o, us, file, tf, flags, tg, inF, text, tt, e1, r1, r2, r3, rest⟩ := hC p hp
        refine ⟨o, us, file, tf, flags, tg, inF, text, tt, stays e1 (off e1 (fun _ _ z => by rw [r2] at z; cases z) (fun z => ?_)), r1, r2, r3, rest⟩
        rw [r2] at z
        cases z
        simp at r3
      · obtain ⟨bm, ob, b1, b2, b3, b4, b5, b6⟩ := hbm
        have nG : bm ≠ mainGlobals := by
          intro q
          obtain ⟨o, es, ep, e, hd, _⟩ := hns
          rw [q, e] at b3
          cases b3
          rw [hd] at b6
          cases b6
        have nP : bm ≠ p.2 := by
          intro q
          rw [q, hTp] at b3
          cases b3
          cases b6
        exact ⟨bm, ob, b1, b2, nG, nP, stays b3 (off b3 (fun _ _ z => by rw [b6] at z; cases z) (fun z => by rw [b6] at z; cases z)), b4, b5, b6⟩
      · obtain ⟨o, es, ep, e, hd, _⟩ := hns
        rw [z, hTp] at e
        cases e
        cases hd
    have e0 : Env0 P w K mg (hidT s₁.heap H) callerA [] s₁ H :=
      ⟨rfl, hM, fun b o q => of_hidT q, Nat.le_of_eq (hidT_size _ _), trivial, fun b hb => absurd (show b ∈ ([] : List Addr) from hb) List.not_mem_nil, hok, .of_eq hg⟩
    refine codeAny_mono ((F _ kIn (nsIn hns) hTB).goes callerA [] s₁ H ⟨[.ref a], []⟩ [.ref a] [.ref a] _ _ rfl hr e0 (hbind s₁ (.ref a)) (.cons rfl .nil) (hsp H hH hS)) ?_
    intro r s' h
    cases r with
    | error e => exact h.elim
    | ok fl =>
      cases fl with
      | next => exact h.elim
      | brk => exact h.elim
      | cont => exact h.elim
      | ret u =>
        obtain ⟨v, H', os, bare, un, hok', rr, q⟩ := h
        have q' : v = V.bl true := q
        subst q'
        have eu : u = Value.bool true := rr
        subst eu
        have grown : ∀ p ∈ cs, ∃ more : Array Value, s'.heap.get? p.2 = some { cls := .none, data := .fields more } := by
          intro p hp
          obtain ⟨more, z⟩ := un.tbls p.2 #[] (hH p hp)
          exact ⟨_, hok' p.2 _ z⟩
        have kept : ∀ b o, b ∉ tabs → s₁.heap.get? b = some o → s'.heap.get? b = some o := by
          intro b o nb q
          cases z : H b with
          | none => exact un.keep b o q z (fun y => absurd (show b ∈ ([] : List Addr) from y) List.not_mem_nil) (fun y => absurd y List.not_mem_nil)
          | some u =>
            rcases hO b u z with ⟨m, _⟩ | ⟨_, ob, xs, y⟩
            · exact absurd m nb
            · subst y
              obtain ⟨e1, _⟩ := hok b _ z
              obtain ⟨e2, _⟩ := hok' b _ (un.frzs b ob _ z)
              have eo := Option.some.inj (q.symm.trans e1)
              rw [eo]
              exact e2
        refine ⟨rfl, ⟨fun b o q => ?_, fun b o q => ?_⟩, os, bare⟩
        · by_cases m : b ∈ tabs
          · obtain ⟨p, hp, ep⟩ := List.mem_map.mp m
            obtain ⟨more, hm⟩ := grown p hp
            rw [← ep] at q ⊢
            rw [hT p hp] at q
            cases q
            exact .inr (.inl ⟨((hC p hp).tab (hT p hp)).isCodeTable, rfl, #[], more, rfl, by rw [Array.empty_append]; exact hm⟩)
          · exact .inl (kept b o m q)
        · by_cases m : b ∈ tabs
          · obtain ⟨p, hp, ep⟩ := List.mem_map.mp m
            obtain ⟨more, hm⟩ := grown p hp
            rw [← ep]
            exact ⟨_, hm⟩
          · exact ⟨o, kept b o m q⟩
  let H0 : Hp := fun b => if b ∈ tabs then some (.tbl #[]) else none
  have H0t : ∀ b ∈ tabs, H0 b = some (.tbl #[]) := fun b m => if_pos m
  have H0n : ∀ b, b ∉ tabs → H0 b = none := fun b m => if_neg m
  cases hk : K.lookup a with
  | some o =>
    have eo := Option.some.inj ((KX a o hk).symm.trans ha)
    subst eo
    refine heart H0 (fun p hp => H0t _ (tabIn p hp)) (fun b u z => ?_) (.inr ⟨_, vs.toArray, _, hk, rfl, rfl, rfl, by rw [List.size_toArray, hi.length]; exact hl, by simpa using rv⟩) (fun b u z => ?_) (fun z => absurd (H0n a aOff) z)
    · by_cases m : b ∈ tabs
      · rw [H0t b m] at z
        cases z
        exact .inl ⟨m, rfl⟩
      · rw [H0n b m] at z
        cases z
    · by_cases m : b ∈ tabs
      · rw [H0t b m] at z
        cases z
        exact tabAt b m
      · rw [H0n b m] at z
        cases z
  | none =>
    let fz : HO := .frz { cls := .type "list", data := .seq vs.toArray } (.lst (ns.map V.int))
    let H1 : Hp := fun b => if b = a then some fz else H0 b
    have H1a : H1 a = some fz := if_pos rfl
    have H1n : ∀ b, b ≠ a → H1 b = H0 b := fun b m => if_neg m
    have ne : ∀ b ∈ tabs, b ≠ a := fun b m z => aOff (by rw [← z]; exact m)
    refine heart H1 (fun p hp => by rw [H1n _ (ne _ (tabIn p hp))]; exact H0t _ (tabIn p hp)) (fun b u z => ?_) (.inl (.inr ⟨{ cls := .type "list", data := .seq vs.toArray }, H1a⟩)) (fun b u z => ?_) (fun _ => hk)
    · by_cases e : b = a
      · rw [e, H1a] at z
        cases z
        exact .inr ⟨e, _, _, rfl⟩
      · rw [H1n b e] at z
        by_cases m : b ∈ tabs
        · rw [H0t b m] at z
          cases z
          exact .inl ⟨m, rfl⟩
        · rw [H0n b m] at z
          cases z
    · by_cases e : b = a
      · rw [e, H1a] at z
        cases z
        rw [e]
        exact ⟨ha, by rw [List.length_map]; exact hl, vs, _, rv, ha⟩
      · rw [H1n b e] at z
        by_cases m : b ∈ tabs
        · rw [H0t b m] at z
          cases z
          exact tabAt b m
        · rw [H0n b m] at z
          cases z
theorem gwalkT {l : PySem.W.OpenLaw} {n k : Nat} {q : Program} {loose : List Str} {XP : (Str → Option Value) → Heap → Prop} {YP : World → Heap → Prop} {d : DefRec} {K : Params → PySem.W.Frag} {x : Str}
    (hn : l.most = some n) (hn2 : n ≤ sizeLine) (hdf : d.params.defaults = []) (hr : Room k callerA) (hY : ∀ (w : World) (h : Heap), YP w h → (K w.params).In h)
    (F : ∀ (w : World) (mg : Str → Option Value) (fa : Addr) (h : Heap), YP w h → (K w.params).In h → h.Ns mainGlobals mg → mg d.name = some (.ref fa) →
      ∃ (fd : FuncData) (cs : List (Addr × Addr)) (sp : Sp), (∀ p ∈ cs, h.get? p.2 = some { cls := .none, data := .fields #[] }) ∧ (∀ p ∈ cs, (K w.params).lookup p.2 = none) ∧ (∀ p ∈ cs, PySem.W.CodeHd h p.1 p.2) ∧ (∀ (s : Shared) (u : Value), BindsTo s fd ⟨[u], []⟩ [(x, u)]) ∧
        (∀ (H : Hp) (a : Addr) (ns : List Int), ns.length ≤ n → (∀ p ∈ cs, H p.2 = some (.tbl #[])) → SqL (K w.params) H a (ns.map V.int) → sp [.ref a] H (fun v _ => v = .bl true) fun _ _ _ => False) ∧
        ∀ base : Heap, (K w.params).In base → base.Ns mainGlobals mg → (∀ p ∈ cs, TabB base mg p.1 p.2) → FnG l.prog w (K w.params) mg base k fa fd [x] sp) :
    PySem.W.WalkO q loose XP YP l.row.toRowW d [] (fun f vs => PySem.call f vs) := by
  refine Att.attach_callB hn hdf fun w s₀ s₁ mg mb fa o pm cd doc a vs ns G Y ho hd hcd hmg hobj hints hlen _ hg => ?_
  have KX := hY w _ Y
  obtain ⟨fd, cs, sp, h1, h2, h3, h4, h5, h6⟩ := F w mg fa _ Y KX G.T.g hmg
  exact glawT cs KX G.T.g G.T.b G.T.builtins G.T.nolimit hg h1 h2 h3 G.T.bmain hobj hints (Nat.le_trans hlen hn2) hr h6 h4 fun H hH hS => h5 H a ns hlen hH hS
/-! ### a def that calls the lambda it gets, by its name -/
structure CalL (P : Program) (w : World) (K : PySem.W.Frag) (mg : Str → Option Value) (base : Heap) (x : Str) (TT : (XK → Hp → VK → Prop) → Hp → VK → Prop) : Prop where
  ex : ∃ (g : Addr) (oc : Value) (od : Option Addr) (kV doc pm : Value) (an : Option Addr) (cdv ct : Value) (osl : Array (Option Value)) (st : Stmt) (Ng : List Str) (a : Str),
    K.lookup g = some ⟨oc, od, .func (PySem.W.fnOf x x (L2.defArgs st) (L2.defBody st) (L2.defScope st) .none kV doc pm an cdv ct), osl⟩ ∧ PySem.W.codeIn K cdv x = true ∧ PySem.W.keepIn K (.ref g) = true ∧ mg x = some (.ref g) ∧
    Binds K (PySem.W.fnOf x x (L2.defArgs st) (L2.defBody st) (L2.defScope st) .none kV doc pm an cdv ct) [a] [] ∧ FnScope Ng [a] (L2.defScope st) ∧ Ng[0]? = some a ∧ Vis (L2.defScope st) a ∧ (a == ("__debug__" : Str)) = false ∧ (a == ("__classdict__" : Str)) = false ∧
    ∀ (X : Cx) (q : Str), X.prog = P → X.w = w → X.K = K → X.mg = mg → X.base = base → GivesToN X Ng x (L2.defScope st) g cdv (L2.defBody st) a q TT
theorem pe_l {X : Cx} {T : List (Addr × Str)} {TT : (XK → Hp → VK → Prop) → Hp → VK → Prop} {x : Str} {c P : Addr} (k : Nat) {j : Nat} {params : Arguments} {body : Expr} {scope : Scope} {t : XK → TE} {p lpos pos : Pos} (cl : CalL X.prog X.w X.K X.mg X.base x TT) (hg : Gl X x)
    (TB : TabB X.base X.mg c P) (hcode : X.env.code = .ref c) (hmT : T = [(P, X.env.qual ++ "<lambda>")]) (hr : Room j X.A) (hk : k + 2 ≤ j) (L : LamS X.env.scope scope) (hdef : defaultsOf params X.env = ([], []))
    (hbind : ∀ (q : Str) (cl : List (Str × Addr)) (pm cv ctv : Value), bindArgs (PySem.W.kla_fn "<lambda>" q params body scope cl pm cv ctv) ⟨[], []⟩ = pure [])
    (hbody : ∀ (A : Around) (outer : List Env) (s : Shared) (H : Hp) (E : XK) (f c' : Addr), Room k (A.deeper (lamEnv X scope s.heap.objs.size f c')) → PE (lamCxN X A outer s H E scope f c') body (t E))
    (hdb : (x == ("__debug__" : Str)) = false := by decide) :
    PE X (.Call (.Name x p) [.Lambda params body scope lpos] [] pos) (tLam T TT t) := by
  obtain ⟨g, oc, od, kV, doc, pm, an, cdv, ct, osl, st, Ng, a, lk, hcd, kp, hm, b, S, h0, hv, hd, hcl, hG⟩ := cl.ex
  subst hmT
  exact pe_lamcallN (k := k) hg hm kp lk hcd b S h0 hv (hG X _ rfl rfl rfl rfl rfl) TB hcode (by simp) (fun p hp _ => by rw [List.mem_singleton.mp hp]) (hr.mono hk) L hdef hbind hbody hdb hd hcl
theorem calL_of {P : Program} {w : World} {K : PySem.W.Frag} {mg : Str → Option Value} {base : Heap} {x a : Str} {st : Stmt} {N : List Str} {TT : (XK → Hp → VK → Prop) → Hp → VK → Prop} (D : Def K mg x st) (S : FnScope N [a] (L2.defScope st)) (h0 : N[0]? = some a) (hv : Vis (L2.defScope st) a)
    (bd : ∀ (kV doc pm : Value) (an : Option Addr) (cdv ct : Value) (us : List Value), us.length = ([a] : List Str).length → bindArgs (PySem.W.fnOf x x (L2.defArgs st) (L2.defBody st) (L2.defScope st) .none kV doc pm an cdv ct) ⟨us, []⟩ = pure (([a] : List Str).zip us))
    (body : ∀ (X : Cx) (q : Str), X.prog = P → X.w = w → X.K = K → X.mg = mg → X.base = base → ∀ (g : Addr) (cdv : Value) (f c' : Addr) (s : Shared) (H : Hp) (Q : VK) (tl : XK → Hp → VK → Prop),
      (∀ (W : WX) (pn : List (Addr × Obj)) (xe : Value → Shared → Prop) (E : XK) (p1 p2 : Pos), L2N.Takes ((cxOf L2.CX0 P w K mg base N x (L2.defScope st) g cdv X.A X.stack s H L2.E0).tr pn xe) W → (∀ cls d σ' H', E cls d H' → W cls d σ' H') →
        PE ((cxOf L2.CX0 P w K mg base N x (L2.defScope st) g cdv X.A X.stack s H L2.E0).tr pn xe) (.Call (.Name a p1) [] [] p2) (fun σZ HZ Q => σZ[0]? = some (some (.ref f)) ∧ HZ c' = some (CodeO c' q) ∧ tl E HZ Q)) →
      H c' = some (CodeO c' q) → TT tl H Q → ∃ t, PSs (cxOf L2.CX0 P w K mg base N x (L2.defScope st) g cdv X.A X.stack s H L2.E0).nox (L2.defBody st) t ∧ t { nx := fun _ H' => Q .non H', rt := Q } (L2.start N [.ref f]) H)
    (hd : (a == ("__debug__" : Str)) = false := by decide) (hcl : (a == ("__classdict__" : Str)) = false := by decide) : CalL P w K mg base x TT := by
  obtain ⟨g, fd, F, hm⟩ := D.ex
  obtain ⟨oc, od, kV, doc, pm, an, cdv, ct, osl, rfl, lk, hcd⟩ := F.ex
  refine ⟨g, oc, od, kV, doc, pm, an, cdv, ct, osl, st, N, a, lk, hcd, F.kp, hm, .all (bd kV doc pm an cdv ct), S, h0, hv, hd, hcl, ?_⟩
  intro X q e1 e2 e3 e4 e5
  subst e1 e2 e3 e4 e5
  intro f c' s H Q tl act hc h
  exact body X q rfl rfl rfl rfl rfl g cdv f c' s H Q tl (fun W pn xe E p1 p2 tk hW => act W pn xe E p1 p2 tk hW) hc h
theorem lam_scope {sc0 sc scope : Scope} (e : sc0 = sc) (h : lamSB sc scope = true) : LamS sc0 scope := by
  rw [e]
  exact lamS_by h
end Ft

set_option Elab.async false
set_option linter.all false
set_option maxRecDepth 100000
set_option maxHeartbeats 4000000
namespace Ft
open PySem PySem.Spec PyProof.Rows L2
open LamX (TabB TabS Tabs ExtN CodeO)
/-! ### data of small numbers and short texts: what repr shows of it -/
def shortS (z : Str) : Bool := decide (z.cps.size ≤ 32) && z.cps.toList.all fun c => decide (c < 16 ^ 8)
mutual
def tame : PyData → Bool
  | .int i => decide (i.natAbs ≤ 1000)
  | .str z => shortS z
  | .list ds => tames ds
  | .tuple ds => tames ds
  | .dict _ => false
  | .none => true
  | .bool _ => true
def tames : List PyData → Bool
  | [] => true
  | d :: ds => tame d && tames ds
end
mutual
def nodes : PyData → Nat
  | .list ds => 1 + nodess ds
  | .tuple ds => 1 + nodess ds
  | _ => 1
def nodess : List PyData → Nat
  | [] => 0
  | d :: ds => nodes d + nodess ds
end
theorem tame_pos : ∀ n : Fin 1001, (PyData.int ((n.1 : Nat) : Int)).showable = true ∧ (PyData.int ((n.1 : Nat) : Int)).leavesShort 13 = true ∧ (PyData.int ((n.1 : Nat) : Int)).weight ≤ 11 := by decide +kernel
theorem tame_neg : ∀ n : Fin 1001, (PyData.int (-((n.1 : Nat) : Int))).showable = true ∧ (PyData.int (-((n.1 : Nat) : Int))).leavesShort 13 = true ∧ (PyData.int (-((n.1 : Nat) : Int))).weight ≤ 11 := by decide +kernel
theorem tame_int {i : Int} (h : i.natAbs ≤ 1000) : (PyData.int i).showable = true ∧ (PyData.int i).leavesShort 13 = true ∧ (PyData.int i).weight ≤ 11 := by
  rcases Int.natAbs_eq i with e | e
  · rw [e]
    exact tame_pos ⟨i.natAbs, by omega⟩
  · rw [e]
    exact tame_neg ⟨i.natAbs, by omega⟩
mutual
theorem tame_facts : ∀ d : PyData, tame d = true → d.showable = true ∧ d.leavesShort 13 = true ∧ d.weight + 1 ≤ 33 * nodes d
  | .none, _ => by simp [PyData.showable, PyData.leavesShort, PyData.weight, nodes]
  | .bool _, _ => by simp [PyData.showable, PyData.leavesShort, PyData.weight, nodes]
  | .int i, h => by
    simp only [tame, decide_eq_true_eq] at h
    obtain ⟨a, b, c⟩ := tame_int h
    refine ⟨a, b, ?_⟩
    simp only [nodes]
    omega
  | .str z, h => by
    simp only [tame, shortS, Bool.and_eq_true, decide_eq_true_eq] at h
    simp only [PyData.showable, PyData.leavesShort, PyData.weight, nodes]
    exact ⟨trivial, h.2, by have := h.1; omega⟩
  | .list ds, h => by
    simp only [tame] at h
    obtain ⟨a, b, c⟩ := tames_facts ds h
    simp only [PyData.showable, PyData.leavesShort, PyData.weight, nodes]
    exact ⟨a, b, by omega⟩
  | .tuple ds, h => by
    simp only [tame] at h
    obtain ⟨a, b, c⟩ := tames_facts ds h
    simp only [PyData.showable, PyData.leavesShort, PyData.weight, nodes]
    exact ⟨a, b, by omega⟩
  | .dict _, h => by simp [tame] at h
theorem tames_facts : ∀ ds : List PyData, tames ds = true → PyData.showableAll ds = true ∧ PyData.leavesShortAll 13 ds = true ∧ PyData.weightAll ds ≤ 33 * nodess ds
  | [], _ => by simp [PyData.showableAll, PyData.leavesShortAll, PyData.weightAll]
  | d :: ds, h => by
    simp only [tames, Bool.and_eq_true] at h
    obtain ⟨a1, b1, c1⟩ := tame_facts d h.1
    obtain ⟨a2, b2, c2⟩ := tames_facts ds h.2
    simp only [PyData.showableAll, PyData.leavesShortAll, PyData.weightAll, nodess, a1, a2, b1, b2]
    exact ⟨rfl, rfl, by omega⟩
end
theorem shows_tame {d : PyData} (h : tame d = true) (few : nodes d ≤ 20000) (dp : d.depth ≤ 60) : Shows d := by
  obtain ⟨a, b, c⟩ := tame_facts d h
  exact ⟨a, b, by omega, dp⟩
/-! ### what stays where all but tables stay -/
theorem ext_sqT {K : PySem.W.Frag} {H H' : Hp} (e : ExtN H H') {a : Addr} {xs : List V} (h : SqT K H a xs) : SqT K H' a xs := by
  rcases h with (h | ⟨o, h⟩) | h
  · exact .inl (.inl (e _ _ h fun ps z => by cases z))
  · exact .inl (.inr ⟨o, e _ _ h fun ps z => by cases z⟩)
  · exact .inr h
theorem ext_sqL {K : PySem.W.Frag} {H H' : Hp} (e : ExtN H H') {a : Addr} {xs : List V} (h : SqL K H a xs) : SqL K H' a xs := by
  rcases h with (h | ⟨o, h⟩) | h
  · exact .inl (.inl (e _ _ h fun ps z => by cases z))
  · exact .inl (.inr ⟨o, e _ _ h fun ps z => by cases z⟩)
  · exact .inr h
mutual
theorem dp_ext {K : PySem.W.Frag} {H H' : Hp} (e : ExtN H H') : ∀ (d : PyData) (v : V), Dp K H v d → Dp K H' v d
  | .none, _, h => by cases h; exact .non
  | .bool _, _, h => by cases h; exact .bl _
  | .int _, _, h => by cases h; exact .int _
  | .str _, _, h => by cases h; exact .str _
  | .list ds, _, h => by
    cases h with
    | lst h a => exact .lst (ext_sqL e h) (dp_exts e ds _ a)
  | .tuple ds, _, h => by
    cases h with
    | tup h a => exact .tup (ext_sqT e h) (dp_exts e ds _ a)
  | .dict _, _, h => by cases h
theorem dp_exts {K : PySem.W.Frag} {H H' : Hp} (e : ExtN H H') : ∀ (ds : List PyData) (vs : List V), DpAll K H vs ds → DpAll K H' vs ds
  | [], _, h => by cases h; exact .nil
  | d :: ds, _, h => by
    cases h with
    | cons h1 h2 => exact .cons (dp_ext e d _ h1) (dp_exts e ds _ h2)
end
theorem ext_same {H H' : Hp} (s : Same H H') : ExtN H H' := ExtN.of fun b o h => s b o h
theorem ext_chart {K : PySem.W.Frag} {H H' : Hp} (e : ExtN H H') {c : Addr} {C : Chart} (h : IsChart K H c C) : IsChart K H' c C := by
  obtain ⟨c2, e2, h2⟩ := chart_dp (dp_ext e _ _ (dp_chart h))
  cases e2
  exact h2
theorem tabs_same {T : List (Addr × Str)} {H H' : Hp} (t : Tabs T H) (s : Same H H') : Tabs T H' := t.ext fun b o h => s b o h
/-- lists change, tables don't -/
theorem tabs_kp {T : List (Addr × Str)} {H H' : Hp} {ex : List Addr} (t : Tabs T H) (k : Kp ex H H') (l : ∀ b ∈ ex, ∃ xs, H b = some (.lst xs)) : Tabs T H' := by
  intro p hp
  obtain ⟨ps, h1, h2, h3⟩ := t p hp
  have n1 : p.1 ∉ ex := fun m => by
    obtain ⟨xs, e⟩ := l _ m
    rw [h1] at e
    cases e
  refine ⟨ps, k _ _ n1 h1, h2, fun pos cv hc => ?_⟩
  obtain ⟨c, e1, e2⟩ := h3 pos cv hc
  have n2 : c ∉ ex := fun m => by
    obtain ⟨xs, e⟩ := l _ m
    rw [e2] at e
    unfold LamX.CodeO at e
    cases e
  exact ⟨c, e1, k _ _ n2 e2⟩
/-! ### tuples joined and cut -/
theorem catA_of {K : PySem.W.Frag} {a b : Addr} {xs ys : List V} {H : Hp} {Q : VK} (hx : SqT K H a xs) (hy : SqT K H b ys) (hl : xs.length + ys.length ≤ 1000) (q : ∀ p H', Same H H' → SqT K H' p (xs ++ ys) → Q (.ref p) H') : rCatA K (.ref a) (.ref b) H Q := by
  have big : (1000 : Nat) ≤ sizeLine := by decide
  refine ⟨a, b, xs, ys, rfl, rfl, hx, hy, by omega, fun e => ?_, fun _ e => ?_, fun _ _ p hp => ?_⟩
  · subst e
    exact q b H (fun _ _ h => h) hy
  · subst e
    exact q a H (fun _ _ h => h) (by rw [List.append_nil]; exact hx)
  · exact q p _ (same_upd hp) (.inl (.inl upd_same))
def cutG {α : Type} (l : List α) (lo hi : Option Int) : List α := (l.drop (HT.sIx l.length 0 lo)).take (HT.sIx l.length l.length hi - HT.sIx l.length 0 lo)
theorem slA_of {K : PySem.W.Frag} {a : Addr} {xs : List V} {lo hi : Option Int} {H : Hp} {Q : VK} (h : SqT K H a xs) (q : ∀ p H', Same H H' → SqT K H' p (cutG xs lo hi) → Q (.ref p) H') : rSlA K (.ref a) lo hi H Q := by
  refine ⟨a, xs, rfl, h, fun ⟨e1, e2⟩ => ?_, fun _ p hp => q p _ (same_upd hp) (.inl (.inl upd_same))⟩
  refine q a H (fun _ _ h => h) ?_
  have : cutG xs lo hi = xs := by
    unfold cutG
    rw [e1, e2]
    simp
  rw [this]
  exact h
theorem no_part {σ : L2.St} {H : Hp} {k : Option Int → Hp → Prop} (h : k none H) : tNoPart σ H k := h
theorem cutG_take {α : Type} {l : List α} {k : Nat} : cutG l none (some (k : Int)) = l.take k := by
  unfold cutG
  rw [HT.sIx_none, HT.sIx_nat]
  simp only [List.drop_zero, Nat.sub_zero]
  rcases Nat.le_total k l.length with h | h
  · rw [Nat.min_eq_left h]
  · rw [Nat.min_eq_right h, List.take_of_length_le (Nat.le_refl _), List.take_of_length_le h]
theorem cutG_drop {α : Type} {l : List α} {k : Nat} : cutG l (some (k : Int)) none = l.drop k := by
  unfold cutG
  rw [HT.sIx_none, HT.sIx_nat]
  rcases Nat.le_total k l.length with h | h
  · rw [Nat.min_eq_left h, List.take_of_length_le (by rw [List.length_drop]; exact Nat.le_refl _)]
  · rw [Nat.min_eq_right h, List.drop_eq_nil_of_le (Nat.le_refl _), List.drop_eq_nil_of_le h]
    simp
theorem cutG_init {α : Type} {l : List α} : cutG l none (some (-1)) = l.take (l.length - 1) := by
  unfold cutG
  rw [HT.sIx_none]
  have e : HT.sIx l.length l.length (some (-1)) = l.length - 1 := by
    show (if (-1 : Int) < 0 then ((-1 : Int) + (l.length : Int)).toNat else min (-1 : Int).toNat l.length) = l.length - 1
    rw [if_pos (by omega)]
    omega
  rw [e]
  simp
theorem dpAll_app {K : PySem.W.Frag} {H : Hp} : ∀ {xs ys : List V} {ds es : List PyData}, DpAll K H xs ds → DpAll K H ys es → DpAll K H (xs ++ ys) (ds ++ es)
  | _, _, _, _, .nil, h => h
  | _, _, _, _, .cons a t, h => .cons a (dpAll_app t h)
theorem dpAll_take {K : PySem.W.Frag} {H : Hp} : ∀ {k : Nat} {xs : List V} {ds : List PyData}, DpAll K H xs ds → DpAll K H (xs.take k) (ds.take k)
  | 0, _, _, _ => by simp only [List.take_zero]; exact .nil
  | _ + 1, _, _, .nil => .nil
  | k + 1, _, _, .cons a t => .cons a (dpAll_take t)
theorem dpAll_drop {K : PySem.W.Frag} {H : Hp} : ∀ {k : Nat} {xs : List V} {ds : List PyData}, DpAll K H xs ds → DpAll K H (xs.drop k) (ds.drop k)
  | 0, _, _, h => h
  | _ + 1, _, _, .nil => .nil
  | k + 1, _, _, .cons a t => dpAll_drop (k := k) t
end Ft

set_option Elab.async false
set_option linter.all false
set_option maxRecDepth 100000
set_option maxHeartbeats 4000000
/-! data that can be held against each other, and not too many -/
namespace Ft
open PySem PySem.Spec PyProof.Rows L2
theorem can_all : ∀ {ds : List PyData}, PyData.canLayAll0 ds = true ↔ ∀ e ∈ ds, PyData.canLay0 e = true
  | [] => ⟨fun _ _ h => (nomatch h), fun _ => by simp [PyData.canLayAll0]⟩
  | d :: ds => by
    simp only [PyData.canLayAll0, Bool.and_eq_true, can_all (ds := ds), List.mem_cons]
    exact ⟨fun h e he => he.elim (fun x => x ▸ h.1) (h.2 e), fun h => ⟨h _ (.inl rfl), fun e he => h e (.inr he)⟩⟩
theorem depth_mem : ∀ {ds : List PyData} {e : PyData}, e ∈ ds → e.depth ≤ PyData.depthAll ds
  | d :: ds, e, h => by
    simp only [PyData.depthAll]
    rcases List.mem_cons.mp h with rfl | h
    · omega
    · have := depth_mem h
      omega
theorem depth_all {n : Nat} : ∀ {ds : List PyData}, (∀ e ∈ ds, e.depth ≤ n) → PyData.depthAll ds ≤ n
  | [], _ => by simp only [PyData.depthAll]; omega
  | d :: ds, h => by
    simp only [PyData.depthAll]
    have h1 := h d List.mem_cons_self
    have h2 := depth_all fun e he => h e (List.mem_cons_of_mem _ he)
    omega
theorem nodes_pos : ∀ d : PyData, 1 ≤ nodes d := fun d => by cases d <;> simp only [nodes] <;> omega
theorem nodes_len : ∀ ds : List PyData, ds.length ≤ nodess ds
  | [] => by simp only [nodess]; exact Nat.le_refl _
  | d :: ds => by
    simp only [nodess, List.length_cons]
    have := nodes_pos d
    have := nodes_len ds
    omega
theorem nodes_mem : ∀ {ds : List PyData} {e : PyData}, e ∈ ds → nodes e ≤ nodess ds
  | d :: ds, e, h => by
    simp only [nodess]
    rcases List.mem_cons.mp h with rfl | h
    · omega
    · have := nodes_mem h
      omega
structure Fine (d : PyData) : Prop where
  sh : SeqAt.shaped d = true
  nd : nodes d ≤ 900
theorem shaped_iff {d : PyData} : SeqAt.shaped d = true ↔ d.canLay0 = true ∧ d.depth ≤ 64 := by
  unfold SeqAt.shaped
  rw [Bool.and_eq_true, decide_eq_true_eq]
theorem Fine.mem {ds : List PyData} {e : PyData} (h : Fine (.tuple ds)) (m : e ∈ ds) : Fine e := by
  obtain ⟨h1, h2⟩ := shaped_iff.mp h.sh
  have h3 := h.nd
  simp only [PyData.canLay0] at h1
  simp only [PyData.depth] at h2
  simp only [nodes] at h3
  have := depth_mem m
  have := nodes_mem m
  exact ⟨shaped_iff.mpr ⟨can_all.mp h1 e m, by omega⟩, by omega⟩
theorem Fine.len {ds : List PyData} (h : Fine (.tuple ds)) : ds.length ≤ 2000 := by
  have h3 := h.nd
  simp only [nodes] at h3
  have := nodes_len ds
  omega
theorem Fine.sub {ds es : List PyData} (h : Fine (.tuple ds)) (m : ∀ e ∈ es, e ∈ ds) : SeqAt.shaped (.list es) = true := by
  obtain ⟨h1, h2⟩ := shaped_iff.mp h.sh
  simp only [PyData.canLay0] at h1
  simp only [PyData.depth] at h2
  have h5 : PyData.depthAll es ≤ PyData.depthAll ds := depth_all fun e he => depth_mem (m e he)
  refine shaped_iff.mpr ⟨?_, ?_⟩
  · simp only [PyData.canLay0]
    exact can_all.mpr fun e he => can_all.mp h1 e (m e he)
  · simp only [PyData.depth]
    omega
/-- a list against the empty one -/
theorem eqv_nil {es : List PyData} : PyData.eqv (.list es) (.list []) = es.isEmpty := by
  cases es with
  | nil => rfl
  | cons e es => rfl
/-- the places of a tuple of places -/
def natsL : List PyData → Option (List Nat)
  | [] => some []
  | .int i :: r => if 0 ≤ i then (natsL r).map (i.toNat :: ·) else none
  | _ :: _ => none
theorem natsL_map : ∀ (l : List Nat), natsL (l.map nD) = some l
  | [] => rfl
  | a :: l => by
    show (if (0 : Int) ≤ (a : Int) then (natsL (l.map nD)).map (((a : Int)).toNat :: ·) else none) = _
    rw [if_pos (by omega), natsL_map l]
    rfl
theorem natsL_some : ∀ {ds : List PyData} {l : List Nat}, natsL ds = some l → ds = l.map nD
  | [], l, h => by cases h; rfl
  | d :: ds, l, h => by
    cases d with
    | int i =>
      simp only [natsL] at h
      split at h
      · rename_i h0
        cases e : natsL ds with
        | none => rw [e] at h; cases h
        | some m =>
          rw [e] at h
          cases h
          rw [List.map_cons, ← natsL_some e]
          congr 1
          show PyData.int i = .int (i.toNat : Int)
          rw [Int.toNat_of_nonneg h0]
      · cases h
    | _ => cases h
theorem natsL_none {ds : List PyData} (h : ∀ l : List Nat, ds ≠ l.map nD) : natsL ds = none := by
  cases e : natsL ds with
  | none => rfl
  | some l => exact absurd (natsL_some e) (h l)
end Ft

set_option Elab.async false
set_option linter.all false
set_option maxRecDepth 100000
set_option maxHeartbeats 4000000
/-! x in t, t a set of tuples of ints -/
namespace Ft
open PySem PySem.Spec PyProof.Rows L2
/-- where the search for the hash g stands at its c-th step -/
def prb (m : Nat) (g : Int) (c : Nat) : SetTable.Probe := nth m (runAt m (SetTable.bits g % (m + 1)) (SetTable.bits g)) c
theorem no_dummy (m : Nat) : ∀ (c : Nat) (p : SetTable.Probe), p.dummy = none → (nth m p c).dummy = none
  | 0, _, h => h
  | c + 1, p, h => no_dummy m c (adv m p) (by unfold adv; split <;> exact h)
theorem prb_add {m : Nat} {g : Int} (c q : Nat) : nth m (prb m g c) q = prb m g (c + q) := (nth_add m c _ q).symm
section
variable {P : Program} {w : World} {A : Around} {E : Value → Shared → Prop} {s : Shared} {a : Addr} {L : List (Addr × List Int)} {es : Array (Int × Value)} {ep : Nat} {t : SetTable}
theorem look_from (R : SetTR P w s.heap a L es ep t) {x : Addr} {k : List Int} (hx : IsT P w s.heap k x) (room : A.units < cLine) {g : Int} (eg : thash P w k = g) {K : Nat} (few : K < 10 * SetTable.turns t.mask)
    (gap : way t.mask g K ∉ t.place.toList) (full : ∀ c, c < K → way t.mask g c ∈ t.place.toList) {Q : SetFound → Shared → Prop} (yes : ∀ i, k ∈ L.map (·.2) → Q (.there (some i)) s) (no : ∀ j, k ∉ L.map (·.2) → Q (.free j false) s) :
    ∀ (f c : Nat) (now : Option SetTable.Probe), now.getD (t.probeStart g) = prb t.mask g c → c ≤ K → K < c + f →
      (∀ (i : Nat) q, L[i]? = some q → q.2 = k → ∃ d, c ≤ d ∧ d < K ∧ t.place.toList[i]? = some (way t.mask g d)) → wpAny (model P w) A (setSearchFrom a (.ref x) g false f now) Q E s
  | 0, c, _, _, h1, h2, _ => absurd h2 (by omega)
  | f + 1, c, now, e0, h1, h2, ahead => by
    obtain ⟨ob, gob, _, dat⟩ := R.ob
    rw [setSearchFrom_succ]
    refine wpAny_bind (wpAny_setState_of gob dat R.fits ?_)
    dsimp only
    rw [if_neg R.gw]
    try refine wpAny_bind (wpAny_pure ?_)
    have hashes : ∀ (i : Nat) q, L[i]? = some q → (es[i]?.map (·.1)).getD 0 = thash P w q.2 := fun i q hq => by rw [R.entry hq]; rfl
    have places : ∀ q, (nth t.mask (prb t.mask g c) q).j = way t.mask g (c + q) := fun q => congrArg SetTable.Probe.j (prb_add c q)
    rcases go_spec t R.tab.ris R.tab.dm (fun i => (es[i]?.map (·.1)).getD 0) g (10 * SetTable.turns t.mask) (K - c) (prb t.mask g c) (no_dummy _ c _ rfl) (by omega) (fun q hq => by rw [places]; exact full _ (by omega))
      (by rw [places, Nat.add_sub_cancel' h1]; exact gap) with ⟨q, i, lq, pi, _, before, told⟩ | ⟨before, told⟩
    · have told' : t.probe (fun i => (es[i]?.map (·.1)).getD 0) g (now.getD (t.probeStart g)) = some (.candidate (way t.mask g (c + q)) i (prb t.mask g (c + (q + 1)))) := by
        rw [e0, ← places, ← prb_add]
        exact told
      rw [told']
      dsimp only
      rw [places] at pi
      have inL : i < L.length := by
        have u1 := (List.getElem?_eq_some_iff.mp pi).1
        have u2 := R.tab.sz
        rw [List.length_map] at u2
        rw [Array.length_toList] at u1
        omega
      obtain ⟨r, hr⟩ : ∃ r, L[i]? = some r := ⟨_, List.getElem?_eq_getElem inL⟩
      have mr := List.mem_of_getElem? hr
      have slot := slot_live R.tab.ris pi
      have after : wpAny (model P w) A (searchRest a (.ref x) g false f es t (way t.mask g (c + q)) i (prb t.mask g (c + (q + 1)))) Q E s := by
        unfold searchRest
        rw [R.entry hr]
        refine wpAny_bind (wpAny_holding (wpAny_eqBool_tuple room (R.tup r mr) hx ?_))
        refine wpAny_bind (wpAny_setState_of gob dat R.fits ?_)
        simp only [Bool.false_and, Bool.false_eq_true, if_false]
        try refine wpAny_bind (wpAny_pure ?_)
        rw [sameMem]
        simp only [if_true, slot, R.entry hr]
        refine wpAny_bind (wpAny_isSame_ref_self (wpAny_bind (wpAny_pure ?_)))
        simp only [if_true]
        by_cases same : r.2 = k
        · rw [if_pos (decide_eq_true same)]
          exact wpAny_pure (yes i (List.mem_map.mpr ⟨r, mr, same⟩))
        · rw [if_neg (by simp [same])]
          refine look_from R hx room eg few gap full yes no f (c + (q + 1)) _ rfl (by omega) (by omega) fun i' q' hq' ek => ?_
          obtain ⟨d, d1, d2, d3⟩ := ahead i' q' hq' ek
          refine ⟨d, ?_, d2, d3⟩
          rcases Nat.lt_trichotomy d (c + q) with lt | e | gt
          · exact absurd ((hashes i' q' hq').trans ((congrArg (thash P w) ek).trans eg)) (before (d - c) i' (by omega) (by rw [places, Nat.add_sub_cancel' d1]; exact d3))
          · rw [e] at d3
            have two := slot_live R.tab.ris d3
            rw [slot] at two
            injection two with two
            rw [← two, hr] at hq'
            exact absurd ((congrArg Prod.snd (Option.some.inj hq')).trans ek) same
          · omega
      by_cases led : t.led = true
      · rw [if_neg (by simp [led])]
        try refine wpAny_bind (wpAny_pure ?_)
        exact after
      · rw [if_pos (by simp [led])]
        refine wpAny_bind (seen_tup hx (fun y hy => ?_) ?_)
        · obtain ⟨en, hen, rfl⟩ := List.mem_map.mp hy
          have inE : en ∈ es.toList := by
            have : en ∈ es ∧ en.1 = g := by simpa using hen
            simpa using this.1
          rw [R.rows] at inE
          obtain ⟨q2, hq2, rfl⟩ := List.mem_map.mp inE
          exact ⟨q2.2, q2.1, rfl, R.tup q2 hq2⟩
        · rw [if_neg (by decide)]
          try refine wpAny_bind (wpAny_pure ?_)
          exact after
    · have told' : t.probe (fun i => (es[i]?.map (·.1)).getD 0) g (now.getD (t.probeStart g)) = some (.empty (way t.mask g K) none) := by
        have eK : way t.mask g K = (nth t.mask (prb t.mask g c) (K - c)).j := by rw [places, Nat.add_sub_cancel' h1]
        rw [e0, eK]
        exact told
      rw [told']
      refine wpAny_pure (no _ fun hk => ?_)
      obtain ⟨q', mq, ek⟩ := List.mem_map.mp hk
      obtain ⟨i', hq'⟩ := List.getElem?_of_mem mq
      obtain ⟨d, d1, d2, d3⟩ := ahead i' q' hq' ek
      exact before (d - c) i' (by omega) (by rw [places, Nat.add_sub_cancel' d1]; exact d3) ((hashes i' q' hq').trans ((congrArg (thash P w) ek).trans eg))
theorem look_at (R : SetTR P w s.heap a L es ep t) {x : Addr} {k : List Int} (hx : IsT P w s.heap k x) (room : A.units < cLine) {Q : SetFound → Shared → Prop} (yes : ∀ i, k ∈ L.map (·.2) → Q (.there (some i)) s) (no : ∀ j, k ∉ L.map (·.2) → Q (.free j false) s) :
    wpAny (model P w) A (setSearch a (.ref x) (thash P w k)) Q E s := by
  have rm := R.room
  obtain ⟨K, few, gap, full⟩ := R.tab.first (by rw [List.length_map]; omega) (thash P w k)
  have turns : 10 * SetTable.turns t.mask ≤ 1420 := by
    unfold SetTable.turns
    rcases R.tab.mok with e | e | e <;> rw [e] <;> decide
  unfold setSearch
  refine look_from R hx room rfl few gap full yes no 100000 0 none rfl (Nat.zero_le _) (by omega) fun i q hq ek => ?_
  have sz := R.tab.sz
  rw [List.length_map] at sz
  have inL := (List.getElem?_eq_some_iff.mp hq).1
  obtain ⟨j, hj⟩ : ∃ j, t.place.toList[i]? = some j := ⟨_, List.getElem?_eq_getElem (by rw [Array.length_toList]; omega)⟩
  obtain ⟨d, hd, e⟩ := R.tab.before gap (by rw [List.getElem?_map, hq, ← ek]; rfl) hj
  exact ⟨d, Nat.zero_le _, hd, by rw [hj, e]⟩
theorem find_at (R : SetTR P w s.heap a L es ep t) {x : Addr} {k : List Int} (hx : IsT P w s.heap k x) (room : A.units < cLine) {Q : Option Nat → Shared → Prop} (h : ∀ r : Option Nat, r.isSome = decide (k ∈ L.map (·.2)) → Q r s) :
    wpAny (model P w) A (setFind a (.ref x) (thash P w k)) Q E s := by
  obtain ⟨ob, gob, _, dat⟩ := R.ob
  show wpAny _ _ (setFindIn a (.ref x) (thash P w k) (99999 + 1)) Q E s
  unfold setFindIn
  refine wpAny_bind (wpAny_setState_of gob dat R.fits ?_)
  dsimp only
  rw [if_neg (by simp [byScan, Value.scannable])]
  try refine wpAny_bind (wpAny_pure ?_)
  refine wpAny_bind (look_at R hx room (fun i m => ?_) fun j m => ?_)
  · exact wpAny_pure (h _ (by rw [decide_eq_true m]; rfl))
  · exact wpAny_pure (h _ (by rw [decide_eq_false m]; rfl))
theorem has_at (R : SetTR P w s.heap a L es ep t) {x : Addr} {k : List Int} (hx : IsT P w s.heap k x) (room : A.units + 64 < cLine) {Q : Bool → Shared → Prop} (h : ∀ tk, Q (decide (k ∈ L.map (·.2))) { s with toks := tk }) :
    wpAny (model P w) A (contains (.ref a) (.ref x)) Q E s := by
  have isSet : s.TypeIs (.ref a) "set" := by
    obtain ⟨ob, gob, ex, _⟩ := R.ob
    exact ⟨ob, gob, ex.1⟩
  have in1 : A.in1.units < cLine := by
    have e : A.in1.units ≤ A.units + 1 := by simp only [Around.in1_units]; omega
    omega
  have ne : ¬ ((some (Value.builtin "set.__contains__") == some Value.none) = true) := by rw [beq_builtin_none]; simp
  unfold contains; try with_reducible refine wpAny_holding ?_
  refine wpAny_bind (wpAny_specialOf isSet F.slot_set_contains.lookup ?_); refine wp_if_neg ne ?_
  refine wpAny_bind (wpAny_callSpecialUnlessNone?_slot (name := Str.ofString "__contains__") isSet F.slot_set_contains (wpAny_call_entry F.slot_set_contains isSet entry_set_contains ?_ (F.args_set_contains_2 _ _)))
  unfold Builtin.«frozenset.__contains__» Builtin.Frozenset.oneOther Builtin.Frozenset.addrOf Builtin.Frozenset.withSetAsKey setContains
  simp only [bind_assoc, List.isEmpty_nil]
  refine wpAny_bind (wpAny_pure ?_); try dsimp only
  refine wpAny_bind (wpAny_pure ?_); try dsimp only
  refine wpAny_bind (wpAny_tryCatch (wpAny_holding ?_))
  refine wpAny_bind (wpAny_pyHash_tuple in1 hx ?_)
  refine wpAny_bind (find_at (s := { s with toks := s.toks + (k.length + 1) }) R hx in1 fun r er => ?_)
  refine wpAny_pure ?_
  show wpAny _ _ (ret (Value.bool r.isSome)) _ _ _
  rw [er]
  exact wpAny_pure ⟨_, rfl, wpAny_truthy_bool (h _)⟩
end
/-- the rows of a set of tuples, all of them tuples still -/
def rTIn (K : PySem.W.Frag) (P : Program) (w : World) (neg : Bool) : R2 := fun x y H Q => ∃ (b a : Addr) (k : List Int) (L : List (Addr × List Int)), x = .ref b ∧ y = .ref a ∧ SqT K H b (k.map V.int) ∧ H a = some (SetTO P w a L) ∧ (∀ p ∈ L, SqT K H p.1 (p.2.map V.int)) ∧ Q (.bl (xor neg (decide (k ∈ L.map (·.2))))) H
theorem setT_get {X : Cx} {pins : List (Addr × Obj)} {σ : L2.St} {H : Hp} {s : Shared} {a : Addr} {L : List (Addr × List Int)} (I : Inv X pins σ H s) (h : H a = some (SetTO X.prog X.w a L)) (all : ∀ p ∈ L, SqT X.K H p.1 (p.2.map V.int)) : ∃ es ep t, SetTR X.prog X.w s.heap a L es ep t := by
  have o : ObjOk X.prog X.w H s.heap a (SetTO X.prog X.w a L) := I.hok a _ h
  exact SetT0.full o.1 fun p hp => I.isT (all p hp)
theorem or_tin {X : Cx} (room : X.A.units + 64 < cLine) : OpR X (compareOp .In) (rTIn X.K X.prog X.w false) := by
  intro pins s σ H x y v u Q I rx ry h
  obtain ⟨b, a, k, L, rfl, rfl, hb, ha, all, q⟩ := h
  cases rx; cases ry
  obtain ⟨es, ep, t, R⟩ := setT_get I ha all
  show wpAny _ _ (do return Value.bool (← contains (.ref a) (.ref b))) _ _ s
  refine wpAny_bind (has_at R (I.isT hb) room fun tk => wpAny_pure ⟨V.bl (decide (k ∈ L.map fun p : Addr × List Int => p.2)), H, I.tok _, rfl, ?_⟩)
  rw [Bool.false_xor] at q
  exact q
theorem or_tnotin {X : Cx} (room : X.A.units + 64 < cLine) : OpR X (compareOp .NotIn) (rTIn X.K X.prog X.w true) := by
  intro pins s σ H x y v u Q I rx ry h
  obtain ⟨b, a, k, L, rfl, rfl, hb, ha, all, q⟩ := h
  cases rx; cases ry
  obtain ⟨es, ep, t, R⟩ := setT_get I ha all
  show wpAny _ _ (do return Value.bool (!(← contains (.ref a) (.ref b)))) _ _ s
  refine wpAny_bind (has_at R (I.isT hb) room fun tk => wpAny_pure ⟨V.bl (!decide (k ∈ L.map fun p : Addr × List Int => p.2)), H, I.tok _, rfl, ?_⟩)
  rw [Bool.true_xor] at q
  exact q
end Ft

set_option Elab.async false
set_option linter.all false
set_option maxRecDepth 100000
set_option maxHeartbeats 8000000
/-! set(t), t a tuple of tuples of ints -/
namespace Ft
open PySem PySem.Spec PyProof.Rows L2
abbrev setO0 (w : World) : Obj := { cls := .type "set", dict := none, data := .set #[] 0 (.fresh 0 0 (!w.params.followText "set-order")) }
theorem get_none {h : Heap} {b : Addr} (le : h.objs.size ≤ b) : h.get? b = none := by
  cases e : h.get? b with
  | none => rfl
  | some o => exact absurd (Nat.lt_of_lt_of_le (Heap.lt_size e) le) (Nat.lt_irrefl _)
section
variable {P : Program} {w : World} {A : Around} {E : Value → Shared → Prop} {s : Shared}
theorem set_of_tups {l : Addr} {items : Array Value} (ks : List (Addr × List Int)) {Q : Value → Shared → Prop} (calm : A.handled = none) (hl : s.heap.IsTuple l items) (its : items.toList = ks.map fun p => Value.ref p.1)
    (hk : ∀ p ∈ ks, IsT P w s.heap p.2 p.1) (few : ks.length < 64) (room : A.units + 3 < cLine)
    (h : ∀ (h' : Heap) (tk : Nat) L es ep t, SetTR P w h' s.heap.objs.size L es ep t → Got ks ks.length L → (∀ b o, s.heap.get? b = some o → h'.get? b = some o) → Q (.ref s.heap.objs.size) { s with heap := h', toks := tk }) :
    wpAny (model P w) A (call (.type "set") [.ref l]) Q E s := by
  have size : items.size = ks.length := by rw [← Array.length_toList, its, List.length_map]
  obtain ⟨c0, tl0, mro⟩ := F.called_set.mro
  have made := F.called_set.made; have sub := F.called_set.sub
  refine wpAny_call (codeAny_of_tree (show wpAny _ _ (callAny (.type "set") _) _ _ _ from ?_))
  refine wpAny_pure ⟨Code.quiet_builtin _ (by decide +kernel), codeAny_builtin F.entry_type_call ?_⟩
  rw [Around.under_plain (weight_type_call_type "set" [.ref l] []) rfl]
  have f1 := F.called_set.notType; have f2 := F.called_set.canCreate; have f3 := F.typeCall_set_1 (.ref l)
  repeat (any_goals (first | assumption | wp_step))
  refine codeAny_mono (code_set_led1 (.ref l) (E := E) (Q₁ := fun v s₁ => v = .ref s.heap.objs.size ∧ s₁ = { s with heap := s.heap.push (setO0 w) }) ⟨rfl, rfl⟩) fun r s₁ hr => ?_
  cases r with
  | error e => exact hr
  | ok fl =>
    cases fl with
    | ret v =>
      obtain ⟨rfl, rfl⟩ := hr
      have gS : (s.heap.push (setO0 w)).get? s.heap.objs.size = some (setO0 w) := Heap.get?_push_size _ rfl
      have tS : Shared.TypeIs { s with heap := s.heap.push (setO0 w) } (.ref s.heap.objs.size) "set" := ⟨_, gS, rfl⟩
      have f4 := F.called_set.init.lookup; have f5 := F.called_set.init.bind (.ref s.heap.objs.size)
      repeat (any_goals (first | assumption | wp_step))
      refine codeAny_mono (codeAny_call_builtin (R := wants (fun r s₂ => r = .none ∧ ∃ h' tk L es ep t, s₂ = { s with heap := h', toks := tk } ∧ SetTR P w h' s.heap.objs.size L es ep t ∧ Got ks ks.length L ∧ (∀ b o, s.heap.get? b = some o → h'.get? b = some o)) E) F.called_set.init.plain F.entry_set_init (check_set_init_1 tS ?_)) fun r₂ s₂ hr₂ => ?_
      · obtain ⟨ol, gl, cl, nl, dl⟩ := hl
        obtain ⟨ocls, odict, odata, oslots⟩ := ol
        simp only at cl dl; subst cl; subst dl
        have gl' : (s.heap.push (setO0 w)).get? l = some { cls := .type "tuple", dict := odict, data := .seq items nl, slots := oslots } := Heap.get?_push_of_some _ gl
        have f6 := F.sub_tuple_set; have f7 := F.sub_tuple_frozenset
        have f8 : (Value.type "tuple" == Value.type "dict") = false := by decide
        have isT : (s.heap.push (setO0 w)).IsTuple l items := ⟨_, gl', rfl, nl, rfl⟩
        unfold Builtin.«set.__init__» noKeywords; unfold Builtin.Frozenset.updateFrom; generalize ePI : pyIter = PI
        wp_walk
        subst ePI
        refine wpAny_pyIter_tuple isT (wpAny_bind (wpAny_runValue ?_))
        have ls : l < s.heap.objs.size := Heap.lt_size gl
        have sz : (s.heap.push (setO0 w)).objs.size = s.heap.objs.size + 1 := Heap.size_push ..
        refine set_update_tups ((Walks.tuple (by simp [calm]) _ l (by rw [sz]; exact Nat.ne_of_lt (Nat.lt_succ_of_lt ls)) items).toS) s.heap.objs.size (by rw [sz]; simp only [List.mem_cons, List.not_mem_nil, or_false, not_or]; exact ⟨Nat.ne_of_lt (Nat.lt_succ_self _), Nat.ne_of_gt ls⟩) ks size few (fun i v hv => ?_) s.heap hk (get_none (Nat.le_refl _)) (fun b hb => get_none (by rw [List.mem_singleton.mp hb, sz]; omega)) (by simp only [Around.in1_units]; omega) (items.size - 0) 0 _ (by omega) (Nat.zero_le _) ⟨⟨_, Heap.get?_push_size _ rfl, rfl, rfl⟩, (isT.push _)⟩ (fun b o e => Heap.get?_push_of_some _ (Heap.get?_push_of_some _ e)) ⟨[], #[], 0, _, setTR_fresh (Heap.get?_push_of_some _ gS), Got.zero ks⟩ fun s' L es ep t mv R' g' kp => ?_
        · have e : items.toList[i]? = some v := by rw [Array.getElem?_toList]; exact hv
          rw [its, List.getElem?_map] at e
          cases ek : ks[i]? with
          | none => rw [ek] at e; cases e
          | some p => rw [ek] at e; exact ⟨p, rfl, (Option.some.inj e).symm⟩
        · obtain ⟨h', g2, d', tk', os'⟩ := s'
          have e1 : g2 = s.gens := mv.gens
          have e2 : d' = s.drawn := mv.drawn
          have e3 : os' = s.os := mv.os
          subst e1 e2 e3
          rw [size] at g'
          exact wpAny_pure (wpAny_pure ⟨rfl, h', tk', L, es, ep, t, rfl, R', g', kp⟩)
      · cases r₂ with
        | error e => exact hr₂
        | ok fl₂ =>
          cases fl₂ with
          | ret r =>
            obtain ⟨rfl, h', tk, L, es, ep, t, rfl, R', g', kp⟩ := hr₂
            repeat (any_goals (first | assumption | wp_step))
            exact h _ _ _ _ _ _ R' g' kp
          | _ => exact hr₂.elim
    | _ => exact hr.elim
end
/-- set(t), t a tuple of tuples of ints -/
def rSetTT (K : PySem.W.Frag) (P : Program) (w : World) : List V → Hp → VK → Prop := fun xs H Q => ∃ (l : Addr) (ks : List (Addr × List Int)), xs = [V.ref l] ∧ SqT K H l (ks.map fun p => V.ref p.1) ∧ (∀ p ∈ ks, SqT K H p.1 (p.2.map V.int)) ∧ ks.length < 64 ∧
  ∀ a L, H a = none → (∀ p ∈ L, p ∈ ks) → (∀ p ∈ ks, p.2 ∈ L.map (·.2)) → Q (.ref a) (upd H a (SetTO P w a L))
theorem cr_setTT {X : Cx} (hc : X.calm = true) (room : X.A.units + 64 < cLine) : CallR X (.type "set") (rSetTT X.K X.prog X.w) := by
  intro pins s σ H xs us Q I r h
  obtain ⟨l, ks, rfl, hl, hk, few, q⟩ := h
  rw [Vals.ref1 r]
  obtain ⟨its, rv, pt, _⟩ := I.tuple hl
  have new : H s.heap.objs.size = none := I.hok.fresh (Nat.le_refl _)
  refine set_of_tups (P := X.prog) (w := X.w) ks (I.ok.hd hc) (show s.heap.IsTuple l its.toArray from pt) (by simpa using refs_of_vals rv) (fun p hp => I.isT (hk p hp)) few (by omega) fun h' tk L es ep t R g kp => ?_
  exact ⟨.ref s.heap.objs.size, upd H s.heap.objs.size (SetTO X.prog X.w s.heap.objs.size L), I.laid (t' := tk) kp (Nat.le_refl _) (setTO_new R.t0), rfl, q _ L new (fun p hp => List.mem_of_mem_take (g.sub p hp)) fun p hp => g.all p (by rw [List.take_length]; exact hp)⟩
end Ft

set_option Elab.async false
set_option linter.all false
set_option maxRecDepth 100000
set_option maxHeartbeats 8000000
namespace Ft
open PySem PySem.Spec PyProof.Rows L2
/-! tuple * int, once or more often -/
theorem tuple_mul1 (l : Addr) (items : Array Value) (n : Nat) (dd : Option Addr) (sl : Array (Option Value)) (u : Tok) :
    Meets (Builtin.«tuple.__mul__» ⟨[.ref l, .int 1 u], []⟩) (fun _ R s => s.heap.get? l = some { cls := .type "tuple", dict := dd, data := .seq items n, slots := sl } ∧ R (.ok (.ret (Value.ref l))) { s with heap := s.heap, toks := s.toks }) :=
  .of_wp fun prog w A R s h => by
    obtain ⟨hp, g, d, tk, os⟩ := s
    obtain ⟨hl, h⟩ := h
    have f1 := AutoSeq1.idx_int
    have c0 : (decide ((1 : Int) < -(2 ^ 63)) || decide ((1 : Int) ≥ 2 ^ 63)) = false := by decide
    have c1 : (items.isEmpty || (1 : Int) == 1) = true := by simp
    wp_walk using wpAny_loadPart' hl
    repeat (first
      | (refine wpAny_ite_false (decide_eq_false (by rw [c0]; exact Bool.false_ne_true)) ?_; wp_walk using wpAny_loadPart' hl)
      | (refine wpAny_ite_true (decide_eq_true (by rw [c1])) ?_; wp_walk using wpAny_loadPart' hl))
    exact ⟨_, rfl, h⟩
def rRep1 (K : PySem.W.Frag) : R2 := fun x y H Q => ∃ l xs, x = .ref l ∧ y = .int 1 ∧ SqT K H l xs ∧ Q (.ref l) H
theorem op_rep1 {X : Cx} : OpR X (binaryOp .Mult) (rRep1 X.K) := by
  intro pins s σ H x y v u Q I rx ry h
  obtain ⟨l, xs, rfl, rfl, hT, q⟩ := h
  have rx' := rx
  cases rx
  obtain ⟨t, rfl⟩ := ry
  obtain ⟨its, r, ⟨⟨cls, dd, data, sl⟩, ho, hc, n, hd⟩, hs⟩ := I.tuple hT
  simp only at hc hd
  subst hc hd
  refine wpAny_binaryOp_repeat_ref (T := "tuple") (U := "int") (by decide) ⟨_, ho, rfl⟩ (fun s' => typeIs_int s' 1 t) noFill_tuple_mul F.fills_int_mul F.slot_int_rmul repeat_tuple F.slot_int_index.lookup
    (call_meets F.slot_int_rmul (typeIs_int s 1 t) F.entry_int_rmul (F.args_int_rmul_2 _ _) (int_rmul_tuple 1 t l its.toArray n dd sl)
      ⟨ho, rfl, ⟨_, ho, rfl⟩, call_meets F.slot_tuple_mul ⟨_, ho, rfl⟩ F.entry_tuple_mul (F.args_tuple_mul_2 _ _) (tuple_mul1 l its.toArray n dd sl t) ⟨ho, ?_⟩⟩)
  exact ⟨.ref l, H, I.tok _, rfl, q⟩
def rRepA (K : PySem.W.Frag) : R2 := fun x y H Q => ∃ l k xs, x = .ref l ∧ y = .int k ∧ SqT K H l xs ∧ xs ≠ [] ∧ 1 ≤ k ∧ k ≤ 1000 ∧ xs.length ≤ 1000 ∧ ∀ p H', Same H H' → SqT K H' p (List.replicate k.toNat xs).flatten → Q (.ref p) H'
theorem op_repA {X : Cx} : OpR X (binaryOp .Mult) (rRepA X.K) := by
  intro pins s σ H x y v u Q I rx ry h
  obtain ⟨l, k, xs, rfl, rfl, hT, ne, k1, k2, few, q⟩ := h
  by_cases e : k = 1
  · subst e
    refine op_rep1 pins s σ H _ _ _ _ Q I rx ry ⟨l, xs, rfl, rfl, hT, q l H (fun _ _ h => h) ?_⟩
    show SqT X.K H l (List.replicate 1 xs).flatten
    simpa using hT
  · exact op_repT pins s σ H _ _ _ _ Q I rx ry ⟨l, k, xs, rfl, rfl, hT, ne, by omega, k2, few, fun p hp => q p _ (same_upd hp) (.inl (.inl upd_same))⟩
open RZ in
theorem walk_zipT {K : PySem.W.Frag} {a b : Addr} {xs ys : List V} {n : Nat} (hn : n = min xs.length ys.length) : Walk (ItzT K a b) n (fun H => SqT K H a xs ∧ SqT K H b ys) (YPair (fun i => xs[i]?) (fun i => ys[i]?)) := by
  subst hn
  refine ⟨fun i _ hi q => ?_, fun _ q => ⟨xs, ys, q.1, q.2, by omega⟩, fun i H v H' _ q y => ?_⟩
  · have h1 : i < xs.length := by omega
    have h2 : i < ys.length := by omega
    exact ⟨xs, ys, xs[i], ys[i], q.1, q.2, by simp [h1], by simp [h2]⟩
  · obtain ⟨T, x, z, h1, h2, h3, h4, h5⟩ := y
    exact ⟨T, x, z, h1, h2, h3, h4 xs q.1, h5 ys q.2⟩
end Ft

set_option Elab.async false
set_option linter.all false
set_option maxRecDepth 100000
set_option maxHeartbeats 8000000
/-! for x in zip(t, u), x one name, t and u tuples: the pair that was given out last is held still. -/
namespace Ft
open PySem PySem.Spec PyProof.Rows L2 RZ
section
variable {prog : Program} {w : World} {A : Around} {E : Value → Shared → Prop} {s : Shared} {z TI TO T i1 i2 l1 l2 : Addr} {f : Bool} {oT : Obj} {k1 k2 : Nat} {xs ys : Array Value}
theorem zipN_item {x y : Value} {Q : Value → Shared → Prop} (D : ZipApart z TI TO i1 i2 l1 l2) (hz : IsZipHeld s.heap z TI TO T f) (hT : s.heap.get? T = some oT) (hTI : IsPair s.heap TI (.ref i1) (.ref i2))
    (t1 : s.heap.IsTupleIter i1 l1 k1) (t2 : s.heap.IsTupleIter i2 l2 k2) (hl1 : s.heap.IsTuple l1 xs) (hl2 : s.heap.IsTuple l2 ys) (hx : xs[k1]? = some x) (hy : ys[k2]? = some y)
    (q : ∀ h', IsZipHeld h' z TI TO T true → h'.IsTupleIter i1 l1 (k1 + 1) → h'.IsTupleIter i2 l2 (k2 + 1) → IsPair h' s.heap.objs.size x y → (∀ c o, c ≠ z → c ≠ i1 → c ≠ i2 → s.heap.get? c = some o → h'.get? c = some o) → Q (.ref s.heap.objs.size) { s with heap := h' }) :
    wpAny (model prog w) A (Builtin.«zip.__next__» ⟨[.ref z], []⟩) (fun fin s' => ∃ v, fin = .done (.ret v) ∧ Q v s') E s := by
  show wpAny _ _ (field (.ref z) 2 >>= _) _ _ _
  refine wpAny_bind (wpAny_field hz rfl (x := .bool false) rfl (show wpAny _ _ (field (.ref z) 3 >>= _) _ _ _ from wpAny_bind (wpAny_field hz rfl (x := .ref TI) rfl (wpAny_bind (wpAny_seqItems hTI rfl ?_)))))
  refine (show wpAny _ _ (Builtin.SmallTypes.ownedTupleIsFree (.ref z) >>= _) _ _ _ from wpAny_bind (wpAny_tupleHeld_zip hz hT fun g1 z1 b1 => ?_))
  simp only [Bool.false_eq_true, if_false]; refine wpAny_bind ?_; rw [← Array.forIn_toList]
  simp only [List.forIn_cons, List.forIn_nil]; refine wpAny_bind (wpAny_bind (wpAny_holding ?_))
  refine (show wpAny _ _ (Builtin.SmallTypes.nextOf (.ref i1) >>= _) _ _ _ from wpAny_bind (nextOf_tuple_item (s := { s with heap := g1 }) (t1.extBut b1.extBut D.i1z) (hl1.extBut b1.extBut D.l1z) hx fun g2 u1 b2 => wpAny_pure (wpAny_pure ?_)))
  refine wpAny_bind (wpAny_bind (wpAny_holding (show wpAny _ _ (Builtin.SmallTypes.nextOf (.ref i2) >>= _) _ _ _ from ?_)))
  refine wpAny_bind (nextOf_tuple_item (s := { s with heap := g2 }) ((t2.extBut b1.extBut D.i2z).extBut b2.extBut D.i12.symm) ((hl2.extBut b1.extBut D.l2z).extBut b2.extBut D.l2i1) hy fun g3 u2 b3 => wpAny_pure (wpAny_pure (wpAny_pure ?_)))
  refine (show wpAny _ _ (newTuple [x, y] >>= _) _ _ _ from wpAny_bind (wpAny_newTuple ?_))
  have sz : g3.objs.size = s.heap.objs.size := b3.1.trans (b2.1.trans b1.1)
  have z3 : IsZipHeld g3 z TI TO T true := b3.extBut _ _ D.i2z.symm (b2.extBut _ _ D.i1z.symm z1)
  have kp : ∀ c o, c ≠ z → c ≠ i1 → c ≠ i2 → s.heap.get? c = some o → g3.get? c = some o := fun c o n1 n2 n3 e => b3.extBut _ _ n3 (b2.extBut _ _ n2 (b1.extBut _ _ n1 e))
  have pr : IsPair (g3.push { cls := .type "tuple", data := .seq #[x, y] }) g3.objs.size x y := Heap.get?_push_size _ rfl
  refine wpAny_pure ⟨_, rfl, (show Q (.ref g3.objs.size) _ from ?_)⟩
  rw [sz] at pr ⊢
  exact q _ (Heap.get?_push_of_some _ z3) ((u1.extBut b3.extBut D.i12).at fun o e => Heap.get?_push_of_some _ e) (u2.at fun o e => Heap.get?_push_of_some _ e) pr fun c o n1 n2 n3 e => Heap.get?_push_of_some _ (kp c o n1 n2 n3 e)
theorem zipN_end {Q : Fin → Shared → Prop} (calm : A.handled = none) (D : ZipApart z TI TO i1 i2 l1 l2) (hz : IsZipHeld s.heap z TI TO T f) (hT : s.heap.get? T = some oT) (hTI : IsPair s.heap TI (.ref i1) (.ref i2))
    (t1 : s.heap.IsTupleIter i1 l1 k1) (t2 : s.heap.IsTupleIter i2 l2 k2) (hl1 : s.heap.IsTuple l1 xs) (hl2 : s.heap.IsTuple l2 ys) (fin : xs[k1]? = none ∨ ys[k2]? = none)
    (q : ∀ h' e, (∀ c o, c ≠ z → c ≠ i1 → c ≠ i2 → s.heap.get? c = some o → h'.get? c = some o) → (∃ o, h'.get? e = some o ∧ o.cls = .type "StopIteration") → E (.ref e) { s with heap := h' }) : wpAny (model prog w) A (Builtin.«zip.__next__» ⟨[.ref z], []⟩) Q E s := by
  show wpAny _ _ (field (.ref z) 2 >>= _) _ _ _
  refine wpAny_bind (wpAny_field hz rfl (x := .bool false) rfl (show wpAny _ _ (field (.ref z) 3 >>= _) _ _ _ from wpAny_bind (wpAny_field hz rfl (x := .ref TI) rfl (wpAny_bind (wpAny_seqItems hTI rfl ?_)))))
  refine (show wpAny _ _ (Builtin.SmallTypes.ownedTupleIsFree (.ref z) >>= _) _ _ _ from wpAny_bind (wpAny_tupleHeld_zip hz hT fun g1 z1 b1 => ?_))
  simp only [Bool.false_eq_true, if_false]; refine wpAny_bind ?_; rw [← Array.forIn_toList]
  simp only [List.forIn_cons, List.forIn_nil]; refine wpAny_bind (wpAny_bind (wpAny_holding ?_))
  refine (show wpAny _ _ (Builtin.SmallTypes.nextOf (.ref i1) >>= _) _ _ _ from ?_)
  cases hx : xs[k1]? with
  | none => exact wpAny_bind (nextOf_tuple_end (s := { s with heap := g1 }) calm (t1.extBut b1.extBut D.i1z) (hl1.extBut b1.extBut D.l1z) hx fun g2 e b2 he => q g2 e (fun c o n1 n2 _ v => b2 _ _ n2 (b1.extBut _ _ n1 v)) he)
  | some x =>
    have hy : ys[k2]? = none := fin.elim (fun v => by rw [hx] at v; cases v) id
    refine wpAny_bind (nextOf_tuple_item (s := { s with heap := g1 }) (t1.extBut b1.extBut D.i1z) (hl1.extBut b1.extBut D.l1z) hx fun g2 u1 b2 => wpAny_pure (wpAny_pure ?_))
    refine wpAny_bind (wpAny_bind (wpAny_holding (show wpAny _ _ (Builtin.SmallTypes.nextOf (.ref i2) >>= _) _ _ _ from ?_)))
    exact wpAny_bind (nextOf_tuple_end (s := { s with heap := g2 }) calm ((t2.extBut b1.extBut D.i2z).extBut b2.extBut D.i12.symm) ((hl2.extBut b1.extBut D.l2z).extBut b2.extBut D.l2i1) hy fun g3 e b3 he => q g3 e (fun c o n1 n2 n3 v => b3 _ _ n3 (b2.extBut _ _ n2 (b1.extBut _ _ n1 v))) he)
theorem nextN_item {x y : Value} {Q : Option Value → Shared → Prop} (D : ZipApart z TI TO i1 i2 l1 l2) (hz : IsZipHeld s.heap z TI TO T f) (hT : s.heap.get? T = some oT) (hTI : IsPair s.heap TI (.ref i1) (.ref i2))
    (t1 : s.heap.IsTupleIter i1 l1 k1) (t2 : s.heap.IsTupleIter i2 l2 k2) (hl1 : s.heap.IsTuple l1 xs) (hl2 : s.heap.IsTuple l2 ys) (hx : xs[k1]? = some x) (hy : ys[k2]? = some y)
    (q : ∀ h', IsZipHeld h' z TI TO T true → h'.IsTupleIter i1 l1 (k1 + 1) → h'.IsTupleIter i2 l2 (k2 + 1) → IsPair h' s.heap.objs.size x y → (∀ c o, c ≠ z → c ≠ i1 → c ≠ i2 → s.heap.get? c = some o → h'.get? c = some o) → Q (some (.ref s.heap.objs.size)) { s with heap := h' }) :
    wpAny (model prog w) A (pyNext (.ref z)) Q E s := by
  have ty : s.TypeIs (.ref z) "zip" := ⟨_, hz, rfl⟩
  unfold pyNext; refine wpAny_bind (wpAny_attempt (wpAny_callSpecial?_slot (name := Str.ofString "__next__") ty F.slot_zip_next ?_))
  exact wpAny_call_entry F.slot_zip_next ty F.entry_zip_next (zipN_item D hz hT hTI t1 t2 hl1 hl2 hx hy fun h' a b c d e => wpAny_pure (q h' a b c d e)) (F.args_zip_next_1 _)
theorem nextN_end {Q : Option Value → Shared → Prop} (calm : A.handled = none) (D : ZipApart z TI TO i1 i2 l1 l2) (hz : IsZipHeld s.heap z TI TO T f) (hT : s.heap.get? T = some oT) (hTI : IsPair s.heap TI (.ref i1) (.ref i2))
    (t1 : s.heap.IsTupleIter i1 l1 k1) (t2 : s.heap.IsTupleIter i2 l2 k2) (hl1 : s.heap.IsTuple l1 xs) (hl2 : s.heap.IsTuple l2 ys) (fin : xs[k1]? = none ∨ ys[k2]? = none)
    (q : ∀ h', (∀ c o, c ≠ z → c ≠ i1 → c ≠ i2 → s.heap.get? c = some o → h'.get? c = some o) → Q none { s with heap := h' }) : wpAny (model prog w) A (pyNext (.ref z)) Q E s := by
  have ty : s.TypeIs (.ref z) "zip" := ⟨_, hz, rfl⟩
  unfold pyNext; refine wpAny_bind (wpAny_attempt (wpAny_callSpecial?_slot (name := Str.ofString "__next__") ty F.slot_zip_next ?_))
  refine wpAny_call_entry F.slot_zip_next ty F.entry_zip_next (zipN_end calm D hz hT hTI t1 t2 hl1 hl2 fin fun h' e kp he => ?_) (F.args_zip_next_1 _)
  obtain ⟨o, ho, hc⟩ := he
  exact wpAny_bind (wpAny_isInstance (T := "StopIteration") (b := true) ⟨o, ho, hc⟩ isSubtype_stop (wpAny_pure (q _ kp)))
end
end Ft

set_option Elab.async false
set_option linter.all false
set_option maxRecDepth 100000
set_option maxHeartbeats 8000000
/-! [e for x in zip(t, u)], x one name, t and u tuples -/
namespace Ft
open PySem PySem.Spec PyProof.Rows L2 RZ
/-- the items in pairs of their own; W by the turns that are done -/
def tLcZ (K : PySem.W.Frag) (ta : TA) (i : Nat) (te : TE) (vs : List Nat) : TE := fun σ H Q => ta σ H fun as H1 => ∃ (a b : Addr) (xs ys : List V), as = [.ref a, .ref b] ∧ SqT K H1 a xs ∧ SqT K H1 b ys ∧ ∀ D, H1 D = none → ∃ W : Nat → Hp → Prop, W 0 (upd H1 D (.lst [])) ∧
  (∀ j H, W j H → SqT K H a xs ∧ SqT K H b ys) ∧ (∀ j x y H T, W j H → xs[j]? = some x → ys[j]? = some y → H T = none → gName i (.ref T) (wipe σ vs) (upd H T (.tup [x, y])) fun σ2 H2 => wipe σ2 vs = wipe σ vs ∧ te σ2 H2 fun v H3 => ∃ acc, H3 D = some (.lst acc) ∧ acc.length < sizeLine ∧ (∀ c ps, upd H T (.tup [x, y]) c = some (.tup ps) → H3 c = some (.tup ps)) ∧ W (j + 1) (upd H3 D (.lst (acc ++ [v])))) ∧
  ∀ H, W (min xs.length ys.length) H → Q (.ref D) H
/-- the zip as it stands between two turns: nothing given out yet, or a pair that is tracked -/
def ZAt (h : Heap) (H : Hp) (z TI TO i1 i2 a b : Addr) (j : Nat) : Prop := IsPair h TI (.ref i1) (.ref i2) ∧ h.IsTupleIter i1 a j ∧ h.IsTupleIter i2 b j ∧ (∃ x y, IsPair h TO x y) ∧ (IsZip h z TI TO .none ∨ ∃ (T : Addr) (f : Bool) (ps : List V), IsZipHeld h z TI TO T f ∧ H T = some (.tup ps))
theorem ZAt.keep {h h' : Heap} {H H' : Hp} {z TI TO i1 i2 a b : Addr} {j : Nat} (q : ZAt h H z TI TO i1 i2 a b j) (k : ∀ c ∈ [z, TI, TO, i1, i2], ∀ o, h.get? c = some o → h'.get? c = some o) (t : ∀ c ps, H c = some (.tup ps) → H' c = some (.tup ps)) : ZAt h' H' z TI TO i1 i2 a b j := by
  obtain ⟨q1, q2, q3, ⟨x, y, q4⟩, q5⟩ := q
  refine ⟨k _ (by simp) _ q1, q2.at fun o e => k _ (by simp) o e, q3.at fun o e => k _ (by simp) o e, ⟨x, y, k _ (by simp) _ q4⟩, ?_⟩
  rcases q5 with q5 | ⟨T, f, ps, q5, q6⟩
  · exact .inl (k _ (by simp) _ q5)
  · exact .inr ⟨T, f, ps, k _ (by simp) _ q5, t _ _ q6⟩
theorem ZAt.lt {h : Heap} {H : Hp} {z TI TO i1 i2 a b : Addr} {j : Nat} (q : ZAt h H z TI TO i1 i2 a b j) : ∀ c ∈ [z, TI, TO, i1, i2], ∃ o, h.get? c = some o ∧ ∀ v, o.data ≠ .cell v := by
  obtain ⟨q1, ⟨o1, e1, _, d1⟩, ⟨o2, e2, _, d2⟩, ⟨x, y, q4⟩, q5⟩ := q
  intro c hc
  have hc' : c = z ∨ c = TI ∨ c = TO ∨ c = i1 ∨ c = i2 := by simpa using hc
  rcases hc' with rfl | rfl | rfl | rfl | rfl
  · rcases q5 with q5 | ⟨T, f, ps, q5, _⟩
    · exact ⟨_, q5, fun v q => nomatch q⟩
    · exact ⟨_, q5, fun v q => nomatch q⟩
  · exact ⟨_, q1, fun v q => nomatch q⟩
  · exact ⟨_, q4, fun v q => nomatch q⟩
  · exact ⟨o1, e1, fun v q => by rw [d1] at q; cases q⟩
  · exact ⟨o2, e2, fun v q => by rw [d2] at q; cases q⟩
section
variable {X : Cx}
/-- the next pair -/
theorem zNext {pins : List (Addr × Obj)} {σ : L2.St} {H : Hp} {s : Shared} {z TI TO i1 i2 a b : Addr} {j : Nat} {xs ys : List V} {x y : V} {E : Value → Shared → Prop} {Q : Option Value → Shared → Prop} (D : ZipApart z TI TO i1 i2 a b) (I : Inv X pins σ H s) (fp : ∀ c ∈ [z, TI, TO, i1, i2], FpOk X pins H c) (q : ZAt s.heap H z TI TO i1 i2 a b j)
    (ha : SqT X.K H a xs) (hb : SqT X.K H b ys) (hx : xs[j]? = some x) (hy : ys[j]? = some y)
    (h : ∀ s' T, H T = none → Inv X pins σ (upd H T (.tup [x, y])) s' → ZAt s'.heap (upd H T (.tup [x, y])) z TI TO i1 i2 a b (j + 1) → (∀ c ∈ [z, TI, TO, i1, i2], upd H T (.tup [x, y]) c = none) → Q (some (.ref T)) s') : wpAny (model X.prog X.w) X.A (pyNext (.ref z)) Q E s := by
  have there := q.lt
  obtain ⟨qTI, q1, q2, ⟨x0, y0, qTO⟩, q5⟩ := q
  obtain ⟨its, rv, p1, _⟩ := I.tuple ha
  obtain ⟨its2, rv2, p2, _⟩ := I.tuple hb
  obtain ⟨u, hu, ru⟩ := rv.get hx
  obtain ⟨u2, hu2, ru2⟩ := rv2.get hy
  have new : H s.heap.objs.size = none := I.hok.fresh (Nat.le_refl _)
  have out : ∀ c ∈ [z, TI, TO, i1, i2], upd H s.heap.objs.size (.tup [x, y]) c = none := fun c hc => by
    obtain ⟨o, e, _⟩ := there c hc
    rw [upd_ne (Nat.ne_of_lt (Heap.lt_size e))]
    exact (fp c hc).1
  have go : ∀ h', IsPair h' s.heap.objs.size u u2 → (∀ c o, c ≠ z → c ≠ TO → c ≠ i1 → c ≠ i2 → s.heap.get? c = some o → h'.get? c = some o) → (∃ v w, IsPair h' TO v w) → h'.IsTupleIter i1 a (j + 1) → h'.IsTupleIter i2 b (j + 1) →
      (∃ T f ps, IsZipHeld h' z TI TO T f ∧ upd H s.heap.objs.size (.tup [x, y]) T = some (.tup ps)) → Q (some (.ref s.heap.objs.size)) { s with heap := h' } := fun h' pr kp to' a1 a2 held => by
    have ob : ObjOk X.prog X.w (upd H s.heap.objs.size (.tup [x, y])) h' s.heap.objs.size (.tup [x, y]) := ⟨by show 2 ≤ sizeLine; decide, [u, u2], .cons ru (.cons ru2 .nil), ⟨_, pr, rfl, _, rfl⟩⟩
    refine h _ _ new (I.turnedNew (t' := s.toks) (ch := [z, TI, TO, i1, i2]) (fun c o hc e => kp c o (fun n => hc (by simp [n])) (fun n => hc (by simp [n])) (fun n => hc (by simp [n])) (fun n => hc (by simp [n])) e) fp (Nat.le_refl _) ob) ⟨kp _ _ D.TIz D.TITO D.TIi1 D.TIi2 qTI, a1, a2, to', .inr held⟩ out
  rcases q5 with qz | ⟨T, f, ps, qz, hT⟩
  · refine pyNext_zipT_item D qz qTI qTO q1 q2 p1 p2 (x := u) (y := u2) (by simpa using hu) (by simpa using hu2) fun h' z' to' a1 a2 pr _ kp => ?_
    exact go h' pr kp ⟨_, _, to'⟩ a1 a2 ⟨_, false, _, z', upd_same⟩
  · obtain ⟨_, _, _, ⟨oT, gT, _⟩⟩ : ObjOk X.prog X.w H s.heap T (.tup ps) := I.hok T _ hT
    refine nextN_item D qz gT qTI q1 q2 p1 p2 (x := u) (y := u2) (by simpa using hu) (by simpa using hu2) fun h' z' a1 a2 pr kp => ?_
    refine go h' pr (fun c o n1 _ n3 n4 e => kp c o n1 n3 n4 e) ⟨_, _, kp _ _ D.TOz D.TOi1 D.TOi2 qTO⟩ a1 a2 ⟨T, true, ps, z', ?_⟩
    rw [upd_ne (fun e => by rw [e, new] at hT; cases hT)]
    exact hT
/-- the end -/
theorem zDone {pins : List (Addr × Obj)} {σ : L2.St} {H : Hp} {s : Shared} {z TI TO i1 i2 a b : Addr} {j : Nat} {xs ys : List V} {E : Value → Shared → Prop} {Q : Option Value → Shared → Prop} (hc : X.calm = true) (D : ZipApart z TI TO i1 i2 a b) (I : Inv X pins σ H s) (fp : ∀ c ∈ [z, TI, TO, i1, i2], FpOk X pins H c) (q : ZAt s.heap H z TI TO i1 i2 a b j)
    (ha : SqT X.K H a xs) (hb : SqT X.K H b ys) (fin : xs.length ≤ j ∨ ys.length ≤ j) (h : ∀ s', Inv X pins σ H s' → Q none s') : wpAny (model X.prog X.w) X.A (pyNext (.ref z)) Q E s := by
  obtain ⟨qTI, q1, q2, ⟨x0, y0, qTO⟩, q5⟩ := q
  obtain ⟨its, rv, p1, _⟩ := I.tuple ha
  obtain ⟨its2, rv2, p2, _⟩ := I.tuple hb
  have n1 := rv.length
  have n2 := rv2.length
  have no : its.toArray[j]? = none ∨ its2.toArray[j]? = none := fin.elim (fun e => .inl (by simp; omega)) fun e => .inr (by simp; omega)
  have go : ∀ h', (∀ c o, c ≠ z → c ≠ TO → c ≠ i1 → c ≠ i2 → s.heap.get? c = some o → h'.get? c = some o) → Q none { s with heap := h' } := fun h' kp => h _ (I.turnedL (t' := s.toks) (ch := [z, TI, TO, i1, i2]) (fun c o hc e => kp c o (fun n => hc (by simp [n])) (fun n => hc (by simp [n])) (fun n => hc (by simp [n])) (fun n => hc (by simp [n])) e) fp)
  rcases q5 with qz | ⟨T, f, ps, qz, hT⟩
  · exact pyNext_zipT_end (I.ok.hd hc) D qz qTI qTO q1 q2 p1 p2 no go
  · obtain ⟨_, _, _, ⟨oT, gT, _⟩⟩ : ObjOk X.prog X.w H s.heap T (.tup ps) := I.hok T _ hT
    exact nextN_end (I.ok.hd hc) D qz gT qTI q1 q2 p1 p2 no fun h' kp => go h' fun c o m1 _ m3 m4 e => kp c o m1 m3 m4 e
theorem pe_lcZ {elt e1 e2 : Expr} {nx : Str} {px pz cpos pos : Pos} {scope : Scope} {own : List (Str × Nat)} {i : Nat} {ta : TA} {te : TE} (hc : X.calm = true) (hN : X.N.Nodup) (hg : Gl X "zip") (hm : X.mg "zip" = none) (ha : PA X [e1, e2] ta) (ok : BlkOk X.N X.env.scope scope own)
    (pg : ∀ (s : Shared) (H : Hp) (C : Addr) (cl : List (Str × Addr)) (fp : List Addr), PG (X.blk s H scope (compEnvC scope cl C X.env) fp) (.Name nx px) (gName i)) (he : ∀ (s : Shared) (H : Hp) (C : Addr) (cl : List (Str × Addr)) (fp : List Addr), PE (X.blk s H scope (compEnvC scope cl C X.env) fp) elt te)
    (st : starEach [e1, e2] X.env = (false, eval e1 X.env) :: starEach [e2] X.env := by rfl) (pl : (backTo cpos (starEach [e2] X.env)).any (·.1) = false := by rfl) (fs : ∀ x, foldedSetIterable (.Call (.Name "zip" pz) [e1, e2] [] cpos) X.env x = pure x := by intro _; rfl) :
    PE X (.ListComp elt [⟨.Name nx px, .Call (.Name "zip" pz) [e1, e2] [] cpos, [], 0⟩] scope pos) (tLcZ X.K ta i te (own.map (·.2))) := by
  refine ⟨fun pins s σ H Q I h => ?_⟩
  rw [eval_ListComp]
  have free : ∀ y ∈ scope.names, y.2 = .free → ∃ c, X.env.cells.lookup y.1 = some c := fun y hy e => (ok.free y hy e).elim (fun k => I.ok.has _ (.inl k)) fun k => I.ok.has _ (.inr k)
  refine wpAny_comprehension_free (use := none) rfl fs (closure_ok free) ok.kind (fun y hy e => by rw [ok.uniq y hy, e]) ?_
  refine Call_ (ld_blt I hg hm PyProof.Rows.boot_zip (PyProof.Rows.callWith_type1 (thn (ha.run cpos pins s σ H _ I h) fun us s1 ⟨vs, H1, I1, r1, q1⟩ => ?_) st pl))
  obtain ⟨a, b, xs, ys, rfl, hx, hy, q⟩ := q1
  cases r1 with
  | cons r rr => cases rr with
    | cons r' rr =>
      cases rr; cases r; cases r'
      obtain ⟨its, rv, p1, _⟩ := I1.tuple hx
      obtain ⟨its2, rv2, p2, _⟩ := I1.tuple hy
      obtain ⟨o1, g1, _⟩ := id p1
      obtain ⟨o2, g2, _⟩ := id p2
      refine call_zipT (show s1.heap.IsTuple a its.toArray from p1) (show s1.heap.IsTuple b its2.toArray from p2) fun h' hz hTI hTO t1 t2 sz1 kp1 => wpAny_pyIter_zip hz ?_
      have D := PySem.W.ktu_apart s1.heap.objs.size a b (Heap.lt_size g1) (Heap.lt_size g2)
      generalize ez : s1.heap.objs.size + 4 = z at hz D
      generalize eTI : s1.heap.objs.size + 2 = TI at hz hTI D
      generalize eTO : s1.heap.objs.size + 3 = TO at hz hTO D
      generalize ei2 : s1.heap.objs.size + 1 = i2 at hTI t2 D
      generalize ei1 : s1.heap.objs.size = i1 at hTI t1 D ez eTI eTO ei2
      have I2 : Inv X pins σ H1 { s1 with heap := h' } := I1.kept (t' := s1.toks) kp1
      have low : ∀ c ∈ [z, TI, TO, i1, i2], s1.heap.objs.size ≤ c ∧ c < h'.objs.size := by
        intro c hc
        simp only [List.mem_cons, List.not_mem_nil, or_false] at hc
        rcases hc with e | e | e | e | e <;> rw [e, sz1] <;> omega
      have ok1 : ∀ c ∈ [z, TI, TO, i1, i2], FpOk X pins H1 c := fun c hc => I1.fpOk (low c hc).1 (I1.hok.fresh (low c hc).1)
      have zt : ZAt h' H1 z TI TO i1 i2 a b 0 := ⟨hTI, t1, t2, ⟨_, _, hTO⟩, .inl hz⟩
      refine wpAny_newObj_type (newEnv_comp ?_) (by show 0 ≤ sizeLine; decide)
      generalize eL : ({ s1 with heap := h' } : Shared).heap.objs.size = L
      have nL : H1 L = none := I2.hok.fresh (Nat.le_of_eq eL)
      obtain ⟨W, w0, keepW, turn, last⟩ := q L nL
      generalize es3 : ({ s1 with heap := h'.push { cls := .type "list", data := .seq ([] : List Value).toArray } } : Shared) = s3
      have h3 : s3.heap = h'.push { cls := .type "list", data := .seq ([] : List Value).toArray } := by rw [← es3]
      have I3 : Inv X pins σ (upd H1 L (.lst [])) s3 := by
        rw [← es3]
        refine I2.laid (t' := s1.toks) (fun c o e => Heap.get?_push_of_some _ e) (Nat.le_of_eq eL) ⟨Nat.zero_le _, [], 0, .nil, ?_⟩
        rw [← eL]
        exact Heap.get?_push_size _ rfl
      have eL' : h'.objs.size = L := eL
      have ok3 : ∀ c ∈ [z, TI, TO, i1, i2], FpOk X pins (upd H1 L (.lst [])) c ∧ c < s3.heap.objs.size := fun c hc => by
        refine ⟨⟨?_, (ok1 c hc).2⟩, by rw [h3, Heap.size_push]; exact Nat.lt_succ_of_lt (low c hc).2⟩
        rw [upd_ne (by rw [← eL']; exact Nat.ne_of_lt (low c hc).2)]
        exact (ok1 c hc).1
      have I4 := block_start I3 ok hN ok3
      have pg4 := pg s3 (upd H1 L (.lst [])) s3.heap.objs.size (cellsFrom (s3.heap.objs.size + 1) scope.names (cloFrom X.env.cells scope.names [])) [z, TI, TO, i1, i2]
      have pe4 := he s3 (upd H1 L (.lst [])) s3.heap.objs.size (cellsFrom (s3.heap.objs.size + 1) scope.names (cloFrom X.env.cells scope.names [])) [z, TI, TO, i1, i2]
      show codeAny _ _ (.compStart (.ListComp elt [⟨.Name nx px, .Call (.Name "zip" pz) [e1, e2] [] cpos, [], 0⟩] scope pos) 0 (.ref z) (.ref L) (compEnvC scope (cellsFrom (s3.heap.objs.size + 1) scope.names (cloFrom X.env.cells scope.names [])) s3.heap.objs.size X.env)) (compPost (model X.prog X.w) X.A X.xe none (EP X pins σ Q) (.ref L) s3.heap.objs.size) { s3 with heap := pushCells (s3.heap.push { cls := .type "dict", data := .dict #[] }) scope.names }
      have nfp : ∀ c ∈ [z, TI, TO, i1, i2], (upd H1 L (.lst [])) c = none := fun c hc => (ok3 c hc).1.1
      have tups : ∀ c ps, H1 c = some (.tup ps) → upd H1 L (.lst []) c = some (.tup ps) := fun c ps e => by rw [upd_ne (fun n => by rw [n, nL] at e; cases e)]; exact e
      generalize ece : compEnvC scope (cellsFrom (s3.heap.objs.size + 1) scope.names (cloFrom X.env.cells scope.names [])) s3.heap.objs.size X.env = ce at I4 pg4 pe4 ⊢
      have cL : ce.locals = s3.heap.objs.size := by rw [← ece]; rfl
      generalize upd H1 L (.lst []) = H3 at I3 I4 pg4 pe4 w0 nfp ok3 tups
      generalize es4 : ({ s3 with heap := pushCells (s3.heap.push { cls := .type "dict", data := .dict #[] }) scope.names } : Shared) = s4 at I4 ⊢
      have k4 : ∀ c o, h'.get? c = some o → s4.heap.get? c = some o := fun c o e => by rw [← es4]; exact pushCells_keeps _ _ _ _ (Heap.get?_push_of_some _ (by rw [h3]; exact Heap.get?_push_of_some _ e))
      have z4 : ZAt s4.heap H3 z TI TO i1 i2 a b 0 := zt.keep (fun c _ o e => k4 c o e) tups
      have stat : ∀ {σ' : L2.St} {H' : Hp} {s' : Shared}, Inv (X.blk s3 H3 scope ce [z, TI, TO, i1, i2]) [] σ' H' s' → (∀ c ∈ [z, TI, TO, i1, i2], H' c = none) → ∀ c ∈ [z, TI, TO, i1, i2], FpOk (X.blk s3 H3 scope ce [z, TI, TO, i1, i2]) [] H' c := fun {σ' H' s'} J hn c hc =>
        ⟨hn c hc, (J.ok.exf c hc).1, J.ok.exfs c hc, .inl hc, fun x d e => (J.ok.exf c hc).2 x d e, fun p hp => absurd (show p ∈ ([] : List (Addr × Obj)) ++ [] from hp) (by simp)⟩
      have loop : codeAny (model X.prog X.w) X.A (.compLoop (.ListComp elt [⟨.Name nx px, .Call (.Name "zip" pz) [e1, e2] [] cpos, [], 0⟩] scope pos) 0 (.ref z) (.ref L) ce) (compPost (model X.prog X.w) X.A X.xe none (EP X pins σ Q) (.ref L) s3.heap.objs.size) s4 := by
        refine compLoop_any (fun n s' => ∃ j H', n + j = min xs.length ys.length ∧ Inv (X.blk s3 H3 scope ce [z, TI, TO, i1, i2]) [] (wipe σ (own.map (·.2))) H' s' ∧ ZAt s'.heap H' z TI TO i1 i2 a b j ∧ (∀ c ∈ [z, TI, TO, i1, i2], H' c = none) ∧ W j H') ?_ _ ⟨0, H3, rfl, I4, z4, nfp, w0⟩
        rintro n s5 ⟨j, H5, ej, I5, z5, n5, w5⟩
        obtain ⟨x5, y5⟩ := keepW j H5 w5
        by_cases e : n = 0
        · refine zDone (X := X.blk s3 H3 scope ce [z, TI, TO, i1, i2]) hc D I5 (stat I5 n5) z5 x5 y5 (by omega) fun s6 I6 => ?_
          have I7 : Inv X pins σ H5 s6 := I3.call' (ch := [z, TI, TO, i1, i2]) I6.os I6.base I6.hok I6.bare fun c hc => ⟨(ok3 c hc).1.2.2.2.1, (ok3 c hc).1.2.1, (ok3 c hc).1.2.2.2.2.1, (ok3 c hc).1.2.2.2.2.2⟩
          have nC : H5 s3.heap.objs.size = none := by rw [← cL]; exact I6.free
          obtain ⟨m, hn, _⟩ := I6.loc
          have hn : s6.heap.Ns ce.locals m := hn
          rw [cL] at hn
          obtain ⟨f0, f1, f2, f3, f4, f5⟩ := I3.fpOk (Nat.le_refl _) nC
          have jm : j = min xs.length ys.length := by omega
          rw [jm] at w5
          exact ⟨m, hn, fun h'' sb => ⟨.ref L, H5, I7.turned (t' := s6.toks) (fun c o hc e => (sb.2 c hc).trans e) f0 f1 f3 f4 f5, rfl, last H5 w5⟩⟩
        · have jx : j < xs.length := by omega
          have jy : j < ys.length := by omega
          refine zNext (X := X.blk s3 H3 scope ce [z, TI, TO, i1, i2]) D I5 (stat I5 n5) z5 x5 y5 (List.getElem?_eq_getElem jx) (List.getElem?_eq_getElem jy) fun s6 T nT I6 z6 n6 => ?_
          have J6 := I6.pinned (stat I6 n6) z6.lt
          refine wpAny_pure ?_
          refine thnF (pg4.run _ s6 _ _ (.ref T) (.ref T) _ J6 rfl (turn j _ _ H5 T w5 (List.getElem?_eq_getElem jx) (List.getElem?_eq_getElem jy) nT)) fun _ s8 ⟨σ8, H8, I8, hw8, q8⟩ => ?_
          refine thnF ((pts_nil (X := X.blk s3 H3 scope ce [z, TI, TO, i1, i2])).run _ s8 σ8 H8 (fun b H' => b = true ∧ H' = H8) I8 ⟨rfl, rfl⟩) fun bb s9 ⟨H9, I9, eb, eH⟩ => ?_
          subst eb eH
          simp only [if_true]
          refine thnF (pe4.run _ s9 σ8 _ _ I9 q8) fun v s10 ⟨yv, H10, I10, r10, acc, hA, hz10, ht10, w'⟩ => ?_
          refine app_ok (X := X.blk s3 H3 scope ce [z, TI, TO, i1, i2]) I10 hA hz10 r10 fun s11 I11 => ?_
          have pin' : ∀ c ∈ [z, TI, TO, i1, i2], ∀ o, s6.heap.get? c = some o → s11.heap.get? c = some o ∧ upd H10 L (.lst (acc ++ [yv])) c = none := fun c hc o e =>
            let u := I11.pin (c, o) (List.mem_append_right _ (List.mem_append_right _ (mem_pinsAt hc e)))
            ⟨u.1, u.2.1⟩
          have hl : (wipe σ (own.map (·.2))).length = σ8.length := by rw [← hw8, wipe_length]
          refine ⟨n - 1, by omega, j + 1, _, by omega, (I11.unpinned (pins := [])).weak hl (fun u v e => ?_), z6.keep (fun c hc o e => (pin' c hc o e).1) (fun c ps e => ?_), fun c hc => ?_, w'⟩
          · rw [← hw8] at e
            exact (wipe_some e).1
          · have e' := ht10 c ps e
            rw [upd_ne (fun n => by rw [n, hA] at e'; cases e')]
            exact e'
          · obtain ⟨o, e, _⟩ := z6.lt c hc
            exact (pin' c hc o e).2
      exact codeAny_compStart_list loop (wpAny_pyIter_zip (k4 _ _ hz) loop)
end
end Ft

set_option Elab.async false
set_option linter.all false
set_option maxRecDepth 100000
set_option maxHeartbeats 8000000
namespace Ft
open PySem PySem.Spec PyProof.Rows L2
theorem atI_end {α : Type} {xs : List α} {v : α} (h : xs[xs.length - 1]? = some v) : atI xs (-1) = some v := by
  have hj := (List.getElem?_eq_some_iff.mp h).1
  obtain ⟨l, z, rfl⟩ : ∃ l z, xs = l ++ [z] := ⟨xs.dropLast, xs.getLast (by intro e; rw [e] at hj; simp at hj), (List.dropLast_concat_getLast _).symm⟩
  have e : v = z := by simpa using h.symm
  rw [e]
  exact atI_last l z
theorem cutG_inner {α : Type} {l : List α} : cutG l (some 1) (some (-1)) = (l.drop 1).take (l.length - 2) := by
  unfold cutG
  have e1 : HT.sIx l.length 0 (some 1) = min 1 l.length := HT.sIx_nat _ _ 1
  have e2 : HT.sIx l.length l.length (some (-1)) = l.length - 1 := by
    show (if (-1 : Int) < 0 then ((-1 : Int) + (l.length : Int)).toNat else min (-1 : Int).toNat l.length) = l.length - 1
    rw [if_pos (by omega)]
    omega
  rw [e1, e2]
  cases l with
  | nil => rfl
  | cons a l =>
    have e3 : min 1 (a :: l).length = 1 := by rw [List.length_cons]; omega
    rw [e3]
    rfl
theorem cutG_map {α β : Type} (f : α → β) (l : List α) (lo hi : Option Int) : cutG (l.map f) lo hi = (cutG l lo hi).map f := by
  unfold cutG
  rw [List.length_map, List.map_take, List.map_drop]
theorem getD_at {l : List Nat} {i : Nat} (h : i < l.length) : l[i]? = some (l.getD i 0) := by
  rw [List.getD_eq_getElem?_getD, List.getElem?_eq_getElem h]
  rfl
/-! ### ways, of data -/
def stepB (rs : List (Nat × Nat)) (l : List Nat) (i : Nat) : Bool := decide ((l.getD i 0, l.getD (i + 1) 0) ∈ rs)
def wayLB (C : Chart) (S l : List Nat) : Bool := decide (2 ≤ l.length) && (decide (l.getD 0 0 ∈ S) && (decide (l.getD (l.length - 1) 0 ∈ C.wished) && (!((l.drop 1).take (l.length - 2)).any (fun p => decide (p ∈ C.wished)) && (List.range (l.length - 1)).all (stepB C.roads l))))
def wayD (C : Chart) (S : List Nat) : PyData → Bool
  | .tuple ds => match natsL ds with
    | some l => wayLB C S l
    | none => false
  | _ => false
theorem wayLB_lt {C : Chart} (ok : C.Ok) {S l : List Nat} (h : wayLB C S l = true) : ∀ x ∈ l, x < C.n := by
  unfold wayLB at h
  simp only [Bool.and_eq_true, decide_eq_true_eq, List.all_eq_true, List.mem_range] at h
  obtain ⟨h2, _, _, _, hs⟩ := h
  intro x hx
  obtain ⟨i, hi⟩ := List.getElem?_of_mem hx
  have il := (List.getElem?_eq_some_iff.mp hi).1
  have ex : l.getD i 0 = x := by rw [List.getD_eq_getElem?_getD, hi]; rfl
  by_cases e : i + 1 < l.length
  · have := hs i (by omega)
    unfold stepB at this
    have := (ok.inR _ (of_decide_eq_true this)).1
    rw [← ex]
    exact this
  · have := hs (i - 1) (by omega)
    unfold stepB at this
    have := (ok.inR _ (of_decide_eq_true this)).2
    rw [show i - 1 + 1 = i by omega] at this
    rw [← ex]
    exact this
/-- the roads of a map as rows of two numbers -/
theorem pairs_ks {K : PySem.W.Frag} {H : Hp} : ∀ {ts : List Addr} {ps : List (Nat × Nat)}, PairsAt K H ts ps → ∃ ks : List (Addr × List Int), ks.map (fun p => V.ref p.1) = ts.map V.ref ∧ ks.map (·.2) = ps.map two ∧ ∀ p ∈ ks, SqT K H p.1 (p.2.map V.int)
  | _, _, .nil => ⟨[], rfl, rfl, fun _ h => nomatch h⟩
  | t :: _, p :: _, .cons r rest => by
    obtain ⟨ks, e1, e2, all⟩ := pairs_ks rest
    refine ⟨(t, two p) :: ks, by rw [List.map_cons, e1]; rfl, by rw [List.map_cons, e2]; rfl, fun q hq => ?_⟩
    rcases List.mem_cons.mp hq with rfl | hq
    · exact r
    · exact all q hq
section
variable {P : Program} {w : World} {K : PySem.W.Frag} {mg : Str → Option Value} {base : Heap} {ca : Str → Addr}
/-! ### is_map -/
def sp_is_map (K : PySem.W.Frag) : Sp := fun vs H Q _ => ∃ (vc : V) (dc : PyData), vs = [vc] ∧ Dp K H vc dc ∧ ∀ H', Same H H' → Q (.bl (mapErr dc).isNone) H'
/-! ### free_fits -/
def freeD (C : Chart) : PyData → Bool
  | .tuple ds => match natsL ds with
    | some l => lotOk C.n (.tuple ds) && !l.any (fun p => decide (p ∈ C.wished))
    | none => false
  | _ => false
def sp_free_fits (K : PySem.W.Frag) : Sp := fun vs H Q _ => ∃ (c : Addr) (C : Chart) (v : V) (d : PyData), vs = [.ref c, v] ∧ IsChart K H c C ∧ C.Ok ∧ Dp K H v d ∧ ∀ H', Same H H' → Q (.bl (freeD C d)) H'
theorem cal_free_fits (T : Txt mg) (D : Def K mg "free_fits" s_free_fits) (c_lot_fits : Cal P w K mg base 4 "lot_fits" (sp_lot_fits K)) : Cal P w K mg base 5 "free_fits" (sp_free_fits K) := by
  refine cal_of D sc_free_fits (fun _ _ _ _ _ _ us hl => match us, hl with | [_, _], _ => rfl) (fun vs H Q E h => ?_) (fun f cdv A outer s H vs Q E hr h => ?_)
  · obtain ⟨c, C, v, d, rfl, _⟩ := h
    rfl
  · obtain ⟨c, C, v, d, rfl, ⟨r, wd, ts, hC⟩, ok, hd, q⟩ := h
    have n60 := ok.n60
    refine ⟨_, (pss_one (ps_ret (pe_and (pe_c c_lot_fits hr (by decide) (by rfl) (pa_cons (pv 0) (pa_cons (pv 1) pa_nil))) (pe_one (pe_not (pe_callB (show CallR _ _ (rAny K) from cr_any rfl) (by rfl) T.any (by decide +kernel) (pa_cons (pe_lc (own := [("place", 2)]) rfl sc_free_fits.nd (show PI _ _ _ (iTup K _) from pi_tup (pv 1)) (blkOk_by (N := ["chart", "thing", "place"]) (sc := L2.defScope s_free_fits) (by decide +kernel)) (fun _ _ _ _ _ => (pg_name (i := 2) sc_free_fits.nd rfl (Or.inl rfl))) (fun _ _ _ _ _ => pts_nil) (fun _ _ _ _ _ => (pe_cmpR (show OpR _ _ (rIn K false) from op_in_seq) (pv 2) (pe_ix (show IxR _ (rIxT K) from ix_tup) (pv 0) pe_int (fun _ _ => rfl)) (by rfl)))) pa_nil))))))), ?_⟩
    refine ⟨_, rfl, _, rfl, c, r, wd, C.n, v, d, rfl, hC.top, hd, fun H1 s1 => ?_⟩
    cases e : lotOk C.n d with
    | false =>
      have no : freeD C d = false := by
        unfold freeD
        split
        · split
          · rw [e]; rfl
          · rfl
        · rfl
      rw [no] at q
      exact ⟨_, rfl, iteF (q H1 s1)⟩
    | true =>
      obtain ⟨ws, rfl, up, lt⟩ := lotOk_is e
      obtain ⟨t, rfl, hT⟩ := lot_dp hd
      have eq : freeD C (lotD ws) = !ws.any (fun p => decide (p ∈ C.wished)) := by
        show (match natsL (ws.map nD) with
          | some l => lotOk C.n (lotD ws) && !l.any (fun p => decide (p ∈ C.wished))
          | none => false) = _
        rw [natsL_map, e]
        rfl
      rw [eq] at q
      have lw := up_len up lt
      refine ⟨_, rfl, iteT ?_⟩
      have hT1 := Same.sqT s1 hT
      have hC1 := hC.keep (Same.kp (ex := []) s1) (lists_nil _)
      refine ⟨_, rfl, t, rfl, ⟨_, hT1⟩, fun g hg => ?_⟩
      have keep : ∀ {H' : Hp}, Kp [g] H1 H' → Same H1 H' := fun {H'} k b o e' => k b o (fun m => by rw [List.mem_singleton.mp m, hg] at e'; cases e') e'
      refine lc_tup (K := K) (a := t) (xs := ws.map vN) (fun j H' => Kp [g] H1 H' ∧ H' g = some (.lst (((ws.take j).map fun p => decide (p ∈ C.wished)).map V.bl))) ⟨(fun b o x e' => by rw [upd_ne (ne_of_none e' hg)]; exact e'), upd_same⟩ (fun j H' _ ⟨k, _⟩ => Same.sqT (keep k) hT1) ?_ ?_
      · rintro j x H2 hx ⟨k2, hG⟩
        obtain ⟨p, hp, rfl⟩ := get_map hx
        have hC2 := hC1.keep (Same.kp (ex := []) (keep k2)) (lists_nil _)
        refine ⟨rfl, ?_⟩
        refine ⟨_, rfl, _, rfl, _, _, _, _, rfl, rfl, hC2.top, rfl, wd, _, rfl, .inr hC2.wis, rfl, all_vN C.wished, ?_⟩
        have jl := (List.getElem?_eq_some_iff.mp hp).1
        refine ⟨_, hG, by rw [List.length_map, List.length_map, List.length_take]; exact small1000 (by omega), ?_, ?_⟩
        · intro b o nb eb
          rw [upd_ne (fun z => nb (by rw [z]; simp))]
          exact k2 b o nb eb
        · rw [upd_same, take_more hp, List.map_append, List.map_append]
          show some (HO.lst (_ ++ [V.bl (inV (vN p) (C.wished.map vN))])) = _
          rw [in_vN]
          rfl
      · rintro H2 ⟨k2, hG⟩
        rw [List.length_map, List.take_length] at hG
        refine ⟨g, _, rfl, .inl (.inl hG), ?_⟩
        refine ⟨_, rfl, ?_⟩
        have e2 : (ws.map fun p => decide (p ∈ C.wished)).any id = ws.any fun p => decide (p ∈ C.wished) := by rw [List.any_map]; rfl
        rw [e2]
        exact q H2 (s1.trans (keep k2))
/-! ### way_fits -/
theorem ways_no {C : Chart} {S : List Nat} {d : PyData} (h : isTup d = false) : wayD C S d = false := by
  cases d <;> first | rfl | cases h
theorem places_all {n : Nat} : ∀ {ds : List PyData}, (ds.map (rngD n)).all id = true → ∃ l : List Nat, ds = l.map nD ∧ ∀ x ∈ l, x < n
  | [], _ => ⟨[], rfl, fun _ h => nomatch h⟩
  | d :: ds, h => by
    rw [List.map_cons, List.all_cons, Bool.and_eq_true] at h
    obtain ⟨i, rfl, hi⟩ := rngD_is (show rngD n d = true from h.1)
    obtain ⟨l, rfl, hl⟩ := places_all h.2
    exact ⟨i :: l, rfl, fun x hx => (List.mem_cons.mp hx).elim (fun e => e ▸ hi) (hl x)⟩
theorem places_map {n : Nat} {l : List Nat} (h : ∀ x ∈ l, x < n) : ((l.map nD).map (rngD n)).all id = true := by
  rw [List.all_map, List.all_map, List.all_eq_true]
  intro x hx
  exact rngD_nat (h x hx)
theorem way_short {C : Chart} {S : List Nat} {ds : List PyData} (h : ds.length < 2) : wayD C S (.tuple ds) = false := by
  unfold wayD
  simp only
  cases e : natsL ds with
  | none => rfl
  | some l =>
    have el := natsL_some e
    rw [el, List.length_map] at h
    simp only
    unfold wayLB
    rw [decide_eq_false (by omega)]
    rfl
theorem way_off {C : Chart} (ok : C.Ok) {S : List Nat} {ds : List PyData} (h : (ds.map (rngD C.n)).all id = false) : wayD C S (.tuple ds) = false := by
  unfold wayD
  simp only
  cases e : natsL ds with
  | none => rfl
  | some l =>
    have el := natsL_some e
    simp only
    cases e2 : wayLB C S l with
    | false => rfl
    | true =>
      rw [el, places_map (wayLB_lt ok e2)] at h
      cases h
theorem way_nats {C : Chart} {S l : List Nat} : wayD C S (.tuple (l.map nD)) = wayLB C S l := by
  unfold wayD
  simp only
  rw [natsL_map]
def sp_way_fits (K : PySem.W.Frag) : Sp := fun vs H Q _ => ∃ (c lo : Addr) (C : Chart) (S : List Nat) (v : V) (d : PyData), vs = [.ref c, .ref lo, v] ∧ IsChart K H c C ∧ C.Ok ∧ C.roads.length < 64 ∧ SqT K H lo (S.map vN) ∧ Dp K H v d ∧ Fine d ∧ ∀ H', Same H H' → Q (.bl (wayD C S d)) H'
end
end Ft

set_option Elab.async false
set_option linter.all false
set_option maxRecDepth 100000
set_option maxHeartbeats 8000000
namespace Ft
open PySem PySem.Spec PyProof.Rows L2
/-- the roads of a planted map, before its places are named anew -/
structure Plant (rg wy n : Nat) (prs : List (Nat × Nat)) : Prop where
  kind : ∀ q ∈ prs, (q.1 < rg ∧ q.2 = (q.1 + 1) % rg) ∨ (q.1 < rg ∧ rg ≤ q.2 ∧ q.2 < rg + wy) ∨ (rg ≤ q.1 ∧ q.1 < rg + wy ∧ rg + wy ≤ q.2 ∧ q.2 < n)
  ring : ∀ a, a < rg → (a, (a + 1) % rg) ∈ prs
/-- what a planted map is -/
structure Planted (C : Chart) (rg wy : Nat) (ring wts : List Nat) : Prop where
  to : ∃ (n : Nat) (prs : List (Nat × Nat)) (ws perm : List Nat), perm.Perm (List.range n) ∧ rg + wy ≤ n ∧ Plant rg wy n prs ∧ (∀ a, a ∈ ws ↔ rg + wy ≤ a ∧ a < n) ∧ Named n prs ws perm C ∧ ring.Pairwise (· < ·) ∧ (∀ x, x ∈ ring ↔ ∃ a, a < rg ∧ x = nm perm a) ∧ wts = (List.range wy).map fun k => nm perm (rg + k)
def LotsL (H : Hp) (as : List Addr) (ls : List (List Nat)) : Prop := Paired (fun (a : Addr) (l : List Nat) => H a = some (.lst (l.map vN))) as ls
theorem LotsL.imp {H H' : Hp} : ∀ {as : List Addr} {ls : List (List Nat)}, (∀ a ∈ as, ∀ o, H a = some o → H' a = some o) → LotsL H as ls → LotsL H' as ls
  | _, _, _, .nil => .nil
  | a :: as, _ :: _, h, .cons r t => .cons (h a List.mem_cons_self _ r) (LotsL.imp (fun b hb => h b (List.mem_cons_of_mem _ hb)) t)
theorem LotsL.has {H : Hp} : ∀ {as : List Addr} {ls : List (List Nat)}, LotsL H as ls → ∀ a ∈ as, ∃ l : List Nat, l ∈ ls ∧ H a = some (.lst (l.map vN))
  | _, _, .nil, _, m => nomatch m
  | a :: as, l :: _, .cons r t, b, m => by
    rcases List.mem_cons.mp m with e | m
    · exact ⟨l, List.mem_cons_self, e ▸ r⟩
    · obtain ⟨l', h1, h2⟩ := LotsL.has t b m
      exact ⟨l', List.mem_cons_of_mem _ h1, h2⟩
/-- what is told of a planted map's ways out -/
structure Told (H : Hp) (C : Chart) (p l tl : Addr) (wy : Nat) (ring wts : List Nat) (tls : List Addr) (tll : List (List Nat)) : Prop where
  at_ : H tl = some (.lst (tls.map V.ref))
  lots : LotsL H tls tll
  len : tll.length = wy
  off : tl ∉ [p, l]
  offs : ∀ t ∈ tls, t ∉ [p, l]
  mem : ∀ m ∈ tll, 0 < m.length ∧ m.length ≤ 30 ∧ ∀ x ∈ m, x < C.n
  into : ∀ x ∈ wts, ∃ a, (a, x) ∈ C.roads
  few : C.roads.length < 64
  wlt : ∀ x ∈ wts, x < C.n
  wun : ∀ x ∈ wts, x ∉ C.wished
  wnd : wts.Nodup
  rlt : ∀ x ∈ ring, x < C.n
  rup : ring.Pairwise (· < ·)
/-- the ring, the waists, and what lies behind each waist -/
structure Waists (C : Chart) (ring wts : List Nat) (tll : List (List Nat)) : Prop where
  len : tll.length = wts.length
  off : ∀ x ∈ ring, x ∉ wts
  runw : ∀ x ∈ ring, x ∉ C.wished
  into : ∀ x ∈ wts, ∃ r ∈ ring, (r, x) ∈ C.roads
  rout : ∀ r ∈ ring, ∀ x, (r, x) ∈ C.roads → x ∈ ring ∨ x ∈ wts
  wout : ∀ (k x : Nat) (m : List Nat), wts[k]? = some x → tll[k]? = some m → ∀ y, (x, y) ∈ C.roads ↔ y ∈ m
  wish : ∀ m ∈ tll, ∀ x ∈ m, x ∈ C.wished
  mnd : ∀ m ∈ tll, m.Nodup
  disj : ∀ (i j : Nat) (a b : List Nat) (x : Nat), tll[i]? = some a → tll[j]? = some b → x ∈ a → x ∈ b → i = j
  ne : ring ≠ []
theorem flat_once : ∀ {ls : List (List Nat)} {i j : Nat} {a b : List Nat} {x : Nat}, ls.flatten.Nodup → ls[i]? = some a → ls[j]? = some b → x ∈ a → x ∈ b → i = j
  | [], _, _, _, _, _, _, h, _, _, _ => by simp at h
  | l :: ls, 0, 0, _, _, _, _, _, _, _, _ => rfl
  | l :: ls, 0, j + 1, a, b, x, nd, h1, h2, m1, m2 => by
    rw [List.flatten_cons, List.nodup_append] at nd
    simp at h1 h2
    subst h1
    exact absurd rfl (nd.2.2 x m1 x (List.mem_flatten.mpr ⟨b, List.mem_of_getElem? h2, m2⟩))
  | l :: ls, i + 1, 0, a, b, x, nd, h1, h2, m1, m2 => by
    rw [List.flatten_cons, List.nodup_append] at nd
    simp at h1 h2
    subst h2
    exact absurd rfl (nd.2.2 x m2 x (List.mem_flatten.mpr ⟨a, List.mem_of_getElem? h1, m1⟩))
  | l :: ls, i + 1, j + 1, a, b, x, nd, h1, h2, m1, m2 => by
    rw [List.flatten_cons, List.nodup_append] at nd
    simp at h1 h2
    rw [flat_once nd.2.1 h1 h2 m1 m2]
theorem PoolAt.keep {ex : List Addr} {H H' : Hp} {p l : Addr} (k : Kp ex H H') (n1 : p ∉ ex) (n2 : l ∉ ex) (h : PoolAt H p l) : PoolAt H' p l := by
  obtain ⟨a, b, cs, h1, h2, h3⟩ := h
  exact ⟨a, b, cs, k _ _ n1 h1, k _ _ n2 h2, h3⟩
theorem off2 {p l d z : Addr} (h1 : d ∉ [p, l]) (h2 : z ∉ [p, l]) : p ∉ [d, z] ∧ l ∉ [d, z] := by
  simp only [List.mem_cons, List.not_mem_nil, or_false, not_or] at h1 h2 ⊢
  exact ⟨⟨fun e => h1.1 e.symm, fun e => h2.1 e.symm⟩, ⟨fun e => h1.2 e.symm, fun e => h2.2 e.symm⟩⟩
theorem kp_newE {ex0 ex : List Addr} {H H1 H2 : Hp} (k : Kp ex0 H H1) (he : ∀ e ∈ ex, H e = none) (k2 : Kp ex H1 H2) : Kp ex0 H H2 := fun b o nb eb => k2 b o (fun m => by rw [he b m] at eb; cases eb) (k b o nb eb)
theorem nm_inj {perm : List Nat} {n : Nat} (pm : perm.Perm (List.range n)) {a b : Nat} (ha : a < n) (hb : b < n) (e : nm perm a = nm perm b) : a = b := by
  have len : perm.length = n := by rw [pm.length_eq, List.length_range]
  have nd : perm.Nodup := pm.nodup_iff.mpr List.nodup_range
  refine (List.getElem?_inj (by rw [len]; exact ha) nd).mp ?_
  rw [nm_get (by rw [len]; exact ha), nm_get (by rw [len]; exact hb), e]
section
variable {P : Program} {w : World} {K : PySem.W.Frag} {mg : Str → Option Value} {base : Heap} {t1 t2 : Tok}
/-! ### _law_map_planted -/
def sp_law_map_planted (K : PySem.W.Frag) : Sp := fun vs H Q _ => ∃ (p l : Addr) (rg wy bh : Nat), vs = [.ref p, vN rg, vN wy, vN bh] ∧ PoolAt H p l ∧ 0 < rg ∧ rg ≤ 20 ∧ wy ≤ 10 ∧ 0 < bh ∧ bh ≤ 3 ∧
  ∀ (q c ri wa tl : Addr) (C : Chart) (ring wts : List Nat) (tls : List Addr) (tll : List (List Nat)) (H' : Hp), H' q = some (.lst [.ref c, .ref ri, .ref wa, .ref tl]) → IsChart K H' c C → C.Ok → H' ri = some (.lst (ring.map vN)) → H' wa = some (.lst (wts.map vN)) → ring.length = rg → wts.length = wy → ri ∉ [p, l] → wa ∉ [p, l] → Planted C rg wy ring wts → Told H' C p l tl wy ring wts tls tll → Waists C ring wts tll → PoolAt H' p l → Kp [p, l] H H' → Q (.ref q) H'
theorem cal_law_map_planted (T : Txt mg) (D : Def K mg "_law_map_planted" s_law_map_planted) (c_law_draw : Cal P w K mg base 2 "_law_draw" sp_law_draw) (c_law_map_named : Cal P w K mg base 4 "_law_map_named" (sp_law_map_named K)) : Cal P w K mg base 5 "_law_map_planted" (sp_law_map_planted K) := by
  refine cal_of D sc_law_map_planted (fun _ _ _ _ _ _ us hl => match us, hl with | [_, _, _, _], _ => rfl) (fun vs H Q E h => ?_) (fun f cdv A outer s H vs Q E hr h => ?_)
  · obtain ⟨p, l, rg, wy, bh, rfl, _⟩ := h
    rfl
  · obtain ⟨p, l, rg, wy, bh, rfl, hP, rg0, rg24, wy3, bh0, bh8, q⟩ := h
    have hU := hr.units
    refine ⟨_, (pss_cons (ps_par3 (i := 4) (j := 5) (l := 6) (by rfl) sc_law_map_planted.nd rfl rfl rfl (by decide) (by decide) (by decide) rfl rfl rfl (pa_cons (pe_op op_add (pv 1) (pv 2)) (pa_cons (pe_lc (own := [("a", 14)]) rfl sc_law_map_planted.nd (pi_range1 (by rfl) T.range (pa_cons (pv 1) pa_nil)) (blkOk_by (N := ["pool", "ring", "ways", "behind", "places", "roads", "last", "way", "turn", "wished", "lot", "chart", "names", "told", "a"]) (sc := L2.defScope s_law_map_planted) (by decide +kernel)) (fun _ _ _ _ _ => (pg_name (i := 14) sc_law_map_planted.nd rfl (Or.inl rfl))) (fun _ _ _ _ _ => pts_nil) (fun _ _ _ _ _ => (pe_tup (pa_cons (pv 14) (pa_cons (pe_op op_mod (pe_callTy call_int1 (by rfl) T.int (by decide +kernel) (pa_cons (pe_op op_add (pv 14) pe_int) pa_nil)) (pv 1)) pa_nil))))) (pa_cons (pe_lst pa_nil) pa_nil))) (by rfl))
      (pss_cons (ps_for PassesOwn.never rfl (pi_range1 (by rfl) T.range (pa_cons (pv 2) pa_nil)) (pg_name (i := 7) sc_law_map_planted.nd rfl (Or.inl rfl)) (pss_cons (ps_expr (pe_bm PySem.F.plainAttrs_list PySem.F.slot_list_append PySem.F.type_list_append mt_append (pv 5) (pa_cons (pe_tup (pa_cons (pe_c c_law_draw hr (by decide) (by rfl) (pa_cons (pv 0) (pa_cons (pv 1) pa_nil))) (pa_cons (pe_op op_add (pv 1) (pv 7)) pa_nil))) pa_nil)))
        (pss_cons (ps_expr (pe_bm PySem.F.plainAttrs_list PySem.F.slot_list_append PySem.F.type_list_append mt_append (pv 6) (pa_cons (pe_lst pa_nil) pa_nil)))
        (pss_one (ps_for PassesOwn.never rfl (pi_range1 (by rfl) T.range (pa_cons (pe_op op_add pe_int (pe_c c_law_draw hr (by decide) (by rfl) (pa_cons (pv 0) (pa_cons (pv 3) pa_nil)))) pa_nil)) (pg_name (i := 8) sc_law_map_planted.nd rfl (Or.inl rfl)) (pss_cons (ps_expr (pe_bm PySem.F.plainAttrs_list PySem.F.slot_list_append PySem.F.type_list_append mt_append (pv 5) (pa_cons (pe_tup (pa_cons (pe_op op_add (pv 1) (pv 7)) (pa_cons (pv 4) pa_nil))) pa_nil)))
          (pss_cons (ps_expr (pe_bm PySem.F.plainAttrs_list PySem.F.slot_list_append PySem.F.type_list_append mt_append (pe_ix (show IxR _ (rIxL K) from ix_list) (pv 6) (pv 7) (fun _ _ => rfl)) (pa_cons (pv 4) pa_nil)))
          (pss_one (ps_set (i := 4) sc_law_map_planted.nd rfl (Or.inl rfl) (pe_op op_add (pv 4) pe_int))))))))))
      (pss_cons (ps_set (i := 9) sc_law_map_planted.nd rfl (Or.inl rfl) (pe_lst pa_nil))
      (pss_cons (ps_for PassesOwn.never rfl (show PI _ _ _ (iList K _) from pi_list (pv 6)) (pg_name (i := 10) sc_law_map_planted.nd rfl (Or.inl rfl)) (pss_one (ps_set (i := 9) sc_law_map_planted.nd rfl (Or.inl rfl) (pe_op op_cat (pv 9) (pv 10)))))
      (pss_cons (ps_asg (pe_c c_law_map_named hr (by decide) (by rfl) (pa_cons (pv 0) (pa_cons (pv 4) (pa_cons (pv 5) (pa_cons (pv 9) pa_nil))))) (show PG _ _ (gLst K 2 _) from pg_lst (by rfl) (pgs_cons (pg_name (i := 11) sc_law_map_planted.nd rfl (Or.inl rfl)) (pgs_cons (pg_name (i := 12) sc_law_map_planted.nd rfl (Or.inr rfl)) pgs_nil))))
      (pss_cons (ps_setLc (i := 13) (own := [("lot", 10)]) rfl sc_law_map_planted.nd rfl rfl (sw_true rfl rfl rfl (by decide +kernel)) (show PI _ _ _ (iList K _) from pi_list (pv 6)) (blkOk_by (N := ["pool", "ring", "ways", "behind", "places", "roads", "last", "way", "turn", "wished", "lot", "chart", "names", "told", "a"]) (sc := L2.defScope s_law_map_planted) (by decide +kernel)) (fun _ _ _ _ _ => (pg_name (i := 10) sc_law_map_planted.nd rfl (Or.inl rfl))) (fun _ _ _ _ _ => pts_nil) (fun _ _ _ _ _ => (pe_callB (show CallR _ _ (rSortedI K) from cr_sortedI) (by rfl) T.sorted (by decide +kernel) (pa_cons (pe_lc (own := [("a", 14)]) rfl sc_law_map_planted.nd (show PI _ _ _ (iList K _) from pi_list (pv 10)) (blkIn (N := ["pool", "ring", "ways", "behind", "places", "roads", "last", "way", "turn", "wished", "lot", "chart", "names", "told", "a"]) (sc := L2.defScope s_law_map_planted) rfl (by decide +kernel)) (fun _ _ _ _ _ => (pg_name (i := 14) sc_law_map_planted.nd rfl (Or.inl rfl))) (fun _ _ _ _ _ => pts_nil) (fun _ _ _ _ _ => (pe_ix (show IxR _ (rIxL K) from ix_list) (pv 12) (pv 14) (fun _ _ => rfl)))) pa_nil))))
      (pss_one (ps_ret (pe_lst (pa_cons (pv 11) (pa_cons (pe_callB (show CallR _ _ (rSortedI K) from cr_sortedI) (by rfl) T.sorted (by decide +kernel) (pa_cons (pe_lc (own := [("a", 14)]) rfl sc_law_map_planted.nd (pi_range1 (by rfl) T.range (pa_cons (pv 1) pa_nil)) (blkOk_by (N := ["pool", "ring", "ways", "behind", "places", "roads", "last", "way", "turn", "wished", "lot", "chart", "names", "told", "a"]) (sc := L2.defScope s_law_map_planted) (by decide +kernel)) (fun _ _ _ _ _ => (pg_name (i := 14) sc_law_map_planted.nd rfl (Or.inl rfl))) (fun _ _ _ _ _ => pts_nil) (fun _ _ _ _ _ => (pe_ix (show IxR _ (rIxL K) from ix_list) (pv 12) (pv 14) (fun _ _ => rfl)))) pa_nil)) (pa_cons (pe_lc (own := [("way", 7)]) rfl sc_law_map_planted.nd (pi_range1 (by rfl) T.range (pa_cons (pv 2) pa_nil)) (blkOk_by (N := ["pool", "ring", "ways", "behind", "places", "roads", "last", "way", "turn", "wished", "lot", "chart", "names", "told", "a"]) (sc := L2.defScope s_law_map_planted) (by decide +kernel)) (fun _ _ _ _ _ => (pg_name (i := 7) sc_law_map_planted.nd rfl (Or.inl rfl))) (fun _ _ _ _ _ => pts_nil) (fun _ _ _ _ _ => (pe_ix (show IxR _ (rIxL K) from ix_list) (pv 12) (pe_op op_add (pv 1) (pv 7)) (fun _ _ => rfl)))) (pa_cons (pv 13) pa_nil))))))))))))), ?_⟩
    have s1000 : (1000 : Nat) ≤ sizeLine := by decide
    refine ⟨_, rfl, _, rfl, _, _, rfl, rfl, _, rfl, _, rfl, by omega, by omega, fun d hd => ?_⟩
    have dpl : d ∉ [p, l] := hP.free hd
    refine lc_range (lo := 0) (n := rg) (fun i H' => ∃ L : List (Addr × (Nat × Nat)), Kp [d] H H' ∧ H' d = some (.lst (L.map fun r => V.ref r.1)) ∧ TupsAt H' L ∧ L.map (·.2) = (List.range i).map fun a => (a, (a + 1) % rg))
      ⟨[], (fun b o x e' => by rw [upd_ne (ne_of_none e' hd)]; exact e'), upd_same, (fun _ h => nomatch h), rfl⟩ ?_ ?_
    · rintro i H1 hi ⟨L, k1, hD, hL, eL⟩
      have lenL : L.length = i := by
        have := congrArg List.length eL
        rwa [List.length_map, List.length_map, List.length_range] at this
      have e0 : (0 : Int) + (i : Nat) = (i : Nat) := by omega
      refine ⟨rfl, ?_⟩
      rw [e0]
      have r0 : (0 : Int) < (rg : Int) := by omega
      refine ⟨_, rfl, _, rfl, _, _, rfl, rfl, .inl ⟨_, rfl, _, rfl, _, _, rfl, rfl, r0, by show 2 ≤ sizeLine; decide, fun t ht => ?_⟩⟩
      have em : V.int (((i : Int) + 1) % (rg : Int)) = vN ((i + 1) % rg) := by
        unfold vN
        congr 1
      have hT : (upd H1 t (.tup [vN i, V.int (((i : Int) + 1) % (rg : Int))])) t = some (.tup [vN i, vN ((i + 1) % rg)]) := by rw [upd_same, em]
      have s2 : Same H1 (upd H1 t (.tup [vN i, V.int (((i : Int) + 1) % (rg : Int))])) := same_upd ht
      have hD2 := s2 _ _ hD
      refine ⟨_, hD2, by rw [List.length_map]; exact small1000 (by omega), L ++ [(t, (i, (i + 1) % rg))], ?_, by rw [upd_same, List.map_append]; rfl, ((hL.same s2).add hT).set hD2, by rw [List.map_append, eL, List.range_succ, List.map_append]; rfl⟩
      intro b o nb eb
      rw [upd_ne (fun z => nb (by rw [z]; simp))]
      exact s2 _ _ (k1 b o nb eb)
    rintro H1 ⟨L0, k1, hD1, hL1, eL0⟩
    have s1 : Same H H1 := fun b o eb => k1 b o (fun m => by rw [List.mem_singleton.mp m, hd] at eb; cases eb) eb
    refine ⟨Nat.zero_le _, fun g hg => ?_⟩
    have s2 : Same H1 (upd H1 g (.lst [])) := same_upd hg
    have hG2 : (upd H1 g (.lst [])) g = some (.lst []) := upd_same
    have hg0 : H g = none := s1.free hg
    have ndg : d ≠ g := ne_of_none hD1 hg
    have hP2 := (hP.same s1).same s2
    have k2 : Kp [p, l] H (upd H1 g (.lst [])) := Same.kp (s1.trans s2)
    have hD2 := s2 _ _ hD1
    have hL2 := hL1.same s2
    have gpl : g ∉ [p, l] := (hP.same s1).free hg
    generalize upd H1 g (.lst []) = H2 at s2 hG2 hP2 k2 hD2 hL2
    refine ⟨_, _, _, rfl, ?_⟩
    have kset : ∀ {H' : Hp} {o : HO} {e : Addr}, H e = none → Kp [p, l] H H' → Kp [p, l] H (upd H' e o) := fun {H' o e} he k b x nb eb => by
      rw [upd_ne (ne_of_none eb he)]
      exact k b x nb eb
    refine ⟨_, rfl, _, rfl, by omega, by omega, for_range (lo := 0) (n := wy) (fun i σ H' => ∃ (n : Nat) (L : List (Addr × (Nat × Nat))) (as : List Addr) (ls : List (List Nat)) (v7 v8 : Option V), σ = [some (.ref p), some (vN rg), some (vN wy), some (vN bh), some (vN n), some (.ref d), some (.ref g), v7, v8, none, none, none, none, none, none] ∧ PoolAt H' p l ∧ Kp [p, l] H H' ∧
        H' d = some (.lst (L.map fun r => V.ref r.1)) ∧ TupsAt H' L ∧ H' g = some (.lst (as.map V.ref)) ∧ LotsL H' as ls ∧ (∀ a ∈ as, a ≠ d ∧ a ≠ g ∧ a ∉ [p, l]) ∧ ls.flatten = List.range' (rg + wy) (n - (rg + wy)) ∧ rg + wy ≤ n ∧ n ≤ rg + wy + bh * i ∧ L.length ≤ rg + (bh + 1) * i ∧ as.length = i ∧ Plant rg wy n (L.map (·.2)) ∧ (∀ m ∈ ls, 0 < m.length) ∧ (∀ k, k < i → ∃ r, r < rg ∧ (r, rg + k) ∈ L.map (·.2)) ∧ (∀ (k : Nat) (lt : List Nat), ls[k]? = some lt → ∀ b ∈ lt, (rg + k, b) ∈ L.map (·.2)) ∧ ∀ q ∈ L.map (·.2), rg ≤ q.1 → ∃ lt, ls[q.1 - rg]? = some lt ∧ q.2 ∈ lt)
      ?_ ?_ ?_⟩
    · refine ⟨rg + wy, L0, [], [], _, _, rfl, hP2, k2, hD2, hL2, hG2, .nil, (fun _ h => nomatch h), ?_, Nat.le_refl _, Nat.le_add_right _ _, ?_, rfl, ?_, (fun _ h => nomatch h), (fun k hk => absurd hk (Nat.not_lt_zero k)), (fun k lt h => by simp at h), ?_⟩
      · rw [Nat.sub_self]
        rfl
      · have := congrArg List.length eL0
        rw [List.length_map, List.length_map, List.length_range] at this
        omega
      · rw [eL0]
        refine ⟨fun q hq => ?_, fun a ha => List.mem_map.mpr ⟨a, List.mem_range.mpr ha, rfl⟩⟩
        obtain ⟨a, ha, rfl⟩ := List.mem_map.mp hq
        exact .inl ⟨List.mem_range.mp ha, rfl⟩
      · rw [eL0]
        intro q hq h
        obtain ⟨a, ha, rfl⟩ := List.mem_map.mp hq
        have := List.mem_range.mp ha
        have h : rg ≤ a := h
        omega
    · rintro i σ H3 hi ⟨n, L, as, ls, v7, v8, rfl, hP3, k3, hD3, hL3, hG3, hLs3, far, eF, n0, n1, eL, eA, plt, pos, inw, beh, own⟩
      have e0 : (0 : Int) + (i : Nat) = (i : Nat) := by omega
      rw [e0]
      have il : i < wy := hi
      have bi : bh * i ≤ 30 - bh := by
        have : bh * (i + 1) ≤ 3 * 10 := Nat.mul_le_mul bh8 (by omega)
        rw [Nat.mul_succ] at this
        omega
      have bi2 : (bh + 1) * i + (bh + 1) ≤ 40 := by
        have : (bh + 1) * (i + 1) ≤ 4 * 10 := Nat.mul_le_mul (by omega) (by omega)
        rw [Nat.mul_succ] at this
        omega
      refine ⟨_, rfl, .inl ⟨rfl, _, .inl (.inl hD3)⟩, _, rfl, _, rfl, p, l, rg, rfl, hP3, by omega, by omega, fun r H4 hr4 hP4 k4 => ?_⟩
      refine ⟨_, rfl, _, rfl, _, _, rfl, rfl, by show 2 ≤ sizeLine; decide, fun t ht => ?_⟩
      have s5 : Same H4 (upd H4 t (.tup [vN r, V.int ((rg : Int) + (i : Int))])) := same_upd ht
      have hT5 : (upd H4 t (.tup [vN r, V.int ((rg : Int) + (i : Int))])) t = some (.tup [vN r, vN (rg + i)]) := upd_same
      have hD4 := k4 _ _ dpl hD3
      have hG4 := k4 _ _ gpl hG3
      have hL4 : TupsAt H4 L := hL3.keep k4 hP3.lists
      have hLs4 : LotsL H4 as ls := hLs3.imp fun a ha o e => k4 _ _ (far a ha).2.2 e
      have k34 := k3.trans k4
      have hD5 := s5 _ _ hD4
      have hG5 := s5 _ _ hG4
      have hL5 := (hL4.same s5).add (p := (r, rg + i)) hT5
      have hLs5 : LotsL _ as ls := hLs4.imp fun a _ o e => s5 _ _ e
      have hP5 := hP4.same s5
      have k5 := k34.trans (Same.kp s5)
      generalize upd H4 t (.tup [vN r, V.int ((rg : Int) + (i : Int))]) = H5 at s5 hD5 hG5 hL5 hLs5 hP5 k5
      refine ⟨d, _, _, rfl, rfl, hD5, by rw [List.length_map]; exact small1000 (by omega), ?_⟩
      have hD6 : (upd H5 d (.lst ((L.map fun r => V.ref r.1) ++ [V.ref t]))) d = some (.lst ((L ++ [(t, (r, rg + i))]).map fun r => V.ref r.1)) := by
        rw [upd_same, List.map_append]
        rfl
      have hG6 : (upd H5 d (.lst ((L.map fun r => V.ref r.1) ++ [V.ref t]))) g = some (.lst (as.map V.ref)) := by
        rw [upd_ne ndg.symm]
        exact hG5
      have hL6 := hL5.set (o := .lst ((L.map fun r => V.ref r.1) ++ [V.ref t])) hD5
      have hLs6 : LotsL (upd H5 d (.lst ((L.map fun r => V.ref r.1) ++ [V.ref t]))) as ls := hLs5.imp fun a ha o e => by
        rw [upd_ne (far a ha).1]
        exact e
      have hP6 := hP5.set (o := .lst ((L.map fun r => V.ref r.1) ++ [V.ref t])) dpl
      have k6 := kset (o := .lst ((L.map fun r => V.ref r.1) ++ [V.ref t])) hd k5
      generalize upd H5 d (.lst ((L.map fun r => V.ref r.1) ++ [V.ref t])) = H6 at hD6 hG6 hL6 hLs6 hP6 k6
      refine ⟨_, rfl, .inl ⟨rfl, _, .inl (.inl hG6)⟩, Nat.zero_le _, fun z hz => ?_⟩
      have s7 : Same H6 (upd H6 z (.lst [])) := same_upd hz
      have hZ7 : (upd H6 z (.lst [])) z = some (.lst []) := upd_same
      have zd : z ≠ d := (ne_of_none hD6 hz).symm
      have zg : z ≠ g := (ne_of_none hG6 hz).symm
      have zpl : z ∉ [p, l] := hP6.free hz
      have zas : ∀ a ∈ as, a ≠ z := fun a ha => by
        obtain ⟨y, _, hy⟩ := hLs6.has a ha
        exact ne_of_none hy hz
      have hz0 : H z = none := kp_free k6 zpl hz
      have hD7 := s7 _ _ hD6
      have hG7 := s7 _ _ hG6
      have hL7 := hL6.same s7
      have hLs7 : LotsL _ as ls := hLs6.imp fun a _ o e => s7 _ _ e
      have hP7 := hP6.same s7
      have k7 := k6.trans (Same.kp s7)
      generalize upd H6 z (.lst []) = H7 at s7 hZ7 hD7 hG7 hL7 hLs7 hP7 k7
      refine ⟨g, _, _, rfl, rfl, hG7, by rw [List.length_map, eA]; exact small1000 (by omega), ?_⟩
      have hG8 : (upd H7 g (.lst (as.map V.ref ++ [V.ref z]))) g = some (.lst ((as ++ [z]).map V.ref)) := by
        rw [upd_same, List.map_append]
        rfl
      have hD8 : (upd H7 g (.lst (as.map V.ref ++ [V.ref z]))) d = some (.lst ((L ++ [(t, (r, rg + i))]).map fun r => V.ref r.1)) := by
        rw [upd_ne ndg]
        exact hD7
      have hZ8 : (upd H7 g (.lst (as.map V.ref ++ [V.ref z]))) z = some (.lst []) := by
        rw [upd_ne zg]
        exact hZ7
      have hL8 := hL7.set (o := .lst (as.map V.ref ++ [V.ref z])) hG7
      have hLs8 : LotsL (upd H7 g (.lst (as.map V.ref ++ [V.ref z]))) as ls := hLs7.imp fun a ha o e => by
        rw [upd_ne (far a ha).2.1]
        exact e
      have hP8 := hP7.set (o := .lst (as.map V.ref ++ [V.ref z])) gpl
      have k8 := kset (o := .lst (as.map V.ref ++ [V.ref z])) hg0 k7
      generalize upd H7 g (.lst (as.map V.ref ++ [V.ref z])) = H8 at hD8 hG8 hZ8 hL8 hLs8 hP8 k8
      refine ⟨_, rfl, _, rfl, p, l, bh, rfl, hP8, by omega, by omega, fun m H9 hm hP9 k9 => ?_⟩
      have hD9 := k9 _ _ dpl hD8
      have hG9 := k9 _ _ gpl hG8
      have hZ9 := k9 _ _ zpl hZ8
      have hL9 := hL8.keep k9 hP8.lists
      have hLs9 : LotsL H9 as ls := hLs8.imp fun a ha o e => k9 _ _ (far a ha).2.2 e
      have k9' := k8.trans k9
      have mm : ((1 : Int) + (m : Int)).toNat = 1 + m := by omega
      refine ⟨_, _, rfl, rfl, _, rfl, by omega, by omega, for_range (lo := 0) (n := ((1 : Int) + (m : Int)).toNat) (fun j σ H' => ∃ (M : List (Addr × (Nat × Nat))) (v8 : Option V), σ = [some (.ref p), some (vN rg), some (vN wy), some (vN bh), some (vN (n + j)), some (.ref d), some (.ref g), some (vN i), v8, none, none, none, none, none, none] ∧ Kp [d, z] H9 H' ∧
          H' d = some (.lst ((L ++ [(t, (r, rg + i))] ++ M).map fun r => V.ref r.1)) ∧ TupsAt H' (L ++ [(t, (r, rg + i))] ++ M) ∧ H' z = some (.lst ((List.range' n j).map vN)) ∧ M.map (·.2) = (List.range' n j).map fun b => (rg + i, b)) ?_ ?_ ?_⟩
      · exact ⟨[], _, rfl, Kp.refl _ _, by rw [List.append_nil]; exact hD9, by rw [List.append_nil]; exact hL9, hZ9, rfl⟩
      · rintro j σ Ha hj ⟨M, v8', rfl, ka, hDa, hLa, hZa, eM⟩
        rw [mm] at hj
        have lenM : M.length = j := by
          have := congrArg List.length eM
          rwa [List.length_map, List.length_map, List.length_range'] at this
        refine ⟨_, rfl, .inl ⟨rfl, _, .inl (.inl hDa)⟩, _, rfl, _, rfl, _, _, rfl, rfl, _, rfl, by show 2 ≤ sizeLine; decide, fun tt htt => ?_⟩
        have sb : Same Ha (upd Ha tt (.tup [V.int ((rg : Int) + (i : Int)), vN (n + j)])) := same_upd htt
        have hTb : (upd Ha tt (.tup [V.int ((rg : Int) + (i : Int)), vN (n + j)])) tt = some (.tup [vN (rg + i), vN (n + j)]) := upd_same
        have hDb := sb _ _ hDa
        have hLb := (hLa.same sb).add (p := (rg + i, n + j)) hTb
        have hZb := sb _ _ hZa
        have kb := ka.trans (Same.kp sb)
        generalize upd Ha tt (.tup [V.int ((rg : Int) + (i : Int)), vN (n + j)]) = Hb at sb hDb hLb hZb kb
        refine ⟨d, _, _, rfl, rfl, hDb, by rw [List.length_map, List.length_append, List.length_append]; exact small1000 (by show L.length + 1 + M.length ≤ 1000; omega), ?_⟩
        have kc : Kp [d, z] H9 (upd Hb d (.lst (((L ++ [(t, (r, rg + i))] ++ M).map fun r => V.ref r.1) ++ [V.ref tt]))) := fun b o nb eb => by
          rw [upd_ne (fun y => nb (by rw [y]; simp))]
          exact kb b o nb eb
        have hDc : (upd Hb d (.lst (((L ++ [(t, (r, rg + i))] ++ M).map fun r => V.ref r.1) ++ [V.ref tt]))) d = some (.lst ((L ++ [(t, (r, rg + i))] ++ (M ++ [(tt, (rg + i, n + j))])).map fun r => V.ref r.1)) := by
          rw [upd_same, ← List.append_assoc, List.map_append (l₂ := [(tt, (rg + i, n + j))])]
          rfl
        have hLc := hLb.set (o := .lst (((L ++ [(t, (r, rg + i))] ++ M).map fun r => V.ref r.1) ++ [V.ref tt])) hDb
        have hZc : (upd Hb d (.lst (((L ++ [(t, (r, rg + i))] ++ M).map fun r => V.ref r.1) ++ [V.ref tt]))) z = some (.lst ((List.range' n j).map vN)) := by
          rw [upd_ne zd]
          exact hZb
        generalize upd Hb d (.lst (((L ++ [(t, (r, rg + i))] ++ M).map fun r => V.ref r.1) ++ [V.ref tt])) = Hc at kc hDc hLc hZc
        have hGc : Hc g = some (.lst ((as ++ [z]).map V.ref)) := kc _ _ (by simp only [List.mem_cons, List.not_mem_nil, or_false, not_or]; exact ⟨ndg.symm, zg.symm⟩) hG9
        have hlast : ((as ++ [z]).map V.ref)[i]? = some (V.ref z) := by
          rw [List.getElem?_map, ← eA]
          simp
        refine ⟨_, rfl, _, rfl, g, _, _, _, rfl, rfl, .inl (.inl hGc), atI_nat hlast, .inl ⟨rfl, _, .inl (.inl hZc)⟩, _, rfl, z, _, _, rfl, rfl, hZc, by rw [List.length_map, List.length_range']; exact small1000 (by omega), ?_⟩
        refine ⟨_, rfl, _, _, rfl, rfl, M ++ [(tt, (rg + i, n + j))], _, rfl, ?_, ?_, ?_, ?_, ?_⟩
        · intro b o nb eb
          rw [upd_ne (fun y => nb (by rw [y]; simp))]
          exact kc b o nb eb
        · rw [upd_ne zd.symm]
          exact hDc
        · rw [← List.append_assoc]
          exact hLc.set hZc
        · rw [upd_same, List.range'_concat, List.map_append]
          rw [Nat.one_mul]
          rfl
        · rw [List.map_append, eM, List.range'_concat, List.map_append, Nat.one_mul]
          rfl
      · rintro σ Ha ⟨M, v8', rfl, ka, hDa, hLa, hZa, eM⟩
        rw [mm] at hZa eM ⊢
        have lenM : M.length = 1 + m := by
          have := congrArg List.length eM
          rwa [List.length_map, List.length_map, List.length_range'] at this
        have hGa : Ha g = some (.lst ((as ++ [z]).map V.ref)) := ka _ _ (by simp only [List.mem_cons, List.not_mem_nil, or_false, not_or]; exact ⟨ndg.symm, zg.symm⟩) hG9
        have hLsa : LotsL Ha as ls := hLs9.imp fun a ha o e => ka _ _ (by simp only [List.mem_cons, List.not_mem_nil, or_false, not_or]; exact ⟨(far a ha).1, zas a ha⟩) e
        refine ⟨n + (1 + m), L ++ [(t, (r, rg + i))] ++ M, as ++ [z], ls ++ [List.range' n (1 + m)], _, _, rfl, ?_, ?_, hDa, hLa, hGa, paired_app hLsa (.cons hZa .nil), ?_, ?_, by omega, ?_, ?_, by rw [List.length_append, eA]; rfl, ?_, ?_, ?_, ?_, ?_⟩
        · exact hP9.keep ka (off2 dpl zpl).1 (off2 dpl zpl).2
        · exact kp_newE k9' (fun e he => by
            rcases List.mem_cons.mp he with e1 | e1
            · rw [e1]; exact hd
            · rw [List.mem_singleton.mp e1]; exact hz0) ka
        · intro a ha
          rcases List.mem_append.mp ha with ha | ha
          · exact far a ha
          · rw [List.mem_singleton.mp ha]
            exact ⟨zd, zg, zpl⟩
        · rw [List.flatten_append, eF]
          have e1 : n = rg + wy + (n - (rg + wy)) := by omega
          have e2 : n + (1 + m) - (rg + wy) = (n - (rg + wy)) + (1 + m) := by omega
          have e3 : List.range' (rg + wy) (n - (rg + wy)) ++ List.range' n (1 + m) = List.range' (rg + wy) ((n - (rg + wy)) + (1 + m)) := by
            have := List.range'_append_1 (s := rg + wy) (m := n - (rg + wy)) (n := 1 + m)
            rw [← e1] at this
            exact this
          rw [e2, ← e3]
          exact congrArg (List.range' (rg + wy) (n - (rg + wy)) ++ ·) (List.append_nil _)
        · rw [Nat.mul_succ]
          omega
        · rw [Nat.mul_succ, List.length_append, List.length_append, lenM]
          show L.length + 1 + (1 + m) ≤ _
          omega
        · refine ⟨fun q hq => ?_, fun a ha => ?_⟩
          · rw [List.map_append, List.map_append, eM] at hq
            rcases List.mem_append.mp hq with hq | hq
            · rcases List.mem_append.mp hq with hq | hq
              · rcases plt.kind q hq with h | h | h
                · exact .inl h
                · exact .inr (.inl h)
                · exact .inr (.inr ⟨h.1, h.2.1, h.2.2.1, by omega⟩)
              · rw [List.mem_singleton.mp hq]
                exact .inr (.inl ⟨hr4, by show rg ≤ rg + i; omega, by show rg + i < rg + wy; omega⟩)
            · obtain ⟨b, hb, rfl⟩ := List.mem_map.mp hq
              have := List.mem_range'_1.mp hb
              exact .inr (.inr ⟨by show rg ≤ rg + i; omega, by show rg + i < rg + wy; omega, by show rg + wy ≤ b; omega, by show b < n + (1 + m); omega⟩)
          · rw [List.map_append, List.map_append]
            exact List.mem_append_left _ (List.mem_append_left _ (plt.ring a ha))
        · intro y hy
          rcases List.mem_append.mp hy with hy | hy
          · exact pos y hy
          · rw [List.mem_singleton.mp hy, List.length_range']
            omega
        · intro k hk
          rw [List.map_append, List.map_append]
          by_cases e : k < i
          · obtain ⟨a, h1, h2⟩ := inw k e
            exact ⟨a, h1, List.mem_append_left _ (List.mem_append_left _ h2)⟩
          · have : k = i := by omega
            subst this
            exact ⟨r, hr4, List.mem_append_left _ (List.mem_append_right _ (by simp))⟩
        · intro k lt hk b hb
          have lls : ls.length = i := by rw [← Paired.length hLsa, eA]
          rw [List.map_append, List.map_append]
          by_cases e : k < ls.length
          · rw [List.getElem?_append_left e] at hk
            exact List.mem_append_left _ (List.mem_append_left _ (beh k lt hk b hb))
          · rw [List.getElem?_append_right (by omega)] at hk
            have e2 : k - ls.length = 0 := by
              rcases Nat.eq_zero_or_pos (k - ls.length) with z | z
              · exact z
              · rw [List.getElem?_eq_none (by simp; omega)] at hk
                cases hk
            rw [e2] at hk
            have hk : List.range' n (1 + m) = lt := by simpa using hk
            subst hk
            have : k = i := by omega
            subst this
            refine List.mem_append_right _ ?_
            rw [eM]
            exact List.mem_map.mpr ⟨b, hb, rfl⟩
        · intro q hq h
          have lls : ls.length = i := by rw [← Paired.length hLsa, eA]
          rw [List.map_append, List.map_append, eM] at hq
          rcases List.mem_append.mp hq with hq | hq
          · rcases List.mem_append.mp hq with hq | hq
            · obtain ⟨lt, h1, h2⟩ := own q hq h
              exact ⟨lt, by rw [List.getElem?_append_left (List.getElem?_eq_some_iff.mp h1).1]; exact h1, h2⟩
            · rw [List.mem_singleton.mp hq] at h
              have h : rg ≤ r := h
              omega
          · obtain ⟨b, hb, rfl⟩ := List.mem_map.mp hq
            refine ⟨List.range' n (1 + m), ?_, hb⟩
            have : rg + i - rg = ls.length := by omega
            show (ls ++ [List.range' n (1 + m)])[rg + i - rg]? = _
            rw [this]
            simp
    rintro σ H3 ⟨n, L, as, ls, v7, v8, rfl, hP3, k3, hD3, hL3, hG3, hLs3, far, eF, n0, n1, eL, eA, plt, pos, inw, beh, own⟩
    have b8 : bh * wy ≤ 30 := (Nat.mul_le_mul bh8 wy3 : bh * wy ≤ 3 * 10)
    have b9 : (bh + 1) * wy ≤ 40 := (Nat.mul_le_mul (by omega) wy3 : (bh + 1) * wy ≤ 4 * 10)
    refine ⟨Nat.zero_le _, fun wd0 hwd0 => ?_⟩
    have s4 : Same H3 (upd H3 wd0 (.lst [])) := same_upd hwd0
    have hW4 : (upd H3 wd0 (.lst [])) wd0 = some (.lst []) := upd_same
    have w0pl : wd0 ∉ [p, l] := hP3.free hwd0
    generalize upd H3 wd0 (.lst []) = H4 at s4 hW4
    refine ⟨_, rfl, g, rfl, ⟨_, .inl (.inl (s4 _ _ hG3))⟩, for_list (K := K) (xs := as.map V.ref) (fun j σ H' => ∃ (wd : Addr) (v10 : Option V), σ = [some (.ref p), some (vN rg), some (vN wy), some (vN bh), some (vN n), some (.ref d), some (.ref g), v7, v8, some (.ref wd), v10, none, none, none, none] ∧ Same H3 H' ∧ wd ∉ [p, l] ∧ H' wd = some (.lst (((ls.take j).flatten).map vN))) ?_ (fun j σ H' _ ⟨_, _, _, s, _⟩ => .inl (.inl (s _ _ hG3))) ?_ ?_⟩
    · exact ⟨wd0, _, rfl, s4, w0pl, hW4⟩
    · rintro j x σ H5 hx ⟨wd, v10, rfl, s5, wpl, hW5⟩
      obtain ⟨a, ha, rfl⟩ := get_map hx
      obtain ⟨lt, hlt, hA⟩ := paired_getL hLs3 ha
      refine ⟨_, rfl, _, rfl, wd, a, _, _, rfl, rfl, hW5, s5 _ _ hA, ?_, fun z hz => ?_⟩
      · rw [List.length_map, List.length_map]
        have h1 : ((ls.take j).flatten).length + lt.length ≤ ls.flatten.length := by
          have e1 : (ls.take (j + 1)).flatten = (ls.take j).flatten ++ lt := by
            rw [take_more hlt, List.flatten_append]
            simp
          rw [← List.length_append, ← e1]
          conv => rhs; rw [← List.take_append_drop (j + 1) ls, List.flatten_append, List.length_append]
          exact Nat.le_add_right _ _
        rw [eF, List.length_range'] at h1
        omega
      · have s6 : Same H5 (upd H5 z (.lst (((ls.take j).flatten).map vN ++ lt.map vN))) := same_upd hz
        refine ⟨z, _, rfl, s5.trans s6, ?_, ?_⟩
        · exact (hP3.same s5).free hz
        · rw [upd_same, take_more hlt, List.flatten_append, List.map_append]
          simp
    rintro σ H5 ⟨wd, v10, rfl, s5, wpl, hW5⟩
    rw [List.take_of_length_le (by rw [List.length_map, Paired.length hLs3]; exact Nat.le_refl _), eF] at hW5
    have hP5 := hP3.same s5
    have hL5 := hL3.same s5
    have ePr : (L.map fun r => V.ref r.1) = (L.map (·.1)).map V.ref := by rw [List.map_map]; rfl
    have hD5 := s5 _ _ hD3
    rw [ePr] at hD5
    have len : (L.map (·.2)).length < 64 := by rw [List.length_map]; omega
    have inP : ∀ q ∈ L.map (·.2), q.1 < n ∧ q.2 < n := by
      intro q hq
      rcases plt.kind q hq with h | h | h
      · have := Nat.mod_lt (q.1 + 1) rg0
        omega
      · omega
      · omega
    have inW : ∀ a, a ∈ List.range' (rg + wy) (n - (rg + wy)) ↔ rg + wy ≤ a ∧ a < n := by
      intro a
      rw [List.mem_range'_1]
      omega
    refine ⟨_, rfl, _, rfl, _, rfl, _, rfl, p, l, d, wd, n, L.map (·.1), L.map (·.2), List.range' (rg + wy) (n - (rg + wy)), rfl, hP5, by omega, hD5, dpl, hL5.pairs, len, inP, hW5, wpl, by rw [List.length_range']; omega, fun a ha => ((inW a).mp ha).2, fun q' c na perm C H6 pm hq0 hna hQ hC hN nmd hP6 k6 => ?_⟩
    have npl : na ∉ [p, l] := hP5.free hna
    have hG6 := k6 _ _ gpl (s5 _ _ hG3)
    have hLs6 : LotsL H6 as ls := hLs3.imp fun a ha o e => k6 _ _ (far a ha).2.2 (s5 _ _ e)
    have k06 := (k3.trans (Same.kp s5)).trans k6
    refine ⟨q', _, rfl, .inl (.inl hQ), rfl, _, _, rfl, _, _, rfl, rfl, ?_⟩
    have lnP : perm.length = n := by rw [pm.length_eq, List.length_range]
    refine ⟨_, rfl, g, rfl, ⟨_, .inl (.inl hG6)⟩, fun tl htl => ?_⟩
    have keep6 : ∀ {H' : Hp}, Kp [tl] H6 H' → Same H6 H' := fun {H'} k b o e => k b o (fun m => by rw [List.mem_singleton.mp m, htl] at e; cases e) e
    refine lc_list (K := K) (xs := as.map V.ref) (fun j H' => Kp [tl] H6 H' ∧ ∃ (tls : List Addr) (tll : List (List Nat)), H' tl = some (.lst (tls.map V.ref)) ∧ LotsL H' tls tll ∧ tll.length = j ∧ (∀ t ∈ tls, t ∉ [p, l] ∧ t ≠ tl) ∧ (∀ m ∈ tll, 0 < m.length ∧ m.length ≤ 30 ∧ ∀ x ∈ m, x < n) ∧ ∀ (k : Nat) (m : List Nat), tll[k]? = some m → ∃ lt, ls[k]? = some lt ∧ m.Nodup ∧ ∀ x, x ∈ m ↔ ∃ b ∈ lt, x = nm perm b)
      ⟨(fun b o x e' => by rw [upd_ne (ne_of_none e' htl)]; exact e'), [], [], upd_same, .nil, rfl, (fun _ h => nomatch h), (fun _ h => nomatch h), fun k m h => by simp at h⟩ (fun j H' _ ⟨k, _⟩ => .inl (.inl (keep6 k _ _ hG6))) ?_ ?_
    · rintro j x H7 hx ⟨k7, tls, tll, hT7, hTl7, lv, offs, mems, tel⟩
      obtain ⟨a, ha, rfl⟩ := get_map hx
      obtain ⟨lt, hlt, hA⟩ := paired_getL hLs6 ha
      have jl : j < as.length := (List.getElem?_eq_some_iff.mp ha).1
      have ltm := List.mem_of_getElem? hlt
      have ltl : lt.length ≤ 30 := by
        have := (List.sublist_flatten_of_mem ltm).length_le
        rw [eF, List.length_range'] at this
        omega
      have lin : ∀ b ∈ lt, b < n := fun b hb => by
        have : b ∈ ls.flatten := List.mem_flatten.mpr ⟨lt, ltm, hb⟩
        rw [eF] at this
        exact ((inW b).mp this).2
      have hA7 := keep6 k7 _ _ hA
      have hN7 := keep6 k7 _ _ hN
      refine ⟨rfl, ?_⟩
      refine ⟨_, rfl, a, rfl, ⟨_, .inl (.inl hA7)⟩, fun e he => ?_⟩
      have keep7 : ∀ {H' : Hp}, Kp [e] H7 H' → Same H7 H' := fun {H'} k b o e' => k b o (fun m => by rw [List.mem_singleton.mp m, he] at e'; cases e') e'
      refine lc_list (K := K) (xs := lt.map vN) (fun j H' => Kp [e] H7 H' ∧ H' e = some (.lst (((lt.take j).map (nm perm)).map vN)))
        ⟨(fun b o x e' => by rw [upd_ne (ne_of_none e' he)]; exact e'), upd_same⟩ (fun j H' _ ⟨k, _⟩ => .inl (.inl (keep7 k _ _ hA7))) ?_ ?_
      · rintro j2 y H8 hy ⟨k8, hE8⟩
        obtain ⟨b, hb, rfl⟩ := get_map hy
        refine ⟨rfl, _, rfl, _, rfl, na, _, _, _, rfl, rfl, .inl (.inl (keep7 k8 _ _ hN7)), nm_at pm (lin b (List.mem_of_getElem? hb)), _, hE8, ?_, ?_, ?_⟩
        · rw [List.length_map, List.length_map, List.length_take]
          exact small1000 (by omega)
        · intro b' o nb eb
          rw [upd_ne (fun z => nb (by rw [z]; simp))]
          exact k8 b' o nb eb
        · rw [upd_same, take_more hb, List.map_append, List.map_append]
          rfl
      · rintro H8 ⟨k8, hE8⟩
        refine ⟨e, iN ((lt.take ((lt.map vN).length)).map (nm perm)), rfl, .inl (.inl (by rw [← vN_map]; exact hE8)), fun ns' pq pmq _ hpq => ?_⟩
        have s8 : Same H7 (upd H8 pq (.lst (ns'.map V.int))) := (keep7 k8).trans (same_upd hpq)
        rw [List.take_of_length_le (by rw [List.length_map]; exact Nat.le_refl _)] at pmq
        obtain ⟨m, em⟩ : ∃ m, ns' = iN m := natZ fun x hx => by
          obtain ⟨y, _, rfl⟩ := List.mem_map.mp (pmq.mem_iff.mp hx)
          omega
        have hT8 : (keep7 k8) _ _ hT7 = (keep7 k8) _ _ hT7 := rfl
        have nqt : pq ≠ tl := fun e => by
          rw [e, (keep7 k8) _ _ hT7] at hpq
          cases hpq
        have hP8 := hP6.same ((keep6 k7).trans (keep7 k8))
        have ltls : tls.length = j := by rw [Paired.length hTl7]; exact lv
        refine ⟨tls.map V.ref, s8 _ _ hT7, by rw [List.length_map]; exact small1000 (by omega), ?_, tls ++ [pq], tll ++ [m], by rw [upd_same, List.map_append]; rfl, paired_app (hTl7.imp fun t ht o e => by rw [upd_ne (offs t ht).2]; exact s8 _ _ e) (.cons ?_ .nil), by rw [List.length_append, lv]; rfl, ?_, ?_, ?_⟩
        · intro b o nb eb
          rw [upd_ne (fun z => nb (by rw [z]; simp))]
          exact s8 _ _ (k7 b o nb eb)
        · rw [upd_ne nqt, upd_same, em, vN_map]
        · intro t ht
          rcases List.mem_append.mp ht with ht | ht
          · exact offs t ht
          · rw [List.mem_singleton.mp ht]
            exact ⟨hP8.free hpq, nqt⟩
        · intro y hy
          rcases List.mem_append.mp hy with hy | hy
          · exact mems y hy
          · rw [List.mem_singleton.mp hy]
            have ln : m.length = lt.length := by
              have := pmq.length_eq
              rwa [em, iN_length, iN_length, List.length_map] at this
            refine ⟨by rw [ln]; exact pos lt ltm, by omega, fun x hx => ?_⟩
            have h1 : (x : Int) ∈ ns' := by rw [em]; exact iN_mem.mpr hx
            obtain ⟨b, hb, e⟩ := List.mem_map.mp (iN_mem.mp (pmq.mem_iff.mp h1))
            rw [← e]
            exact perm_lt pm (lin b hb)
        · intro k m' hk
          by_cases e : k < tll.length
          · rw [List.getElem?_append_left e] at hk
            exact tel k m' hk
          · rw [List.getElem?_append_right (by omega)] at hk
            have e2 : k - tll.length = 0 := by
              rcases Nat.eq_zero_or_pos (k - tll.length) with z | z
              · exact z
              · rw [List.getElem?_eq_none (by simp; omega)] at hk
                cases hk
            rw [e2] at hk
            have hk : m = m' := by simpa using hk
            subst hk
            have : k = j := by omega
            subst this
            have ndf : ls.flatten.Nodup := by rw [eF]; exact List.nodup_range'
            have ndl : (lt.map (nm perm)).Nodup := by
              refine List.pairwise_map.mpr (List.Pairwise.imp_of_mem (fun {a b} ha hb h => ?_) ((List.sublist_flatten_of_mem ltm).nodup ndf))
              exact fun e1 => h (nm_inj pm (lin a ha) (lin b hb) e1)
            have pmn : (iN m).Perm (iN (lt.map (nm perm))) := by rw [← em]; exact pmq
            refine ⟨lt, hlt, ?_, fun x => ?_⟩
            · have : (iN m).Nodup := pmn.nodup_iff.mpr (by
                refine List.pairwise_map.mpr (ndl.imp fun {a b} h e => h ?_)
                omega)
              exact (List.pairwise_map.mp this).imp fun {a b} h e => h (by rw [e])
            · constructor
              · intro hx
                obtain ⟨b, hb, e⟩ := List.mem_map.mp (iN_mem.mp (pmn.mem_iff.mp (iN_mem.mpr hx)))
                exact ⟨b, hb, e.symm⟩
              · rintro ⟨b, hb, rfl⟩
                exact iN_mem.mp (pmn.mem_iff.mpr (iN_mem.mpr (List.mem_map.mpr ⟨b, hb, rfl⟩)))
    rintro H7 ⟨k7, tls, tll, hT7, hTl7, lv, offs, mems, tel⟩
    have s7 := keep6 k7
    have hN7 := s7 _ _ hN
    have hP7 := hP6.same s7
    refine ⟨_, rfl, _, rfl, _, rfl, by omega, by omega, fun e he => ?_⟩
    have keep7 : ∀ {H' : Hp}, Kp [e] H7 H' → Same H7 H' := fun {H'} k b o e' => k b o (fun m => by rw [List.mem_singleton.mp m, he] at e'; cases e') e'
    refine lc_range (lo := 0) (n := rg) (fun j H' => Kp [e] H7 H' ∧ H' e = some (.lst (((List.range j).map (nm perm)).map vN)))
      ⟨(fun b o x e' => by rw [upd_ne (ne_of_none e' he)]; exact e'), upd_same⟩ ?_ ?_
    · rintro j H8 hj ⟨k8, hE8⟩
      have e0 : (0 : Int) + (j : Nat) = (j : Nat) := by omega
      refine ⟨rfl, ?_⟩
      rw [e0]
      refine ⟨_, rfl, _, rfl, na, _, _, _, rfl, rfl, .inl (.inl (keep7 k8 _ _ hN7)), nm_at pm (by omega), _, hE8, ?_, ?_, ?_⟩
      · rw [List.length_map, List.length_map, List.length_range]
        exact small1000 (by omega)
      · intro b' o nb eb
        rw [upd_ne (fun z => nb (by rw [z]; simp))]
        exact k8 b' o nb eb
      · rw [upd_same, List.range_succ, List.map_append, List.map_append]
        rfl
    rintro H8 ⟨k8, hE8⟩
    refine ⟨e, iN ((List.range rg).map (nm perm)), rfl, .inl (.inl (by rw [← vN_map]; exact hE8)), fun ns' ri pm' pw hri => ?_⟩
    have ndr : ((List.range rg).map (nm perm)).Nodup := by
      refine List.pairwise_map.mpr ?_
      refine List.Pairwise.imp_of_mem (fun {a b} ha hb h => ?_) (range_up rg)
      intro e1
      have := nm_inj pm (by have := List.mem_range.mp ha; omega) (by have := List.mem_range.mp hb; omega) e1
      omega
    obtain ⟨ring, er, upr, memr⟩ := sorted_iN ndr pm' pw
    have s8 : Same H6 (upd H8 ri (.lst (ns'.map V.int))) := (s7.trans (keep7 k8)).trans (same_upd hri)
    have hRi : (upd H8 ri (.lst (ns'.map V.int))) ri = some (.lst (ring.map vN)) := by
      rw [upd_same, er, vN_map]
      rfl
    have ripl : ri ∉ [p, l] := (hP7.same (keep7 k8)).free hri
    have s79 : Same H7 (upd H8 ri (.lst (ns'.map V.int))) := (keep7 k8).trans (same_upd hri)
    generalize upd H8 ri (.lst (ns'.map V.int)) = H9 at s8 hRi s79
    have hN9 := s8 _ _ hN
    refine ⟨_, rfl, _, rfl, by omega, by omega, fun wa hwa => ?_⟩
    have keep9 : ∀ {H' : Hp}, Kp [wa] H9 H' → Same H9 H' := fun {H'} k b o e' => k b o (fun m => by rw [List.mem_singleton.mp m, hwa] at e'; cases e') e'
    refine lc_range (lo := 0) (n := wy) (fun j H' => Kp [wa] H9 H' ∧ H' wa = some (.lst (((List.range j).map fun k => nm perm (rg + k)).map vN)))
      ⟨(fun b o x e' => by rw [upd_ne (ne_of_none e' hwa)]; exact e'), upd_same⟩ ?_ ?_
    · rintro j Ha hj ⟨ka, hWa⟩
      have e0 : (0 : Int) + (j : Nat) = (j : Nat) := by omega
      refine ⟨rfl, ?_⟩
      rw [e0]
      refine ⟨_, rfl, _, rfl, _, rfl, _, _, rfl, rfl, na, _, _, _, rfl, rfl, .inl (.inl (keep9 ka _ _ hN9)), nm_at pm (a := rg + j) (by omega), _, hWa, ?_, ?_, ?_⟩
      · rw [List.length_map, List.length_map, List.length_range]
        exact small1000 (by omega)
      · intro b' o nb eb
        rw [upd_ne (fun z => nb (by rw [z]; simp))]
        exact ka b' o nb eb
      · rw [upd_same, List.range_succ, List.map_append, List.map_append]
        rfl
    rintro Ha ⟨ka, hWa⟩
    refine ⟨_, rfl, by show 4 ≤ sizeLine; decide, fun q0 hq00 => ?_⟩
    have sa : Same H6 (upd Ha q0 (.lst [.ref c, .ref ri, .ref wa, .ref tl])) := (s8.trans (keep9 ka)).trans (same_upd hq00)
    refine q q0 c ri wa tl C ring _ tls tll _ upd_same (hC.same sa) nmd.ok ?_ ?_ ?_ ?_ ripl ((hP6.same s8).free hwa) ⟨n, L.map (·.2), _, perm, pm, n0, plt, inW, nmd, upr, ?_, rfl⟩ ?_ ?_ (hP6.same sa) (k06.trans (Same.kp sa))
    · exact ((keep9 ka).trans (same_upd hq00)) _ _ hRi
    · exact (same_upd hq00) _ _ hWa
    · have := congrArg List.length er
      rw [List.length_map, pm'.length_eq, iN_length, List.length_map, List.length_range] at this
      exact this.symm
    · rw [List.length_map, List.length_range]
    · intro x
      rw [memr x, List.mem_map]
      exact ⟨fun ⟨a, h1, h2⟩ => ⟨a, List.mem_range.mp h1, h2.symm⟩, fun ⟨a, h1, h2⟩ => ⟨a, List.mem_range.mpr h1, h2.symm⟩⟩
    · have same7 : Same H7 (upd Ha q0 (.lst [.ref c, .ref ri, .ref wa, .ref tl])) := s79.trans ((keep9 ka).trans (same_upd hq00))
      have un : ∀ k, k < wy → nm perm (rg + k) ∉ C.wished := fun k hk hm => by
        obtain ⟨a, ha, e⟩ := (nmd.wished _).mp hm
        obtain ⟨h1, h2⟩ := (inW a).mp ha
        have := nm_inj pm (by omega) h2 e
        omega
      refine ⟨same7 _ _ hT7, hTl7.imp fun t _ o e => same7 _ _ e, by rw [lv, List.length_map, eA], hP6.free htl, fun t ht => (offs t ht).1, fun m hm => ?_, fun x hx => ?_, ?_, fun x hx => ?_, fun x hx => ?_, ?_, fun x hx => ?_, upr⟩
      · obtain ⟨h1, h2, h3⟩ := mems m hm
        exact ⟨h1, h2, fun x hx => by rw [nmd.n]; exact h3 x hx⟩
      · obtain ⟨k, hk, rfl⟩ := List.mem_map.mp hx
        obtain ⟨a, h1, h2⟩ := inw k (List.mem_range.mp hk)
        exact ⟨nm perm a, (nmd.roads _ _).mpr ⟨a, rg + k, h2, rfl, rfl⟩⟩
      · exact Nat.lt_of_le_of_lt nmd.few len
      · obtain ⟨k, hk, rfl⟩ := List.mem_map.mp hx
        have := List.mem_range.mp hk
        rw [nmd.n]
        exact perm_lt pm (by omega)
      · obtain ⟨k, hk, rfl⟩ := List.mem_map.mp hx
        exact un k (List.mem_range.mp hk)
      · refine List.pairwise_map.mpr ?_
        refine List.Pairwise.imp_of_mem (fun {a b} ha hb h => ?_) (range_up wy)
        intro e1
        have := nm_inj pm (by have := List.mem_range.mp ha; omega) (by have := List.mem_range.mp hb; omega) e1
        omega
      · obtain ⟨a, ha, rfl⟩ := List.mem_map.mp ((memr x).mp hx)
        have := List.mem_range.mp ha
        rw [nmd.n]
        exact perm_lt pm (by omega)
    · have wget : ∀ {k x : Nat}, ((List.range wy).map fun k => nm perm (rg + k))[k]? = some x → k < wy ∧ x = nm perm (rg + k) := fun {k x} h => by
        rw [List.getElem?_map] at h
        by_cases hk : k < wy
        · rw [List.getElem?_range hk] at h
          cases h
          exact ⟨hk, rfl⟩
        · rw [List.getElem?_eq_none (by simp; omega)] at h
          cases h
      have lsl : ls.length = wy := by rw [← Paired.length hLs3, eA]
      have ndf : ls.flatten.Nodup := by rw [eF]; exact List.nodup_range'
      have rget : ∀ {x}, x ∈ ring → ∃ a, a < rg ∧ x = nm perm a := fun {x} hx => by
        obtain ⟨a, ha, rfl⟩ := List.mem_map.mp ((memr x).mp hx)
        exact ⟨a, List.mem_range.mp ha, rfl⟩
      have rmk : ∀ {a}, a < rg → nm perm a ∈ ring := fun {a} ha => (memr _).mpr (List.mem_map.mpr ⟨a, List.mem_range.mpr ha, rfl⟩)
      have inl : ∀ {lt b}, lt ∈ ls → b ∈ lt → rg + wy ≤ b ∧ b < n := fun {lt b} h1 h2 => by
        have : b ∈ ls.flatten := List.mem_flatten.mpr ⟨lt, h1, h2⟩
        rw [eF] at this
        exact (inW b).mp this
      refine ⟨by rw [lv, List.length_map, List.length_map, List.length_range, eA], fun x hx hw => ?_, fun x hx hw => ?_, fun x hx => ?_, fun x hx y hr => ?_, fun k x m h1 h2 y => ?_, fun m hm x hx => ?_, fun m hm => ?_, fun i j a b x h1 h2 m1 m2 => ?_, fun e => ?_⟩
      · obtain ⟨a, ha, rfl⟩ := rget hx
        obtain ⟨k, hk, e⟩ := List.mem_map.mp hw
        have := List.mem_range.mp hk
        have := nm_inj pm (by omega) (by omega) e
        omega
      · obtain ⟨a, ha, rfl⟩ := rget hx
        obtain ⟨b, hb, e⟩ := (nmd.wished _).mp hw
        obtain ⟨h1, h2⟩ := (inW b).mp hb
        have := nm_inj pm (by omega) h2 e
        omega
      · obtain ⟨k, hk, rfl⟩ := List.mem_map.mp hx
        obtain ⟨a, h1, h2⟩ := inw k (List.mem_range.mp hk)
        exact ⟨nm perm a, rmk h1, (nmd.roads _ _).mpr ⟨a, rg + k, h2, rfl, rfl⟩⟩
      · obtain ⟨a, ha, rfl⟩ := rget hx
        obtain ⟨a', b', hq, e1, rfl⟩ := (nmd.roads _ _).mp hr
        have := inP _ hq
        simp only at this
        have : a = a' := nm_inj pm (by omega) (by omega) e1
        subst this
        rcases plt.kind _ hq with h | h | h
        · simp only at h
          refine .inl ?_
          rw [h.2]
          exact rmk (Nat.mod_lt _ rg0)
        · simp only at h
          refine .inr (List.mem_map.mpr ⟨b' - rg, List.mem_range.mpr (by omega), ?_⟩)
          have : rg + (b' - rg) = b' := by omega
          rw [this]
        · simp only at h
          omega
      · obtain ⟨hk, rfl⟩ := wget h1
        obtain ⟨lt, hlt, _, mem⟩ := tel k m h2
        rw [mem y]
        constructor
        · intro hr
          obtain ⟨a', b', hq, e1, rfl⟩ := (nmd.roads _ _).mp hr
          have iq := inP _ hq
          simp only at iq
          have ea : rg + k = a' := nm_inj pm (by omega) (by omega) e1
          subst ea
          obtain ⟨lt', h3, h4⟩ := own _ hq (Nat.le_add_right _ _)
          simp only [Nat.add_sub_cancel_left] at h3
          rw [hlt] at h3
          cases h3
          exact ⟨b', h4, rfl⟩
        · rintro ⟨b, hb, rfl⟩
          exact (nmd.roads _ _).mpr ⟨rg + k, b, beh k lt hlt b hb, rfl, rfl⟩
      · obtain ⟨k, hk⟩ := List.getElem?_of_mem hm
        obtain ⟨lt, hlt, _, mem⟩ := tel k m hk
        obtain ⟨b, hb, rfl⟩ := (mem x).mp hx
        exact (nmd.wished _).mpr ⟨b, (inW b).mpr (inl (List.mem_of_getElem? hlt) hb), rfl⟩
      · obtain ⟨k, hk⟩ := List.getElem?_of_mem hm
        obtain ⟨lt, hlt, nd, _⟩ := tel k m hk
        exact nd
      · obtain ⟨l1, hl1, _, mem1⟩ := tel i a h1
        obtain ⟨l2, hl2, _, mem2⟩ := tel j b h2
        obtain ⟨b1, hb1, e1⟩ := (mem1 x).mp m1
        obtain ⟨b2, hb2, e2⟩ := (mem2 x).mp m2
        have i1 := inl (List.mem_of_getElem? hl1) hb1
        have i2 := inl (List.mem_of_getElem? hl2) hb2
        have : b1 = b2 := nm_inj pm (by omega) (by omega) (by rw [← e1, ← e2])
        subst this
        exact flat_once ndf hl1 hl2 hb1 hb2
      · have := rmk rg0
        rw [e] at this
        exact nomatch this
end
end Ft

set_option Elab.async false
set_option linter.all false
set_option maxRecDepth 100000
set_option maxHeartbeats 4000000
/-! Classes of the program's own: their methods by name, their objects by what each attribute holds. -/
namespace Ft
open PySem PySem.Spec PyProof.Rows L2
/-- a class, by its name -/
structure Kls (K : PySem.W.Frag) (mg : Str → Option Value) (ka : Str → Addr) (x : Str) : Prop where
  cl : Cls K (ka x)
  makes : PySem.W.makesIn K (ka x) = true
  kp : PySem.W.keepIn K (.ref (ka x)) = true
  g : mg x = some (.ref (ka x))
/-- an attribute that only its objects have -/
def NoA (K : PySem.W.Frag) (ka : Str → Addr) (x f : Str) : Prop := NoAttr K (ka x) f
structure DefM (K : PySem.W.Frag) (ka : Str → Addr) (x m qual : Str) (st : Stmt) : Prop where
  ex : ∃ f fd, L2.Fun K m qual st f fd ∧ Meth K (ka x) m f
structure CalM (P : Program) (w : World) (K : PySem.W.Frag) (mg : Str → Option Value) (base : Heap) (k : Nat) (ka : Str → Addr) (x m : Str) (sp : Sp) : Prop where
  ex : ∃ f fd ps, FnOk P w K mg base L2.CX0 k f fd ps sp ∧ Meth K (ka x) m f ∧ Binds K fd ps []
section
variable {P : Program} {w : World} {K : PySem.W.Frag} {mg : Str → Option Value} {base : Heap} {ka : Str → Addr}
theorem calm_of {x m qual : Str} {st : Stmt} {N ps : List Str} {k : Nat} {sp : Sp} (D : DefM K ka x m qual st) (S : FnScope N ps (L2.defScope st))
    (bd : ∀ (kV doc pm : Value) (an : Option Addr) (cdv ct : Value) (us : List Value), us.length = ps.length → bindArgs (PySem.W.fnOf m qual (L2.defArgs st) (L2.defBody st) (L2.defScope st) .none kV doc pm an cdv ct) ⟨us, []⟩ = pure (ps.zip us))
    (len : ∀ vs H Q E, sp vs H Q E → vs.length = ps.length)
    (body : ∀ (f : Addr) (cdv : Value) (A : Around) (outer : List Env) (s : Shared) (H : Hp) (vs : List V) (Q : VK) (E : XK), Room k (A.deeper (envOfC qual (L2.defScope st) s.heap.objs.size f cdv)) → sp vs H Q E →
      ∃ t, PSs (cxOf L2.CX0 P w K mg base N qual (L2.defScope st) f cdv A outer s H E).nox (L2.defBody st) t ∧ t { nx := fun _ H' => Q .non H', rt := Q } (start N vs) H) : CalM P w K mg base (k + 1) ka x m sp := by
  obtain ⟨f, fd, F, M⟩ := D.ex
  exact ⟨f, fd, ps, F.ok S len (body f), M, F.binds bd⟩
end
section
variable {X : Cx} {k j : Nat} {x m : Str} {sp : Sp} {p pos apos : Pos} {o e : Expr} {es : List Expr} {ta : TE} {t : TA} {ka : Str → Addr}
theorem pe_m {pl : Sem Bool} (c : CalM X.prog X.w X.K X.mg X.base k ka x m sp) (kl : Kls X.K X.mg ka x) (hr : Room j X.A) (hk : k ≤ j) (he : PE X o ta) (ha : PA X (e :: es) t)
    (hst : starEach (e :: es) X.env = (false, eval e X.env) :: starEach es X.env := by rfl) (hpl : (backTo pos (starEach es X.env)).any (·.1) = false := by rfl)
    (ht : eval (.Call (.Attribute o m apos) (e :: es) [] pos) X.env = (do
      let ov ← eval o X.env
      standAt apos.atName
      let (f, first) ← holding [ov] (getMethod ov m pl)
      callWith pos f first (backTo pos (starEach (e :: es) X.env)) (backToKw pos (keywordEach [] X.env))) := by rfl) :
    PE X (.Call (.Attribute o m apos) (e :: es) [] pos) (tMeth (ka x) m sp [] L2.E0 ta t) := by
  obtain ⟨f, fd, ps, F, M, b⟩ := c.ex
  exact pe_meth he kl.cl M F (hr.mono hk) b .nil pass0 ha hst hpl ht
theorem pe_m0 {pl : Sem Bool} (c : CalM X.prog X.w X.K X.mg X.base k ka x m sp) (kl : Kls X.K X.mg ka x) (hr : Room j X.A) (hk : k ≤ j) (he : PE X o ta)
    (ht : eval (.Call (.Attribute o m apos) [] [] pos) X.env = (do
      let ov ← eval o X.env
      standAt apos.atName
      let (f, first) ← holding [ov] (getMethod ov m pl)
      callWith pos f first (backTo pos (starEach [] X.env)) (backToKw pos (keywordEach [] X.env))) := by rfl) :
    PE X (.Call (.Attribute o m apos) [] [] pos) (tMeth (ka x) m sp [] L2.E0 ta tNil) := by
  obtain ⟨f, fd, ps, F, M, b⟩ := c.ex
  exact pe_meth0 he kl.cl M F (hr.mono hk) b .nil pass0 ht
/-- C(..) -/
theorem pe_k (c : CalM X.prog X.w X.K X.mg X.base k ka x "__init__" sp) (kl : Kls X.K X.mg ka x) (hr : Room j X.A) (hk : k + 1 ≤ j) (hg : Gl X x) (ha : PA X (e :: es) t)
    (hdb : (x == ("__debug__" : Str)) = false := by decide) (he : starEach (e :: es) X.env = (false, eval e X.env) :: starEach es X.env := by rfl) (hpl : (backTo pos (starEach es X.env)).any (·.1) = false := by rfl) :
    PE X (.Call (.Name x p) (e :: es) [] pos) (tMake (ka x) sp [] L2.E0 t) := by
  obtain ⟨f, fd, ps, F, M, b⟩ := c.ex
  exact pe_make ⟨kl.makes, M.at_, M.fn, kl.kp⟩ F (hr.mono hk) hg kl.g b .nil pass0 ha hdb he hpl
/-- e.f -/
theorem pe_fldD {f : Str} (he : PE X e ta) (hb : attributeBase e f X.env (eval e X.env) = eval e X.env := by rfl) : PE X (.Attribute e f pos) (tFld X.K ta f) := pe_fld he hb
/-- xs[i], where a store to it goes on -/
theorem get_listP : PGet X (rIxL X.K) := by
  intro pins s σ H x y v u Q I rx ry h
  obtain ⟨p, xs, i, z, rfl, rfl, hq, he, q⟩ := h
  cases rx
  obtain ⟨t, rfl⟩ := ry
  obtain ⟨its, r, pl, hz⟩ := I.list hq
  obtain ⟨j, h1, h2, h3, h4, h5⟩ := atI_get he
  obtain ⟨w, ew, rw'⟩ := r.get h2
  have hl := r.length
  have hn := line63
  have fin : EP X pins σ Q w s := ⟨z, H, I, rw', q⟩
  by_cases h0 : 0 ≤ i
  · have hj : i.toNat = j := by
      rw [seqIndex_of h0 h5] at h1
      exact Option.some.inj h1
    exact wpAny_getItem_list pl.isList (by omega) (by rw [sizeLine_eq] at hz; omega) (by rw [hj]; simpa using ew) fin
  · have hj : (i + (its.toArray.size : Int)).toNat = j := by
      rw [seqIndex_neg (by omega) h4] at h1
      rw [List.size_toArray, ← hl]
      exact Option.some.inj h1
    exact wpAny_getItem_list_neg pl.isList (by omega) (by rw [List.size_toArray] <;> omega) (by omega) (by rw [hj]; simpa using ew) fin
end
/-! ### objects, by their attributes -/
structure ObjAt (H : Hp) (p C : Addr) (n : Nat) (look : Str → Option V) : Prop where
  ex : ∃ dx fs, H p = some (.ins C dx fs) ∧ (∀ f, fs.lookup f = look f) ∧ fs.length ≤ n
def setA (look : Str → Option V) (f : Str) (v : V) : Str → Option V := fun g => if g = f then some v else look g
theorem putF_len (f : Str) (v : V) : ∀ fs : List (Str × V), (putF f v fs).length ≤ fs.length + 1
  | [] => by simp [putF]
  | (g, x) :: r => by
    unfold putF
    split
    · simp
    · rw [List.length_cons, List.length_cons]
      have := putF_len f v r
      omega
theorem putF_len_in {f : Str} {v w : V} : ∀ {fs : List (Str × V)}, fs.lookup f = some w → (putF f v fs).length = fs.length
  | [], h => by simp at h
  | (g, x) :: r, h => by
    unfold putF
    split
    · simp
    · rename_i n
      rw [List.length_cons, List.length_cons]
      rw [List.lookup_cons] at h
      have e : (f == g) = false := by
        rw [beq_eq_false_iff_ne]
        exact fun z => n z.symm
      rw [e] at h
      rw [putF_len_in (fs := r) h]
theorem ObjAt.same {H H' : Hp} {p C : Addr} {n : Nat} {look : Str → Option V} (s : Same H H') (h : ObjAt H p C n look) : ObjAt H' p C n look := by
  obtain ⟨dx, fs, e, q⟩ := h.ex
  exact ⟨dx, fs, s _ _ e, q⟩
theorem ObjAt.keep {ex : List Addr} {H H' : Hp} (k : Kp ex H H') {p C : Addr} {n : Nat} {look : Str → Option V} (np : p ∉ ex) (h : ObjAt H p C n look) : ObjAt H' p C n look := by
  obtain ⟨dx, fs, e, q⟩ := h.ex
  exact ⟨dx, fs, k _ _ np e, q⟩
theorem ObjAt.there {H : Hp} {p C : Addr} {n : Nat} {look : Str → Option V} (h : ObjAt H p C n look) : ∃ o, H p = some o := by
  obtain ⟨dx, fs, e, _⟩ := h.ex
  exact ⟨_, e⟩
/-- e.f read, by what the object holds -/
theorem fld_read {K : PySem.W.Frag} {H : Hp} {p C : Addr} {n : Nat} {look : Str → Option V} {f : Str} {v : V} {Q : VK} (h : ObjAt H p C n look) (c : Cls K C) (na : NoAttr K C f) (l : look f = some v) (q : Q v H) :
    ∃ a C dx fs v', V.ref p = .ref a ∧ H a = some (.ins C dx fs) ∧ Cls K C ∧ NoAttr K C f ∧ fs.lookup f = some v' ∧ Q v' H := by
  obtain ⟨dx, fs, e, lk, _⟩ := h.ex
  exact ⟨p, C, dx, fs, v, rfl, e, c, na, by rw [lk, l], q⟩
/-- e.f = v stored -/
theorem fld_store {K : PySem.W.Frag} {H : Hp} {p C : Addr} {n : Nat} {look : Str → Option V} {f : Str} {v : V} {Q : Hp → Prop} (h : ObjAt H p C n look) (n1 : n < 900) (c : Cls K C) (na : NoAttr K C f)
    (q : ∀ H', ObjAt H' p C (n + 1) (setA look f v) → Kp [p] H H' → Q H') :
    ∃ a C dx fs, V.ref p = .ref a ∧ H a = some (.ins C dx fs) ∧ Cls K C ∧ NoAttr K C f ∧ fs.length < 1000 ∧ Q (upd H a (.ins C dx (putF f v fs))) := by
  obtain ⟨dx, fs, e, lk, hl⟩ := h.ex
  refine ⟨p, C, dx, fs, rfl, e, c, na, by omega, q _ ⟨dx, _, upd_same, fun g => ?_, ?_⟩ fun b o nb eb => ?_⟩
  · rw [lookup_putF, lk]
    rfl
  · have := putF_len f v fs
    omega
  · rw [upd_ne (fun z => nb (by rw [z]; simp))]
    exact eb
/-- .. where it is there already -/
theorem fld_store_in {K : PySem.W.Frag} {H : Hp} {p C : Addr} {n : Nat} {look : Str → Option V} {f : Str} {v w : V} {Q : Hp → Prop} (h : ObjAt H p C n look) (n1 : n < 900) (c : Cls K C) (na : NoAttr K C f) (l : look f = some w)
    (q : ∀ H', ObjAt H' p C n (setA look f v) → Kp [p] H H' → Q H') :
    ∃ a C dx fs, V.ref p = .ref a ∧ H a = some (.ins C dx fs) ∧ Cls K C ∧ NoAttr K C f ∧ fs.length < 1000 ∧ Q (upd H a (.ins C dx (putF f v fs))) := by
  obtain ⟨dx, fs, e, lk, hl⟩ := h.ex
  refine ⟨p, C, dx, fs, rfl, e, c, na, by omega, q _ ⟨dx, _, upd_same, fun g => ?_, ?_⟩ fun b o nb eb => ?_⟩
  · rw [lookup_putF, lk]
    rfl
  · rw [putF_len_in (w := w) (by rw [lk, l])]
    exact hl
  · rw [upd_ne (fun z => nb (by rw [z]; simp))]
    exact eb
/-- o.m(..) -/
theorem meth_at {H : Hp} {p C : Addr} {n : Nat} {look : Str → Option V} {m : Str} {R : Prop} (h : ObjAt H p C n look) (l : look m = none) (q : R) : ∃ a dx fs, V.ref p = .ref a ∧ H a = some (.ins C dx fs) ∧ fs.lookup m = none ∧ R := by
  obtain ⟨dx, fs, e, lk, _⟩ := h.ex
  exact ⟨p, dx, fs, rfl, e, by rw [lk, l], q⟩
/-- a new object -/
theorem obj_new {H : Hp} {x dx C : Addr} (nx : H x = none) (ndx : H dx = none) (ne : dx ≠ x) : ObjAt (upd (upd H dx (.own x)) x (.ins C dx [])) x C 0 (fun _ => none) ∧ Same H (upd (upd H dx (.own x)) x (.ins C dx [])) :=
  ⟨⟨dx, [], upd_same, fun _ => rfl, Nat.le_refl _⟩, fun b o e => by
    rw [upd_ne (ne_of_none e nx), upd_ne (ne_of_none e ndx)]
    exact e⟩
end Ft

set_option Elab.async false
set_option linter.all false
set_option maxRecDepth 100000
set_option maxHeartbeats 4000000
/-! Plain mathematics: nets of arcs, room in both directions, what is pushed through. -/
namespace Ft
structure Arc where
  tail : Nat
  head : Nat
  cap : Nat
def tow : List Arc → List Nat
  | [] => []
  | a :: A => a.head :: a.tail :: tow A
def rms : List Arc → List Nat
  | [] => []
  | a :: A => a.cap :: 0 :: rms A
def bes (s : Nat) : Nat → List Arc → List Nat
  | _, [] => []
  | i, a :: A => (if a.tail = s then [2 * i] else []) ++ ((if a.head = s then [2 * i + 1] else []) ++ bes s (i + 1) A)
/-- the path that goes back -/
def xo (p : Nat) : Nat := if p % 2 = 0 then p + 1 else p - 1
theorem xo_even (i : Nat) : xo (2 * i) = 2 * i + 1 := by unfold xo; rw [if_pos (by omega)]
theorem xo_odd (i : Nat) : xo (2 * i + 1) = 2 * i := by unfold xo; rw [if_neg (by omega)]; omega
theorem xo_xo (p : Nat) : xo (xo p) = p := by unfold xo; split <;> split <;> omega
theorem xo_lt {p n : Nat} (h : p < 2 * n) : xo p < 2 * n := by unfold xo; split <;> omega
theorem xo_ne (p : Nat) : xo p ≠ p := by unfold xo; split <;> omega
theorem xo_add2 (p : Nat) : xo (p + 2) = xo p + 2 := by unfold xo; split <;> split <;> omega
theorem parity (p : Nat) : ∃ i, p = 2 * i ∨ p = 2 * i + 1 := ⟨p / 2, by omega⟩
theorem tow_len : ∀ A : List Arc, (tow A).length = 2 * A.length
  | [] => rfl
  | a :: A => by
    show (tow A).length + 1 + 1 = 2 * (A.length + 1)
    rw [tow_len A]
    omega
theorem rms_len : ∀ A : List Arc, (rms A).length = 2 * A.length
  | [] => rfl
  | a :: A => by
    show (rms A).length + 1 + 1 = 2 * (A.length + 1)
    rw [rms_len A]
    omega
theorem tow_app : ∀ (A : List Arc) (a : Arc), tow (A ++ [a]) = tow A ++ [a.head, a.tail]
  | [], a => rfl
  | b :: A, a => by
    show b.head :: b.tail :: tow (A ++ [a]) = b.head :: b.tail :: (tow A ++ [a.head, a.tail])
    rw [tow_app A a]
theorem rms_app : ∀ (A : List Arc) (a : Arc), rms (A ++ [a]) = rms A ++ [a.cap, 0]
  | [], a => rfl
  | b :: A, a => by
    show b.cap :: 0 :: rms (A ++ [a]) = b.cap :: 0 :: (rms A ++ [a.cap, 0])
    rw [rms_app A a]
theorem bes_app (s : Nat) : ∀ (i : Nat) (A : List Arc) (a : Arc), bes s i (A ++ [a]) = bes s i A ++ ((if a.tail = s then [2 * (i + A.length)] else []) ++ (if a.head = s then [2 * (i + A.length) + 1] else []))
  | i, [], a => by simp [bes]
  | i, b :: A, a => by
    show (if b.tail = s then [2 * i] else []) ++ ((if b.head = s then [2 * i + 1] else []) ++ bes s (i + 1) (A ++ [a])) = ((if b.tail = s then [2 * i] else []) ++ ((if b.head = s then [2 * i + 1] else []) ++ bes s (i + 1) A)) ++ _
    rw [bes_app s (i + 1) A a, List.length_cons, List.append_assoc, List.append_assoc]
    have e : i + 1 + A.length = i + (A.length + 1) := by omega
    rw [e]
theorem tow_even : ∀ {A : List Arc} {i : Nat} {a : Arc}, A[i]? = some a → (tow A)[2 * i]? = some a.head
  | b :: A, 0, a, h => by simp at h; subst h; rfl
  | b :: A, i + 1, a, h => by
    have := tow_even (A := A) (i := i) (a := a) (by simpa using h)
    show (b.head :: b.tail :: tow A)[2 * (i + 1)]? = _
    rw [show 2 * (i + 1) = 2 * i + 1 + 1 by omega, List.getElem?_cons_succ, List.getElem?_cons_succ, this]
theorem tow_odd : ∀ {A : List Arc} {i : Nat} {a : Arc}, A[i]? = some a → (tow A)[2 * i + 1]? = some a.tail
  | b :: A, 0, a, h => by simp at h; subst h; rfl
  | b :: A, i + 1, a, h => by
    have := tow_odd (A := A) (i := i) (a := a) (by simpa using h)
    show (b.head :: b.tail :: tow A)[2 * (i + 1) + 1]? = _
    rw [show 2 * (i + 1) + 1 = 2 * i + 1 + 1 + 1 by omega, List.getElem?_cons_succ, List.getElem?_cons_succ, this]
theorem bes_mem {s : Nat} : ∀ {A : List Arc} {i p : Nat}, p ∈ bes s i A ↔ ∃ j a, A[j]? = some a ∧ ((p = 2 * (i + j) ∧ a.tail = s) ∨ (p = 2 * (i + j) + 1 ∧ a.head = s))
  | [], i, p => by simp [bes]
  | b :: A, i, p => by
    unfold bes
    rw [List.mem_append, List.mem_append, bes_mem (A := A)]
    constructor
    · rintro (h | h | ⟨j, a, h1, h2⟩)
      · split at h
        · rename_i e
          exact ⟨0, b, rfl, .inl ⟨List.mem_singleton.mp h, e⟩⟩
        · cases h
      · split at h
        · rename_i e
          exact ⟨0, b, rfl, .inr ⟨List.mem_singleton.mp h, e⟩⟩
        · cases h
      · refine ⟨j + 1, a, by simpa using h1, ?_⟩
        rw [show i + (j + 1) = i + 1 + j by omega]
        exact h2
    · rintro ⟨j, a, h1, h2⟩
      cases j with
      | zero =>
        simp at h1
        subst h1
        rcases h2 with ⟨e1, e2⟩ | ⟨e1, e2⟩
        · left
          rw [if_pos e2]
          exact List.mem_singleton.mpr e1
        · right; left
          rw [if_pos e2]
          exact List.mem_singleton.mpr e1
      | succ j =>
        right; right
        refine ⟨j, a, by simpa using h1, ?_⟩
        rw [show i + 1 + j = i + (j + 1) by omega]
        exact h2
/-- path p goes from u to v -/
def Goes (A : List Arc) (p u v : Nat) : Prop := (tow A)[p]? = some v ∧ (tow A)[xo p]? = some u
theorem goes_fwd {A : List Arc} {i : Nat} {a : Arc} (h : A[i]? = some a) : Goes A (2 * i) a.tail a.head := ⟨tow_even h, by rw [xo_even]; exact tow_odd h⟩
theorem goes_back {A : List Arc} {i : Nat} {a : Arc} (h : A[i]? = some a) : Goes A (2 * i + 1) a.head a.tail := ⟨tow_odd h, by rw [xo_odd]; exact tow_even h⟩
theorem goes_is {A : List Arc} {p u v : Nat} (h : Goes A p u v) : ∃ i a, A[i]? = some a ∧ ((p = 2 * i ∧ u = a.tail ∧ v = a.head) ∨ (p = 2 * i + 1 ∧ u = a.head ∧ v = a.tail)) := by
  obtain ⟨i, e⟩ := parity p
  have hp : p < 2 * A.length := by
    have := (List.getElem?_eq_some_iff.mp h.1).1
    rwa [tow_len] at this
  have hi : i < A.length := by omega
  have ha : A[i]? = some A[i] := List.getElem?_eq_getElem hi
  refine ⟨i, A[i], ha, ?_⟩
  rcases e with e | e
  · subst e
    obtain ⟨h1, h2⟩ := goes_fwd ha
    exact .inl ⟨rfl, Option.some.inj (h.2.symm.trans h2), Option.some.inj (h.1.symm.trans h1)⟩
  · subst e
    obtain ⟨h1, h2⟩ := goes_back ha
    exact .inr ⟨rfl, Option.some.inj (h.2.symm.trans h2), Option.some.inj (h.1.symm.trans h1)⟩
theorem bes_goes {A : List Arc} {s p : Nat} : p ∈ bes s 0 A ↔ ∃ v, Goes A p s v := by
  rw [bes_mem]
  constructor
  · rintro ⟨j, a, h1, ⟨e1, e2⟩ | ⟨e1, e2⟩⟩
    · rw [Nat.zero_add] at e1
      subst e1 e2
      exact ⟨_, goes_fwd h1⟩
    · rw [Nat.zero_add] at e1
      subst e1 e2
      exact ⟨_, goes_back h1⟩
  · rintro ⟨v, h⟩
    obtain ⟨i, a, h1, ⟨e1, e2, e3⟩ | ⟨e1, e2, e3⟩⟩ := goes_is h
    · exact ⟨i, a, h1, .inl ⟨by rw [Nat.zero_add]; exact e1, e2.symm⟩⟩
    · exact ⟨i, a, h1, .inr ⟨by rw [Nat.zero_add]; exact e1, e2.symm⟩⟩
theorem goes_lt {A : List Arc} {p u v : Nat} (h : Goes A p u v) : p < 2 * A.length := by
  have := (List.getElem?_eq_some_iff.mp h.1).1
  rwa [tow_len] at this
theorem goes_one {A : List Arc} {p u v u' v' : Nat} (h : Goes A p u v) (h' : Goes A p u' v') : u = u' ∧ v = v' := ⟨Option.some.inj (h.2.symm.trans h'.2), Option.some.inj (h.1.symm.trans h'.1)⟩
/-! ### what flows -/
/-- what comes to v less what leaves it -/
def exc : List Arc → List Nat → Nat → Int
  | a :: A, _ :: f :: r, v => ((if a.head = v then (f : Int) else 0) - (if a.tail = v then (f : Int) else 0)) + exc A r v
  | _, _, _ => 0
def push (room : List Nat) (p : Nat) : List Nat := (room.set p (room.getD p 0 - 1)).set (xo p) (room.getD (xo p) 0 + 1)
theorem push_len (room : List Nat) (p : Nat) : (push room p).length = room.length := by
  unfold push
  rw [List.length_set, List.length_set]
theorem push_add2 (x y : Nat) (r : List Nat) (p : Nat) : push (x :: y :: r) (p + 2) = x :: y :: push r p := by
  unfold push
  rw [xo_add2]
  rfl
theorem exc_push : ∀ {A : List Arc} {room : List Nat} {p u v : Nat}, room.length = 2 * A.length → Goes A p u v → 0 < room.getD p 0 → ∀ x, exc A (push room p) x = exc A room x + ((if v = x then 1 else 0) - (if u = x then 1 else 0))
  | [], room, p, u, v, _, h, _, x => by simp [Goes, tow] at h
  | a :: A, [], p, u, v, hl, h, _, x => by simp at hl
  | a :: A, [y], p, u, v, hl, h, _, x => by simp at hl; omega
  | a :: A, c :: f :: r, p, u, v, hl, h, hp, x => by
    match p, h, hp with
    | 0, h, hp =>
      obtain ⟨e1, e2⟩ := h
      simp [tow] at e1
      have e2 : (some a.tail : Option Nat) = some u := e2
      cases e2
      subst e1
      show ((if a.head = x then ((f + 1 : Nat) : Int) else 0) - (if a.tail = x then ((f + 1 : Nat) : Int) else 0)) + exc A r x = ((if a.head = x then (f : Int) else 0) - (if a.tail = x then (f : Int) else 0)) + exc A r x + _
      split <;> split <;> omega
    | 1, h, hp =>
      obtain ⟨e1, e2⟩ := h
      simp [tow] at e1
      have e2 : (some a.head : Option Nat) = some u := e2
      cases e2
      subst e1
      have hf : 0 < f := hp
      show ((if a.head = x then ((f - 1 : Nat) : Int) else 0) - (if a.tail = x then ((f - 1 : Nat) : Int) else 0)) + exc A r x = ((if a.head = x then (f : Int) else 0) - (if a.tail = x then (f : Int) else 0)) + exc A r x + _
      split <;> split <;> omega
    | p + 2, h, hp =>
      rw [push_add2]
      have h' : Goes A p u v := by
        obtain ⟨e1, e2⟩ := h
        rw [xo_add2] at e2
        exact ⟨by simpa [tow] using e1, by simpa [tow] using e2⟩
      have ih := exc_push (A := A) (room := r) (p := p) (by simp at hl; omega) h' (by simpa using hp) x
      show (_ - _) + exc A (push r p) x = (_ - _) + exc A r x + _
      rw [ih]
      omega
theorem getD_set {l : List Nat} {i j v : Nat} : (l.set i v).getD j 0 = if i = j ∧ i < l.length then v else l.getD j 0 := by
  rw [List.getD_eq_getElem?_getD, List.getD_eq_getElem?_getD, List.getElem?_set]
  by_cases h : i = j
  · subst h
    by_cases h2 : i < l.length
    · rw [if_pos rfl, if_pos h2, if_pos ⟨rfl, h2⟩]
      rfl
    · rw [if_pos rfl, if_neg h2, if_neg (fun z => h2 z.2), List.getElem?_eq_none (by omega)]
  · rw [if_neg h, if_neg (fun z => h z.1)]
theorem push_at {room : List Nat} {p q : Nat} {n : Nat} (hl : room.length = 2 * n) (hp : p < 2 * n) : (push room p).getD q 0 = if q = p then room.getD p 0 - 1 else if q = xo p then room.getD (xo p) 0 + 1 else room.getD q 0 := by
  unfold push
  have hx := xo_lt hp
  have ne := xo_ne p
  rw [getD_set, getD_set, List.length_set, hl]
  by_cases h1 : q = p
  · subst h1
    rw [if_pos rfl, if_neg (fun z => ne z.1), if_pos ⟨rfl, hp⟩]
  · rw [if_neg h1]
    by_cases h2 : q = xo p
    · subst h2
      rw [if_pos rfl, if_pos ⟨rfl, hx⟩]
    · rw [if_neg h2, if_neg (fun z => h2 z.1.symm), if_neg (fun z => h1 z.1.symm)]
end Ft

set_option Elab.async false
set_option linter.all false
set_option maxRecDepth 100000
set_option maxHeartbeats 4000000
/-! Plain mathematics: a way pushed through, and what flows over a border. -/
namespace Ft
/-! ### many pushes -/
def pushes (room : List Nat) (ps : List Nat) : List Nat := ps.foldl push room
theorem pushes_len (ps : List Nat) : ∀ room : List Nat, (pushes room ps).length = room.length := by
  induction ps with
  | nil => exact fun _ => rfl
  | cons p ps ih =>
    intro room
    show (pushes (push room p) ps).length = _
    rw [ih, push_len]
theorem pushes_snoc (room ps : List Nat) (p : Nat) : pushes room (ps ++ [p]) = push (pushes room ps) p := by
  unfold pushes
  rw [List.foldl_append]
  rfl
theorem pushes_le {n : Nat} : ∀ {ps room : List Nat}, room.length = 2 * n → (∀ p ∈ ps, p < 2 * n) → ∀ q, (pushes room ps).getD q 0 ≤ room.getD q 0 + ps.count (xo q)
  | [], room, _, _, q => by simp [pushes]
  | p :: ps, room, hl, hp, q => by
    have ih := pushes_le (n := n) (ps := ps) (room := push room p) (by rw [push_len]; exact hl) (fun x hx => hp x (List.mem_cons_of_mem _ hx)) q
    have e := push_at (q := q) hl (hp p List.mem_cons_self)
    show (pushes (push room p) ps).getD q 0 ≤ _
    rw [List.count_cons]
    rw [e] at ih
    by_cases h1 : q = p
    · rw [if_pos h1] at ih
      rw [h1] at ih ⊢
      omega
    · rw [if_neg h1] at ih
      by_cases h2 : q = xo p
      · rw [if_pos h2] at ih
        have : (p == xo q) = true := by rw [h2, xo_xo]; simp
        rw [if_pos this]
        rw [h2] at ih ⊢
        omega
      · rw [if_neg h2] at ih
        omega
theorem pushes_ge {n : Nat} : ∀ {ps room : List Nat}, room.length = 2 * n → (∀ p ∈ ps, p < 2 * n) → ∀ q, room.getD q 0 ≤ (pushes room ps).getD q 0 + ps.count q
  | [], room, _, _, q => by simp [pushes]
  | p :: ps, room, hl, hp, q => by
    have ih := pushes_ge (n := n) (ps := ps) (room := push room p) (by rw [push_len]; exact hl) (fun x hx => hp x (List.mem_cons_of_mem _ hx)) q
    have e := push_at (q := q) hl (hp p List.mem_cons_self)
    show _ ≤ (pushes (push room p) ps).getD q 0 + _
    rw [List.count_cons]
    rw [e] at ih
    by_cases h1 : q = p
    · rw [if_pos h1] at ih
      have : (p == q) = true := by rw [h1]; simp
      rw [if_pos this]
      rw [h1] at ih ⊢
      omega
    · rw [if_neg h1] at ih
      by_cases h2 : q = xo p
      · rw [if_pos h2] at ih
        rw [h2] at ih ⊢
        omega
      · rw [if_neg h2] at ih
        omega
/-- both directions of a path together have as much room as before -/
theorem push_sum {room : List Nat} {p i n : Nat} (hl : room.length = 2 * n) (hp : p < 2 * n) (h0 : 0 < room.getD p 0) : (push room p).getD (2 * i) 0 + (push room p).getD (2 * i + 1) 0 = room.getD (2 * i) 0 + room.getD (2 * i + 1) 0 := by
  rw [push_at hl hp, push_at hl hp]
  obtain ⟨j, e | e⟩ := parity p
  · subst e
    rw [xo_even] at *
    by_cases h : i = j
    · subst h
      rw [if_pos rfl, if_neg (by omega), if_pos rfl]
      omega
    · rw [if_neg (by omega), if_neg (by omega), if_neg (by omega), if_neg (by omega)]
  · subst e
    rw [xo_odd] at *
    by_cases h : i = j
    · subst h
      rw [if_neg (by omega), if_pos rfl, if_pos rfl]
      omega
    · rw [if_neg (by omega), if_neg (by omega), if_neg (by omega), if_neg (by omega)]
/-! ### what was reached, in the order in which it was -/
def keysT (L : List (Nat × Option Nat)) : List Nat := L.map (·.1)
inductive Tree (A : List Arc) (room src : List Nat) : List (Nat × Option Nat) → Prop
  | nil : Tree A room src []
  | src {L : List (Nat × Option Nat)} {v : Nat} : Tree A room src L → v ∈ src → v ∉ keysT L → Tree A room src (L ++ [(v, none)])
  | arc {L : List (Nat × Option Nat)} {p u v : Nat} : Tree A room src L → Goes A p u v → u ∈ keysT L → 0 < room.getD p 0 → v ∉ keysT L → Tree A room src (L ++ [(v, some p)])
theorem keysT_app (L : List (Nat × Option Nat)) (e : Nat × Option Nat) : keysT (L ++ [e]) = keysT L ++ [e.1] := by
  unfold keysT
  rw [List.map_append]
  rfl
theorem Tree.nd {A : List Arc} {room src : List Nat} {L : List (Nat × Option Nat)} (h : Tree A room src L) : (keysT L).Nodup := by
  induction h with
  | nil => exact List.nodup_nil
  | src _ _ n ih =>
    rw [keysT_app, List.nodup_append]
    exact ⟨ih, by simp, fun x hx y hy e => n (by rw [List.mem_singleton.mp hy] at e; simp only at e; rw [← e]; exact hx)⟩
  | arc _ _ _ _ n ih =>
    rw [keysT_app, List.nodup_append]
    exact ⟨ih, by simp, fun x hx y hy e => n (by rw [List.mem_singleton.mp hy] at e; simp only at e; rw [← e]; exact hx)⟩
theorem Tree.all {A : List Arc} {room src : List Nat} {L : List (Nat × Option Nat)} {R : Nat → Prop} (h : Tree A room src L) (h0 : ∀ v ∈ src, R v) (h1 : ∀ p u v, Goes A p u v → 0 < room.getD p 0 → R u → R v) : ∀ v ∈ keysT L, R v := by
  induction h with
  | nil => exact fun _ h => nomatch h
  | src _ m _ ih =>
    intro v hv
    rw [keysT_app] at hv
    rcases List.mem_append.mp hv with hv | hv
    · exact ih v hv
    · rw [List.mem_singleton.mp hv]
      exact h0 _ m
  | arc _ g m r _ ih =>
    intro v hv
    rw [keysT_app] at hv
    rcases List.mem_append.mp hv with hv | hv
    · exact ih v hv
    · rw [List.mem_singleton.mp hv]
      exact h1 _ _ _ g r (ih _ m)
/-- the paths back from v to a source -/
inductive Back (A : List Arc) (L : List (Nat × Option Nat)) : Nat → List Nat → Prop
  | src {v : Nat} : (v, none) ∈ L → Back A L v []
  | arc {v p u : Nat} {ps : List Nat} : (v, some p) ∈ L → Goes A p u v → Back A L u ps → Back A L v (p :: ps)
theorem Back.more {A : List Arc} {L M : List (Nat × Option Nat)} {v : Nat} {ps : List Nat} (h : Back A L v ps) (s : ∀ e ∈ L, e ∈ M) : Back A M v ps := by
  induction h with
  | src m => exact .src (s _ m)
  | arc m g _ ih => exact .arc (s _ m) g ih
/-- paths one behind the other, back from v: their heads are different places, all reached -/
structure BackOk (A : List Arc) (room : List Nat) (K : List Nat) (ps : List Nat) : Prop where
  lt : ∀ p ∈ ps, p < 2 * A.length
  pos : ∀ p ∈ ps, 0 < room.getD p 0
  nd : ps.Nodup
  inn : ∀ p ∈ ps, ∃ u v, Goes A p u v ∧ u ∈ K ∧ v ∈ K
theorem tree_back {A : List Arc} {room src : List Nat} {L : List (Nat × Option Nat)} (h : Tree A room src L) : ∀ v ∈ keysT L, ∃ ps, Back A L v ps ∧ BackOk A room (keysT L) ps ∧ ps.length ≤ L.length := by
  induction h with
  | nil => exact fun _ h => nomatch h
  | @src L v _ m n ih =>
    intro x hx
    rw [keysT_app] at hx
    rcases List.mem_append.mp hx with hx | hx
    · obtain ⟨ps, b, ok, l⟩ := ih x hx
      refine ⟨ps, b.more fun e he => List.mem_append_left _ he, ⟨ok.lt, ok.pos, ok.nd, fun p hp => ?_⟩, by rw [List.length_append]; omega⟩
      obtain ⟨u, w, g, h1, h2⟩ := ok.inn p hp
      rw [keysT_app]
      exact ⟨u, w, g, List.mem_append_left _ h1, List.mem_append_left _ h2⟩
    · rw [List.mem_singleton.mp hx]
      exact ⟨[], .src (List.mem_append_right _ List.mem_cons_self), ⟨(fun _ h => nomatch h), (fun _ h => nomatch h), List.nodup_nil, fun _ h => nomatch h⟩, Nat.zero_le _⟩
  | @arc L p u v _ g m r n ih =>
    intro x hx
    rw [keysT_app] at hx
    rcases List.mem_append.mp hx with hx | hx
    · obtain ⟨ps, b, ok, l⟩ := ih x hx
      refine ⟨ps, b.more fun e he => List.mem_append_left _ he, ⟨ok.lt, ok.pos, ok.nd, fun p hp => ?_⟩, by rw [List.length_append]; omega⟩
      obtain ⟨u, w, g, h1, h2⟩ := ok.inn p hp
      rw [keysT_app]
      exact ⟨u, w, g, List.mem_append_left _ h1, List.mem_append_left _ h2⟩
    · rw [List.mem_singleton.mp hx]
      obtain ⟨ps, b, ok, l⟩ := ih u m
      refine ⟨p :: ps, .arc (List.mem_append_right _ List.mem_cons_self) g (b.more fun e he => List.mem_append_left _ he), ⟨fun q hq => ?_, fun q hq => ?_, List.nodup_cons.mpr ⟨fun hm => ?_, ok.nd⟩, fun q hq => ?_⟩, by rw [List.length_append, List.length_cons]; show ps.length + 1 ≤ L.length + 1; omega⟩
      · rcases List.mem_cons.mp hq with e | hq
        · rw [e]; exact goes_lt g
        · exact ok.lt q hq
      · rcases List.mem_cons.mp hq with e | hq
        · rw [e]; exact r
        · exact ok.pos q hq
      · obtain ⟨u', v', g', _, hv'⟩ := ok.inn p hm
        rw [← (goes_one g g').2] at hv'
        exact n hv'
      · rw [keysT_app]
        rcases List.mem_cons.mp hq with e | hq
        · rw [e]
          exact ⟨u, v, g, List.mem_append_left _ m, List.mem_append_right _ List.mem_cons_self⟩
        · obtain ⟨u', w, g', h1, h2⟩ := ok.inn q hq
          exact ⟨u', w, g', List.mem_append_left _ h1, List.mem_append_left _ h2⟩
/-- what is pushed back from v comes from a source -/
theorem back_exc {A : List Arc} {room src : List Nat} {L : List (Nat × Option Nat)} (hl : room.length = 2 * A.length) (hs : ∀ v, (v, none) ∈ L → v ∈ src) : ∀ {ps dn : List Nat} {v : Nat}, Back A L v ps → BackOk A room (keysT L) (dn ++ ps) → ∃ s ∈ src, ∀ x, exc A (pushes room (dn ++ ps)) x = exc A (pushes room dn) x + ((if v = x then 1 else 0) - (if s = x then 1 else 0))
  | [], dn, v, h, ok => by
    cases h with
    | src m =>
      refine ⟨v, hs v m, fun x => ?_⟩
      rw [List.append_nil]
      omega
  | p :: ps, dn, v, h, ok => by
    cases h with
    | @arc _ _ u _ m g b =>
      have e : dn ++ p :: ps = (dn ++ [p]) ++ ps := by rw [List.append_assoc]; rfl
      rw [e] at ok ⊢
      obtain ⟨s, h1, h2⟩ := back_exc (ps := ps) (dn := dn ++ [p]) hl hs b ok
      refine ⟨s, h1, fun x => ?_⟩
      have hd : ∀ q ∈ dn, q < 2 * A.length := fun q hq => ok.lt q (List.mem_append_left _ (List.mem_append_left _ hq))
      have nd := ok.nd
      rw [List.nodup_append, List.nodup_append] at nd
      have np : p ∉ dn := fun m => nd.1.2.2 p m p List.mem_cons_self rfl
      have c0 : dn.count p = 0 := List.count_eq_zero.mpr np
      have ge := pushes_ge (n := A.length) hl hd p
      have pp := ok.pos p (List.mem_append_left _ (List.mem_append_right _ List.mem_cons_self))
      have e2 := exc_push (room := pushes room dn) (by rw [pushes_len]; exact hl) g (by omega) x
      rw [h2 x, pushes_snoc, e2]
      omega
/-- .. and changes no room of both directions together -/
theorem pushes_sum {A : List Arc} {room K : List Nat} (hl : room.length = 2 * A.length) : ∀ {ps dn : List Nat}, BackOk A room K (dn ++ ps) → ∀ i, (pushes room (dn ++ ps)).getD (2 * i) 0 + (pushes room (dn ++ ps)).getD (2 * i + 1) 0 = (pushes room dn).getD (2 * i) 0 + (pushes room dn).getD (2 * i + 1) 0
  | [], dn, _, i => by rw [List.append_nil]
  | p :: ps, dn, ok, i => by
    have e : dn ++ p :: ps = (dn ++ [p]) ++ ps := by rw [List.append_assoc]; rfl
    rw [e] at ok ⊢
    rw [pushes_sum hl (ps := ps) (dn := dn ++ [p]) ok i, pushes_snoc]
    have hd : ∀ q ∈ dn, q < 2 * A.length := fun q hq => ok.lt q (List.mem_append_left _ (List.mem_append_left _ hq))
    have nd := ok.nd
    rw [List.nodup_append, List.nodup_append] at nd
    have np : p ∉ dn := fun m => nd.1.2.2 p m p List.mem_cons_self rfl
    have c0 : dn.count p = 0 := List.count_eq_zero.mpr np
    have ge := pushes_ge (n := A.length) hl hd p
    have pp := ok.pos p (List.mem_append_left _ (List.mem_append_right _ List.mem_cons_self))
    exact push_sum (n := A.length) (by rw [pushes_len]; exact hl) (ok.lt p (List.mem_append_left _ (List.mem_append_right _ List.mem_cons_self))) (by omega)
/-! ### what flows over a border -/
/-- out of the sides with R, less what flows in -/
def out : List Arc → List Nat → (Nat → Bool) → Int
  | a :: A, _ :: f :: r, R => ((if R a.tail then (f : Int) else 0) - (if R a.head then (f : Int) else 0)) + out A r R
  | _, _, _ => 0
def sumOn (g : Nat → Int) : List Nat → Int
  | [] => 0
  | v :: l => g v + sumOn g l
theorem sumOn_add (g h : Nat → Int) : ∀ l, sumOn (fun v => g v + h v) l = sumOn g l + sumOn h l
  | [] => rfl
  | v :: l => by
    show g v + h v + sumOn _ l = g v + sumOn g l + (h v + sumOn h l)
    rw [sumOn_add g h l]
    omega
theorem sumOn_sub (g h : Nat → Int) : ∀ l, sumOn (fun v => g v - h v) l = sumOn g l - sumOn h l
  | [] => rfl
  | v :: l => by
    show g v - h v + sumOn _ l = g v + sumOn g l - (h v + sumOn h l)
    rw [sumOn_sub g h l]
    omega
theorem sumOn_zero : ∀ l, sumOn (fun _ => 0) l = 0
  | [] => rfl
  | v :: l => by
    show 0 + sumOn _ l = 0
    rw [sumOn_zero l]
    rfl
theorem sumOn_congr {g h : Nat → Int} : ∀ {l : List Nat}, (∀ v ∈ l, g v = h v) → sumOn g l = sumOn h l
  | [], _ => rfl
  | v :: l, e => by
    show g v + sumOn g l = h v + sumOn h l
    rw [e v List.mem_cons_self, sumOn_congr fun x hx => e x (List.mem_cons_of_mem _ hx)]
theorem sumOn_one (w : Nat) (f : Int) : ∀ {l : List Nat}, l.Nodup → sumOn (fun v => if w = v then f else 0) l = if w ∈ l then f else 0
  | [], _ => by simp [sumOn]
  | v :: l, nd => by
    obtain ⟨n1, n2⟩ := List.nodup_cons.mp nd
    show (if w = v then f else 0) + sumOn _ l = _
    rw [sumOn_one w f n2]
    by_cases h : w = v
    · subst h
      rw [if_pos rfl, if_neg n1, if_pos List.mem_cons_self]
      omega
    · rw [if_neg h]
      by_cases h2 : w ∈ l
      · rw [if_pos h2, if_pos (List.mem_cons_of_mem _ h2)]
        omega
      · rw [if_neg h2, if_neg (fun m => (List.mem_cons.mp m).elim h h2)]
        rfl
/-- the border of the sides in l -/
theorem exc_out {l : List Nat} (nd : l.Nodup) : ∀ (A : List Arc) (room : List Nat), sumOn (exc A room) l = - out A room (fun v => decide (v ∈ l))
  | [], room => by
    have : sumOn (exc [] room) l = sumOn (fun _ => 0) l := sumOn_congr fun v _ => by simp [exc]
    rw [this, sumOn_zero]
    simp [out]
  | a :: A, [] => by
    have : sumOn (exc (a :: A) []) l = sumOn (fun _ => 0) l := sumOn_congr fun v _ => by simp [exc]
    rw [this, sumOn_zero]
    simp [out]
  | a :: A, [y] => by
    have : sumOn (exc (a :: A) [y]) l = sumOn (fun _ => 0) l := sumOn_congr fun v _ => by simp [exc]
    rw [this, sumOn_zero]
    simp [out]
  | a :: A, c :: f :: r => by
    have e : sumOn (exc (a :: A) (c :: f :: r)) l = sumOn (fun v => ((if a.head = v then (f : Int) else 0) - (if a.tail = v then (f : Int) else 0)) + exc A r v) l := sumOn_congr fun v _ => rfl
    rw [e, sumOn_add, sumOn_sub, sumOn_one _ _ nd, sumOn_one _ _ nd, exc_out nd A r]
    show _ = - (((if decide (a.tail ∈ l) = true then (f : Int) else 0) - (if decide (a.head ∈ l) = true then (f : Int) else 0)) + out A r _)
    simp only [decide_eq_true_eq]
    omega
end Ft

set_option Elab.async false
set_option linter.all false
set_option maxRecDepth 100000
set_option maxHeartbeats 4000000
/-! Plain mathematics: the net of a map, and flows in it. -/
namespace Ft
def keepR (C : Chart) (p : Nat × Nat) : Bool := decide (p.1 ≠ p.2) || decide (p.2 ∈ C.wished)
def gatesA (C : Chart) : List Arc := (List.range C.n).map fun a => ⟨2 * a, 2 * a + 1, if a ∈ C.wished then 0 else 1⟩
def roadsA (C : Chart) : List Arc := (C.roads.filter (keepR C)).map fun p => ⟨2 * p.1 + 1, 2 * p.2, 61⟩
def netA (C : Chart) : List Arc := gatesA C ++ roadsA C
def gateCap (C : Chart) (S F : List Nat) (a : Nat) : Nat := if a ∈ S then 0 else if a ∈ F then 61 else if a ∈ C.wished then 0 else 1
def capOf (C : Chart) (S F : List Nat) (i : Nat) : Nat := if i < C.n then gateCap C S F i else 61
theorem gates_len (C : Chart) : (gatesA C).length = C.n := by unfold gatesA; rw [List.length_map, List.length_range]
theorem net_gate {C : Chart} {a : Nat} (h : a < C.n) : (netA C)[a]? = some ⟨2 * a, 2 * a + 1, if a ∈ C.wished then 0 else 1⟩ := by
  unfold netA
  rw [List.getElem?_append_left (by rw [gates_len]; exact h)]
  unfold gatesA
  rw [List.getElem?_map, List.getElem?_range h]
  rfl
theorem net_is {C : Chart} {i : Nat} {a : Arc} (h : (netA C)[i]? = some a) : (i < C.n ∧ a.tail = 2 * i ∧ a.head = 2 * i + 1) ∨ (C.n ≤ i ∧ ∃ x y, (x, y) ∈ C.roads ∧ (x ≠ y ∨ y ∈ C.wished) ∧ a.tail = 2 * x + 1 ∧ a.head = 2 * y) := by
  by_cases hi : i < C.n
  · rw [net_gate hi] at h
    cases h
    exact .inl ⟨hi, rfl, rfl⟩
  · right
    refine ⟨by omega, ?_⟩
    unfold netA at h
    rw [List.getElem?_append_right (by rw [gates_len]; omega)] at h
    have m := List.mem_of_getElem? h
    unfold roadsA at m
    obtain ⟨p, hp, rfl⟩ := List.mem_map.mp m
    rw [List.mem_filter] at hp
    have k := hp.2
    unfold keepR at k
    rw [Bool.or_eq_true, decide_eq_true_eq, decide_eq_true_eq] at k
    exact ⟨p.1, p.2, hp.1, k, rfl, rfl⟩
theorem net_road {C : Chart} {x y : Nat} (h : (x, y) ∈ C.roads) (k : x ≠ y ∨ y ∈ C.wished) : ∃ i, C.n ≤ i ∧ (netA C)[i]? = some ⟨2 * x + 1, 2 * y, 61⟩ := by
  have m : (⟨2 * x + 1, 2 * y, 61⟩ : Arc) ∈ roadsA C := by
    unfold roadsA
    refine List.mem_map.mpr ⟨(x, y), List.mem_filter.mpr ⟨h, ?_⟩, rfl⟩
    unfold keepR
    rw [Bool.or_eq_true, decide_eq_true_eq, decide_eq_true_eq]
    exact k
  obtain ⟨j, hj⟩ := List.getElem?_of_mem m
  refine ⟨C.n + j, by omega, ?_⟩
  unfold netA
  rw [List.getElem?_append_right (by rw [gates_len]; omega), gates_len, show C.n + j - C.n = j by omega, hj]
def srcs (S : List Nat) : List Nat := S.map fun a => 2 * a + 1
theorem srcs_mem {S : List Nat} {v : Nat} : v ∈ srcs S ↔ ∃ a ∈ S, v = 2 * a + 1 := by
  unfold srcs
  rw [List.mem_map]
  exact ⟨fun ⟨a, h, e⟩ => ⟨a, h, e.symm⟩, fun ⟨a, h, e⟩ => ⟨a, h, e.symm⟩⟩
/-- the lot comes to it -/
def ComesS (C : Chart) (S : List Nat) (b : Nat) : Prop := ∃ a ∈ S, Reach C.roads C.wished a b
/-- the sides that ways from the lot may use -/
def RS (C : Chart) (S : List Nat) (v : Nat) : Prop := (∃ a, v = 2 * a + 1 ∧ (a ∈ S ∨ (a ∉ C.wished ∧ ComesS C S a))) ∨ (∃ b, v = 2 * b ∧ ComesS C S b)
theorem RS.odd {C : Chart} {S : List Nat} {a : Nat} (h : RS C S (2 * a + 1)) : a ∈ S ∨ (a ∉ C.wished ∧ ComesS C S a) := by
  rcases h with ⟨b, e, h⟩ | ⟨b, e, _⟩
  · have : a = b := by omega
    rw [this]; exact h
  · omega
theorem RS.even {C : Chart} {S : List Nat} {a : Nat} (h : RS C S (2 * a)) : ComesS C S a := by
  rcases h with ⟨b, e, _⟩ | ⟨b, e, h⟩
  · omega
  · have : a = b := by omega
    rw [this]; exact h
def twos (E : List Nat) : List Nat := E.map fun w => 2 * w
/-- lot and free places as they may be -/
structure LotsOk (C : Chart) (S F : List Nat) : Prop where
  inS : ∀ a ∈ S, a < C.n
  inF : ∀ a ∈ F, a < C.n ∧ a ∉ C.wished
structure FlowOk (C : Chart) (S F : List Nat) (room E : List Nat) : Prop where
  len : room.length = 2 * (netA C).length
  sum : ∀ i, i < (netA C).length → room.getD (2 * i) 0 + room.getD (2 * i + 1) 0 = capOf C S F i
  exc : ∀ v, v < 2 * C.n → v ∉ srcs S → exc (netA C) room v = ((twos E).count v : Int)
  nd : E.Nodup
  inE : ∀ w ∈ E, w ∈ C.wished
  small : ∀ i, room.getD (2 * i + 1) 0 ≤ E.length
  near : ∀ i a, (netA C)[i]? = some a → 0 < room.getD (2 * i + 1) 0 → RS C S a.tail ∧ RS C S a.head
section
variable {C : Chart} {S F room E : List Nat} {L : List (Nat × Option Nat)}
theorem cap_pos {a : Nat} (lo : LotsOk C S F) (h : 0 < gateCap C S F a) : a ∉ S ∧ a ∉ C.wished := by
  unfold gateCap at h
  split at h
  · omega
  · rename_i h1
    split at h
    · rename_i h2
      exact ⟨h1, (lo.inF a h2).2⟩
    · split at h
      · omega
      · rename_i h3
        exact ⟨h1, h3⟩
/-- a step where there is room stays among the sides that ways may use -/
theorem RS_step (lo : LotsOk C S F) (fo : FlowOk C S F room E) {p u v : Nat} (g : Goes (netA C) p u v) (r : 0 < room.getD p 0) (h : RS C S u) : RS C S v := by
  obtain ⟨i, a, ha, ⟨e1, e2, e3⟩ | ⟨e1, e2, e3⟩⟩ := goes_is g
  · subst e1 e2 e3
    rcases net_is ha with ⟨hi, t, hd⟩ | ⟨hi, x, y, hr, _, t, hd⟩
    · rw [t] at h
      rw [hd]
      have hl : i < (netA C).length := (List.getElem?_eq_some_iff.mp ha).1
      have s := fo.sum i hl
      unfold capOf at s
      rw [if_pos hi] at s
      have c := cap_pos (a := i) lo (by omega)
      exact .inl ⟨i, rfl, .inr ⟨c.2, h.even⟩⟩
    · rw [t] at h
      rw [hd]
      refine .inr ⟨y, rfl, ?_⟩
      rcases h.odd with m | ⟨nw, s, hs, rs⟩
      · exact ⟨x, m, .one hr⟩
      · exact ⟨s, hs, .more rs nw hr⟩
  · subst e1 e2 e3
    exact (fo.near i a ha r).1
theorem tree_RS (lo : LotsOk C S F) (fo : FlowOk C S F room E) (t : Tree (netA C) room (srcs S) L) : ∀ v ∈ keysT L, RS C S v :=
  t.all (fun v hv => by
    obtain ⟨a, ha, rfl⟩ := srcs_mem.mp hv
    exact .inl ⟨a, rfl, .inl ha⟩) fun p u v g r h => RS_step lo fo g r h
theorem tree_src {A : List Arc} {src : List Nat} (t : Tree A room src L) : ∀ v, (v, none) ∈ L → v ∈ src := by
  induction t with
  | nil => exact fun _ h => nomatch h
  | src _ m _ ih =>
    intro v hv
    rcases List.mem_append.mp hv with hv | hv
    · exact ih v hv
    · have := List.mem_singleton.mp hv
      injection this with e _
      rw [e]
      exact m
  | arc _ _ _ _ _ ih =>
    intro v hv
    rcases List.mem_append.mp hv with hv | hv
    · exact ih v hv
    · have := List.mem_singleton.mp hv
      injection this with _ e
      cases e
/-- how a side was reached -/
theorem tree_in {A : List Arc} {src : List Nat} (t : Tree A room src L) : ∀ v ∈ keysT L, v ∈ src ∨ ∃ p u, Goes A p u v ∧ u ∈ keysT L ∧ 0 < room.getD p 0 := by
  induction t with
  | nil => exact fun _ h => nomatch h
  | src _ m _ ih =>
    intro v hv
    rw [keysT_app] at hv ⊢
    rcases List.mem_append.mp hv with hv | hv
    · rcases ih v hv with h | ⟨p, u, g, h, r⟩
      · exact .inl h
      · exact .inr ⟨p, u, g, List.mem_append_left _ h, r⟩
    · rw [List.mem_singleton.mp hv]
      exact .inl m
  | @arc L0 p u _ _ g m r _ ih =>
    intro v hv
    rw [keysT_app] at hv ⊢
    rcases List.mem_append.mp hv with hv | hv
    · rcases ih v hv with h | ⟨p, u, g, h, r⟩
      · exact .inl h
      · exact .inr ⟨p, u, g, List.mem_append_left _ h, r⟩
    · rw [List.mem_singleton.mp hv]
      exact .inr ⟨p, u, g, List.mem_append_left _ m, r⟩
theorem twos_app (E : List Nat) (w : Nat) : twos (E ++ [w]) = twos E ++ [2 * w] := by
  unfold twos
  rw [List.map_append]
  rfl
theorem twos_mem {E : List Nat} {w : Nat} : 2 * w ∈ twos E ↔ w ∈ E := by
  unfold twos
  rw [List.mem_map]
  exact ⟨fun ⟨x, h, e⟩ => by have : x = w := by omega
                             rw [← this]; exact h, fun h => ⟨w, h, rfl⟩⟩
/-- one more way -/
theorem FlowOk.more (lo : LotsOk C S F) (fo : FlowOk C S F room E) (t : Tree (netA C) room (srcs S) L) {w : Nat} (hw : w ∈ C.wished) (hn : w ∉ E) {ps : List Nat} (hb : Back (netA C) L (2 * w) ps) (ok : BackOk (netA C) room (keysT L) ps) : FlowOk C S F (pushes room ps) (E ++ [w]) := by
  have lt := ok.lt
  have le := fun q => pushes_le (n := (netA C).length) fo.len lt q
  have one : ∀ q, ps.count q ≤ 1 := fun q => List.nodup_iff_count.mp ok.nd q
  refine ⟨by rw [pushes_len]; exact fo.len, fun i hi => ?_, fun v hv hs => ?_, ?_, fun x hx => ?_, fun i => ?_, fun i a ha h => ?_⟩
  · have := pushes_sum (dn := []) fo.len (ps := ps) (K := keysT L) ok i
    rw [List.nil_append] at this
    rw [this]
    exact fo.sum i hi
  · obtain ⟨s, h1, h2⟩ := back_exc (dn := []) fo.len (tree_src t) hb ok
    have e := h2 v
    rw [List.nil_append] at e
    rw [e, show pushes room [] = room from rfl, fo.exc v hv hs, twos_app, List.count_append, List.count_singleton]
    have ns : s ≠ v := fun z => hs (z ▸ h1)
    rw [if_neg ns]
    by_cases h : 2 * w = v
    · rw [if_pos h, if_pos (by rw [h]; simp)]
      omega
    · rw [if_neg h, if_neg (by simpa using h)]
      omega
  · rw [List.nodup_append]
    exact ⟨fo.nd, by simp, fun x hx y hy e => hn (by rw [List.mem_singleton.mp hy] at e; exact e ▸ hx)⟩
  · rcases List.mem_append.mp hx with hx | hx
    · exact fo.inE x hx
    · rw [List.mem_singleton.mp hx]
      exact hw
  · have := le (2 * i + 1)
    have := one (xo (2 * i + 1))
    have := fo.small i
    rw [List.length_append]
    show _ ≤ E.length + 1
    omega
  · have h1 := le (2 * i + 1)
    by_cases h0 : 0 < room.getD (2 * i + 1) 0
    · exact fo.near i a ha h0
    · rw [xo_odd] at h1
      have m : 2 * i ∈ ps := List.count_pos_iff.mp (by omega)
      obtain ⟨u, v, g, hu, hv⟩ := ok.inn _ m
      have := goes_one g (goes_fwd ha)
      have rs := tree_RS lo fo t
      rw [this.1] at hu
      rw [this.2] at hv
      exact ⟨rs _ hu, rs _ hv⟩
theorem FlowOk.start (h1 : room.length = 2 * (netA C).length) (h2 : ∀ i, i < (netA C).length → room.getD (2 * i) 0 = capOf C S F i ∧ room.getD (2 * i + 1) 0 = 0) : FlowOk C S F room [] := by
  have z : ∀ i, room.getD (2 * i + 1) 0 = 0 := fun i => by
    by_cases h : i < (netA C).length
    · exact (h2 i h).2
    · rw [List.getD_eq_getElem?_getD, List.getElem?_eq_none (by omega)]
      rfl
  refine ⟨h1, fun i hi => by rw [(h2 i hi).1, (h2 i hi).2]; rfl, fun v _ _ => ?_, List.nodup_nil, (fun _ h => nomatch h), fun i => by rw [z]; exact Nat.zero_le _, fun i a _ h => by rw [z] at h; omega⟩
  have : ∀ (A : List Arc) (r : List Nat), (∀ i, r.getD (2 * i + 1) 0 = 0) → Ft.exc A r v = 0 := by
    intro A
    induction A with
    | nil => intro r _; simp [Ft.exc]
    | cons a A ih =>
      intro r hr
      match r, hr with
      | [], _ => simp [Ft.exc]
      | [y], _ => simp [Ft.exc]
      | c :: f :: r, hr =>
        have f0 : f = 0 := hr 0
        have := ih r fun i => by
          have := hr (i + 1)
          rw [show 2 * (i + 1) + 1 = (2 * i + 1) + 1 + 1 by omega] at this
          simpa using this
        show ((if a.head = v then (f : Int) else 0) - (if a.tail = v then (f : Int) else 0)) + Ft.exc A r v = 0
        rw [this, f0]
        split <;> split <;> omega
  rw [this _ _ z]
  rfl
end
end Ft

set_option Elab.async false
set_option linter.all false
set_option maxRecDepth 100000
set_option maxHeartbeats 4000000
/-! Plain mathematics: what flows over a border of the net, and the nearest least wall. -/
namespace Ft
/-! ### sums -/
theorem sumOn_le {g h : Nat → Int} : ∀ {l : List Nat}, (∀ v ∈ l, g v ≤ h v) → sumOn g l ≤ sumOn h l
  | [], _ => Int.le_refl _
  | v :: l, e => by
    show g v + sumOn g l ≤ h v + sumOn h l
    have := e v List.mem_cons_self
    have := sumOn_le fun x hx => e x (List.mem_cons_of_mem v hx)
    omega
theorem sumOn_tight {g h : Nat → Int} : ∀ {l : List Nat}, (∀ v ∈ l, g v ≤ h v) → sumOn h l ≤ sumOn g l → ∀ v ∈ l, g v = h v
  | [], _, _ => fun _ m => nomatch m
  | v :: l, e, t => fun x hx => by
    have t' : h v + sumOn h l ≤ g v + sumOn g l := t
    have e1 := e v List.mem_cons_self
    have e2 := sumOn_le fun x hx => e x (List.mem_cons_of_mem v hx)
    rcases List.mem_cons.mp hx with q | hx
    · rw [q]; omega
    · exact sumOn_tight (fun x hx => e x (List.mem_cons_of_mem v hx)) (by omega) x hx
theorem sumOn_app (g : Nat → Int) : ∀ l m, sumOn g (l ++ m) = sumOn g l + sumOn g m
  | [], m => by show sumOn g m = 0 + sumOn g m; omega
  | v :: l, m => by
    show g v + sumOn g (l ++ m) = g v + sumOn g l + sumOn g m
    rw [sumOn_app g l m]
    omega
theorem sumOn_map (g : Nat → Int) (f : Nat → Nat) : ∀ l, sumOn g (l.map f) = sumOn (fun v => g (f v)) l
  | [] => rfl
  | v :: l => by
    show g (f v) + sumOn g (l.map f) = g (f v) + sumOn _ l
    rw [sumOn_map g f l]
theorem sumOn_count (p : Nat → Bool) : ∀ l : List Nat, sumOn (fun v => if p v = true then 1 else 0) l = ((l.filter p).length : Int)
  | [] => rfl
  | v :: l => by
    show (if p v = true then (1 : Int) else 0) + sumOn _ l = _
    rw [sumOn_count p l, List.filter_cons]
    split
    · rw [List.length_cons]
      omega
    · omega
theorem sumOn_split (g : Nat → Int) (p : Nat → Bool) : ∀ l : List Nat, sumOn g l = sumOn g (l.filter p) + sumOn g (l.filter fun v => !p v)
  | [] => rfl
  | v :: l => by
    show g v + sumOn g l = _
    rw [sumOn_split g p l, List.filter_cons, List.filter_cons]
    cases p v with
    | true =>
      rw [if_pos rfl, if_neg (by simp)]
      show _ = g v + sumOn g _ + _
      omega
    | false =>
      rw [if_neg (by simp), if_pos (by simp)]
      show _ = _ + (g v + sumOn g _)
      omega
/-- how many of E stand in l -/
theorem sumOn_twos {l : List Nat} (nd : l.Nodup) : ∀ E : List Nat, sumOn (fun v => ((twos E).count v : Int)) l = ((E.filter fun w => decide (2 * w ∈ l)).length : Int)
  | [] => by
    have : sumOn (fun v => ((twos []).count v : Int)) l = sumOn (fun _ => 0) l := sumOn_congr fun v _ => rfl
    rw [this, sumOn_zero]
    rfl
  | w :: E => by
    have : sumOn (fun v => ((twos (w :: E)).count v : Int)) l = sumOn (fun v => ((twos E).count v : Int) + (if 2 * w = v then 1 else 0)) l := sumOn_congr fun v _ => by
      show (((2 * w) :: twos E).count v : Int) = _
      rw [List.count_cons]
      by_cases h : 2 * w = v
      · rw [if_pos (by simpa using h), if_pos h]
        omega
      · rw [if_neg (by simpa using h), if_neg h]
        omega
    rw [this, sumOn_add, sumOn_twos nd E, sumOn_one _ _ nd, List.filter_cons]
    by_cases h : 2 * w ∈ l
    · rw [if_pos h, if_pos (by simpa using h), List.length_cons]
      omega
    · rw [if_neg h, if_neg (by simpa using h)]
      omega
theorem filt_split (p : Nat → Bool) : ∀ l : List Nat, (l.filter p).length + (l.filter fun v => !p v).length = l.length
  | [] => rfl
  | v :: l => by
    have := filt_split p l
    rw [List.filter_cons, List.filter_cons, List.length_cons]
    cases p v with
    | true =>
      rw [if_pos rfl, if_neg (by simp), List.length_cons]
      omega
    | false =>
      rw [if_neg (by simp), if_pos (by simp), List.length_cons]
      omega
/-! ### one arc's part -/
def tmA (A : List Arc) (room : List Nat) (R : Nat → Bool) (i : Nat) : Int := match A[i]? with
  | some a => (if R a.tail then (room.getD (2 * i + 1) 0 : Int) else 0) - (if R a.head then (room.getD (2 * i + 1) 0 : Int) else 0)
  | none => 0
theorem out_sum : ∀ {A : List Arc} {room : List Nat} (R : Nat → Bool), room.length = 2 * A.length → out A room R = sumOn (tmA A room R) (List.range A.length)
  | [], room, R, h => by
    have : room = [] := List.length_eq_zero_iff.mp h
    rw [this]
    rfl
  | a :: A, [], R, h => by simp at h
  | a :: A, [y], R, h => by
    exfalso
    simp only [List.length_cons, List.length_nil] at h
    try omega
  | a :: A, c :: f :: r, R, h => by
    have ih := out_sum (A := A) (room := r) R (by simp at h; omega)
    rw [List.length_cons, List.range_succ_eq_map]
    show ((if R a.tail then (f : Int) else 0) - (if R a.head then (f : Int) else 0)) + out A r R = tmA (a :: A) (c :: f :: r) R 0 + sumOn _ _
    rw [ih, sumOn_map]
    have e0 : tmA (a :: A) (c :: f :: r) R 0 = ((if R a.tail then (f : Int) else 0) - (if R a.head then (f : Int) else 0)) := rfl
    rw [e0]
    rfl
theorem out_congr {R R' : Nat → Bool} {N : Nat} (e : ∀ v, v < N → R v = R' v) : ∀ {A : List Arc} {room : List Nat}, (∀ a ∈ A, a.tail < N ∧ a.head < N) → out A room R = out A room R'
  | [], room, _ => by simp [out]
  | a :: A, [], _ => by simp [out]
  | a :: A, [y], _ => by simp [out]
  | a :: A, c :: f :: r, h => by
    show ((if R a.tail then (f : Int) else 0) - (if R a.head then (f : Int) else 0)) + out A r R = ((if R' a.tail then (f : Int) else 0) - (if R' a.head then (f : Int) else 0)) + out A r R'
    rw [e _ (h a List.mem_cons_self).1, e _ (h a List.mem_cons_self).2, out_congr e fun x hx => h x (List.mem_cons_of_mem _ hx)]
theorem out_all : ∀ {A : List Arc} {room : List Nat}, out A room (fun _ => true) = 0
  | [], room => by simp [out]
  | a :: A, [] => by simp [out]
  | a :: A, [y] => by simp [out]
  | a :: A, c :: f :: r => by
    show ((if (fun _ => true) a.tail = true then (f : Int) else 0) - (if (fun _ => true) a.head = true then (f : Int) else 0)) + out A r _ = 0
    rw [out_all (A := A) (room := r)]
    simp
section
variable {C : Chart} {S F room E : List Nat} {L : List (Nat × Option Nat)}
theorem net_lt (ok : C.Ok) : ∀ a ∈ netA C, a.tail < 2 * C.n ∧ a.head < 2 * C.n := fun a ha => by
  obtain ⟨i, hi⟩ := List.getElem?_of_mem ha
  rcases net_is hi with ⟨h, e1, e2⟩ | ⟨_, x, y, hr, _, e1, e2⟩
  · omega
  · have := ok.inR (x, y) hr
    simp only at this
    omega
/-- what flows over the border of R ends outside -/
theorem FlowOk.border (ok : C.Ok) (fo : FlowOk C S F room E) (R : Nat → Bool) (hs : ∀ a ∈ S, R (2 * a + 1) = true) : out (netA C) room R = ((E.filter fun w => !R (2 * w)).length : Int) := by
  have ndr : (List.range (2 * C.n)).Nodup := List.nodup_range
  have lt := net_lt ok
  have mr : ∀ v, v < 2 * C.n → decide (v ∈ List.range (2 * C.n)) = true := fun v hv => decide_eq_true (List.mem_range.mpr hv)
  have all : sumOn (Ft.exc (netA C) room) (List.range (2 * C.n)) = 0 := by
    rw [exc_out ndr, out_congr (R' := fun _ => true) (fun v hv => mr v hv) lt, out_all]
    rfl
  have ins : sumOn (Ft.exc (netA C) room) ((List.range (2 * C.n)).filter R) = - out (netA C) room R := by
    rw [exc_out (ndr.filter _)]
    congr 1
    refine out_congr (N := 2 * C.n) (fun v hv => ?_) lt
    cases h : R v with
    | true => exact decide_eq_true (List.mem_filter.mpr ⟨List.mem_range.mpr hv, h⟩)
    | false =>
      refine decide_eq_false fun m => ?_
      rw [(List.mem_filter.mp m).2] at h
      cases h
  have outs : sumOn (Ft.exc (netA C) room) ((List.range (2 * C.n)).filter fun v => !R v) = ((E.filter fun w => !R (2 * w)).length : Int) := by
    have e1 : sumOn (Ft.exc (netA C) room) ((List.range (2 * C.n)).filter fun v => !R v) = sumOn (fun v => ((twos E).count v : Int)) ((List.range (2 * C.n)).filter fun v => !R v) := sumOn_congr fun v hv => by
      rw [List.mem_filter, List.mem_range] at hv
      refine fo.exc v hv.1 fun m => ?_
      obtain ⟨a, ha, rfl⟩ := srcs_mem.mp m
      rw [hs a ha] at hv
      simp at hv
    rw [e1, sumOn_twos (ndr.filter _)]
    congr 2
    refine List.filter_congr fun w hw => ?_
    have wn := ok.inW w (fo.inE w hw)
    cases h : R (2 * w) with
    | true =>
      refine decide_eq_false fun m => ?_
      have := (List.mem_filter.mp m).2
      rw [h] at this
      simp at this
    | false => exact decide_eq_true (List.mem_filter.mpr ⟨List.mem_range.mpr (by omega), by rw [h]; rfl⟩)
  have sp := sumOn_split (Ft.exc (netA C) room) R (List.range (2 * C.n))
  omega
end
/-! ### what lies next to places -/
noncomputable def nextL (C : Chart) (X : List Nat) : List Nat := those C.n fun b => (∃ a ∈ X, (a, b) ∈ C.roads) ∧ (b ∈ C.wished ∨ b ∉ X)
theorem nextL_mem {C : Chart} {X : List Nat} {b : Nat} : b ∈ nextL C X ↔ b < C.n ∧ (∃ a ∈ X, (a, b) ∈ C.roads) ∧ (b ∈ C.wished ∨ b ∉ X) := those_mem
/-- all of the lot, and unwished places beside -/
structure Region (C : Chart) (S X : List Nat) : Prop where
  sub : ∀ a ∈ S, a ∈ X
  inn : ∀ a ∈ X, a ∈ S ∨ a ∉ C.wished
/-- the nearest of the least walls that use no free place, of m places -/
structure NearSpec (C : Chart) (S F : List Nat) (m : Nat) (X : List Nat) : Prop where
  up : X.Pairwise (· < ·)
  lt : ∀ a ∈ X, a < C.n
  sub : ∀ a ∈ S, a ∈ X
  inn : ∀ a ∈ X, a ∈ S ∨ (a ∉ C.wished ∧ ComesS C S a)
  free : ∀ b ∈ nextL C X, b ∉ F
  many : (nextL C X).length = m
  least : ∀ Y, Region C S Y → (∀ b ∈ nextL C Y, b ∉ F) → m ≤ (nextL C Y).length ∧ ((nextL C Y).length = m → ∀ a ∈ X, a ∈ Y)
/-- no way further -/
structure Closed (C : Chart) (S room E : List Nat) (L : List (Nat × Option Nat)) : Prop where
  tree : Tree (netA C) room (srcs S) L
  src : ∀ a ∈ S, 2 * a + 1 ∈ keysT L
  done : ∀ u ∈ keysT L, ∀ p v, Goes (netA C) p u v → 0 < room.getD p 0 → v ∈ keysT L
  noEnd : ∀ w ∈ C.wished, 2 * w ∈ keysT L → w ∈ E
theorem nodup_len_le {l m : List Nat} (nd : l.Nodup) (s : ∀ x ∈ l, x ∈ m) : l.length ≤ m.length := L2.nat_nodup_len l m nd s
theorem nodup_len_eq {l m : List Nat} (n1 : l.Nodup) (n2 : m.Nodup) (s : ∀ x, x ∈ l ↔ x ∈ m) : l.length = m.length := Nat.le_antisymm (nodup_len_le n1 fun x hx => (s x).mp hx) (nodup_len_le n2 fun x hx => (s x).mpr hx)
theorem sub_full {l m : List Nat} (nd : l.Nodup) (s : ∀ x ∈ l, x ∈ m) (h : m.length ≤ l.length) : ∀ x ∈ m, x ∈ l := fun x hx => Classical.byContradiction fun no => by
  have := nodup_len_le (l := x :: l) (m := m) (List.nodup_cons.mpr ⟨no, nd⟩) fun y hy => (List.mem_cons.mp hy).elim (fun e => e ▸ hx) (s y)
  rw [List.length_cons] at this
  omega
section
variable {C : Chart} {S F room E : List Nat} {L : List (Nat × Option Nat)}
/-- over the border of a region's sides no more flows than lies next to it -/
theorem region_tight (ok : C.Ok) (lo : LotsOk C S F) (fo : FlowOk C S F room E) {Y : List Nat} (rg : Region C S Y) (fr : ∀ b ∈ nextL C Y, b ∉ F) :
    E.length ≤ (nextL C Y).length ∧ ((nextL C Y).length = E.length → ∃ R : Nat → Bool, (∀ v, R v = true ↔ ((∃ a ∈ Y, v = 2 * a + 1) ∨ ∃ b, v = 2 * b ∧ ((b ∈ Y ∧ b ∉ C.wished) ∨ b ∈ nextL C Y))) ∧ (∀ p u v, Goes (netA C) p u v → 0 < room.getD p 0 → R u = true → R v = true) ∧ ∀ w ∈ C.wished, w ∈ nextL C Y → w ∈ E) := by
  obtain ⟨R, hR⟩ : ∃ R : Nat → Bool, ∀ v, R v = true ↔ ((∃ a ∈ Y, v = 2 * a + 1) ∨ ∃ b, v = 2 * b ∧ ((b ∈ Y ∧ b ∉ C.wished) ∨ b ∈ nextL C Y)) :=
    ⟨fun v => @decide _ (Classical.propDecidable _), fun v => @decide_eq_true_iff _ (Classical.propDecidable _)⟩
  have odd : ∀ a, R (2 * a + 1) = true ↔ a ∈ Y := fun a => by
    rw [hR]
    constructor
    · rintro (⟨b, h, e⟩ | ⟨b, e, _⟩)
      · have : a = b := by omega
        rw [this]; exact h
      · omega
    · exact fun h => .inl ⟨a, h, rfl⟩
  have even : ∀ b, R (2 * b) = true ↔ ((b ∈ Y ∧ b ∉ C.wished) ∨ b ∈ nextL C Y) := fun b => by
    rw [hR]
    constructor
    · rintro (⟨a, _, e⟩ | ⟨a, e, h⟩)
      · omega
      · have : b = a := by omega
        rw [this]; exact h
    · exact fun h => .inr ⟨b, rfl, h⟩
  have bd := fo.border ok R fun a ha => (odd a).mpr (rg.sub a ha)
  rw [out_sum R fo.len] at bd
  have road_in : ∀ {x y : Nat}, (x, y) ∈ C.roads → R (2 * x + 1) = true → R (2 * y) = true := fun {x y} hr h => by
    have hx := (odd x).mp h
    rw [even]
    by_cases h1 : y ∈ C.wished
    · exact .inr (nextL_mem.mpr ⟨(ok.inR _ hr).2, ⟨x, hx, hr⟩, .inl h1⟩)
    · by_cases h2 : y ∈ Y
      · exact .inl ⟨h2, h1⟩
      · exact .inr (nextL_mem.mpr ⟨(ok.inR _ hr).2, ⟨x, hx, hr⟩, .inr h2⟩)
  have part : ∀ i ∈ List.range (netA C).length, tmA (netA C) room R i ≤ (if (fun i => decide (i ∈ nextL C Y) && !decide (i ∈ C.wished)) i = true then (1 : Int) else 0) := fun i hi => by
    rw [List.mem_range] at hi
    have ha : (netA C)[i]? = some (netA C)[i] := List.getElem?_eq_getElem hi
    unfold tmA
    rw [ha]
    simp only
    rcases net_is ha with ⟨h, e1, e2⟩ | ⟨h, x, y, hr, _, e1, e2⟩
    · rw [e1, e2]
      by_cases t : R (2 * i) = true
      · by_cases d : R (2 * i + 1) = true
        · rw [if_pos t, if_pos d]
          split <;> omega
        · rw [if_pos t, if_neg d]
          have ny : i ∉ Y := fun m => d ((odd i).mpr m)
          have nx : i ∈ nextL C Y := ((even i).mp t).elim (fun z => absurd z.1 ny) id
          have s := fo.sum i hi
          unfold capOf gateCap at s
          rw [if_pos h, if_neg (fun m => ny (rg.sub i m)), if_neg (fr i nx)] at s
          by_cases hw : i ∈ C.wished
          · rw [if_pos hw] at s
            split <;> omega
          · rw [if_neg hw] at s
            rw [if_pos (by simp [nx, hw])]
            omega
      · rw [if_neg t]
        split <;> split <;> omega
    · rw [e1, e2]
      by_cases t : R (2 * x + 1) = true
      · rw [if_pos t, if_pos (road_in hr t)]
        split <;> omega
      · rw [if_neg t]
        split <;> split <;> omega
  have bnd := sumOn_le part
  rw [sumOn_count] at bnd
  have nxN := up_nodup (those_up C.n fun b => (∃ a ∈ Y, (a, b) ∈ C.roads) ∧ (b ∈ C.wished ∨ b ∉ Y))
  have inr : ((List.range (netA C).length).filter fun i => decide (i ∈ nextL C Y) && !decide (i ∈ C.wished)).length ≤ ((nextL C Y).filter fun b => !decide (b ∈ C.wished)).length := by
    refine nodup_len_le (List.nodup_range.filter _) fun i hi => ?_
    rw [List.mem_filter, Bool.and_eq_true, decide_eq_true_eq] at hi
    exact List.mem_filter.mpr ⟨hi.2.1, hi.2.2⟩
  have inE : (E.filter fun w => !(!R (2 * w))).length ≤ ((nextL C Y).filter fun b => decide (b ∈ C.wished)).length := by
    refine nodup_len_le (fo.nd.filter _) fun w hw => ?_
    rw [List.mem_filter, Bool.not_not] at hw
    have ww := fo.inE w hw.1
    refine List.mem_filter.mpr ⟨((even w).mp hw.2).elim (fun z => absurd ww z.2) id, decide_eq_true ww⟩
  have spE := filt_split (fun w => !R (2 * w)) E
  have spN := filt_split (fun b => decide (b ∈ C.wished)) (nextL C Y)
  refine ⟨by omega, fun eq => ?_⟩
  have tight := sumOn_tight part (by rw [sumOn_count]; omega)
  refine ⟨R, hR, fun p u v g r h => ?_, fun w hw hn => ?_⟩
  · obtain ⟨i, a, ha, ⟨e1, e2, e3⟩ | ⟨e1, e2, e3⟩⟩ := goes_is g
    · subst e1 e2 e3
      have hi : i < (netA C).length := (List.getElem?_eq_some_iff.mp ha).1
      have tm := tight i (List.mem_range.mpr hi)
      rcases net_is ha with ⟨hn, e1, e2⟩ | ⟨hn, x, y, hr, _, e1, e2⟩
      · rw [e1] at h
        rw [e2]
        show R (2 * i + 1) = true
        by_cases d : R (2 * i + 1) = true
        · exact d
        · exfalso
          unfold tmA at tm
          rw [ha] at tm
          simp only [e1, e2] at tm
          rw [if_pos h, if_neg d] at tm
          have ny : i ∉ Y := fun m => d ((odd i).mpr m)
          have nx : i ∈ nextL C Y := ((even i).mp h).elim (fun z => absurd z.1 ny) id
          have s := fo.sum i hi
          unfold capOf gateCap at s
          rw [if_pos hn, if_neg (fun m => ny (rg.sub i m)), if_neg (fr i nx)] at s
          by_cases hw : i ∈ C.wished
          · rw [if_pos hw] at s
            omega
          · rw [if_neg hw] at s
            rw [if_pos (by simp [nx, hw])] at tm
            omega
      · rw [e1] at h
        rw [e2]
        exact road_in hr h
    · subst e1 e2 e3
      have hi : i < (netA C).length := (List.getElem?_eq_some_iff.mp ha).1
      have tm := tight i (List.mem_range.mpr hi)
      show R a.tail = true
      by_cases d : R a.tail = true
      · exact d
      · exfalso
        unfold tmA at tm
        rw [ha] at tm
        simp only at tm
        rw [if_neg d, if_pos h] at tm
        split at tm <;> omega
  · have sub : ∀ x ∈ E.filter fun w => !(!R (2 * w)), x ∈ (nextL C Y).filter fun b => decide (b ∈ C.wished) := fun w hw => by
      rw [List.mem_filter, Bool.not_not] at hw
      have ww := fo.inE w hw.1
      refine List.mem_filter.mpr ⟨((even w).mp hw.2).elim (fun z => absurd ww z.2) id, decide_eq_true ww⟩
    have m := sub_full (fo.nd.filter _) sub (by omega) w (List.mem_filter.mpr ⟨hn, decide_eq_true hw⟩)
    exact (List.mem_filter.mp m).1
theorem region_out (ok : C.Ok) (lo : LotsOk C S F) (fo : FlowOk C S F room E) {Y : List Nat} (rg : Region C S Y) (fr : ∀ b ∈ nextL C Y, b ∉ F) :
    E.length ≤ (nextL C Y).length ∧ ((nextL C Y).length = E.length → ∀ (L : List (Nat × Option Nat)), Tree (netA C) room (srcs S) L → ∀ v ∈ keysT L, (∃ a ∈ Y, v = 2 * a + 1) ∨ ∃ b, v = 2 * b ∧ ((b ∈ Y ∧ b ∉ C.wished) ∨ b ∈ nextL C Y)) := by
  obtain ⟨h1, h2⟩ := region_tight ok lo fo rg fr
  refine ⟨h1, fun eq L tr v hv => ?_⟩
  obtain ⟨R, hR, cl, _⟩ := h2 eq
  refine (hR v).mp (tr.all (R := fun v => R v = true) (fun v hv => ?_) (fun p u v g r h => cl p u v g r h) v hv)
  obtain ⟨a, ha, rfl⟩ := srcs_mem.mp hv
  exact (hR _).mpr (.inl ⟨a, rg.sub a ha, rfl⟩)
/-- what was reached, when no way goes on, tells the nearest least wall -/
theorem near_spec (ok : C.Ok) (lo : LotsOk C S F) (fo : FlowOk C S F room E) (few : E.length ≤ 60) (cl : Closed C S room E L) : NearSpec C S F E.length (those C.n fun a => 2 * a + 1 ∈ keysT L) := by
  obtain ⟨X, eX⟩ : ∃ X, (those C.n fun a => 2 * a + 1 ∈ keysT L) = X := ⟨_, rfl⟩
  rw [eX]
  have mX : ∀ a, a ∈ X ↔ a < C.n ∧ 2 * a + 1 ∈ keysT L := fun a => by rw [← eX]; exact those_mem
  have rs := tree_RS lo fo cl.tree
  have sub : ∀ a ∈ S, a ∈ X := fun a ha => (mX a).mpr ⟨lo.inS a ha, cl.src a ha⟩
  have inn : ∀ a ∈ X, a ∈ S ∨ (a ∉ C.wished ∧ ComesS C S a) := fun a ha => (rs _ ((mX a).mp ha).2).odd
  have road_in : ∀ {x y : Nat}, (x, y) ∈ C.roads → (x ≠ y ∨ y ∈ C.wished) → 2 * x + 1 ∈ keysT L → 2 * y ∈ keysT L := fun {x y} hr k h => by
    obtain ⟨i, hi, ha⟩ := net_road hr k
    have hl : i < (netA C).length := (List.getElem?_eq_some_iff.mp ha).1
    have s := fo.sum i hl
    unfold capOf at s
    rw [if_neg (by omega)] at s
    have := fo.small i
    exact cl.done _ h _ _ (goes_fwd ha) (by omega)
  have next_in : ∀ b ∈ nextL C X, 2 * b ∈ keysT L := fun b hb => by
    obtain ⟨_, ⟨a, ha, hr⟩, hw⟩ := nextL_mem.mp hb
    refine road_in hr ?_ ((mX a).mp ha).2
    by_cases e : a = b
    · subst e
      exact .inr (hw.elim id fun n => absurd ha n)
    · exact .inl e
  have full : ∀ b, b < C.n → 2 * b ∈ keysT L → b ∉ X → b ∉ S ∧ b ∉ F ∧ room.getD (2 * b) 0 = 0 := fun b hb h n => by
    have g := net_gate (C := C) hb
    have hl : b < (netA C).length := (List.getElem?_eq_some_iff.mp g).1
    have r0 : room.getD (2 * b) 0 = 0 := by
      rcases Nat.eq_zero_or_pos (room.getD (2 * b) 0) with e | e
      · exact e
      · exact absurd ((mX b).mpr ⟨hb, cl.done _ h _ _ (goes_fwd g) e⟩) n
    have nS : b ∉ S := fun m => n (sub b m)
    refine ⟨nS, fun m => ?_, r0⟩
    have s := fo.sum b hl
    unfold capOf gateCap at s
    rw [if_pos hb, if_neg nS, if_pos m] at s
    have := fo.small b
    omega
  have free : ∀ b ∈ nextL C X, b ∉ F := fun b hb m => by
    obtain ⟨hn, _, hw⟩ := nextL_mem.mp hb
    have nX : b ∉ X := hw.elim (fun w => absurd w (lo.inF b m).2) id
    exact (full b hn (next_in b hb) nX).2.1 m
  have next_iff : ∀ b, b ∈ nextL C X ↔ b < C.n ∧ 2 * b ∈ keysT L ∧ (b ∈ C.wished ∨ b ∉ X) := fun b => by
    constructor
    · intro hb
      obtain ⟨h1, _, h3⟩ := nextL_mem.mp hb
      exact ⟨h1, next_in b hb, h3⟩
    · rintro ⟨hn, h, hw⟩
      refine nextL_mem.mpr ⟨hn, ?_, hw⟩
      rcases tree_in cl.tree _ h with m | ⟨p, u, g, hu, r⟩
      · obtain ⟨a, _, e⟩ := srcs_mem.mp m
        omega
      · obtain ⟨i, a, ha, ⟨e1, e2, e3⟩ | ⟨e1, e2, e3⟩⟩ := goes_is g
        · rcases net_is ha with ⟨_, t, d⟩ | ⟨_, x, y, hr, _, t, d⟩
          · omega
          · have : b = y := by omega
            subst this
            rw [e2, t] at hu
            exact ⟨x, (mX x).mpr ⟨(ok.inR _ hr).1, hu⟩, hr⟩
        · rcases net_is ha with ⟨hi, t, d⟩ | ⟨_, x, y, hr, _, t, d⟩
          · exfalso
            have : b = i := by omega
            subst this
            rw [e2, d] at hu
            have bX : b ∈ X := (mX b).mpr ⟨hn, hu⟩
            have bw : b ∈ C.wished := hw.elim id fun n => absurd bX n
            have hl : b < (netA C).length := (List.getElem?_eq_some_iff.mp ha).1
            have s := fo.sum b hl
            unfold capOf gateCap at s
            rw [if_pos hi] at s
            rw [e1] at r
            by_cases h1 : b ∈ S
            · rw [if_pos h1] at s
              omega
            · rw [if_neg h1] at s
              by_cases h2 : b ∈ F
              · exact (lo.inF b h2).2 bw
              · rw [if_neg h2, if_pos bw] at s
                omega
          · omega
  have bd := fo.border ok (fun v => decide (v ∈ keysT L)) fun a ha => decide_eq_true (cl.src a ha)
  rw [out_sum _ fo.len] at bd
  have part : ∀ i ∈ List.range (netA C).length, tmA (netA C) room (fun v => decide (v ∈ keysT L)) i = (if (fun i => decide (i < C.n ∧ 2 * i ∈ keysT L ∧ i ∉ X ∧ i ∉ C.wished)) i = true then (1 : Int) else 0) := fun i hi => by
    rw [List.mem_range] at hi
    have ha : (netA C)[i]? = some (netA C)[i] := List.getElem?_eq_getElem hi
    unfold tmA
    rw [ha]
    simp only [decide_eq_true_eq]
    rcases net_is ha with ⟨h, e1, e2⟩ | ⟨h, x, y, hr, k, e1, e2⟩
    · rw [e1, e2]
      by_cases t : 2 * i ∈ keysT L
      · by_cases d : 2 * i + 1 ∈ keysT L
        · have nn : ¬ (i < C.n ∧ 2 * i ∈ keysT L ∧ i ∉ X ∧ i ∉ C.wished) := fun z => z.2.2.1 ((mX i).mpr ⟨h, d⟩)
          rw [if_neg nn, if_pos t, if_pos d]
          omega
        · rw [if_pos t, if_neg d]
          have nX : i ∉ X := fun m => d ((mX i).mp m).2
          obtain ⟨nS, nF, r0⟩ := full i h t nX
          have s := fo.sum i hi
          unfold capOf gateCap at s
          rw [if_pos h, if_neg nS, if_neg nF] at s
          by_cases hw : i ∈ C.wished
          · rw [if_pos hw] at s
            have nn : ¬ (i < C.n ∧ 2 * i ∈ keysT L ∧ i ∉ X ∧ i ∉ C.wished) := fun z => z.2.2.2 hw
            rw [if_neg nn]
            omega
          · rw [if_neg hw] at s
            rw [if_pos ⟨h, t, nX, hw⟩]
            omega
      · have nn : ¬ (i < C.n ∧ 2 * i ∈ keysT L ∧ i ∉ X ∧ i ∉ C.wished) := fun z => t z.2.1
        rw [if_neg nn, if_neg t]
        by_cases d : 2 * i + 1 ∈ keysT L
        · rw [if_pos d]
          rcases Nat.eq_zero_or_pos (room.getD (2 * i + 1) 0) with e | e
          · omega
          · have := cl.done _ d (2 * i + 1) (2 * i) (by have := goes_back ha; rwa [e1, e2] at this) e
            exact absurd this t
        · rw [if_neg d]
          omega
    · have nn : ¬ (i < C.n ∧ 2 * i ∈ keysT L ∧ i ∉ X ∧ i ∉ C.wished) := fun z => by omega
      rw [if_neg nn, e1, e2]
      by_cases t : 2 * x + 1 ∈ keysT L
      · rw [if_pos t, if_pos (road_in hr k t)]
        omega
      · rw [if_neg t]
        by_cases d : 2 * y ∈ keysT L
        · rw [if_pos d]
          rcases Nat.eq_zero_or_pos (room.getD (2 * i + 1) 0) with e | e
          · omega
          · have := cl.done _ d (2 * i + 1) (2 * x + 1) (by have := goes_back ha; rwa [e1, e2] at this) e
            exact absurd this t
        · rw [if_neg d]
          omega
  rw [sumOn_congr part, sumOn_count] at bd
  have nxN := up_nodup (those_up C.n fun b => (∃ a ∈ X, (a, b) ∈ C.roads) ∧ (b ∈ C.wished ∨ b ∉ X))
  have nxN : (nextL C X).Nodup := nxN
  have spE := filt_split (fun w => !decide (2 * w ∈ keysT L)) E
  have spN := filt_split (fun b => decide (b ∈ C.wished)) (nextL C X)
  have glen : C.n ≤ (netA C).length := by
    unfold netA
    rw [List.length_append, gates_len]
    omega
  have c1 : ((List.range (netA C).length).filter fun i => decide (i < C.n ∧ 2 * i ∈ keysT L ∧ i ∉ X ∧ i ∉ C.wished)).length = ((nextL C X).filter fun b => !decide (b ∈ C.wished)).length := by
    refine nodup_len_eq (List.nodup_range.filter _) (nxN.filter _) fun b => ?_
    rw [List.mem_filter, List.mem_filter, List.mem_range, next_iff, decide_eq_true_eq, Bool.not_eq_true', decide_eq_false_iff_not]
    constructor
    · rintro ⟨_, h1, h2, h3, h4⟩
      exact ⟨⟨h1, h2, .inr h3⟩, h4⟩
    · rintro ⟨⟨h1, h2, h3⟩, h4⟩
      exact ⟨by omega, h1, h2, h3.elim (fun w => absurd w h4) id, h4⟩
  have c2 : (E.filter fun w => !(!decide (2 * w ∈ keysT L))).length = ((nextL C X).filter fun b => decide (b ∈ C.wished)).length := by
    refine nodup_len_eq (fo.nd.filter _) (nxN.filter _) fun b => ?_
    rw [List.mem_filter, List.mem_filter, next_iff, Bool.not_not, decide_eq_true_eq, decide_eq_true_eq]
    constructor
    · rintro ⟨h1, h2⟩
      have w := fo.inE b h1
      exact ⟨⟨ok.inW b w, h2, .inl w⟩, w⟩
    · rintro ⟨⟨_, h2, _⟩, w⟩
      exact ⟨cl.noEnd b w h2, h2⟩
  refine ⟨by rw [← eX]; exact those_up _ _, fun a ha => ((mX a).mp ha).1, sub, inn, free, by omega, fun Y rg fr => ?_⟩
  obtain ⟨h1, h2⟩ := region_out ok lo fo rg fr
  refine ⟨h1, fun e a ha => ?_⟩
  rcases h2 e L cl.tree _ ((mX a).mp ha).2 with ⟨b, hb, e⟩ | ⟨b, e, _⟩
  · have : a = b := by omega
    rw [this]; exact hb
  · omega
end
end Ft

set_option Elab.async false
set_option linter.all false
set_option maxRecDepth 100000
set_option maxHeartbeats 8000000
namespace Ft
open PySem PySem.Spec PyProof.Rows L2
/-- attributes that no class has of itself -/
def Attrs (K : PySem.W.Frag) (ka : Str → Addr) (x : Str) (l : List Str) : Prop := ∀ f ∈ l, NoAttr K (ka x) f
def netFs : List Str := ["chart", "beside", "toward", "rooms", "finish"]
section
variable {P : Program} {w : World} {K : PySem.W.Frag} {mg : Str → Option Value} {base : Heap} {ka : Str → Addr}
/-! ### sides and gates -/
def sp_arriving : Sp := fun vs H Q _ => ∃ a : Nat, vs = [vN a] ∧ a ≤ 1000 ∧ Q (vN (2 * a)) H
theorem cal_arriving (T : Txt mg) (D : Def K mg "arriving" s_arriving) : Cal P w K mg base 1 "arriving" sp_arriving := by
  refine cal_of D sc_arriving (fun _ _ _ _ _ _ us hl => match us, hl with | [_], _ => rfl) (fun vs H Q E h => ?_) (fun f cdv A outer s H vs Q E hr h => ?_)
  · obtain ⟨a, rfl, _⟩ := h
    rfl
  · obtain ⟨a, rfl, ha, q⟩ := h
    refine ⟨_, (pss_one (ps_ret (pe_op op_mul pe_int (pv 0)))), ?_⟩
    refine ⟨_, rfl, _, _, rfl, rfl, .inl ⟨by decide, by decide⟩, ?_⟩
    have e : V.int (2 * (a : Int)) = vN (2 * a) := by unfold vN; congr 1
    show Q (V.int (2 * (a : Int))) H
    rw [e]
    exact q
def sp_leaving : Sp := fun vs H Q _ => ∃ a : Nat, vs = [vN a] ∧ a ≤ 1000 ∧ Q (vN (2 * a + 1)) H
theorem cal_leaving (T : Txt mg) (D : Def K mg "leaving" s_leaving) : Cal P w K mg base 1 "leaving" sp_leaving := by
  refine cal_of D sc_leaving (fun _ _ _ _ _ _ us hl => match us, hl with | [_], _ => rfl) (fun vs H Q E h => ?_) (fun f cdv A outer s H vs Q E hr h => ?_)
  · obtain ⟨a, rfl, _⟩ := h
    rfl
  · obtain ⟨a, rfl, ha, q⟩ := h
    refine ⟨_, (pss_one (ps_ret (pe_op op_add (pe_op op_mul pe_int (pv 0)) pe_int))), ?_⟩
    refine ⟨_, rfl, _, _, rfl, rfl, .inl ⟨by decide, by decide⟩, _, _, rfl, rfl, ?_⟩
    have e : V.int (2 * (a : Int) + 1) = vN (2 * a + 1) := by unfold vN; congr 1
    show Q (V.int (2 * (a : Int) + 1)) H
    rw [e]
    exact q
def sp_gate : Sp := fun vs H Q _ => ∃ a : Nat, vs = [vN a] ∧ a ≤ 1000 ∧ Q (vN (2 * a)) H
theorem cal_gate (T : Txt mg) (D : Def K mg "gate" s_gate) : Cal P w K mg base 1 "gate" sp_gate := by
  refine cal_of D sc_gate (fun _ _ _ _ _ _ us hl => match us, hl with | [_], _ => rfl) (fun vs H Q E h => ?_) (fun f cdv A outer s H vs Q E hr h => ?_)
  · obtain ⟨a, rfl, _⟩ := h
    rfl
  · obtain ⟨a, rfl, ha, q⟩ := h
    refine ⟨_, (pss_one (ps_ret (pe_op op_mul pe_int (pv 0)))), ?_⟩
    refine ⟨_, rfl, _, _, rfl, rfl, .inl ⟨by decide, by decide⟩, ?_⟩
    have e : V.int (2 * (a : Int)) = vN (2 * a) := by unfold vN; congr 1
    show Q (V.int (2 * (a : Int))) H
    rw [e]
    exact q
/-! ### a net, being made -/
structure NetPart (ka : Str → Addr) (H : Hp) (p bl tl rl : Addr) (ls : List Addr) (n : Nat) (A : List Arc) : Prop where
  ob : ∃ dx fs, H p = some (.ins (ka "Net") dx fs) ∧ fs.lookup ("beside" : Str) = some (.ref bl) ∧ fs.lookup ("toward" : Str) = some (.ref tl) ∧ fs.lookup ("rooms" : Str) = some (.ref rl) ∧ fs.lookup ("_join" : Str) = none
  top : H bl = some (.lst (ls.map V.ref))
  len : ls.length = 2 * n
  each : ∀ s l, ls[s]? = some l → H l = some (.lst ((bes s 0 A).map vN))
  tow : H tl = some (.lst ((tow A).map vN))
  rms : H rl = some (.lst ((rms A).map vN))
  nd : (bl :: tl :: rl :: ls).Nodup
theorem NetPart.keep {H H' : Hp} {p bl tl rl : Addr} {ls : List Addr} {n : Nat} {A : List Arc} (s : Same H H') (h : NetPart ka H p bl tl rl ls n A) : NetPart ka H' p bl tl rl ls n A := by
  obtain ⟨dx, fs, e, r⟩ := h.ob
  exact ⟨⟨dx, fs, s _ _ e, r⟩, s _ _ h.top, h.len, fun a l q => s _ _ (h.each a l q), s _ _ h.tow, s _ _ h.rms, h.nd⟩
theorem small_arcs {A : List Arc} (h : A.length ≤ 400) : 2 * A.length + 2 < sizeLine := by rw [sizeLine_eq]; omega
theorem bes_len (s : Nat) : ∀ (i : Nat) (A : List Arc), (bes s i A).length ≤ 2 * A.length
  | _, [] => Nat.le_refl _
  | i, a :: A => by
    unfold bes
    rw [List.length_append, List.length_append, List.length_cons]
    have := bes_len s (i + 1) A
    split <;> split <;> simp <;> omega
def sp_Net__join (K : PySem.W.Frag) (ka : Str → Addr) : Sp := fun vs H Q _ => ∃ (p bl tl rl : Addr) (ls : List Addr) (n : Nat) (A : List Arc) (a b c : Nat), vs = [.ref p, vN a, vN b, vN c] ∧ NetPart ka H p bl tl rl ls n A ∧ a < 2 * n ∧ b < 2 * n ∧ A.length ≤ 400 ∧
  ∀ H', NetPart ka H' p bl tl rl ls n (A ++ [⟨a, b, c⟩]) → Kp (tl :: rl :: ls) H H' → Q .non H'
theorem calm_Net__join (T : Txt mg) (D : DefM K ka "Net" "_join" "Net._join" s_Net__join) (k_Net : Kls K mg ka "Net") (q_Net : Attrs K ka "Net" netFs) : CalM P w K mg base 1 ka "Net" "_join" (sp_Net__join K ka) := by
  refine calm_of D sc_Net__join (fun _ _ _ _ _ _ us hl => match us, hl with | [_, _, _, _], _ => rfl) (fun vs H Q E h => ?_) (fun f cdv A outer s H vs Q E hr h => ?_)
  · obtain ⟨p, bl, tl, rl, ls, n, A, a, b, c, rfl, _⟩ := h
    rfl
  · obtain ⟨p, bl, tl, rl, ls, n, Ar, a, b, c, rfl, hN, ha, hb, few, q⟩ := h
    have hU := hr.units
    obtain ⟨dx, fs, e, lB, lT, lR, lJ⟩ := hN.ob
    have cl := k_Net.cl
    have nB : NoAttr K (ka "Net") "beside" := q_Net _ (by decide)
    have nT : NoAttr K (ka "Net") "toward" := q_Net _ (by decide)
    have nR : NoAttr K (ka "Net") "rooms" := q_Net _ (by decide)
    obtain ⟨nd1, nd2⟩ := List.nodup_cons.mp hN.nd
    obtain ⟨nd3, nd4⟩ := List.nodup_cons.mp nd2
    obtain ⟨nd5, nd6⟩ := List.nodup_cons.mp nd4
    have nbt : bl ≠ tl := fun z => nd1 (by rw [z]; simp)
    have nbr : bl ≠ rl := fun z => nd1 (by rw [z]; simp)
    have ntr : tl ≠ rl := fun z => nd3 (by rw [z]; simp)
    have nbl : ∀ l ∈ ls, l ≠ bl := fun l m z => nd1 (by rw [← z]; simp [m])
    have ntl : ∀ l ∈ ls, l ≠ tl := fun l m z => nd3 (by rw [← z]; simp [m])
    have nrl : ∀ l ∈ ls, l ≠ rl := fun l m z => nd5 (by rw [← z]; exact m)
    obtain ⟨la, hla⟩ : ∃ l, ls[a]? = some l := ⟨_, List.getElem?_eq_getElem (by rw [hN.len]; exact ha)⟩
    obtain ⟨lb, hlb⟩ : ∃ l, ls[b]? = some l := ⟨_, List.getElem?_eq_getElem (by rw [hN.len]; exact hb)⟩
    have mla := List.mem_of_getElem? hla
    have mlb := List.mem_of_getElem? hlb
    have tlen := tow_len Ar
    have rlen := rms_len Ar
    have sm := small_arcs few
    have npl : ∀ {l : Addr} {xs : List V}, H l = some (.lst xs) → p ≠ l := fun h z => by rw [z, h] at e; cases e
    refine ⟨_, (pss_cons (ps_expr (pe_bm PySem.F.plainAttrs_list PySem.F.slot_list_append PySem.F.type_list_append mt_append (pe_ix (show IxR _ (rIxL K) from ix_list) (show PE _ _ (tFld K _ _) from pe_fldD (pv 0)) (pv 1) (fun _ _ => rfl)) (pa_cons (pe_callB (show CallR _ _ (rLenS K) from call_lenS) (by rfl) T.len (by decide +kernel) (pa_cons (show PE _ _ (tFld K _ _) from pe_fldD (pv 0)) pa_nil)) pa_nil)))
      (pss_cons (ps_expr (pe_bm PySem.F.plainAttrs_list PySem.F.slot_list_append PySem.F.type_list_append mt_append (show PE _ _ (tFld K _ _) from pe_fldD (pv 0)) (pa_cons (pv 2) pa_nil)))
      (pss_cons (ps_expr (pe_bm PySem.F.plainAttrs_list PySem.F.slot_list_append PySem.F.type_list_append mt_append (show PE _ _ (tFld K _ _) from pe_fldD (pv 0)) (pa_cons (pv 3) pa_nil)))
      (pss_cons (ps_expr (pe_bm PySem.F.plainAttrs_list PySem.F.slot_list_append PySem.F.type_list_append mt_append (pe_ix (show IxR _ (rIxL K) from ix_list) (show PE _ _ (tFld K _ _) from pe_fldD (pv 0)) (pv 2) (fun _ _ => rfl)) (pa_cons (pe_callB (show CallR _ _ (rLenS K) from call_lenS) (by rfl) T.len (by decide +kernel) (pa_cons (show PE _ _ (tFld K _ _) from pe_fldD (pv 0)) pa_nil)) pa_nil)))
      (pss_cons (ps_expr (pe_bm PySem.F.plainAttrs_list PySem.F.slot_list_append PySem.F.type_list_append mt_append (show PE _ _ (tFld K _ _) from pe_fldD (pv 0)) (pa_cons (pv 1) pa_nil)))
      (pss_one (ps_expr (pe_bm PySem.F.plainAttrs_list PySem.F.slot_list_append PySem.F.type_list_append mt_append (show PE _ _ (tFld K _ _) from pe_fldD (pv 0)) (pa_cons pe_int pa_nil))))))))), ?_⟩
    refine ⟨_, rfl, p, _, dx, fs, _, rfl, e, cl, nB, lB, _, rfl, bl, _, _, _, rfl, rfl, .inl (.inl hN.top), atI_nat (v := V.ref la) (by rw [List.getElem?_map, hla]; rfl), .inl ⟨rfl, _, .inl (.inl (hN.each a la hla))⟩, ?_⟩
    refine ⟨_, rfl, p, _, dx, fs, _, rfl, e, cl, nT, lT, tl, _, rfl, .inl (.inl (.inl hN.tow)), la, _, _, rfl, rfl, hN.each a la hla, by rw [List.length_map]; have := bes_len a 0 Ar; omega, ?_⟩
    generalize eH1 : upd H la _ = H1
    have f1 : ∀ z, z ≠ la → H1 z = H z := fun z nz => by rw [← eH1]; exact upd_ne nz
    have g1 : H1 la = some (.lst ((bes a 0 Ar).map vN ++ [vN (2 * Ar.length)])) := by rw [← eH1, upd_same, List.length_map, tlen]; rfl
    clear eH1
    have e1 : H1 p = some (.ins (ka "Net") dx fs) := by rw [f1 p (npl (hN.each a la hla))]; exact e
    have t1 : H1 tl = some (.lst ((tow Ar).map vN)) := by rw [f1 tl (ntl la mla).symm]; exact hN.tow
    have r1 : H1 rl = some (.lst ((rms Ar).map vN)) := by rw [f1 rl (nrl la mla).symm]; exact hN.rms
    have b1 : H1 bl = some (.lst (ls.map V.ref)) := by rw [f1 bl (nbl la mla).symm]; exact hN.top
    refine ⟨_, rfl, p, _, dx, fs, _, rfl, e1, cl, nT, lT, .inl ⟨rfl, _, .inl (.inl t1)⟩, _, rfl, tl, _, _, rfl, rfl, t1, by rw [List.length_map]; omega, ?_⟩
    generalize eH2 : upd H1 tl _ = H2
    have f2 : ∀ z, z ≠ tl → H2 z = H1 z := fun z nz => by rw [← eH2]; exact upd_ne nz
    have t2 : H2 tl = some (.lst ((tow Ar).map vN ++ [vN b])) := by rw [← eH2]; exact upd_same
    clear eH2
    have e2 : H2 p = some (.ins (ka "Net") dx fs) := by rw [f2 p (npl hN.tow)]; exact e1
    have r2 : H2 rl = some (.lst ((rms Ar).map vN)) := by rw [f2 rl ntr.symm]; exact r1
    have b2 : H2 bl = some (.lst (ls.map V.ref)) := by rw [f2 bl nbt]; exact b1
    have g2 : H2 la = some (.lst ((bes a 0 Ar).map vN ++ [vN (2 * Ar.length)])) := by rw [f2 la (ntl la mla)]; exact g1
    refine ⟨_, rfl, p, _, dx, fs, _, rfl, e2, cl, nR, lR, .inl ⟨rfl, _, .inl (.inl r2)⟩, _, rfl, rl, _, _, rfl, rfl, r2, by rw [List.length_map]; omega, ?_⟩
    generalize eH3 : upd H2 rl _ = H3
    have f3 : ∀ z, z ≠ rl → H3 z = H2 z := fun z nz => by rw [← eH3]; exact upd_ne nz
    have r3 : H3 rl = some (.lst ((rms Ar).map vN ++ [vN c])) := by rw [← eH3]; exact upd_same
    clear eH3
    have e3 : H3 p = some (.ins (ka "Net") dx fs) := by rw [f3 p (npl hN.rms)]; exact e2
    have t3 : H3 tl = some (.lst ((tow Ar).map vN ++ [vN b])) := by rw [f3 tl ntr]; exact t2
    have b3 : H3 bl = some (.lst (ls.map V.ref)) := by rw [f3 bl nbr]; exact b2
    have g3 : H3 la = some (.lst ((bes a 0 Ar).map vN ++ [vN (2 * Ar.length)])) := by rw [f3 la (nrl la mla)]; exact g2
    have l3 : H3 lb = some (.lst ((bes b 0 Ar).map vN ++ (if a = b then [vN (2 * Ar.length)] else []))) := by
      by_cases h : a = b
      · subst h
        have : lb = la := Option.some.inj (hlb.symm.trans hla)
        subst this
        rw [if_pos rfl]
        exact g3
      · have nl : lb ≠ la := fun z => h ((List.getElem?_inj (by rw [hN.len]; exact ha) nd6).mp (by rw [hla, hlb, z]))
        rw [if_neg h, List.append_nil, f3 lb (nrl lb mlb), f2 lb (ntl lb mlb), f1 lb nl]
        exact hN.each b lb hlb
    refine ⟨_, rfl, p, _, dx, fs, _, rfl, e3, cl, nB, lB, _, rfl, bl, _, _, _, rfl, rfl, .inl (.inl b3), atI_nat (v := V.ref lb) (by rw [List.getElem?_map, hlb]; rfl), .inl ⟨rfl, _, .inl (.inl l3)⟩, ?_⟩
    refine ⟨_, rfl, p, _, dx, fs, _, rfl, e3, cl, nT, lT, tl, _, rfl, .inl (.inl (.inl t3)), lb, _, _, rfl, rfl, l3, by rw [List.length_append, List.length_map]; have := bes_len b 0 Ar; split <;> simp <;> omega, ?_⟩
    generalize eH4 : upd H3 lb _ = H4
    have f4 : ∀ z, z ≠ lb → H4 z = H3 z := fun z nz => by rw [← eH4]; exact upd_ne nz
    have g4 : H4 lb = some (.lst (((bes b 0 Ar).map vN ++ (if a = b then [vN (2 * Ar.length)] else [])) ++ [vN (2 * Ar.length + 1)])) := by rw [← eH4, upd_same, List.length_append, List.length_map, tlen]; rfl
    clear eH4
    have e4 : H4 p = some (.ins (ka "Net") dx fs) := by rw [f4 p (npl (hN.each b lb hlb))]; exact e3
    have t4 : H4 tl = some (.lst ((tow Ar).map vN ++ [vN b])) := by rw [f4 tl (ntl lb mlb).symm]; exact t3
    have r4 : H4 rl = some (.lst ((rms Ar).map vN ++ [vN c])) := by rw [f4 rl (nrl lb mlb).symm]; exact r3
    have b4 : H4 bl = some (.lst (ls.map V.ref)) := by rw [f4 bl (nbl lb mlb).symm]; exact b3
    refine ⟨_, rfl, p, _, dx, fs, _, rfl, e4, cl, nT, lT, .inl ⟨rfl, _, .inl (.inl t4)⟩, _, rfl, tl, _, _, rfl, rfl, t4, by rw [List.length_append, List.length_map]; simp; omega, ?_⟩
    generalize eH5 : upd H4 tl _ = H5
    have f5 : ∀ z, z ≠ tl → H5 z = H4 z := fun z nz => by rw [← eH5]; exact upd_ne nz
    have t5 : H5 tl = some (.lst (((tow Ar).map vN ++ [vN b]) ++ [vN a])) := by rw [← eH5]; exact upd_same
    clear eH5
    have e5 : H5 p = some (.ins (ka "Net") dx fs) := by rw [f5 p (npl hN.tow)]; exact e4
    have r5 : H5 rl = some (.lst ((rms Ar).map vN ++ [vN c])) := by rw [f5 rl ntr.symm]; exact r4
    have b5 : H5 bl = some (.lst (ls.map V.ref)) := by rw [f5 bl nbt]; exact b4
    refine ⟨_, rfl, p, _, dx, fs, _, rfl, e5, cl, nR, lR, .inl ⟨rfl, _, .inl (.inl r5)⟩, rl, _, _, rfl, rfl, r5, by rw [List.length_append, List.length_map]; simp; omega, ?_⟩
    generalize eH6 : upd H5 rl _ = H6
    have f6 : ∀ z, z ≠ rl → H6 z = H5 z := fun z nz => by rw [← eH6]; exact upd_ne nz
    have r6 : H6 rl = some (.lst (((rms Ar).map vN ++ [vN c]) ++ [vN 0])) := by rw [← eH6]; exact upd_same
    clear eH6
    refine q H6 ⟨⟨dx, fs, by rw [f6 p (npl hN.rms)]; exact e5, lB, lT, lR, lJ⟩, by rw [f6 bl nbr]; exact b5, hN.len, fun s l hs => ?_, ?_, ?_, hN.nd⟩ fun z o nz ez => ?_
    · have ml := List.mem_of_getElem? hs
      have up : ∀ z, z ∈ ls → H6 z = H4 z := fun z mz => by rw [f6 z (nrl z mz), f5 z (ntl z mz)]
      rw [up l ml, bes_app, List.map_append, List.map_append, Nat.zero_add]
      by_cases h : b = s
      · subst h
        have : l = lb := Option.some.inj (hs.symm.trans hlb)
        subst this
        rw [g4, if_pos rfl]
        by_cases h2 : a = b
        · rw [if_pos h2, if_pos h2, List.append_assoc]
          rfl
        · rw [if_neg h2, if_neg h2, List.append_nil]
          rfl
      · rw [if_neg h]
        have nl : l ≠ lb := fun z => h ((List.getElem?_inj (by rw [hN.len]; exact hb) nd6).mp (by rw [hlb, hs, z]))
        rw [f4 l nl, f3 l (nrl l ml), f2 l (ntl l ml)]
        by_cases h2 : a = s
        · subst h2
          have : l = la := Option.some.inj (hs.symm.trans hla)
          subst this
          rw [g1, if_pos rfl]
          simp
        · have nl2 : l ≠ la := fun z => h2 ((List.getElem?_inj (by rw [hN.len]; exact ha) nd6).mp (by rw [hla, hs, z]))
          rw [f1 l nl2, hN.each s l hs, if_neg h2]
          simp
    · rw [f6 tl ntr, t5, tow_app, List.map_append, List.append_assoc]
      rfl
    · rw [r6, rms_app, List.map_append, List.append_assoc]
      rfl
    · have h1 : z ≠ tl := fun y => nz (by rw [y]; simp)
      have h2 : z ≠ rl := fun y => nz (by rw [y]; simp)
      have h3 : z ∉ ls := fun m => nz (by simp [m])
      rw [f6 z h2, f5 z h1, f4 z (fun y => h3 (y ▸ mlb)), f3 z h2, f2 z h1, f1 z (fun y => h3 (y ▸ mla))]
      exact ez
end
end Ft

set_option Elab.async false
set_option linter.all false
set_option maxRecDepth 100000
set_option maxHeartbeats 8000000
namespace Ft
open PySem PySem.Spec PyProof.Rows L2
theorem setA_at {look : Str → Option V} {f : Str} {v : V} : setA look f v f = some v := if_pos rfl
theorem setA_off {look : Str → Option V} {f g : Str} {v : V} (h : g ≠ f) : setA look f v g = look g := if_neg h
/-- a net as it stands -/
structure NetAt (ka : Str → Addr) (H : Hp) (p c : Addr) (C : Chart) (bl tl rl fl : Addr) (ls : List Addr) : Prop where
  ob : ∃ dx fs, H p = some (.ins (ka "Net") dx fs) ∧ fs.lookup ("chart" : Str) = some (.ref c) ∧ fs.lookup ("beside" : Str) = some (.ref bl) ∧ fs.lookup ("toward" : Str) = some (.ref tl) ∧ fs.lookup ("rooms" : Str) = some (.ref rl) ∧ fs.lookup ("finish" : Str) = some (.ref fl)
  top : H bl = some (.lst (ls.map V.ref))
  len : ls.length = 2 * C.n
  each : ∀ s l, ls[s]? = some l → H l = some (.lst ((bes s 0 (netA C)).map vN))
  tow : H tl = some (.lst ((tow (netA C)).map vN))
  rms : H rl = some (.lst ((rms (netA C)).map vN))
  fin : H fl = some (.dK (keysOf (twos C.wished)))
theorem NetAt.same {ka : Str → Addr} {H H' : Hp} {p c : Addr} {C : Chart} {bl tl rl fl : Addr} {ls : List Addr} (s : Same H H') (h : NetAt ka H p c C bl tl rl fl ls) : NetAt ka H' p c C bl tl rl fl ls := by
  obtain ⟨dx, fs, e, r⟩ := h.ob
  exact ⟨⟨dx, fs, s _ _ e, r⟩, s _ _ h.top, h.len, fun a l q => s _ _ (h.each a l q), s _ _ h.tow, s _ _ h.rms, s _ _ h.fin⟩
def gatesN (C : Chart) (i : Nat) : List Arc := (List.range i).map fun a => ⟨2 * a, 2 * a + 1, if a ∈ C.wished then 0 else 1⟩
theorem gatesN_more (C : Chart) (i : Nat) : gatesN C (i + 1) = gatesN C i ++ [⟨2 * i, 2 * i + 1, if i ∈ C.wished then 0 else 1⟩] := by
  unfold gatesN
  rw [List.range_succ, List.map_append]
  rfl
theorem gatesN_len (C : Chart) (i : Nat) : (gatesN C i).length = i := by unfold gatesN; rw [List.length_map, List.length_range]
def roadsN (C : Chart) (j : Nat) : List Arc := ((C.roads.take j).filter (keepR C)).map fun p => ⟨2 * p.1 + 1, 2 * p.2, 61⟩
theorem roadsN_more {C : Chart} {j : Nat} {p : Nat × Nat} (h : C.roads[j]? = some p) : roadsN C (j + 1) = roadsN C j ++ (if keepR C p = true then [⟨2 * p.1 + 1, 2 * p.2, 61⟩] else []) := by
  unfold roadsN
  rw [take_more h, List.filter_append, List.map_append, List.filter_cons, List.filter_nil]
  congr 1
  split <;> rfl
theorem roadsN_len (C : Chart) (j : Nat) : (roadsN C j).length ≤ C.roads.length := by
  unfold roadsN
  rw [List.length_map]
  have h1 := List.length_filter_le (keepR C) (C.roads.take j)
  rw [List.length_take] at h1
  omega
theorem net_len (C : Chart) : (netA C).length ≤ C.n + C.roads.length := by
  have h := roadsN_len C C.roads.length
  unfold roadsN at h
  rw [List.take_length] at h
  unfold netA
  rw [List.length_append, gates_len]
  exact Nat.add_le_add_left h _
section
variable {P : Program} {w : World} {K : PySem.W.Frag} {mg : Str → Option Value} {base : Heap} {ka : Str → Addr}
def sp_Net___init__ (K : PySem.W.Frag) (ka : Str → Addr) : Sp := fun vs H Q _ => ∃ (p c : Addr) (C : Chart), vs = [.ref p, .ref c] ∧ ObjAt H p (ka "Net") 0 (fun _ => none) ∧ IsChart K H c C ∧ C.Ok ∧
  ∀ H' bl tl rl fl ls, NetAt ka H' p c C bl tl rl fl ls → Kp [p] H H' → Q .non H'
theorem calm_Net___init__ (T : Txt mg) (D : DefM K ka "Net" "__init__" "Net.__init__" s_Net___init__) (k_Net : Kls K mg ka "Net") (q_Net : Attrs K ka "Net" netFs) (c_arriving : Cal P w K mg base 1 "arriving" sp_arriving) (c_leaving : Cal P w K mg base 1 "leaving" sp_leaving) (m_MANY : MgI mg "MANY" 61)
    (w_Net__join : CalM P w K mg base 1 ka "Net" "_join" (sp_Net__join K ka)) : CalM P w K mg base 2 ka "Net" "__init__" (sp_Net___init__ K ka) := by
  refine calm_of D sc_Net___init__ (fun _ _ _ _ _ _ us hl => match us, hl with | [_, _], _ => rfl) (fun vs H Q E h => ?_) (fun f cdv A outer s H vs Q E hr h => ?_)
  · obtain ⟨p, c, C, rfl, _⟩ := h
    rfl
  · obtain ⟨p, c, C, rfl, hO, ⟨r, wd, ts, hC⟩, ok, q⟩ := h
    have hu := hu_of hr
    have hU := hr.units
    have n60 := ok.n60
    have m240 := ok.many
    have cl := k_Net.cl
    have nC : NoAttr K (ka "Net") "chart" := q_Net _ (by decide)
    have nB : NoAttr K (ka "Net") "beside" := q_Net _ (by decide)
    have nT : NoAttr K (ka "Net") "toward" := q_Net _ (by decide)
    have nR : NoAttr K (ka "Net") "rooms" := q_Net _ (by decide)
    have nF : NoAttr K (ka "Net") "finish" := q_Net _ (by decide)
    refine ⟨_, (pss_cons (ps_fld (pv 0) (pv 1) rfl)
      (pss_cons (ps_fld (pv 0) (pe_lc (own := [("_", 5)]) rfl sc_Net___init__.nd (pi_range1 (by rfl) T.range (pa_cons (pe_op op_mul pe_int (pe_ix (show IxR _ (rIxT K) from ix_tup) (pv 1) pe_int (fun _ _ => rfl))) pa_nil)) (blkOk_by (N := ["self", "chart", "place", "a", "b", "_"]) (sc := L2.defScope s_Net___init__) (by decide +kernel)) (fun _ _ _ _ _ => (pg_name (i := 5) sc_Net___init__.nd rfl (Or.inl rfl))) (fun _ _ _ _ _ => pts_nil) (fun _ _ _ _ _ => (pe_lst pa_nil))) rfl)
      (pss_cons (ps_fld (pv 0) (pe_lst pa_nil) rfl)
      (pss_cons (ps_fld (pv 0) (pe_lst pa_nil) rfl)
      (pss_cons (ps_fld (pv 0) (pe_dc (own := [("place", 2)]) rfl sc_Net___init__.nd (show PI _ _ _ (iTup K _) from pi_tup (pe_ix (show IxR _ (rIxT K) from ix_tup) (pv 1) pe_int (fun _ _ => rfl))) (blkOk_by (N := ["self", "chart", "place", "a", "b", "_"]) (sc := L2.defScope s_Net___init__) (by decide +kernel)) (fun _ _ _ _ _ => (pg_name (i := 2) sc_Net___init__.nd rfl (Or.inl rfl))) (fun _ _ _ _ _ => pts_nil) (fun _ _ _ _ _ => (pe_c c_arriving hr (by decide) (by rfl) (pa_cons (pv 2) pa_nil))) (fun _ _ _ _ _ => pe_bl)) rfl)
      (pss_cons (ps_for PassesOwn.never rfl (pi_range1 (by rfl) T.range (pa_cons (pe_ix (show IxR _ (rIxT K) from ix_tup) (pv 1) pe_int (fun _ _ => rfl)) pa_nil)) (pg_name (i := 2) sc_Net___init__.nd rfl (Or.inl rfl)) (pss_one (ps_expr (pe_m w_Net__join k_Net hr (by decide) (pv 0) (pa_cons (pe_c c_arriving hr (by decide) (by rfl) (pa_cons (pv 2) pa_nil)) (pa_cons (pe_c c_leaving hr (by decide) (by rfl) (pa_cons (pv 2) pa_nil)) (pa_cons (pe_ifExp (pt_cmp (pc_din hu (pe_c c_arriving hr (by decide) (by rfl) (pa_cons (pv 2) pa_nil)) (show PE _ _ (tFld K _ _) from pe_fldD (pv 0)))) pe_int pe_int) pa_nil)))))))
      (pss_one (ps_for PassesOwn.never rfl (show PI _ _ _ (iTup K _) from pi_tup (pe_ix (show IxR _ (rIxT K) from ix_tup) (pv 1) pe_int (fun _ _ => rfl))) (show PG _ _ (gTup K 2 _) from pg_tup (by rfl) (pgs_cons (pg_name (i := 3) sc_Net___init__.nd rfl (Or.inl rfl)) (pgs_cons (pg_name (i := 4) sc_Net___init__.nd rfl (Or.inl rfl)) pgs_nil))) (pss_one (ps_if (PW.pt (pw_or (pt_cmpR op_ne (pv 3) (pv 4) (nomark _)) (pw_or1 (pt_cmp (pc_din hu (pe_c c_arriving hr (by decide) (by rfl) (pa_cons (pv 4) pa_nil)) (show PE _ _ (tFld K _ _) from pe_fldD (pv 0))))))) (pss_one (ps_expr (pe_m w_Net__join k_Net hr (by decide) (pv 0) (pa_cons (pe_c c_leaving hr (by decide) (by rfl) (pa_cons (pv 3) pa_nil)) (pa_cons (pe_c c_arriving hr (by decide) (by rfl) (pa_cons (pv 4) pa_nil)) (pa_cons (pe_globI (n := 61) rfl m_MANY) pa_nil)))))) pss_nil)))))))))), ?_⟩
    obtain ⟨o0, ep0⟩ := hO.there
    have np : ∀ {z : Addr} {o : HO}, H z = some o → (∀ dx fs, o ≠ .ins (ka "Net") dx fs) → p ≠ z := fun {z o} e1 e2 e3 => by
      obtain ⟨dx, fs, e, _⟩ := hO.ex
      rw [e3, e1] at e
      exact e2 _ _ (Option.some.inj e)
    refine ⟨_, rfl, _, rfl, fld_store hO (by decide) cl nC fun H1 hO1 k1 => ?_⟩
    have hlp : Lists [p] H := fun b hb => by
      rw [List.mem_singleton.mp hb]
      obtain ⟨dx, fs, e, _⟩ := hO.ex
      exact ⟨_, e, (fun _ z => nomatch z), (fun _ _ z => nomatch z)⟩
    have hC1 : ChartAt K H1 c C r wd ts := hC.keep k1 hlp
    have e2n : (2 * (C.n : Int)).toNat = 2 * C.n := by omega
    refine ⟨_, rfl, _, _, _, _, rfl, rfl, hC1.top, rfl, _, _, rfl, rfl, .inl ⟨by decide, by decide⟩, _, rfl, by show -2 ^ 62 ≤ 2 * (C.n : Int); omega, by show 2 * (C.n : Int) < 2 ^ 62; omega, fun bl hbl => ?_⟩
    refine lc_range (lo := 0) (n := (2 * (C.n : Int)).toNat) (fun i H' => ∃ ls : List Addr, ls.length = i ∧ ls.Nodup ∧ Same H1 H' ∧ (∀ l ∈ ls, H1 l = none ∧ l ≠ bl ∧ H' l = some (.lst [])) ∧ H' bl = some (.lst (ls.map V.ref))) ⟨[], rfl, List.nodup_nil, same_upd hbl, (fun l z => nomatch z), upd_same⟩ ?_ ?_
    · rintro i H2 hi ⟨ls, el, nd, s1, all, hD⟩
      refine ⟨rfl, ?_⟩
      refine ⟨Nat.zero_le _, fun z hz => ?_⟩
      have npd : bl ≠ z := ne_of_none hD hz
      have new : ∀ l ∈ ls, l ≠ z := fun l hl => ne_of_none (all l hl).2.2 hz
      refine ⟨_, Eq.trans (upd_ne npd) hD, by rw [List.length_map, el]; exact small1000 (by omega), ls ++ [z], by rw [List.length_append, el]; rfl, ?_, ?_, ?_, ?_⟩
      · rw [List.nodup_append]
        refine ⟨nd, by simp, fun x hx y hy => ?_⟩
        rw [List.mem_singleton.mp hy]
        exact new x hx
      · intro b o e
        have n1 : b ≠ bl := ne_of_none e hbl
        have n2 : b ≠ z := ne_of_none (s1 b o e) hz
        rw [upd_ne n1, upd_ne n2]
        exact s1 b o e
      · intro l hl
        rcases List.mem_append.mp hl with hl | hl
        · obtain ⟨a1, a2, a3⟩ := all l hl
          exact ⟨a1, a2, by rw [upd_ne a2, upd_ne (new l hl)]; exact a3⟩
        · rw [List.mem_singleton.mp hl]
          exact ⟨s1.free hz, npd.symm, by rw [upd_ne npd.symm, upd_same]⟩
      · rw [upd_same, List.map_append]
        rfl
    rintro H2 ⟨ls, el, ndl, s2, all2, hB2⟩
    rw [e2n] at el
    have hO2 := hO1.same s2
    have off : ∀ {z : Addr}, H1 z = none → z ≠ p := fun h e => by
      obtain ⟨o, h2⟩ := hO1.there
      rw [e, h2] at h
      cases h
    have nbl : bl ≠ p := off hbl
    refine ⟨_, rfl, fld_store hO2 (by decide) cl nB fun H3 hO3 k3 => ?_⟩
    have hB3 : H3 bl = some (.lst (ls.map V.ref)) := k3 _ _ (by simpa using nbl) hB2
    have all3 : ∀ l ∈ ls, H3 l = some (.lst []) := fun l hl => k3 _ _ (by simpa using off (all2 l hl).1) (all2 l hl).2.2
    have nls : ∀ l ∈ ls, H1 l = none := fun l hl => (all2 l hl).1
    have nlb : ∀ l ∈ ls, l ≠ bl := fun l hl => (all2 l hl).2.1
    refine ⟨Nat.zero_le _, fun tl htl => ?_⟩
    have ntl0 : ∀ {z : Addr} {o : HO}, H3 z = some o → z ≠ tl := fun e => ne_of_none e htl
    generalize eH4 : upd H3 tl _ = H4
    have s4 : Same H3 H4 := by rw [← eH4]; exact same_upd htl
    have hT4 : H4 tl = some (.lst []) := by rw [← eH4]; exact upd_same
    clear eH4
    obtain ⟨oP3, eP3⟩ := hO3.there
    have ntp : tl ≠ p := (ntl0 eP3).symm
    refine ⟨_, rfl, fld_store (hO3.same s4) (by decide) cl nT fun H5 hO5 k5 => ?_⟩
    have hT5 : H5 tl = some (.lst []) := k5 _ _ (by simpa using ntp) hT4
    have hB5 : H5 bl = some (.lst (ls.map V.ref)) := k5 _ _ (by simpa using nbl) (s4 _ _ hB3)
    have all5 : ∀ l ∈ ls, H5 l = some (.lst []) := fun l hl => k5 _ _ (by simpa using off (nls l hl)) (s4 _ _ (all3 l hl))
    refine ⟨Nat.zero_le _, fun rl hrl => ?_⟩
    generalize eH6 : upd H5 rl _ = H6
    have s6 : Same H5 H6 := by rw [← eH6]; exact same_upd hrl
    have hR6 : H6 rl = some (.lst []) := by rw [← eH6]; exact upd_same
    clear eH6
    obtain ⟨oP5, eP5⟩ := hO5.there
    have nrp : rl ≠ p := (ne_of_none eP5 hrl).symm
    refine ⟨_, rfl, fld_store (hO5.same s6) (by decide) cl nR fun H7 hO7 k7 => ?_⟩
    have hR7 : H7 rl = some (.lst []) := k7 _ _ (by simpa using nrp) hR6
    have hT7 : H7 tl = some (.lst []) := k7 _ _ (by simpa using ntp) (s6 _ _ hT5)
    have hB7 : H7 bl = some (.lst (ls.map V.ref)) := k7 _ _ (by simpa using nbl) (s6 _ _ hB5)
    have all7 : ∀ l ∈ ls, H7 l = some (.lst []) := fun l hl => k7 _ _ (by simpa using off (nls l hl)) (s6 _ _ (all5 l hl))
    have ndA : (bl :: tl :: rl :: ls).Nodup := by
      refine List.nodup_cons.mpr ⟨fun m => ?_, List.nodup_cons.mpr ⟨fun m => ?_, List.nodup_cons.mpr ⟨fun m => ?_, ndl⟩⟩⟩
      · rcases List.mem_cons.mp m with e | m
        · exact ntl0 hB3 e
        · rcases List.mem_cons.mp m with e | m
          · exact ne_of_none hB5 hrl e
          · exact nlb bl m rfl
      · rcases List.mem_cons.mp m with e | m
        · exact ne_of_none hT5 hrl e
        · exact ntl0 (all3 tl m) rfl
      · exact ne_of_none (all5 rl m) hrl rfl
    have k17 : Kp [p] H1 H7 := ((((Kp.of_same s2).trans k3).trans (Kp.of_same s4)).trans k5 |>.trans (Kp.of_same s6)).trans k7
    have k07 := k1.trans k17
    have hC7 : ChartAt K H7 c C r wd ts := hC.keep k07 hlp
    refine ⟨_, rfl, _, _, _, _, rfl, rfl, hC7.top, rfl, wd, rfl, ⟨_, hC7.wis⟩, fun fl hfl => ?_⟩
    have keep7 : ∀ {H' : Hp}, Kp [fl] H7 H' → Same H7 H' := fun {H'} k b o e' => k b o (fun m => by rw [List.mem_singleton.mp m, hfl] at e'; cases e') e'
    refine dc_tup (K := K) (xs := C.wished.map vN) (fun i H' => Kp [fl] H7 H' ∧ H' fl = some (.dK (keysOf (twos (C.wished.take i)))))
      ⟨(fun b o nb e' => by rw [upd_ne (ne_of_none e' hfl)]; exact e'), upd_same⟩ (fun i H' _ ⟨k, _⟩ => Same.sqT (keep7 k) hC7.wis) ?_ ?_
    · rintro i x H8 hx ⟨k8, hF8⟩
      obtain ⟨b, hb, rfl⟩ := get_map hx
      have hbw := List.mem_of_getElem? hb
      have hbn := ok.inW b hbw
      have iw : i < C.wished.length := (List.getElem?_eq_some_iff.mp hb).1
      have lw := up_len ok.upW ok.inW
      refine ⟨rfl, ?_⟩
      refine ⟨_, rfl, b, rfl, by omega, ?_⟩
      refine ⟨_, (Sum.inl ((2 * b : Nat) : Int) : Key), rfl, hF8, by rw [keysOf_len]; unfold twos; rw [List.length_map, List.length_take, sizeLine_eq]; omega, ?_, ?_⟩
      · intro z o nz ez
        rw [upd_ne (fun y => nz (by rw [y]; simp))]
        exact k8 z o nz ez
      · have nb : 2 * b ∉ twos (C.wished.take i) := fun m => by
          have hm := twos_mem.mp m
          obtain ⟨j, hj⟩ := List.getElem?_of_mem hm
          rw [List.getElem?_take] at hj
          split at hj
          · rename_i lt
            have := (List.getElem?_inj (by omega) (up_nodup ok.upW)).mp (hj.trans hb.symm)
            omega
          · cases hj
        rw [upd_same, keysOf_put _ _ nb, take_more hb, twos_app]
    rintro H8 ⟨k8, hF8⟩
    rw [List.length_map, List.take_length] at hF8
    have s8 := keep7 k8
    obtain ⟨oP7, eP7⟩ := hO7.there
    have nfp : fl ≠ p := (ne_of_none eP7 hfl).symm
    refine ⟨_, rfl, fld_store (hO7.same s8) (by decide) cl nF fun H9 hO9 k9 => ?_⟩
    have hF9 : H9 fl = some (.dK (keysOf (twos C.wished))) := k9 _ _ (by simpa using nfp) hF8
    have at9 : ∀ {z : Addr} {o : HO}, z ≠ p → H7 z = some o → H9 z = some o := fun nz e => k9 _ _ (by simpa using nz) (s8 _ _ e)
    have k09 : Kp [p] H H9 := (k07.trans (Kp.of_same s8)).trans k9
    have hC9 : ChartAt K H9 c C r wd ts := hC.keep k09 hlp
    obtain ⟨dx, fs, eP, lk, _⟩ := hO9.ex
    have lCh : fs.lookup ("chart" : Str) = some (.ref c) := by
      rw [lk, setA_off (by decide), setA_off (by decide), setA_off (by decide), setA_off (by decide)]
      exact setA_at
    have lB : fs.lookup ("beside" : Str) = some (.ref bl) := by
      rw [lk, setA_off (by decide), setA_off (by decide), setA_off (by decide)]
      exact setA_at
    have lT : fs.lookup ("toward" : Str) = some (.ref tl) := by
      rw [lk, setA_off (by decide), setA_off (by decide)]
      exact setA_at
    have lR : fs.lookup ("rooms" : Str) = some (.ref rl) := by
      rw [lk, setA_off (by decide)]
      exact setA_at
    have lF : fs.lookup ("finish" : Str) = some (.ref fl) := by
      rw [lk]
      exact setA_at
    have lJ : fs.lookup ("_join" : Str) = none := by
      rw [lk, setA_off (by decide), setA_off (by decide), setA_off (by decide), setA_off (by decide), setA_off (by decide)]
    have hN9 : NetPart ka H9 p bl tl rl ls C.n [] := by
      refine ⟨⟨dx, fs, eP, lB, lT, lR, lJ⟩, at9 nbl hB7, el, fun a l hl => ?_, at9 ntp hT7, at9 nrp hR7, ndA⟩
      have ml := List.mem_of_getElem? hl
      exact at9 (off (nls l ml)) (all7 l ml)
    have k03 : Kp [p] H H3 := (k1.trans (Kp.of_same s2)).trans k3
    have k05 : Kp [p] H H5 := (k03.trans (Kp.of_same s4)).trans k5
    have T0 : H tl = none := kp_free k03 (by simpa using ntp) htl
    have R0 : H rl = none := kp_free k05 (by simpa using nrp) hrl
    have L0 : ∀ l ∈ ls, H l = none := fun l hl => kp_free k1 (by simpa using off (nls l hl)) (nls l hl)
    have new0 : ∀ {z : Addr} {o : HO}, H z = some o → z ∉ tl :: rl :: ls := fun {z o} e m => by
      rcases List.mem_cons.mp m with h | m
      · rw [h, T0] at e; cases e
      · rcases List.mem_cons.mp m with h | m
        · rw [h, R0] at e; cases e
        · rw [L0 z m] at e; cases e
    have l9 : Lists (tl :: rl :: ls) H9 := fun z m => by
      rcases List.mem_cons.mp m with h | m
      · rw [h]; exact ⟨_, hN9.tow, (fun _ z => nomatch z), (fun _ _ z => nomatch z)⟩
      · rcases List.mem_cons.mp m with h | m
        · rw [h]; exact ⟨_, hN9.rms, (fun _ z => nomatch z), (fun _ _ z => nomatch z)⟩
        · obtain ⟨i, hi⟩ := List.getElem?_of_mem m
          exact ⟨_, hN9.each i z hi, (fun _ z => nomatch z), (fun _ _ z => nomatch z)⟩
    have nf : fl ∉ tl :: rl :: ls := fun m => by
      have h : ∃ xs, H9 fl = some (.lst xs) := by
        rcases List.mem_cons.mp m with h | m
        · rw [h]; exact ⟨_, hN9.tow⟩
        · rcases List.mem_cons.mp m with h | m
          · rw [h]; exact ⟨_, hN9.rms⟩
          · obtain ⟨i, hi⟩ := List.getElem?_of_mem m
            exact ⟨_, hN9.each i fl hi⟩
      obtain ⟨xs, h⟩ := h
      rw [hF9] at h
      cases h
    have npk : p ∉ tl :: rl :: ls := fun m => by
      have h : ∃ xs, H9 p = some (.lst xs) := by
        rcases List.mem_cons.mp m with h | m
        · rw [h]; exact ⟨_, hN9.tow⟩
        · rcases List.mem_cons.mp m with h | m
          · rw [h]; exact ⟨_, hN9.rms⟩
          · obtain ⟨i, hi⟩ := List.getElem?_of_mem m
            exact ⟨_, hN9.each i p hi⟩
      obtain ⟨xs, h⟩ := h
      rw [eP] at h
      cases h
    refine ⟨_, rfl, _, _, _, _, rfl, rfl, hC9.top, rfl, _, rfl, by omega, by omega, for_range (lo := 0) (n := C.n) (fun i σ H' => ∃ v2 v3 v4 v5 : Option V, σ = [some (.ref p), some (.ref c), v2, v3, v4, v5] ∧ Kp (tl :: rl :: ls) H9 H' ∧ NetPart ka H' p bl tl rl ls C.n (gatesN C i)) ?_ ?_ ?_⟩
    · exact ⟨_, _, _, _, rfl, Kp.refl _ _, hN9⟩
    · rintro i σ H10 hi ⟨v2, v3, v4, v5, rfl, k10, hN⟩
      have eP' := k10 _ _ npk eP
      have hF' := k10 _ _ nf hF9
      have ei : ([V.int (0 + (i : Int))] : List V) = [vN i] := by rw [Int.zero_add]; rfl
      have lN := gatesN_len C i
      have go : ∀ cp : Nat, (cp = if i ∈ C.wished then 0 else 1) → sp_Net__join K ka [.ref p, vN (2 * i), vN (2 * i + 1), vN cp] H10 (fun v H' => ∃ u2 u3 u4 u5 : Option V, [some (V.ref p), some (.ref c), some (V.int (0 + (i : Int))), v3, v4, v5] = [some (V.ref p), some (.ref c), u2, u3, u4, u5] ∧ Kp (tl :: rl :: ls) H9 H' ∧ NetPart ka H' p bl tl rl ls C.n (gatesN C (i + 1))) E := fun cp ec =>
        ⟨p, bl, tl, rl, ls, C.n, gatesN C i, 2 * i, 2 * i + 1, cp, rfl, hN, by omega, by omega, by omega, fun H' hN' k' => ⟨_, _, _, _, rfl, k10.trans k', by rw [gatesN_more, ← ec]; exact hN'⟩⟩
      refine ⟨_, rfl, p, dx, fs, rfl, eP', lJ, _, rfl, i, ei, by omega, _, rfl, i, ei, by omega, _, rfl, i, ei, by omega, _, rfl, p, _, dx, fs, _, rfl, eP', cl, nF, lF, fl, _, rfl, DGet.k (k := Sum.inl ((2 * i : Nat) : Int)) hF', _, rfl, ?_⟩
      rw [keysOf_val]
      by_cases hw : i ∈ C.wished
      · rw [if_pos (twos_mem.mpr hw)]
        refine iteT ?_
        obtain ⟨p', bl', tl', rl', ls', n', A', a', b', c', e', hh⟩ := go 0 (by rw [if_pos hw])
        exact ⟨p', bl', tl', rl', ls', n', A', a', b', c', e', hh⟩
      · rw [if_neg (fun m => hw (twos_mem.mp m))]
        refine iteF ?_
        obtain ⟨p', bl', tl', rl', ls', n', A', a', b', c', e', hh⟩ := go 1 (by rw [if_neg hw])
        exact ⟨p', bl', tl', rl', ls', n', A', a', b', c', e', hh⟩
    rintro σ H10 ⟨v2, v3, v4, v5, rfl, k10, hN10⟩
    have hC10 : ChartAt K H10 c C r wd ts := hC9.keep k10 l9
    refine ⟨_, rfl, _, _, _, _, rfl, rfl, hC10.top, rfl, r, rfl, ⟨_, hC10.row⟩, for_tup (K := K) (xs := ts.map V.ref) (fun j σ H' => ∃ v3 v4 v5 : Option V, σ = [some (.ref p), some (.ref c), v2, v3, v4, v5] ∧ Kp (tl :: rl :: ls) H9 H' ∧ NetPart ka H' p bl tl rl ls C.n (gatesA C ++ roadsN C j)) ?_ ?_ ?_ ?_⟩
    · refine ⟨_, _, _, rfl, k10, ?_⟩
      have : gatesA C ++ roadsN C 0 = gatesN C C.n := by
        unfold roadsN gatesA gatesN
        simp
      rw [this]
      exact hN10
    · rintro j σ H11 _ ⟨_, _, _, _, k11, _⟩
      exact (hC9.keep k11 l9).row
    · rintro j x σ H11 hx ⟨v3, v4, v5, rfl, k11, hN⟩
      obtain ⟨t, ht, rfl⟩ := get_map hx
      obtain ⟨q0, hq0, pt⟩ := paired_getL hC9.prs ht
      have pt11 : SqT K H11 t [vN q0.1, vN q0.2] := k11.sqT l9 pt
      have inq := ok.inR q0 (List.mem_of_getElem? hq0)
      have eP' := k11 _ _ npk eP
      have hF' := k11 _ _ nf hF9
      have lN : (gatesA C ++ roadsN C j).length ≤ 300 := by
        rw [List.length_append, gates_len]
        have := roadsN_len C j
        omega
      refine ⟨t, _, rfl, pt11, rfl, _, _, rfl, _, _, rfl, rfl, ?_⟩
      have join : keepR C q0 = true → sp_Net__join K ka [.ref p, vN (2 * q0.1 + 1), vN (2 * q0.2), vN 61] H11 (fun v H' => ∃ u3 u4 u5 : Option V, [some (V.ref p), some (.ref c), v2, some (vN q0.1), some (vN q0.2), v5] = [some (V.ref p), some (.ref c), v2, u3, u4, u5] ∧ Kp (tl :: rl :: ls) H9 H' ∧ NetPart ka H' p bl tl rl ls C.n (gatesA C ++ roadsN C (j + 1))) E := fun hk =>
        ⟨p, bl, tl, rl, ls, C.n, gatesA C ++ roadsN C j, 2 * q0.1 + 1, 2 * q0.2, 61, rfl, hN, by omega, by omega, by omega, fun H' hN' k' => ⟨_, _, _, rfl, k11.trans k', by rw [roadsN_more hq0, if_pos hk, ← List.append_assoc]; exact hN'⟩⟩
      have go : keepR C q0 = true → ∀ {R : Prop}, (sp_Net__join K ka [.ref p, vN (2 * q0.1 + 1), vN (2 * q0.2), vN 61] H11 (fun v H' => ∃ u3 u4 u5 : Option V, [some (V.ref p), some (.ref c), v2, some (vN q0.1), some (vN q0.2), v5] = [some (V.ref p), some (.ref c), v2, u3, u4, u5] ∧ Kp (tl :: rl :: ls) H9 H' ∧ NetPart ka H' p bl tl rl ls C.n (gatesA C ++ roadsN C (j + 1))) E → R) → R := fun hk R f => f (join hk)
      refine ⟨_, rfl, _, rfl, rfl, _, rfl, ite_any (fun h1 => ?_) (fun h1 => ?_)⟩
      · have hk : keepR C q0 = true := by
          unfold keepR
          have : q0.1 ≠ q0.2 := fun e => by rw [e] at h1; simp at h1
          simp [this]
        refine ⟨_, rfl, p, dx, fs, rfl, eP', lJ, _, rfl, q0.1, rfl, by omega, _, rfl, q0.2, rfl, by omega, ?_⟩
        exact go hk fun ⟨p', bl', tl', rl', ls', n', A', a', b', c', e', hh⟩ => ⟨p', bl', tl', rl', ls', n', A', a', b', c', e', hh⟩
      · have e12 : q0.1 = q0.2 := by
          have z : V.int (q0.1 : Int) = V.int (q0.2 : Int) := by simpa [vN] using h1
          have := V.int.inj z
          omega
        refine ⟨_, rfl, q0.2, rfl, by omega, _, rfl, p, _, dx, fs, _, rfl, eP', cl, nF, lF, fl, _, rfl, DGet.k (k := Sum.inl ((2 * q0.2 : Nat) : Int)) hF', _, rfl, ?_⟩
        rw [keysOf_val]
        by_cases hw : q0.2 ∈ C.wished
        · rw [if_pos (twos_mem.mpr hw)]
          refine iteT ?_
          have hk : keepR C q0 = true := by
            unfold keepR
            simp [hw]
          refine ⟨_, rfl, p, dx, fs, rfl, eP', lJ, _, rfl, q0.1, rfl, by omega, _, rfl, q0.2, rfl, by omega, ?_⟩
          exact go hk fun ⟨p', bl', tl', rl', ls', n', A', a', b', c', e', hh⟩ => ⟨p', bl', tl', rl', ls', n', A', a', b', c', e', hh⟩
        · rw [if_neg (fun m => hw (twos_mem.mp m))]
          refine iteF ⟨_, _, _, rfl, k11, ?_⟩
          have hk : ¬ keepR C q0 = true := by
            unfold keepR
            simp [hw, e12]
          rw [roadsN_more hq0, if_neg hk, List.append_nil]
          exact hN
    · rintro σ H11 ⟨v3, v4, v5, rfl, k11, hN⟩
      have el' : (ts.map V.ref).length = C.roads.length := by rw [List.length_map]; exact hC9.prs.length
      rw [el'] at hN
      have eN : gatesA C ++ roadsN C C.roads.length = netA C := by
        unfold roadsN netA roadsA
        rw [List.take_length]
      rw [eN] at hN
      refine q H11 bl tl rl fl ls ⟨⟨dx, fs, k11 _ _ npk eP, lCh, lB, lT, lR, lF⟩, hN.top, hN.len, hN.each, hN.tow, hN.rms, k11 _ _ nf hF9⟩ fun z o nz ez => ?_
      exact k11 _ _ (new0 ez) (k09 _ _ nz ez)
end
end Ft

set_option Elab.async false
set_option linter.all false
set_option maxRecDepth 100000
set_option maxHeartbeats 4000000
/-! Plain mathematics: how many roads are left, from each place -/
namespace Ft
/-- the numbers that belong to the places from which a wished place is come to without a trap -/
structure Left (n : Nat) (rs : List (Nat × Nat)) (ws T : List Nat) (L : List (Nat × Nat)) : Prop where
  nd : (L.map (·.1)).Nodup
  lt : ∀ p ∈ L, p.1 < n ∧ p.1 ∉ T
  zero : ∀ b, (b, 0) ∈ L ↔ b ∈ ws ∧ b ∉ T
  succ : ∀ b k, (b, k + 1) ∈ L → b ∉ ws ∧ ∃ c, (b, c) ∈ rs ∧ (c, k) ∈ L
  near : ∀ b c j, (b, c) ∈ rs → b ∉ ws → b ∉ T → (c, j) ∈ L → ∃ k, k ≤ j + 1 ∧ (b, k) ∈ L
/-- .. while they are being found: m rounds are done, those in A came last -/
structure Lefting (n : Nat) (rs : List (Nat × Nat)) (ws T : List Nat) (m : Nat) (L : List (Nat × Nat)) (A : List Nat) : Prop where
  nd : (L.map (·.1)).Nodup
  lt : ∀ p ∈ L, p.1 < n ∧ p.1 ∉ T
  zero : ∀ b, (b, 0) ∈ L ↔ b ∈ ws ∧ b ∉ T
  succ : ∀ b k, (b, k + 1) ∈ L → b ∉ ws ∧ ∃ c, (b, c) ∈ rs ∧ (c, k) ∈ L
  top : ∀ p ∈ L, p.2 ≤ m
  near : ∀ b c j, (b, c) ∈ rs → b ∉ ws → b ∉ T → j < m → (c, j) ∈ L → ∃ k, k ≤ j + 1 ∧ (b, k) ∈ L
  last : ∀ b, b ∈ A ↔ (b, m) ∈ L
theorem key_mem {L : List (Nat × Nat)} {b : Nat} : b ∈ L.map (·.1) ↔ ∃ k, (b, k) ∈ L := by
  rw [List.mem_map]
  exact ⟨fun ⟨⟨x, k⟩, h, e⟩ => ⟨k, by cases e; exact h⟩, fun ⟨k, h⟩ => ⟨(b, k), h, rfl⟩⟩
theorem Lefting.start {n : Nat} {rs : List (Nat × Nat)} {ws T W : List Nat} (inW : ∀ a ∈ ws, a < n) (nd : W.Nodup) (hW : ∀ b, b ∈ W ↔ b ∈ ws ∧ b ∉ T) : Lefting n rs ws T 0 (W.map fun b => (b, 0)) W := by
  have mem : ∀ b k, (b, k) ∈ W.map (fun b => (b, 0)) ↔ b ∈ W ∧ k = 0 := by
    intro b k
    rw [List.mem_map]
    exact ⟨fun ⟨x, h, e⟩ => by cases e; exact ⟨h, rfl⟩, fun ⟨h, e⟩ => ⟨b, h, by rw [e]⟩⟩
  refine ⟨?_, ?_, ?_, ?_, ?_, ?_, ?_⟩
  · rw [List.map_map]
    have : W.map ((fun p : Nat × Nat => p.1) ∘ fun b => (b, 0)) = W := by
      conv => rhs; rw [← List.map_id W]
      rfl
    rw [this]
    exact nd
  · rintro ⟨b, k⟩ h
    have := (hW b).mp ((mem b k).mp h).1
    exact ⟨inW b this.1, this.2⟩
  · intro b
    rw [mem, hW]
    exact ⟨fun h => h.1, fun h => ⟨h, rfl⟩⟩
  · intro b k h
    exact absurd ((mem _ _).mp h).2 (by omega)
  · rintro ⟨b, k⟩ h
    exact Nat.le_of_eq ((mem _ _).mp h).2
  · intro b c j _ _ _ h
    exact absurd h (Nat.not_lt_zero _)
  · intro b
    rw [mem]
    exact ⟨fun h => ⟨h, rfl⟩, fun h => h.1⟩
theorem Lefting.step {n : Nat} {rs : List (Nat × Nat)} {ws T A A' : List Nat} {m : Nat} {L : List (Nat × Nat)} (h : Lefting n rs ws T m L A) (inR : ∀ p ∈ rs, p.1 < n ∧ p.2 < n) (nd : A'.Nodup) (hA : ∀ a, a ∈ A' ↔ (∃ b ∈ A, (a, b) ∈ rs) ∧ a ∉ ws ∧ a ∉ T ∧ a ∉ L.map (·.1)) :
    Lefting n rs ws T (m + 1) (L ++ A'.map fun a => (a, m + 1)) A' := by
  have mem : ∀ b k, (b, k) ∈ A'.map (fun a => (a, m + 1)) ↔ b ∈ A' ∧ k = m + 1 := by
    intro b k
    rw [List.mem_map]
    exact ⟨fun ⟨x, h, e⟩ => by cases e; exact ⟨h, rfl⟩, fun ⟨h, e⟩ => ⟨b, h, by rw [e]⟩⟩
  refine ⟨?_, ?_, ?_, ?_, ?_, ?_, ?_⟩
  · rw [List.map_append, List.map_map]
    have : A'.map ((fun p : Nat × Nat => p.1) ∘ fun a => (a, m + 1)) = A' := by
      conv => rhs; rw [← List.map_id A']
      rfl
    rw [this, List.nodup_append]
    exact ⟨h.nd, nd, fun x hx y hy e => ((hA y).mp hy).2.2.2 (e ▸ hx)⟩
  · rintro ⟨b, k⟩ hb
    rcases List.mem_append.mp hb with hb | hb
    · exact h.lt _ hb
    · obtain ⟨⟨c, _, hr⟩, _, ht, _⟩ := (hA b).mp ((mem b k).mp hb).1
      exact ⟨(inR _ hr).1, ht⟩
  · intro b
    rw [List.mem_append, mem, ← h.zero b]
    exact ⟨fun q => q.elim id fun q => absurd q.2 (by omega), .inl⟩
  · intro b k hb
    rcases List.mem_append.mp hb with hb | hb
    · obtain ⟨h1, c, h2, h3⟩ := h.succ b k hb
      exact ⟨h1, c, h2, List.mem_append_left _ h3⟩
    · obtain ⟨hm, e⟩ := (mem _ _).mp hb
      obtain ⟨⟨c, hc, hr⟩, hw, _⟩ := (hA b).mp hm
      have ek : k = m := by omega
      rw [ek]
      exact ⟨hw, c, hr, List.mem_append_left _ ((h.last c).mp hc)⟩
  · rintro ⟨b, k⟩ hb
    rcases List.mem_append.mp hb with hb | hb
    · exact Nat.le_succ_of_le (h.top _ hb)
    · exact Nat.le_of_eq ((mem _ _).mp hb).2
  · intro b c j hr hw ht hj hc
    have hc' : (c, j) ∈ L := by
      rcases List.mem_append.mp hc with hc | hc
      · exact hc
      · exact absurd ((mem _ _).mp hc).2 (by omega)
    by_cases e : j = m
    · by_cases hk : b ∈ L.map (·.1)
      · obtain ⟨k, hk⟩ := key_mem.mp hk
        exact ⟨k, by have : k ≤ m := h.top _ hk; omega, List.mem_append_left _ hk⟩
      · refine ⟨m + 1, by omega, List.mem_append_right _ ((mem _ _).mpr ⟨(hA b).mpr ⟨⟨c, (h.last c).mpr (e ▸ hc'), hr⟩, hw, ht, hk⟩, rfl⟩)⟩
    · obtain ⟨k, h1, h2⟩ := h.near b c j hr hw ht (by omega) hc'
      exact ⟨k, h1, List.mem_append_left _ h2⟩
  · intro b
    rw [List.mem_append, mem]
    constructor
    · intro hb
      exact .inr ⟨hb, rfl⟩
    · rintro (hb | hb)
      · have : m + 1 ≤ m := h.top _ hb
        omega
      · exact hb.1
theorem Lefting.ends {n : Nat} {rs : List (Nat × Nat)} {ws T : List Nat} {m : Nat} {L : List (Nat × Nat)} (h : Lefting n rs ws T m L []) : Left n rs ws T L := by
  refine ⟨h.nd, h.lt, h.zero, h.succ, fun b c j hr hw ht hc => ?_⟩
  have h1 : j ≤ m := h.top _ hc
  by_cases e : j = m
  · exact absurd ((h.last c).mpr (e ▸ hc)) List.not_mem_nil
  · exact h.near b c j hr hw ht (by omega) hc
theorem len_of_lt (l : List Nat) (n : Nat) (nd : l.Nodup) (b : ∀ x ∈ l, x < n) : l.length ≤ n := by
  have := L2.nat_nodup_len l (List.range n) nd fun x hx => List.mem_range.mpr (b x hx)
  rwa [List.length_range] at this
theorem Lefting.len {n : Nat} {rs : List (Nat × Nat)} {ws T A : List Nat} {m : Nat} {L : List (Nat × Nat)} (h : Lefting n rs ws T m L A) : L.length ≤ n := by
  have := len_of_lt (L.map (·.1)) n h.nd fun x hx => by
    obtain ⟨p, hp, rfl⟩ := List.mem_map.mp hx
    exact (h.lt p hp).1
  rwa [List.length_map] at this
theorem Left.one {n : Nat} {rs : List (Nat × Nat)} {ws T : List Nat} {L : List (Nat × Nat)} (h : Left n rs ws T L) {b k j : Nat} (h1 : (b, k) ∈ L) (h2 : (b, j) ∈ L) : k = j := by
  have : ∀ (L : List (Nat × Nat)), (L.map (·.1)).Nodup → (b, k) ∈ L → (b, j) ∈ L → k = j := by
    intro L
    induction L with
    | nil => intro _ z; exact absurd z List.not_mem_nil
    | cons p L ih =>
      intro nd m1 m2
      rw [List.map_cons] at nd
      obtain ⟨n1, n2⟩ := List.nodup_cons.mp nd
      rcases List.mem_cons.mp m1 with e1 | m1
      · rcases List.mem_cons.mp m2 with e2 | m2
        · have := e1.trans e2.symm
          injection this
        · exact absurd (key_mem.mpr ⟨j, m2⟩) (by rw [← e1] at n1; exact n1)
      · rcases List.mem_cons.mp m2 with e2 | m2
        · exact absurd (key_mem.mpr ⟨k, m1⟩) (by rw [← e2] at n1; exact n1)
        · exact ih n2 m1 m2
  exact this L h.nd h1 h2
/-- no number is greater than there are places -/
theorem Left.many {n : Nat} {rs : List (Nat × Nat)} {ws T : List Nat} {L : List (Nat × Nat)} (h : Left n rs ws T L) : ∀ (k b : Nat), (b, k) ∈ L → k < n := by
  have ex : ∀ (k b : Nat), (b, k) ∈ L → ∃ l : List Nat, l.length = k + 1 ∧ l.Nodup ∧ ∀ x ∈ l, ∃ j, j ≤ k ∧ (x, j) ∈ L := by
    intro k
    induction k with
    | zero => exact fun b hb => ⟨[b], rfl, by simp, fun x hx => ⟨0, Nat.le_refl _, by rw [List.mem_singleton.mp hx]; exact hb⟩⟩
    | succ k ih =>
      intro b hb
      obtain ⟨_, c, _, hc⟩ := h.succ b k hb
      obtain ⟨l, h1, h2, h3⟩ := ih c hc
      refine ⟨b :: l, by rw [List.length_cons, h1], List.nodup_cons.mpr ⟨fun m => ?_, h2⟩, fun x hx => ?_⟩
      · obtain ⟨j, hj, hx⟩ := h3 b m
        have := h.one hb hx
        omega
      · rcases List.mem_cons.mp hx with e | hx
        · exact ⟨k + 1, Nat.le_refl _, e ▸ hb⟩
        · obtain ⟨j, hj, hm⟩ := h3 x hx
          exact ⟨j, by omega, hm⟩
  intro k b hb
  obtain ⟨l, h1, h2, h3⟩ := ex k b hb
  have := len_of_lt l n h2 fun x hx => by
    obtain ⟨j, _, hm⟩ := h3 x hx
    exact (h.lt _ hm).1
  omega
end Ft

set_option Elab.async false
set_option linter.all false
set_option maxRecDepth 100000
set_option maxHeartbeats 8000000
namespace Ft
open PySem PySem.Spec PyProof.Rows L2
/-! ### a dict of places, each with a number -/
def lvOf (L : List (Nat × Nat)) : List (Key × V) := L.map fun p => ((Sum.inl (p.1 : Int) : Key), vN p.2)
theorem lvOf_none : ∀ (L : List (Nat × Nat)) (x : Nat), x ∉ L.map (·.1) → valV (lvOf L) (Sum.inl (x : Int) : Key) = none
  | [], _, _ => by simp [lvOf, valV]
  | p :: L, x, h => by
    have ih := lvOf_none L x fun m => h (List.mem_cons_of_mem _ m)
    unfold valV lvOf at ih ⊢
    rw [List.map_cons, List.find?_cons]
    have e : decide (((Sum.inl (p.1 : Int) : Key)) = Sum.inl (x : Int)) = false := by
      refine decide_eq_false fun q => h ?_
      have := Sum.inl.inj q
      have : p.1 = x := by omega
      rw [List.map_cons, ← this]
      exact List.mem_cons_self
    simp only [e]
    exact ih
theorem lvOf_some : ∀ (L : List (Nat × Nat)) (x k : Nat), (L.map (·.1)).Nodup → (x, k) ∈ L → valV (lvOf L) (Sum.inl (x : Int) : Key) = some (vN k)
  | [], _, _, _, h => nomatch h
  | p :: L, x, k, nd, h => by
    rw [List.map_cons] at nd
    obtain ⟨n1, n2⟩ := List.nodup_cons.mp nd
    unfold valV lvOf
    rw [List.map_cons, List.find?_cons]
    rcases List.mem_cons.mp h with e | h
    · rw [← e]
      simp
    · have ih := lvOf_some L x k n2 h
      unfold valV lvOf at ih
      have e : decide (((Sum.inl (p.1 : Int) : Key)) = Sum.inl (x : Int)) = false := by
        refine decide_eq_false fun q => n1 ?_
        have := Sum.inl.inj q
        have : p.1 = x := by omega
        rw [this]
        exact key_mem.mpr ⟨k, h⟩
      simp only [e]
      exact ih
theorem lvOf_put (L : List (Nat × Nat)) (x k : Nat) (h : x ∉ L.map (·.1)) : putK (lvOf L) (Sum.inl (x : Int) : Key) (vN k) = lvOf (L ++ [(x, k)]) := by
  rw [putK_new _ (lvOf_none L x h)]
  unfold lvOf
  rw [List.map_append]
  rfl
theorem lvOf_len (L : List (Nat × Nat)) : (lvOf L).length = L.length := List.length_map ..
/-- the keys of a dict are these places -/
def Keyed (kvs : List (Key × V)) (A : List Nat) : Prop := kvs.map (·.1) = A.map fun (n : Nat) => (Sum.inl (n : Int) : Key)
theorem keyed_val : ∀ {kvs : List (Key × V)} {A : List Nat}, Keyed kvs A → ∀ x : Nat, (valV kvs (Sum.inl (x : Int) : Key)).isSome = decide (x ∈ A)
  | [], [], _, x => by simp [valV]
  | [], _ :: _, h, _ => by simp [Keyed] at h
  | _ :: _, [], h, _ => by simp [Keyed] at h
  | p :: kvs, a :: A, h, x => by
    unfold Keyed at h
    rw [List.map_cons, List.map_cons] at h
    injection h with h1 h2
    have ih := keyed_val (kvs := kvs) (A := A) h2 x
    unfold valV at ih ⊢
    rw [List.find?_cons, h1]
    by_cases e : a = x
    · subst e
      simp
    · have e1 : decide (((Sum.inl (a : Int) : Key)) = Sum.inl (x : Int)) = false := by
        refine decide_eq_false fun q => e ?_
        have := Sum.inl.inj q
        omega
      have hx : x ≠ a := fun q => e q.symm
      simp only [e1, List.mem_cons, hx, false_or]
      exact ih
theorem keyed_keysOf (A : List Nat) : Keyed (keysOf A) A := by
  unfold Keyed keysOf
  rw [List.map_map]
  rfl
theorem keyed_zeros (W : List Nat) : Keyed (lvOf (W.map fun b => (b, 0))) W := by
  unfold Keyed lvOf
  rw [List.map_map, List.map_map]
  rfl
theorem keysOf_again : ∀ (B : List Nat) (x : Nat), x ∈ B → putK (keysOf B) (Sum.inl (x : Int) : Key) (.bl true) = keysOf B := by
  intro B x h
  unfold putK
  rw [if_pos (by
    rw [List.any_eq_true]
    exact ⟨(Sum.inl (x : Int), .bl true), List.mem_map.mpr ⟨x, h, rfl⟩, by simp⟩)]
  conv => rhs; rw [← List.map_id (keysOf B)]
  refine List.map_congr_left fun kv hkv => ?_
  unfold keysOf at hkv
  obtain ⟨y, _, rfl⟩ := List.mem_map.mp hkv
  by_cases e : ((Sum.inl (y : Int) : Key)) = Sum.inl (x : Int)
  · rw [if_pos e]
    rfl
  · rw [if_neg e]
    rfl
/-- how much of the search is left -/
def restOf (n : Nat) (d : Addr) (σ : L2.St) (H : Hp) : Nat := match σ[5]?, H d with
  | some (some (V.ref la)), some (HO.dK kvs) => (n - kvs.length) + (match H la with
    | some (HO.dK (_ :: _)) => 1
    | _ => 0)
  | _, _ => 0
theorem restOf_is {n : Nat} {d la : Addr} {σ : L2.St} {H : Hp} {ks kvs : List (Key × V)} (h0 : σ[5]? = some (some (V.ref la))) (h1 : H d = some (.dK ks)) (h2 : H la = some (.dK kvs)) : restOf n d σ H = (n - ks.length) + (if kvs = [] then 0 else 1) := by
  unfold restOf
  simp only [h0, h1, h2]
  cases kvs with
  | nil => simp
  | cons a b => simp
section
variable {P : Program} {w : World} {K : PySem.W.Frag} {mg : Str → Option Value} {base : Heap} {t1 t2 : Tok}
/-! ### roads_left -/
def sp_roads_left (K : PySem.W.Frag) : Sp := fun vs H Q _ => ∃ (c tr : Addr) (C : Chart) (U : List Nat), vs = [.ref c, .ref tr] ∧ IsChart K H c C ∧ C.Ok ∧ SqT K H tr (U.map vN) ∧ U.length ≤ 1000 ∧
  ∀ d L H', Same H H' → H d = none → H' d = some (.dK (lvOf L)) → Left C.n C.roads C.wished U L → Q (.ref d) H'
end
end Ft

set_option Elab.async false
set_option linter.all false
set_option maxRecDepth 100000
set_option maxHeartbeats 4000000
/-! name = {..: .. for ..} on one line, the name a local one -/
namespace Ft
open PySem PySem.Spec PyProof.Rows L2
theorem sw_trueD {kx vx : Expr} {gs : List Comprehension} {scope : Scope} {pos py : Pos} {y : Str} {l : Nat} {env : Env} (hk : env.scope.kind = .function) (hy : env.scope.names.lookup y = some .local) (hl : (py.line == pos.line) = true) (ha : (scope.names.any fun (n, k) => n == y && (k == .local || k == .cell)) = false) :
    swapsWith (.DictComp kx vx gs scope pos) (some (.Name y py)) l env = pure true := by
  have b : env.blockKind = .function := by unfold Env.blockKind; rw [hk]; rfl
  have k : env.kindOf y = some .local := hy
  unfold swapsWith; simp only [b, k, ha, Expr.pos, hl]; rfl
theorem ps_setDc {X : Cx} {i : Nat} {y : Str} {py pos spos : Pos} {kx vx tg iter : Expr} {ifs : List Expr} {scope : Scope} {own : List (Str × Nat)} {wi : TI} {g : TG} {tt : TT} {tk tv : TE} (hc : X.calm = true) (hN : X.N.Nodup) (hy : X.N[i]? = some y) (hyl : X.env.scope.names.lookup y = some .local)
    (hsw : swapsWith (.DictComp kx vx [⟨tg, iter, ifs, 0⟩] scope pos) (some (.Name y py)) spos.line X.env = pure true) (hi : PI X tg iter wi) (ok : BlkOk X.N X.env.scope scope own)
    (pg : ∀ (s : Shared) (H : Hp) (C : Addr) (cl : List (Str × Addr)) (fp : List Addr), PG (X.blk s H scope (compEnvC scope cl C X.env) fp) tg g) (pt : ∀ (s : Shared) (H : Hp) (C : Addr) (cl : List (Str × Addr)) (fp : List Addr), PTs (X.blk s H scope (compEnvC scope cl C X.env) fp) ifs tt)
    (pk : ∀ (s : Shared) (H : Hp) (C : Addr) (cl : List (Str × Addr)) (fp : List Addr), PE (X.blk s H scope (compEnvC scope cl C X.env) fp) kx tk) (pv : ∀ (s : Shared) (H : Hp) (C : Addr) (cl : List (Str × Addr)) (fp : List Addr), PE (X.blk s H scope (compEnvC scope cl C X.env) fp) vx tv)
    (hs : ∀ x, foldedSetIterable iter X.env x = pure x := by intro _; rfl) : PS X (.Assign [.Name y py] (.DictComp kx vx [⟨tg, iter, ifs, 0⟩] scope pos) spos) (tAsg (tDc wi g tt tk tv (own.map (·.2))) (gName i)) := by
  refine ⟨fun pins s σ H D I h => ?_⟩
  rw [exec_Assign_Name_used _ _ _ _ hsw]
  refine wpAny_bind (wpAny_standAt (wpAny_bind (show wpAny _ X.A (do let _ ← comprehension (.DictComp kx vx [⟨tg, iter, ifs, 0⟩] scope pos) scope X.env (firstIterPos [⟨tg, iter, ifs, 0⟩] pos) newDict false (eval iter X.env) (some (assign (.Name y py) X.env))) _ _ s from ?_)))
  refine wpAny_bind (thn (dc_core (Qf := fun _ s' => SP X pins D .next s') hc hN I hi ok pg pt pk pv hs (show tDc wi g tt tk tv (own.map (·.2)) σ H (fun x H1 => gName i x σ H1 D.nx) from h) fun L C s' m H' I' q hn f => ?_) fun _ s' hq => wpAny_pure (wpAny_pure hq))
  refine (show wpAny _ _ (assign (.Name y py) X.env (.ref L)) _ _ _ from wpAny_assign_Name (store_ok2 (v := V.ref L) I' hN hy (.inl hyl) rfl (fun s2 I2 ⟨a, sb, at_⟩ => ?_) (.inr hyl)))
  obtain ⟨f0, f1, f2, f3, f4, f5⟩ := f
  have ne : C ≠ a := at_.elim (fun z => by rw [z]; exact f1) fun z e => f4 y a z e.symm
  exact ⟨m, hn.sameBut sb ne, fun h3 sb3 => ⟨_, H', I2.turned (t' := s2.toks) (fun b o hb e => (sb3.2 b hb).trans e) f0 f1 f3 f4 f5, q⟩⟩
end Ft

set_option Elab.async false
set_option linter.all false
set_option maxRecDepth 100000
set_option maxHeartbeats 4000000
namespace Ft
open PySem PySem.Spec PyProof.Rows L2
/-- any walk within a block, its turns by an invariant -/
theorem by_turns {J : It} {n : Nat} {G : Hp → Prop} {Y : Nat → Hp → V → Hp → Prop} (w : L2.Walk J n G Y) {Bd : (Hp → Prop) → V → Hp → Prop} {H0 : Hp} {Qd : Hp → Prop} (Pv : Nat → Hp → Prop) (h0 : Pv 0 H0) (hG : ∀ i H, i ≤ n → Pv i H → G H)
    (hs : ∀ i x H H', i < n → Pv i H → Y i H x H' → Bd (Pv (i + 1)) x H') (hd : ∀ H, Pv n H → Qd H) :
    ∃ W : Nat → Nat → Hp → Prop, (∃ m, W 0 m H0) ∧ ∀ i m H, W i m H → (J.stop i H ∧ Qd H) ∨ (J.go i H ∧ ∃ Nx : Hp → Prop, (∀ H', Nx H' → ∃ m', m' < m ∧ W (i + 1) m' H') ∧ ∀ x H', J.yld i H x H' → Bd Nx x H') := by
  refine ⟨fun i m H => m = n - i ∧ i ≤ n ∧ Pv i H, ⟨n, rfl, Nat.zero_le _, h0⟩, fun i m H ⟨em, hi, p⟩ => ?_⟩
  subst em
  have g := hG i H hi p
  by_cases lt : i < n
  · exact .inr ⟨w.goes i H lt g, Pv (i + 1), fun H' p' => ⟨n - (i + 1), by omega, rfl, lt, p'⟩, fun x H' y => hs i x H H' lt p (w.yields i H x H' lt g y)⟩
  · have e : i = n := by omega
    subst e
    exact .inl ⟨w.stops H g, hd H p⟩
/-- a if c else b, as a test -/
def tCond (tc ta tb : TT) : TT := fun σ H Q => tc σ H fun z H1 => if z = true then ta σ H1 Q else tb σ H1 Q
theorem pt_cond {X : Cx} {c a b : Expr} {pos : Pos} {tc ta tb : TT} (hc : PT X c tc) (ha : PT X a ta) (hb : PT X b tb) : PT X (.IfExp c a b pos) (tCond tc ta tb) := by
  refine ⟨fun pins s σ H Q I h => isTrue_IfExp (thn (hc.run pins s σ H _ I h) fun z s1 ⟨H1, I1, q1⟩ => ?_)⟩
  cases z with
  | true => exact ha.run pins s1 σ H1 Q I1 q1
  | false => exact hb.run pins s1 σ H1 Q I1 q1
end Ft

set_option Elab.async false
set_option linter.all false
set_option maxRecDepth 100000
set_option maxHeartbeats 4000000
/-! what stays beside one object that changes -/
namespace Ft
open PySem PySem.Spec PyProof.Rows L2
theorem kp_same {H H' : Hp} {D : Addr} (hD : H D = none) (k : Kp [D] H H') : Same H H' := fun b o e => k b o (fun m => by rw [List.mem_singleton.mp m, hD] at e; cases e) e
theorem same_kp {H H1 H2 : Hp} {D : Addr} (hD : H D = none) (s : Same H H1) (k : Kp [D] H1 H2) : Same H H2 := fun b o e => k b o (fun m => by rw [List.mem_singleton.mp m, hD] at e; cases e) (s b o e)
theorem kp_put {H H' : Hp} {D : Addr} {o : HO} (k : Kp [D] H H') : Kp [D] H (upd H' D o) := fun z u nz ez => by
  rw [upd_ne (fun y => nz (by rw [y]; simp))]
  exact k z u nz ez
theorem lists_one {H : Hp} {D : Addr} {xs : List V} (h : H D = some (.lst xs)) : Lists [D] H := fun b hb => by
  rw [List.mem_singleton.mp hb]
  exact ⟨_, h, (fun _ z => nomatch z), (fun _ _ z => nomatch z)⟩
theorem kp_lst {H : Hp} {D : Addr} {o : HO} : Kp [D] H (upd H D o) := fun z u nz ez => by
  rw [upd_ne (fun y => nz (by rw [y]; simp))]
  exact ez
end Ft

set_option Elab.async false
set_option linter.all false
set_option maxRecDepth 100000
set_option maxHeartbeats 8000000
namespace Ft
open PySem PySem.Spec PyProof.Rows L2
def flowFs : List Str := ["net", "lot", "room", "ended", "came"]
def flowMs : List Str := ["many", "near", "far", "ways", "_fill", "_further_end", "_add_way", "_sides_before_ends", "_way_to", "_place_before"]
/-- a flow as it stands, but for what its lists hold -/
structure FlowOb (ka : Str → Addr) (H : Hp) (f nt lo rm en : Addr) (cv : V) : Prop where
  ex : ∃ dx fs, H f = some (.ins (ka "Flow") dx fs) ∧ fs.lookup ("net" : Str) = some (.ref nt) ∧ fs.lookup ("lot" : Str) = some (.ref lo) ∧ fs.lookup ("room" : Str) = some (.ref rm) ∧ fs.lookup ("ended" : Str) = some (.ref en) ∧ fs.lookup ("came" : Str) = some cv ∧ (∀ m ∈ flowMs, fs.lookup m = none) ∧ fs.length < 900
theorem FlowOb.keep {ka : Str → Addr} {H H' : Hp} {f nt lo rm en : Addr} {cv : V} (h : FlowOb ka H f nt lo rm en cv) (e : H' f = H f) : FlowOb ka H' f nt lo rm en cv := by
  obtain ⟨dx, fs, e1, r⟩ := h.ex
  exact ⟨dx, fs, by rw [e]; exact e1, r⟩
theorem FlowOb.same {ka : Str → Addr} {H H' : Hp} {f nt lo rm en : Addr} {cv : V} (s : Same H H') (h : FlowOb ka H f nt lo rm en cv) : FlowOb ka H' f nt lo rm en cv := by
  obtain ⟨dx, fs, e1, r⟩ := h.ex
  exact ⟨dx, fs, s _ _ e1, r⟩
theorem FlowOb.kp {ka : Str → Addr} {ex : List Addr} {H H' : Hp} {f nt lo rm en : Addr} {cv : V} (k : Kp ex H H') (n : f ∉ ex) (h : FlowOb ka H f nt lo rm en cv) : FlowOb ka H' f nt lo rm en cv := by
  obtain ⟨dx, fs, e1, r⟩ := h.ex
  exact ⟨dx, fs, k _ _ n e1, r⟩
/-- .. with another dict of what came -/
theorem FlowOb.came {ka : Str → Addr} {H : Hp} {f nt lo rm en : Addr} {cv : V} (h : FlowOb ka H f nt lo rm en cv) {dx : Addr} {fs : List (Str × V)} (e : H f = some (.ins (ka "Flow") dx fs)) (v : V) : FlowOb ka (upd H f (.ins (ka "Flow") dx (putF "came" v fs))) f nt lo rm en v := by
  obtain ⟨dx', fs', e1, l1, l2, l3, l4, l5, l6, l7⟩ := h.ex
  rw [e] at e1
  cases e1
  refine ⟨dx, _, upd_same, ?_, ?_, ?_, ?_, ?_, fun m hm => ?_, ?_⟩
  · rw [lookup_putF, if_neg (by decide)]; exact l1
  · rw [lookup_putF, if_neg (by decide)]; exact l2
  · rw [lookup_putF, if_neg (by decide)]; exact l3
  · rw [lookup_putF, if_neg (by decide)]; exact l4
  · rw [lookup_putF, if_pos rfl]
  · have : m ≠ "came" := fun z => by rw [z] at hm; revert hm; decide
    rw [lookup_putF, if_neg this]
    exact l6 m hm
  · rw [putF_len_in l5]
    exact l7
def cameD (L : List (Nat × Option Nat)) : List (Key × V) := L.map fun e => ((Sum.inl (e.1 : Int) : Key), match e.2 with
  | none => V.non
  | some p => vN p)
theorem cameD_keyed (L : List (Nat × Option Nat)) : Keyed (cameD L) (keysT L) := by
  unfold Keyed cameD keysT
  rw [List.map_map, List.map_map]
  rfl
theorem cameD_len (L : List (Nat × Option Nat)) : (cameD L).length = L.length := List.length_map ..
theorem cameD_val (L : List (Nat × Option Nat)) (x : Nat) : (valV (cameD L) (Sum.inl (x : Int) : Key)).isSome = decide (x ∈ keysT L) := keyed_val (cameD_keyed L) x
theorem cameD_put (L : List (Nat × Option Nat)) (x : Nat) (o : Option Nat) (h : x ∉ keysT L) : putK (cameD L) (Sum.inl (x : Int) : Key) (match o with | none => V.non | some p => vN p) = cameD (L ++ [(x, o)]) := by
  have hv : valV (cameD L) (Sum.inl (x : Int) : Key) = none := by
    have := cameD_val L x
    rw [decide_eq_false h] at this
    cases e : valV (cameD L) (Sum.inl (x : Int) : Key) with
    | none => rfl
    | some v => rw [e] at this; cases this
  rw [putK_new _ hv]
  unfold cameD
  rw [List.map_append]
  rfl
theorem cameD_get : ∀ {L : List (Nat × Option Nat)} {x : Nat} {o : Option Nat}, (keysT L).Nodup → (x, o) ∈ L → valV (cameD L) (Sum.inl (x : Int) : Key) = some (match o with | none => V.non | some p => vN p)
  | [], _, _, _, h => nomatch h
  | e :: L, x, o, nd, h => by
    obtain ⟨n1, n2⟩ := List.nodup_cons.mp (show (e.1 :: keysT L).Nodup from nd)
    unfold valV cameD
    rw [List.map_cons, List.find?_cons]
    rcases List.mem_cons.mp h with q | h
    · subst q
      simp
    · have ih := cameD_get n2 h
      unfold valV cameD at ih
      have : decide (((Sum.inl (e.1 : Int) : Key)) = Sum.inl (x : Int)) = false := by
        refine decide_eq_false fun q => n1 ?_
        have := Sum.inl.inj q
        have : e.1 = x := by omega
        rw [this]
        exact List.mem_map.mpr ⟨_, h, rfl⟩
      simp only [this]
      exact ih
/-- what a look for one more end finds -/
inductive Found (C : Chart) (S room E : List Nat) : V → List (Nat × Option Nat) → Prop
  | none {L : List (Nat × Option Nat)} : Closed C S room E L → Found C S room E .non L
  | some {L : List (Nat × Option Nat)} {w : Nat} : Tree (netA C) room (srcs S) L → 2 * w ∈ keysT L → w ∈ C.wished → w ∉ E → Found C S room E (vN (2 * w)) L
/-- while it looks -/
structure Looking (C : Chart) (S room E : List Nat) (L : List (Nat × Option Nat)) (W : List Nat) (busy : Nat → Prop) : Prop where
  tree : Tree (netA C) room (srcs S) L
  src : ∀ a ∈ S, 2 * a + 1 ∈ keysT L
  wait : ∀ u ∈ W, u ∈ keysT L
  done : ∀ u ∈ keysT L, u ∉ W → ¬ busy u → ∀ p v, Goes (netA C) p u v → 0 < room.getD p 0 → v ∈ keysT L
  noEnd : ∀ w ∈ C.wished, 2 * w ∈ keysT L → w ∈ E
theorem key_lt {C : Chart} {S room : List Nat} {L : List (Nat × Option Nat)} (ok : C.Ok) (inS : ∀ a ∈ S, a < C.n) (t : Tree (netA C) room (srcs S) L) : ∀ v ∈ keysT L, v < 2 * C.n :=
  t.all (fun v hv => by
    obtain ⟨a, ha, rfl⟩ := srcs_mem.mp hv
    have := inS a ha
    omega) fun p u v g _ _ => by
    obtain ⟨i, a, ha, ⟨_, _, e⟩ | ⟨_, _, e⟩⟩ := goes_is g
    · rw [e]; exact (net_lt ok a (List.mem_of_getElem? ha)).2
    · rw [e]; exact (net_lt ok a (List.mem_of_getElem? ha)).1
theorem tree_len {C : Chart} {S room : List Nat} {L : List (Nat × Option Nat)} (ok : C.Ok) (inS : ∀ a ∈ S, a < C.n) (t : Tree (netA C) room (srcs S) L) : L.length ≤ 2 * C.n := by
  have := len_of_lt (keysT L) (2 * C.n) t.nd (key_lt ok inS t)
  unfold keysT at this
  rwa [List.length_map] at this
section
variable {P : Program} {w : World} {K : PySem.W.Frag} {mg : Str → Option Value} {base : Heap} {ka : Str → Addr}
def sp_Flow__further_end (K : PySem.W.Frag) (ka : Str → Addr) : Sp := fun vs H Q _ => ∃ (f nt lo rm en c bl tl rl fl : Addr) (ls : List Addr) (cv : V) (C : Chart) (S room E : List Nat), vs = [.ref f] ∧ nt ≠ f ∧ FlowOb ka H f nt lo rm en cv ∧ NetAt ka H nt c C bl tl rl fl ls ∧ C.Ok ∧ SqT K H lo (S.map vN) ∧ S.Nodup ∧ (∀ a ∈ S, a < C.n) ∧
  H rm = some (.lst (room.map vN)) ∧ room.length = 2 * (netA C).length ∧ H en = some (.dK (keysOf (twos E))) ∧ ∀ (v : V) (cm : Addr) (L : List (Nat × Option Nat)) (H' : Hp), H cm = none → H' cm = some (.dK (cameD L)) → FlowOb ka H' f nt lo rm en (.ref cm) → Kp [f] H H' → Found C S room E v L → Q v H'
theorem calm_Flow__further_end (T : Txt mg) (D : DefM K ka "Flow" "_further_end" "Flow._further_end" s_Flow__further_end) (k_Net : Kls K mg ka "Net") (q_Net : Attrs K ka "Net" netFs) (k_Flow : Kls K mg ka "Flow") (q_Flow : Attrs K ka "Flow" flowFs) (c_leaving : Cal P w K mg base 1 "leaving" sp_leaving) :
    CalM P w K mg base 2 ka "Flow" "_further_end" (sp_Flow__further_end K ka) := by
  refine calm_of D sc_Flow__further_end (fun _ _ _ _ _ _ us hl => match us, hl with | [_], _ => rfl) (fun vs H Q E h => ?_) (fun f cdv A outer s H vs Q E hr h => ?_)
  · obtain ⟨f, nt, lo, rm, en, c, bl, tl, rl, fl, ls, cv, C, S, room, E, rfl, _⟩ := h
    rfl
  · obtain ⟨f, nt, lo, rm, en, c, bl, tl, rl, fl, ls, cv, C, S, room, Ed, rfl, nN, hO, hN, ok, hS, ndS, inS, hRm, lRm, hEn, q⟩ := h
    have hu := hu_of hr
    have hU := hr.units
    have n60 := ok.n60
    have cN := k_Net.cl
    have cF := k_Flow.cl
    have aNet : NoAttr K (ka "Flow") "net" := q_Flow _ (by decide)
    have aLot : NoAttr K (ka "Flow") "lot" := q_Flow _ (by decide)
    have aRoom : NoAttr K (ka "Flow") "room" := q_Flow _ (by decide)
    have aEnd : NoAttr K (ka "Flow") "ended" := q_Flow _ (by decide)
    have aCame : NoAttr K (ka "Flow") "came" := q_Flow _ (by decide)
    have aB : NoAttr K (ka "Net") "beside" := q_Net _ (by decide)
    have aT : NoAttr K (ka "Net") "toward" := q_Net _ (by decide)
    have aF : NoAttr K (ka "Net") "finish" := q_Net _ (by decide)
    have lS := len_of_lt S C.n ndS inS
    refine ⟨_, (pss_cons (ps_set (i := 1) sc_Flow__further_end.nd rfl (Or.inl rfl) (show PE _ _ (tFld K _ _) from pe_fldD (pv 0)))
      (pss_cons (ps_setDc (i := 2) (own := [("place", 7)]) rfl sc_Flow__further_end.nd rfl rfl (sw_trueD rfl rfl rfl (by decide +kernel)) (show PI _ _ _ (iTup K _) from pi_tup (show PE _ _ (tFld K _ _) from pe_fldD (pv 0))) (blkOk_by (N := ["self", "net", "came", "waiting", "side", "path", "other", "place"]) (sc := L2.defScope s_Flow__further_end) (by decide +kernel)) (fun _ _ _ _ _ => (pg_name (i := 7) sc_Flow__further_end.nd rfl (Or.inl rfl))) (fun _ _ _ _ _ => pts_nil) (fun _ _ _ _ _ => (pe_c c_leaving hr (by decide) (by rfl) (pa_cons (pv 7) pa_nil))) (fun _ _ _ _ _ => pe_non))
      (pss_cons (ps_fld (pv 0) (pv 2) rfl)
      (pss_cons (ps_set (i := 3) sc_Flow__further_end.nd rfl (Or.inl rfl) (pe_callTy (call_listD rfl) (by rfl) T.list (by decide +kernel) (pa_cons (pv 2) pa_nil)))
      (pss_cons (ps_while PassesOwn.never (pt_truth (pv 3) (by intro _; rfl)) (pss_cons (ps_set (i := 4) sc_Flow__further_end.nd rfl (Or.inl rfl) (pe_bm0 PySem.F.plainAttrs_list PySem.F.slot_list_pop PySem.F.type_list_pop mt_pop (pv 3)))
        (pss_one (ps_for PassesOwn.never rfl (show PI _ _ _ (iList K _) from pi_list (pe_ix (show IxR _ (rIxL K) from ix_list) (show PE _ _ (tFld K _ _) from pe_fldD (pv 1)) (pv 4) (fun _ _ => rfl))) (pg_name (i := 5) sc_Flow__further_end.nd rfl (Or.inl rfl)) (pss_cons (ps_set (i := 6) sc_Flow__further_end.nd rfl (Or.inl rfl) (pe_ix (show IxR _ (rIxL K) from ix_list) (show PE _ _ (tFld K _ _) from pe_fldD (pv 1)) (pv 5) (fun _ _ => rfl)))
          (pss_one (ps_if (PW.pt (pw_and (pt_cmp (pc_dnotin hu (pv 6) (pv 2))) (pw_and1 (pt_cmpR op_gt (pe_ix (show IxR _ (rIxL K) from ix_list) (show PE _ _ (tFld K _ _) from pe_fldD (pv 0)) (pv 5) (fun _ _ => rfl)) pe_int (nomark _))))) (pss_cons (ps_dput hu (pv 2) (pv 6) (pv 5) rfl)
            (pss_cons (ps_if (PW.pt (pw_and (pt_cmp (pc_din hu (pv 6) (show PE _ _ (tFld K _ _) from pe_fldD (pv 1)))) (pw_and1 (pt_cmp (pc_dnotin hu (pv 6) (show PE _ _ (tFld K _ _) from pe_fldD (pv 0))))))) (pss_one (ps_ret (pv 6))) pss_nil)
            (pss_one (ps_expr (pe_bm PySem.F.plainAttrs_list PySem.F.slot_list_append PySem.F.type_list_append mt_append (pv 3) (pa_cons (pv 6) pa_nil)))))) pss_nil)))))))
      (pss_one (ps_ret pe_non))))))), ?_⟩
    obtain ⟨dxF, fsF, eF, l1, l2, l3, l4, l5, l6, l7⟩ := id hO.ex
    refine ⟨_, rfl, f, _, dxF, fsF, _, rfl, eF, cF, aNet, l1, ?_⟩
    refine ⟨_, rfl, f, _, dxF, fsF, _, rfl, eF, cF, aLot, l2, lo, rfl, ⟨_, hS⟩, fun cm hcm => ?_⟩
    refine dc_tup (K := K) (xs := S.map vN) (fun i H' => Kp [cm] H H' ∧ ∃ L, H' cm = some (.dK (cameD L)) ∧ Tree (netA C) room (srcs S) L ∧ keysT L = srcs (S.take i))
      ⟨(fun b o nb e' => by rw [upd_ne (ne_of_none e' hcm)]; exact e'), [], upd_same, .nil, rfl⟩ (fun i H' _ ⟨k, _⟩ => Same.sqT (kp_same hcm k) hS) ?_ ?_
    · rintro i x H1 hx ⟨k1, L, hL, tr, ek⟩
      obtain ⟨a, ha, rfl⟩ := get_map hx
      have haS := List.mem_of_getElem? ha
      have han := inS a haS
      have tl' := tree_len ok inS tr
      refine ⟨rfl, ?_⟩
      have nk : 2 * a + 1 ∉ keysT L := fun m => by
        rw [ek] at m
        obtain ⟨b, hb, e⟩ := srcs_mem.mp m
        have : a = b := by omega
        subst this
        obtain ⟨j, hj⟩ := List.getElem?_of_mem hb
        rw [List.getElem?_take] at hj
        split at hj
        · rename_i lt
          have iS : i < S.length := (List.getElem?_eq_some_iff.mp ha).1
          have := (List.getElem?_inj (by omega) ndS).mp (hj.trans ha.symm)
          omega
        · cases hj
      refine ⟨_, rfl, a, rfl, by omega, _, (Sum.inl ((2 * a + 1 : Nat) : Int) : Key), rfl, hL, by rw [cameD_len, sizeLine_eq]; omega, kp_put k1, L ++ [(2 * a + 1, none)], ?_, .src tr (srcs_mem.mpr ⟨a, haS, rfl⟩) nk, ?_⟩
      · rw [upd_same, ← cameD_put L _ none nk]
      · rw [keysT_app, ek, take_more ha]
        unfold srcs
        rw [List.map_append]
        rfl
    rintro H1 ⟨k1, L0, hL0, tr0, ek0⟩
    rw [List.length_map, List.take_length] at ek0
    have s1 := kp_same hcm k1
    refine at_name ?_
    dsimp only
    refine at_seq ⟨_, rfl, _, rfl, f, _, dxF, fsF, rfl, s1 _ _ eF, cF, aCame, by omega, ?_⟩
    have hO2 := (hO.same s1).came (s1 _ _ eF) (.ref cm)
    generalize eH2 : upd H1 f _ = H2 at hO2
    have nfc : cm ≠ f := (ne_of_none eF hcm).symm
    have k2 : Kp [f] H1 H2 := by rw [← eH2]; exact kp_lst
    have at2 : ∀ {z : Addr} {o : HO}, z ≠ f → H z = some o → H2 z = some o := fun n e => k2 _ _ (by simpa using n) (s1 _ _ e)
    have hL2 : H2 cm = some (.dK (cameD L0)) := k2 _ _ (by simpa using nfc) hL0
    clear eH2
    have off : ∀ {z : Addr} {o : HO}, H z = some o → (∀ dx fs, o ≠ .ins (ka "Flow") dx fs) → z ≠ f := fun e1 e2 e3 => by
      rw [e3, eF] at e1
      exact e2 _ _ (Option.some.inj e1).symm
    have mt0 := tree_len ok inS tr0
    refine ⟨_, rfl, cm, _, rfl, .inl hL2, fun wt hwt => ?_⟩
    have ekv : ((cameD L0).map fun kv => kV kv.1) = (keysT L0).map vN := by
      unfold cameD keysT
      rw [List.map_map, List.map_map]
      rfl
    rw [ekv]
    generalize eH3 : upd H2 wt _ = H3
    have s3 : Same H2 H3 := by rw [← eH3]; exact same_upd hwt
    have hW3 : H3 wt = some (.lst ((keysT L0).map vN)) := by rw [← eH3]; exact upd_same
    clear eH3
    have hL3 := s3 _ _ hL2
    have hO3 := hO2.same s3
    have ncw : cm ≠ wt := ne_of_none hL2 hwt
    have at3 : ∀ {z : Addr} {o : HO}, z ≠ f → H z = some o → H3 z = some o := fun n e => s3 _ _ (at2 n e)
    have old : ∀ {z : Addr} {o : HO}, z ≠ f → H z = some o → z ∉ [cm, wt] := fun {z o} n e m => by
      simp only [List.mem_cons, List.not_mem_nil, or_false] at m
      rcases m with h | h
      · exact ne_of_none e hcm h
      · exact ne_of_none (at2 n e) hwt h
    have nff : f ∉ [cm, wt] := fun m => by
      simp only [List.mem_cons, List.not_mem_nil, or_false] at m
      obtain ⟨dx2, fs2, e2, _⟩ := hO2.ex
      rcases m with h | h
      · exact nfc h.symm
      · exact ne_of_none e2 hwt h
    have stay : ∀ {H' : Hp}, Kp [cm, wt] H3 H' → ∀ {z : Addr} {o : HO}, z ≠ f → H z = some o → H' z = some o := fun k _ _ n e => k _ _ (old n e) (at3 n e)
    have fin : ∀ {H' : Hp} {v : V} {L : List (Nat × Option Nat)}, Kp [cm, wt] H3 H' → H' cm = some (.dK (cameD L)) → Found C S room Ed v L → Q v H' := fun {H' v L} k h fd =>
      q v cm L H' hcm h (hO3.kp k nff) (fun z o nz ez => stay k (by simpa using nz) ez) fd
    obtain ⟨dxN, fsN, eN, _, lB, lT, _, lFn⟩ := hN.ob
    have lRoom := hRm
    have offL : ∀ {z : Addr} {xs : List V}, H z = some (.lst xs) → z ≠ f := fun e => off e fun _ _ z => nomatch z
    have offD : ∀ {z : Addr} {xs : List (Key × V)}, H z = some (.dK xs) → z ≠ f := fun e => off e fun _ _ z => nomatch z
    have netB : (netA C).length ≤ 300 := by
      have := net_len C
      have := ok.many
      omega
    refine ⟨fun m σ H' => ∃ (L : List (Nat × Option Nat)) (W : List Nat) (v4 v5 v6 v7 : Option V), σ = [some (.ref f), some (.ref nt), some (.ref cm), some (.ref wt), v4, v5, v6, v7] ∧ Kp [cm, wt] H3 H' ∧ H' cm = some (.dK (cameD L)) ∧ H' wt = some (.lst (W.map vN)) ∧ Looking C S room Ed L W (fun _ => False) ∧ W.length ≤ L.length ∧ (2 * C.n - L.length) + W.length = m, ⟨_, L0, keysT L0, _, _, _, _, rfl, Kp.refl _ _, hL3, hW3, ⟨tr0, fun a ha => by rw [ek0]; exact srcs_mem.mpr ⟨a, ha, rfl⟩, fun u hu => hu, fun u hu nu => absurd hu nu, fun w _ hw => ?_⟩, by unfold keysT; rw [List.length_map]; exact Nat.le_refl _, rfl⟩, ?_⟩
    · rw [ek0] at hw
      obtain ⟨a, _, e⟩ := srcs_mem.mp hw
      omega
    rintro m σ H4 ⟨L, W, v4, v5, v6, v7, rfl, k4, hL4, hW4, lk, lw, em⟩
    refine ⟨_, rfl, _, .inl ⟨_, .inl (.inl hW4), rfl⟩, ?_⟩
    by_cases he : W = []
    · subst he
      refine iteF ?_
      exact fin k4 hL4 (.none ⟨lk.tree, lk.src, fun u hu p v g r => lk.done u hu List.not_mem_nil id p v g r, lk.noEnd⟩)
    have hb : (!(W.map vN).isEmpty) = true := by
      cases W with
      | nil => exact absurd rfl he
      | cons a W => rfl
    rw [hb]
    refine iteT ⟨fun σ' H' => ∃ m', m' < m ∧ ∃ (L : List (Nat × Option Nat)) (W : List Nat) (v4 v5 v6 v7 : Option V), σ' = [some (.ref f), some (.ref nt), some (.ref cm), some (.ref wt), v4, v5, v6, v7] ∧ Kp [cm, wt] H3 H' ∧ H' cm = some (.dK (cameD L)) ∧ H' wt = some (.lst (W.map vN)) ∧ Looking C S room Ed L W (fun _ => False) ∧ W.length ≤ L.length ∧ (2 * C.n - L.length) + W.length = m', fun _ _ h => h, ?_⟩
    obtain ⟨W0, x, rfl⟩ : ∃ W0 x, W = W0 ++ [x] := ⟨W.dropLast, W.getLast he, (List.dropLast_concat_getLast he).symm⟩
    rw [List.length_append, List.length_singleton] at lw em
    have hlast : ((W0 ++ [x]).map vN)[((W0 ++ [x]).map vN).length - 1]? = some (vN x) := by simp
    refine ⟨_, rfl, .inl ⟨rfl, _, .inl (.inl hW4)⟩, wt, _, _, rfl, rfl, hW4, hlast, ?_⟩
    have hdl : ((W0 ++ [x]).map vN).dropLast = W0.map vN := by simp
    rw [hdl]
    have hxk : x ∈ keysT L := lk.wait x (by simp)
    have hxn := key_lt ok inS lk.tree x hxk
    obtain ⟨l, hl⟩ : ∃ l, ls[x]? = some l := ⟨_, List.getElem?_eq_getElem (by rw [hN.len]; exact hxn)⟩
    refine at_name ?_
    dsimp only
    generalize eH5 : upd H4 wt _ = H5
    have f5 : ∀ z, z ≠ wt → H5 z = H4 z := fun z nz => by rw [← eH5]; exact upd_ne nz
    have hW5 : H5 wt = some (.lst (W0.map vN)) := by rw [← eH5]; exact upd_same
    clear eH5
    have k5 : Kp [cm, wt] H3 H5 := fun z o nz ez => by
      rw [f5 z (fun y => nz (by rw [y]; simp))]
      exact k4 z o nz ez
    have hL5 : H5 cm = some (.dK (cameD L)) := by rw [f5 cm ncw]; exact hL4
    have goesx : ∀ {p : Nat}, p ∈ bes x 0 (netA C) → ∃ v, Goes (netA C) p x v := fun h => bes_goes.mp h
    have eN5 := stay k5 nN eN
    refine ⟨_, rfl, nt, _, dxN, fsN, _, rfl, eN5, cN, aB, lB, _, rfl, bl, _, _, _, rfl, rfl, .inl (.inl (stay k5 (offL hN.top) hN.top)), atI_nat (v := V.ref l) (by rw [List.getElem?_map, hl]; rfl), l, rfl, ⟨_, .inl (.inl (stay k5 (offL (hN.each x l hl)) (hN.each x l hl)))⟩, for_list (K := K) (xs := (bes x 0 (netA C)).map vN) (fun j σ' H' => ∃ (L : List (Nat × Option Nat)) (W : List Nat) (v5 v6 v7 : Option V), σ' = [some (.ref f), some (.ref nt), some (.ref cm), some (.ref wt), some (vN x), v5, v6, v7] ∧ Kp [cm, wt] H3 H' ∧ H' cm = some (.dK (cameD L)) ∧ H' wt = some (.lst (W.map vN)) ∧ x ∈ keysT L ∧ Looking C S room Ed L W (fun u => u = x) ∧ (∀ p ∈ (bes x 0 (netA C)).take j, ∀ v, Goes (netA C) p x v → 0 < room.getD p 0 → v ∈ keysT L) ∧ W.length ≤ L.length ∧ (2 * C.n - L.length) + W.length + 1 = m) ?_ ?_ ?_ ?_⟩
    · refine ⟨L, W0, _, _, _, rfl, k5, hL5, hW5, hxk, ⟨lk.tree, lk.src, fun u hu => lk.wait u (List.mem_append_left _ hu), fun u hu nu nx p v g r => lk.done u hu (fun m => (List.mem_append.mp m).elim nu fun m => nx (List.mem_singleton.mp m)) id p v g r, lk.noEnd⟩, fun p h => by simp at h, by omega, by omega⟩
    · rintro j σ' H' _ ⟨_, _, _, _, _, _, k, _⟩
      exact .inl (.inl (stay k (offL (hN.each x l hl)) (hN.each x l hl)))
    · rintro j y σ' H6 hy ⟨L, W, v5, v6, v7, rfl, k6, hL6, hW6, hxk, lk, dn, lw, em⟩
      obtain ⟨p, hp, rfl⟩ := get_map hy
      obtain ⟨v, g⟩ := goesx (List.mem_of_getElem? hp)
      have pl := goes_lt g
      have hT6 := stay k6 (offL hN.tow) hN.tow
      have eN6 := stay k6 nN eN
      obtain ⟨dx6, fs6, eF6, _, _, l36, l46, _⟩ := (hO3.kp k6 nff).ex
      have tkj : (bes x 0 (netA C)).take (j + 1) = (bes x 0 (netA C)).take j ++ [p] := take_more hp
      refine at_name ?_
      refine ⟨_, rfl, nt, _, dxN, fsN, _, rfl, eN6, cN, aT, lT, _, rfl, tl, _, _, _, rfl, rfl, .inl (.inl hT6), atI_nat (v := vN v) (by rw [List.getElem?_map, g.1]; rfl), ?_⟩
      refine at_name ?_
      dsimp only
      have pass : (v ∈ keysT L ∨ room.getD p 0 = 0) → ∃ (L : List (Nat × Option Nat)) (W : List Nat) (u5 u6 u7 : Option V), [some (V.ref f), some (.ref nt), some (.ref cm), some (.ref wt), some (vN x), some (vN p), some (vN v), v7] = [some (V.ref f), some (.ref nt), some (.ref cm), some (.ref wt), some (vN x), u5, u6, u7] ∧ Kp [cm, wt] H3 H6 ∧ H6 cm = some (.dK (cameD L)) ∧ H6 wt = some (.lst (W.map vN)) ∧ x ∈ keysT L ∧ Looking C S room Ed L W (fun u => u = x) ∧ (∀ p ∈ (bes x 0 (netA C)).take (j + 1), ∀ v, Goes (netA C) p x v → 0 < room.getD p 0 → v ∈ keysT L) ∧ W.length ≤ L.length ∧ (2 * C.n - L.length) + W.length + 1 = m := fun h => by
        refine ⟨L, W, _, _, _, rfl, k6, hL6, hW6, hxk, lk, fun p' hp' v' g' r' => ?_, lw, em⟩
        rw [tkj] at hp'
        rcases List.mem_append.mp hp' with hp' | hp'
        · exact dn p' hp' v' g' r'
        · have := List.mem_singleton.mp hp'
          subst this
          rw [← (goes_one g g').2]
          rcases h with h | h
          · exact h
          · omega
      refine ⟨_, rfl, _, rfl, cm, _, rfl, DGet.k (k := Sum.inl (v : Int)) hL6, _, rfl, ?_⟩
      rw [cameD_val]
      by_cases hv : v ∈ keysT L
      · rw [decide_eq_true hv]
        exact iteF (pass (.inl hv))
      rw [decide_eq_false hv]
      refine iteT ?_
      have hRm6 := stay k6 (offL hRm) hRm
      have rget : room[p]? = some (room.getD p 0) := by
        rw [List.getD_eq_getElem?_getD, List.getElem?_eq_getElem (by omega)]
        rfl
      refine ⟨_, rfl, f, _, dx6, fs6, _, rfl, eF6, cF, aRoom, l36, _, rfl, rm, _, _, _, rfl, rfl, .inl (.inl hRm6), atI_nat (v := vN (room.getD p 0)) (by rw [List.getElem?_map, rget]; rfl), _, _, rfl, rfl, _, rfl, ite_any (fun hr' => ?_) (fun hr' => pass (.inr ?_))⟩
      · have r0 : 0 < room.getD p 0 := by
          have z : (room.getD p 0 : Int) > 0 := of_decide_eq_true hr'
          omega
        have tr' : Tree (netA C) room (srcs S) (L ++ [(v, some p)]) := .arc lk.tree g hxk r0 hv
        have lt' := tree_len ok inS tr'
        rw [List.length_append, List.length_singleton] at lt'
        refine ⟨_, rfl, _, rfl, _, rfl, cm, _, rfl, DPut.k (k := Sum.inl (v : Int)) hL6 (by rw [cameD_len, sizeLine_eq]; omega), ?_⟩
        have eput := cameD_put L v (some p) hv
        dsimp only at eput
        rw [eput]
        generalize eH7 : upd H6 cm _ = H7
        have f7 : ∀ z, z ≠ cm → H7 z = H6 z := fun z nz => by rw [← eH7]; exact upd_ne nz
        have hL7 : H7 cm = some (.dK (cameD (L ++ [(v, some p)]))) := by rw [← eH7]; exact upd_same
        clear eH7
        have k7 : Kp [cm, wt] H3 H7 := fun z o nz ez => by
          rw [f7 z (fun y => nz (by rw [y]; simp))]
          exact k6 z o nz ez
        have hW7 : H7 wt = some (.lst (W.map vN)) := by rw [f7 wt ncw.symm]; exact hW6
        have kv : v ∈ keysT (L ++ [(v, some p)]) := by rw [keysT_app]; simp
        have up : ∀ u, u ∈ keysT L → u ∈ keysT (L ++ [(v, some p)]) := fun u h => by rw [keysT_app]; exact List.mem_append_left _ h
        have em' : 2 * C.n - (L.length + 1) + (W.length + 1) + 1 = m := by
          clear pass
          omega
        have inv : (∀ w ∈ C.wished, v = 2 * w → w ∈ Ed) → ∃ (L : List (Nat × Option Nat)) (W2 : List Nat) (u5 u6 u7 : Option V), [some (V.ref f), some (.ref nt), some (.ref cm), some (.ref wt), some (vN x), some (vN p), some (vN v), v7] = [some (V.ref f), some (.ref nt), some (.ref cm), some (.ref wt), some (vN x), u5, u6, u7] ∧ Kp [cm, wt] H3 (upd H7 wt (.lst (W.map vN ++ [vN v]))) ∧ (upd H7 wt (.lst (W.map vN ++ [vN v]))) cm = some (.dK (cameD L)) ∧ (upd H7 wt (.lst (W.map vN ++ [vN v]))) wt = some (.lst (W2.map vN)) ∧ x ∈ keysT L ∧ Looking C S room Ed L W2 (fun u => u = x) ∧ (∀ p ∈ (bes x 0 (netA C)).take (j + 1), ∀ v, Goes (netA C) p x v → 0 < room.getD p 0 → v ∈ keysT L) ∧ W2.length ≤ L.length ∧ (2 * C.n - L.length) + W2.length + 1 = m := fun ne => by
          refine ⟨L ++ [(v, some p)], W ++ [v], _, _, _, rfl, fun z o nz ez => ?_, by rw [upd_ne ncw]; exact hL7, by rw [upd_same, List.map_append]; rfl, up x hxk, ⟨tr', fun a ha => up _ (lk.src a ha), fun u hu => ?_, fun u hu nu nx p' v' g' r' => ?_, fun w hw hk => ?_⟩, fun p' hp' v' g' r' => ?_, by rw [List.length_append, List.length_append]; exact Nat.add_le_add_right lw 1, by rw [List.length_append, List.length_append, List.length_singleton, List.length_singleton]; exact em'⟩
          · rw [upd_ne (fun y => nz (by rw [y]; simp))]
            exact k7 z o nz ez
          · rcases List.mem_append.mp hu with hu | hu
            · exact up u (lk.wait u hu)
            · rw [List.mem_singleton.mp hu]
              exact kv
          · rw [keysT_app] at hu
            rcases List.mem_append.mp hu with hu | hu
            · exact up _ (lk.done u hu (fun m => nu (List.mem_append_left _ m)) nx p' v' g' r')
            · exact absurd (List.mem_append_right _ hu) nu
          · rw [keysT_app] at hk
            rcases List.mem_append.mp hk with hk | hk
            · exact lk.noEnd w hw hk
            · exact ne w hw (List.mem_singleton.mp hk).symm
          · rw [tkj] at hp'
            rcases List.mem_append.mp hp' with hp' | hp'
            · exact up _ (dn p' hp' v' g' r')
            · have := List.mem_singleton.mp hp'
              subst this
              rw [← (goes_one g g').2]
              exact kv
        have eN7 := stay k7 nN eN
        have hFn7 := stay k7 (offD hN.fin) hN.fin
        have hEn7 := stay k7 (offD hEn) hEn
        obtain ⟨dx7, fs7, eF7, _, _, _, l47, _⟩ := (hO3.kp k7 nff).ex
        have small : W.length < sizeLine := by rw [sizeLine_eq]; omega
        refine ⟨_, rfl, _, rfl, nt, _, dxN, fsN, _, rfl, eN7, cN, aF, lFn, fl, _, rfl, DGet.k (k := Sum.inl (v : Int)) hFn7, _, rfl, ?_⟩
        rw [keysOf_val]
        by_cases hf : v ∈ twos C.wished
        · rw [if_pos hf]
          refine iteT ?_
          obtain ⟨w, hw, ew⟩ : ∃ w ∈ C.wished, v = 2 * w := by
            unfold twos at hf
            obtain ⟨w, hw, e⟩ := List.mem_map.mp hf
            exact ⟨w, hw, e.symm⟩
          refine ⟨_, rfl, _, rfl, f, _, dx7, fs7, _, rfl, eF7, cF, aEnd, l47, en, _, rfl, DGet.k (k := Sum.inl (v : Int)) hEn7, _, rfl, ?_⟩
          rw [keysOf_val]
          by_cases hE : v ∈ twos Ed
          · rw [if_pos hE]
            refine iteF ?_
            refine ⟨_, rfl, .inl ⟨rfl, _, .inl (.inl hW7)⟩, _, rfl, wt, _, _, rfl, rfl, hW7, by rw [List.length_map]; exact small, inv fun w' _ e => ?_⟩
            rw [e] at hE
            exact twos_mem.mp hE
          · rw [if_neg hE]
            refine iteT ⟨_, rfl, ?_⟩
            rw [ew] at kv hE hL7 tr' ⊢
            exact fin k7 hL7 (.some tr' kv hw fun m => hE (twos_mem.mpr m))
        · rw [if_neg hf]
          refine iteF ?_
          refine ⟨_, rfl, .inl ⟨rfl, _, .inl (.inl hW7)⟩, _, rfl, wt, _, _, rfl, rfl, hW7, by rw [List.length_map]; exact small, inv fun w' hw' e => ?_⟩
          rw [e] at hf
          exact absurd (twos_mem.mpr hw') hf
      · have z := of_decide_eq_false hr'
        have z : ¬ ((room.getD p 0 : Int) > 0) := z
        omega
    · rintro σ' H6 ⟨L, W, v5, v6, v7, rfl, k6, hL6, hW6, hxk, lk, dn, lw, em⟩
      rw [List.length_map, List.take_length] at dn
      refine ⟨_, by omega, L, W, _, _, _, _, rfl, k6, hL6, hW6, ⟨lk.tree, lk.src, lk.wait, fun u hu nu _ p v g r => ?_, lk.noEnd⟩, lw, rfl⟩
      by_cases h : u = x
      · subst h
        exact dn p (bes_goes.mpr ⟨v, g⟩) v g r
      · exact lk.done u hu nu h p v g r
end
end Ft

set_option Elab.async false
set_option linter.all false
set_option maxRecDepth 100000
set_option maxHeartbeats 8000000
namespace Ft
open PySem PySem.Spec PyProof.Rows L2
theorem bitXor_xo : ∀ p : Fin 1024, PySem.Builtin.bitXor ((p.1 : Nat) : Int) 1 = ((xo p.1 : Nat) : Int) := by decide +kernel
theorem xor_at {p : Nat} (h : p < 1024) : PySem.Builtin.bitXor (p : Int) 1 = ((xo p : Nat) : Int) := bitXor_xo ⟨p, h⟩
theorem NetAt.kp {ka : Str → Addr} {ex : List Addr} {H H' : Hp} {p c : Addr} {C : Chart} {bl tl rl fl : Addr} {ls : List Addr} (k : Kp ex H H') (n : ∀ z ∈ p :: bl :: tl :: rl :: fl :: ls, z ∉ ex) (h : NetAt ka H p c C bl tl rl fl ls) : NetAt ka H' p c C bl tl rl fl ls := by
  obtain ⟨dx, fs, e, r⟩ := h.ob
  exact ⟨⟨dx, fs, k _ _ (n _ (by simp)) e, r⟩, k _ _ (n _ (by simp)) h.top, h.len, fun a l q => k _ _ (n _ (by have := List.mem_of_getElem? q; simp [this])) (h.each a l q), k _ _ (n _ (by simp)) h.tow, k _ _ (n _ (by simp)) h.rms, k _ _ (n _ (by simp)) h.fin⟩
/-- a flow's own lists are none of its net's -/
structure ApartN (nt f rm en bl tl rl fl : Addr) (ls : List Addr) : Prop where
  nf : nt ≠ f
  rm : rm ∉ bl :: tl :: rl :: ls
  en : en ≠ fl
theorem ApartN.all {ka : Str → Addr} {H : Hp} {nt f rm en c bl tl rl fl : Addr} {ls : List Addr} {C : Chart} {xs : List V} {kvs : List (Key × V)} (a : ApartN nt f rm en bl tl rl fl ls) (h : NetAt ka H nt c C bl tl rl fl ls) (h1 : H rm = some (.lst xs)) (h2 : H en = some (.dK kvs)) : ∀ z ∈ nt :: bl :: tl :: rl :: fl :: ls, z ∉ [rm, en] := by
  obtain ⟨dx, fs, e, _⟩ := h.ob
  intro z hz m
  simp only [List.mem_cons, List.not_mem_nil, or_false] at m hz
  have noL : ∀ {z : Addr} {ys : List V}, H z = some (.lst ys) → z ≠ en := fun e q => by rw [q, h2] at e; cases e
  rcases m with m | m
  · rcases hz with q | q | q | q | q | q
    · rw [← q, m, h1] at e; cases e
    · exact a.rm (by rw [← m, q]; simp)
    · exact a.rm (by rw [← m, q]; simp)
    · exact a.rm (by rw [← m, q]; simp)
    · have := h.fin
      rw [← q, m, h1] at this
      cases this
    · exact a.rm (by rw [← m]; simp [q])
  · rcases hz with q | q | q | q | q | q
    · rw [← q, m, h2] at e; cases e
    · exact noL h.top (by rw [← q, m])
    · exact noL h.tow (by rw [← q, m])
    · exact noL h.rms (by rw [← q, m])
    · exact a.en (by rw [← q, m])
    · obtain ⟨i, hi⟩ := List.getElem?_of_mem q
      exact noL (h.each i z hi) m
def pathV : List Nat → V
  | [] => .non
  | p :: _ => vN p
theorem back_val {A : List Arc} {L : List (Nat × Option Nat)} (nd : (keysT L).Nodup) {v : Nat} {ps : List Nat} (h : Back A L v ps) : valV (cameD L) (Sum.inl (v : Int) : Key) = some (pathV ps) := by
  cases h with
  | src m => exact cameD_get nd m
  | arc m _ _ => exact cameD_get nd m
theorem set_vN (l : List Nat) (i v : Nat) : (l.map vN).set i (vN v) = (l.set i v).map vN := by rw [List.map_set]
theorem ixN_nat {n i : Nat} (h : i < n) : ixN n (i : Int) = some i := by
  have h1 : atI (List.range n) (i : Int) = some i := atI_nat (by rw [List.getElem?_range h])
  unfold atI at h1
  cases e : ixN (List.range n).length (i : Int) with
  | none => rw [e] at h1; cases h1
  | some j =>
    rw [e] at h1
    have h2 : (List.range n)[j]? = some i := h1
    obtain ⟨hj, e2⟩ := List.getElem?_eq_some_iff.mp h2
    rw [List.getElem_range] at e2
    rw [List.length_range] at e
    rw [e, e2]
section
variable {P : Program} {w : World} {K : PySem.W.Frag} {mg : Str → Option Value} {base : Heap} {ka : Str → Addr}
def sp_Flow__add_way (K : PySem.W.Frag) (ka : Str → Addr) : Sp := fun vs H Q _ => ∃ (f nt lo rm en cm c bl tl rl fl : Addr) (ls : List Addr) (C : Chart) (S room E : List Nat) (L : List (Nat × Option Nat)) (wd : Nat), vs = [.ref f, vN (2 * wd)] ∧ ApartN nt f rm en bl tl rl fl ls ∧ cm ≠ en ∧ FlowOb ka H f nt lo rm en (.ref cm) ∧ NetAt ka H nt c C bl tl rl fl ls ∧ C.Ok ∧
  H rm = some (.lst (room.map vN)) ∧ room.length = 2 * (netA C).length ∧ H en = some (.dK (keysOf (twos E))) ∧ E.length ≤ 100 ∧ H cm = some (.dK (cameD L)) ∧ Tree (netA C) room (srcs S) L ∧ 2 * wd ∈ keysT L ∧ wd ∉ E ∧
  ∀ (ps : List Nat) (H' : Hp), Back (netA C) L (2 * wd) ps → BackOk (netA C) room (keysT L) ps → H' rm = some (.lst ((pushes room ps).map vN)) → H' en = some (.dK (keysOf (twos (E ++ [wd])))) → Kp [rm, en] H H' → Q .non H'
theorem calm_Flow__add_way (T : Txt mg) (D : DefM K ka "Flow" "_add_way" "Flow._add_way" s_Flow__add_way) (k_Net : Kls K mg ka "Net") (q_Net : Attrs K ka "Net" netFs) (k_Flow : Kls K mg ka "Flow") (q_Flow : Attrs K ka "Flow" flowFs) : CalM P w K mg base 1 ka "Flow" "_add_way" (sp_Flow__add_way K ka) := by
  refine calm_of D sc_Flow__add_way (fun _ _ _ _ _ _ us hl => match us, hl with | [_, _], _ => rfl) (fun vs H Q E h => ?_) (fun f cdv A outer s H vs Q E hr h => ?_)
  · obtain ⟨f, nt, lo, rm, en, cm, c, bl, tl, rl, fl, ls, C, S, room, E, L, wd, rfl, _⟩ := h
    rfl
  · obtain ⟨f, nt, lo, rm, en, cm, c, bl, tl, rl, fl, ls, C, S, room, Ed, L, wd, rfl, ap, nce, hO, hN, ok, hRm, lRm, hEn, few, hCm, tr, hk, hnE, q⟩ := h
    have hu := hu_of hr
    have hU := hr.units
    have cN := k_Net.cl
    have cF := k_Flow.cl
    have aNet : NoAttr K (ka "Flow") "net" := q_Flow _ (by decide)
    have aRoom : NoAttr K (ka "Flow") "room" := q_Flow _ (by decide)
    have aEnd : NoAttr K (ka "Flow") "ended" := q_Flow _ (by decide)
    have aCame : NoAttr K (ka "Flow") "came" := q_Flow _ (by decide)
    have aT : NoAttr K (ka "Net") "toward" := q_Net _ (by decide)
    have netB : (netA C).length ≤ 300 := by
      have := net_len C
      have := ok.many
      have := ok.n60
      omega
    obtain ⟨ps, hb, bok, _⟩ := tree_back tr _ hk
    have nd := tr.nd
    have ap2 := ap.all hN hRm hEn
    obtain ⟨dxN, fsN, eN, _, _, lT, _, _⟩ := hN.ob
    obtain ⟨dxF, fsF, eF, l1, l2, l3, l4, l5, l6, l7⟩ := hO.ex
    have nfr : f ∉ [rm, en] := fun m => by
      simp only [List.mem_cons, List.not_mem_nil, or_false] at m
      rcases m with e | e
      · rw [e, hRm] at eF; cases eF
      · rw [e, hEn] at eF; cases eF
    have nre : rm ≠ en := fun e => by rw [e, hEn] at hRm; cases hRm
    have ncr : cm ∉ [rm, en] := fun m => by
      simp only [List.mem_cons, List.not_mem_nil, or_false] at m
      rcases m with e | e
      · rw [e, hRm] at hCm; cases hCm
      · exact nce e
    refine ⟨_, (pss_cons (ps_dput hu (show PE _ _ (tFld K _ _) from pe_fldD (pv 0)) (pv 1) pe_bl rfl)
      (pss_cons (ps_set (i := 2) sc_Flow__add_way.nd rfl (Or.inl rfl) (pe_dget hu (show PE _ _ (tFld K _ _) from pe_fldD (pv 0)) (pv 1) (fun _ _ => rfl)))
      (pss_one (ps_while PassesOwn.never (pt_cmpR op_notN (pv 2) pe_non (nomark _)) (pss_cons (ps_augS (show PE _ _ (tFld K _ _) from pe_fldD (pv 0)) (pv 2) (show PGet _ (rIxL K) from get_listP) pe_int ip_sub set_list)
        (pss_cons (ps_augS (show PE _ _ (tFld K _ _) from pe_fldD (pv 0)) (pe_op op_xor (pv 2) pe_int) (show PGet _ (rIxL K) from get_listP) pe_int ip_add set_list)
        (pss_one (ps_set (i := 2) sc_Flow__add_way.nd rfl (Or.inl rfl) (pe_dget hu (show PE _ _ (tFld K _ _) from pe_fldD (pv 0)) (pe_ix (show IxR _ (rIxL K) from ix_list) (show PE _ _ (tFld K _ _) from pe_fldD (show PE _ _ (tFld K _ _) from pe_fldD (pv 0))) (pe_op op_xor (pv 2) pe_int) (fun _ _ => rfl)) (fun _ _ => rfl)))))))))), ?_⟩
    refine ⟨_, rfl, f, _, dxF, fsF, _, rfl, eF, cF, aEnd, l4, _, rfl, en, _, rfl, DPut.k (k := Sum.inl ((2 * wd : Nat) : Int)) hEn (by rw [keysOf_len]; unfold twos; rw [List.length_map, sizeLine_eq]; omega), ?_⟩
    rw [keysOf_put _ _ (fun m => hnE (twos_mem.mp m)), ← twos_app]
    generalize eH1 : upd H en _ = H1
    have f1 : ∀ z, z ≠ en → H1 z = H z := fun z nz => by rw [← eH1]; exact upd_ne nz
    have hE1 : H1 en = some (.dK (keysOf (twos (Ed ++ [wd])))) := by rw [← eH1]; exact upd_same
    clear eH1
    have hR1 : H1 rm = some (.lst (room.map vN)) := by rw [f1 rm nre]; exact hRm
    have k1 : Kp [rm, en] H H1 := fun z o nz ez => by
      rw [f1 z (fun y => nz (by rw [y]; simp))]
      exact ez
    have eF1 := k1 _ _ nfr eF
    have hC1 := k1 _ _ ncr hCm
    refine ⟨_, rfl, f, _, dxF, fsF, _, rfl, eF1, cF, aCame, l5, _, rfl, cm, _, rfl, by rw [← back_val nd hb]; exact DGet.k (k := Sum.inl ((2 * wd : Nat) : Int)) hC1, ?_⟩
    refine at_name ?_
    refine ⟨fun m σ H' => ∃ (dn rest : List Nat) (u : Nat), σ = [some (.ref f), some (vN (2 * wd)), some (pathV rest)] ∧ ps = dn ++ rest ∧ Back (netA C) L u rest ∧ Kp [rm, en] H1 H' ∧ H' rm = some (.lst ((pushes room dn).map vN)) ∧ H' en = some (.dK (keysOf (twos (Ed ++ [wd])))) ∧ rest.length = m, ⟨_, [], ps, 2 * wd, rfl, rfl, hb, Kp.refl _ _, hR1, hE1, rfl⟩, ?_⟩
    rintro m σ H2 ⟨dn, rest, u, rfl, eps, hbk, k2, hR2, hE2, em⟩
    have k02 := k1.trans k2
    have eF2 := k02 _ _ nfr eF
    cases hbk with
    | src hm =>
      refine ⟨_, rfl, rfl, _, rfl, iteF ?_⟩
      rw [List.append_nil] at eps
      subst eps
      exact q ps H2 hb bok hR2 hE2 k02
    | @arc _ p u2 ps2 hm g hb2 =>
      refine ⟨_, rfl, rfl, _, rfl, iteT ⟨fun σ' H' => ∃ m', m' < m ∧ ∃ (dn rest : List Nat) (u : Nat), σ' = [some (.ref f), some (vN (2 * wd)), some (pathV rest)] ∧ ps = dn ++ rest ∧ Back (netA C) L u rest ∧ Kp [rm, en] H1 H' ∧ H' rm = some (.lst ((pushes room dn).map vN)) ∧ H' en = some (.dK (keysOf (twos (Ed ++ [wd])))) ∧ rest.length = m', fun _ _ h => h, ?_⟩⟩
      have pl := goes_lt g
      have xl := xo_lt pl
      rw [eps] at bok
      have hd : ∀ q ∈ dn, q < 2 * (netA C).length := fun q hq => bok.lt q (List.mem_append_left _ hq)
      have np : p ∉ dn := fun m => (List.nodup_append.mp bok.nd).2.2 p m p List.mem_cons_self rfl
      have c0 : dn.count p = 0 := List.count_eq_zero.mpr np
      have ge := pushes_ge (n := (netA C).length) lRm hd p
      have pp := bok.pos p (List.mem_append_right _ List.mem_cons_self)
      obtain ⟨rr, err⟩ : ∃ rr, pushes room dn = rr := ⟨_, rfl⟩
      have lrr : rr.length = 2 * (netA C).length := by rw [← err, pushes_len]; exact lRm
      rw [err] at hR2 ge
      have get : ∀ q, q < 2 * (netA C).length → rr[q]? = some (rr.getD q 0) := fun q hq => by
        rw [List.getD_eq_getElem?_getD, List.getElem?_eq_getElem (by omega)]
        rfl
      refine ⟨_, rfl, f, _, dxF, fsF, _, rfl, eF2, cF, aRoom, l3, _, rfl, rm, _, _, _, rfl, rfl, .inl (.inl hR2), atI_nat (v := vN (rr.getD p 0)) (by rw [List.getElem?_map, get p pl]; rfl), _, _, rfl, rfl, rm, _, _, _, rfl, rfl, hR2, ixN_nat (by rw [List.length_map]; omega), ?_⟩
      have e1 : V.int ((rr.getD p 0 : Int) - 1) = vN (rr.getD p 0 - 1) := by unfold vN; congr 1; omega
      have e1' : (HO.lst ((rr.map vN).set p (V.int ((rr.getD p 0 : Int) - 1)))) = .lst ((rr.set p (rr.getD p 0 - 1)).map vN) := by rw [e1, set_vN]
      rw [e1']
      generalize eH3 : upd H2 rm _ = H3
      have f3 : ∀ z, z ≠ rm → H3 z = H2 z := fun z nz => by rw [← eH3]; exact upd_ne nz
      have hR3 : H3 rm = some (.lst ((rr.set p (rr.getD p 0 - 1)).map vN)) := by rw [← eH3]; exact upd_same
      clear eH3
      have eF3 : H3 f = some (.ins (ka "Flow") dxF fsF) := by rw [f3 f (fun y => nfr (by rw [y]; simp))]; exact eF2
      have gx : (rr.set p (rr.getD p 0 - 1))[xo p]? = some (rr.getD (xo p) 0) := by
        rw [List.getElem?_set_ne (xo_ne p).symm]
        exact get _ xl
      have p1024 : p < 1024 := by omega
      refine ⟨_, rfl, f, _, dxF, fsF, _, rfl, eF3, cF, aRoom, l3, _, rfl, _, _, rfl, rfl, ?_⟩
      have ex := xor_at p1024
      have ex' : V.int (PySem.Builtin.bitXor (p : Int) 1) = vN (xo p) := by rw [ex]; rfl
      show rIxL K _ (V.int (PySem.Builtin.bitXor (p : Int) 1)) _ _
      rw [ex']
      refine ⟨rm, _, ((xo p : Nat) : Int), _, rfl, rfl, .inl (.inl hR3), atI_nat (v := vN (rr.getD (xo p) 0)) (by rw [List.getElem?_map, gx]; rfl), _, _, rfl, rfl, rm, _, ((xo p : Nat) : Int), xo p, rfl, ex', hR3, ixN_nat (by rw [List.length_map, List.length_set]; omega), ?_⟩
      have e2 : V.int ((rr.getD (xo p) 0 : Int) + 1) = vN (rr.getD (xo p) 0 + 1) := by unfold vN; congr 1
      have e2' : (HO.lst (((rr.set p (rr.getD p 0 - 1)).map vN).set (xo p) (V.int ((rr.getD (xo p) 0 : Int) + 1)))) = .lst ((push rr p).map vN) := by
        rw [e2, set_vN]
        rfl
      rw [e2']
      generalize eH4 : upd H3 rm _ = H4
      have f4 : ∀ z, z ≠ rm → H4 z = H3 z := fun z nz => by rw [← eH4]; exact upd_ne nz
      have hR4 : H4 rm = some (.lst ((push rr p).map vN)) := by rw [← eH4]; exact upd_same
      clear eH4
      have k24 : Kp [rm, en] H2 H4 := fun z o nz ez => by
        rw [f4 z (fun y => nz (by rw [y]; simp)), f3 z (fun y => nz (by rw [y]; simp))]
        exact ez
      have k04 := k02.trans k24
      have eF4 := k04 _ _ nfr eF
      have eN4 := k04 _ _ (ap2 nt (by simp)) eN
      have hT4 := k04 _ _ (ap2 tl (by simp)) hN.tow
      have hC4 := k04 _ _ ncr hCm
      have hE4 : H4 en = some (.dK (keysOf (twos (Ed ++ [wd])))) := by rw [f4 en nre.symm, f3 en nre.symm]; exact hE2
      refine ⟨_, rfl, f, _, dxF, fsF, _, rfl, eF4, cF, aCame, l5, _, rfl, f, _, dxF, fsF, _, rfl, eF4, cF, aNet, l1, nt, _, dxN, fsN, _, rfl, eN4, cN, aT, lT, _, rfl, _, _, rfl, rfl, ?_⟩
      show rIxL K _ (V.int (PySem.Builtin.bitXor (p : Int) 1)) _ _
      rw [ex']
      refine ⟨tl, _, ((xo p : Nat) : Int), _, rfl, rfl, .inl (.inl hT4), atI_nat (v := vN u2) (by rw [List.getElem?_map, g.2]; rfl), cm, _, rfl, by rw [← back_val nd hb2]; exact DGet.k (k := Sum.inl (u2 : Int)) hC4, ?_⟩
      rw [List.length_cons] at em
      refine ⟨ps2.length, by omega, dn ++ [p], ps2, u2, rfl, by rw [eps, List.append_assoc]; rfl, hb2, k2.trans k24, by rw [pushes_snoc, err]; exact hR4, hE4, rfl⟩
end
end Ft

set_option Elab.async false
set_option linter.all false
set_option maxRecDepth 100000
set_option maxHeartbeats 4000000
/-! a set of ints by two clauses -/
namespace Ft
open PySem PySem.Spec PyProof.Rows L2
abbrev twoSet (el ta ia tb ib : Expr) (ca cb : List Expr) (sco : Scope) (at_ : Pos) : Expr := .SetComp el [⟨ta, ia, ca, 0⟩, ⟨tb, ib, cb, 0⟩] sco at_
section
variable {G : Program} {w : World} {A : Around} {Z : Result → Shared → Prop} {el ta ia tb ib : Expr} {ca cb : List Expr} {sco : Scope} {at_ : Pos} {o d : Value} {ev : Env}
/-- the tests of a clause, until one fails -/
abbrev tests (cs : List Expr) (ev : Env) : Sem Bool := forIn cs true fun c r => if r = true then (isTrue c ev (eval c ev) >>= fun z => pure (ForInStep.yield z)) else pure (ForInStep.yield r)
theorem turn_a : compTurn (twoSet el ta ia tb ib ca cb sco at_) 0 o d ev = (standAt ia.pos >>= fun _ => pyNext o >>= fun (n : Option Value) => match n with
    | none => pure (.done .next)
    | some v => letOwnedTupleGo ta o v >>= fun _ => assign ta ev v >>= fun _ => tests ca ev >>= fun z =>
      if z = true then (eval ib ev >>= fun y => standAt ib.pos >>= fun _ => foldedSetIterable ib ev y >>= fun y => holding [y] (pyIter y) >>= fun t => runOwn (.compStart (twoSet el ta ia tb ib ca cb sco at_) 1 t d ev) ev >>= fun _ => again (.compLoop (twoSet el ta ia tb ib ca cb sco at_) 0 o d ev))
      else again (.compLoop (twoSet el ta ia tb ib ca cb sco at_) 0 o d ev)) := by rfl
theorem turn_b : compTurn (twoSet el ta ia tb ib ca cb sco at_) 1 o d ev = (standAt ib.pos >>= fun _ => pyNext o >>= fun (n : Option Value) => match n with
    | none => pure (.done .next)
    | some v => letOwnedTupleGo tb o v >>= fun _ => assign tb ev v >>= fun _ => tests cb ev >>= fun z =>
      if z = true then ((eval el ev >>= fun y => standAt el.pos >>= fun _ => call (.builtin "set.add") [d, y] >>= fun _ => pure ()) >>= fun _ => again (.compLoop (twoSet el ta ia tb ib ca cb sco at_) 1 o d ev))
      else again (.compLoop (twoSet el ta ia tb ib ca cb sco at_) 1 o d ev)) := by rfl
/-- what a raised thing asks -/
abbrev out_ (G : Program) (w : World) (A : Around) (ev : Env) (Z : Result → Shared → Prop) : Value → Shared → Prop := notedBy (model G w) A ev fun x t => Z (.error x) t
theorem loop_b {s : Shared} (I : Nat → Shared → Prop)
    (step : ∀ k s, I k s → wpAny (model G w) A (pyNext o) (fun n s1 => match n with
      | none => Z (.ok .next) s1
      | some v => wpAny (model G w) A (letOwnedTupleGo tb o v) (fun _ s2 => wpAny (model G w) A (assign tb ev v) (fun _ s3 => wpAny (model G w) A (tests cb ev) (fun z s4 =>
          if z = true then wpAny (model G w) A (eval el ev) (fun y s5 => wpAny (model G w) A (call (.builtin "set.add") [d, y]) (fun _ s6 => ∃ j, j < k ∧ I j s6) (out_ G w A ev Z) s5) (out_ G w A ev Z) s4
          else ∃ j, j < k ∧ I j s4) (out_ G w A ev Z) s3) (out_ G w A ev Z) s2) (out_ G w A ev Z) s1) (out_ G w A ev Z) s)
    (k : Nat) (h : I k s) : codeAny (model G w) A (.compLoop (twoSet el ta ia tb ib ca cb sco at_) 1 o d ev) Z s := by
  refine codeAny_loop rfl I (fun k s hI => ?_) k h
  show wpAny _ A ((compTurn (twoSet el ta ia tb ib ca cb sco at_) 1 o d ev).onRaise (fun x => noteFrame x ev >>= fun _ => theTreesLotGoes x)) _ _ s
  refine wpAny_noted ?_
  rw [turn_b]
  refine wpAny_bind (wpAny_standAt (wpAny_bind (wpAny_mono (step k s hI) (fun n s1 q1 => ?_) fun _ _ x => x)))
  cases n with
  | none => exact wpAny_pure q1
  | some v =>
    refine wpAny_bind (wpAny_mono q1 (fun _ s2 q2 => wpAny_bind (wpAny_mono q2 (fun _ s3 q3 => wpAny_bind (wpAny_mono q3 (fun z s4 q4 => ?_) fun _ _ x => x)) fun _ _ x => x)) fun _ _ x => x)
    cases z with
    | false => exact wpAny_pure ⟨rfl, q4⟩
    | true => exact wpAny_bind (wpAny_bind (wpAny_mono q4 (fun y s5 q5 => wpAny_bind (wpAny_standAt (wpAny_bind (wpAny_mono q5 (fun _ s6 q6 => wpAny_pure (wpAny_pure ⟨rfl, q6⟩)) fun _ _ x => x)))) fun _ _ x => x))
theorem loop_a {s : Shared} (same : ∀ y, foldedSetIterable ib ev y = pure y) (I : Nat → Shared → Prop)
    (step : ∀ k s, I k s → wpAny (model G w) A (pyNext o) (fun n s1 => match n with
      | none => Z (.ok .next) s1
      | some v => wpAny (model G w) A (letOwnedTupleGo ta o v) (fun _ s2 => wpAny (model G w) A (assign ta ev v) (fun _ s3 => wpAny (model G w) A (tests ca ev) (fun z s4 =>
          if z = true then wpAny (model G w) A (eval ib ev) (fun y s5 => wpAny (model G w) A (pyIter y) (fun t s6 => codeAny (model G w) A (.compStart (twoSet el ta ia tb ib ca cb sco at_) 1 t d ev) (fun r s7 => match r with
            | .ok _ => ∃ j, j < k ∧ I j s7
            | .error _ => False) s6) (out_ G w A ev Z) s5) (out_ G w A ev Z) s4
          else ∃ j, j < k ∧ I j s4) (out_ G w A ev Z) s3) (out_ G w A ev Z) s2) (out_ G w A ev Z) s1) (out_ G w A ev Z) s)
    (k : Nat) (h : I k s) : codeAny (model G w) A (.compLoop (twoSet el ta ia tb ib ca cb sco at_) 0 o d ev) Z s := by
  refine codeAny_loop rfl I (fun k s hI => ?_) k h
  show wpAny _ A ((compTurn (twoSet el ta ia tb ib ca cb sco at_) 0 o d ev).onRaise (fun x => noteFrame x ev >>= fun _ => theTreesLotGoes x)) _ _ s
  refine wpAny_noted ?_
  rw [turn_a]
  refine wpAny_bind (wpAny_standAt (wpAny_bind (wpAny_mono (step k s hI) (fun n s1 q1 => ?_) fun _ _ x => x)))
  cases n with
  | none => exact wpAny_pure q1
  | some v =>
    refine wpAny_bind (wpAny_mono q1 (fun _ s2 q2 => wpAny_bind (wpAny_mono q2 (fun _ s3 q3 => wpAny_bind (wpAny_mono q3 (fun z s4 q4 => ?_) fun _ _ x => x)) fun _ _ x => x)) fun _ _ x => x)
    cases z with
    | false => exact wpAny_pure ⟨rfl, q4⟩
    | true =>
      refine wpAny_bind (wpAny_mono q4 (fun y s5 q5 => wpAny_bind (wpAny_standAt (wpAny_bind (wpAny_of_eq (same y) (wpAny_bind (wpAny_holding (wpAny_mono q5 (fun t s6 q6 => wpAny_bind (wpAny_runOwn ?_)) fun _ _ x => x)))))))  fun _ _ x => x)
      rw [Around.mark_none]
      refine codeAny_mono q6 fun r s7 q7 => ?_
      cases r with
      | error _ => exact q7.elim
      | ok _ =>
        first
          | exact wpAny_pure ⟨rfl, q7⟩
          | exact wpAny_bind (wpAny_pure (wpAny_pure ⟨rfl, q7⟩))
theorem start_b {s : Shared} (go : codeAny (model G w) A (.compLoop (twoSet el ta ia tb ib ca cb sco at_) 1 o d ev) Z s)
    (go2 : wpAny (model G w) A (pyIter o) (fun t s1 => codeAny (model G w) A (.compLoop (twoSet el ta ia tb ib ca cb sco at_) 1 t d ev) Z s1) (out_ G w A ev Z) s) :
    codeAny (model G w) A (.compStart (twoSet el ta ia tb ib ca cb sco at_) 1 o d ev) Z s := by
  refine codeAny_of_tree ?_
  show wpAny _ _ ((compStart (twoSet el ta ia tb ib ca cb sco at_) 1 o d ev).onRaise (fun x => noteFrame x ev >>= fun _ => standAt theWindowsPlace)) _ _ s
  refine wpAny_notedAt ?_
  unfold compStart
  show wpAny _ _ (ask >>= _) _ _ s
  refine wpAny_bind (wpAny_askSetting (wpAny_ite ?_))
  split
  case isTrue =>
    first
      | exact wpAny_pure (And.intro rfl go)
      | exact wpAny_bind (wpAny_pure (wpAny_pure (And.intro rfl go)))
  case isFalse =>
    refine wpAny_bind (wpAny_rule (wpAny_bind ?_))
    show wpAny _ _ (standAt ib.pos) _ _ s
    exact wpAny_standAt (wpAny_bind (wpAny_mono go2 (fun t s1 q => wpAny_pure (And.intro rfl q)) fun _ _ x => x))
end
end Ft

set_option Elab.async false
set_option linter.all false
set_option maxRecDepth 100000
set_option maxHeartbeats 4000000
namespace Ft
open PySem PySem.Spec PyProof.Rows L2
theorem put_ok {X : Cx} {pins : List (Addr × Obj)} {σ : L2.St} {H : Hp} {s : Shared} {E : Value → Shared → Prop} {D : Addr} {S : Int → Bool} {n : Nat} {k : Int} {tk : Tok} {Q : Value → Shared → Prop} (I : Inv X pins σ H s) (hD : H D = some (SetO X.w D S n)) (room : n + 1 < scanBound)
    (go : ∀ t, Inv X pins σ (upd H D (SetO X.w D (fun j => S j || decide (j = k)) (if S k = true then n else n + 1))) t → Q .none t) : wpAny (model X.prog X.w) X.A (call (.builtin "set.add") [.ref D, .int k tk]) Q E s := by
  refine setR_add (setO_get I hD) room fun h' sb new => go _ ?_
  obtain ⟨u, _, _, _, hu, _⟩ := id new
  exact I.write (e := D) (t' := s.toks + 1) (by rw [hD]; trivial) (.inl rfl) (fun b x hb hx => (sb.2 b hb).trans hx) ⟨u, hu⟩ (setO_new new)
/-- {el for ta in ia if .. for tb in ib if ..}, ints: D the new set -/
def tSet2 (w : World) (wi : TI) (ga : TG) (tca : TT) (wj : TI) (gb : TG) (tcb : TT) (te : TE) (all inn : List Nat) : TE := fun σ H Q => wi σ H fun J Ha => ∀ D, Ha D = none → ∃ W : Nat → Nat → Hp → Prop, (∃ m, W 0 m (upd Ha D (SetO w D (fun _ => false) 0))) ∧ ∀ i m Hb, W i m Hb →
  (J.stop i Hb ∧ Q (.ref D) Hb) ∨ (J.go i Hb ∧ ∃ N : Hp → Prop, (∀ Hc, N Hc → ∃ m', m' < m ∧ W (i + 1) m' Hc) ∧ ∀ x Hc, J.yld i Hb x Hc → ga x (wipe σ all) Hc fun σa Hd => wipe σa all = wipe σ all ∧ tca σa Hd fun z He =>
    if z = true then wj σa He fun K1 Hf => ∃ U : Nat → Nat → Hp → Prop, (∃ m, U 0 m Hf) ∧ ∀ j k Hg, U j k Hg →
      (K1.stop j Hg ∧ N Hg) ∨ (K1.go j Hg ∧ ∃ M : Hp → Prop, (∀ Hh, M Hh → ∃ k', k' < k ∧ U (j + 1) k' Hh) ∧ ∀ y Hh, K1.yld j Hg y Hh → gb y (wipe σa inn) Hh fun σb Hi => wipe σb inn = wipe σa inn ∧ tcb σb Hi fun z Hj =>
        if z = true then te σb Hj fun v Hk => ∃ (c : Int) (S : Int → Bool) (n : Nat), v = .int c ∧ Hk D = some (SetO w D S n) ∧ n + 1 < scanBound ∧ M (upd Hk D (SetO w D (fun j => S j || decide (j = c)) (if S c = true then n else n + 1))) else M Hj)
    else N He)
section
variable {X : Cx}
abbrev InBlk (X : Cx) (sco : Scope) (P : Cx → Prop) : Prop := ∀ (s : Shared) (H : Hp) (C : Addr) (cl : List (Str × Addr)) (fp : List Addr), P (X.blk s H sco (compEnvC sco cl C X.env) fp)
theorem set2_core {pins : List (Addr × Obj)} {s : Shared} {σ : L2.St} {H : Hp} {Q : VK} {el ta ia tb ib : Expr} {ca cb : List Expr} {sco : Scope} {own : List (Str × Nat)} {inn : List Nat} {at_ at2 : Pos} {wi wj : TI} {ga gb : TG} {tca tcb : TT} {te : TE} {use : Option (Value → Sem Unit)} {Qf : Value → Shared → Prop}
    (calm : X.calm = true) (nd : X.N.Nodup) (I : Inv X pins σ H s) (pi : PI X ta ia wi) (ok : BlkOk X.N X.env.scope sco own) (sub : ∀ i ∈ inn, i ∈ own.map (·.2)) (pga : InBlk X sco fun Y => PG Y ta ga) (pta : InBlk X sco fun Y => PTs Y ca tca) (pib : InBlk X sco fun Y => PI Y tb ib wj) (pgb : InBlk X sco fun Y => PG Y tb gb) (ptb : InBlk X sco fun Y => PTs Y cb tcb)
    (pel : InBlk X sco fun Y => PE Y el te) (fa : ∀ x, foldedSetIterable ia X.env x = pure x) (fb : ∀ env x, foldedSetIterable ib env x = pure x) (h : tSet2 X.w wi ga tca wj gb tcb te (own.map (·.2)) inn σ H Q)
    (back : ∀ D C t m Ht, Inv X pins σ Ht t → Q (.ref D) Ht → t.heap.Ns C m → FpOk X pins Ht C → compPost (model X.prog X.w) X.A X.xe use Qf (.ref D) C (.ok .next) t) :
    wpAny (model X.prog X.w) X.A (comprehension (twoSet el ta ia tb ib ca cb sco at_) sco X.env at2 (newSet (.type "set")) false (eval ia X.env) use) Qf X.xe s := by
  have cells : ∀ y ∈ sco.names, y.2 = .free → ∃ c, X.env.cells.lookup y.1 = some c := fun y hy e => (ok.free y hy e).elim (fun k => I.ok.has _ (.inl k)) (fun k => I.ok.has _ (.inr k))
  refine wpAny_comprehension_free (use := use) rfl fa (closure_ok cells) ok.kind (fun y hy e => by rw [ok.uniq y hy, e]) (thn (pi.run pins s σ H _ I h) fun xv s1 hx => thn hx fun itv s2 h2 => ?_)
  obtain ⟨it, fp, tn, J, Ha, e, Ia, T, sta, fpa, q⟩ := h2
  subst e
  refine PpSet.newSet_ok (newEnv_comp ?_)
  obtain ⟨D, eD⟩ : ∃ D, s2.heap.objs.size = D := ⟨_, rfl⟩
  have free : Ha D = none := Ia.hok.fresh (Nat.le_of_eq eD)
  obtain ⟨W, ⟨m0, w0⟩, turn⟩ := q D free
  obtain ⟨s3, es3⟩ : ∃ s3 : Shared, ({ s2 with heap := s2.heap.push { cls := .type "set", dict := none, data := .set #[] 0 (.fresh 0 0 (!X.w.params.followText "set-order")) } } : Shared) = s3 := ⟨_, rfl⟩
  have I3 : Inv X pins σ (upd Ha D (SetO X.w D (fun _ => false) 0)) s3 := by
    subst es3 eD
    exact Ia.laid (t' := s2.toks) (fun b o e => Heap.get?_push_of_some _ e) (Nat.le_refl _) (setO_new (setR_fresh X.w))
  have push3 : s3.heap = s2.heap.push { cls := .type "set", dict := none, data := .set #[] 0 (.fresh 0 0 (!X.w.params.followText "set-order")) } := by rw [← es3]
  have below : ∀ b ∈ fp, b < s2.heap.objs.size := fun b hb => by
    obtain ⟨_, e, _⟩ := T.obj _ _ sta b hb
    exact Heap.lt_size e
  have fp3 : ∀ b ∈ fp, FpOk X pins (upd Ha D (SetO X.w D (fun _ => false) 0)) b ∧ b < s3.heap.objs.size := fun b hb => by
    have lt := below b hb
    refine ⟨⟨by rw [upd_ne (by rw [← eD]; exact Nat.ne_of_lt lt)]; exact (fpa b hb).1, (fpa b hb).2⟩, ?_⟩
    rw [push3, Heap.size_push]
    exact Nat.lt_succ_of_lt lt
  have st3 : tn 0 s3.heap := T.keep _ _ _ sta fun b _ o e => by rw [push3]; exact Heap.get?_push_of_some _ e
  have I4 := block_start I3 ok nd fp3
  obtain ⟨cl, ecl⟩ : ∃ cl, cellsFrom (s3.heap.objs.size + 1) sco.names (cloFrom X.env.cells sco.names []) = cl := ⟨_, rfl⟩
  rw [ecl] at I4
  have pga := pga s3 (upd Ha D (SetO X.w D (fun _ => false) 0)) s3.heap.objs.size cl fp
  have pta := pta s3 (upd Ha D (SetO X.w D (fun _ => false) 0)) s3.heap.objs.size cl fp
  have pib := pib s3 (upd Ha D (SetO X.w D (fun _ => false) 0)) s3.heap.objs.size cl fp
  have pgb := pgb s3 (upd Ha D (SetO X.w D (fun _ => false) 0)) s3.heap.objs.size cl fp
  have ptb := ptb s3 (upd Ha D (SetO X.w D (fun _ => false) 0)) s3.heap.objs.size cl fp
  have pel := pel s3 (upd Ha D (SetO X.w D (fun _ => false) 0)) s3.heap.objs.size cl fp
  have none3 : ∀ b ∈ fp, (upd Ha D (SetO X.w D (fun _ => false) 0)) b = none := fun b hb => (fp3 b hb).1.1
  rw [eD, es3, ecl]
  obtain ⟨ev, eev⟩ : ∃ ev, compEnvC sco cl s3.heap.objs.size X.env = ev := ⟨_, rfl⟩
  have loc : ev.locals = s3.heap.objs.size := by
    subst eev
    rfl
  rw [eev] at I4 pga pta pib pgb ptb pel
  obtain ⟨H3, eH3⟩ : ∃ H3, upd Ha D (SetO X.w D (fun _ => false) 0) = H3 := ⟨_, rfl⟩
  rw [eH3] at I3 I4 pga pta pib pgb ptb pel w0 none3 fp3
  obtain ⟨s4, es4⟩ : ∃ s4 : Shared, ({ s3 with heap := pushCells (s3.heap.push { cls := .type "dict", data := .dict #[] }) sco.names } : Shared) = s4 := ⟨_, rfl⟩
  rw [es4] at I4
  have st4 : tn 0 s4.heap := T.keep _ _ _ st3 fun b _ o e => by rw [← es4]; exact pushCells_keeps _ _ _ _ (Heap.get?_push_of_some _ e)
  have calmF : ∀ {σt : L2.St} {Ht : Hp} {t : Shared}, Inv (X.blk s3 H3 sco ev fp) [] σt Ht t → (∀ b ∈ fp, Ht b = none) → ∀ b ∈ fp, FpOk (X.blk s3 H3 sco ev fp) [] Ht b := by
    intro σt Ht t It none b hb
    refine ⟨none b hb, (It.ok.exf b hb).1, It.ok.exfs b hb, .inl hb, (fun x c e => (It.ok.exf b hb).2 x c e), fun p hp => ?_⟩
    have : p ∈ ([] : List (Addr × Obj)) ++ [] := hp
    simp at this
  suffices z : codeAny (model X.prog X.w) X.A (.compStart (twoSet el ta ia tb ib ca cb sco at_) 0 (.ref it) (.ref D) ev) (compPost (model X.prog X.w) X.A X.xe use Qf (.ref D) s3.heap.objs.size) s4 by
    rw [← es4, ← eev] at z
    exact z
  obtain ⟨vs, evs⟩ : ∃ vs, own.map (·.2) = vs := ⟨_, rfl⟩
  rw [evs] at turn sub I4
  have loop : codeAny (model X.prog X.w) X.A (.compLoop (twoSet el ta ia tb ib ca cb sco at_) 0 (.ref it) (.ref D) ev) (compPost (model X.prog X.w) X.A X.xe use Qf (.ref D) s3.heap.objs.size) s4 := by
    refine loop_a (fb ev) (fun k t => ∃ i Ht, Inv (X.blk s3 H3 sco ev fp) [] (wipe σ vs) Ht t ∧ tn i t.heap ∧ (∀ b ∈ fp, Ht b = none) ∧ W i k Ht) ?_ m0 ⟨0, H3, I4, st4, none3, w0⟩
    rintro k s5 ⟨i, H5, I5, st5, n5, w5⟩
    rcases turn i k H5 w5 with ⟨stop, over⟩ | ⟨go, N, less, step⟩
    · refine thnF (T.done (X.blk s3 H3 sco ev fp) rfl rfl rfl calm i [] s5 _ H5 (fun _ _ => False) I5 (calmF I5 n5) st5 stop) fun r s6 ⟨er, I6⟩ => ?_
      subst er
      have I7 : Inv X pins σ H5 s6 := I3.call' (ch := fp) I6.os I6.base I6.hok I6.bare fun b hb => by
        obtain ⟨⟨_, f1, f2, f3, f4, f5⟩, _⟩ := fp3 b hb
        exact ⟨f3, f1, f4, f5⟩
      have freeC : H5 s3.heap.objs.size = none := by
        rw [← loc]
        exact I6.free
      obtain ⟨m, hm, _⟩ := I6.loc
      have hm : s6.heap.Ns ev.locals m := hm
      rw [loc] at hm
      exact back D s3.heap.objs.size s6 m H5 I7 over hm (I3.fpOk (Nat.le_refl _) freeC)
    · refine thnF (T.item (X.blk s3 H3 sco ev fp) rfl rfl rfl calm i [] s5 _ H5 (fun _ _ => False) I5 (calmF I5 n5) st5 go) fun r s6 ⟨u, er, h6⟩ => ?_
      subst er
      refine thnF h6 fun _ s7 ⟨x, H7, I7, r7, y7, st7, n7⟩ => ?_
      have I7p := I7.pinned (calmF I7 n7) (T.obj _ _ st7)
      refine thnF (pga.run _ s7 _ H7 x u _ I7p r7 (step x H7 y7)) fun _ s8 ⟨σ8, H8, I8, w8, q8⟩ => thnF (pta.run _ s8 σ8 H8 _ I8 q8) fun z s9 ⟨H9, I9, q9⟩ => ?_
      have len8 : (wipe σ vs).length = σ8.length := by rw [← w8, wipe_length]
      have know8 : ∀ (j : Nat) v, (wipe σ vs)[j]? = some (some v) → σ8[j]? = some (some v) := fun j v e => by
        rw [← w8] at e
        exact (wipe_some e).1
      have knowIn : ∀ (j : Nat) v, (wipe σ vs)[j]? = some (some v) → (wipe σ8 inn)[j]? = some (some v) := fun j v e => by
        rw [← w8] at e
        obtain ⟨e1, off⟩ := wipe_some e
        rw [wipe_out fun z => off (sub j z)]
        exact e1
      have fin : ∀ {σt : L2.St} {t : Shared} {Ht : Hp}, Inv (X.blk s3 H3 sco ev fp) ([] ++ pinsAt fp s7.heap) σt Ht t → (wipe σ vs).length = σt.length → (∀ (j : Nat) v, (wipe σ vs)[j]? = some (some v) → σt[j]? = some (some v)) → N Ht → ∃ m, m < k ∧ ∃ i Hu, Inv (X.blk s3 H3 sco ev fp) [] (wipe σ vs) Hu t ∧ tn i t.heap ∧ (∀ b ∈ fp, Hu b = none) ∧ W i m Hu := by
        intro σt t Ht It hlen hknow hN
        obtain ⟨m, lt, wm⟩ := less Ht hN
        have pinned : ∀ b ∈ fp, ∀ o, s7.heap.get? b = some o → t.heap.get? b = some o ∧ Ht b = none := fun b hb o e => by
          have z := It.pin (b, o) (List.mem_append_right _ (List.mem_append_right _ (mem_pinsAt hb e)))
          exact ⟨z.1, z.2.1⟩
        refine ⟨m, lt, i + 1, Ht, (It.unpinned (pins := [])).weak hlen hknow, T.keep _ _ _ st7 fun b hb o e => (pinned b hb o e).1, fun b hb => ?_, wm⟩
        obtain ⟨o, e, _⟩ := T.obj _ _ st7 b hb
        exact (pinned b hb o e).2
      cases z with
      | false =>
        simp only [Bool.false_eq_true, if_false] at q9 ⊢
        exact fin I9 len8 know8 q9
      | true =>
        simp only [if_true] at q9 ⊢
        refine thnF (pib.run _ s9 σ8 H9 _ I9 q9) fun xv s10 hx => thnF hx fun itv s11 h11 => ?_
        obtain ⟨it1, fp1, tn1, K1, Hf, ee, If, T1, stf, fpf, U, ⟨m1, u0⟩, turn1⟩ := h11
        subst ee
        have calmG : ∀ {Ht : Hp}, (∀ b ∈ fp1, Ht b = none) → ∀ b ∈ fp1, FpOk (X.blk s3 H3 sco ev fp) ([] ++ pinsAt fp s7.heap) Ht b := fun none b hb => ⟨none b hb, (fpf b hb).2⟩
        have inner : codeAny (model X.prog X.w) X.A (.compLoop (twoSet el ta ia tb ib ca cb sco at_) 1 (.ref it1) (.ref D) ev) (fun r t => match r with
            | .ok _ => ∃ m, m < k ∧ ∃ i Hu, Inv (X.blk s3 H3 sco ev fp) [] (wipe σ vs) Hu t ∧ tn i t.heap ∧ (∀ b ∈ fp, Hu b = none) ∧ W i m Hu
            | .error _ => False) s11 := by
          refine loop_b (fun kk t => ∃ j Ht, Inv (X.blk s3 H3 sco ev fp) ([] ++ pinsAt fp s7.heap) (wipe σ8 inn) Ht t ∧ tn1 j t.heap ∧ (∀ b ∈ fp1, Ht b = none) ∧ U j kk Ht) ?_ m1 ⟨0, Hf, If.weak (wipe_length _ _) (fun j v e => (wipe_some e).1), stf, (fun b hb => (fpf b hb).1), u0⟩
          rintro kk s12 ⟨j, H12, I12, st12, n12, u12⟩
          rcases turn1 j kk H12 u12 with ⟨stop1, over1⟩ | ⟨go1, M, less1, step1⟩
          · refine thnF (T1.done (X.blk s3 H3 sco ev fp) rfl rfl rfl calm j _ s12 (wipe σ8 inn) H12 (fun _ _ => False) I12 (calmG n12) st12 stop1) fun r s13 ⟨er, I13⟩ => ?_
            subst er
            exact fin I13 (len8.trans (wipe_length σ8 inn).symm) knowIn over1
          · refine thnF (T1.item (X.blk s3 H3 sco ev fp) rfl rfl rfl calm j _ s12 (wipe σ8 inn) H12 (fun _ _ => False) I12 (calmG n12) st12 go1) fun r s13 ⟨u1, er, h13⟩ => ?_
            subst er
            refine thnF h13 fun _ s14 ⟨x1, H14, I14, r14, y14, st14, n14⟩ => ?_
            have I14p := I14.pinned (calmG n14) (T1.obj _ _ st14)
            refine thnF (pgb.run _ s14 (wipe σ8 inn) H14 x1 u1 _ I14p r14 (step1 x1 H14 y14)) fun _ s15 ⟨σ15, H15, I15, w15, q15⟩ => thnF (ptb.run _ s15 σ15 H15 _ I15 q15) fun z1 s16 ⟨H16, I16, q16⟩ => ?_
            have fin1 : ∀ {t : Shared} {Ht : Hp}, Inv (X.blk s3 H3 sco ev fp) (([] ++ pinsAt fp s7.heap) ++ pinsAt fp1 s14.heap) σ15 Ht t → M Ht → ∃ m, m < kk ∧ ∃ j Hu, Inv (X.blk s3 H3 sco ev fp) ([] ++ pinsAt fp s7.heap) (wipe σ8 inn) Hu t ∧ tn1 j t.heap ∧ (∀ b ∈ fp1, Hu b = none) ∧ U j m Hu := by
              intro t Ht It hM
              obtain ⟨m, lt, um⟩ := less1 Ht hM
              have pinned : ∀ b ∈ fp1, ∀ o, s14.heap.get? b = some o → t.heap.get? b = some o ∧ Ht b = none := fun b hb o e => by
                have z := It.pin (b, o) (List.mem_append_right _ (List.mem_append_right _ (mem_pinsAt hb e)))
                exact ⟨z.1, z.2.1⟩
              refine ⟨m, lt, j + 1, Ht, It.unpinned.weak (by rw [← w15, wipe_length]) (fun j v e => by rw [← w15] at e; exact (wipe_some e).1), T1.keep _ _ _ st14 fun b hb o e => (pinned b hb o e).1, fun b hb => ?_, um⟩
              obtain ⟨o, e, _⟩ := T1.obj _ _ st14 b hb
              exact (pinned b hb o e).2
            cases z1 with
            | false =>
              simp only [Bool.false_eq_true, if_false] at q16 ⊢
              exact fin1 I16 q16
            | true =>
              simp only [if_true] at q16 ⊢
              refine thnF (pel.run _ s16 σ15 H16 _ I16 q16) fun v s17 ⟨yv, H17, I17, r17, cc, S0, n0, ey, hD17, room, hM⟩ => ?_
              subst ey
              obtain ⟨tk, rfl⟩ := r17
              exact put_ok (X := X.blk s3 H3 sco ev fp) I17 hD17 room fun t It => fin1 It hM
        exact start_b inner (T1.self X.A 0 _ _ _ stf inner)
  exact PpSet.codeAny_compStart_set loop (T.self X.A 0 _ _ _ st4 loop)
theorem pe_set2 {el ta ia tb ib : Expr} {ca cb : List Expr} {sco : Scope} {own : List (Str × Nat)} {inn : List Nat} {at_ : Pos} {wi wj : TI} {ga gb : TG} {tca tcb : TT} {te : TE} (calm : X.calm = true) (nd : X.N.Nodup) (pi : PI X ta ia wi) (ok : BlkOk X.N X.env.scope sco own) (sub : ∀ i ∈ inn, i ∈ own.map (·.2))
    (pga : InBlk X sco fun Y => PG Y ta ga) (pta : InBlk X sco fun Y => PTs Y ca tca) (pib : InBlk X sco fun Y => PI Y tb ib wj) (pgb : InBlk X sco fun Y => PG Y tb gb) (ptb : InBlk X sco fun Y => PTs Y cb tcb) (pel : InBlk X sco fun Y => PE Y el te)
    (fa : ∀ x, foldedSetIterable ia X.env x = pure x := by intro _; rfl) (fb : ∀ env x, foldedSetIterable ib env x = pure x := by intro _ _; rfl) : PE X (twoSet el ta ia tb ib ca cb sco at_) (tSet2 X.w wi ga tca wj gb tcb te (own.map (·.2)) inn) := by
  refine ⟨fun pins s σ H Q I h => ?_⟩
  rw [PpSet.eval_SetComp]
  refine set2_core calm nd I pi ok sub pga pta pib pgb ptb pel fa fb h fun D C t m Ht It q hm fc => ⟨m, hm, fun h'' sb => ?_⟩
  obtain ⟨f0, f1, _, f3, f4, f5⟩ := fc
  exact ⟨.ref D, Ht, It.turned (t' := t.toks) (fun b o hb e => (sb.2 b hb).trans e) f0 f1 f3 f4 f5, rfl, q⟩
end
end Ft

set_option Elab.async false
set_option linter.all false
set_option maxRecDepth 100000
set_option maxHeartbeats 4000000
namespace Ft
open PySem PySem.Spec PyProof.Rows L2
/-- {el for ta in ia if ..}, ints: D the new set -/
def tSet1 (w : World) (wi : TI) (ga : TG) (tca : TT) (te : TE) (all : List Nat) : TE := fun σ H Q => wi σ H fun J Ha => ∀ D, Ha D = none → ∃ W : Nat → Nat → Hp → Prop, (∃ m, W 0 m (upd Ha D (SetO w D (fun _ => false) 0))) ∧ ∀ i m Hb, W i m Hb →
  (J.stop i Hb ∧ Q (.ref D) Hb) ∨ (J.go i Hb ∧ ∃ N : Hp → Prop, (∀ Hc, N Hc → ∃ m', m' < m ∧ W (i + 1) m' Hc) ∧ ∀ x Hc, J.yld i Hb x Hc → ga x (wipe σ all) Hc fun σa Hd => wipe σa all = wipe σ all ∧ tca σa Hd fun z He =>
    if z = true then te σa He fun v Hk => ∃ (c : Int) (S : Int → Bool) (n : Nat), v = .int c ∧ Hk D = some (SetO w D S n) ∧ n + 1 < scanBound ∧ N (upd Hk D (SetO w D (fun j => S j || decide (j = c)) (if S c = true then n else n + 1)))
    else N He)
section
variable {X : Cx}
theorem set1_core {pins : List (Addr × Obj)} {s : Shared} {σ : L2.St} {H : Hp} {Q : VK} {el ta ia : Expr} {ca : List Expr} {sco : Scope} {own : List (Str × Nat)} {at_ at2 : Pos} {wi : TI} {ga : TG} {tca : TT} {te : TE} {use : Option (Value → Sem Unit)} {Qf : Value → Shared → Prop}
    (calm : X.calm = true) (nd : X.N.Nodup) (I : Inv X pins σ H s) (pi : PI X ta ia wi) (ok : BlkOk X.N X.env.scope sco own) (pga : InBlk X sco fun Y => PG Y ta ga) (pta : InBlk X sco fun Y => PTs Y ca tca)
    (pel : InBlk X sco fun Y => PE Y el te) (fa : ∀ x, foldedSetIterable ia X.env x = pure x) (h : tSet1 X.w wi ga tca te (own.map (·.2)) σ H Q)
    (back : ∀ D C t m Ht, Inv X pins σ Ht t → Q (.ref D) Ht → t.heap.Ns C m → FpOk X pins Ht C → compPost (model X.prog X.w) X.A X.xe use Qf (.ref D) C (.ok .next) t) :
    wpAny (model X.prog X.w) X.A (comprehension (.SetComp el [⟨ta, ia, ca, 0⟩] sco at_) sco X.env at2 (newSet (.type "set")) false (eval ia X.env) use) Qf X.xe s := by
  have cells : ∀ y ∈ sco.names, y.2 = .free → ∃ c, X.env.cells.lookup y.1 = some c := fun y hy e => (ok.free y hy e).elim (fun k => I.ok.has _ (.inl k)) (fun k => I.ok.has _ (.inr k))
  refine wpAny_comprehension_free (use := use) rfl fa (closure_ok cells) ok.kind (fun y hy e => by rw [ok.uniq y hy, e]) (thn (pi.run pins s σ H _ I h) fun xv s1 hx => thn hx fun itv s2 h2 => ?_)
  obtain ⟨it, fp, tn, J, Ha, e, Ia, T, sta, fpa, q⟩ := h2
  subst e
  refine PpSet.newSet_ok (newEnv_comp ?_)
  obtain ⟨D, eD⟩ : ∃ D, s2.heap.objs.size = D := ⟨_, rfl⟩
  have free : Ha D = none := Ia.hok.fresh (Nat.le_of_eq eD)
  obtain ⟨W, ⟨m0, w0⟩, turn⟩ := q D free
  obtain ⟨s3, es3⟩ : ∃ s3 : Shared, ({ s2 with heap := s2.heap.push { cls := .type "set", dict := none, data := .set #[] 0 (.fresh 0 0 (!X.w.params.followText "set-order")) } } : Shared) = s3 := ⟨_, rfl⟩
  have I3 : Inv X pins σ (upd Ha D (SetO X.w D (fun _ => false) 0)) s3 := by
    subst es3 eD
    exact Ia.laid (t' := s2.toks) (fun b o e => Heap.get?_push_of_some _ e) (Nat.le_refl _) (setO_new (setR_fresh X.w))
  have push3 : s3.heap = s2.heap.push { cls := .type "set", dict := none, data := .set #[] 0 (.fresh 0 0 (!X.w.params.followText "set-order")) } := by rw [← es3]
  have below : ∀ b ∈ fp, b < s2.heap.objs.size := fun b hb => by
    obtain ⟨_, e, _⟩ := T.obj _ _ sta b hb
    exact Heap.lt_size e
  have fp3 : ∀ b ∈ fp, FpOk X pins (upd Ha D (SetO X.w D (fun _ => false) 0)) b ∧ b < s3.heap.objs.size := fun b hb => by
    have lt := below b hb
    refine ⟨⟨by rw [upd_ne (by rw [← eD]; exact Nat.ne_of_lt lt)]; exact (fpa b hb).1, (fpa b hb).2⟩, ?_⟩
    rw [push3, Heap.size_push]
    exact Nat.lt_succ_of_lt lt
  have st3 : tn 0 s3.heap := T.keep _ _ _ sta fun b _ o e => by rw [push3]; exact Heap.get?_push_of_some _ e
  have I4 := block_start I3 ok nd fp3
  obtain ⟨cl, ecl⟩ : ∃ cl, cellsFrom (s3.heap.objs.size + 1) sco.names (cloFrom X.env.cells sco.names []) = cl := ⟨_, rfl⟩
  rw [ecl] at I4
  have pga := pga s3 (upd Ha D (SetO X.w D (fun _ => false) 0)) s3.heap.objs.size cl fp
  have pta := pta s3 (upd Ha D (SetO X.w D (fun _ => false) 0)) s3.heap.objs.size cl fp
  have pel := pel s3 (upd Ha D (SetO X.w D (fun _ => false) 0)) s3.heap.objs.size cl fp
  have none3 : ∀ b ∈ fp, (upd Ha D (SetO X.w D (fun _ => false) 0)) b = none := fun b hb => (fp3 b hb).1.1
  rw [eD, es3, ecl]
  obtain ⟨ev, eev⟩ : ∃ ev, compEnvC sco cl s3.heap.objs.size X.env = ev := ⟨_, rfl⟩
  have loc : ev.locals = s3.heap.objs.size := by
    subst eev
    rfl
  rw [eev] at I4 pga pta pel
  obtain ⟨H3, eH3⟩ : ∃ H3, upd Ha D (SetO X.w D (fun _ => false) 0) = H3 := ⟨_, rfl⟩
  rw [eH3] at I3 I4 pga pta pel w0 none3 fp3
  obtain ⟨s4, es4⟩ : ∃ s4 : Shared, ({ s3 with heap := pushCells (s3.heap.push { cls := .type "dict", data := .dict #[] }) sco.names } : Shared) = s4 := ⟨_, rfl⟩
  rw [es4] at I4
  have st4 : tn 0 s4.heap := T.keep _ _ _ st3 fun b _ o e => by rw [← es4]; exact pushCells_keeps _ _ _ _ (Heap.get?_push_of_some _ e)
  have calmF : ∀ {σt : L2.St} {Ht : Hp} {t : Shared}, Inv (X.blk s3 H3 sco ev fp) [] σt Ht t → (∀ b ∈ fp, Ht b = none) → ∀ b ∈ fp, FpOk (X.blk s3 H3 sco ev fp) [] Ht b := by
    intro σt Ht t It none b hb
    refine ⟨none b hb, (It.ok.exf b hb).1, It.ok.exfs b hb, .inl hb, (fun x c e => (It.ok.exf b hb).2 x c e), fun p hp => ?_⟩
    have : p ∈ ([] : List (Addr × Obj)) ++ [] := hp
    simp at this
  suffices z : codeAny (model X.prog X.w) X.A (.compStart (.SetComp el [⟨ta, ia, ca, 0⟩] sco at_) 0 (.ref it) (.ref D) ev) (compPost (model X.prog X.w) X.A X.xe use Qf (.ref D) s3.heap.objs.size) s4 by
    rw [← es4, ← eev] at z
    exact z
  obtain ⟨vs, evs⟩ : ∃ vs, own.map (·.2) = vs := ⟨_, rfl⟩
  rw [evs] at turn I4
  have loop : codeAny (model X.prog X.w) X.A (.compLoop (.SetComp el [⟨ta, ia, ca, 0⟩] sco at_) 0 (.ref it) (.ref D) ev) (compPost (model X.prog X.w) X.A X.xe use Qf (.ref D) s3.heap.objs.size) s4 := by
    refine PpSet.compLoopS_any (fun k t => ∃ i Ht, Inv (X.blk s3 H3 sco ev fp) [] (wipe σ vs) Ht t ∧ tn i t.heap ∧ (∀ b ∈ fp, Ht b = none) ∧ W i k Ht) ?_ m0 ⟨0, H3, I4, st4, none3, w0⟩
    rintro k s5 ⟨i, H5, I5, st5, n5, w5⟩
    rcases turn i k H5 w5 with ⟨stop, over⟩ | ⟨go, N, less, step⟩
    · refine thnF (T.done (X.blk s3 H3 sco ev fp) rfl rfl rfl calm i [] s5 _ H5 (fun _ _ => False) I5 (calmF I5 n5) st5 stop) fun r s6 ⟨er, I6⟩ => ?_
      subst er
      have I7 : Inv X pins σ H5 s6 := I3.call' (ch := fp) I6.os I6.base I6.hok I6.bare fun b hb => by
        obtain ⟨⟨_, f1, f2, f3, f4, f5⟩, _⟩ := fp3 b hb
        exact ⟨f3, f1, f4, f5⟩
      have freeC : H5 s3.heap.objs.size = none := by
        rw [← loc]
        exact I6.free
      obtain ⟨m, hm, _⟩ := I6.loc
      have hm : s6.heap.Ns ev.locals m := hm
      rw [loc] at hm
      exact back D s3.heap.objs.size s6 m H5 I7 over hm (I3.fpOk (Nat.le_refl _) freeC)
    · refine thnF (T.item (X.blk s3 H3 sco ev fp) rfl rfl rfl calm i [] s5 _ H5 (fun _ _ => False) I5 (calmF I5 n5) st5 go) fun r s6 ⟨u, er, h6⟩ => ?_
      subst er
      refine thnF h6 fun _ s7 ⟨x, H7, I7, r7, y7, st7, n7⟩ => ?_
      have I7p := I7.pinned (calmF I7 n7) (T.obj _ _ st7)
      refine thnF (pga.run _ s7 _ H7 x u _ I7p r7 (step x H7 y7)) fun _ s8 ⟨σ8, H8, I8, w8, q8⟩ => thnF (pta.run _ s8 σ8 H8 _ I8 q8) fun z s9 ⟨H9, I9, q9⟩ => ?_
      have len8 : (wipe σ vs).length = σ8.length := by rw [← w8, wipe_length]
      have know8 : ∀ (j : Nat) v, (wipe σ vs)[j]? = some (some v) → σ8[j]? = some (some v) := fun j v e => by
        rw [← w8] at e
        exact (wipe_some e).1
      have fin : ∀ {t : Shared} {Ht : Hp}, Inv (X.blk s3 H3 sco ev fp) ([] ++ pinsAt fp s7.heap) σ8 Ht t → N Ht → ∃ m, m < k ∧ ∃ i Hu, Inv (X.blk s3 H3 sco ev fp) [] (wipe σ vs) Hu t ∧ tn i t.heap ∧ (∀ b ∈ fp, Hu b = none) ∧ W i m Hu := by
        intro t Ht It hN
        obtain ⟨m, lt, wm⟩ := less Ht hN
        have pinned : ∀ b ∈ fp, ∀ o, s7.heap.get? b = some o → t.heap.get? b = some o ∧ Ht b = none := fun b hb o e => by
          have z := It.pin (b, o) (List.mem_append_right _ (List.mem_append_right _ (mem_pinsAt hb e)))
          exact ⟨z.1, z.2.1⟩
        refine ⟨m, lt, i + 1, Ht, (It.unpinned (pins := [])).weak len8 know8, T.keep _ _ _ st7 fun b hb o e => (pinned b hb o e).1, fun b hb => ?_, wm⟩
        obtain ⟨o, e, _⟩ := T.obj _ _ st7 b hb
        exact (pinned b hb o e).2
      cases z with
      | false =>
        simp only [Bool.false_eq_true, if_false] at q9 ⊢
        exact fin I9 q9
      | true =>
        simp only [if_true] at q9 ⊢
        refine thnF (pel.run _ s9 σ8 H9 _ I9 q9) fun v s17 ⟨yv, H17, I17, r17, cc, S0, n0, ey, hD17, room, hM⟩ => ?_
        subst ey
        obtain ⟨tk, rfl⟩ := r17
        exact put_ok (X := X.blk s3 H3 sco ev fp) I17 hD17 room fun t It => fin It hM
  exact PpSet.codeAny_compStart_set loop (T.self X.A 0 _ _ _ st4 loop)
theorem pe_set1 {el ta ia : Expr} {ca : List Expr} {sco : Scope} {own : List (Str × Nat)} {at_ : Pos} {wi : TI} {ga : TG} {tca : TT} {te : TE} (calm : X.calm = true) (nd : X.N.Nodup) (pi : PI X ta ia wi) (ok : BlkOk X.N X.env.scope sco own)
    (pga : InBlk X sco fun Y => PG Y ta ga) (pta : InBlk X sco fun Y => PTs Y ca tca) (pel : InBlk X sco fun Y => PE Y el te)
    (fa : ∀ x, foldedSetIterable ia X.env x = pure x := by intro _; rfl) : PE X (.SetComp el [⟨ta, ia, ca, 0⟩] sco at_) (tSet1 X.w wi ga tca te (own.map (·.2))) := by
  refine ⟨fun pins s σ H Q I h => ?_⟩
  rw [PpSet.eval_SetComp]
  refine set1_core calm nd I pi ok pga pta pel fa h fun D C t m Ht It q hm fc => ⟨m, hm, fun h'' sb => ?_⟩
  obtain ⟨f0, f1, _, f3, f4, f5⟩ := fc
  exact ⟨.ref D, Ht, It.turned (t' := t.toks) (fun b o hb e => (sb.2 b hb).trans e) f0 f1 f3 f4 f5, rfl, q⟩
end
end Ft

set_option Elab.async false
set_option linter.all false
set_option maxRecDepth 100000
set_option maxHeartbeats 8000000
namespace Ft
open PySem PySem.Spec PyProof.Rows L2
theorem NetAt.chart {ka : Str → Addr} {H : Hp} {p c : Addr} {C : Chart} {bl tl rl fl : Addr} {ls : List Addr} (h : NetAt ka H p c C bl tl rl fl ls) : ∃ dx fs, H p = some (.ins (ka "Net") dx fs) ∧ fs.lookup ("chart" : Str) = some (.ref c) := by
  obtain ⟨dx, fs, e, l, _⟩ := h.ob
  exact ⟨dx, fs, e, l⟩
/-- what is there while a flow is filled -/
structure Filled (ka : Str → Addr) (K : PySem.W.Frag) (H : Hp) (f nt lo rm en c bl tl rl fl : Addr) (ls : List Addr) (C : Chart) (S F room E : List Nat) : Prop where
  ap : ApartN nt f rm en bl tl rl fl ls
  net : NetAt ka H nt c C bl tl rl fl ls
  lot : SqT K H lo (S.map vN)
  rm : H rm = some (.lst (room.map vN))
  en : H en = some (.dK (keysOf (twos E)))
  fo : FlowOk C S F room E
section
variable {P : Program} {w : World} {K : PySem.W.Frag} {mg : Str → Option Value} {base : Heap} {ka : Str → Addr}
def sp_Flow__fill (K : PySem.W.Frag) (ka : Str → Addr) : Sp := fun vs H Q _ => ∃ (f nt lo rm en c bl tl rl fl : Addr) (ls : List Addr) (C : Chart) (S F room : List Nat) (cv : V) (most : Nat), vs = [.ref f, vN most] ∧ FlowOb ka H f nt lo rm en cv ∧ Filled ka K H f nt lo rm en c bl tl rl fl ls C S F room [] ∧ C.Ok ∧ S.Nodup ∧ LotsOk C S F ∧
  ∀ (room' E : List Nat) (cm : Addr) (L : List (Nat × Option Nat)) (H' : Hp), FlowOb ka H' f nt lo rm en (.ref cm) → Filled ka K H' f nt lo rm en c bl tl rl fl ls C S F room' E → H' cm = some (.dK (cameD L)) → E.length ≤ 60 → (E.length ≤ most ∧ Closed C S room' E L) ∨ E.length = most + 1 → Kp [f, rm, en] H H' → Q .non H'
theorem calm_Flow__fill (T : Txt mg) (D : DefM K ka "Flow" "_fill" "Flow._fill" s_Flow__fill) (k_Flow : Kls K mg ka "Flow") (q_Flow : Attrs K ka "Flow" flowFs) (w_Flow__further_end : CalM P w K mg base 2 ka "Flow" "_further_end" (sp_Flow__further_end K ka)) (w_Flow__add_way : CalM P w K mg base 1 ka "Flow" "_add_way" (sp_Flow__add_way K ka)) :
    CalM P w K mg base 3 ka "Flow" "_fill" (sp_Flow__fill K ka) := by
  refine calm_of D sc_Flow__fill (fun _ _ _ _ _ _ us hl => match us, hl with | [_, _], _ => rfl) (fun vs H Q E h => ?_) (fun f cdv A outer s H vs Q E hr h => ?_)
  · obtain ⟨f, nt, lo, rm, en, c, bl, tl, rl, fl, ls, C, S, F, room, cv, most, rfl, _⟩ := h
    rfl
  · obtain ⟨f, nt, lo, rm, en, c, bl, tl, rl, fl, ls, C, S, F, room, cv, most, rfl, hO, hF, ok, ndS, lo2, q⟩ := h
    have hu := hu_of hr
    have cF := k_Flow.cl
    have aEnd : NoAttr K (ka "Flow") "ended" := q_Flow _ (by decide)
    have wlen := up_len ok.upW ok.inW
    have n60 := ok.n60
    have apart : ∀ {H' : Hp} {xs : List V} {kvs : List (Key × V)} {cv : V}, FlowOb ka H' f nt lo rm en cv → H' rm = some (.lst xs) → H' en = some (.dK kvs) → f ∉ [rm, en] := fun h h1 h2 m => by
      obtain ⟨dx, fs, e, _⟩ := h.ex
      simp only [List.mem_cons, List.not_mem_nil, or_false] at m
      rcases m with z | z
      · rw [z, h1] at e; cases e
      · rw [z, h2] at e; cases e
    have lst3 : ∀ {H' : Hp} {xs : List V} {kvs : List (Key × V)} {cv : V}, FlowOb ka H' f nt lo rm en cv → H' rm = some (.lst xs) → H' en = some (.dK kvs) → Lists [f, rm, en] H' := fun h h1 h2 b hb => by
      obtain ⟨dx, fs, e, _⟩ := h.ex
      simp only [List.mem_cons, List.not_mem_nil, or_false] at hb
      rcases hb with z | z | z
      · rw [z]; exact ⟨_, e, (fun _ z => nomatch z), (fun _ _ z => nomatch z)⟩
      · rw [z]; exact ⟨_, h1, (fun _ z => nomatch z), (fun _ _ z => nomatch z)⟩
      · rw [z]; exact ⟨_, h2, (fun _ z => nomatch z), (fun _ _ z => nomatch z)⟩
    have wide : ∀ {H' H'' : Hp}, Kp [f] H' H'' → Kp [f, rm, en] H' H'' := fun k z o nz ez => k z o (fun m => nz (by rw [List.mem_singleton.mp m]; simp)) ez
    have wide2 : ∀ {H' H'' : Hp}, Kp [rm, en] H' H'' → Kp [f, rm, en] H' H'' := fun k z o nz ez => k z o (fun m => nz (by simp at m ⊢; exact .inr m)) ez
    have look : ∀ {H1 : Hp} {cv1 : V} {room1 E1 : List Nat} {R : VK}, Kp [f, rm, en] H H1 → FlowOb ka H1 f nt lo rm en cv1 → Filled ka K H1 f nt lo rm en c bl tl rl fl ls C S F room1 E1 →
        (∀ (v : V) (cm : Addr) (L : List (Nat × Option Nat)) (H2 : Hp), cm ≠ en → H2 cm = some (.dK (cameD L)) → FlowOb ka H2 f nt lo rm en (.ref cm) → Filled ka K H2 f nt lo rm en c bl tl rl fl ls C S F room1 E1 → Kp [f, rm, en] H H2 → Found C S room1 E1 v L → R v H2) → sp_Flow__further_end K ka [.ref f] H1 R E := by
      intro H1 cv1 room1 E1 R k1 hO1 h1 q1
      refine ⟨f, nt, lo, rm, en, c, bl, tl, rl, fl, ls, cv1, C, S, room1, E1, rfl, h1.ap.nf, hO1, h1.net, ok, h1.lot, ndS, lo2.inS, h1.rm, h1.fo.len, h1.en, fun v cm L H2 n0 hL hO2 k2 fd => ?_⟩
      have nf := apart hO1 h1.rm h1.en
      have nfr : rm ∉ [f] := fun m => nf (by rw [List.mem_singleton.mp m]; simp)
      have nfe : en ∉ [f] := fun m => nf (by rw [List.mem_singleton.mp m]; simp)
      obtain ⟨dx, fs, e, _⟩ := hO1.ex
      have nn : ∀ z ∈ nt :: bl :: tl :: rl :: fl :: ls, z ∉ [f] := fun z hz m => by
        have ez := List.mem_singleton.mp m
        subst ez
        simp only [List.mem_cons, List.not_mem_nil, or_false] at hz
        have noL : ∀ {y : Addr} {ys : List V}, H1 y = some (.lst ys) → z ≠ y := fun e' q => by rw [q, e'] at e; cases e
        rcases hz with h | h | h | h | h | h
        · exact h1.ap.nf h.symm
        · exact noL h1.net.top h
        · exact noL h1.net.tow h
        · exact noL h1.net.rms h
        · have := h1.net.fin
          rw [← h, e] at this
          cases this
        · obtain ⟨i, hi⟩ := List.getElem?_of_mem h
          exact noL (h1.net.each i z hi) rfl
      have l1 : Lists [f] H1 := fun b hb => by
        rw [List.mem_singleton.mp hb]
        exact ⟨_, e, (fun _ z => nomatch z), (fun _ _ z => nomatch z)⟩
      exact q1 v cm L H2 (fun z => by rw [z, h1.en] at n0; cases n0) hL hO2 ⟨h1.ap, h1.net.kp k2 nn, k2.sqT l1 h1.lot, k2 _ _ nfr h1.rm, k2 _ _ nfe h1.en, h1.fo⟩ (k1.trans (wide k2)) fd
    refine ⟨_, (pss_cons (ps_set (i := 2) sc_Flow__fill.nd rfl (Or.inl rfl) (pe_m0 w_Flow__further_end k_Flow hr (by decide) (pv 0)))
      (pss_one (ps_while PassesOwn.never (pt_cmpR op_notN (pv 2) pe_non (nomark _)) (pss_cons (ps_expr (pe_m w_Flow__add_way k_Flow hr (by decide) (pv 0) (pa_cons (pv 2) pa_nil)))
        (pss_one (ps_set (i := 2) sc_Flow__fill.nd rfl (Or.inl rfl) (pe_mid (pe_ifExp (pt_cmpR op_le (pe_callB call_lenD (by rfl) T.len (by decide +kernel) (pa_cons (show PE _ _ (tFld K _ _) from pe_fldD (pv 0)) pa_nil)) (pv 1) (nomark _)) (pe_m0 w_Flow__further_end k_Flow hr (by decide) (pv 0)) pe_non)))))))), ?_⟩
    obtain ⟨dxF, fsF, eF, l1, l2, l3, l4, l5, l6, l7⟩ := id hO.ex
    refine ⟨_, rfl, f, dxF, fsF, rfl, eF, l6 _ (by decide), ?_⟩
    refine look (Kp.refl _ _) hO hF fun v cm L H2 nce hL hO2 h2 k2 fd => ?_
    refine at_name ?_
    refine ⟨fun m σ H' => ∃ (room E : List Nat) (cm : Addr) (L : List (Nat × Option Nat)) (v : V), σ = [some (.ref f), some (vN most), some v] ∧ Kp [f, rm, en] H H' ∧ FlowOb ka H' f nt lo rm en (.ref cm) ∧ Filled ka K H' f nt lo rm en c bl tl rl fl ls C S F room E ∧ H' cm = some (.dK (cameD L)) ∧ cm ≠ en ∧ ((Found C S room E v L ∧ E.length ≤ most) ∨ (v = .non ∧ E.length = most + 1)) ∧ 61 - E.length = m,
      ⟨_, room, [], cm, L, v, rfl, k2, hO2, h2, hL, nce, .inl ⟨fd, Nat.zero_le _⟩, rfl⟩, ?_⟩
    rintro m σ H3 ⟨room3, E3, cm3, L3, v3, rfl, k3, hO3, h3, hL3, nce3, st, em⟩
    have e60 : E3.length ≤ 60 := Nat.le_trans (nodup_len_le h3.fo.nd fun x hx => h3.fo.inE x hx) (by omega)
    rcases st with ⟨fd3, lm⟩ | ⟨rfl, lm⟩
    · cases fd3 with
      | none cl =>
        refine ⟨_, rfl, rfl, _, rfl, iteF ?_⟩
        exact q room3 E3 cm3 L3 H3 hO3 h3 hL3 e60 (.inl ⟨lm, cl⟩) k3
      | @some _ wd tr hk hw hnE =>
        refine ⟨_, rfl, rfl, _, rfl, iteT ⟨fun σ' H' => ∃ m', m' < m ∧ ∃ (room E : List Nat) (cm : Addr) (L : List (Nat × Option Nat)) (v : V), σ' = [some (.ref f), some (vN most), some v] ∧ Kp [f, rm, en] H H' ∧ FlowOb ka H' f nt lo rm en (.ref cm) ∧ Filled ka K H' f nt lo rm en c bl tl rl fl ls C S F room E ∧ H' cm = some (.dK (cameD L)) ∧ cm ≠ en ∧ ((Found C S room E v L ∧ E.length ≤ most) ∨ (v = .non ∧ E.length = most + 1)) ∧ 61 - E.length = m', fun _ _ h => h, ?_⟩⟩
        obtain ⟨dx3, fs3, e3, _, _, _, _, _, l63, _⟩ := id hO3.ex
        have nf3 := apart hO3 h3.rm h3.en
        have ap3 := h3.ap.all h3.net h3.rm h3.en
        refine ⟨_, rfl, f, dx3, fs3, rfl, e3, l63 _ (by decide), _, rfl, f, nt, lo, rm, en, cm3, c, bl, tl, rl, fl, ls, C, S, room3, E3, L3, wd, rfl, h3.ap, nce3, hO3, h3.net, ok, h3.rm, h3.fo.len, h3.en, by omega, hL3, tr, hk, hnE, fun ps H4 hb bok hR4 hE4 k4 => ?_⟩
        have fo4 := h3.fo.more lo2 tr hw hnE hb bok
        have e61 : (E3 ++ [wd]).length ≤ 60 := Nat.le_trans (nodup_len_le fo4.nd fun x hx => fo4.inE x hx) (by omega)
        have l23 : Lists [rm, en] H3 := fun b hb => by
          simp only [List.mem_cons, List.not_mem_nil, or_false] at hb
          rcases hb with z | z
          · rw [z]; exact ⟨_, h3.rm, (fun _ z => nomatch z), (fun _ _ z => nomatch z)⟩
          · rw [z]; exact ⟨_, h3.en, (fun _ z => nomatch z), (fun _ _ z => nomatch z)⟩
        have h4 : Filled ka K H4 f nt lo rm en c bl tl rl fl ls C S F (pushes room3 ps) (E3 ++ [wd]) := ⟨h3.ap, h3.net.kp k4 ap3, k4.sqT l23 h3.lot, hR4, hE4, fo4⟩
        have hO4 := hO3.kp k4 nf3
        have k04 := k3.trans (wide2 k4)
        have ncr : cm3 ∉ [rm, en] := fun m => by
          simp only [List.mem_cons, List.not_mem_nil, or_false] at m
          rcases m with z | z
          · rw [z, h3.rm] at hL3; cases hL3
          · exact nce3 z
        have hL4 := k4 _ _ ncr hL3
        rw [List.length_append, List.length_singleton] at e61
        have less : 61 - (E3 ++ [wd]).length < m := by rw [List.length_append, List.length_singleton]; omega
        have el4 : (keysOf (twos (E3 ++ [wd]))).length = E3.length + 1 := by rw [keysOf_len]; unfold twos; rw [List.length_map, List.length_append]; rfl
        obtain ⟨dx4, fs4, e4, _, _, _, l44, _, l64, _⟩ := id hO4.ex
        refine ⟨fun v H' => ∃ (cm : Addr) (L : List (Nat × Option Nat)), Kp [f, rm, en] H H' ∧ FlowOb ka H' f nt lo rm en (.ref cm) ∧ Filled ka K H' f nt lo rm en c bl tl rl fl ls C S F (pushes room3 ps) (E3 ++ [wd]) ∧ H' cm = some (.dK (cameD L)) ∧ cm ≠ en ∧ ((Found C S (pushes room3 ps) (E3 ++ [wd]) v L ∧ (E3 ++ [wd]).length ≤ most) ∨ (v = .non ∧ (E3 ++ [wd]).length = most + 1)), ?_, ?_⟩
        · refine ⟨_, rfl, f, _, dx4, fs4, _, rfl, e4, cF, aEnd, l44, en, _, rfl, hE4, _, rfl, _, _, rfl, rfl, _, rfl, ite_any (fun hc => ?_) (fun hc => ?_)⟩
          · rw [el4] at hc
            have lm' : E3.length + 1 ≤ most := by
              have z : ((E3.length + 1 : Nat) : Int) ≤ (most : Int) := of_decide_eq_true hc
              omega
            refine ⟨_, rfl, f, dx4, fs4, rfl, e4, l64 _ (by decide), ?_⟩
            refine look k04 hO4 h4 fun v cm L H5 nce hL hO5 h5 k5 fd => ⟨cm, L, k5, hO5, h5, hL, nce, .inl ⟨fd, by rw [List.length_append]; exact lm'⟩⟩
          · rw [el4] at hc
            have lm' : ¬ (E3.length + 1 ≤ most) := by
              have z : ¬ (((E3.length + 1 : Nat) : Int) ≤ (most : Int)) := of_decide_eq_false hc
              omega
            exact ⟨cm3, L3, k04, hO4, h4, hL4, nce3, .inr ⟨rfl, by rw [List.length_append, List.length_singleton]; omega⟩⟩
        · rintro v H5 ⟨cm5, L5, k5, hO5, h5, hL5, nce5, st5⟩
          exact ⟨_, less, pushes room3 ps, E3 ++ [wd], cm5, L5, v, rfl, k5, hO5, h5, hL5, nce5, st5, rfl⟩
    · refine ⟨_, rfl, rfl, _, rfl, iteF ?_⟩
      exact q room3 E3 cm3 L3 H3 hO3 h3 hL3 e60 (.inr lm) k3
end
end Ft

set_option Elab.async false
set_option linter.all false
set_option maxRecDepth 100000
set_option maxHeartbeats 8000000
namespace Ft
open PySem PySem.Spec PyProof.Rows L2
/-- a flow, done -/
def FlowAt (ka : Str → Addr) (K : PySem.W.Frag) (H : Hp) (f c : Addr) (C : Chart) (S F : List Nat) (most : Nat) (E : List Nat) : Prop := ∃ (nt lo rm en cm bl tl rl fl : Addr) (ls : List Addr) (room : List Nat) (L : List (Nat × Option Nat)),
  FlowOb ka H f nt lo rm en (.ref cm) ∧ Filled ka K H f nt lo rm en c bl tl rl fl ls C S F room E ∧ H cm = some (.dK (cameD L)) ∧ E.length ≤ 60 ∧ ((E.length ≤ most ∧ Closed C S room E L) ∨ E.length = most + 1)
theorem Filled.same {ka : Str → Addr} {K : PySem.W.Frag} {H H' : Hp} {f nt lo rm en c bl tl rl fl : Addr} {ls : List Addr} {C : Chart} {S F room E : List Nat} (s : Same H H') (h : Filled ka K H f nt lo rm en c bl tl rl fl ls C S F room E) : Filled ka K H' f nt lo rm en c bl tl rl fl ls C S F room E :=
  ⟨h.ap, h.net.same s, Same.sqT s h.lot, s _ _ h.rm, s _ _ h.en, h.fo⟩
theorem FlowAt.same {ka : Str → Addr} {K : PySem.W.Frag} {H H' : Hp} {f c : Addr} {C : Chart} {S F : List Nat} {most : Nat} {E : List Nat} (s : Same H H') (h : FlowAt ka K H f c C S F most E) : FlowAt ka K H' f c C S F most E := by
  obtain ⟨nt, lo, rm, en, cm, bl, tl, rl, fl, ls, room, L, h1, h2, h3, h4⟩ := h
  exact ⟨nt, lo, rm, en, cm, bl, tl, rl, fl, ls, room, L, h1.same s, h2.same s, s _ _ h3, h4⟩
/-- gates set to one number -/
def setG (v : Nat) (r : List Nat) (l : List Nat) : List Nat := l.foldl (fun r a => r.set (2 * a) v) r
theorem setG_len (v : Nat) : ∀ (l r : List Nat), (setG v r l).length = r.length
  | [], r => rfl
  | a :: l, r => by
    show (setG v (r.set (2 * a) v) l).length = _
    rw [setG_len v l, List.length_set]
theorem setG_snoc (v : Nat) (r l : List Nat) (a : Nat) : setG v r (l ++ [a]) = (setG v r l).set (2 * a) v := by
  unfold setG
  rw [List.foldl_append]
  rfl
theorem setG_get {v : Nat} : ∀ {l r : List Nat} {q : Nat}, q < r.length → (setG v r l).getD q 0 = if ∃ a ∈ l, q = 2 * a then v else r.getD q 0
  | [], r, q, h => by
    rw [if_neg (fun ⟨_, m, _⟩ => nomatch m)]
    rfl
  | a :: l, r, q, h => by
    show (setG v (r.set (2 * a) v) l).getD q 0 = _
    rw [setG_get (l := l) (by rw [List.length_set]; exact h), getD_set]
    by_cases h1 : ∃ b ∈ l, q = 2 * b
    · obtain ⟨b, hb, e⟩ := h1
      rw [if_pos ⟨b, hb, e⟩, if_pos ⟨b, List.mem_cons_of_mem _ hb, e⟩]
    · rw [if_neg h1]
      by_cases h2 : 2 * a = q
      · rw [if_pos ⟨h2, by omega⟩, if_pos ⟨a, List.mem_cons_self, h2.symm⟩]
      · rw [if_neg (fun z => h2 z.1), if_neg]
        rintro ⟨b, hb, e⟩
        rcases List.mem_cons.mp hb with x | hb
        · exact h2 (by rw [← x, e])
        · exact h1 ⟨b, hb, e⟩
theorem rms_even : ∀ {A : List Arc} {i : Nat} {a : Arc}, A[i]? = some a → (rms A).getD (2 * i) 0 = a.cap
  | b :: A, 0, a, h => by simp at h; subst h; rfl
  | b :: A, i + 1, a, h => by
    have := rms_even (A := A) (i := i) (a := a) (by simpa using h)
    show (b.cap :: 0 :: rms A).getD (2 * (i + 1)) 0 = _
    rw [show 2 * (i + 1) = 2 * i + 1 + 1 by omega]
    exact this
theorem rms_odd : ∀ {A : List Arc} {i : Nat}, (rms A).getD (2 * i + 1) 0 = 0
  | [], i => by simp [rms]
  | b :: A, 0 => rfl
  | b :: A, i + 1 => by
    have := rms_odd (A := A) (i := i)
    show (b.cap :: 0 :: rms A).getD (2 * (i + 1) + 1) 0 = _
    rw [show 2 * (i + 1) + 1 = 2 * i + 1 + 1 + 1 by omega]
    exact this
theorem start_room {C : Chart} {S F : List Nat} (lo : LotsOk C S F) : FlowOk C S F (setG 0 (setG 61 (rms (netA C)) F) S) [] := by
  have l0 : (setG 61 (rms (netA C)) F).length = 2 * (netA C).length := by rw [setG_len, rms_len]
  refine FlowOk.start (by rw [setG_len]; exact l0) fun i hi => ?_
  have ha : (netA C)[i]? = some (netA C)[i] := List.getElem?_eq_getElem hi
  constructor
  · rw [setG_get (by omega), setG_get (by rw [rms_len]; omega), rms_even ha]
    unfold capOf gateCap
    have sh : ∀ l : List Nat, (∃ a ∈ l, 2 * i = 2 * a) ↔ i ∈ l := fun l => ⟨fun ⟨a, h, e⟩ => by
      have : i = a := by omega
      rw [this]; exact h, fun h => ⟨i, h, rfl⟩⟩
    by_cases hn : i < C.n
    · rw [if_pos hn]
      have g := net_gate (C := C) hn
      rw [ha] at g
      have gc : (netA C)[i].cap = if i ∈ C.wished then 0 else 1 := by rw [Option.some.inj g]
      rw [gc]
      by_cases h1 : i ∈ S
      · rw [if_pos ((sh S).mpr h1), if_pos h1]
      · rw [if_neg (fun z => h1 ((sh S).mp z)), if_neg h1]
        by_cases h2 : i ∈ F
        · rw [if_pos ((sh F).mpr h2), if_pos h2]
        · rw [if_neg (fun z => h2 ((sh F).mp z)), if_neg h2]
    · rw [if_neg hn, if_neg (fun z => hn (lo.inS i ((sh S).mp z))), if_neg (fun z => hn (lo.inF i ((sh F).mp z)).1)]
      have m : (netA C)[i] ∈ roadsA C := by
        unfold netA at ha
        rw [List.getElem?_append_right (by rw [gates_len]; omega)] at ha
        exact List.mem_of_getElem? ha
      unfold roadsA at m
      obtain ⟨p, _, e⟩ := List.mem_map.mp m
      rw [← e]
  · rw [setG_get (by omega), setG_get (by rw [rms_len]; omega), rms_odd]
    rw [if_neg (fun ⟨a, _, e⟩ => by omega), if_neg (fun ⟨a, _, e⟩ => by omega)]
section
variable {P : Program} {w : World} {K : PySem.W.Frag} {mg : Str → Option Value} {base : Heap} {ka : Str → Addr}
def sp_Flow___init__ (K : PySem.W.Frag) (ka : Str → Addr) : Sp := fun vs H Q _ => ∃ (p nt lo fr c bl tl rl fl : Addr) (ls : List Addr) (C : Chart) (S F : List Nat) (most : Nat), vs = [.ref p, .ref nt, .ref lo, .ref fr, vN most] ∧ nt ≠ p ∧ ObjAt H p (ka "Flow") 0 (fun _ => none) ∧ NetAt ka H nt c C bl tl rl fl ls ∧ C.Ok ∧ SqT K H lo (S.map vN) ∧ SqT K H fr (F.map vN) ∧ S.Nodup ∧ LotsOk C S F ∧ F.length ≤ 60 ∧
  ∀ H' E, FlowAt ka K H' p c C S F most E → Kp [p] H H' → Q .non H'
theorem calm_Flow___init__ (T : Txt mg) (D : DefM K ka "Flow" "__init__" "Flow.__init__" s_Flow___init__) (k_Net : Kls K mg ka "Net") (q_Net : Attrs K ka "Net" netFs) (k_Flow : Kls K mg ka "Flow") (q_Flow : Attrs K ka "Flow" flowFs) (m_MANY : MgI mg "MANY" 61) (c_gate : Cal P w K mg base 1 "gate" sp_gate)
    (w_Flow__fill : CalM P w K mg base 3 ka "Flow" "_fill" (sp_Flow__fill K ka)) : CalM P w K mg base 4 ka "Flow" "__init__" (sp_Flow___init__ K ka) := by
  refine calm_of D sc_Flow___init__ (fun _ _ _ _ _ _ us hl => match us, hl with | [_, _, _, _, _], _ => rfl) (fun vs H Q E h => ?_) (fun f cdv A outer s H vs Q E hr h => ?_)
  · obtain ⟨p, nt, lo, fr, c, bl, tl, rl, fl, ls, C, S, F, most, rfl, _⟩ := h
    rfl
  · obtain ⟨p, nt, lo, fr, c, bl, tl, rl, fl, ls, C, S, F, most, rfl, nnp, hO, hN, ok, hS, hFr, ndS, lo2, few, q⟩ := h
    have hu := hu_of hr
    have n60 := ok.n60
    have cN := k_Net.cl
    have cF := k_Flow.cl
    have aNet : NoAttr K (ka "Flow") "net" := q_Flow _ (by decide)
    have aLot : NoAttr K (ka "Flow") "lot" := q_Flow _ (by decide)
    have aRoom : NoAttr K (ka "Flow") "room" := q_Flow _ (by decide)
    have aEnd : NoAttr K (ka "Flow") "ended" := q_Flow _ (by decide)
    have aCame : NoAttr K (ka "Flow") "came" := q_Flow _ (by decide)
    have aR : NoAttr K (ka "Net") "rooms" := q_Net _ (by decide)
    have netB : (netA C).length ≤ 300 := by
      have := net_len C
      have := ok.many
      omega
    have ndl := len_of_lt S C.n ndS lo2.inS
    refine ⟨_, (pss_cons (ps_fld (pv 0) (pv 1) rfl)
      (pss_cons (ps_fld (pv 0) (pv 2) rfl)
      (pss_cons (ps_fld (pv 0) (pe_callTy (show CallR _ _ (rListOf K) from call_listOf) (by rfl) T.list (by decide +kernel) (pa_cons (show PE _ _ (tFld K _ _) from pe_fldD (pv 1)) pa_nil)) rfl)
      (pss_cons (ps_for PassesOwn.never rfl (show PI _ _ _ (iTup K _) from pi_tup (pv 3)) (pg_name (i := 5) sc_Flow___init__.nd rfl (Or.inl rfl)) (pss_one (ps_asg (pe_globI (n := 61) rfl m_MANY) (pg_sub (show PE _ _ (tFld K _ _) from pe_fldD (pv 0)) (pe_c c_gate hr (by decide) (by rfl) (pa_cons (pv 5) pa_nil)) set_list))))
      (pss_cons (ps_for PassesOwn.never rfl (show PI _ _ _ (iTup K _) from pi_tup (pv 2)) (pg_name (i := 5) sc_Flow___init__.nd rfl (Or.inl rfl)) (pss_one (ps_asg pe_int (pg_sub (show PE _ _ (tFld K _ _) from pe_fldD (pv 0)) (pe_c c_gate hr (by decide) (by rfl) (pa_cons (pv 5) pa_nil)) set_list))))
      (pss_cons (ps_fld (pv 0) pe_dnewK rfl)
      (pss_cons (ps_fld (pv 0) pe_dnewK rfl)
      (pss_one (ps_expr (pe_m w_Flow__fill k_Flow hr (by decide) (pv 0) (pa_cons (pv 4) pa_nil))))))))))), ?_⟩
    have hlp : ∀ {H' : Hp} {n : Nat} {look : Str → Option V}, ObjAt H' p (ka "Flow") n look → Lists [p] H' := fun h b hb => by
      rw [List.mem_singleton.mp hb]
      obtain ⟨dx, fs, e, _⟩ := h.ex
      exact ⟨_, e, (fun _ z => nomatch z), (fun _ _ z => nomatch z)⟩
    have netp : ∀ z ∈ nt :: bl :: tl :: rl :: fl :: ls, z ∉ [p] := fun z hz m => by
      have ez := List.mem_singleton.mp m
      subst ez
      obtain ⟨dx, fs, e, _⟩ := hO.ex
      simp only [List.mem_cons, List.not_mem_nil, or_false] at hz
      have noL : ∀ {y : Addr} {ys : List V}, H y = some (.lst ys) → z ≠ y := fun e' q => by rw [q, e'] at e; cases e
      rcases hz with h | h | h | h | h | h
      · exact nnp h.symm
      · exact noL hN.top h
      · exact noL hN.tow h
      · exact noL hN.rms h
      · have := hN.fin
        rw [← h, e] at this
        cases this
      · obtain ⟨i, hi⟩ := List.getElem?_of_mem h
        exact noL (hN.each i z hi) rfl
    refine ⟨_, rfl, _, rfl, fld_store hO (by decide) cF aNet fun H1 hO1 k1 => ?_⟩
    refine ⟨_, rfl, _, rfl, fld_store hO1 (by decide) cF aLot fun H2 hO2 k2 => ?_⟩
    have k02 := k1.trans k2
    have hN2 := hN.kp k02 netp
    have hS2 := k02.sqT (hlp hO) hS
    have hFr2 := k02.sqT (hlp hO) hFr
    obtain ⟨dxN, fsN, eN, _, _, _, lR, _⟩ := hN2.ob
    refine ⟨_, rfl, nt, _, dxN, fsN, _, rfl, eN, cN, aR, lR, rl, _, rfl, .inl (.inl (.inl hN2.rms)), fun rm hrm => ?_⟩
    generalize eH3 : upd H2 rm _ = H3
    have s3 : Same H2 H3 := by rw [← eH3]; exact same_upd hrm
    have hR3 : H3 rm = some (.lst ((rms (netA C)).map vN)) := by rw [← eH3]; exact upd_same
    clear eH3
    obtain ⟨oP, eP⟩ := hO2.there
    have nrp : rm ≠ p := (ne_of_none eP hrm).symm
    refine ⟨_, rfl, fld_store (hO2.same s3) (by decide) cF aRoom fun H4 hO4 k4 => ?_⟩
    have hR4 : H4 rm = some (.lst ((rms (netA C)).map vN)) := k4 _ _ (by simpa using nrp) hR3
    have k24 : Kp [p] H2 H4 := (Kp.of_same s3).trans k4
    have hN4 := hN2.kp k24 netp
    have hS4 := k24.sqT (hlp hO2) hS2
    have hFr4 := k24.sqT (hlp hO2) hFr2
    have rmL : rm ∉ bl :: tl :: rl :: ls := fun m => by
      have h : ∃ o, H2 rm = some o := by
        simp only [List.mem_cons] at m
        rcases m with z | z | z | z
        · rw [z]; exact ⟨_, hN2.top⟩
        · rw [z]; exact ⟨_, hN2.tow⟩
        · rw [z]; exact ⟨_, hN2.rms⟩
        · obtain ⟨i, hi⟩ := List.getElem?_of_mem z
          exact ⟨_, hN2.each i rm hi⟩
      obtain ⟨o, h⟩ := h
      rw [hrm] at h
      cases h
    obtain ⟨dx4, fs4, e4, lk4, _⟩ := id hO4.ex
    have lRoom : fs4.lookup ("room" : Str) = some (.ref rm) := by rw [lk4]; exact setA_at
    have npr : p ∉ [rm] := fun m => nrp (List.mem_singleton.mp m).symm
    have room4 := rms_len (netA C)
    refine ⟨_, rfl, fr, rfl, ⟨_, hFr4⟩, for_tup (K := K) (xs := F.map vN) (fun i σ H' => ∃ v5 : Option V, σ = [some (.ref p), some (.ref nt), some (.ref lo), some (.ref fr), some (vN most), v5] ∧ Kp [rm] H4 H' ∧ H' rm = some (.lst ((setG 61 (rms (netA C)) (F.take i)).map vN))) ⟨_, rfl, Kp.refl _ _, hR4⟩ (fun i σ H' _ ⟨_, _, k, _⟩ => k.sqT (lists_one hR4) hFr4) ?_ ?_⟩
    · rintro i x σ H5 hx ⟨v5, rfl, k5, hR5⟩
      obtain ⟨a, ha, rfl⟩ := get_map hx
      have hain := (lo2.inF a (List.mem_of_getElem? ha)).1
      refine at_name ?_
      have e5 := k5 _ _ npr e4
      have gl : 2 * a < (setG 61 (rms (netA C)) (F.take i)).length := by
        rw [setG_len, room4]
        have := gates_len C
        unfold netA
        rw [List.length_append]
        omega
      refine ⟨_, rfl, p, _, dx4, fs4, _, rfl, e5, cF, aRoom, lRoom, _, rfl, a, rfl, by omega, rm, _, _, _, rfl, rfl, hR5, ixN_nat (by rw [List.length_map]; exact gl), _, rfl, kp_put k5, ?_⟩
      rw [upd_same, take_more ha, setG_snoc, ← set_vN]
      rfl
    rintro σ H5 ⟨v5, rfl, k5, hR5⟩
    rw [List.length_map, List.take_length] at hR5
    have hS5 := k5.sqT (lists_one hR4) hS4
    obtain ⟨r1, er1⟩ : ∃ r1, setG 61 (rms (netA C)) F = r1 := ⟨_, rfl⟩
    rw [er1] at hR5
    have lr1 : r1.length = 2 * (netA C).length := by rw [← er1, setG_len, rms_len]
    refine ⟨_, rfl, lo, rfl, ⟨_, hS5⟩, for_tup (K := K) (xs := S.map vN) (fun i σ H' => ∃ v5 : Option V, σ = [some (.ref p), some (.ref nt), some (.ref lo), some (.ref fr), some (vN most), v5] ∧ Kp [rm] H5 H' ∧ H' rm = some (.lst ((setG 0 r1 (S.take i)).map vN))) ⟨_, rfl, Kp.refl _ _, hR5⟩ (fun i σ H' _ ⟨_, _, k, _⟩ => k.sqT (lists_one hR5) hS5) ?_ ?_⟩
    · rintro i x σ H6 hx ⟨v6, rfl, k6, hR6⟩
      obtain ⟨a, ha, rfl⟩ := get_map hx
      have hain := lo2.inS a (List.mem_of_getElem? ha)
      refine at_name ?_
      have e6 := k6 _ _ npr (k5 _ _ npr e4)
      have gl : 2 * a < (setG 0 r1 (S.take i)).length := by
        rw [setG_len, lr1]
        have := gates_len C
        unfold netA
        rw [List.length_append]
        omega
      refine ⟨_, rfl, p, _, dx4, fs4, _, rfl, e6, cF, aRoom, lRoom, _, rfl, a, rfl, by omega, rm, _, _, _, rfl, rfl, hR6, ixN_nat (by rw [List.length_map]; exact gl), _, rfl, kp_put k6, ?_⟩
      rw [upd_same, take_more ha, setG_snoc, ← set_vN]
      rfl
    rintro σ H6 ⟨v6, rfl, k6, hR6⟩
    rw [List.length_map, List.take_length, ← er1] at hR6
    have k46 := k5.trans k6
    have hN6 : NetAt ka H6 nt c C bl tl rl fl ls := hN4.kp k46 fun z hz m => by
      have ez := List.mem_singleton.mp m
      subst ez
      simp only [List.mem_cons] at hz
      rcases hz with h | h | h | h | h | h
      · obtain ⟨dx, fs, e, _⟩ := hN4.ob
        rw [← h, hR4] at e
        cases e
      · exact rmL (by simp [h])
      · exact rmL (by simp [h])
      · exact rmL (by simp [h])
      · have := hN4.fin
        rw [← h, hR4] at this
        cases this
      · exact rmL (by simp [h])
    have hS6 := k46.sqT (lists_one hR4) hS4
    have hO6 : ObjAt H6 p (ka "Flow") _ _ := hO4.keep k46 npr
    refine fun en hen => ?_
    generalize eH7 : upd H6 en _ = H7
    have s7 : Same H6 H7 := by rw [← eH7]; exact same_upd hen
    have hE7 : H7 en = some (.dK []) := by rw [← eH7]; exact upd_same
    clear eH7
    obtain ⟨oP6, eP6⟩ := hO6.there
    have nep : en ≠ p := (ne_of_none eP6 hen).symm
    refine ⟨_, rfl, fld_store (hO6.same s7) (by decide) cF aEnd fun H8 hO8 k8 => ?_⟩
    refine fun ce hce => ?_
    generalize eH9 : upd H8 ce _ = H9
    have s9 : Same H8 H9 := by rw [← eH9]; exact same_upd hce
    clear eH9
    refine ⟨_, rfl, fld_store (hO8.same s9) (by decide) cF aCame fun H10 hO10 k10 => ?_⟩
    have k610 : Kp [p] H6 H10 := (((Kp.of_same s7).trans k8).trans (Kp.of_same s9)).trans k10
    have hE10 : H10 en = some (.dK (keysOf (twos []))) := k10 _ _ (by simpa using nep) (s9 _ _ (k8 _ _ (by simpa using nep) hE7))
    have hR10 : H10 rm = some (.lst ((setG 0 (setG 61 (rms (netA C)) F) S).map vN)) := k610 _ _ (by simpa using nrp) hR6
    have hN10 := hN6.kp k610 netp
    have hS10 := k610.sqT (hlp hO6) hS6
    obtain ⟨dx, fs, e10, lk, hl⟩ := hO10.ex
    have hOb : FlowOb ka H10 p nt lo rm en (.ref ce) := by
      refine ⟨dx, fs, e10, ?_, ?_, ?_, ?_, ?_, fun m hm => ?_, by omega⟩
      · rw [lk, setA_off (by decide), setA_off (by decide), setA_off (by decide), setA_off (by decide)]; exact setA_at
      · rw [lk, setA_off (by decide), setA_off (by decide), setA_off (by decide)]; exact setA_at
      · rw [lk, setA_off (by decide), setA_off (by decide)]; exact setA_at
      · rw [lk, setA_off (by decide)]; exact setA_at
      · rw [lk]; exact setA_at
      · have nm : m ∉ flowFs := fun z => by
          revert hm z
          simp only [flowMs, flowFs, List.mem_cons, List.not_mem_nil, or_false]
          rintro (h | h | h | h | h | h | h | h | h | h) <;> subst h <;> decide
        simp only [flowFs, List.mem_cons, List.not_mem_nil, or_false, not_or] at nm
        rw [lk, setA_off nm.2.2.2.2, setA_off nm.2.2.2.1, setA_off nm.2.2.1, setA_off nm.2.1, setA_off nm.1]
    have apn : ApartN nt p rm en bl tl rl fl ls := ⟨nnp, rmL, fun z => by
      have := hN6.fin
      rw [← z, hen] at this
      cases this⟩
    have nfill : fs.lookup ("_fill" : Str) = none := by
      rw [lk, setA_off (by decide), setA_off (by decide), setA_off (by decide), setA_off (by decide), setA_off (by decide)]
    refine ⟨_, rfl, p, dx, fs, rfl, e10, nfill, _, rfl, p, nt, lo, rm, en, c, bl, tl, rl, fl, ls, C, S, F, _, .ref ce, most, rfl, hOb, ⟨apn, hN10, hS10, hR10, hE10, start_room lo2⟩, ok, ndS, lo2, fun room' E' cm L H' hO' hF' hL' e60 st k' => ?_⟩
    refine q H' E' ⟨nt, lo, rm, en, cm, bl, tl, rl, fl, ls, room', L, hO', hF', hL', e60, st⟩ fun z o nz ez => ?_
    have ez2 := k02 _ _ nz ez
    have ez4 := k24 _ _ nz ez2
    have n1 : z ≠ rm := ne_of_none ez2 hrm
    have ez6 := k46 _ _ (by simpa using n1) ez4
    have n2 : z ≠ en := ne_of_none ez6 hen
    exact k' _ _ (by simp at nz ⊢; exact ⟨nz, n1, n2⟩) (k610 _ _ nz ez6)
end
end Ft

set_option Elab.async false
set_option linter.all false
set_option maxRecDepth 100000
set_option maxHeartbeats 4000000
/-! Plain mathematics: the law's own way of meeting places, row by row -/
namespace Ft
structure Layer (n : Nat) (rs : List (Nat × Nat)) (ws : List Nat) (a : Nat) (F W : List Nat) : Prop where
  nd : F.Nodup
  lt : ∀ b ∈ F, b < n
  fair : ∀ b ∈ F, Reach rs ws a b
  wait : ∀ x ∈ W, x = a ∨ (x ∈ F ∧ x ∉ ws)
  ok : ∀ x, (x = a ∨ (x ∈ F ∧ x ∉ ws)) → x ∈ W ∨ ∀ b, (x, b) ∈ rs → b ∈ F
theorem Layer.start {n : Nat} {rs : List (Nat × Nat)} {ws : List Nat} {a : Nat} : Layer n rs ws a [] [a] :=
  ⟨List.nodup_nil, fun _ h => absurd h List.not_mem_nil, fun _ h => absurd h List.not_mem_nil, fun x h => .inl (List.mem_singleton.mp h), fun x h => by
    rcases h with h | h
    · exact .inl (List.mem_singleton.mpr h)
    · exact absurd h.1 List.not_mem_nil⟩
theorem Layer.step {n : Nat} {rs : List (Nat × Nat)} {ws : List Nat} {a : Nat} {F W A : List Nat} (L : Layer n rs ws a F W) (inR : ∀ p ∈ rs, p.1 < n ∧ p.2 < n) (nd : A.Nodup) (hA : ∀ b, b ∈ A ↔ ∃ x ∈ W, (x, b) ∈ rs) :
    Layer n rs ws a (F ++ A.filter fun b => !decide (b ∈ F)) ((A.filter fun b => !decide (b ∈ F)).filter fun b => !decide (b ∈ ws)) := by
  have mem : ∀ b, b ∈ A.filter (fun b => !decide (b ∈ F)) ↔ b ∈ A ∧ b ∉ F := fun b => by simp [List.mem_filter]
  have fairA : ∀ b ∈ A, b < n ∧ Reach rs ws a b := by
    intro b hb
    obtain ⟨x, hx, hr⟩ := (hA b).mp hb
    refine ⟨(inR _ hr).2, ?_⟩
    rcases L.wait x hx with e | ⟨h1, h2⟩
    · rw [e] at hr
      exact .one hr
    · exact .more (L.fair x h1) h2 hr
  refine ⟨?_, ?_, ?_, ?_, ?_⟩
  · rw [List.nodup_append]
    refine ⟨L.nd, nd.filter _, fun x hx y hy e => ?_⟩
    exact ((mem y).mp hy).2 (e ▸ hx)
  · intro b hb
    rcases List.mem_append.mp hb with hb | hb
    · exact L.lt b hb
    · exact (fairA b ((mem b).mp hb).1).1
  · intro b hb
    rcases List.mem_append.mp hb with hb | hb
    · exact L.fair b hb
    · exact (fairA b ((mem b).mp hb).1).2
  · intro x hx
    rw [List.mem_filter] at hx
    exact .inr ⟨List.mem_append_right _ hx.1, by simpa using hx.2⟩
  · intro x hx
    have old : (x = a ∨ (x ∈ F ∧ x ∉ ws)) → ∀ b, (x, b) ∈ rs → b ∈ F ++ A.filter fun b => !decide (b ∈ F) := by
      intro h b hb
      rcases L.ok x h with h1 | h1
      · by_cases hf : b ∈ F
        · exact List.mem_append_left _ hf
        · exact List.mem_append_right _ ((mem b).mpr ⟨(hA b).mpr ⟨x, h1, hb⟩, hf⟩)
      · exact List.mem_append_left _ (h1 b hb)
    rcases hx with e | ⟨h1, h2⟩
    · exact .inr (old (.inl e))
    · rcases List.mem_append.mp h1 with h1 | h1
      · exact .inr (old (.inr ⟨h1, h2⟩))
      · exact .inl (List.mem_filter.mpr ⟨h1, by simpa using h2⟩)
theorem Layer.ends {n : Nat} {rs : List (Nat × Nat)} {ws : List Nat} {a : Nat} {F : List Nat} (L : Layer n rs ws a F []) (x : Nat) : x ∈ F ↔ x < n ∧ ∃ a' ∈ [a], Reach rs ws a' x := by
  constructor
  · intro h
    exact ⟨L.lt x h, a, List.mem_singleton.mpr rfl, L.fair x h⟩
  · rintro ⟨_, a', ha', r⟩
    rw [List.mem_singleton.mp ha'] at r
    refine r.within (S := (· ∈ F)) (fun y hy => ?_) fun y z hy hw hz => ?_
    · rcases L.ok a (.inl rfl) with h | h
      · exact absurd h List.not_mem_nil
      · exact h y hy
    · rcases L.ok y (.inr ⟨hy, hw⟩) with h | h
      · exact absurd h List.not_mem_nil
      · exact h z hz
/-- a sorted row of a set's numbers -/
theorem set_nat {ns : List Int} {A : List Nat} (up : ns.Pairwise (· < ·)) (mem : ∀ j : Int, j ∈ ns ↔ decide (j ∈ iN A) = true) : ∃ wl : List Nat, ns = iN wl ∧ wl.Pairwise (· < ·) ∧ ∀ x, x ∈ wl ↔ x ∈ A := by
  have nn : ∀ y ∈ ns, 0 ≤ y := by
    intro y hy
    have := of_decide_eq_true ((mem y).mp hy)
    unfold iN at this
    obtain ⟨z, _, ez⟩ := List.mem_map.mp this
    omega
  have e : ns = iN (ns.map Int.toNat) := by
    unfold iN
    rw [List.map_map]
    conv => lhs; rw [← List.map_id ns]
    exact List.map_congr_left fun y hy => (Int.toNat_of_nonneg (nn y hy)).symm
  refine ⟨ns.map Int.toNat, e, ?_, fun x => ?_⟩
  · rw [e] at up
    unfold iN at up
    exact (List.pairwise_map.mp up).imp fun h => by omega
  · constructor
    · intro h
      obtain ⟨y, hy, ey⟩ := List.mem_map.mp h
      have h2 := of_decide_eq_true ((mem y).mp hy)
      have h3 : y = (x : Int) := by
        have := nn y hy
        omega
      rw [h3] at h2
      exact iN_mem.mp h2
    · intro h
      exact List.mem_map.mpr ⟨(x : Int), (mem _).mpr (decide_eq_true (iN_mem.mpr h)), by omega⟩
end Ft

set_option Elab.async false
set_option linter.all false
set_option maxRecDepth 100000
set_option maxHeartbeats 8000000
namespace Ft
open PySem PySem.Spec PyProof.Rows L2
theorem piece_lt' {C : Chart} {a b : Nat} (ha : a < C.n) (h : b ∈ pieceOf C a) : b < C.n := by
  unfold pieceOf at h
  by_cases hw : a ∈ C.wished
  · rw [if_pos hw] at h
    rw [List.mem_singleton.mp h]
    exact ha
  · rw [if_neg hw] at h
    exact (those_mem.mp h).1
theorem len_of_lt' (l : List Nat) (n : Nat) (nd : l.Nodup) (b : ∀ x ∈ l, x < n) : l.length ≤ n := by
  have := nat_nodup_len l (List.range n) nd fun x hx => List.mem_range.mpr (b x hx)
  rwa [List.length_range] at this
section
variable {P : Program} {w : World} {K : PySem.W.Frag} {mg : Str → Option Value} {base : Heap} {ca : Str → Addr}
/-! ### made_standing, of data -/
theorem noPlace_cons {n i : Nat} {d : PyData} {ds : List PyData} : noPlace n i (d :: ds) = if rngD n d = true then noPlace n (i + 1) ds else some i := rfl
theorem standErr_not {n : Nat} {d : PyData} (h : isTup d = false) : standErr n d = some (-1) := by
  cases d <;> first | rfl | cases h
/-- what a function of a map and a standing owes -/
def DueS (K : PySem.W.Frag) (ca : Str → Addr) (H : Hp) (E : XK) (dc ds : PyData) (ok : Chart → List Nat → Prop) : Prop :=
  (∀ x i, mapErr dc = some (x, i) → Raised K ca H E (x, .int i)) ∧ ∀ C, dc = chartD C → C.Ok → (∀ i, standErr C.n ds = some i → Raised K ca H E ("BadStanding", .int i)) ∧ ∀ S, ds = lotD S → (∀ x ∈ S, x < C.n) → 1 ≤ S.length → S.length ≤ 3 → ok C S
def spX_made_standing (K : PySem.W.Frag) (ca : Str → Addr) : Sp := fun vs H Q E => ∃ (vc vt : V) (dc ds : PyData), vs = [vc, vt] ∧ Dp K H vc dc ∧ Dp K H vt ds ∧ DueS K ca H E dc ds fun C S => ∀ H', Same H H' → Q vt H'
theorem DueS.valid {K : PySem.W.Frag} {ca : Str → Addr} {H : Hp} {E : XK} {C : Chart} {S : List Nat} {ok : Chart → List Nat → Prop} (o : C.Ok) (lt : ∀ x ∈ S, x < C.n) (l1 : 1 ≤ S.length) (l3 : S.length ≤ 3) (q : ok C S) : DueS K ca H E (chartD C) (lotD S) ok :=
  ⟨fun x i h => (by rw [mapErr_chart o] at h; cases h), fun C' e _ => (by
    have z := chartD_inj e
    subst z
    exact ⟨fun i h => (by rw [standErr_ok lt l1 l3] at h; cases h), fun S' e' _ _ _ => (by
      have z := lotD_inj e'
      subst z
      exact q)⟩)⟩
def sp_made_standing (K : PySem.W.Frag) : Sp := fun vs H Q _ => ∃ (c t : Addr) (C : Chart) (S : List Nat), vs = [.ref c, .ref t] ∧ IsChart K H c C ∧ C.Ok ∧ SqT K H t (S.map vN) ∧ (∀ x ∈ S, x < C.n) ∧ 1 ≤ S.length ∧ S.length ≤ 3 ∧ ∀ H', Same H H' → Q (.ref t) H'
theorem calv_made_standing (c_made_standing : CalX P w K mg base 6 "made_standing" (spX_made_standing K ca)) : Cal P w K mg base 6 "made_standing" (sp_made_standing K) :=
  c_made_standing.valid fun vs H Q E ⟨c, t, C, S, e, isC, ok, hS, lt, l1, l3, q⟩ => ⟨_, _, _, _, e, dp_chart isC, dp_lot hS, .valid ok lt l1 l3 q⟩
/-! ### is_standing -/
/-! ### members -/
noncomputable def membersOf (C : Chart) (S : List Nat) : List Nat := those C.n fun b => ∃ a ∈ S, b ∈ pieceOf C a
def spX_members (K : PySem.W.Frag) (ca : Str → Addr) : Sp := fun vs H Q E => ∃ (vc vt : V) (dc ds : PyData), vs = [vc, vt] ∧ Dp K H vc dc ∧ Dp K H vt ds ∧ DueS K ca H E dc ds fun C S => ∀ q H', Same H H' → SqT K H' q ((membersOf C S).map vN) → Q (.ref q) H'
def sp_members (K : PySem.W.Frag) : Sp := fun vs H Q _ => ∃ (c t : Addr) (C : Chart) (S : List Nat), vs = [.ref c, .ref t] ∧ IsChart K H c C ∧ C.Ok ∧ SqT K H t (S.map vN) ∧ (∀ x ∈ S, x < C.n) ∧ 1 ≤ S.length ∧ S.length ≤ 3 ∧ ∀ q H', Same H H' → SqT K H' q ((membersOf C S).map vN) → Q (.ref q) H'
theorem calv_members (c_members : CalX P w K mg base 7 "members" (spX_members K ca)) : Cal P w K mg base 7 "members" (sp_members K) :=
  c_members.valid fun vs H Q E ⟨c, t, C, S, e, isC, ok, hS, lt, l1, l3, q⟩ => ⟨_, _, _, _, e, dp_chart isC, dp_lot hS, .valid ok lt l1 l3 q⟩
end
end Ft

set_option Elab.async false
set_option linter.all false
set_option maxRecDepth 100000
set_option maxHeartbeats 8000000
namespace Ft
open PySem PySem.Spec PyProof.Rows L2
/-- the least place of a place's piece -/
noncomputable def leastOf (C : Chart) (a : Nat) : Nat := (pieceOf C a).headD 0
noncomputable def rowOf (C : Chart) (S : List Nat) : List Nat := S.map (leastOf C)
theorem piece_has {C : Chart} {a : Nat} (ha : a < C.n) : a ∈ pieceOf C a := by
  unfold pieceOf
  by_cases hw : a ∈ C.wished
  · rw [if_pos hw]
    exact List.mem_singleton.mpr rfl
  · rw [if_neg hw]
    exact those_mem.mpr ⟨ha, hw, .inl rfl⟩
theorem least_get {C : Chart} {a : Nat} (ha : a < C.n) : (pieceOf C a)[0]? = some (leastOf C a) := by
  unfold leastOf
  have h := piece_has ha
  cases e : pieceOf C a with
  | nil =>
    rw [e] at h
    cases h
  | cons x l => rfl
theorem least_mem {C : Chart} {a : Nat} (ha : a < C.n) : leastOf C a ∈ pieceOf C a := List.mem_of_getElem? (least_get ha)
theorem least_lt {C : Chart} {a : Nat} (ha : a < C.n) : leastOf C a < C.n := piece_lt' ha (least_mem ha)
theorem row_take {C : Chart} {S : List Nat} {i a : Nat} (h : S[i]? = some a) : (rowOf C S).take (i + 1) = (rowOf C S).take i ++ [leastOf C a] := take_more (by unfold rowOf; rw [List.getElem?_map, h]; rfl)
theorem row_len {C : Chart} {S : List Nat} : (rowOf C S).length = S.length := List.length_map ..
section
variable {P : Program} {w : World} {K : PySem.W.Frag} {mg : Str → Option Value} {base : Heap} {ca : Str → Addr}
/-! ### row_of -/
def spX_row_of (K : PySem.W.Frag) (ca : Str → Addr) : Sp := fun vs H Q E => ∃ (vc vt : V) (dc ds : PyData), vs = [vc, vt] ∧ Dp K H vc dc ∧ Dp K H vt ds ∧ DueS K ca H E dc ds fun C S => ∀ q H', Same H H' → SqT K H' q ((rowOf C S).map vN) → Q (.ref q) H'
def sp_row_of (K : PySem.W.Frag) : Sp := fun vs H Q _ => ∃ (c t : Addr) (C : Chart) (S : List Nat), vs = [.ref c, .ref t] ∧ IsChart K H c C ∧ C.Ok ∧ SqT K H t (S.map vN) ∧ (∀ x ∈ S, x < C.n) ∧ 1 ≤ S.length ∧ S.length ≤ 3 ∧ ∀ q H', Same H H' → SqT K H' q ((rowOf C S).map vN) → Q (.ref q) H'
theorem calv_row_of (c_row_of : CalX P w K mg base 7 "row_of" (spX_row_of K ca)) : Cal P w K mg base 7 "row_of" (sp_row_of K) :=
  c_row_of.valid fun vs H Q E ⟨c, t, C, S, e, isC, ok, hS, lt, l1, l3, q⟩ => ⟨_, _, _, _, e, dp_chart isC, dp_lot hS, .valid ok lt l1 l3 q⟩
end
end Ft

set_option Elab.async false
set_option linter.all false
set_option maxRecDepth 100000
set_option maxHeartbeats 4000000
/-! Plain mathematics: the pieces of a map, and rows in their order -/
namespace Ft
theorem piece_mem {C : Chart} {a b : Nat} (hw : a ∉ C.wished) : b ∈ pieceOf C a ↔ b < C.n ∧ b ∉ C.wished ∧ (b = a ∨ (Reach C.roads C.wished a b ∧ Reach C.roads C.wished b a)) := by
  unfold pieceOf
  rw [if_neg hw]
  exact those_mem
theorem piece_eq {C : Chart} {a b : Nat} (hb : b ∈ pieceOf C a) : pieceOf C b = pieceOf C a := by
  by_cases hw : a ∈ C.wished
  · have e : pieceOf C a = [a] := by
      unfold pieceOf
      rw [if_pos hw]
    rw [e] at hb
    rw [List.mem_singleton.mp hb]
  · obtain ⟨bn, bw, rel⟩ := (piece_mem hw).mp hb
    refine asc_ext (piece_up C b) (piece_up C a) fun x => ?_
    rw [piece_mem bw, piece_mem hw]
    constructor
    · rintro ⟨xn, xw, h⟩
      refine ⟨xn, xw, ?_⟩
      rcases rel with e | ⟨r1, r2⟩
      · rw [e] at h
        exact h
      · rcases h with e | ⟨q1, q2⟩
        · rw [e]
          exact .inr ⟨r1, r2⟩
        · exact .inr ⟨r1.trans bw q1, q2.trans bw r2⟩
    · rintro ⟨xn, xw, h⟩
      refine ⟨xn, xw, ?_⟩
      rcases rel with e | ⟨r1, r2⟩
      · rw [e]
        exact h
      · rcases h with e | ⟨q1, q2⟩
        · rw [e]
          exact .inr ⟨r2, r1⟩
        · exact .inr ⟨r2.trans hw q1, q2.trans hw r1⟩
theorem piecesL_mem {C : Chart} {l : List Nat} : l ∈ piecesL C ↔ ∃ a ∈ unw C, l = pieceOf C a := by
  unfold piecesL
  constructor
  · intro h
    obtain ⟨a, ha, rfl⟩ := List.mem_map.mp h
    exact ⟨a, (List.mem_filter.mp ha).1, rfl⟩
  · rintro ⟨a, ha, rfl⟩
    have ha' := unw_mem.mp ha
    cases e : pieceOf C a with
    | nil =>
      have := piece_self ha'.1
      rw [e] at this
      exact absurd this List.not_mem_nil
    | cons h rest =>
      have hh : h ∈ pieceOf C a := by
        rw [e]
        exact List.mem_cons_self
      have hm := (piece_mem ha'.2).mp hh
      have e2 := piece_eq hh
      refine List.mem_map.mpr ⟨h, List.mem_filter.mpr ⟨unw_mem.mpr ⟨hm.1, hm.2.1⟩, ?_⟩, by rw [e2, e]⟩
      unfold isLeast
      rw [e2, e]
      simp
/-- rows ascending as rows -/
def ltL (p q : List Int) : Prop := p ≤ q ∧ p ≠ q
theorem ltL_asym {p q : List Int} (h1 : ltL p q) (h2 : ltL q p) : False := h1.2 (List.le_antisymm h1.1 h2.1)
theorem rows_ext : ∀ {l1 l2 : List (List Int)}, l1.Pairwise ltL → l2.Pairwise ltL → (∀ x, x ∈ l1 ↔ x ∈ l2) → l1 = l2
  | [], [], _, _, _ => rfl
  | [], b :: l2, _, _, h => absurd ((h b).mpr List.mem_cons_self) List.not_mem_nil
  | a :: l1, [], _, _, h => absurd ((h a).mp List.mem_cons_self) List.not_mem_nil
  | a :: l1, b :: l2, h1, h2, h => by
    obtain ⟨a1, p1⟩ := List.pairwise_cons.mp h1
    obtain ⟨a2, p2⟩ := List.pairwise_cons.mp h2
    have e : a = b := by
      rcases List.mem_cons.mp ((h a).mp List.mem_cons_self) with e | m
      · exact e
      · rcases List.mem_cons.mp ((h b).mpr List.mem_cons_self) with e | m'
        · exact e.symm
        · exact (ltL_asym (a2 a m) (a1 b m')).elim
    subst e
    refine congrArg (a :: ·) (rows_ext p1 p2 fun x => ⟨fun m => ?_, fun m => ?_⟩)
    · rcases List.mem_cons.mp ((h x).mp (List.mem_cons_of_mem _ m)) with e | m'
      · exact ((a1 x m).2 e.symm).elim
      · exact m'
    · rcases List.mem_cons.mp ((h x).mpr (List.mem_cons_of_mem _ m)) with e | m'
      · exact ((a2 x m).2 e.symm).elim
      · exact m'
theorem cons_ltL {a b : Int} {p q : List Int} (h : a < b) : ltL (a :: p) (b :: q) := by
  refine ⟨List.cons_le_cons_iff.mpr (.inl h), fun e => ?_⟩
  injection e with e1 _
  omega
theorem piecesL_up (C : Chart) : ((piecesL C).map iN).Pairwise ltL := by
  unfold piecesL
  rw [List.map_map]
  refine List.pairwise_map.mpr ?_
  refine List.Pairwise.imp_of_mem (fun {a b} ha hb h => ?_) ((unw_up C).filter (isLeast C))
  have la := (List.mem_filter.mp ha).2
  have lb := (List.mem_filter.mp hb).2
  unfold isLeast at la lb
  have la := of_decide_eq_true la
  have lb := of_decide_eq_true lb
  show ltL (iN (pieceOf C a)) (iN (pieceOf C b))
  cases ea : pieceOf C a with
  | nil =>
    rw [ea] at la
    cases la
  | cons x p =>
    cases eb : pieceOf C b with
    | nil =>
      rw [eb] at lb
      cases lb
    | cons y q =>
      rw [ea] at la
      rw [eb] at lb
      have e1 : x = a := Option.some.inj la
      have e2 : y = b := Option.some.inj lb
      rw [e1, e2]
      exact cons_ltL (show (a : Int) < (b : Int) by omega)
theorem iN_inj : ∀ {l1 l2 : List Nat}, iN l1 = iN l2 → l1 = l2
  | [], [], _ => rfl
  | [], _ :: _, h => by simp [iN] at h
  | _ :: _, [], h => by simp [iN] at h
  | a :: l1, b :: l2, h => by
    unfold iN at h
    rw [List.map_cons, List.map_cons] at h
    injection h with h1 h2
    have e : a = b := by omega
    rw [e, iN_inj (l1 := l1) (l2 := l2) h2]
/-- what is met, one place more -/
theorem those_yes {j : Nat} {P : Nat → Prop} (h : P j) : those (j + 1) P = those j P ++ [j] := by
  unfold those
  rw [List.range_succ, List.filter_append]
  congr 1
  rw [List.filter_cons]
  simp [h]
theorem those_no {j : Nat} {P : Nat → Prop} (h : ¬ P j) : those (j + 1) P = those j P := by
  unfold those
  rw [List.range_succ, List.filter_append]
  simp [h]
theorem met_mem {n : Nat} {rs : List (Nat × Nat)} {ws : List Nat} {a b : Nat} : b ∈ met n rs ws [a] ↔ b < n ∧ Reach rs ws a b := by
  unfold met
  rw [those_mem]
  constructor
  · rintro ⟨h, x, hx, r⟩
    rw [List.mem_singleton.mp hx] at r
    exact ⟨h, r⟩
  · rintro ⟨h, r⟩
    exact ⟨h, a, List.mem_singleton.mpr rfl, r⟩
end Ft

set_option Elab.async false
set_option linter.all false
set_option maxRecDepth 100000
set_option maxHeartbeats 8000000
namespace Ft
open PySem PySem.Spec PyProof.Rows L2
open RZ
/-! ### later standings -/
/-- the places at which a thread of this place is in later standings -/
noncomputable def laterL (C : Chart) (a : Nat) : List Nat := pieceOf C a ++ metU C [a]
/-- their least places -/
noncomputable def firstsOf (C : Chart) (a : Nat) : List Nat := those C.n fun f => ∃ b ∈ laterL C a, leastOf C b = f
/-- each row with each of these behind it -/
def grow (rows : List (List Nat)) (fs : List Nat) : List (List Nat) := rows.flatMap fun r => fs.map fun f => r ++ [f]
noncomputable def laterRows (C : Chart) (S : List Nat) : List (List Nat) := S.foldl (fun rows a => grow rows (firstsOf C a)) [[]]
noncomputable def singleOf (C : Chart) : Nat := (piecesL C).length + C.wished.length
theorem later_lt {C : Chart} {a b : Nat} (ha : a < C.n) (h : b ∈ laterL C a) : b < C.n := by
  rcases List.mem_append.mp h with h | h
  · exact piece_lt' ha h
  · exact (those_mem.mp h).1
theorem later_len {C : Chart} {a : Nat} (ok : C.Ok) (ha : a < C.n) : (laterL C a).length ≤ 120 := by
  have n60 := ok.n60
  have h1 := up_len (piece_up C a) fun b hb => piece_lt' ha hb
  have h2 := those_len C.n fun b => b ∉ C.wished ∧ ∃ x ∈ [a], Reach C.roads C.wished x b
  unfold laterL metU
  rw [List.length_append]
  omega
theorem firsts_lt {C : Chart} {a f : Nat} (h : f ∈ firstsOf C a) : f < C.n := (those_mem.mp h).1
theorem firsts_len {C : Chart} {a : Nat} : (firstsOf C a).length ≤ C.n := those_len _ _
theorem single_le {C : Chart} (ok : C.Ok) : singleOf C ≤ 120 := by
  have n60 := ok.n60
  have hw := up_len ok.upW ok.inW
  have h1 : (piecesL C).length ≤ C.n := by
    unfold piecesL
    rw [List.length_map]
    exact Nat.le_trans (List.length_filter_le ..) (unw_len C)
  unfold singleOf
  omega
section
variable {P : Program} {w : World} {K : PySem.W.Frag} {mg : Str → Option Value} {base : Heap} {ca : Str → Addr}
/-! ### later_places -/
def sp_later_places (K : PySem.W.Frag) : Sp := fun vs H Q _ => ∃ (c tb : Addr) (C : Chart) (rows : List Addr) (a : Nat), vs = [.ref c, .ref tb, vN a] ∧ IsChart K H c C ∧ C.Ok ∧ a < C.n ∧ H tb = some (.lst (rows.map V.ref)) ∧ PiecesAt K H C rows ∧ ∀ q H', Same H H' → H q = none → H' q = some (.lst ((laterL C a).map vN)) → Q (.ref q) H'
/-! ### check_size -/
def spX_check_size (K : PySem.W.Frag) (ca : Str → Addr) : Sp := fun vs H Q E => ∃ (c tb : Addr) (C : Chart) (rows : List Addr) (m : Nat), vs = [.ref c, .ref tb, vN m] ∧ IsChart K H c C ∧ C.Ok ∧ H tb = some (.lst (rows.map V.ref)) ∧ PiecesAt K H C rows ∧ m ≤ 3 ∧
  (400 < singleOf C ^ m → Raised K ca H E ("TooMany", nD (singleOf C ^ m))) ∧ (singleOf C ^ m ≤ 400 → ∀ H', Same H H' → Q .non H')
end
end Ft

set_option Elab.async false
set_option linter.all false
set_option maxRecDepth 100000
set_option maxHeartbeats 8000000
namespace Ft
open PySem PySem.Spec PyProof.Rows L2
open RZ
theorem grow_len {rows : List (List Nat)} {fs : List Nat} : (grow rows fs).length = rows.length * fs.length := by
  induction rows with
  | nil => show 0 = 0 * fs.length; rw [Nat.zero_mul]
  | cons r rows ih =>
    show ((fs.map fun f => r ++ [f]) ++ grow rows fs).length = (rows.length + 1) * fs.length
    rw [List.length_append, List.length_map, ih, Nat.succ_mul, Nat.add_comm]
theorem grow_take {rows : List (List Nat)} {fs : List Nat} {j : Nat} {r : List Nat} (h : rows[j]? = some r) : grow (rows.take (j + 1)) fs = grow (rows.take j) fs ++ fs.map fun f => r ++ [f] := by
  rw [take_more h]
  unfold grow
  rw [List.flatMap_append]
  simp
theorem grow_each {rows : List (List Nat)} {fs : List Nat} {n : Nat} (h : ∀ r ∈ rows, r.length = n) : ∀ r ∈ grow rows fs, r.length = n + 1 := by
  intro r hr
  obtain ⟨x, hx, h2⟩ := List.mem_flatMap.mp hr
  obtain ⟨f, hf, rfl⟩ := List.mem_map.mp h2
  rw [List.length_append, h x hx]
  rfl
theorem foldl_take {C : Chart} {S : List Nat} {i a : Nat} (h : S[i]? = some a) : laterRows C (S.take (i + 1)) = grow (laterRows C (S.take i)) (firstsOf C a) := by
  unfold laterRows
  rw [take_more h, List.foldl_append]
  rfl
theorem laterFold_each {C : Chart} : ∀ (S : List Nat) (rows : List (List Nat)) (n : Nat), (∀ r ∈ rows, r.length = n) → ∀ r ∈ S.foldl (fun rows a => grow rows (firstsOf C a)) rows, r.length = n + S.length
  | [], rows, n, h => h
  | a :: S, rows, n, h => fun r hr => by
    have := laterFold_each S (grow rows (firstsOf C a)) (n + 1) (grow_each h) r hr
    rw [List.length_cons]
    omega
theorem laterRows_each {C : Chart} {S : List Nat} : ∀ r ∈ laterRows C S, r.length = S.length := fun r hr => by
  have := laterFold_each S [[]] 0 (fun r h => by rw [List.mem_singleton.mp h]; rfl) r hr
  omega
theorem rows_few {C : Chart} (ok : C.Ok) : ∀ (S : List Nat) (rows : List (List Nat)) (m : Nat), rows.length ≤ m → (S.foldl (fun rows a => grow rows (firstsOf C a)) rows).length ≤ m * 60 ^ S.length
  | [], rows, m, h => by
    show rows.length ≤ m * 1
    omega
  | a :: S, rows, m, h => by
    have n60 := ok.n60
    have hf : (firstsOf C a).length ≤ C.n := firsts_len
    have h1 : (grow rows (firstsOf C a)).length ≤ m * 60 := by
      rw [grow_len]
      exact Nat.mul_le_mul h (by omega)
    have := rows_few ok S (grow rows (firstsOf C a)) (m * 60) h1
    show _ ≤ m * 60 ^ (S.length + 1)
    rw [Nat.pow_succ, Nat.mul_comm (60 ^ S.length) 60, ← Nat.mul_assoc]
    exact this
theorem laterRows_few {C : Chart} (ok : C.Ok) {S : List Nat} (h : S.length ≤ 3) : (laterRows C S).length ≤ 216000 := by
  have h1 := rows_few ok S [[]] 1 (Nat.le_refl _)
  have h2 : 60 ^ S.length ≤ 60 ^ 3 := Nat.pow_le_pow_right (by omega) h
  have h3 : (60 : Nat) ^ 3 = 216000 := by decide
  unfold laterRows
  omega
theorem rowsAt_upd {K : PySem.W.Frag} {H : Hp} {d : Addr} {xs ys : List V} (hd : H d = some (.lst xs)) {ts : List Addr} {lls : List (List Nat)} (h : RowsAt K H ts lls) : RowsAt K (upd H d (.lst ys)) ts lls := by
  refine paired_imp (fun t l q => ?_) h
  refine Kp.sqT (ex := [d]) (fun b' o nb eb => ?_) (fun b' m => ?_) q
  · rw [upd_ne (fun z => nb (by rw [z]; simp))]
    exact eb
  · rw [List.mem_singleton.mp m]
    exact ⟨_, hd, (fun _ z => nomatch z), (fun _ _ z => nomatch z)⟩
theorem sqT_upd {K : PySem.W.Frag} {H : Hp} {d t : Addr} {xs ys zs : List V} (hd : H d = some (.lst xs)) (q : SqT K H t zs) : SqT K (upd H d (.lst ys)) t zs := by
  refine Kp.sqT (ex := [d]) (fun b' o nb eb => ?_) (fun b' m => ?_) q
  · rw [upd_ne (fun z => nb (by rw [z]; simp))]
    exact eb
  · rw [List.mem_singleton.mp m]
    exact ⟨_, hd, (fun _ z => nomatch z), (fun _ _ z => nomatch z)⟩
section
variable {P : Program} {w : World} {K : PySem.W.Frag} {mg : Str → Option Value} {base : Heap} {ca : Str → Addr}
/-! ### later_rows -/
def spX_later_rows (K : PySem.W.Frag) (ca : Str → Addr) : Sp := fun vs H Q E => ∃ (vc vt : V) (dc ds : PyData), vs = [vc, vt] ∧ Dp K H vc dc ∧ Dp K H vt ds ∧ DueS K ca H E dc ds fun C S =>
  (400 < singleOf C ^ S.length → Raised K ca H E ("TooMany", nD (singleOf C ^ S.length))) ∧ (singleOf C ^ S.length ≤ 400 → ∀ q ts H', Same H H' → SqT K H' q (ts.map V.ref) → RowsAt K H' ts (laterRows C S) → Q (.ref q) H')
end
end Ft

set_option Elab.async false
set_option linter.all false
set_option maxRecDepth 100000
set_option maxHeartbeats 8000000
namespace Ft
open PySem PySem.Spec PyProof.Rows L2
section
variable {P : Program} {w : World} {K : PySem.W.Frag} {mg : Str → Option Value} {base : Heap} {ka : Str → Addr}
/-! ### places_next -/
def sp_places_next (K : PySem.W.Frag) : Sp := fun vs H Q _ => ∃ (c lo : Addr) (C : Chart) (X : List Nat), vs = [.ref c, .ref lo] ∧ IsChart K H c C ∧ C.Ok ∧ (SqL K H lo (X.map vN) ∨ SqT K H lo (X.map vN)) ∧ X.length ≤ 1000 ∧
  ∀ t H', Same H H' → SqT K H' t ((nextL C X).map vN) → Q (.ref t) H'
theorem cal_places_next (T : Txt mg) (D : Def K mg "places_next" s_places_next) : Cal P w K mg base 1 "places_next" (sp_places_next K) := by
  refine cal_of D sc_places_next (fun _ _ _ _ _ _ us hl => match us, hl with | [_, _], _ => rfl) (fun vs H Q E h => ?_) (fun f cdv A outer s H vs Q E hr h => ?_)
  · obtain ⟨c, lo, C, X, rfl, _⟩ := h
    rfl
  · obtain ⟨c, lo, C, X, rfl, ⟨r, wd, ts, hC⟩, ok, hX, few, q⟩ := h
    have n60 := ok.n60
    have wlen := up_len ok.upW ok.inW
    refine ⟨_, (pss_cons (ps_set (i := 2) sc_places_next.nd rfl (Or.inr rfl) (pe_callTy (show CallR _ _ (rSetI K w) from cr_setI rfl) (by rfl) T.set (by decide +kernel) (pa_cons (pv 1) pa_nil)))
      (pss_cons (ps_set (i := 3) sc_places_next.nd rfl (Or.inr rfl) (pe_callTy (show CallR _ _ (rSetI K w) from cr_setI rfl) (by rfl) T.set (by decide +kernel) (pa_cons (pe_ix (show IxR _ (rIxT K) from ix_tup) (pv 0) pe_int (fun _ _ => rfl)) pa_nil)))
      (pss_one (ps_ret (pe_callTy (show CallR _ _ (rTupleOf K) from call_tupleOf) (by rfl) T.tuple (by decide +kernel) (pa_cons (pe_callB (show CallR _ _ (rSortedSet w) from cr_sortedSet rfl) (by rfl) T.sorted (by decide +kernel) (pa_cons (pe_set1 (own := [("a", 4), ("b", 5)]) rfl sc_places_next.nd (show PI _ _ _ (iTup K _) from pi_tup (pe_ix (show IxR _ (rIxT K) from ix_tup) (pv 0) pe_int (fun _ _ => rfl))) (blkOk_by (N := ["chart", "lot", "inside", "wished", "a", "b"]) (sc := L2.defScope s_places_next) (by decide +kernel)) (fun _ _ _ _ _ => (show PG _ _ (gTup K 2 _) from pg_tup (by rfl) (pgs_cons (pg_name (i := 4) sc_places_next.nd rfl (Or.inl rfl)) (pgs_cons (pg_name (i := 5) sc_places_next.nd rfl (Or.inl rfl)) pgs_nil)))) (fun _ _ _ _ _ => pts_one (PW.pt (pw_and (pt_cmpR (show OpR _ _ (rSIn w) from or_sin) (pv 4) (pv 2) (by rfl)) (pw_and1 (PW.pt (pw_or (pt_cmpR (show OpR _ _ (rSIn w) from or_sin) (pv 5) (pv 3) (by rfl)) (pw_or1 (pt_cmpR (show OpR _ _ (rSNotIn w) from or_snotin) (pv 5) (pv 2) (by rfl))))))))) (fun _ _ _ _ _ => (pv 5))) pa_nil)) pa_nil)))))), ?_⟩
    have inN : ∀ (l : List Nat) (b : Nat), decide ((b : Int) ∈ iN l) = decide (b ∈ l) := fun l b => decide_eq_decide.mpr iN_mem
    refine ⟨_, rfl, lo, iN X, rfl, by rw [← vN_map]; exact hX, by rw [iN_length]; exact few, fun s1 m1 hs1 _ => ?_⟩
    generalize eH1 : upd H s1 _ = H1
    have sm1 : Same H H1 := by rw [← eH1]; exact same_upd hs1
    have hI1 : H1 s1 = some (SetO w s1 (fun j => decide (j ∈ iN X)) m1) := by rw [← eH1]; exact upd_same
    clear eH1
    have hC1 := hC.same sm1
    refine ⟨_, rfl, _, _, _, _, rfl, rfl, hC1.top, rfl, wd, iN C.wished, rfl, .inr (by rw [← vN_map]; exact hC1.wis), by rw [iN_length]; omega, fun s2 m2 hs2 _ => ?_⟩
    generalize eH2 : upd H1 s2 _ = H2
    have sm2 : Same H1 H2 := by rw [← eH2]; exact same_upd hs2
    have hW2 : H2 s2 = some (SetO w s2 (fun j => decide (j ∈ iN C.wished)) m2) := by rw [← eH2]; exact upd_same
    clear eH2
    have hI2 := sm2 _ _ hI1
    have hC2 := hC1.same sm2
    refine ⟨_, rfl, _, _, _, _, rfl, rfl, hC2.top, rfl, r, rfl, ⟨_, hC2.row⟩, fun D hD => ?_⟩
    have keep : ∀ {H' : Hp}, Kp [D] H2 H' → Same H2 H' := fun k => kp_same hD k
    refine by_turns (walk_tup (K := K) (a := r) (xs := ts.map V.ref)) (fun i H' => ∃ (Z : Int → Bool) (l : List Nat), Kp [D] H2 H' ∧ H' D = some (SetO w D Z l.length) ∧ l.Nodup ∧ (∀ x ∈ l, x < C.n) ∧ (∀ j, Z j = true ↔ j ∈ iN l) ∧ (∀ b, b ∈ l ↔ ∃ p ∈ C.roads.take i, p.2 = b ∧ p.1 ∈ X ∧ (b ∈ C.wished ∨ b ∉ X)))
      ⟨_, [], (fun b o x e' => by rw [upd_ne (ne_of_none e' hD)]; exact e'), upd_same, List.nodup_nil, (fun _ h => nomatch h), (fun j => by simp [iN]), (fun b => by simp)⟩ (fun i H' _ ⟨_, _, k, _⟩ => Same.sqT (keep k) hC2.row) ?_ ?_
    · rintro j y Hy H3 hj ⟨Z, l, k3, hZ, nd, lt, memZ, meml⟩ ⟨rfl, hy⟩
      obtain ⟨t, ht, rfl⟩ := get_map hy
      obtain ⟨q0, hq0, pt⟩ := paired_getL hC2.prs ht
      have s3 := keep k3
      have pt3 := Same.sqT s3 pt
      have inq := ok.inR q0 (List.mem_of_getElem? hq0)
      have l60 := len_of_lt' l C.n nd lt
      refine ⟨t, _, rfl, pt3, rfl, _, _, rfl, _, _, rfl, rfl, rfl, ?_⟩
      have skip : ¬ (q0.1 ∈ X ∧ (q0.2 ∈ C.wished ∨ q0.2 ∉ X)) → ∃ (Z : Int → Bool) (l : List Nat), Kp [D] H2 H3 ∧ H3 D = some (SetO w D Z l.length) ∧ l.Nodup ∧ (∀ x ∈ l, x < C.n) ∧ (∀ j, Z j = true ↔ j ∈ iN l) ∧ (∀ b, b ∈ l ↔ ∃ p ∈ C.roads.take (j + 1), p.2 = b ∧ p.1 ∈ X ∧ (b ∈ C.wished ∨ b ∉ X)) := fun no => by
        refine ⟨Z, l, k3, hZ, nd, lt, memZ, fun b => ?_⟩
        rw [meml b, take_more hq0]
        constructor
        · rintro ⟨p, h1, h2⟩
          exact ⟨p, List.mem_append_left _ h1, h2⟩
        · rintro ⟨p, h1, h2, h3⟩
          rcases List.mem_append.mp h1 with h1 | h1
          · exact ⟨p, h1, h2, h3⟩
          · rw [List.mem_singleton.mp h1] at h2 h3
            rw [← h2] at h3
            exact absurd h3 no
      have add : (q0.1 ∈ X ∧ (q0.2 ∈ C.wished ∨ q0.2 ∉ X)) → ∃ (c : Int) (S : Int → Bool) (n : Nat), vN q0.2 = .int c ∧ H3 D = some (SetO w D S n) ∧ n + 1 < scanBound ∧ ∃ (Z : Int → Bool) (l : List Nat), Kp [D] H2 (upd H3 D (SetO w D (fun j => S j || decide (j = c)) (if S c = true then n else n + 1))) ∧ (upd H3 D (SetO w D (fun j => S j || decide (j = c)) (if S c = true then n else n + 1))) D = some (SetO w D Z l.length) ∧ l.Nodup ∧ (∀ x ∈ l, x < C.n) ∧ (∀ j, Z j = true ↔ j ∈ iN l) ∧ (∀ b, b ∈ l ↔ ∃ p ∈ C.roads.take (j + 1), p.2 = b ∧ p.1 ∈ X ∧ (b ∈ C.wished ∨ b ∉ X)) := fun yes => by
        have room : l.length + 1 < scanBound := by
          have : (1000 : Nat) < scanBound := by decide
          omega
        refine ⟨(q0.2 : Int), Z, l.length, rfl, hZ, room, ?_⟩
        by_cases hbl : q0.2 ∈ l
        · have hz : Z (q0.2 : Int) = true := (memZ _).mpr (iN_mem.mpr hbl)
          refine ⟨fun j => Z j || decide (j = (q0.2 : Int)), l, kp_put k3, by rw [upd_same, hz, if_pos rfl], nd, lt, fun j' => ?_, fun b' => ?_⟩
          · rw [Bool.or_eq_true, memZ, decide_eq_true_eq]
            exact ⟨fun h => h.elim id fun e => by rw [e]; exact iN_mem.mpr hbl, .inl⟩
          · rw [meml b', take_more hq0]
            constructor
            · rintro ⟨p, h1, h2⟩
              exact ⟨p, List.mem_append_left _ h1, h2⟩
            · rintro ⟨p, h1, h2, h3⟩
              rcases List.mem_append.mp h1 with h1 | h1
              · exact ⟨p, h1, h2, h3⟩
              · rw [List.mem_singleton.mp h1] at h2
                rw [← h2]
                exact (meml _).mp hbl
        · have hz : Z (q0.2 : Int) = false := by
            cases e : Z (q0.2 : Int) with
            | false => rfl
            | true => exact absurd (iN_mem.mp ((memZ _).mp e)) hbl
          refine ⟨fun j => Z j || decide (j = (q0.2 : Int)), l ++ [q0.2], kp_put k3, by rw [upd_same, hz, if_neg Bool.false_ne_true, List.length_append]; rfl, ?_, ?_, fun j' => ?_, fun b' => ?_⟩
          · rw [List.nodup_append]
            exact ⟨nd, by simp, fun x hx y hy z => hbl (by rw [← List.mem_singleton.mp hy, ← z]; exact hx)⟩
          · intro x hx
            rcases List.mem_append.mp hx with hx | hx
            · exact lt x hx
            · rw [List.mem_singleton.mp hx]
              exact inq.2
          · rw [Bool.or_eq_true, memZ, decide_eq_true_eq]
            unfold iN
            rw [List.map_append, List.mem_append]
            constructor
            · rintro (h | h)
              · exact .inl h
              · exact .inr (by rw [h]; simp)
            · rintro (h | h)
              · exact .inl h
              · simp at h
                exact .inr h
          · rw [List.mem_append, List.mem_singleton, meml b', take_more hq0]
            constructor
            · rintro (⟨p, h1, h2⟩ | h)
              · exact ⟨p, List.mem_append_left _ h1, h2⟩
              · exact ⟨q0, List.mem_append_right _ (List.mem_singleton.mpr rfl), h.symm, by rw [h]; exact yes⟩
            · rintro ⟨p, h1, h2, h3⟩
              rcases List.mem_append.mp h1 with h1 | h1
              · exact .inl ⟨p, h1, h2, h3⟩
              · rw [List.mem_singleton.mp h1] at h2
                exact .inr h2.symm
      have hI3 := s3 _ _ hI2
      have hW3 := s3 _ _ hW2
      refine ⟨_, rfl, _, rfl, _, _, _, _, rfl, rfl, hI3, _, rfl, ?_⟩
      rw [inN]
      by_cases h1 : q0.1 ∈ X
      · rw [decide_eq_true h1]
        refine iteT ⟨_, rfl, _, rfl, _, _, _, _, rfl, rfl, hW3, _, rfl, ?_⟩
        rw [inN]
        by_cases h2 : q0.2 ∈ C.wished
        · rw [decide_eq_true h2]
          exact iteT (iteT ⟨_, rfl, add ⟨h1, .inl h2⟩⟩)
        · rw [decide_eq_false h2]
          refine iteF ⟨_, rfl, _, rfl, _, _, _, _, rfl, rfl, hI3, _, rfl, ?_⟩
          rw [inN]
          by_cases h3 : q0.2 ∈ X
          · rw [decide_eq_true h3]
            exact iteF (skip fun z => z.2.elim h2 fun n => n h3)
          · rw [decide_eq_false h3]
            exact iteT ⟨_, rfl, add ⟨h1, .inr h3⟩⟩
      · rw [decide_eq_false h1]
        exact iteF (skip fun z => h1 z.1)
    rintro H3 ⟨Z, l, k3, hZ, nd, lt, memZ, meml⟩
    have el : (ts.map V.ref).length = C.roads.length := by rw [List.length_map]; exact hC2.prs.length
    rw [el, List.take_length] at meml
    have l60 := len_of_lt' l C.n nd lt
    have s3 := keep k3
    refine ⟨D, Z, l.length, rfl, hZ, by omega, fun gs fu up mem _ hfu => ?_⟩
    obtain ⟨wl, rfl, upw, memw⟩ : ∃ wl : List Nat, gs = iN wl ∧ wl.Pairwise (· < ·) ∧ ∀ x, x ∈ wl ↔ x ∈ l := set_nat up (fun j => by rw [mem j, memZ j, decide_eq_true_eq])
    have ew : wl = nextL C X := those_is upw fun x => by
      rw [memw x, meml x]
      constructor
      · rintro ⟨p, h1, h2, h3, h4⟩
        subst h2
        exact ⟨(ok.inR p h1).2, ⟨p.1, h3, h1⟩, h4⟩
      · rintro ⟨_, ⟨a, h3, h1⟩, h4⟩
        exact ⟨(a, x), h1, rfl, h3, h4⟩
    subst ew
    generalize eH4 : upd H3 fu _ = H4
    have s4 : Same H3 H4 := by rw [← eH4]; exact same_upd hfu
    have hF4 : H4 fu = some (.lst ((nextL C X).map vN)) := by rw [← eH4, vN_map]; exact upd_same
    clear eH4
    refine ⟨fu, _, rfl, .inl ⟨.inl (.inl hF4), fun t ht => ?_⟩⟩
    exact q t _ (((sm1.trans sm2).trans (s3.trans s4)).trans (same_upd ht)) (.inl (.inl upd_same))
end
end Ft

set_option Elab.async false
set_option linter.all false
set_option maxRecDepth 100000
set_option maxHeartbeats 8000000
namespace Ft
open PySem PySem.Spec PyProof.Rows L2
/-- the unwished places to which places of a lot come -/
noncomputable def innerL (C : Chart) (S : List Nat) : List Nat := those C.n fun b => b ∉ C.wished ∧ ComesS C S b
theorem innerL_mem {C : Chart} {S : List Nat} {b : Nat} : b ∈ innerL C S ↔ b < C.n ∧ b ∉ C.wished ∧ ComesS C S b := those_mem
/-- what was met -/
structure MetOk (C : Chart) (S M : List Nat) : Prop where
  nd : M.Nodup
  mem : ∀ b ∈ M, b < C.n ∧ b ∉ C.wished ∧ ComesS C S b
/-- what is left to be looked at -/
structure LeftOk (C : Chart) (S M L : List Nat) : Prop where
  of : ∀ x ∈ L, x ∈ S ∨ x ∈ M
  done : ∀ x, (x ∈ S ∨ x ∈ M) → x ∈ L ∨ ∀ b, (x, b) ∈ C.roads → b ∉ C.wished → b ∈ M
theorem left_end {C : Chart} {S M : List Nat} (ok : C.Ok) (h : MetOk C S M) (d : LeftOk C S M []) : ∀ x, x ∈ M ↔ x < C.n ∧ x ∉ C.wished ∧ ComesS C S x := fun x => by
  refine ⟨h.mem x, fun ⟨_, nw, a, ha, r⟩ => ?_⟩
  have all : ∀ y, (y ∈ S ∨ y ∈ M) → ∀ b, (y, b) ∈ C.roads → b ∈ C.wished ∨ b ∈ M := fun y hy b hb => by
    rcases d.done y hy with z | z
    · exact absurd z List.not_mem_nil
    · by_cases w : b ∈ C.wished
      · exact .inl w
      · exact .inr (z b hb w)
  rcases r.within (S := fun z => z ∈ C.wished ∨ z ∈ M) (fun y hy => all a (.inl ha) y hy) fun y z hy hw hz => all y (.inr (hy.resolve_left hw)) z hz with z | z
  · exact absurd z nw
  · exact z
section
variable {P : Program} {w : World} {K : PySem.W.Frag} {mg : Str → Option Value} {base : Heap}
/-! ### _law_way_inner -/
def sp_law_way_inner (K : PySem.W.Frag) : Sp := fun vs H Q _ => ∃ (c lo : Addr) (C : Chart) (S : List Nat), vs = [.ref c, .ref lo] ∧ IsChart K H c C ∧ C.Ok ∧ SqT K H lo (S.map vN) ∧ (∀ x ∈ S, x < C.n) ∧ S.length ≤ 60 ∧ ∀ t H', Same H H' → H' t = some (.lst ((innerL C S).map vN)) → Q (.ref t) H'
theorem cal_law_way_inner (T : Txt mg) (D : Def K mg "_law_way_inner" s_law_way_inner) : Cal P w K mg base 1 "_law_way_inner" (sp_law_way_inner K) := by
  refine cal_of D sc_law_way_inner (fun _ _ _ _ _ _ us hl => match us, hl with | [_, _], _ => rfl) (fun vs H Q E h => ?_) (fun f cdv A outer s H vs Q E hr h => ?_)
  · obtain ⟨c, lo, C, S, rfl, _⟩ := h
    rfl
  · obtain ⟨c, lo, C, S, rfl, hCC, ok, hS, inS, few, q⟩ := h
    have hU := hr.units
    obtain ⟨r, wd, ts, hC⟩ := id hCC
    have n60 := ok.n60
    refine ⟨_, (pss_cons (ps_par (i := 2) (j := 3) (by rfl) sc_law_way_inner.nd rfl rfl (by decide) rfl rfl (pa_cons (pe_callTy (show CallR _ _ (rListOf K) from call_listOf) (by rfl) T.list (by decide +kernel) (pa_cons (pv 1) pa_nil)) (pa_cons (pe_lst pa_nil) pa_nil)) (by rfl))
      (pss_cons (ps_for PassesOwn.never rfl (pi_range1 (by rfl) T.range (pa_cons (pe_op op_add (pe_ix (show IxR _ (rIxT K) from ix_tup) (pv 0) pe_int (fun _ _ => rfl)) pe_int) pa_nil)) (pg_name (i := 4) sc_law_way_inner.nd rfl (Or.inl rfl)) (pss_cons (ps_set (i := 5) sc_law_way_inner.nd rfl (Or.inl rfl) (pe_lst pa_nil))
        (pss_cons (ps_for PassesOwn.never rfl (show PI _ _ _ (iTup K _) from pi_tup (pe_ix (show IxR _ (rIxT K) from ix_tup) (pv 0) pe_int (fun _ _ => rfl))) (show PG _ _ (gTup K 2 _) from pg_tup (by rfl) (pgs_cons (pg_name (i := 6) sc_law_way_inner.nd rfl (Or.inl rfl)) (pgs_cons (pg_name (i := 7) sc_law_way_inner.nd rfl (Or.inl rfl)) pgs_nil))) (pss_one (ps_if (PW.pt (pw_and (pt_cmpR (show OpR _ _ (rIn K false) from op_in_seq) (pv 6) (pv 2) (by rfl)) (pw_and (pt_cmpR (show OpR _ _ (rIn K true) from op_notIn_seq) (pv 7) (pe_ix (show IxR _ (rIxT K) from ix_tup) (pv 0) pe_int (fun _ _ => rfl)) (by rfl)) (pw_and1 (pt_cmpR (show OpR _ _ (rIn K true) from op_notIn_seq) (pv 7) (pv 3) (by rfl)))))) (pss_cons (ps_expr (pe_bm PySem.F.plainAttrs_list PySem.F.slot_list_append PySem.F.type_list_append mt_append (pv 3) (pa_cons (pv 7) pa_nil)))
            (pss_one (ps_expr (pe_bm PySem.F.plainAttrs_list PySem.F.slot_list_append PySem.F.type_list_append mt_append (pv 5) (pa_cons (pv 7) pa_nil))))) pss_nil)))
        (pss_cons (ps_set (i := 2) sc_law_way_inner.nd rfl (Or.inl rfl) (pv 5))
        (pss_one (ps_if (pt_cmpR (show OpR _ _ (rEqD K) from op_eqD hU) (pv 2) (pe_lst pa_nil) (nomark _)) (pss_one ps_break) pss_nil))))))
      (pss_one (ps_ret (pe_callB (show CallR _ _ (rSortedI K) from cr_sortedI) (by rfl) T.sorted (by decide +kernel) (pa_cons (pv 3) pa_nil)))))), ?_⟩
    refine ⟨_, rfl, lo, _, rfl, .inr hS, fun l0 hl0 => ⟨Nat.zero_le _, fun m hm => ?_⟩⟩
    generalize eH1 : upd H l0 _ = H1 at hm ⊢
    have s1 : Same H H1 := by rw [← eH1]; exact same_upd hl0
    have hL1 : H1 l0 = some (.lst (S.map vN)) := by rw [← eH1]; exact upd_same
    have hm0 : H m = none := s1.free hm
    generalize eH2 : upd H1 m _ = H2
    have s2 : Same H1 H2 := by rw [← eH2]; exact same_upd hm
    have hM2 : H2 m = some (.lst (([] : List Nat).map vN)) := by rw [← eH2]; exact upd_same
    have nlm : l0 ≠ m := ne_of_none hL1 hm
    clear eH1 eH2
    have hC2 := (hC.same s1).same s2
    refine ⟨_, _, rfl, ?_⟩
    refine ⟨_, rfl, _, _, _, _, rfl, rfl, hC2.top, rfl, _, _, rfl, rfl, _, rfl, by omega, by omega, ?_⟩
    refine for_range (lo := 0) (n := C.n + 1) (fun i σ H' => ∃ (l : Addr) (L M : List Nat) (v4 v5 v6 v7 : Option V), σ = [some (.ref c), some (.ref lo), some (.ref l), some (.ref m), v4, v5, v6, v7] ∧ Kp [m] H2 H' ∧ l ≠ m ∧ H' l = some (.lst (L.map vN)) ∧ H' m = some (.lst (M.map vN)) ∧ MetOk C S M ∧ LeftOk C S M L ∧ i ≤ M.length ∧ L.length ≤ 60)
      ⟨l0, S, [], _, _, _, _, rfl, (fun b o _ e => e), nlm, s2 _ _ hL1, hM2, ⟨List.nodup_nil, fun _ h => nomatch h⟩, ⟨fun x hx => .inl hx, fun x hx => .inl (hx.resolve_right List.not_mem_nil)⟩, Nat.zero_le _, few⟩ ?_ ?_
    · rintro i σ H3 hi ⟨l, L, M, v4, v5, v6, v7, rfl, k3, nl, hL3, hM3, mo, le, iM, fl⟩
      refine ⟨Nat.zero_le _, fun g hg => ?_⟩
      generalize eH4 : upd H3 g _ = H4
      have s4 : Same H3 H4 := by rw [← eH4]; exact same_upd hg
      have hG4 : H4 g = some (.lst (([] : List Nat).map vN)) := by rw [← eH4]; exact upd_same
      clear eH4
      have ngl : l ≠ g := ne_of_none hL3 hg
      have ngm : m ≠ g := ne_of_none hM3 hg
      have hL4 := s4 _ _ hL3
      have hM4 := s4 _ _ hM3
      have l2 : Lists [m] H2 := lists_one hM2
      have hC4 := (hC2.keep k3 l2).same s4
      have l4 : Lists [m, g] H4 := fun b hb => by
        simp only [List.mem_cons, List.not_mem_nil, or_false] at hb
        rcases hb with rfl | rfl
        · exact ⟨_, hM4, (fun _ y => nomatch y), (fun _ _ y => nomatch y)⟩
        · exact ⟨_, hG4, (fun _ y => nomatch y), (fun _ _ y => nomatch y)⟩
      have back : ∀ {H' : Hp}, Kp [m, g] H4 H' → Kp [m] H2 H' := fun {H'} k b o nb eb => by
        have e3 := k3 b o nb eb
        refine k b o (fun mb => ?_) (s4 _ _ e3)
        simp only [List.mem_cons, List.not_mem_nil, or_false] at mb nb
        rcases mb with e | e
        · exact nb e
        · rw [e, hg] at e3; cases e3
      refine at_name ?_
      dsimp only
      refine at_seq ⟨_, rfl, _, _, _, _, rfl, rfl, hC4.top, rfl, r, rfl, ⟨_, hC4.row⟩, for_tup (K := K) (xs := ts.map V.ref) (fun j σ H' => ∃ (A : List Nat) (v6 v7 : Option V), σ = [some (.ref c), some (.ref lo), some (.ref l), some (.ref m), some (.int (0 + (i : Nat))), some (.ref g), v6, v7] ∧ Kp [m, g] H4 H' ∧ H' m = some (.lst ((M ++ A).map vN)) ∧ H' g = some (.lst (A.map vN)) ∧ MetOk C S (M ++ A) ∧ ∀ q ∈ C.roads.take j, q.1 ∈ L → q.2 ∉ C.wished → q.2 ∈ M ++ A)
        ⟨[], _, _, rfl, Kp.refl _ _, by rw [List.append_nil]; exact hM4, hG4, by rw [List.append_nil]; exact mo, fun q hq => by simp at hq⟩ (fun j σ H' _ ⟨_, _, _, _, k, _⟩ => k.sqT l4 hC4.row) ?_ ?_⟩
      · rintro j x σ H5 hx ⟨A, v6, v7, rfl, k5, hM5, hG5, mo5, dn5⟩
        obtain ⟨t, ht, rfl⟩ := get_map hx
        obtain ⟨q0, hq0, pt⟩ := paired_getL hC4.prs ht
        have inq := ok.inR q0 (List.mem_of_getElem? hq0)
        have hC5 := hC4.keep k5 l4
        have pt5 := k5.sqT l4 pt
        have hL5 := k5 _ _ (by simp only [List.mem_cons, List.not_mem_nil, or_false, not_or]; exact ⟨nl, ngl⟩) hL4
        have l60 := len_of_lt' (M ++ A) C.n mo5.nd fun x hx => (mo5.mem x hx).1
        rw [List.length_append] at l60
        refine ⟨t, _, rfl, pt5, rfl, _, _, rfl, _, _, rfl, rfl, ?_⟩
        have skip : ¬ (q0.1 ∈ L ∧ q0.2 ∉ C.wished ∧ q0.2 ∉ M ++ A) → ∃ (A' : List Nat) (v6 v7 : Option V), [some (V.ref c), some (.ref lo), some (.ref l), some (.ref m), some (.int (0 + (i : Nat))), some (.ref g), some (vN q0.1), some (vN q0.2)] = [some (V.ref c), some (.ref lo), some (.ref l), some (.ref m), some (.int (0 + (i : Nat))), some (.ref g), v6, v7] ∧ Kp [m, g] H4 H5 ∧ H5 m = some (.lst ((M ++ A').map vN)) ∧ H5 g = some (.lst (A'.map vN)) ∧ MetOk C S (M ++ A') ∧ ∀ q ∈ C.roads.take (j + 1), q.1 ∈ L → q.2 ∉ C.wished → q.2 ∈ M ++ A' := fun no => by
          refine ⟨A, _, _, rfl, k5, hM5, hG5, mo5, fun q hq h1 h2 => ?_⟩
          rw [take_more hq0] at hq
          rcases List.mem_append.mp hq with hq | hq
          · exact dn5 q hq h1 h2
          · rw [List.mem_singleton.mp hq] at h1 h2 ⊢
            exact Classical.byContradiction fun h3 => no ⟨h1, h2, h3⟩
        refine ⟨_, rfl, _, rfl, l, _, rfl, .inl (.inl (.inl hL5)), rfl, all_vN L, _, rfl, ?_⟩
        show if inV (vN q0.1) (L.map vN) = true then _ else _
        rw [in_vN]
        by_cases h1 : q0.1 ∈ L
        · rw [decide_eq_true h1]
          refine iteT ⟨_, rfl, _, rfl, _, _, _, _, rfl, rfl, hC5.top, rfl, wd, _, rfl, .inr hC5.wis, rfl, all_vN C.wished, _, rfl, ?_⟩
          show if (!inV (vN q0.2) (C.wished.map vN)) = true then _ else _
          rw [in_vN]
          by_cases h2 : q0.2 ∈ C.wished
          · rw [decide_eq_true h2]
            exact iteF (skip fun z => z.2.1 h2)
          · rw [decide_eq_false h2]
            refine iteT ⟨_, rfl, _, rfl, m, _, rfl, .inl (.inl (.inl hM5)), rfl, all_vN (M ++ A), _, rfl, ?_⟩
            show if (!inV (vN q0.2) ((M ++ A).map vN)) = true then _ else _
            rw [in_vN]
            by_cases h3 : q0.2 ∈ M ++ A
            · rw [decide_eq_true h3]
              exact iteF (skip fun z => z.2.2 h3)
            · rw [decide_eq_false h3]
              refine iteT ⟨_, rfl, .inl ⟨rfl, _, .inl (.inl hM5)⟩, _, rfl, m, _, _, rfl, rfl, hM5, by rw [List.length_map, List.length_append]; exact small1000 (by omega), ?_⟩
              have hG6 : (upd H5 m (.lst ((M ++ A).map vN ++ [vN q0.2]))) g = some (.lst (A.map vN)) := by rw [upd_ne ngm.symm]; exact hG5
              refine ⟨_, rfl, .inl ⟨rfl, _, .inl (.inl hG6)⟩, _, rfl, g, _, _, rfl, rfl, hG6, by rw [List.length_map]; exact small1000 (by omega), ?_⟩
              refine ⟨A ++ [q0.2], _, _, rfl, fun b o nb eb => ?_, ?_, ?_, ⟨?_, ?_⟩, ?_⟩
              · rw [upd_ne (fun z => nb (by rw [z]; simp)), upd_ne (fun z => nb (by rw [z]; simp))]
                exact k5 b o nb eb
              · rw [upd_ne ngm, upd_same, ← List.append_assoc, List.map_append (l₂ := [q0.2])]
                rfl
              · rw [upd_same, List.map_append]
                rfl
              · rw [← List.append_assoc, List.nodup_append]
                exact ⟨mo5.nd, by simp, fun x hx y hy z => h3 (by rw [← List.mem_singleton.mp hy, ← z]; exact hx)⟩
              · intro b hb
                rw [← List.append_assoc] at hb
                rcases List.mem_append.mp hb with hb | hb
                · exact mo5.mem b hb
                · rw [List.mem_singleton.mp hb]
                  refine ⟨inq.2, h2, ?_⟩
                  rcases le.of _ h1 with hs | hm
                  · exact ⟨q0.1, hs, .one (List.mem_of_getElem? hq0)⟩
                  · obtain ⟨_, nw, a, ha, ra⟩ := mo.mem _ hm
                    exact ⟨a, ha, .more ra nw (List.mem_of_getElem? hq0)⟩
              · intro q hq e1 e2
                rw [← List.append_assoc]
                rw [take_more hq0] at hq
                rcases List.mem_append.mp hq with hq | hq
                · exact List.mem_append_left _ (dn5 q hq e1 e2)
                · rw [List.mem_singleton.mp hq]
                  exact List.mem_append_right _ (by simp)
        · rw [decide_eq_false h1]
          exact iteF (skip fun z => h1 z.1)
      rintro σ H5 ⟨A, v6, v7, rfl, k5, hM5, hG5, mo5, dn5⟩
      have el : (ts.map V.ref).length = C.roads.length := by rw [List.length_map]; exact hC4.prs.length
      rw [el, List.take_length] at dn5
      have l60 := len_of_lt' (M ++ A) C.n mo5.nd fun x hx => (mo5.mem x hx).1
      rw [List.length_append] at l60
      have le5 : LeftOk C S (M ++ A) A := ⟨fun x hx => .inr (List.mem_append_right _ hx), fun x hx => by
        have : x ∈ A ∨ (x ∈ S ∨ x ∈ M) := by
          rcases hx with h | h
          · exact .inr (.inl h)
          · rcases List.mem_append.mp h with h | h
            · exact .inr (.inr h)
            · exact .inl h
        rcases this with h | h
        · exact .inl h
        · rcases le.done x h with z | z
          · exact .inr fun b hb nw => dn5 (x, b) hb z nw
          · exact .inr fun b hb nw => List.mem_append_left _ (z b hb nw)⟩
      refine ⟨_, rfl, ?_⟩
      refine ⟨_, rfl, Nat.zero_le _, fun z hz => ?_⟩
      have s6 := same_upd (o := .lst []) hz
      have sh : ∀ F : List Nat, SeqAt.shaped (.list (F.map nD)) = true := fun F => by
        have : F.map nD = (iN F).map .int := by unfold iN; rw [List.map_map]; rfl
        rw [this]
        exact ints_shaped _
      refine ⟨.list (A.map nD), .list [], .lst (.inl (.inl (s6 _ _ hG5))) (dp_nats A), .lst (.inl (.inl upd_same)) .nil, sh A, rfl, _, rfl, ?_⟩
      rw [eqv_nil]
      have k6 : Kp [m] H2 (upd H5 z (.lst [])) := (back k5).trans (Same.kp s6)
      have hM6 := s6 _ _ hM5
      have hG6 := s6 _ _ hG5
      generalize upd H5 z (.lst []) = H6 at k6 hM6 hG6
      cases A with
      | nil =>
        refine iteT ?_
        rw [List.append_nil] at hM6 mo5 le5
        have s06 : Same H H6 := fun b o eb => k6 b o (fun mb => by rw [List.mem_singleton.mp mb, hm0] at eb; cases eb) (s2 _ _ (s1 _ _ eb))
        refine ⟨_, rfl, m, iN M, rfl, .inl (.inl (by rw [← vN_map]; exact hM6)), fun ns' pq pm' pw hpq => ?_⟩
        obtain ⟨l', el', upl, ml⟩ := sorted_iN mo5.nd pm' pw
        have e1 : l' = innerL C S := those_is upl fun x => (ml x).trans (left_end ok mo5 le5 x)
        refine q pq _ (s06.trans (same_upd hpq)) ?_
        rw [upd_same, el', ← e1, vN_map]
        rfl
      | cons a A =>
        refine iteF ?_
        exact ⟨g, _, _, _, _, _, _, rfl, k6, ngm.symm, hG6, hM6, mo5, le5, by rw [List.length_append, List.length_cons]; omega, by omega⟩
    · rintro σ H3 ⟨l, L, M, v4, v5, v6, v7, rfl, k3, nl, hL3, hM3, mo, le, iM, fl⟩
      have := len_of_lt' M C.n mo.nd fun x hx => (mo.mem x hx).1
      omega
/-! ### _law_way_next -/
def sp_law_way_next (K : PySem.W.Frag) : Sp := fun vs H Q _ => ∃ (c lo : Addr) (C : Chart) (X : List Nat), vs = [.ref c, .ref lo] ∧ IsChart K H c C ∧ C.Ok ∧ C.roads.length ≤ 63 ∧ (SqL K H lo (X.map vN) ∨ SqT K H lo (X.map vN)) ∧
  ∀ t H', Same H H' → SqT K H' t ((nextL C X).map vN) → Q (.ref t) H'
theorem cal_law_way_next (T : Txt mg) (D : Def K mg "_law_way_next" s_law_way_next) : Cal P w K mg base 1 "_law_way_next" (sp_law_way_next K) := by
  refine cal_of D sc_law_way_next (fun _ _ _ _ _ _ us hl => match us, hl with | [_, _], _ => rfl) (fun vs H Q E h => ?_) (fun f cdv A outer s H vs Q E hr h => ?_)
  · obtain ⟨c, lo, C, X, rfl, _⟩ := h
    rfl
  · obtain ⟨c, lo, C, X, rfl, ⟨r, wd, ts, hC⟩, ok, r63, hX, q⟩ := h
    have n60 := ok.n60
    have many := ok.many
    refine ⟨_, (pss_cons (ps_setLc (i := 2) (own := [("a", 3), ("b", 4)]) rfl sc_law_way_next.nd rfl rfl (sw_true rfl rfl rfl (by decide +kernel)) (show PI _ _ _ (iTup K _) from pi_tup (pe_ix (show IxR _ (rIxT K) from ix_tup) (pv 0) pe_int (fun _ _ => rfl))) (blkOk_by (N := ["chart", "lot", "found", "a", "b"]) (sc := L2.defScope s_law_way_next) (by decide +kernel)) (fun _ _ _ _ _ => (show PG _ _ (gTup K 2 _) from pg_tup (by rfl) (pgs_cons (pg_name (i := 3) sc_law_way_next.nd rfl (Or.inl rfl)) (pgs_cons (pg_name (i := 4) sc_law_way_next.nd rfl (Or.inl rfl)) pgs_nil)))) (fun _ _ _ _ _ => pts_one (PW.pt (pw_and (pt_cmpR (show OpR _ _ (rIn K false) from op_in_seq) (pv 3) (pv 1) (by rfl)) (pw_and1 (PW.pt (pw_or (pt_cmpR (show OpR _ _ (rIn K false) from op_in_seq) (pv 4) (pe_ix (show IxR _ (rIxT K) from ix_tup) (pv 0) pe_int (fun _ _ => rfl)) (by rfl)) (pw_or1 (pt_cmpR (show OpR _ _ (rIn K true) from op_notIn_seq) (pv 4) (pv 1) (by rfl))))))))) (fun _ _ _ _ _ => (pv 4)))
      (pss_one (ps_ret (pe_callTy (show CallR _ _ (rTupleOf K) from call_tupleOf) (by rfl) T.tuple (by decide +kernel) (pa_cons (pe_callB (show CallR _ _ (rSortedSet w) from cr_sortedSet rfl) (by rfl) T.sorted (by decide +kernel) (pa_cons (pe_callTy (show CallR _ _ (rSetI K w) from cr_setI rfl) (by rfl) T.set (by decide +kernel) (pa_cons (pv 2) pa_nil)) pa_nil)) pa_nil))))), ?_⟩
    refine ⟨_, rfl, _, _, _, _, rfl, rfl, hC.top, rfl, r, rfl, ⟨_, hC.row⟩, fun D hD => ?_⟩
    have keep : ∀ {H' : Hp}, Kp [D] H H' → Same H H' := fun k => kp_same hD k
    refine lc_tup (K := K) (a := r) (xs := ts.map V.ref) (fun i H' => ∃ G : List Nat, Kp [D] H H' ∧ H' D = some (.lst (G.map vN)) ∧ G.length ≤ i ∧ ∀ b, b ∈ G ↔ ∃ p ∈ C.roads.take i, p.2 = b ∧ p.1 ∈ X ∧ (b ∈ C.wished ∨ b ∉ X))
      ⟨[], (fun b o x e' => by rw [upd_ne (ne_of_none e' hD)]; exact e'), upd_same, Nat.le_refl _, fun b => by simp⟩ (fun i H' _ ⟨_, k, _⟩ => Same.sqT (keep k) hC.row) ?_ ?_
    · rintro j y H3 hy ⟨G, k3, hD3, lG, mG⟩
      obtain ⟨t, ht, rfl⟩ := get_map hy
      obtain ⟨q0, hq0, pt⟩ := paired_getL hC.prs ht
      have jl : j < C.roads.length := (List.getElem?_eq_some_iff.mp hq0).1
      have s3 := keep k3
      have pt3 := Same.sqT s3 pt
      have hC3 := hC.same s3
      have hX3 : SqL K H3 lo (X.map vN) ∨ SqT K H3 lo (X.map vN) := hX.imp (Same.sqL s3) (Same.sqT s3)
      refine ⟨t, _, rfl, pt3, rfl, _, _, rfl, _, _, rfl, rfl, rfl, ?_⟩
      have skip : ¬ (q0.1 ∈ X ∧ (q0.2 ∈ C.wished ∨ q0.2 ∉ X)) → ∃ G : List Nat, Kp [D] H H3 ∧ H3 D = some (.lst (G.map vN)) ∧ G.length ≤ j + 1 ∧ ∀ b, b ∈ G ↔ ∃ p ∈ C.roads.take (j + 1), p.2 = b ∧ p.1 ∈ X ∧ (b ∈ C.wished ∨ b ∉ X) := fun no => by
        refine ⟨G, k3, hD3, by omega, fun b => ?_⟩
        rw [mG b, take_more hq0]
        constructor
        · rintro ⟨p, h1, h2⟩
          exact ⟨p, List.mem_append_left _ h1, h2⟩
        · rintro ⟨p, h1, h2, h3⟩
          rcases List.mem_append.mp h1 with h1 | h1
          · exact ⟨p, h1, h2, h3⟩
          · rw [List.mem_singleton.mp h1] at h2 h3
            rw [← h2] at h3
            exact absurd h3 no
      have add : (q0.1 ∈ X ∧ (q0.2 ∈ C.wished ∨ q0.2 ∉ X)) → ∃ G' : List Nat, Kp [D] H (upd H3 D (.lst (G.map vN ++ [vN q0.2]))) ∧ (upd H3 D (.lst (G.map vN ++ [vN q0.2]))) D = some (.lst (G'.map vN)) ∧ G'.length ≤ j + 1 ∧ ∀ b, b ∈ G' ↔ ∃ p ∈ C.roads.take (j + 1), p.2 = b ∧ p.1 ∈ X ∧ (b ∈ C.wished ∨ b ∉ X) := fun yes => by
        refine ⟨G ++ [q0.2], kp_put k3, by rw [upd_same, List.map_append]; rfl, by rw [List.length_append, List.length_singleton]; omega, fun b => ?_⟩
        rw [List.mem_append, List.mem_singleton, mG b, take_more hq0]
        constructor
        · rintro (⟨p, h1, h2⟩ | h)
          · exact ⟨p, List.mem_append_left _ h1, h2⟩
          · exact ⟨q0, List.mem_append_right _ (List.mem_singleton.mpr rfl), h.symm, by rw [h]; exact yes⟩
        · rintro ⟨p, h1, h2, h3⟩
          rcases List.mem_append.mp h1 with h1 | h1
          · exact .inl ⟨p, h1, h2, h3⟩
          · rw [List.mem_singleton.mp h1] at h2
            exact .inr h2.symm
      have sz : (G.map vN).length < sizeLine := by rw [List.length_map]; exact small1000 (by omega)
      refine ⟨_, rfl, _, rfl, lo, _, rfl, hX3, rfl, all_vN X, _, rfl, ?_⟩
      show if inV (vN q0.1) (X.map vN) = true then _ else _
      rw [in_vN]
      by_cases h1 : q0.1 ∈ X
      · rw [decide_eq_true h1]
        refine iteT ⟨_, rfl, _, rfl, _, _, _, _, rfl, rfl, hC3.top, rfl, wd, _, rfl, .inr hC3.wis, rfl, all_vN C.wished, _, rfl, ?_⟩
        show if inV (vN q0.2) (C.wished.map vN) = true then _ else _
        rw [in_vN]
        by_cases h2 : q0.2 ∈ C.wished
        · rw [decide_eq_true h2]
          exact iteT (iteT ⟨_, rfl, _, hD3, sz, add ⟨h1, .inl h2⟩⟩)
        · rw [decide_eq_false h2]
          refine iteF ⟨_, rfl, _, rfl, lo, _, rfl, hX3, rfl, all_vN X, _, rfl, ?_⟩
          show if (!inV (vN q0.2) (X.map vN)) = true then _ else _
          rw [in_vN]
          by_cases h3 : q0.2 ∈ X
          · rw [decide_eq_true h3]
            exact iteF (skip fun z => z.2.elim h2 fun n => n h3)
          · rw [decide_eq_false h3]
            exact iteT ⟨_, rfl, _, hD3, sz, add ⟨h1, .inr h3⟩⟩
      · rw [decide_eq_false h1]
        exact iteF (skip fun z => h1 z.1)
    rintro H3 ⟨G, k3, hD3, lG, mG⟩
    have el : (ts.map V.ref).length = C.roads.length := by rw [List.length_map]; exact hC.prs.length
    rw [el] at lG mG
    rw [List.take_length] at mG
    have s3 := keep k3
    refine ⟨_, rfl, D, iN G, rfl, .inl (.inl (.inl (by rw [← vN_map]; exact hD3))), by rw [iN_length]; omega, fun p n0 hp hn0 => ?_⟩
    generalize eH4 : upd H3 p _ = H4
    have s4 : Same H3 H4 := by rw [← eH4]; exact same_upd hp
    have hP4 : H4 p = some (SetO w p (fun j => decide (j ∈ iN G)) n0) := by rw [← eH4]; exact upd_same
    clear eH4
    rw [iN_length] at hn0
    refine ⟨p, _, n0, rfl, hP4, by omega, fun gs fu up mem _ hfu => ?_⟩
    obtain ⟨wl, rfl, upw, memw⟩ : ∃ wl : List Nat, gs = iN wl ∧ wl.Pairwise (· < ·) ∧ ∀ x, x ∈ wl ↔ x ∈ G := set_nat up mem
    have ew : wl = nextL C X := those_is upw fun x => by
      rw [memw x, mG x]
      constructor
      · rintro ⟨p, h1, h2, h3, h4⟩
        subst h2
        exact ⟨(ok.inR p h1).2, ⟨p.1, h3, h1⟩, h4⟩
      · rintro ⟨_, ⟨a, h3, h1⟩, h4⟩
        exact ⟨(a, x), h1, rfl, h3, h4⟩
    subst ew
    generalize eH5 : upd H4 fu _ = H5
    have s5 : Same H4 H5 := by rw [← eH5]; exact same_upd hfu
    have hF5 : H5 fu = some (.lst ((nextL C X).map vN)) := by rw [← eH5, vN_map]; exact upd_same
    clear eH5
    refine ⟨fu, _, rfl, .inl ⟨.inl (.inl hF5), fun t ht => ?_⟩⟩
    exact q t _ ((s3.trans (s4.trans s5)).trans (same_upd ht)) (.inl (.inl upd_same))
end
end Ft

set_option Elab.async false
set_option linter.all false
set_option maxRecDepth 100000
set_option maxHeartbeats 4000000
/-! Plain mathematics: all regions of a lot. -/
namespace Ft
def growR (R : List (List Nat)) (p : Nat) : List (List Nat) := R ++ R.map fun X => X ++ [p]
def regsF (S ps : List Nat) : List (List Nat) := ps.foldl growR [S]
theorem regs_gen : ∀ (ps : List Nat) (R : List (List Nat)) (Y : List Nat), Y ∈ ps.foldl growR R ↔ ∃ X ∈ R, ∃ Z, Z.Sublist ps ∧ Y = X ++ Z
  | [], R, Y => by
    constructor
    · exact fun h => ⟨Y, h, [], .slnil, (List.append_nil _).symm⟩
    · rintro ⟨X, h, Z, s, e⟩
      cases s
      rw [e, List.append_nil]
      exact h
  | p :: ps, R, Y => by
    rw [List.foldl_cons, regs_gen ps]
    constructor
    · rintro ⟨X, hX, Z, s, e⟩
      rcases List.mem_append.mp hX with h | h
      · exact ⟨X, h, Z, .cons _ s, e⟩
      · obtain ⟨X', h', rfl⟩ := List.mem_map.mp h
        exact ⟨X', h', p :: Z, .cons_cons _ s, by rw [e, List.append_assoc]; rfl⟩
    · rintro ⟨X, hX, Z, s, e⟩
      cases s with
      | cons _ s => exact ⟨X, List.mem_append_left _ hX, Z, s, e⟩
      | cons_cons _ s =>
        rename_i Z'
        exact ⟨X ++ [p], List.mem_append_right _ (List.mem_map.mpr ⟨X, hX, rfl⟩), Z', s, by rw [e, List.append_assoc]; rfl⟩
theorem regs_mem {S ps Y : List Nat} : Y ∈ regsF S ps ↔ ∃ Z, Z.Sublist ps ∧ Y = S ++ Z := by
  unfold regsF
  rw [regs_gen]
  constructor
  · rintro ⟨X, h, Z, s, e⟩
    rw [List.mem_singleton.mp h] at e
    exact ⟨Z, s, e⟩
  · rintro ⟨Z, s, e⟩
    exact ⟨S, List.mem_singleton.mpr rfl, Z, s, e⟩
theorem regs_more {S ps : List Nat} {i p : Nat} (h : ps[i]? = some p) : regsF S (ps.take (i + 1)) = growR (regsF S (ps.take i)) p := by
  unfold regsF
  rw [List.take_add_one, h, List.foldl_append]
  rfl
theorem regs_len (S : List Nat) : ∀ ps : List Nat, (regsF S ps).length = 2 ^ ps.length := fun ps => by
  have gen : ∀ (ps : List Nat) (R : List (List Nat)), (ps.foldl growR R).length = R.length * 2 ^ ps.length := by
    intro ps
    induction ps with
    | nil => intro R; simp
    | cons p ps ih =>
      intro R
      rw [List.foldl_cons, ih]
      unfold growR
      rw [List.length_append, List.length_map, List.length_cons, Nat.pow_succ]
      rw [← Nat.two_mul, Nat.mul_comm (2 ^ ps.length) 2, ← Nat.mul_assoc, Nat.mul_comm 2 R.length]
  unfold regsF
  rw [gen]
  simp
/-- the places beside a lot that a region may hold -/
noncomputable def besideL (C : Chart) (S : List Nat) : List Nat := (those C.n fun b => b ∉ C.wished ∧ ComesS C S b).filter fun b => !decide (b ∈ S)
theorem beside_mem {C : Chart} {S : List Nat} {b : Nat} : b ∈ besideL C S ↔ (b < C.n ∧ b ∉ C.wished ∧ ComesS C S b) ∧ b ∉ S := by
  unfold besideL
  rw [List.mem_filter, those_mem]
  simp
theorem beside_nd (C : Chart) (S : List Nat) : (besideL C S).Nodup := (up_nodup (those_up _ _)).filter _
theorem region_of {C : Chart} {S Y : List Nat} (h : Y ∈ regsF S (besideL C S)) : Region C S Y := by
  obtain ⟨Z, s, rfl⟩ := regs_mem.mp h
  refine ⟨fun a ha => List.mem_append_left _ ha, fun a ha => ?_⟩
  rcases List.mem_append.mp ha with h | h
  · exact .inl h
  · exact .inr (beside_mem.mp (s.subset h)).1.2.1
theorem region_nd {C : Chart} {S Y : List Nat} (nd : S.Nodup) (h : Y ∈ regsF S (besideL C S)) : Y.Nodup := by
  obtain ⟨Z, s, rfl⟩ := regs_mem.mp h
  rw [List.nodup_append]
  refine ⟨nd, (beside_nd C S).sublist s, fun a ha b hb e => ?_⟩
  subst e
  exact (beside_mem.mp (s.subset hb)).2 ha
theorem region_lt {C : Chart} {S Y : List Nat} (lt : ∀ a ∈ S, a < C.n) (h : Y ∈ regsF S (besideL C S)) : ∀ a ∈ Y, a < C.n := fun a ha => by
  obtain ⟨Z, s, rfl⟩ := regs_mem.mp h
  rcases List.mem_append.mp ha with h | h
  · exact lt a h
  · exact (beside_mem.mp (s.subset h)).1.1
theorem next_congr {C : Chart} {X Y : List Nat} (h : ∀ a, a ∈ X ↔ a ∈ Y) : nextL C X = nextL C Y := by
  refine those_is (those_up _ _) fun b => ?_
  rw [nextL_mem, h b]
  constructor
  · rintro ⟨h1, ⟨a, ha, hr⟩, h3⟩
    exact ⟨h1, ⟨a, (h a).mp ha, hr⟩, h3⟩
  · rintro ⟨h1, ⟨a, ha, hr⟩, h3⟩
    exact ⟨h1, ⟨a, (h a).mpr ha, hr⟩, h3⟩
/-- one of the regions has the same places -/
theorem region_is {C : Chart} {S F X : List Nat} {m : Nat} (sp : NearSpec C S F m X) : ∃ Y ∈ regsF S (besideL C S), ∀ a, a ∈ X ↔ a ∈ Y := by
  refine ⟨S ++ (besideL C S).filter fun a => decide (a ∈ X), regs_mem.mpr ⟨_, List.filter_sublist, rfl⟩, fun a => ?_⟩
  rw [List.mem_append, List.mem_filter, beside_mem, decide_eq_true_eq]
  constructor
  · intro h
    by_cases s : a ∈ S
    · exact .inl s
    · exact .inr ⟨⟨⟨sp.lt a h, (sp.inn a h).resolve_left s⟩, s⟩, h⟩
  · rintro (h | h)
    · exact sp.sub a h
    · exact h.2
/-- the least region of those with fewest places next to them is the nearest one -/
theorem nearest_is {C : Chart} {S F X Y : List Nat} {m : Nat} (nd : S.Nodup) (sp : NearSpec C S F m X) (hY : Y ∈ regsF S (besideL C S)) (fr : ∀ b ∈ nextL C Y, b ∉ F)
    (few : ∀ Z ∈ regsF S (besideL C S), (∀ b ∈ nextL C Z, b ∉ F) → (nextL C Y).length ≤ (nextL C Z).length) (least : ∀ Z ∈ regsF S (besideL C S), (∀ b ∈ nextL C Z, b ∉ F) → (nextL C Z).length = (nextL C Y).length → Y.length ≤ Z.length) :
    nextL C X = nextL C Y := by
  obtain ⟨Z, hZ, e⟩ := region_is sp
  have eN := next_congr (C := C) e
  have fZ : ∀ b ∈ nextL C Z, b ∉ F := by rw [← eN]; exact sp.free
  have h1 := few Z hZ fZ
  obtain ⟨h2, h3⟩ := sp.least Y (region_of hY) fr
  have e1 : (nextL C Y).length = m := by rw [← eN, sp.many] at h1; omega
  have h4 := least Z hZ fZ (by rw [← eN, sp.many, e1])
  have sub := h3 e1
  have lXZ : X.length = Z.length := nodup_len_eq (up_nodup sp.up) (region_nd nd hZ) e
  have eq : ∀ a, a ∈ X ↔ a ∈ Y := fun a => by
    refine ⟨sub a, fun ha => Classical.byContradiction fun no => ?_⟩
    have : (a :: X).length ≤ Y.length := nodup_len_le (List.nodup_cons.mpr ⟨no, up_nodup sp.up⟩) fun x hx => by
      rcases List.mem_cons.mp hx with h | h
      · rw [h]; exact ha
      · exact sub x h
    rw [List.length_cons] at this
    omega
  exact next_congr eq
/-- a region with no free place next to it -/
theorem region_free {C : Chart} {S F : List Nat} (ok : C.Ok) (ff : ∀ a ∈ F, a ∉ C.wished) : ∃ Y ∈ regsF S (besideL C S), ∀ b ∈ nextL C Y, b ∉ F := by
  refine ⟨S ++ besideL C S, regs_mem.mpr ⟨_, List.Sublist.refl _, rfl⟩, fun b hb hF => ?_⟩
  obtain ⟨h1, ⟨a, ha, hr⟩, h3⟩ := nextL_mem.mp hb
  have nw := ff b hF
  refine (h3.resolve_left nw) ?_
  by_cases s : b ∈ S
  · exact List.mem_append_left _ s
  · refine List.mem_append_right _ (beside_mem.mpr ⟨⟨h1, nw, ?_⟩, s⟩)
    rcases List.mem_append.mp ha with h | h
    · exact ⟨a, h, .one hr⟩
    · obtain ⟨⟨_, aw, s0, hs0, r⟩, _⟩ := beside_mem.mp h
      exact ⟨s0, hs0, .more r aw hr⟩
end Ft

set_option Elab.async false
set_option linter.all false
set_option maxRecDepth 100000
set_option maxHeartbeats 4000000
/-! Expressions over data that change nothing: what data they give. -/
namespace Ft
open PySem PySem.Spec PyProof.Rows L2
def Gv (K : PySem.W.Frag) (σ : L2.St) (H : Hp) (t : TE) (d : PyData) : Prop := ∀ H1, Same H H1 → ∀ Q : VK, (∀ v H', Same H1 H' → Dp K H' v d → Q v H') → t σ H1 Q
def GvA (K : PySem.W.Frag) (σ : L2.St) (H : Hp) (t : TA) (ds : List PyData) : Prop := ∀ H1, Same H H1 → ∀ Q : List V → Hp → Prop, (∀ vs H', Same H1 H' → DpAll K H' vs ds → Q vs H') → t σ H1 Q
theorem Same.rfl' (H : Hp) : Same H H := fun _ _ h => h
section
variable {K : PySem.W.Frag} {σ : L2.St} {H : Hp} {t ta tb te : TE} {tr : TA} {d : PyData} {ds es : List PyData} {Q : VK}
theorem Gv.go (g : Gv K σ H t d) (q : ∀ v H', Same H H' → Dp K H' v d → Q v H') : t σ H Q := g H (Same.rfl' H) Q q
theorem Gv.same {H' : Hp} (s : Same H H') (g : Gv K σ H t d) : Gv K σ H' t d := fun H1 s1 Q q => g H1 (s.trans s1) Q q
theorem gv_int {i : Int} : Gv K σ H (tC (.int i)) (.int i) := fun H1 _ Q q => q _ H1 (Same.rfl' _) (.int _)
theorem gv_bl {b : Bool} : Gv K σ H (tC (.bl b)) (.bool b) := fun H1 _ Q q => q _ H1 (Same.rfl' _) (.bl _)
theorem gv_non : Gv K σ H (tC .non) .none := fun H1 _ Q q => q _ H1 (Same.rfl' _) .non
theorem gv_str {z : Str} : Gv K σ H (tC (.str z)) (.str z) := fun H1 _ Q q => q _ H1 (Same.rfl' _) (.str _)
theorem gv_var {i : Nat} {v : V} (e : σ[i]? = some (some v)) (h : Dp K H v d) : Gv K σ H (tVar i) d := fun H1 s Q q => ⟨v, e, q v H1 (Same.rfl' _) (Dp.same s h)⟩
theorem gv_neg {i : Int} (g : Gv K σ H t (.int i)) : Gv K σ H (tUn (rU fun i => V.int (-i)) t) (.int (-i)) := fun H1 s Q q => g H1 s _ fun v H' s' h => by
  cases dp_int h
  exact ⟨i, rfl, q _ H' s' (.int _)⟩
theorem gva_nil : GvA K σ H tNil [] := fun H1 _ Q q => q _ H1 (Same.rfl' _) .nil
theorem gva_cons (g : Gv K σ H t d) (gs : GvA K σ H tr ds) : GvA K σ H (tCons t tr) (d :: ds) := fun H1 s Q q => g H1 s _ fun v H2 s2 h => gs H2 (s.trans s2) _ fun vs H3 s3 hs => q _ H3 (s2.trans s3) (.cons (Dp.same s3 h) hs)
theorem gv_tup (g : GvA K σ H tr ds) (few : ds.length ≤ 1000) : Gv K σ H (tTup tr) (.tuple ds) := fun H1 s Q q => g H1 s _ fun vs H2 s2 hs => by
  have big : (1000 : Nat) ≤ sizeLine := by decide
  have len := dpAll_length hs
  exact ⟨by omega, fun p hp => q _ _ (s2.trans (same_upd hp)) (.tup (.inl (.inl upd_same)) (DpAll.same (same_upd hp) hs))⟩
theorem gv_lst (g : GvA K σ H tr ds) (few : ds.length ≤ 1000) : Gv K σ H (tLst tr) (.list ds) := fun H1 s Q q => g H1 s _ fun vs H2 s2 hs => by
  have big : (1000 : Nat) ≤ sizeLine := by decide
  have len := dpAll_length hs
  exact ⟨by omega, fun p hp => q _ _ (s2.trans (same_upd hp)) (.lst (.inl (.inl upd_same)) (DpAll.same (same_upd hp) hs))⟩
theorem gv_ixT {j : Nat} (g : Gv K σ H ta (.tuple ds)) (g2 : Gv K σ H tb (.int (j : Int))) (e : ds[j]? = some d) : Gv K σ H (tOp (rIxT K) ta tb) d := fun H1 s Q q => g H1 s _ fun v H2 s2 h => g2 H2 (s.trans s2) _ fun u H3 s3 h3 => by
  cases dp_int h3
  obtain ⟨a, xs, rfl, hs, ha⟩ := dp_tup (Dp.same s3 h)
  obtain ⟨x, hx, dx⟩ := dpAll_getD ha e
  exact ⟨a, xs, (j : Int), x, rfl, rfl, hs, atI_nat hx, q _ _ (s2.trans s3) dx⟩
theorem gv_cat (g : Gv K σ H ta (.tuple ds)) (g2 : Gv K σ H tb (.tuple es)) (few : ds.length + es.length ≤ 1000) : Gv K σ H (tOp (rCatA K) ta tb) (.tuple (ds ++ es)) := fun H1 s Q q => g H1 s _ fun v H2 s2 h => g2 H2 (s.trans s2) _ fun u H3 s3 h3 => by
  obtain ⟨a, xs, rfl, hs, ha⟩ := dp_tup (Dp.same s3 h)
  obtain ⟨b, ys, rfl, hs2, ha2⟩ := dp_tup h3
  exact catA_of hs hs2 (by rw [dpAll_length ha, dpAll_length ha2]; exact few) fun p H4 s4 hp => q _ _ ((s2.trans s3).trans s4) (.tup hp (dpAll_app (DpAll.same s4 ha) (DpAll.same s4 ha2)))
theorem dpAll_cut {H : Hp} {xs : List V} {lo hi : Option Int} (h : DpAll K H xs ds) : DpAll K H (cutG xs lo hi) (cutG ds lo hi) := by
  unfold cutG
  rw [dpAll_length h]
  exact dpAll_take (dpAll_drop h)
theorem gv_slTo {i : Int} (g : Gv K σ H te (.tuple ds)) (g2 : Gv K σ H tb (.int i)) : Gv K σ H (tSl (rSlA K) te tNoPart (tPart tb)) (.tuple (cutG ds none (some i))) := fun H1 s Q q => g H1 s _ fun v H2 s2 h => g2 H2 (s.trans s2) _ fun u H3 s3 h3 => by
  cases dp_int h3
  obtain ⟨a, xs, rfl, hs, ha⟩ := dp_tup (Dp.same s3 h)
  exact ⟨i, rfl, slA_of hs fun p H4 s4 hp => q _ _ ((s2.trans s3).trans s4) (.tup hp (dpAll_cut (DpAll.same s4 ha)))⟩
theorem gv_slFrom {i : Int} (g : Gv K σ H te (.tuple ds)) (g2 : Gv K σ H tb (.int i)) : Gv K σ H (tSl (rSlA K) te (tPart tb) tNoPart) (.tuple (cutG ds (some i) none)) := fun H1 s Q q => g H1 s _ fun v H2 s2 h => g2 H2 (s.trans s2) _ fun u H3 s3 h3 => by
  cases dp_int h3
  obtain ⟨a, xs, rfl, hs, ha⟩ := dp_tup (Dp.same s3 h)
  exact ⟨i, rfl, no_part (slA_of hs fun p H4 s4 hp => q _ _ ((s2.trans s3).trans s4) (.tup hp (dpAll_cut (DpAll.same s4 ha))))⟩
theorem gv_take {k : Nat} (g : Gv K σ H te (.tuple ds)) (g2 : Gv K σ H tb (.int (k : Int))) : Gv K σ H (tSl (rSlA K) te tNoPart (tPart tb)) (.tuple (ds.take k)) := by
  have := gv_slTo g g2
  rwa [cutG_take] at this
theorem gv_drop {k : Nat} (g : Gv K σ H te (.tuple ds)) (g2 : Gv K σ H tb (.int (k : Int))) : Gv K σ H (tSl (rSlA K) te (tPart tb) tNoPart) (.tuple (ds.drop k)) := by
  have := gv_slFrom g g2
  rwa [cutG_drop] at this
theorem gv_len (g : Gv K σ H t (.tuple ds)) : Gv K σ H (tCB (rLenS K) (tCons t tNil)) (.int (ds.length : Int)) := fun H1 s Q q => g H1 s _ fun v H2 s2 h => by
  obtain ⟨a, xs, rfl, hs, ha⟩ := dp_tup h
  have := q (.int ((xs.length : Nat) : Int)) H2 s2 (by rw [dpAll_length ha]; exact .int _)
  exact ⟨a, xs, rfl, .inr hs, this⟩
theorem gv_add {i j : Int} (g : Gv K σ H ta (.int i)) (g2 : Gv K σ H tb (.int j)) : Gv K σ H (tOp (rI0 fun i j => V.int (i + j)) ta tb) (.int (i + j)) := fun H1 s Q q => g H1 s _ fun v H2 s2 h => g2 H2 (s.trans s2) _ fun u H3 s3 h3 => by
  cases dp_int h
  cases dp_int h3
  exact ⟨i, j, rfl, rfl, q _ _ (s2.trans s3) (.int _)⟩
theorem gv_sub {i j : Int} (g : Gv K σ H ta (.int i)) (g2 : Gv K σ H tb (.int j)) : Gv K σ H (tOp (rI0 fun i j => V.int (i - j)) ta tb) (.int (i - j)) := fun H1 s Q q => g H1 s _ fun v H2 s2 h => g2 H2 (s.trans s2) _ fun u H3 s3 h3 => by
  cases dp_int h
  cases dp_int h3
  exact ⟨i, j, rfl, rfl, q _ _ (s2.trans s3) (.int _)⟩
/-! ### where they stand -/
theorem asg_gv {i : Nat} {D : Ends} (g : Gv K σ H te d) (q : ∀ v H', Same H H' → Dp K H' v d → D.nx (σ.set i (some v)) H') : tAsg te (gName i) D σ H := g.go q
theorem seq_gv {i : Nat} {D : Ends} {u : TS} (g : Gv K σ H te d) (q : ∀ v H', Same H H' → Dp K H' v d → u D (σ.set i (some v)) H') : tSeq (tAsg te (gName i)) u D σ H := g.go q
theorem lst_gv (g : GvA K σ H tr ds) (few : ds.length ≤ 1000) (q : ∀ p xs H', Same H H' → H' p = some (.lst xs) → DpAll K H' xs ds → Q (.ref p) H') : tLst tr σ H Q := g H (Same.rfl' H) _ fun vs H2 s2 hs => by
  have big : (1000 : Nat) ≤ sizeLine := by decide
  have len := dpAll_length hs
  exact ⟨by omega, fun p hp => q p vs _ (s2.trans (same_upd hp)) upd_same (DpAll.same (same_upd hp) hs)⟩
/-- for x in [..], a row of data -/
theorem for_lit {g : TG} {tb : TS} {D : Ends} (gs : GvA K σ H tr ds) (few : ds.length ≤ 1000) (q : ∀ p xs H1, Same H H1 → H1 p = some (.lst xs) → DpAll K H1 xs ds → ∃ Pv : Nat → L2.St → Hp → Prop, Pv 0 σ H1 ∧ (∀ i σ H, i ≤ xs.length → Pv i σ H → SqL K H p xs) ∧
      (∀ i x σ H, xs[i]? = some x → Pv i σ H → g x σ H fun σ2 H2 => tb { D with nx := Pv (i + 1), ct := Pv (i + 1), bk := D.nx } σ2 H2) ∧ ∀ σ H, Pv xs.length σ H → D.nx σ H) : tFor (iList K (tLst tr)) g tb D σ H := by
  have big : (1000 : Nat) ≤ sizeLine := by decide
  refine gs H (Same.rfl' H) _ fun xs H0 s0 hd0 => ⟨by have := dpAll_length hd0; omega, fun p hnew => ?_⟩
  have s1 := s0.trans (same_upd (o := .lst xs) hnew)
  have hp : (upd H0 p (.lst xs)) p = some (.lst xs) := upd_same
  obtain ⟨Pv, h0, hl, hs, hn⟩ := q p xs _ s1 hp (DpAll.same (same_upd hnew) hd0)
  exact ⟨p, rfl, ⟨xs, .inl (.inl hp)⟩, for_list Pv h0 hl hs hn⟩
end
end Ft

set_option Elab.async false
set_option linter.all false
set_option maxRecDepth 100000
set_option maxHeartbeats 8000000
namespace Ft
open PySem PySem.Spec PyProof.Rows L2
/-- objects, each with the places that it holds -/
def rfs (R : List (Addr × List Nat)) : List V := R.map fun r => V.ref r.1
theorem rfs_len (R : List (Addr × List Nat)) : (rfs R).length = R.length := List.length_map ..
theorem rfs_add (R : List (Addr × List Nat)) (p : Addr × List Nat) : rfs R ++ [V.ref p.1] = rfs (R ++ [p]) := by
  unfold rfs
  rw [List.map_append]
  rfl
def RgsAt (H : Hp) (R : List (Addr × List Nat)) : Prop := ∀ p ∈ R, H p.1 = some (.lst (p.2.map vN))
theorem RgsAt.same {H H' : Hp} {R : List (Addr × List Nat)} (s : Same H H') (h : RgsAt H R) : RgsAt H' R := fun p hp => s _ _ (h p hp)
theorem RgsAt.app {H : Hp} {R R' : List (Addr × List Nat)} (h : RgsAt H R) (h' : RgsAt H R') : RgsAt H (R ++ R') := fun p hp => (List.mem_append.mp hp).elim (h p) (h' p)
theorem RgsAt.set {H : Hp} {R : List (Addr × List Nat)} {D : Addr} {o : HO} (n : ∀ p ∈ R, p.1 ≠ D) (h : RgsAt H R) : RgsAt (upd H D o) R := fun p hp => by
  rw [upd_ne (n p hp)]
  exact h p hp
theorem RgsAt.one {H : Hp} {p : Addr × List Nat} (h : H p.1 = some (.lst (p.2.map vN))) : RgsAt H [p] := fun q hq => by rw [List.mem_singleton.mp hq]; exact h
/-- a pair: what is next to a region, and the region -/
def RgPair (K : PySem.W.Frag) (H : Hp) (C : Chart) (p : Addr × List Nat) : Prop := ∃ nx rg, SqT K H p.1 [.ref nx, .ref rg] ∧ SqT K H nx ((nextL C p.2).map vN) ∧ SqL K H rg (p.2.map vN)
theorem RgPair.same {K : PySem.W.Frag} {H H' : Hp} {C : Chart} {p : Addr × List Nat} (s : Same H H') (h : RgPair K H C p) : RgPair K H' C p := by
  obtain ⟨nx, rg, h1, h2, h3⟩ := h
  exact ⟨nx, rg, Same.sqT s h1, Same.sqT s h2, Same.sqL s h3⟩
def PairsR (K : PySem.W.Frag) (H : Hp) (C : Chart) (R : List (Addr × List Nat)) : Prop := ∀ p ∈ R, RgPair K H C p
theorem PairsR.same {K : PySem.W.Frag} {H H' : Hp} {C : Chart} {R : List (Addr × List Nat)} (s : Same H H') (h : PairsR K H C R) : PairsR K H' C R := fun p hp => (h p hp).same s
theorem PairsR.add {K : PySem.W.Frag} {H : Hp} {C : Chart} {R : List (Addr × List Nat)} {p : Addr × List Nat} (h : PairsR K H C R) (hp : RgPair K H C p) : PairsR K H C (R ++ [p]) := fun q hq => (List.mem_append.mp hq).elim (h q) fun m => by rw [List.mem_singleton.mp m]; exact hp
theorem same_put {H0 H : Hp} {D : Addr} {o : HO} (hD : H0 D = none) (s : Same H0 H) : Same H0 (upd H D o) := fun b x e => by
  rw [upd_ne (ne_of_none e hD)]
  exact s _ _ e
section
variable {P : Program} {w : World} {K : PySem.W.Frag} {mg : Str → Option Value} {base : Heap}
/-! ### _law_way_regions -/
def sp_law_way_regions (K : PySem.W.Frag) : Sp := fun vs H Q _ => ∃ (c lo : Addr) (C : Chart) (S : List Nat), vs = [.ref c, .ref lo] ∧ IsChart K H c C ∧ C.Ok ∧ C.n ≤ 7 ∧ C.roads.length ≤ 63 ∧ SqT K H lo (S.map vN) ∧ (∀ x ∈ S, x < C.n) ∧ S.length ≤ 60 ∧
  ∀ (t : Addr) (R : List (Addr × List Nat)) (H' : Hp), Same H H' → H' t = some (.lst (rfs R)) → PairsR K H' C R → R.map (·.2) = regsF S (besideL C S) → Q (.ref t) H'
theorem cal_law_way_regions (T : Txt mg) (D : Def K mg "_law_way_regions" s_law_way_regions) (c_law_way_inner : Cal P w K mg base 1 "_law_way_inner" (sp_law_way_inner K)) (c_law_way_next : Cal P w K mg base 1 "_law_way_next" (sp_law_way_next K)) : Cal P w K mg base 2 "_law_way_regions" (sp_law_way_regions K) := by
  refine cal_of D sc_law_way_regions (fun _ _ _ _ _ _ us hl => match us, hl with | [_, _], _ => rfl) (fun vs H Q E h => ?_) (fun f cdv A outer s H vs Q E hr h => ?_)
  · obtain ⟨c, lo, C, S, rfl, _⟩ := h
    rfl
  · obtain ⟨c, lo, C, S, rfl, hC, ok, n7, r63, hS, inS, fewS, q⟩ := h
    refine ⟨_, (pss_cons (ps_set (i := 2) sc_law_way_regions.nd rfl (Or.inl rfl) (pe_lst (pa_cons (pe_callTy (show CallR _ _ (rListOf K) from call_listOf) (by rfl) T.list (by decide +kernel) (pa_cons (pv 1) pa_nil)) pa_nil)))
      (pss_cons (ps_for PassesOwn.never rfl (show PI _ _ _ (iList K _) from pi_list (pe_lc (own := [("p", 4)]) rfl sc_law_way_regions.nd (show PI _ _ _ (iList K _) from pi_list (pe_c c_law_way_inner hr (by decide) (by rfl) (pa_cons (pv 0) (pa_cons (pv 1) pa_nil)))) (blkOk_by (N := ["chart", "lot", "regions", "place", "p", "region"]) (sc := L2.defScope s_law_way_regions) (by decide +kernel)) (fun _ _ _ _ _ => (pg_name (i := 4) sc_law_way_regions.nd rfl (Or.inl rfl))) (fun _ _ _ _ _ => pts_one (pt_cmpR (show OpR _ _ (rIn K true) from op_notIn_seq) (pv 4) (pv 1) (by rfl))) (fun _ _ _ _ _ => (pv 4)))) (pg_name (i := 3) sc_law_way_regions.nd rfl (Or.inr rfl)) (pss_one (ps_set (i := 2) sc_law_way_regions.nd rfl (Or.inl rfl) (pe_op op_cat (pv 2) (pe_lc (own := [("region", 5)]) rfl sc_law_way_regions.nd (show PI _ _ _ (iList K _) from pi_list (pv 2)) (blkOk_by (N := ["chart", "lot", "regions", "place", "p", "region"]) (sc := L2.defScope s_law_way_regions) (by decide +kernel)) (fun _ _ _ _ _ => (pg_name (i := 5) sc_law_way_regions.nd rfl (Or.inl rfl))) (fun _ _ _ _ _ => pts_nil) (fun _ _ _ _ _ => (pe_op op_cat (pv 5) (pe_lst (pa_cons (pv 3) pa_nil)))))))))
      (pss_one (ps_ret (pe_lc (own := [("region", 5)]) rfl sc_law_way_regions.nd (show PI _ _ _ (iList K _) from pi_list (pv 2)) (blkOk_by (N := ["chart", "lot", "regions", "place", "p", "region"]) (sc := L2.defScope s_law_way_regions) (by decide +kernel)) (fun _ _ _ _ _ => (pg_name (i := 5) sc_law_way_regions.nd rfl (Or.inl rfl))) (fun _ _ _ _ _ => pts_nil) (fun _ _ _ _ _ => (pe_tup (pa_cons (pe_c c_law_way_next hr (by decide) (by rfl) (pa_cons (pv 0) (pa_cons (pv 5) pa_nil))) (pa_cons (pv 5) pa_nil))))))))), ?_⟩
    refine ⟨_, rfl, lo, _, rfl, .inr hS, fun a0 ha0 => ⟨by show 1 ≤ sizeLine; decide, fun g hg => ?_⟩⟩
    generalize eH1 : upd H a0 _ = H1 at hg ⊢
    have s1 : Same H H1 := by rw [← eH1]; exact same_upd ha0
    have hA1 : H1 a0 = some (.lst (S.map vN)) := by rw [← eH1]; exact upd_same
    clear eH1
    generalize eH2 : upd H1 g _ = H2
    have s2 : Same H1 H2 := by rw [← eH2]; exact same_upd hg
    have hG2 : H2 g = some (.lst (rfs [(a0, S)])) := by rw [← eH2]; exact upd_same
    clear eH2
    have s02 := s1.trans s2
    have rg2 : RgsAt H2 [(a0, S)] := .one (s2 _ _ hA1)
    have hS2 := Same.sqT s02 hS
    have hC2 := hC.same s02
    refine ⟨_, rfl, _, rfl, c, lo, C, S, rfl, hC2, ok, hS2, inS, fewS, fun it H3 s3 hI3 => ?_⟩
    have hS3 := Same.sqT s3 hS2
    refine ⟨it, rfl, ⟨_, .inl (.inl hI3)⟩, fun D hD => ?_⟩
    have lI : (innerL C S).length ≤ 7 := by
      have := up_len (those_up C.n fun b => b ∉ C.wished ∧ ComesS C S b) fun a h => (those_mem.mp h).1
      exact Nat.le_trans this n7
    refine lc_list (K := K) (xs := (innerL C S).map vN) (fun i H' => Kp [D] H3 H' ∧ H' D = some (.lst ((((innerL C S).take i).filter fun b => !decide (b ∈ S)).map vN)))
      ⟨(fun b o nb e' => by rw [upd_ne (ne_of_none e' hD)]; exact e'), upd_same⟩ (fun i H' _ ⟨k, _⟩ => .inl (.inl (kp_same hD k _ _ hI3))) ?_ ?_
    · rintro i x H4 hx ⟨k4, hD4⟩
      obtain ⟨b, hb, rfl⟩ := get_map hx
      have il : i < (innerL C S).length := (List.getElem?_eq_some_iff.mp hb).1
      refine ⟨rfl, ?_⟩
      refine ⟨_, rfl, _, rfl, lo, _, rfl, .inr (Same.sqT (kp_same hD k4) hS3), rfl, all_vN S, _, rfl, ?_⟩
      show if (!inV (vN b) (S.map vN)) = true then _ else _
      rw [in_vN]
      by_cases h1 : b ∈ S
      · rw [decide_eq_true h1]
        refine iteF ⟨k4, ?_⟩
        rw [take_filter hb, decide_eq_true h1, if_neg (by simp), List.append_nil]
        exact hD4
      · rw [decide_eq_false h1]
        refine iteT ?_
        have lf := List.length_filter_le (fun b => !decide (b ∈ S)) ((innerL C S).take i)
        rw [List.length_take] at lf
        refine ⟨_, rfl, _, hD4, by rw [List.length_map, sizeLine_eq]; omega, kp_put k4, ?_⟩
        rw [upd_same, take_filter hb, decide_eq_false h1, if_pos (by simp), List.map_append]
        rfl
    rintro H4 ⟨k4, hD4⟩
    rw [List.length_map, List.take_length] at hD4
    have eB : ((innerL C S).filter fun b => !decide (b ∈ S)) = besideL C S := rfl
    rw [eB] at hD4
    have lB : (besideL C S).length ≤ 7 := Nat.le_trans (List.length_filter_le _ _) lI
    have s4 := kp_same hD k4
    have s24 := s3.trans s4
    have p7 : ∀ i, i ≤ (besideL C S).length → (regsF S ((besideL C S).take i)).length ≤ 128 := fun i hi => by
      rw [regs_len, List.length_take, Nat.min_eq_left hi]
      exact Nat.pow_le_pow_right (by decide) (Nat.le_trans hi lB)
    refine ⟨D, rfl, ⟨_, .inl (.inl hD4)⟩, for_list (K := K) (xs := (besideL C S).map vN) (fun i σ H' => ∃ (g : Addr) (R : List (Addr × List Nat)) (v3 v4 v5 : Option V), σ = [some (.ref c), some (.ref lo), some (.ref g), v3, v4, v5] ∧ Same H4 H' ∧ H' g = some (.lst (rfs R)) ∧ RgsAt H' R ∧ R.map (·.2) = regsF S ((besideL C S).take i))
      ⟨g, _, _, _, _, rfl, Same.rfl' _, s24 _ _ hG2, rg2.same s24, rfl⟩ (fun i σ H' _ ⟨_, _, _, _, _, _, s, _⟩ => .inl (.inl (s _ _ hD4))) ?_ ?_⟩
    · rintro i x σ H5 hx ⟨g, R, v3, v4, v5, rfl, s5, hG5, rg5, eR⟩
      obtain ⟨b, hb, rfl⟩ := get_map hx
      have il : i < (besideL C S).length := (List.getElem?_eq_some_iff.mp hb).1
      have lR : R.length ≤ 128 := by
        have := p7 i (by omega)
        rw [← eR, List.length_map] at this
        exact this
      refine ⟨_, rfl, _, rfl, g, rfl, ⟨_, .inl (.inl hG5)⟩, fun D2 hD2 => ?_⟩
      refine lc_list (K := K) (xs := rfs R) (fun j H' => ∃ N : List (Addr × List Nat), Kp [D2] H5 H' ∧ H' D2 = some (.lst (rfs N)) ∧ RgsAt H' N ∧ (∀ p ∈ N, p.1 ≠ D2) ∧ N.map (·.2) = (R.take j).map fun r => r.2 ++ [b])
        ⟨[], (fun b o nb e' => by rw [upd_ne (ne_of_none e' hD2)]; exact e'), upd_same, (fun _ h => nomatch h), (fun _ h => nomatch h), rfl⟩ (fun j H' _ ⟨_, k, _⟩ => .inl (.inl (kp_same hD2 k _ _ hG5))) ?_ ?_
      · rintro j x H6 hx ⟨N, k6, hD6, rg6, nN, eN⟩
        obtain ⟨r0, hr0, rfl⟩ := get_map hx
        have jl : j < R.length := (List.getElem?_eq_some_iff.mp hr0).1
        have lN : N.length = j := by
          have := congrArg List.length eN
          rw [List.length_map, List.length_map, List.length_take] at this
          omega
        have s6 := kp_same hD2 k6
        refine ⟨rfl, ?_⟩
        refine ⟨_, rfl, _, rfl, by show 1 ≤ sizeLine; decide, fun t1 ht1 => ?_⟩
        generalize eH7 : upd H6 t1 _ = H7
        have s7 : Same H6 H7 := by rw [← eH7]; exact same_upd ht1
        have hT7 : H7 t1 = some (.lst ([b].map vN)) := by rw [← eH7]; exact upd_same
        clear eH7
        have hr5 := rg5 r0 (List.mem_of_getElem? hr0)
        have lr : r0.2.length ≤ 70 := by
          have := congrArg (fun l => l[j]?) eR
          simp only [List.getElem?_map, hr0, Option.map_some] at this
          obtain ⟨Z, sZ, e⟩ := regs_mem.mp (List.mem_of_getElem? this.symm)
          have z1 := sZ.length_le
          rw [e, List.length_append]
          rw [List.length_take] at z1
          omega
        refine ⟨r0.1, t1, _, _, rfl, rfl, s7 _ _ (s6 _ _ hr5), hT7, by rw [List.length_map, sizeLine_eq]; show r0.2.length + 1 ≤ _; omega, fun t2 ht2 => ?_⟩
        generalize eH8 : upd H7 t2 _ = H8
        have s8 : Same H7 H8 := by rw [← eH8]; exact same_upd ht2
        have hT8 : H8 t2 = some (.lst ((r0.2 ++ [b]).map vN)) := by rw [← eH8, List.map_append]; exact upd_same
        clear eH8
        have s68 := s7.trans s8
        have hD8 := s68 _ _ hD6
        have ne2 : t2 ≠ D2 := (ne_of_none (s7 _ _ hD6) ht2).symm
        refine ⟨_, hD8, by rw [rfs_len, sizeLine_eq]; omega, N ++ [(t2, r0.2 ++ [b])], kp_put (k6.trans (Same.kp s68)), by rw [upd_same, ← rfs_add], RgsAt.set (fun p hp => ?_) ((rg6.same s68).app (.one hT8)), fun p hp => ?_, ?_⟩
        · rcases List.mem_append.mp hp with h | h
          · exact nN p h
          · rw [List.mem_singleton.mp h]; exact ne2
        · rcases List.mem_append.mp hp with h | h
          · exact nN p h
          · rw [List.mem_singleton.mp h]; exact ne2
        · rw [List.map_append, eN, List.take_add_one, hr0, List.map_append]
          rfl
      rintro H6 ⟨N, k6, hD6, rg6, nN, eN⟩
      have lN : N.length = R.length := by
        have := congrArg List.length eN
        rw [List.length_map, List.length_map, rfs_len, List.take_length] at this
        exact this
      have s6 := kp_same hD2 k6
      refine ⟨g, D2, _, _, rfl, rfl, s6 _ _ hG5, hD6, by rw [rfs_len, rfs_len, sizeLine_eq]; omega, fun g2 hg2 => ?_⟩
      generalize eH7 : upd H6 g2 _ = H7
      have s7 : Same H6 H7 := by rw [← eH7]; exact same_upd hg2
      have hG7 : H7 g2 = some (.lst (rfs (R ++ N))) := by
        rw [← eH7]
        unfold rfs
        rw [List.map_append]
        exact upd_same
      clear eH7
      refine ⟨g2, R ++ N, _, _, _, rfl, s5.trans (s6.trans s7), hG7, (rg5.same (s6.trans s7)).app (rg6.same s7), ?_⟩
      rw [regs_more hb, List.map_append, eR, eN, rfs_len, List.take_length]
      unfold growR
      rw [← eR, List.map_map]
      rfl
    · rintro σ H5 ⟨g, R, v3, v4, v5, rfl, s5, hG5, rg5, eR⟩
      rw [List.length_map, List.take_length] at eR
      have lR : R.length ≤ 128 := by
        have := p7 _ (Nat.le_refl _)
        rw [List.take_length, ← eR, List.length_map] at this
        exact this
      have s25 := s24.trans s5
      have hC5 := hC2.same s25
      refine ⟨_, rfl, g, rfl, ⟨_, .inl (.inl hG5)⟩, fun D2 hD2 => ?_⟩
      refine lc_list (K := K) (xs := rfs R) (fun j H' => ∃ N : List (Addr × List Nat), Kp [D2] H5 H' ∧ H' D2 = some (.lst (rfs N)) ∧ (∀ p ∈ N, ∃ nx rg, SqT K H' p.1 [.ref nx, .ref rg] ∧ SqT K H' nx ((nextL C p.2).map vN) ∧ H5 rg = some (.lst (p.2.map vN))) ∧ N.map (·.2) = (R.take j).map (·.2))
        ⟨[], (fun b o nb e' => by rw [upd_ne (ne_of_none e' hD2)]; exact e'), upd_same, (fun _ h => nomatch h), rfl⟩ (fun j H' _ ⟨_, k, _⟩ => .inl (.inl (kp_same hD2 k _ _ hG5))) ?_ ?_
      · rintro j x H6 hx ⟨N, k6, hD6, pr6, eN⟩
        obtain ⟨r0, hr0, rfl⟩ := get_map hx
        have jl : j < R.length := (List.getElem?_eq_some_iff.mp hr0).1
        have lN : N.length = j := by
          have := congrArg List.length eN
          rw [List.length_map, List.length_map, List.length_take] at this
          omega
        have s6 := kp_same hD2 k6
        have hr6 : H6 r0.1 = some (.lst (r0.2.map vN)) := s6 _ _ (rg5 r0 (List.mem_of_getElem? hr0))
        refine ⟨rfl, ?_⟩
        refine ⟨_, rfl, _, rfl, c, r0.1, C, r0.2, rfl, hC5.same s6, ok, r63, .inl (.inl (.inl hr6)), fun nx H7 s7 hN7 => ⟨_, rfl, by show 2 ≤ sizeLine; decide, fun t2 ht2 => ?_⟩⟩
        generalize eH8 : upd H7 t2 _ = H8
        have s8 : Same H7 H8 := by rw [← eH8]; exact same_upd ht2
        have hT8 : H8 t2 = some (.tup [.ref nx, .ref r0.1]) := by rw [← eH8]; exact upd_same
        clear eH8
        have s68 := s7.trans s8
        have hD8 := s68 _ _ hD6
        refine ⟨_, hD8, by rw [rfs_len, sizeLine_eq]; omega, N ++ [(t2, r0.2)], kp_put (k6.trans (Same.kp s68)), by rw [upd_same, ← rfs_add], ?_, ?_⟩
        · intro p hp
          rcases List.mem_append.mp hp with h | h
          · obtain ⟨nx', rg', h1, h2, h3⟩ := pr6 p h
            exact ⟨nx', rg', kp_lst.sqT (lists_one hD8) (Same.sqT s68 h1), kp_lst.sqT (lists_one hD8) (Same.sqT s68 h2), h3⟩
          · rw [List.mem_singleton.mp h]
            exact ⟨nx, r0.1, kp_lst.sqT (lists_one hD8) (.inl (.inl hT8)), kp_lst.sqT (lists_one hD8) (Same.sqT s8 hN7), rg5 r0 (List.mem_of_getElem? hr0)⟩
        · rw [List.map_append, eN, List.take_add_one, hr0, List.map_append]
          rfl
      rintro H6 ⟨N, k6, hD6, pr6, eN⟩
      have s6 := kp_same hD2 k6
      refine q D2 N H6 (s02.trans (s25.trans s6)) hD6 (fun p hp => ?_) ?_
      · obtain ⟨nx, rg, h1, h2, h3⟩ := pr6 p hp
        exact ⟨nx, rg, h1, h2, .inl (.inl (s6 _ _ h3))⟩
      rw [eN, rfs_len, List.take_length, eR]
/-! ### _law_way_fewest -/
noncomputable def goodB (C : Chart) (F : List Nat) (p : Addr × List Nat) : Bool := ((nextL C p.2).filter fun b => decide (b ∈ F)).isEmpty
theorem goodB_iff {C : Chart} {F : List Nat} {p : Addr × List Nat} : goodB C F p = true ↔ ∀ b ∈ nextL C p.2, b ∉ F := by
  unfold goodB
  rw [List.isEmpty_iff, List.filter_eq_nil_iff]
  exact ⟨fun h b hb m => h b hb (decide_eq_true m), fun h b hb m => h b hb (of_decide_eq_true m)⟩
noncomputable def lenB (C : Chart) (m : Nat) (p : Addr × List Nat) : Bool := decide ((nextL C p.2).length = m)
def sp_law_way_fewest (K : PySem.W.Frag) : Sp := fun vs H Q _ => ∃ (t fr : Addr) (C : Chart) (R : List (Addr × List Nat)) (F : List Nat), vs = [.ref t, .ref fr] ∧ C.Ok ∧ H t = some (.lst (rfs R)) ∧ PairsR K H C R ∧ SqT K H fr (F.map vN) ∧ R.length ≤ 200 ∧ (∃ p ∈ R, goodB C F p = true) ∧
  ∀ (t' : Addr) (m : Nat) (H' : Hp), Same H H' → H' t' = some (.lst (rfs ((R.filter (goodB C F)).filter (lenB C m)))) → (∀ p ∈ R, goodB C F p = true → m ≤ (nextL C p.2).length) → (∃ p ∈ R, goodB C F p = true ∧ (nextL C p.2).length = m) → Q (.ref t') H'
theorem cal_law_way_fewest (T : Txt mg) (D : Def K mg "_law_way_fewest" s_law_way_fewest) : Cal P w K mg base 1 "_law_way_fewest" (sp_law_way_fewest K) := by
  refine cal_of D sc_law_way_fewest (fun _ _ _ _ _ _ us hl => match us, hl with | [_, _], _ => rfl) (fun vs H Q E h => ?_) (fun f cdv A outer s H vs Q E hr h => ?_)
  · obtain ⟨t, fr, C, R, F, rfl, _⟩ := h
    rfl
  · obtain ⟨t, fr, C, R, F, rfl, ok, hT, hR, hF, few, ⟨p0, hp0, gp0⟩, q⟩ := h
    have hU := hr.units
    have n60 := ok.n60
    have nl : ∀ X, (nextL C X).length ≤ 60 := fun X => Nat.le_trans (up_len (those_up C.n fun b => (∃ a ∈ X, (a, b) ∈ C.roads) ∧ (b ∈ C.wished ∨ b ∉ X)) fun a h => (those_mem.mp h).1) n60
    have sh : ∀ F : List Nat, SeqAt.shaped (.list (F.map nD)) = true := fun F => by
      have : F.map nD = (iN F).map .int := by unfold iN; rw [List.map_map]; rfl
      rw [this]
      exact ints_shaped _
    refine ⟨_, (pss_cons (ps_setLc (i := 2) (own := [("pair", 4)]) rfl sc_law_way_fewest.nd rfl rfl (sw_true rfl rfl rfl (by decide +kernel)) (show PI _ _ _ (iList K _) from pi_list (pv 0)) (blkOk_by (N := ["pairs", "free", "good", "least", "pair", "p"]) (sc := L2.defScope s_law_way_fewest) (by decide +kernel)) (fun _ _ _ _ _ => (pg_name (i := 4) sc_law_way_fewest.nd rfl (Or.inl rfl))) (fun _ _ _ _ _ => pts_one (pt_cmpR (show OpR _ _ (rEqD K) from op_eqD hU) (pe_lc (own := [("p", 5)]) rfl sc_law_way_fewest.nd (show PI _ _ _ (iTup K _) from pi_tup (pe_ix (show IxR _ (rIxT K) from ix_tup) (pv 4) pe_int (fun _ _ => rfl))) (blkIn (N := ["pairs", "free", "good", "least", "pair", "p"]) (sc := L2.defScope s_law_way_fewest) rfl (by decide +kernel)) (fun _ _ _ _ _ => (pg_name (i := 5) sc_law_way_fewest.nd rfl (Or.inl rfl))) (fun _ _ _ _ _ => pts_one (pt_cmpR (show OpR _ _ (rIn K false) from op_in_seq) (pv 5) (pv 1) (by rfl))) (fun _ _ _ _ _ => (pv 5))) (pe_lst pa_nil) (nomark _))) (fun _ _ _ _ _ => (pv 4)))
      (pss_cons (ps_set (i := 3) sc_law_way_fewest.nd rfl (Or.inr rfl) (pe_callB (show CallR _ _ (rMin K) from cr_min rfl) (by rfl) T.min (by decide +kernel) (pa_cons (pe_lc (own := [("pair", 4)]) rfl sc_law_way_fewest.nd (show PI _ _ _ (iList K _) from pi_list (pv 2)) (blkOk_by (N := ["pairs", "free", "good", "least", "pair", "p"]) (sc := L2.defScope s_law_way_fewest) (by decide +kernel)) (fun _ _ _ _ _ => (pg_name (i := 4) sc_law_way_fewest.nd rfl (Or.inl rfl))) (fun _ _ _ _ _ => pts_nil) (fun _ _ _ _ _ => (pe_callB (show CallR _ _ (rLenS K) from call_lenS) (by rfl) T.len (by decide +kernel) (pa_cons (pe_ix (show IxR _ (rIxT K) from ix_tup) (pv 4) pe_int (fun _ _ => rfl)) pa_nil)))) pa_nil)))
      (pss_one (ps_ret (pe_lc (own := [("pair", 4)]) rfl sc_law_way_fewest.nd (show PI _ _ _ (iList K _) from pi_list (pv 2)) (blkOk_by (N := ["pairs", "free", "good", "least", "pair", "p"]) (sc := L2.defScope s_law_way_fewest) (by decide +kernel)) (fun _ _ _ _ _ => (pg_name (i := 4) sc_law_way_fewest.nd rfl (Or.inl rfl))) (fun _ _ _ _ _ => pts_one (pt_cmpR op_eq (pe_callB (show CallR _ _ (rLenS K) from call_lenS) (by rfl) T.len (by decide +kernel) (pa_cons (pe_ix (show IxR _ (rIxT K) from ix_tup) (pv 4) pe_int (fun _ _ => rfl)) pa_nil)) (pv 3) (nomark _))) (fun _ _ _ _ _ => (pv 4))))))), ?_⟩
    refine ⟨_, rfl, t, rfl, ⟨_, .inl (.inl hT)⟩, fun D hD => ?_⟩
    refine lc_list (K := K) (xs := rfs R) (fun i H' => Kp [D] H H' ∧ H' D = some (.lst (rfs ((R.take i).filter (goodB C F)))))
      ⟨(fun b o nb e' => by rw [upd_ne (ne_of_none e' hD)]; exact e'), upd_same⟩ (fun i H' _ ⟨k, _⟩ => .inl (.inl (kp_same hD k _ _ hT))) ?_ ?_
    · rintro i x H1 hx ⟨k1, hD1⟩
      obtain ⟨p, hp, rfl⟩ := get_map hx
      have il : i < R.length := (List.getElem?_eq_some_iff.mp hp).1
      have s1 := kp_same hD k1
      obtain ⟨nx, rg, h1, h2, h3⟩ := (hR p (List.mem_of_getElem? hp)).same s1
      refine ⟨rfl, ?_⟩
      refine ⟨_, rfl, _, _, _, _, rfl, rfl, h1, rfl, nx, rfl, ⟨_, h2⟩, fun D3 hD3 => ?_⟩
      refine lc_tup (K := K) (xs := (nextL C p.2).map vN) (fun j H' => Kp [D3] H1 H' ∧ H' D3 = some (.lst ((((nextL C p.2).take j).filter fun b => decide (b ∈ F)).map vN)))
        ⟨(fun b o nb e' => by rw [upd_ne (ne_of_none e' hD3)]; exact e'), upd_same⟩ (fun j H' _ ⟨k, _⟩ => Same.sqT (kp_same hD3 k) h2) ?_ ?_
      · rintro j y H2 hy ⟨k2, hD2⟩
        obtain ⟨b, hb, rfl⟩ := get_map hy
        have jl : j < (nextL C p.2).length := (List.getElem?_eq_some_iff.mp hb).1
        have := nl p.2
        have s2 := kp_same hD3 k2
        refine ⟨rfl, ?_⟩
        refine ⟨_, rfl, _, rfl, fr, _, rfl, .inr (Same.sqT (s1.trans s2) hF), rfl, all_vN F, _, rfl, ?_⟩
        show if inV (vN b) (F.map vN) = true then _ else _
        rw [in_vN]
        by_cases h : b ∈ F
        · rw [decide_eq_true h]
          have lf := List.length_filter_le (fun b => decide (b ∈ F)) ((nextL C p.2).take j)
          rw [List.length_take] at lf
          refine iteT ⟨_, rfl, _, hD2, by rw [List.length_map, sizeLine_eq]; omega, kp_put k2, ?_⟩
          rw [upd_same, take_filter hb, if_pos (decide_eq_true h), List.map_append]
          rfl
        · rw [decide_eq_false h]
          refine iteF ⟨k2, ?_⟩
          rw [take_filter hb, decide_eq_false h, if_neg (by simp), List.append_nil]
          exact hD2
      rintro H2 ⟨k2, hD2⟩
      rw [List.length_map, List.take_length] at hD2
      have s2 := kp_same hD3 k2
      refine ⟨Nat.zero_le _, fun z hz => ?_⟩
      have s3 := same_upd (o := .lst []) hz
      refine ⟨_, _, .lst (.inl (.inl (s3 _ _ hD2))) (dp_nats _), .lst (.inl (.inl upd_same)) .nil, sh _, rfl, _, rfl, ?_⟩
      rw [eqv_nil]
      have eg : (((nextL C p.2).filter fun b => decide (b ∈ F)).map nD).isEmpty = goodB C F p := by
        unfold goodB
        cases (nextL C p.2).filter fun b => decide (b ∈ F) <;> rfl
      rw [eg]
      have k3 : Kp [D] H (upd H2 z (.lst [])) := k1.trans (Same.kp (s2.trans s3))
      have hD3' : (upd H2 z (.lst [])) D = some (.lst (rfs ((R.take i).filter (goodB C F)))) := s3 _ _ (s2 _ _ hD1)
      generalize upd H2 z (.lst []) = H3 at k3 hD3'
      cases e : goodB C F p with
      | true =>
        have lf := List.length_filter_le (goodB C F) (R.take i)
        rw [List.length_take] at lf
        refine iteT ⟨_, rfl, _, hD3', by rw [rfs_len, sizeLine_eq]; omega, kp_put k3, ?_⟩
        rw [upd_same, rfs_add, take_filter hp, if_pos e]
      | false =>
        refine iteF ⟨k3, ?_⟩
        rw [take_filter hp, e, if_neg (by simp), List.append_nil]
        exact hD3'
    rintro H1 ⟨k1, hD1⟩
    rw [rfs_len, List.take_length] at hD1
    have s1 := kp_same hD k1
    have hR1 := hR.same s1
    have lG : (R.filter (goodB C F)).length ≤ 200 := Nat.le_trans (List.length_filter_le _ _) few
    have mG : ∀ {p i}, (R.filter (goodB C F))[i]? = some p → p ∈ R ∧ goodB C F p = true := fun h => List.mem_filter.mp (List.mem_of_getElem? h)
    refine ⟨_, rfl, D, rfl, ⟨_, .inl (.inl hD1)⟩, fun E2 hE2 => ?_⟩
    refine lc_list (K := K) (xs := rfs (R.filter (goodB C F))) (fun i H' => Kp [E2] H1 H' ∧ H' E2 = some (.lst ((((R.filter (goodB C F)).take i).map fun p => (((nextL C p.2).length : Nat) : Int)).map V.int)))
      ⟨(fun b o nb e' => by rw [upd_ne (ne_of_none e' hE2)]; exact e'), upd_same⟩ (fun i H' _ ⟨k, _⟩ => .inl (.inl (kp_same hE2 k _ _ hD1))) ?_ ?_
    · rintro i x H2 hx ⟨k2, hE2'⟩
      obtain ⟨p, hp, rfl⟩ := get_map hx
      have il : i < (R.filter (goodB C F)).length := (List.getElem?_eq_some_iff.mp hp).1
      have s2 := kp_same hE2 k2
      obtain ⟨nx, rg, h1, h2, h3⟩ := (hR1 p (mG hp).1).same s2
      refine ⟨rfl, ?_⟩
      refine ⟨_, rfl, _, _, _, _, rfl, rfl, h1, rfl, nx, _, rfl, .inr h2, _, hE2', by rw [List.length_map, List.length_map, List.length_take, sizeLine_eq]; omega, kp_put k2, ?_⟩
      rw [upd_same, List.take_add_one, hp, List.map_append, List.map_append, List.length_map]
      rfl
    rintro H2 ⟨k2, hE2'⟩
    rw [rfs_len, List.take_length] at hE2'
    have s2 := kp_same hE2 k2
    have pG : 0 < (R.filter (goodB C F)).length := List.length_pos_of_mem (List.mem_filter.mpr ⟨hp0, gp0⟩)
    refine ⟨E2, _, rfl, .inl (.inl hE2'), by rw [List.length_map]; exact pG, fun m hm least => ?_⟩
    obtain ⟨pm, hpm, rfl⟩ := List.mem_map.mp hm
    obtain ⟨m1, m2⟩ := List.mem_filter.mp hpm
    have hD2 := s2 _ _ hD1
    have s12 := s1.trans s2
    have hR2 := hR1.same s2
    refine ⟨_, rfl, D, rfl, ⟨_, .inl (.inl hD2)⟩, fun E3 hE3 => ?_⟩
    refine lc_list (K := K) (xs := rfs (R.filter (goodB C F))) (fun i H' => Kp [E3] H2 H' ∧ H' E3 = some (.lst (rfs (((R.filter (goodB C F)).take i).filter (lenB C (nextL C pm.2).length)))))
      ⟨(fun b o nb e' => by rw [upd_ne (ne_of_none e' hE3)]; exact e'), upd_same⟩ (fun i H' _ ⟨k, _⟩ => .inl (.inl (kp_same hE3 k _ _ hD2))) ?_ ?_
    · rintro i x H3 hx ⟨k3, hE3'⟩
      obtain ⟨p, hp, rfl⟩ := get_map hx
      have il : i < (R.filter (goodB C F)).length := (List.getElem?_eq_some_iff.mp hp).1
      have s3 := kp_same hE3 k3
      obtain ⟨nx, rg, h1, h2, h3⟩ := (hR2 p (mG hp).1).same s3
      refine ⟨rfl, ?_⟩
      refine ⟨_, rfl, _, _, _, _, rfl, rfl, h1, rfl, nx, _, rfl, .inr h2, _, rfl, rfl, _, rfl, ?_⟩
      rw [List.length_map]
      refine ite_any (fun hc => ?_) (fun hc => ?_)
      · have el : (nextL C p.2).length = (nextL C pm.2).length := by
          have := V.int.inj (of_decide_eq_true hc)
          omega
        have lf := List.length_filter_le (lenB C (nextL C pm.2).length) ((R.filter (goodB C F)).take i)
        rw [List.length_take] at lf
        refine ⟨_, rfl, _, hE3', by rw [rfs_len, sizeLine_eq]; omega, kp_put k3, ?_⟩
        have e : lenB C (nextL C pm.2).length p = true := decide_eq_true el
        rw [upd_same, rfs_add, take_filter hp, if_pos e]
      · have el : (nextL C p.2).length ≠ (nextL C pm.2).length := fun e => by
          rw [e] at hc
          exact (of_decide_eq_false hc) rfl
        refine ⟨k3, ?_⟩
        have e : lenB C (nextL C pm.2).length p = false := decide_eq_false el
        rw [take_filter hp, e, if_neg (by simp), List.append_nil]
        exact hE3'
    rintro H3 ⟨k3, hE3'⟩
    rw [rfs_len, List.take_length] at hE3'
    have s3 := kp_same hE3 k3
    refine q E3 _ H3 (s12.trans s3) hE3' (fun p hp gp => ?_) ⟨pm, m1, m2, rfl⟩
    have := least _ (List.mem_map.mpr ⟨p, List.mem_filter.mpr ⟨hp, gp⟩, rfl⟩)
    omega
/-! ### _law_way_nearest -/
def sp_law_way_nearest (K : PySem.W.Frag) : Sp := fun vs H Q _ => ∃ (t fr : Addr) (C : Chart) (R : List (Addr × List Nat)) (F : List Nat), vs = [.ref t, .ref fr] ∧ C.Ok ∧ H t = some (.lst (rfs R)) ∧ PairsR K H C R ∧ SqT K H fr (F.map vN) ∧ R.length ≤ 200 ∧ (∃ p ∈ R, goodB C F p = true) ∧
  ∀ (nx : Addr) (Y : List Nat) (H' : Hp), Same H H' → SqT K H' nx ((nextL C Y).map vN) → Y ∈ R.map (·.2) → (∀ b ∈ nextL C Y, b ∉ F) → (∀ Z ∈ R.map (·.2), (∀ b ∈ nextL C Z, b ∉ F) → (nextL C Y).length ≤ (nextL C Z).length) → (∀ Z ∈ R.map (·.2), (∀ b ∈ nextL C Z, b ∉ F) → (nextL C Z).length = (nextL C Y).length → Y.length ≤ Z.length) → Q (.ref nx) H'
theorem cal_law_way_nearest (T : Txt mg) (D : Def K mg "_law_way_nearest" s_law_way_nearest) (c_law_way_fewest : Cal P w K mg base 1 "_law_way_fewest" (sp_law_way_fewest K)) : Cal P w K mg base 2 "_law_way_nearest" (sp_law_way_nearest K) := by
  refine cal_of D sc_law_way_nearest (fun _ _ _ _ _ _ us hl => match us, hl with | [_, _], _ => rfl) (fun vs H Q E h => ?_) (fun f cdv A outer s H vs Q E hr h => ?_)
  · obtain ⟨t, fr, C, R, F, rfl, _⟩ := h
    rfl
  · obtain ⟨t, fr, C, R, F, rfl, ok, hT, hR, hF, few, ex, q⟩ := h
    have n60 := ok.n60
    refine ⟨_, (pss_cons (ps_set (i := 2) sc_law_way_nearest.nd rfl (Or.inl rfl) (pe_c c_law_way_fewest hr (by decide) (by rfl) (pa_cons (pv 0) (pa_cons (pv 1) pa_nil))))
      (pss_cons (ps_set (i := 3) sc_law_way_nearest.nd rfl (Or.inr rfl) (pe_callB (show CallR _ _ (rMin K) from cr_min rfl) (by rfl) T.min (by decide +kernel) (pa_cons (pe_lc (own := [("pair", 4)]) rfl sc_law_way_nearest.nd (show PI _ _ _ (iList K _) from pi_list (pv 2)) (blkOk_by (N := ["pairs", "free", "fewest", "least", "pair"]) (sc := L2.defScope s_law_way_nearest) (by decide +kernel)) (fun _ _ _ _ _ => (pg_name (i := 4) sc_law_way_nearest.nd rfl (Or.inl rfl))) (fun _ _ _ _ _ => pts_nil) (fun _ _ _ _ _ => (pe_callB (show CallR _ _ (rLenS K) from call_lenS) (by rfl) T.len (by decide +kernel) (pa_cons (pe_ix (show IxR _ (rIxT K) from ix_tup) (pv 4) pe_int (fun _ _ => rfl)) pa_nil)))) pa_nil)))
      (pss_one (ps_ret (pe_ix (show IxR _ (rIxL K) from ix_list) (pe_lc (own := [("pair", 4)]) rfl sc_law_way_nearest.nd (show PI _ _ _ (iList K _) from pi_list (pv 2)) (blkOk_by (N := ["pairs", "free", "fewest", "least", "pair"]) (sc := L2.defScope s_law_way_nearest) (by decide +kernel)) (fun _ _ _ _ _ => (pg_name (i := 4) sc_law_way_nearest.nd rfl (Or.inl rfl))) (fun _ _ _ _ _ => pts_one (pt_cmpR op_eq (pe_callB (show CallR _ _ (rLenS K) from call_lenS) (by rfl) T.len (by decide +kernel) (pa_cons (pe_ix (show IxR _ (rIxT K) from ix_tup) (pv 4) pe_int (fun _ _ => rfl)) pa_nil)) (pv 3) (nomark _))) (fun _ _ _ _ _ => (pe_ix (show IxR _ (rIxT K) from ix_tup) (pv 4) pe_int (fun _ _ => rfl)))) pe_int (fun _ _ => rfl)))))), ?_⟩
    refine ⟨_, rfl, _, rfl, t, fr, C, R, F, rfl, ok, hT, hR, hF, few, ex, fun g m H1 s1 hG1 least ⟨p0, hp0, gp0, e0⟩ => ?_⟩
    have hR1 := hR.same s1
    obtain ⟨G, eG⟩ : ∃ G, (R.filter (goodB C F)).filter (lenB C m) = G := ⟨_, rfl⟩
    rw [eG] at hG1
    have lG : G.length ≤ 200 := by
      rw [← eG]
      exact Nat.le_trans (List.length_filter_le _ _) (Nat.le_trans (List.length_filter_le _ _) few)
    have memG : ∀ {p}, p ∈ G ↔ (p ∈ R ∧ goodB C F p = true) ∧ (nextL C p.2).length = m := fun {p} => by
      rw [← eG, List.mem_filter, List.mem_filter]
      unfold lenB
      rw [decide_eq_true_eq]
    refine ⟨_, rfl, g, rfl, ⟨_, .inl (.inl hG1)⟩, fun E2 hE2 => ?_⟩
    refine lc_list (K := K) (xs := rfs G) (fun i H' => Kp [E2] H1 H' ∧ H' E2 = some (.lst (((G.take i).map fun p => ((p.2.length : Nat) : Int)).map V.int)))
      ⟨(fun b o nb e' => by rw [upd_ne (ne_of_none e' hE2)]; exact e'), upd_same⟩ (fun i H' _ ⟨k, _⟩ => .inl (.inl (kp_same hE2 k _ _ hG1))) ?_ ?_
    · rintro i x H2 hx ⟨k2, hE2'⟩
      obtain ⟨p, hp, rfl⟩ := get_map hx
      have il : i < G.length := (List.getElem?_eq_some_iff.mp hp).1
      have s2 := kp_same hE2 k2
      obtain ⟨nx, rg, h1, h2, h3⟩ := (hR1 p (memG.mp (List.mem_of_getElem? hp)).1.1).same s2
      refine ⟨rfl, ?_⟩
      refine ⟨_, rfl, _, _, _, _, rfl, rfl, h1, rfl, rg, _, rfl, .inl h3, _, hE2', by rw [List.length_map, List.length_map, List.length_take, sizeLine_eq]; omega, kp_put k2, ?_⟩
      rw [upd_same, List.take_add_one, hp, List.map_append, List.map_append, List.length_map]
      rfl
    rintro H2 ⟨k2, hE2'⟩
    rw [rfs_len, List.take_length] at hE2'
    have s2 := kp_same hE2 k2
    have pG : 0 < G.length := List.length_pos_of_mem (memG.mpr ⟨⟨hp0, gp0⟩, e0⟩)
    refine ⟨E2, _, rfl, .inl (.inl hE2'), by rw [List.length_map]; exact pG, fun n hn least2 => ?_⟩
    obtain ⟨pm, hpm, rfl⟩ := List.mem_map.mp hn
    have hG2 := s2 _ _ hG1
    have hR2 := hR1.same s2
    refine ⟨_, rfl, g, rfl, ⟨_, .inl (.inl hG2)⟩, fun E3 hE3 => ?_⟩
    refine lc_list (K := K) (xs := rfs G) (fun i H' => Kp [E3] H2 H' ∧ ∃ N : List (Addr × List Nat), H' E3 = some (.lst (rfs N)) ∧ (∀ r ∈ N, SqT K H2 r.1 ((nextL C r.2).map vN) ∧ ∃ p ∈ G, p.2 = r.2 ∧ p.2.length = pm.2.length) ∧ N.length ≤ i ∧ ∀ p ∈ G.take i, p.2.length = pm.2.length → 0 < N.length)
      ⟨(fun b o nb e' => by rw [upd_ne (ne_of_none e' hE3)]; exact e'), [], upd_same, (fun _ h => nomatch h), Nat.le_refl _, fun p hp => by simp at hp⟩ (fun i H' _ ⟨k, _⟩ => .inl (.inl (kp_same hE3 k _ _ hG2))) ?_ ?_
    · rintro i x H3 hx ⟨k3, N, hE3', rN, lN, pN⟩
      obtain ⟨p, hp, rfl⟩ := get_map hx
      have il : i < G.length := (List.getElem?_eq_some_iff.mp hp).1
      have s3 := kp_same hE3 k3
      have hp2 := hR2 p (memG.mp (List.mem_of_getElem? hp)).1.1
      obtain ⟨nx, rg, h1, h2, h3⟩ := hp2
      have h1' := Same.sqT s3 h1
      refine ⟨rfl, ?_⟩
      refine ⟨_, rfl, _, _, _, _, rfl, rfl, h1', rfl, rg, _, rfl, .inl (Same.sqL s3 h3), _, rfl, rfl, _, rfl, ?_⟩
      rw [List.length_map]
      refine ite_any (fun hc => ?_) (fun hc => ?_)
      · have el : p.2.length = pm.2.length := by
          have := V.int.inj (of_decide_eq_true hc)
          omega
        refine ⟨_, rfl, _, _, _, _, rfl, rfl, h1', rfl, _, hE3', by rw [rfs_len, sizeLine_eq]; omega, kp_put k3, N ++ [(nx, p.2)], by rw [upd_same, ← rfs_add], fun r hr => ?_, by rw [List.length_append]; exact Nat.succ_le_succ lN, fun _ _ _ => by rw [List.length_append]; exact Nat.succ_pos _⟩
        rcases List.mem_append.mp hr with h | h
        · exact rN r h
        · rw [List.mem_singleton.mp h]
          exact ⟨h2, p, List.mem_of_getElem? hp, rfl, el⟩
      · have el : p.2.length ≠ pm.2.length := fun e => by
          rw [e] at hc
          exact (of_decide_eq_false hc) rfl
        refine ⟨k3, N, hE3', rN, by omega, fun p' hp' e' => ?_⟩
        rw [List.take_add_one, hp] at hp'
        rcases List.mem_append.mp hp' with h | h
        · exact pN p' h e'
        · have : p' = p := by simpa using h
          rw [this] at e'
          exact absurd e' el
    rintro H3 ⟨k3, N, hE3', rN, lN, pN⟩
    have s3 := kp_same hE3 k3
    rw [rfs_len, List.take_length] at pN
    have p1 := pN pm hpm rfl
    obtain ⟨r0, hr0⟩ : ∃ r0, N[0]? = some r0 := ⟨_, List.getElem?_eq_getElem p1⟩
    have hx0 : (rfs N)[0]? = some (V.ref r0.1) := by unfold rfs; rw [List.getElem?_map, hr0]; rfl
    refine ⟨E3, _, _, _, rfl, rfl, .inl (.inl hE3'), atI_nat (j := 0) hx0, ?_⟩
    obtain ⟨hn0, p, hpG, e1, e2⟩ := rN r0 (List.mem_of_getElem? hr0)
    obtain ⟨⟨pR, gp⟩, ep⟩ := memG.mp hpG
    rw [e1] at ep e2
    have gr : ∀ {Z : List Nat}, Z ∈ R.map (·.2) → (∀ b ∈ nextL C Z, b ∉ F) → ∃ z ∈ R, z.2 = Z ∧ goodB C F z = true := fun {Z} h1 h2 => by
      obtain ⟨z, hz, rfl⟩ := List.mem_map.mp h1
      exact ⟨z, hz, rfl, goodB_iff.mpr h2⟩
    refine q r0.1 r0.2 H3 ((s1.trans s2).trans s3) (Same.sqT s3 hn0) (List.mem_map.mpr ⟨p, pR, e1⟩) ?_ (fun Z h1 h2 => ?_) (fun Z h1 h2 h3 => ?_)
    · rw [← e1]
      exact goodB_iff.mp gp
    · obtain ⟨z, hz, rfl, gz⟩ := gr h1 h2
      rw [ep]
      exact least z hz gz
    · obtain ⟨z, hz, rfl, gz⟩ := gr h1 h2
      have := least2 _ (List.mem_map.mpr ⟨z, memG.mpr ⟨⟨hz, gz⟩, by rw [h3, ep]⟩, rfl⟩)
      omega
end
end Ft

set_option Elab.async false
set_option linter.all false
set_option maxRecDepth 100000
set_option maxHeartbeats 8000000
namespace Ft
open PySem PySem.Spec PyProof.Rows L2
section
variable {P : Program} {w : World} {K : PySem.W.Frag} {mg : Str → Option Value} {base : Heap} {ka ca : Str → Addr}
/-! ### many, near -/
def sp_Flow_many (K : PySem.W.Frag) (ka : Str → Addr) : Sp := fun vs H Q _ => ∃ (f c : Addr) (C : Chart) (S F E : List Nat) (most : Nat), vs = [.ref f] ∧ FlowAt ka K H f c C S F most E ∧ Q (vN E.length) H
theorem calm_Flow_many (T : Txt mg) (D : DefM K ka "Flow" "many" "Flow.many" s_Flow_many) (k_Flow : Kls K mg ka "Flow") (q_Flow : Attrs K ka "Flow" flowFs) : CalM P w K mg base 1 ka "Flow" "many" (sp_Flow_many K ka) := by
  refine calm_of D sc_Flow_many (fun _ _ _ _ _ _ us hl => match us, hl with | [_], _ => rfl) (fun vs H Q E h => ?_) (fun f cdv A outer s H vs Q E hr h => ?_)
  · obtain ⟨f, c, C, S, F, E, most, rfl, _⟩ := h
    rfl
  · obtain ⟨f, c, C, S, F, Ed, most, rfl, ⟨nt, lo, rm, en, cm, bl, tl, rl, fl, ls, room, L, hO, hF, _⟩, q⟩ := h
    have aEnd : NoAttr K (ka "Flow") "ended" := q_Flow _ (by decide)
    refine ⟨_, (pss_one (ps_ret (pe_callB call_lenD (by rfl) T.len (by decide +kernel) (pa_cons (show PE _ _ (tFld K _ _) from pe_fldD (pv 0)) pa_nil)))), ?_⟩
    obtain ⟨dxF, fsF, eF, l1, l2, l3, l4, l5, l6, l7⟩ := hO.ex
    refine ⟨_, rfl, f, _, dxF, fsF, _, rfl, eF, k_Flow.cl, aEnd, l4, en, _, rfl, hF.en, ?_⟩
    have e : V.int (((keysOf (twos Ed)).length : Nat) : Int) = vN Ed.length := by rw [keysOf_len]; unfold twos; rw [List.length_map]; rfl
    show Q (V.int (((keysOf (twos Ed)).length : Nat) : Int)) H
    rw [e]
    exact q
def sp_Flow_near (K : PySem.W.Frag) (ka : Str → Addr) : Sp := fun vs H Q _ => ∃ (f c : Addr) (C : Chart) (S F E : List Nat) (most : Nat), vs = [.ref f] ∧ FlowAt ka K H f c C S F most E ∧ E.length ≤ most ∧ IsChart K H c C ∧ C.Ok ∧ LotsOk C S F ∧
  ∀ t X H', Same H H' → NearSpec C S F E.length X → SqT K H' t ((nextL C X).map vN) → Q (.ref t) H'
theorem calm_Flow_near (T : Txt mg) (D : DefM K ka "Flow" "near" "Flow.near" s_Flow_near) (k_Net : Kls K mg ka "Net") (q_Net : Attrs K ka "Net" netFs) (k_Flow : Kls K mg ka "Flow") (q_Flow : Attrs K ka "Flow" flowFs) (c_leaving : Cal P w K mg base 1 "leaving" sp_leaving) (c_places_next : Cal P w K mg base 1 "places_next" (sp_places_next K)) :
    CalM P w K mg base 2 ka "Flow" "near" (sp_Flow_near K ka) := by
  refine calm_of D sc_Flow_near (fun _ _ _ _ _ _ us hl => match us, hl with | [_], _ => rfl) (fun vs H Q E h => ?_) (fun f cdv A outer s H vs Q E hr h => ?_)
  · obtain ⟨f, c, C, S, F, E, most, rfl, _⟩ := h
    rfl
  · obtain ⟨f, c, C, S, F, Ed, most, rfl, ⟨nt, lo, rm, en, cm, bl, tl, rl, fl, ls, room, L, hO, hF, hL, e60, st⟩, few, hCC, ok, lo2, q⟩ := h
    have hu := hu_of hr
    have n60 := ok.n60
    have aNet : NoAttr K (ka "Flow") "net" := q_Flow _ (by decide)
    have aCame : NoAttr K (ka "Flow") "came" := q_Flow _ (by decide)
    have aCh : NoAttr K (ka "Net") "chart" := q_Net _ (by decide)
    have cl : Closed C S room Ed L := by
      rcases st with ⟨_, h⟩ | h
      · exact h
      · omega
    have spec := near_spec ok lo2 hF.fo e60 cl
    refine ⟨_, (pss_cons (ps_set (i := 1) sc_Flow_near.nd rfl (Or.inl rfl) (show PE _ _ (tFld K _ _) from pe_fldD (show PE _ _ (tFld K _ _) from pe_fldD (pv 0))))
      (pss_one (ps_ret (pe_c c_places_next hr (by decide) (by rfl) (pa_cons (pv 1) (pa_cons (pe_lc (own := [("place", 2)]) rfl sc_Flow_near.nd (pi_range1 (by rfl) T.range (pa_cons (pe_ix (show IxR _ (rIxT K) from ix_tup) (pv 1) pe_int (fun _ _ => rfl)) pa_nil)) (blkOk_by (N := ["self", "chart", "place"]) (sc := L2.defScope s_Flow_near) (by decide +kernel)) (fun _ _ _ _ _ => (pg_name (i := 2) sc_Flow_near.nd rfl (Or.inl rfl))) (fun _ _ _ _ _ => pts_one (pt_cmp (pc_din hu (pe_c c_leaving hr (by decide) (by rfl) (pa_cons (pv 2) pa_nil)) (show PE _ _ (tFld K _ _) from pe_fldD (pv 0))))) (fun _ _ _ _ _ => (pv 2))) pa_nil)))))), ?_⟩
    obtain ⟨dxF, fsF, eF, l1, l2, l3, l4, l5, l6, l7⟩ := hO.ex
    obtain ⟨dxN, fsN, eN, lC⟩ := hF.net.chart
    obtain ⟨r, wd, ts, hC⟩ := id hCC
    refine ⟨_, rfl, f, _, dxF, fsF, _, rfl, eF, k_Flow.cl, aNet, l1, nt, _, dxN, fsN, _, rfl, eN, k_Net.cl, aCh, lC, ?_⟩
    refine at_name ?_
    dsimp only
    refine ⟨_, rfl, _, rfl, _, _, _, _, rfl, rfl, hC.top, rfl, _, rfl, by omega, by omega, fun D hD => ?_⟩
    refine lc_range (lo := 0) (n := C.n) (fun i H' => Kp [D] H H' ∧ H' D = some (.lst (((List.range i).filter fun a => decide (2 * a + 1 ∈ keysT L)).map vN))) ⟨(fun b o nb e' => by rw [upd_ne (ne_of_none e' hD)]; exact e'), upd_same⟩ ?_ ?_
    · rintro i H1 hi ⟨k1, hD1⟩
      have s1 := kp_same hD k1
      have ei : ([V.int (0 + (i : Int))] : List V) = [vN i] := by rw [Int.zero_add]; rfl
      refine ⟨rfl, ?_⟩
      refine ⟨_, rfl, i, ei, by omega, _, rfl, f, _, dxF, fsF, _, rfl, s1 _ _ eF, k_Flow.cl, aCame, l5, cm, _, rfl, DGet.k (k := Sum.inl ((2 * i + 1 : Nat) : Int)) (s1 _ _ hL), _, rfl, ?_⟩
      rw [cameD_val]
      by_cases h : 2 * i + 1 ∈ keysT L
      · rw [decide_eq_true h]
        refine iteT ⟨_, rfl, _, hD1, ?_, kp_put k1, ?_⟩
        · rw [List.length_map, sizeLine_eq]
          have := List.length_filter_le (fun a => decide (2 * a + 1 ∈ keysT L)) (List.range i)
          rw [List.length_range] at this
          omega
        · rw [upd_same, List.range_succ, List.filter_append, List.filter_cons, if_pos (decide_eq_true h), List.filter_nil, List.map_append, Int.zero_add]
          rfl
      · rw [decide_eq_false h]
        refine iteF ⟨k1, ?_⟩
        rw [List.range_succ, List.filter_append, List.filter_cons, if_neg (by rw [decide_eq_false h]; simp), List.filter_nil, List.append_nil]
        exact hD1
    rintro H1 ⟨k1, hD1⟩
    have s1 := kp_same hD k1
    have eX : ((List.range C.n).filter fun a => decide (2 * a + 1 ∈ keysT L)) = those C.n fun a => 2 * a + 1 ∈ keysT L := by
      unfold those
      refine List.filter_congr fun a _ => ?_
      by_cases h : 2 * a + 1 ∈ keysT L
      · rw [decide_eq_true h]
        exact (@decide_eq_true _ (Classical.propDecidable _) h).symm
      · rw [decide_eq_false h]
        exact (@decide_eq_false _ (Classical.propDecidable _) h).symm
    rw [eX] at hD1
    have lX : (those C.n fun a => 2 * a + 1 ∈ keysT L).length ≤ 1000 := by
      have := up_len spec.up spec.lt
      omega
    exact ⟨c, D, C, _, rfl, hCC.same s1, ok, .inl (.inl (.inl hD1)), lX, fun t H2 s2 ht => q t _ H2 (s1.trans s2) spec ht⟩
/-! ### flow_of -/
def sp_flow_of (K : PySem.W.Frag) (ka : Str → Addr) : Sp := fun vs H Q _ => ∃ (c lo fr : Addr) (C : Chart) (S F : List Nat), vs = [.ref c, .ref lo, .ref fr] ∧ IsChart K H c C ∧ C.Ok ∧ SqT K H lo (S.map vN) ∧ SqT K H fr (F.map vN) ∧ S.Nodup ∧ LotsOk C S F ∧ F.length ≤ 60 ∧
  ∀ f H' E, Same H H' → FlowAt ka K H' f c C S F 61 E → E.length ≤ 60 → Q (.ref f) H'
theorem kp_new {H H1 H2 : Hp} {x : Addr} (nx : H x = none) (s : Same H H1) (k : Kp [x] H1 H2) : Same H H2 := same_kp nx s k
theorem cal_flow_of (T : Txt mg) (D : Def K mg "flow_of" s_flow_of) (k_Net : Kls K mg ka "Net") (k_Flow : Kls K mg ka "Flow") (m_MANY : MgI mg "MANY" 61) (w_Net___init__ : CalM P w K mg base 2 ka "Net" "__init__" (sp_Net___init__ K ka)) (w_Flow___init__ : CalM P w K mg base 4 ka "Flow" "__init__" (sp_Flow___init__ K ka)) :
    Cal P w K mg base 6 "flow_of" (sp_flow_of K ka) := by
  refine cal_of D sc_flow_of (fun _ _ _ _ _ _ us hl => match us, hl with | [_, _, _], _ => rfl) (fun vs H Q E h => ?_) (fun f cdv A outer s H vs Q E hr h => ?_)
  · obtain ⟨c, lo, fr, C, S, F, rfl, _⟩ := h
    rfl
  · obtain ⟨c, lo, fr, C, S, F, rfl, hC, ok, hS, hF, ndS, lo2, few, q⟩ := h
    refine ⟨_, (pss_one (ps_ret (pe_k w_Flow___init__ k_Flow hr (by decide) (by rfl) (pa_cons (pe_k w_Net___init__ k_Net hr (by decide) (by rfl) (pa_cons (pv 0) pa_nil)) (pa_cons (pv 1) (pa_cons (pv 2) (pa_cons (pe_globI (n := 61) rfl m_MANY) pa_nil))))))), ?_⟩
    refine ⟨_, rfl, fun x dx nx ndx nex => ?_⟩
    obtain ⟨hO1, s1⟩ := obj_new (C := ka "Net") nx ndx nex
    refine ⟨x, c, C, rfl, hO1, hC.same s1, ok, fun H2 bl tl rl fl ls hN k2 => ⟨rfl, ?_⟩⟩
    have s2 := kp_new nx s1 k2
    refine ⟨_, rfl, _, rfl, fun y dy ny ndy ney => ?_⟩
    obtain ⟨hO3, s3⟩ := obj_new (C := ka "Flow") ny ndy ney
    have s23 := s2.trans s3
    have nxy : x ≠ y := by
      obtain ⟨dx', fs', e, _⟩ := hN.ob
      exact ne_of_none e ny
    refine ⟨y, x, lo, fr, c, bl, tl, rl, fl, ls, C, S, F, 61, rfl, nxy, hO3, hN.same s3, ok, Same.sqT s23 hS, Same.sqT s23 hF, ndS, lo2, few, fun H4 Ed hFl k4 => ⟨rfl, ?_⟩⟩
    have s4 := kp_new ny s3 k4
    obtain ⟨nt, lo', rm, en, cm, bl', tl', rl', fl', ls', room, L, h1, h2, h3, e60, h5⟩ := id hFl
    exact q y H4 Ed (s2.trans s4) hFl e60
/-! ### check_free -/
def spX_check_free (K : PySem.W.Frag) (ca : Str → Addr) : Sp := fun vs H Q E => ∃ (c : Addr) (C : Chart) (v : V) (d : PyData), vs = [.ref c, v] ∧ IsChart K H c C ∧ C.Ok ∧ Dp K H v d ∧ (freeD C d = true → ∀ H', Same H H' → Q .non H') ∧ (freeD C d = false → Raised K ca H E ("BadFree", .int (-1)))
theorem cal_check_free (T : Txt mg) (D : Def K mg "check_free" s_check_free) (e_BadFree : Er P w K mg base ca "BadFree") (c_free_fits : Cal P w K mg base 5 "free_fits" (sp_free_fits K)) : CalX P w K mg base 6 "check_free" (spX_check_free K ca) := by
  refine calx_of D sc_check_free (fun _ _ _ _ _ _ us hl => match us, hl with | [_, _], _ => rfl) (fun vs H Q E h => ?_) (fun f cdv A outer s H vs Q E hr h => ?_)
  · obtain ⟨c, C, v, d, rfl, _⟩ := h
    rfl
  · obtain ⟨c, C, v, d, rfl, hC, ok, hd, q1, q2⟩ := h
    refine ⟨_, (pss_one (ps_if (pt_not (pt_val (pe_c c_free_fits hr (by decide) (by rfl) (pa_cons (pv 0) (pa_cons (pv 1) pa_nil))))) (pss_one (ps_raiseE rfl e_BadFree hr (by decide) (L2N.takes_of rfl rfl rfl rfl) (by rfl) (pa_cons (pe_un un_neg pe_int) pa_nil))) pss_nil)), ?_⟩
    refine ⟨_, rfl, _, rfl, c, C, v, d, rfl, hC, ok, hd, fun H2 s2 => ⟨freeD C d, rfl, ?_⟩⟩
    cases e : freeD C d with
    | true => exact iteF (q1 e H2 s2)
    | false => exact iteT ⟨_, rfl, _, rfl, fun dd hdd => q2 e dd _ _ (s2.trans (same_upd hdd)) upd_same (.int _)⟩
/-! ### pinch -/
/-- what a function of a map, a lot and free places owes -/
def DueLF (K : PySem.W.Frag) (ca : Str → Addr) (H : Hp) (E : XK) (dc dl df : PyData) (ok : Chart → List Nat → List Nat → Prop) : Prop :=
  (∀ x i, mapErr dc = some (x, i) → Raised K ca H E (x, .int i)) ∧ ∀ C, dc = chartD C → C.Ok → (lotOk C.n dl = false → Raised K ca H E ("BadLot", .int (-1))) ∧ (lotOk C.n dl = true → freeD C df = false → Raised K ca H E ("BadFree", .int (-1))) ∧
    ∀ S F, dl = lotD S → df = lotD F → S.Pairwise (· < ·) → F.Pairwise (· < ·) → LotsOk C S F → ok C S F
theorem freeD_is {C : Chart} {d : PyData} (h : freeD C d = true) : ∃ F, d = lotD F ∧ F.Pairwise (· < ·) ∧ ∀ a ∈ F, a < C.n ∧ a ∉ C.wished := by
  unfold freeD at h
  split at h
  · rename_i ds
    split at h
    · rename_i l hl
      rw [Bool.and_eq_true] at h
      obtain ⟨F, e, up, lt⟩ := lotOk_is h.1
      have e2 := natsL_some hl
      have : F = l := lotD_inj (by rw [← e, e2]; rfl)
      subst this
      refine ⟨F, e, up, fun a ha => ⟨lt a ha, fun m => ?_⟩⟩
      have z := h.2
      rw [Bool.not_eq_true', List.any_eq_false] at z
      exact z a ha (decide_eq_true m)
    · cases h
  · cases h
theorem freeD_of {C : Chart} {F : List Nat} (up : F.Pairwise (· < ·)) (lt : ∀ a ∈ F, a < C.n ∧ a ∉ C.wished) : freeD C (lotD F) = true := by
  unfold freeD lotD
  simp only [natsL_map]
  rw [Bool.and_eq_true]
  refine ⟨lotOk_lot up fun a ha => (lt a ha).1, ?_⟩
  rw [Bool.not_eq_true', List.any_eq_false]
  exact fun a ha h => (lt a ha).2 (of_decide_eq_true h)
def spX_pinch (K : PySem.W.Frag) (ca : Str → Addr) : Sp := fun vs H Q E => ∃ (vc vl vf : V) (dc dl df : PyData), vs = [vc, vl, vf] ∧ Dp K H vc dc ∧ Dp K H vl dl ∧ Dp K H vf df ∧ DueLF K ca H E dc dl df fun C S F =>
  ∀ t X m H', Same H H' → NearSpec C S F m X → SqT K H' t ((nextL C X).map vN) → Q (.ref t) H'
theorem cal_pinch (T : Txt mg) (D : Def K mg "pinch" s_pinch) (k_Flow : Kls K mg ka "Flow") (c_made_map : CalX P w K mg base 5 "made_map" (spX_made_map K ca)) (c_check_lot : CalX P w K mg base 5 "check_lot" (spX_check_lot K ca)) (c_check_free : CalX P w K mg base 6 "check_free" (spX_check_free K ca)) (c_flow_of : Cal P w K mg base 6 "flow_of" (sp_flow_of K ka))
    (w_Flow_near : CalM P w K mg base 2 ka "Flow" "near" (sp_Flow_near K ka)) : CalX P w K mg base 7 "pinch" (spX_pinch K ca) := by
  refine calx_of D sc_pinch (fun _ _ _ _ _ _ us hl => match us, hl with | [_, _, _], _ => rfl) (fun vs H Q E h => ?_) (fun f cdv A outer s H vs Q E hr h => ?_)
  · obtain ⟨vc, vl, vf, dc, dl, df, rfl, _⟩ := h
    rfl
  · obtain ⟨vc, vl, vf, dc, dl, df, rfl, hdc, hdl, hdf, q1, q2⟩ := h
    refine ⟨_, (pss_cons (ps_expr (pe_x (L2N.takes_of rfl rfl rfl rfl) c_made_map hr (by decide) (by rfl) (pa_cons (pv 0) pa_nil)))
      (pss_cons (ps_expr (pe_x (L2N.takes_of rfl rfl rfl rfl) c_check_lot hr (by decide) (by rfl) (pa_cons (pv 0) (pa_cons (pv 1) pa_nil))))
      (pss_cons (ps_expr (pe_x (L2N.takes_of rfl rfl rfl rfl) c_check_free hr (by decide) (by rfl) (pa_cons (pv 0) (pa_cons (pv 2) pa_nil))))
      (pss_one (ps_ret (pe_m0 w_Flow_near k_Flow hr (by decide) (pe_c c_flow_of hr (by decide) (by rfl) (pa_cons (pv 0) (pa_cons (pv 1) (pa_cons (pv 2) pa_nil)))))))))), ?_⟩
    refine ⟨_, rfl, vc, dc, rfl, hdc, fun em c C c' H1 ev ec ok s1 _ => ?_, fun x i em => q1 x i em⟩
    subst ev ec
    obtain ⟨ql, qf, qo⟩ := q2 C rfl ok
    obtain ⟨c0, e0, hCC⟩ := chart_dp hdc
    cases e0
    obtain ⟨r, wd, ts, hC⟩ := id hCC
    refine ⟨_, rfl, _, rfl, c, r, wd, C.n, vl, dl, rfl, (hC.same s1).top, Dp.same s1 hdl, fun okL H2 s2 => ?_, fun bad => Raised.same (ql bad) s1⟩
    have s02 := s1.trans s2
    refine ⟨_, rfl, _, rfl, c, C, vf, df, rfl, hCC.same s02, ok, Dp.same s02 hdf, fun okF H3 s3 => ?_, fun bad => Raised.same (qf okL bad) s02⟩
    have s03 := s02.trans s3
    obtain ⟨S, rfl, upS, inS⟩ := lotOk_is okL
    obtain ⟨F, rfl, upF, inF⟩ := freeD_is okF
    obtain ⟨lo, rfl, hS⟩ := lot_dp hdl
    obtain ⟨fr, rfl, hF⟩ := lot_dp hdf
    have lo2 : LotsOk C S F := ⟨inS, inF⟩
    have q := qo S F rfl rfl upS upF lo2
    have n60 := ok.n60
    have lF := up_len upF fun a ha => (inF a ha).1
    refine ⟨_, rfl, _, rfl, _, rfl, c, lo, fr, C, S, F, rfl, hCC.same s03, ok, Same.sqT s03 hS, Same.sqT s03 hF, up_nodup upS, lo2, by omega, fun f H4 Ed s4 hFl e60 => ?_⟩
    obtain ⟨nt, lo', rm, en, cm, bl, tl, rl, fl, ls, room, L, hO, _⟩ := id hFl
    obtain ⟨dxF, fsF, eF, _, _, _, _, _, l6, _⟩ := hO.ex
    have s04 := s03.trans s4
    exact ⟨f, dxF, fsF, rfl, eF, l6 _ (by decide), f, c, C, S, F, Ed, 61, rfl, hFl, by omega, hCC.same s04, ok, lo2, fun t X H5 s5 sp ht => q t X _ H5 (s04.trans s5) sp ht⟩
theorem DueLF.valid {H : Hp} {E : XK} {C : Chart} {S F : List Nat} {ok : Chart → List Nat → List Nat → Prop} (o : C.Ok) (inS : ∀ x ∈ S, x < C.n) (upS : S.Pairwise (· < ·)) (inF : ∀ x ∈ F, x < C.n ∧ x ∉ C.wished) (upF : F.Pairwise (· < ·)) (q : ok C S F) : DueLF K ca H E (chartD C) (lotD S) (lotD F) ok := by
  refine ⟨fun x i h => ?_, fun C' ec o' => ?_⟩
  · rw [mapErr_chart o] at h
    cases h
  · have := chartD_inj ec
    subst this
    refine ⟨fun h => ?_, fun _ h => ?_, fun S' F' e1 e2 _ _ _ => ?_⟩
    · rw [lotOk_lot upS inS] at h
      cases h
    · rw [freeD_of upF inF] at h
      cases h
    · rw [← lotD_inj e1, ← lotD_inj e2]
      exact q
def sp_pinch (K : PySem.W.Frag) : Sp := fun vs H Q _ => ∃ (c lo fr : Addr) (C : Chart) (S F : List Nat), vs = [.ref c, .ref lo, .ref fr] ∧ IsChart K H c C ∧ C.Ok ∧ SqT K H lo (S.map vN) ∧ (∀ x ∈ S, x < C.n) ∧ S.Pairwise (· < ·) ∧ SqT K H fr (F.map vN) ∧ (∀ x ∈ F, x < C.n ∧ x ∉ C.wished) ∧ F.Pairwise (· < ·) ∧
  ∀ t X m H', Same H H' → NearSpec C S F m X → SqT K H' t ((nextL C X).map vN) → Q (.ref t) H'
theorem calv_pinch (c_pinch : CalX P w K mg base 7 "pinch" (spX_pinch K ca)) : Cal P w K mg base 7 "pinch" (sp_pinch K) :=
  c_pinch.valid fun vs H Q E ⟨c, lo, fr, C, S, F, e, isC, ok, hS, inS, upS, hF, inF, upF, q⟩ => ⟨_, _, _, _, _, _, e, dp_chart isC, dp_lot hS, dp_lot hF, .valid ok inS upS inF upF q⟩
end
end Ft

set_option Elab.async false
set_option linter.all false
set_option maxRecDepth 100000
set_option maxHeartbeats 8000000
namespace Ft
open PySem PySem.Spec PyProof.Rows L2
theorem nd_of_inj {α β : Type} {g : α → β} : ∀ {l : List α}, l.Nodup → (∀ x ∈ l, ∀ y ∈ l, g x = g y → x = y) → (l.map g).Nodup
  | [], _, _ => List.nodup_nil
  | a :: l, nd, inj => by
    rw [List.nodup_cons] at nd
    rw [List.map_cons, List.nodup_cons]
    refine ⟨fun m => ?_, nd_of_inj nd.2 fun x hx y hy => inj x (List.mem_cons_of_mem _ hx) y (List.mem_cons_of_mem _ hy)⟩
    obtain ⟨b, hb, e⟩ := List.mem_map.mp m
    have := inj b (List.mem_cons_of_mem _ hb) a List.mem_cons_self e
    rw [this] at hb
    exact nd.1 hb
theorem rel_len {R : Nat → Nat → Prop} {l m : List Nat} (nd : l.Nodup) (ex : ∀ b ∈ l, ∃ c ∈ m, R b c) (inj : ∀ b ∈ l, ∀ b' ∈ l, ∀ c, R b c → R b' c → b = b') : l.length ≤ m.length := by
  let g : Nat → Nat := fun b => @dite _ (∃ c ∈ m, R b c) (Classical.propDecidable _) (fun h => Classical.choose h) fun _ => 0
  have hg : ∀ b ∈ l, g b ∈ m ∧ R b (g b) := fun b hb => by
    have e : g b = Classical.choose (ex b hb) := dif_pos (ex b hb)
    rw [e]
    exact Classical.choose_spec (ex b hb)
  have := nodup_len_le (l := l.map g) (m := m) (nd_of_inj nd fun x hx y hy e => inj x hx y hy (g x) (hg x hx).2 (by rw [e]; exact (hg y hy).2)) fun x hx => by
    obtain ⟨b, hb, rfl⟩ := List.mem_map.mp hx
    exact (hg b hb).1
  rwa [List.length_map] at this
/-- what the cut of a planted map is: the waists that are not free, and what lies behind those that are -/
def DueP (wts F : List Nat) (tll : List (List Nat)) (b : Nat) : Prop := (b ∈ wts ∧ b ∉ F) ∨ ∃ (k x : Nat) (t : List Nat), wts[k]? = some x ∧ x ∈ F ∧ tll[k]? = some t ∧ b ∈ t
theorem planted_next {C : Chart} {ring wts F X : List Nat} {tll : List (List Nat)} {m : Nat} (ok : C.Ok) (wa : Waists C ring wts tll) (wun : ∀ x ∈ wts, x ∉ C.wished) (wnd : wts.Nodup) (pos : ∀ t ∈ tll, 0 < t.length) (inF : ∀ b ∈ F, b ∈ wts) (sp : NearSpec C ring F m X) :
    ∀ b, b ∈ nextL C X ↔ DueP wts F tll b := by
  have tget : ∀ {k x : Nat}, wts[k]? = some x → ∃ t, tll[k]? = some t := fun {k x} h => ⟨_, List.getElem?_eq_getElem (by rw [wa.len]; exact (List.getElem?_eq_some_iff.mp h).1)⟩
  have once : ∀ {i j x : Nat}, wts[i]? = some x → wts[j]? = some x → i = j := fun {i j x} h1 h2 => (List.getElem?_inj (List.getElem?_eq_some_iff.mp h1).1 wnd).mp (by rw [h1, h2])
  have rg : Region C ring (ring ++ F) := ⟨fun a ha => List.mem_append_left _ ha, fun a ha => (List.mem_append.mp ha).imp_right fun h => wun a (inF a h)⟩
  have memN : ∀ b, b ∈ nextL C (ring ++ F) ↔ DueP wts F tll b := fun b => by
    rw [nextL_mem]
    constructor
    · rintro ⟨_, ⟨a, ha, hr⟩, h3⟩
      rcases List.mem_append.mp ha with h | h
      · have nb : b ∉ ring := fun z => h3.elim (wa.runw b z) fun n => n (List.mem_append_left _ z)
        have bw := (wa.rout a h b hr).resolve_left nb
        exact .inl ⟨bw, fun z => h3.elim (wun b bw) fun n => n (List.mem_append_right _ z)⟩
      · obtain ⟨k, hk⟩ := List.getElem?_of_mem (inF a h)
        obtain ⟨t, ht⟩ := tget hk
        exact .inr ⟨k, a, t, hk, h, ht, (wa.wout k a t hk ht b).mp hr⟩
    · rintro (⟨h1, h2⟩ | ⟨k, x, t, hk, hF, ht, hb⟩)
      · obtain ⟨r, hr, hrd⟩ := wa.into b h1
        exact ⟨(ok.inR _ hrd).2, ⟨r, List.mem_append_left _ hr, hrd⟩, .inr fun z => (List.mem_append.mp z).elim (fun y => wa.off b y h1) h2⟩
      · have hrd := (wa.wout k x t hk ht b).mpr hb
        exact ⟨(ok.inR _ hrd).2, ⟨x, List.mem_append_right _ hF, hrd⟩, .inl (wa.wish t (List.mem_of_getElem? ht) b hb)⟩
  have free : ∀ b ∈ nextL C (ring ++ F), b ∉ F := fun b hb hF => by
    rcases (memN b).mp hb with h | ⟨k, x, t, hk, _, ht, hbt⟩
    · exact h.2 hF
    · exact wun b (inF b hF) (wa.wish t (List.mem_of_getElem? ht) b hbt)
  have low : ∀ Y, Region C ring Y → (∀ b ∈ nextL C Y, b ∉ F) → (∀ x ∈ F, x ∈ Y) ∧ (nextL C (ring ++ F)).length ≤ (nextL C Y).length := fun Y hY hfr => by
    have sub : ∀ x ∈ F, x ∈ Y := fun x hx => Classical.byContradiction fun no => by
      obtain ⟨r, hr, hrd⟩ := wa.into x (inF x hx)
      exact hfr x (nextL_mem.mpr ⟨(ok.inR _ hrd).2, ⟨r, hY.sub r hr, hrd⟩, .inr no⟩) hx
    refine ⟨sub, rel_len (R := fun b c => c = b ∨ (b ∈ wts ∧ b ∉ F ∧ ∃ (k : Nat) (t : List Nat), wts[k]? = some b ∧ tll[k]? = some t ∧ c ∈ t)) (up_nodup (those_up _ _)) (fun b hb => ?_) fun b hb b' hb' c h h' => ?_⟩
    · rcases (memN b).mp hb with ⟨h1, h2⟩ | ⟨k, x, t, hk, hF, ht, hbt⟩
      · by_cases hbY : b ∈ Y
        · obtain ⟨k, hk⟩ := List.getElem?_of_mem h1
          obtain ⟨t, ht⟩ := tget hk
          obtain ⟨c, hc⟩ := List.exists_mem_of_length_pos (pos t (List.mem_of_getElem? ht))
          have hrd := (wa.wout k b t hk ht c).mpr hc
          exact ⟨c, nextL_mem.mpr ⟨(ok.inR _ hrd).2, ⟨b, hbY, hrd⟩, .inl (wa.wish t (List.mem_of_getElem? ht) c hc)⟩, .inr ⟨h1, h2, k, t, hk, ht, hc⟩⟩
        · obtain ⟨r, hr, hrd⟩ := wa.into b h1
          exact ⟨b, nextL_mem.mpr ⟨(ok.inR _ hrd).2, ⟨r, hY.sub r hr, hrd⟩, .inr hbY⟩, .inl rfl⟩
      · have hrd := (wa.wout k x t hk ht b).mpr hbt
        exact ⟨b, nextL_mem.mpr ⟨(ok.inR _ hrd).2, ⟨x, sub x hF, hrd⟩, .inl (wa.wish t (List.mem_of_getElem? ht) b hbt)⟩, .inl rfl⟩
    · -- no two have the same one
      have mix : ∀ {d e : Nat}, d ∈ nextL C (ring ++ F) → (e ∈ wts ∧ e ∉ F ∧ ∃ (k : Nat) (t : List Nat), wts[k]? = some e ∧ tll[k]? = some t ∧ d ∈ t) → False := fun {d e} hd he => by
        obtain ⟨_, e2, k, t, hk, ht, hdt⟩ := he
        have dw := wa.wish t (List.mem_of_getElem? ht) d hdt
        rcases (memN d).mp hd with h | ⟨k', x, t', hk', hF, ht', hd'⟩
        · exact wun d h.1 dw
        · have := wa.disj k k' t t' d ht ht' hdt hd'
          subst this
          rw [hk] at hk'
          cases hk'
          exact e2 hF
      rcases h with h | h
      · rcases h' with h' | h'
        · rw [← h, ← h']
        · subst h
          exact (mix hb h').elim
      · rcases h' with h' | h'
        · subst h'
          exact (mix hb' h).elim
        · obtain ⟨_, _, k, t, hk, ht, hc⟩ := h
          obtain ⟨_, _, k', t', hk', ht', hc'⟩ := h'
          have := wa.disj k k' t t' c ht ht' hc hc'
          subst this
          rw [hk] at hk'
          cases hk'
          rfl
  have rX : Region C ring X := ⟨sp.sub, fun a ha => (sp.inn a ha).imp_right fun h => h.1⟩
  obtain ⟨l1, l2⟩ := sp.least _ rg free
  obtain ⟨f1, f2⟩ := low X rX sp.free
  rw [sp.many] at f2
  have sub := l2 (by omega)
  intro b
  rw [next_congr (C := C) (X := X) (Y := ring ++ F) fun a => ⟨sub a, fun h => (List.mem_append.mp h).elim (sp.sub a) (f1 a)⟩]
  exact memN b
section
variable {P : Program} {w : World} {K : PySem.W.Frag} {mg : Str → Option Value} {base : Heap} {ca : Str → Addr}
end
end Ft

set_option Elab.async false
set_option linter.all false
set_option maxRecDepth 100000
set_option maxHeartbeats 8000000
namespace Ft
open PySem PySem.Spec PyProof.Rows L2
/-- what is due after so many waists -/
structure DueIn (wts : List Nat) (tll : List (List Nat)) (i : Nat) (Fs Ds : List Nat) : Prop where
  fnd : Fs.Nodup
  fin : ∀ x ∈ Fs, ∃ k, k < i ∧ wts[k]? = some x
  dnd : Ds.Nodup
  mem : ∀ b, b ∈ Ds ↔ (∃ k, k < i ∧ wts[k]? = some b ∧ b ∉ Fs) ∨ ∃ (k x : Nat) (t : List Nat), k < i ∧ wts[k]? = some x ∧ x ∈ Fs ∧ tll[k]? = some t ∧ b ∈ t
section
variable {C : Chart} {ring wts Fs Ds : List Nat} {tll : List (List Nat)} {i : Nat}
theorem DueIn.start : DueIn wts tll 0 [] [] := ⟨List.nodup_nil, (fun _ h => nomatch h), List.nodup_nil, fun b => by simp⟩
theorem wonce (wnd : wts.Nodup) {i j x : Nat} (h1 : wts[i]? = some x) (h2 : wts[j]? = some x) : i = j := (List.getElem?_inj (List.getElem?_eq_some_iff.mp h1).1 wnd).mp (by rw [h1, h2])
theorem DueIn.free (wa : Waists C ring wts tll) (wun : ∀ x ∈ wts, x ∉ C.wished) (wnd : wts.Nodup) (h : DueIn wts tll i Fs Ds) {x : Nat} {t : List Nat} (hx : wts[i]? = some x) (ht : tll[i]? = some t) : DueIn wts tll (i + 1) (Fs ++ [x]) (Ds ++ t) := by
  have nx : x ∉ Fs := fun m => by
    obtain ⟨k, hk, e⟩ := h.fin x m
    have := wonce wnd e hx
    omega
  refine ⟨?_, fun y hy => ?_, ?_, fun b => ?_⟩
  · rw [List.nodup_append]
    exact ⟨h.fnd, by simp, fun a ha b hb e => nx (by rw [← List.mem_singleton.mp hb, ← e]; exact ha)⟩
  · rcases List.mem_append.mp hy with hy | hy
    · obtain ⟨k, hk, e⟩ := h.fin y hy
      exact ⟨k, by omega, e⟩
    · rw [List.mem_singleton.mp hy]
      exact ⟨i, by omega, hx⟩
  · rw [List.nodup_append]
    refine ⟨h.dnd, wa.mnd t (List.mem_of_getElem? ht), fun a ha b hb e => ?_⟩
    subst e
    rcases (h.mem a).mp ha with ⟨k, _, hk, _⟩ | ⟨k, y, t', hk, _, _, ht', ha'⟩
    · exact wun a (List.mem_of_getElem? hk) (wa.wish t (List.mem_of_getElem? ht) a hb)
    · have := wa.disj k i t' t a ht' ht ha' hb
      omega
  · rw [List.mem_append, h.mem b]
    constructor
    · rintro ((⟨k, hk, e, n⟩ | ⟨k, y, t', hk, e, m, e', hb⟩) | hb)
      · refine .inl ⟨k, by omega, e, fun z => ?_⟩
        rcases List.mem_append.mp z with z | z
        · exact n z
        · rw [List.mem_singleton.mp z] at e
          have := wonce wnd e hx
          omega
      · exact .inr ⟨k, y, t', by omega, e, List.mem_append_left _ m, e', hb⟩
      · exact .inr ⟨i, x, t, by omega, hx, List.mem_append_right _ (List.mem_singleton.mpr rfl), ht, hb⟩
    · rintro (⟨k, hk, e, n⟩ | ⟨k, y, t', hk, e, m, e', hb⟩)
      · by_cases z : k < i
        · exact .inl (.inl ⟨k, z, e, fun m => n (List.mem_append_left _ m)⟩)
        · have : k = i := by omega
          subst this
          rw [hx] at e
          cases e
          exact absurd (List.mem_append_right _ (List.mem_singleton.mpr rfl)) n
      · by_cases z : k < i
        · refine .inl (.inr ⟨k, y, t', z, e, ?_, e', hb⟩)
          rcases List.mem_append.mp m with m | m
          · exact m
          · rw [List.mem_singleton.mp m] at e
            have := wonce wnd e hx
            omega
        · have : k = i := by omega
          subst this
          rw [ht] at e'
          cases e'
          exact .inr hb
theorem DueIn.keep (wa : Waists C ring wts tll) (wun : ∀ x ∈ wts, x ∉ C.wished) (wnd : wts.Nodup) (h : DueIn wts tll i Fs Ds) {x : Nat} (hx : wts[i]? = some x) : DueIn wts tll (i + 1) Fs (Ds ++ [x]) := by
  have nx : x ∉ Fs := fun m => by
    obtain ⟨k, hk, e⟩ := h.fin x m
    have := wonce wnd e hx
    omega
  refine ⟨h.fnd, fun y hy => ?_, ?_, fun b => ?_⟩
  · obtain ⟨k, hk, e⟩ := h.fin y hy
    exact ⟨k, by omega, e⟩
  · rw [List.nodup_append]
    refine ⟨h.dnd, by simp, fun a ha b hb e => ?_⟩
    subst e
    rw [List.mem_singleton.mp hb] at ha
    rcases (h.mem x).mp ha with ⟨k, hk, e, _⟩ | ⟨k, y, t', hk, _, _, ht', ha'⟩
    · have := wonce wnd e hx
      omega
    · exact wun x (List.mem_of_getElem? hx) (wa.wish t' (List.mem_of_getElem? ht') x ha')
  · rw [List.mem_append, List.mem_singleton, h.mem b]
    constructor
    · rintro ((⟨k, hk, e, n⟩ | ⟨k, y, t', hk, e, m, e', hb⟩) | hb)
      · exact .inl ⟨k, by omega, e, n⟩
      · exact .inr ⟨k, y, t', by omega, e, m, e', hb⟩
      · rw [hb]
        exact .inl ⟨i, by omega, hx, nx⟩
    · rintro (⟨k, hk, e, n⟩ | ⟨k, y, t', hk, e, m, e', hb⟩)
      · by_cases z : k < i
        · exact .inl (.inl ⟨k, z, e, n⟩)
        · have : k = i := by omega
          subst this
          rw [hx] at e
          cases e
          exact .inr rfl
      · by_cases z : k < i
        · exact .inl (.inr ⟨k, y, t', z, e, m, e', hb⟩)
        · have : k = i := by omega
          subst this
          rw [hx] at e
          cases e
          exact absurd m nx
theorem DueIn.all (h : DueIn wts tll wts.length Fs Ds) (b : Nat) : b ∈ Ds ↔ DueP wts Fs tll b := by
  rw [h.mem b]
  unfold DueP
  constructor
  · rintro (⟨k, _, e, n⟩ | ⟨k, y, t', _, e, m, e', hb⟩)
    · exact .inl ⟨List.mem_of_getElem? e, n⟩
    · exact .inr ⟨k, y, t', e, m, e', hb⟩
  · rintro (⟨m, n⟩ | ⟨k, y, t', e, m, e', hb⟩)
    · obtain ⟨k, hk⟩ := List.getElem?_of_mem m
      exact .inl ⟨k, (List.getElem?_eq_some_iff.mp hk).1, hk, n⟩
    · exact .inr ⟨k, y, t', (List.getElem?_eq_some_iff.mp e).1, e, m, e', hb⟩
theorem DueIn.lt (wlt : ∀ x ∈ wts, x < C.n) (mlt : ∀ t ∈ tll, ∀ x ∈ t, x < C.n) (h : DueIn wts tll i Fs Ds) : ∀ b ∈ Ds, b < C.n := fun b hb => by
  rcases (h.mem b).mp hb with ⟨k, _, e, _⟩ | ⟨k, y, t, _, _, _, e, hb⟩
  · exact wlt b (List.mem_of_getElem? e)
  · exact mlt t (List.mem_of_getElem? e) b hb
end
section
variable {P : Program} {w : World} {K : PySem.W.Frag} {mg : Str → Option Value} {base : Heap} {ca : Str → Addr}
/-! ### _law_planted -/
def sp_law_planted (K : PySem.W.Frag) : Sp := fun vs H Q _ => ∃ (p l : Addr), vs = [.ref p] ∧ PoolAt H p l ∧ ∀ H', PoolAt H' p l → Kp [p, l] H H' → Q (.bl true) H'
theorem cal_law_planted (T : Txt mg) (D : Def K mg "_law_planted" s_law_planted) (c_law_map_planted : Cal P w K mg base 5 "_law_map_planted" (sp_law_map_planted K)) (c_law_draw : Cal P w K mg base 2 "_law_draw" sp_law_draw) (v_pinch : Cal P w K mg base 7 "pinch" (sp_pinch K)) : CalG P w K mg base 8 "_law_planted" (sp_law_planted K) := by
  refine calG_of D sc_law_planted (fun _ _ _ _ _ _ us hl => match us, hl with | [_], _ => rfl) (fun vs H Q E h => ?_) (fun f cdv A outer s H vs Q E hg hr h => ?_)
  · obtain ⟨p, l, rfl, _⟩ := h
    rfl
  · obtain ⟨p, l, rfl, hP, q⟩ := h
    have hU := hr.units
    have hG := hg
    refine ⟨_, (pss_cons (ps_asg (pe_c c_law_map_planted hr (by decide) (by rfl) (pa_cons (pv 0) (pa_cons (pe_op op_add pe_int (pe_c c_law_draw hr (by decide) (by rfl) (pa_cons (pv 0) (pa_cons pe_int pa_nil)))) (pa_cons (pe_c c_law_draw hr (by decide) (by rfl) (pa_cons (pv 0) (pa_cons pe_int pa_nil))) (pa_cons pe_int pa_nil))))) (show PG _ _ (gLst K 4 _) from pg_lst (by rfl) (pgs_cons (pg_name (i := 1) sc_law_planted.nd rfl (Or.inl rfl)) (pgs_cons (pg_name (i := 2) sc_law_planted.nd rfl (Or.inl rfl)) (pgs_cons (pg_name (i := 3) sc_law_planted.nd rfl (Or.inl rfl)) (pgs_cons (pg_name (i := 4) sc_law_planted.nd rfl (Or.inl rfl)) pgs_nil))))))
      (pss_cons (ps_par (i := 5) (j := 6) (by rfl) sc_law_planted.nd rfl rfl (by decide) rfl rfl (pa_cons (pe_lst pa_nil) (pa_cons (pe_lst pa_nil) pa_nil)) (by rfl))
      (pss_cons (ps_for PassesOwn.never rfl (show PI _ _ _ (iEnum K _) from pi_enum (by rfl) T.enumerate (pa_cons (pv 3) pa_nil)) (show PG _ _ (gTup K 2 _) from pg_tup (by rfl) (pgs_cons (pg_name (i := 7) sc_law_planted.nd rfl (Or.inl rfl)) (pgs_cons (pg_name (i := 8) sc_law_planted.nd rfl (Or.inl rfl)) pgs_nil))) (pss_one (ps_if (pt_cmpR op_eq (pe_c c_law_draw hr (by decide) (by rfl) (pa_cons (pv 0) (pa_cons pe_int pa_nil))) pe_int (nomark _)) (pss_cons (ps_expr (pe_bm PySem.F.plainAttrs_list PySem.F.slot_list_append PySem.F.type_list_append mt_append (pv 5) (pa_cons (pv 8) pa_nil)))
          (pss_one (ps_set (i := 6) sc_law_planted.nd rfl (Or.inl rfl) (pe_op op_cat (pv 6) (pe_ix (show IxR _ (rIxL K) from ix_list) (pv 4) (pv 7) (fun _ _ => rfl)))))) (pss_one (ps_expr (pe_bm PySem.F.plainAttrs_list PySem.F.slot_list_append PySem.F.type_list_append mt_append (pv 6) (pa_cons (pv 8) pa_nil)))))))
      (pss_one (ps_ret (pe_cmpR op_eq (pe_callB (show CallR _ _ (rRepr K) from cr_repr hG hU) (by rfl) T.repr (by decide +kernel) (pa_cons (pe_c v_pinch hr (by decide) (by rfl) (pa_cons (pv 1) (pa_cons (pe_callTy (show CallR _ _ (rTupleOf K) from call_tupleOf) (by rfl) T.tuple (by decide +kernel) (pa_cons (pv 2) pa_nil)) (pa_cons (pe_callTy (show CallR _ _ (rTupleOf K) from call_tupleOf) (by rfl) T.tuple (by decide +kernel) (pa_cons (pe_callB (show CallR _ _ (rSortedI K) from cr_sortedI) (by rfl) T.sorted (by decide +kernel) (pa_cons (pv 5) pa_nil)) pa_nil)) pa_nil)))) pa_nil)) (pe_callB (show CallR _ _ (rRepr K) from cr_repr hG hU) (by rfl) T.repr (by decide +kernel) (pa_cons (pe_callTy (show CallR _ _ (rTupleOf K) from call_tupleOf) (by rfl) T.tuple (by decide +kernel) (pa_cons (pe_callB (show CallR _ _ (rSortedI K) from cr_sortedI) (by rfl) T.sorted (by decide +kernel) (pa_cons (pv 6) pa_nil)) pa_nil)) pa_nil)) (nomark _))))))), ?_⟩
    refine ⟨_, rfl, _, rfl, p, l, 20, rfl, hP, by decide, by decide, fun z1 H1 hz1 hP1 k1 => ?_⟩
    refine ⟨_, _, rfl, rfl, _, rfl, p, l, 11, rfl, hP1, by decide, by decide, fun z2 H2 hz2 hP2 k2 => ?_⟩
    refine ⟨p, l, 1 + z1, z2, 3, rfl, hP2, by omega, by omega, by omega, by decide, by decide, fun q0 c ri wa tl C ring wts tls tll H3 hq hC ok hRi hWa lr lw ripl wapl plt told wst hP3 k3 => ?_⟩
    have n60 := ok.n60
    refine ⟨q0, _, rfl, .inl (.inl hq), rfl, _, _, rfl, _, _, rfl, _, _, rfl, _, _, rfl, rfl, ?_⟩
    have k03 := (k1.trans k2).trans k3
    refine ⟨Nat.zero_le _, fun f0 hf0 => ⟨Nat.zero_le _, fun d0 hd0 => ?_⟩⟩
    generalize eH4 : upd H3 f0 _ = H4 at hd0 ⊢
    have s4 : Same H3 H4 := by rw [← eH4]; exact same_upd hf0
    have hF4 : H4 f0 = some (.lst (([] : List Nat).map vN)) := by rw [← eH4]; exact upd_same
    clear eH4
    generalize eH5 : upd H4 d0 _ = H5
    have s5 : Same H4 H5 := by rw [← eH5]; exact same_upd hd0
    have hD5 : H5 d0 = some (.lst (([] : List Nat).map vN)) := by rw [← eH5]; exact upd_same
    clear eH5
    have s35 := s4.trans s5
    have hF5 := s5 _ _ hF4
    have ndf : d0 ≠ f0 := (ne_of_none hF4 hd0).symm
    have f0pl : f0 ∉ [p, l] := hP3.free hf0
    have d0pl : d0 ∉ [p, l] := (hP3.same s4).free hd0
    have hd03 : H3 d0 = none := s4.free hd0
    refine ⟨_, _, rfl, ?_⟩
    have hWa5 := s35 _ _ hWa
    have tll_get : ∀ {i x : Nat}, wts[i]? = some x → ∃ t, tll[i]? = some t := fun {i x} h => ⟨_, List.getElem?_eq_getElem (by rw [wst.len]; exact (List.getElem?_eq_some_iff.mp h).1)⟩
    have mlt : ∀ t ∈ tll, ∀ x ∈ t, x < C.n := fun t ht => (told.mem t ht).2.2
    refine ⟨_, rfl, wa, _, rfl, .inl (.inl hWa5), for_it walk_enum (fun i σ H' => ∃ (d : Addr) (Fs Ds : List Nat) (v7 v8 : Option V), σ = [some (.ref p), some (.ref c), some (.ref ri), some (.ref wa), some (.ref tl), some (.ref f0), some (.ref d), v7, v8] ∧ PoolAt H' p l ∧ Kp [p, l] H3 H' ∧ H' f0 = some (.lst (Fs.map vN)) ∧ H' d = some (.lst (Ds.map vN)) ∧ d ≠ f0 ∧ d ∉ [p, l] ∧ H3 d = none ∧ DueIn wts tll i Fs Ds)
      ⟨d0, [], [], _, _, rfl, hP3.same s35, Same.kp s35, hF5, hD5, ndf, d0pl, hd03, DueIn.start⟩ (fun i σ H' _ ⟨_, _, _, _, _, _, _, k, _⟩ => .inl (.inl (k _ _ wapl hWa))) ?_ ?_⟩
    · rintro i x σ H6 H7 hi ⟨d, Fs, Ds, v7, v8, rfl, hP6, k6, hF6, hD6, nd6, dpl6, hd36, du6⟩ ⟨t, x0, y, rfl, nt, rfl, e1, e2⟩
      cases e1
      obtain ⟨wst1, hwst, rfl⟩ := get_map e2
      rw [List.length_map] at hi
      have s7 : Same H6 (upd H6 t (.tup [.int (i : Nat), vN wst1])) := same_upd nt
      have hT7 : (upd H6 t (.tup [.int (i : Nat), vN wst1])) t = some (.tup [.int (i : Nat), vN wst1]) := upd_same
      generalize upd H6 t (.tup [.int (i : Nat), vN wst1]) = H7 at s7 hT7
      refine ⟨t, _, rfl, .inl (.inl hT7), rfl, _, _, rfl, _, _, rfl, rfl, ?_⟩
      have k7 : Kp [p, l] H3 H7 := k6.trans (Same.kp s7)
      have hP7 := hP6.same s7
      have hf03 : H3 f0 = none := hf0
      refine ⟨_, rfl, p, l, 3, rfl, hP7, by decide, by decide, fun z H8 hz hP8 k8 => ?_⟩
      have k38 := k7.trans k8
      have hF8 := k8 _ _ f0pl (s7 _ _ hF6)
      have hD8 := k8 _ _ dpl6 (s7 _ _ hD6)
      have lD : Ds.length ≤ 60 := by
        have := len_of_lt' Ds C.n du6.dnd (du6.lt told.wlt mlt)
        omega
      have lF : Fs.length ≤ 60 := by
        have := len_of_lt' Fs C.n du6.fnd fun x hx => by
          obtain ⟨k, _, e⟩ := du6.fin x hx
          exact told.wlt x (List.mem_of_getElem? e)
        omega
      have kset : ∀ {H' : Hp} {o : HO} {e : Addr}, H3 e = none → Kp [p, l] H3 H' → Kp [p, l] H3 (upd H' e o) := fun {H' o e} he k b x nb eb => by
        rw [upd_ne (ne_of_none eb he)]
        exact k b x nb eb
      refine ⟨rfl, _, rfl, ite_any (fun _ => ?_) (fun _ => ?_)⟩
      · obtain ⟨ml, hml⟩ := tll_get hwst
        obtain ⟨ti, hti, hTi⟩ := paired_get told.lots hml
        have offT := told.offs ti (List.mem_of_getElem? hti)
        refine ⟨_, rfl, .inl ⟨rfl, _, .inl (.inl hF8)⟩, _, rfl, f0, _, _, rfl, rfl, hF8, by rw [List.length_map]; exact small1000 (by omega), ?_⟩
        generalize eH9 : upd H8 f0 _ = H9
        have k39 : Kp [p, l] H3 H9 := by rw [← eH9]; exact kset hf03 k38
        have hF9 : H9 f0 = some (.lst ((Fs ++ [wst1]).map vN)) := by rw [← eH9, upd_same, List.map_append]; rfl
        have hD9 : H9 d = some (.lst (Ds.map vN)) := by rw [← eH9, upd_ne nd6]; exact hD8
        have hP9 : PoolAt H9 p l := by rw [← eH9]; exact hP8.set f0pl
        clear eH9
        have hTl9 := k39 _ _ told.off told.at_
        have hTi9 := k39 _ _ offT hTi
        have lml := (told.mem ml (List.mem_of_getElem? hml)).2.1
        refine ⟨_, rfl, _, rfl, _, rfl, tl, _, _, _, rfl, rfl, .inl (.inl hTl9), atI_nat (j := i) (v := V.ref ti) (by rw [List.getElem?_map, hti]; rfl), d, ti, _, _, rfl, rfl, hD9, hTi9, by rw [List.length_map, List.length_map, sizeLine_eq]; omega, fun d2 hd2 => ?_⟩
        generalize eH10 : upd H9 d2 _ = H10
        have s10 : Same H9 H10 := by rw [← eH10]; exact same_upd hd2
        have hD10 : H10 d2 = some (.lst ((Ds ++ ml).map vN)) := by rw [← eH10, List.map_append]; exact upd_same
        clear eH10
        have d2pl := hP9.free hd2
        exact ⟨d2, _, _, _, _, rfl, hP9.same s10, k39.trans (Same.kp s10), s10 _ _ hF9, hD10, (ne_of_none hF9 hd2).symm, d2pl, kp_free k39 d2pl hd2, du6.free wst told.wun told.wnd hwst hml⟩
      · refine ⟨_, rfl, .inl ⟨rfl, _, .inl (.inl hD8)⟩, _, rfl, d, _, _, rfl, rfl, hD8, by rw [List.length_map]; exact small1000 (by omega), ?_⟩
        exact ⟨d, Fs, _, _, _, rfl, hP8.set dpl6, kset hd36 k38, by rw [upd_ne nd6.symm]; exact hF8, by rw [upd_same, List.map_append]; rfl, nd6, dpl6, hd36, du6.keep wst told.wun told.wnd hwst⟩
    rintro σ H6 ⟨d, Fs, Ds, v7, v8, rfl, hP6, k6, hF6, hD6, nd6, dpl6, hd36, du6⟩
    rw [List.length_map] at du6
    have lD : Ds.length ≤ 60 := by
      have := len_of_lt' Ds C.n du6.dnd (du6.lt told.wlt mlt)
      omega
    have inF : ∀ x ∈ Fs, x ∈ wts := fun x hx => by
      obtain ⟨k, _, e⟩ := du6.fin x hx
      exact List.mem_of_getElem? e
    have hC6 := hC.keep k6 hP3.lists
    have hRi6 := k6 _ _ ripl hRi
    refine ⟨_, rfl, _, rfl, ri, _, rfl, .inl ⟨.inl (.inl hRi6), fun t1 ht1 => ?_⟩⟩
    generalize eH7 : upd H6 t1 _ = H7
    have s7 : Same H6 H7 := by rw [← eH7]; exact same_upd ht1
    have hT7 : SqT K H7 t1 (ring.map vN) := by rw [← eH7]; exact .inl (.inl upd_same)
    clear eH7
    have hF7 := s7 _ _ hF6
    refine ⟨_, rfl, f0, iN Fs, rfl, .inl (.inl (by rw [← vN_map]; exact hF7)), fun ns' pq pm' pw hpq => ?_⟩
    obtain ⟨Fu, rfl, upF, memF⟩ := sorted_iN du6.fnd pm' pw
    generalize eH8 : upd H7 pq _ = H8
    have s8 : Same H7 H8 := by rw [← eH8]; exact same_upd hpq
    have hQ8 : H8 pq = some (.lst (Fu.map vN)) := by rw [← eH8, vN_map]; exact upd_same
    clear eH8
    refine ⟨pq, _, rfl, .inl ⟨.inl (.inl hQ8), fun t2 ht2 => ?_⟩⟩
    generalize eH9 : upd H8 t2 _ = H9
    have s9 : Same H8 H9 := by rw [← eH9]; exact same_upd ht2
    have hT9 : SqT K H9 t2 (Fu.map vN) := by rw [← eH9]; exact .inl (.inl upd_same)
    clear eH9
    have s69 := s7.trans (s8.trans s9)
    refine ⟨c, t1, t2, C, ring, Fu, rfl, hC6.same s69, ok, Same.sqT (s8.trans s9) hT7, told.rlt, told.rup, hT9, fun x hx => ?_, upF, fun t3 X m H10 s10 sp hT10 => ?_⟩
    · have := inF x ((memF x).mp hx)
      exact ⟨told.wlt x this, told.wun x this⟩
    have due := planted_next ok wst told.wun told.wnd (fun t ht => (told.mem t ht).1) (fun b hb => inF b ((memF b).mp hb)) sp
    have nN : (nextL C X).length ≤ 60 := Nat.le_trans (up_len (those_up C.n fun b => (∃ a ∈ X, (a, b) ∈ C.roads) ∧ (b ∈ C.wished ∨ b ∉ X)) fun a h => (those_mem.mp h).1) n60
    have nlt : ∀ x ∈ nextL C X, x < 64 := fun x hx => by
      have := (nextL_mem.mp hx).1
      omega
    have shN : Shows (encL (nextL C X)) := shows_row nlt (by omega)
    refine ⟨_, encL (nextL C X), rfl, dp_lot hT10, shN, ?_⟩
    have hD10 := s10 _ _ (s69 _ _ hD6)
    refine ⟨_, rfl, d, iN Ds, rfl, .inl (.inl (by rw [← vN_map]; exact hD10)), fun ns2 pq2 pm2 pw2 hpq2 => ?_⟩
    obtain ⟨Du, rfl, upD, memD⟩ := sorted_iN du6.dnd pm2 pw2
    have eD : Du = nextL C X := those_is upD fun x => by
      rw [memD x, du6.all x]
      have h1 : DueP wts Fs tll x ↔ x ∈ nextL C X := by
        rw [due x]
        unfold DueP
        simp only [memF]
      rw [h1, nextL_mem]
    subst eD
    generalize eH11 : upd H10 pq2 _ = H11
    have s11 : Same H10 H11 := by rw [← eH11]; exact same_upd hpq2
    have hQ11 : H11 pq2 = some (.lst ((nextL C X).map vN)) := by rw [← eH11, vN_map]; exact upd_same
    clear eH11
    refine ⟨pq2, _, rfl, .inl ⟨.inl (.inl hQ11), fun t4 ht4 => ?_⟩⟩
    have s12 := same_upd (o := .tup ((nextL C X).map vN)) ht4
    refine ⟨_, encL (nextL C X), rfl, dp_lot (.inl (.inl upd_same)), shN, ?_⟩
    have s612 := (s69.trans s10).trans (s11.trans s12)
    have e : decide (V.str (encL (nextL C X)).shown = V.str (encL (nextL C X)).shown) = true := decide_eq_true rfl
    refine ⟨rfl, ?_⟩
    rw [e]
    exact q _ (hP6.same s612) ((k03.trans k6).trans (Same.kp s612))
end
end Ft

set_option Elab.async false
set_option linter.all false
set_option maxRecDepth 100000
set_option maxHeartbeats 8000000
namespace Ft
open PySem PySem.Spec PyProof.Rows L2
theorem badPlace_app {n : Nat} : ∀ {ws : List Nat} {b : Int} {i : Nat}, ws.Pairwise (· < ·) → (∀ x ∈ ws, x < n) → (∀ x ∈ ws, b < (x : Int)) → badPlace n b i (ws.map nD ++ [nD n]) = some (i + ws.length)
  | [], b, i, _, _, _ => by
    show (if numIn (b + 1) ((n : Int) - 1) (nD n) = true then badPlace n (numOf (nD n)) (i + 1) [] else some i) = some (i + 0)
    rw [if_neg]
    · rfl
    · intro h
      have := numIn_nat.mp h
      omega
  | w :: ws, b, i, up, lt, ab => by
    have h1 := lt w List.mem_cons_self
    have h2 := ab w List.mem_cons_self
    obtain ⟨u1, u2⟩ := List.pairwise_cons.mp up
    show (if numIn (b + 1) ((n : Int) - 1) (nD w) = true then badPlace n (numOf (nD w)) (i + 1) (ws.map nD ++ [nD n]) else some i) = some (i + (ws.length + 1))
    rw [if_pos (numIn_nat.mpr ⟨by omega, by omega⟩)]
    have := badPlace_app (b := numOf (nD w)) (i := i + 1) u2 (fun x hx => lt x (List.mem_cons_of_mem _ hx)) fun x hx => by
      have := u1 x hx
      show (w : Int) < x
      omega
    rw [this]
    congr 1
    omega
theorem err_chart {C : Chart} (ok : C.Ok) (r w : PyData) : mapErr (.tuple [nD C.n, r, w]) = mapErrN C.n r w := by
  have n60 := ok.n60
  show mapErr3 (nD C.n) r w = _
  unfold mapErr3 mapErrN
  rw [if_pos (by rw [numIn_nat]; omega), nD_toNat]
  cases roadsErr C.n r with
  | some i => rfl
  | none => cases wishErr C.n w <;> rfl
theorem roads_none {C : Chart} (ok : C.Ok) : roadsErr C.n (.tuple (C.roads.map pairD)) = none := by
  unfold roadsErr
  simp only []
  rw [if_pos (by rw [List.length_map]; exact ok.many), badRoad_ok ok.upR ok.inR (fun _ _ => rfl)]
  rfl
end Ft

set_option Elab.async false
set_option linter.all false
set_option maxRecDepth 100000
set_option maxHeartbeats 4000000
namespace Ft
open PySem PySem.Spec PyProof.Rows L2
theorem dpAll_rep {K : PySem.W.Frag} {H : Hp} {xs : List V} {ds : List PyData} (h : DpAll K H xs ds) : ∀ k : Nat, DpAll K H (List.replicate k xs).flatten (List.replicate k ds).flatten
  | 0 => .nil
  | k + 1 => by
    rw [List.replicate_succ, List.replicate_succ, List.flatten_cons, List.flatten_cons]
    exact dpAll_app h (dpAll_rep h k)
theorem gv_rep {K : PySem.W.Frag} {σ : L2.St} {H : Hp} {ta tb : TE} {ds : List PyData} {k : Nat} (g : Gv K σ H ta (.tuple ds)) (g2 : Gv K σ H tb (.int (k : Int))) (ne : ds ≠ []) (h1 : 1 ≤ k) (h2 : k ≤ 1000) (few : ds.length ≤ 1000) : Gv K σ H (tOp (rRepA K) ta tb) (.tuple (List.replicate k ds).flatten) := fun H1 s Q q => g H1 s _ fun v H2 s2 h => g2 H2 (s.trans s2) _ fun u H3 s3 h3 => by
  cases dp_int h3
  obtain ⟨a, xs, rfl, hs, ha⟩ := dp_tup (Dp.same s3 h)
  have len := dpAll_length ha
  exact ⟨a, (k : Int), xs, rfl, rfl, hs, (fun e => ne (by rw [e] at len; exact List.length_eq_zero_iff.mp len.symm)), by omega, by omega, by omega, fun p H4 s4 hp => q _ _ ((s2.trans s3).trans s4) (.tup hp (dpAll_rep (DpAll.same s4 ha) _))⟩
end Ft

set_option Elab.async false
set_option linter.all false
set_option maxRecDepth 100000
set_option maxHeartbeats 4000000
/-! str(i), i a small whole number -/
namespace Ft
open PySem PySem.Spec PyProof.Rows L2
def txtI (i : Int) : Str := toString i
def rStrI : List V → Hp → VK → Prop := fun xs H Q => ∃ i, xs = [.int i] ∧ i.natAbs.log2 < 1920 ∧ Q (.str (txtI i)) H
theorem call_strI {X : Cx} : CallR X (.type "str") rStrI := call_str_int
theorem txtI_ok : ∀ n : Fin 128, PyData.strOk (txtI ((n.1 : Nat) : Int)) = true := by decide +kernel
theorem gv_str1 {K : PySem.W.Frag} {σ : L2.St} {H : Hp} {t : TE} {i : Int} (g : Gv K σ H t (.int i)) (few : i.natAbs ≤ 1000) : Gv K σ H (tCB rStrI (tCons t tNil)) (.str (txtI i)) := fun H1 s Q q => g H1 s _ fun v H2 s2 h => by
  cases dp_int h
  refine ⟨i, rfl, ?_, q _ H2 s2 (.str _)⟩
  have h1 := Nat.log2_le_self i.natAbs
  omega
end Ft

set_option Elab.async false
set_option linter.all false
set_option maxRecDepth 100000
set_option maxHeartbeats 4000000
namespace Ft
open PySem PySem.Spec PyProof.Rows L2
/-! sorted(t), t a tuple of tuples of ints -/
section
variable {P : Program} {w : World} {A : Around} {E : Value → Shared → Prop} {s : Shared}
theorem rows_flat : ∀ {h : Heap} {ns : List Int} {us : List Value} {bs : List Addr}, ReadsAll h us (ns.map PyData.int) bs → bs = []
  | _, [], _, _, z => by cases z; rfl
  | _, n :: ns, _, _, z => by
    cases z with
    | cons z1 z2 =>
      cases z1
      rw [rows_flat z2]
      rfl
theorem collect_tup {l : Addr} {vs : List Value} {Q : List Value → Shared → Prop} (hl : s.heap.IsTuple l vs.toArray) (line : vs.length ≤ sizeLine)
    (go : Q vs { s with heap := (s.heap.push (seqObj "list" #[] 0)).update s.heap.objs.size (Obj.mapSeq (· ++ vs.toArray)) }) : wpAny (model P w) A (collect (.ref l)) Q E s := by
  obtain ⟨o, ho, hc, n, hd⟩ := id hl
  unfold collect
  refine wpAny_bind (wpAny_runValue (codeAny_builtin entry_proto_collect' ?_))
  show wpAny _ _ (do again (.builtin "list.__iadd__" ⟨[← newList [], .ref l], []⟩)) _ _ s
  refine wpAny_bind (wpAny_newList (wpAny_pure ⟨Code.quiet_builtin _ (by decide +kernel), codeAny_builtin entry_list_iadd' ?_⟩))
  show wpAny _ _ (Builtin.List.listExtendWith (.ref s.heap.objs.size) (.ref l) (.ref s.heap.objs.size)) _ _ { s with heap := s.heap.push (seqObj "list" #[] 0) }
  unfold Builtin.List.listExtendWith
  have ho' : (s.heap.push (seqObj "list" #[] 0)).get? l = some o := Heap.get?_push_of_some _ ho
  refine wpAny_bind (wpAny_typeOf (T := "tuple") ⟨o, ho', hc⟩ ?_)
  rw [if_pos (by simp)]
  refine wpAny_bind (listItems_at ho' hd ?_)
  refine wpAny_bind (listItems_at (xs := #[]) (n := 0) (Heap.get?_push_size _ rfl) rfl ?_)
  rw [if_neg (by simp)]
  refine wpAny_bind (listUpdate_at (xs := #[]) (n := 0) (Heap.get?_push_size _ rfl) rfl ?_ (Nat.zero_le _) (by show (#[] ++ vs.toArray).size ≤ sizeLine + 1; simp only [Array.size_append, List.size_toArray, List.length_nil]; omega))
  refine wpAny_pure ?_
  show wpAny (model P w) A (do
      let o ← load s.heap.objs.size
      match o.data with
      | .seq xs _ => pure xs.toList
      | _ => unsupported "internal:collect") Q E { s with heap := (s.heap.push (seqObj "list" #[] 0)).update s.heap.objs.size (Obj.mapSeq (· ++ vs.toArray)) }
  refine wpAny_bind (wpAny_load (get?_update_seq (Heap.get?_push_size _ rfl) _) ?_)
  show wpAny _ _ (pure ((#[] : Array Value) ++ vs.toArray).toList) Q E _
  rw [show ((#[] : Array Value) ++ vs.toArray).toList = vs by simp]
  exact wpAny_pure go
theorem sorted_rowsT {a : Addr} {L : List Row} {Q : Value → Shared → Prop} (hl : s.heap.IsTuple a (L.map fun q => Value.ref q.1).toArray) (line : L.length ≤ sizeLine) (hu : A.units + 64 < cLine) (hne : ∀ p ∈ L, p.2 ≠ [])
    (rd : ∀ p ∈ L, ∃ as, Reads s.heap (.ref p.1) (encR p) as)
    (done : ∀ s' p (c : Nat), (∀ b o, s.heap.get? b = some o → s'.heap.get? b = some o) → s'.gens = s.gens → s'.os = s.os → s.heap.objs.size ≤ p →
      s'.heap.get? p = some (seqObj "list" ((L.mergeSort leR).map fun q => Value.ref q.1).toArray c) → Q (.ref p) s') :
    wpAny (model P w) A (call (.builtin "sorted") [.ref a]) Q E s := by
  refine Calls.call_function_entry kind_sorted plain_sorted entry_sorted (args_sorted1 _) ?_
  unfold Builtin.«sorted»
  refine wpAny_bind (m := checkCount "sorted" 1 1 _) (wpAny_pure ?_)
  refine wpAny_bind (collect_tup hl (by rw [List.length_map]; exact line) ?_)
  obtain ⟨h1, eh⟩ : ∃ h1, (s.heap.push (seqObj "list" #[] 0)).update s.heap.objs.size (Obj.mapSeq (· ++ (L.map fun q => Value.ref q.1).toArray)) = h1 := ⟨_, rfl⟩
  have k1 : ∀ b o, s.heap.get? b = some o → h1.get? b = some o := fun b o hb => by
    rw [← eh]
    exact (Heap.get?_update_other _ _ (Nat.ne_of_gt (Heap.lt_size hb))).trans (Heap.get?_push_of_some _ hb)
  have hz : s.heap.objs.size ≤ h1.objs.size := by
    rw [← eh, Heap.size_update, size_push']
    exact Nat.le_succ _
  rw [eh]
  refine wpAny_bind (wpAny_newList ?_ (by simpa using line))
  have hoL : (h1.push (seqObj "list" (L.map fun q => Value.ref q.1).toArray 0)).get? h1.objs.size = some (seqObj "list" (L.map fun q => Value.ref q.1).toArray 0) := Heap.get?_push_size _ rfl
  have er : ∀ (M : List Row), (∀ q ∈ M, q ∈ L) → PySem.W.EachIs (fun v b => ∃ as, Reads (h1.push (seqObj "list" (L.map fun q => Value.ref q.1).toArray 0)) v (encR b) as ∧ h1.objs.size ∉ as) (M.map fun p => Value.ref p.1) M := by
    intro M
    induction M with
    | nil => intro _; exact .nil
    | cons p M ih =>
      intro hM
      obtain ⟨as, r0⟩ := rd p (hM p List.mem_cons_self)
      have r1 := PyProof.Rows.Reads.keeps (h' := h1.push (seqObj "list" (L.map fun q => Value.ref q.1).toArray 0)) (fun b u e => Heap.get?_push_of_some _ (k1 b u e)) r0
      refine .cons ⟨as, r1, ?_⟩ (ih fun q hq => hM q (List.mem_cons_of_mem _ hq))
      have e0 : as = [] := by
        cases r0 with
        | tuple _ _ _ z => exact rows_flat z
      rw [e0]
      exact List.not_mem_nil
  refine wpAny_bind (wpAny_holding (PySem.W.list_sort_data (R := fun v (p : Row) => v = Value.ref p.1) (bs := L) (enc := encR) hoL (rows_each L) (er L fun _ h => h) (rows_alike L)
    (rows_sortable hne) line (rows_deep (k := 1) (by show A.units + 1 + 1 + 1 < cLine; omega)) fun out hlen he => ?_))
  rw [leR_is] at he
  have eo := rows_back he
  subst eo
  obtain ⟨c, hc2⟩ := sortedHeap_at (vs := L.map fun q => Value.ref q.1) (out := ((L.mergeSort leR).map fun q => Value.ref q.1).toArray) hoL
  refine wpAny_pure ⟨_, rfl, done _ h1.objs.size c (fun b u e => ?_) rfl rfl hz hc2⟩
  have q := k1 b u e
  have hlt := Heap.lt_size q
  show (sortedHeap (h1.push (seqObj "list" (L.map fun q => Value.ref q.1).toArray 0)) h1.objs.size (L.map fun q => Value.ref q.1) _).get? b = some u
  rw [sortedHeap_old (Nat.ne_of_lt hlt) (by rw [size_push']; exact Nat.lt_succ_of_lt hlt)]
  exact Heap.get?_push_of_some _ q
end
def rSortedTR (K : PySem.W.Frag) : List V → Hp → VK → Prop := fun vs H Q => ∃ (a : Addr) (L : List Row), vs = [V.ref a] ∧ SqT K H a (L.map fun p => V.ref p.1) ∧ (∀ p ∈ L, SqT K H p.1 (p.2.map V.int)) ∧ (∀ p ∈ L, p.2 ≠ []) ∧
  ∀ p, H p = none → Q (.ref p) (upd H p (.lst ((L.mergeSort leR).map fun p => V.ref p.1)))
theorem cr_sortedTR {X : Cx} (hu : X.A.units + 64 < cLine) : CallR X (.builtin "sorted") (rSortedTR X.K) := by
  intro pins s σ H xs us Q I r h
  obtain ⟨a, L, rfl, hl, hk, hne, q⟩ := h
  rw [Vals.ref1 r]
  obtain ⟨its, rv, pl, hz⟩ := I.tuple hl
  have ei : its = L.map fun p => Value.ref p.1 := refs_of_vals rv
  subst ei
  have hz2 : L.length ≤ sizeLine := by simpa using hz
  have pt : s.heap.IsTuple a (L.map fun p => Value.ref p.1).toArray := pl
  refine sorted_rowsT pt hz2 hu hne (fun p hp => Dp.reads I (encR p) (.ref p.1) (.ref p.1) (.tup (hk p hp) (dpAll_ints p.2)) rfl) fun s' p c k g o hp hg => ?_
  have line : ((L.mergeSort leR).map fun q => V.ref q.1).length ≤ sizeLine := by rw [List.length_map, List.length_mergeSort]; exact hz2
  have free : H p = none := I.hok.fresh hp
  have J : Inv X pins σ (upd H p (.lst ((L.mergeSort leR).map fun q => V.ref q.1))) s' := I.call' (s' := s') (ch := []) o (Un.laid k hp free) (I.hok.laid k hp ⟨line, _, c, vals_of_refs _, hg⟩) (by rw [g]; exact I.bare) (fun _ z => nomatch z)
  exact ⟨.ref p, _, J, rfl, q p free⟩
/-! sorted(t), t a tuple of ints -/
def rSortedIT (K : PySem.W.Frag) : List V → Hp → VK → Prop := fun vs H Q => ∃ (a : Addr) (ns : List Int), vs = [V.ref a] ∧ SqT K H a (ns.map V.int) ∧
  ∀ (ns' : List Int) (p : Addr), ns'.Perm ns → ns'.Pairwise (· ≤ ·) → H p = none → Q (.ref p) (upd H p (.lst (ns'.map V.int)))
theorem cr_sortedIT {X : Cx} : CallR X (.builtin "sorted") (rSortedIT X.K) := by
  intro pins s σ H vs us Q I r h
  obtain ⟨a, ns, rfl, hs, q⟩ := h
  rw [Vals.ref1 r]
  obtain ⟨its, rv, pl, hz⟩ := I.tuple hs
  have pt : s.heap.IsTuple a its.toArray := pl
  have hi := rv.ints
  have line : its.length ≤ sizeLine := by rw [← rv.length]; exact hz
  refine Calls.call_function_entry kind_sorted plain_sorted entry_sorted (args_sorted1 _) ?_
  unfold Builtin.«sorted»
  refine wpAny_bind (m := checkCount "sorted" 1 1 _) (wpAny_pure ?_)
  refine wpAny_bind (collect_tup pt line ?_)
  obtain ⟨h1, eh⟩ : ∃ h1, (s.heap.push (seqObj "list" #[] 0)).update s.heap.objs.size (Obj.mapSeq (· ++ its.toArray)) = h1 := ⟨_, rfl⟩
  have k1 : ∀ b o, s.heap.get? b = some o → h1.get? b = some o := fun b o hb => by
    rw [← eh]
    exact (Heap.get?_update_other _ _ (Nat.ne_of_gt (Heap.lt_size hb))).trans (Heap.get?_push_of_some _ hb)
  have hz1 : s.heap.objs.size ≤ h1.objs.size := by
    rw [← eh, Heap.size_update, size_push']
    exact Nat.le_succ _
  rw [eh]
  refine wpAny_bind (wpAny_newList ?_ (by simpa using line))
  have hoL : (h1.push (seqObj "list" its.toArray 0)).get? h1.objs.size = some (seqObj "list" its.toArray 0) := Heap.get?_push_size _ rfl
  refine wpAny_bind (wpAny_holding (wpAny_call_entry PyProof.Rows.slot_list_sort ⟨_, hoL, rfl⟩ PyProof.Rows.entry_list_sort
    (SrtO.list_sort_ord SrtO.swo_int hoL line (fun h2 => SrtO.ints_sortable hi h2) fun out h1' h2 => ⟨.none, rfl, ?_⟩) (PyProof.Rows.args_list_sort _)))
  obtain ⟨g1, g2, g3⟩ := SrtO.ints_out hi h1' h2
  obtain ⟨c, hc2⟩ := sortedHeap_at (vs := its) (out := out.toArray) hoL
  have free : H h1.objs.size = none := I.hok.fresh hz1
  have keep : ∀ b u, s.heap.get? b = some u → (sortedHeap (h1.push (seqObj "list" its.toArray 0)) h1.objs.size its out.toArray).get? b = some u := fun b u e => by
    have q := k1 b u e
    have hlt := Heap.lt_size q
    rw [sortedHeap_old (Nat.ne_of_lt hlt) (by rw [size_push']; exact Nat.lt_succ_of_lt hlt)]
    exact Heap.get?_push_of_some _ q
  have line2 : ((out.map SrtO.iv).map V.int).length ≤ sizeLine := by
    rw [List.length_map, g2.length_eq]
    rw [List.length_map] at hz
    exact hz
  have J : Inv X pins σ (upd H h1.objs.size (.lst ((out.map SrtO.iv).map V.int))) { s with heap := sortedHeap (h1.push (seqObj "list" its.toArray 0)) h1.objs.size its out.toArray } :=
    I.call' (s' := { s with heap := sortedHeap (h1.push (seqObj "list" its.toArray 0)) h1.objs.size its out.toArray }) (ch := []) rfl (Un.laid keep hz1 free) (I.hok.laid keep hz1 ⟨line2, _, c, vals_of_ints g1, hc2⟩) I.bare (fun _ z => nomatch z)
  exact wpAny_pure ⟨_, rfl, ⟨.ref h1.objs.size, _, J, rfl, q _ _ g2 g3 free⟩⟩
end Ft

set_option Elab.async false
set_option linter.all false
set_option maxRecDepth 100000
set_option maxHeartbeats 4000000
/-! a list display whose list is new -/
namespace Ft
open PySem PySem.Spec PyProof.Rows L2
theorem lst_gvN {K : PySem.W.Frag} {σ : L2.St} {H : Hp} {tr : TA} {ds : List PyData} {Q : VK} (g : GvA K σ H tr ds) (few : ds.length ≤ 1000) (q : ∀ p xs H', H p = none → Same H H' → H' p = some (.lst xs) → DpAll K H' xs ds → Q (.ref p) H') : tLst tr σ H Q := g H (Same.rfl' H) _ fun vs H2 s2 hs => by
  have len := dpAll_length hs
  refine ⟨by rw [sizeLine_eq]; omega, fun p hp => q p vs _ ?_ (s2.trans (same_upd hp)) upd_same (DpAll.same (same_upd hp) hs)⟩
  cases e : H p with
  | none => rfl
  | some o => rw [s2 _ _ e] at hp; cases hp
end Ft

set_option Elab.async false
set_option linter.all false
set_option maxRecDepth 100000
set_option maxHeartbeats 8000000
namespace Ft
open PySem PySem.Spec PyProof.Rows L2
theorem no_map {d : PyData} (h : ∀ C : Chart, C.Ok → d ≠ chartD C) : (mapErr d).isSome = true := by
  cases e : mapErr d with
  | some x => rfl
  | none =>
    obtain ⟨C, ok, e2⟩ := mapErr_none e
    exact absurd e2 (h C ok)
theorem no_lot {n : Nat} {d : PyData} (h : ∀ ws : List Nat, ws.Pairwise (· < ·) → (∀ x ∈ ws, x < n) → d ≠ lotD ws) : lotOk n d = false := by
  cases e : lotOk n d with
  | false => rfl
  | true =>
    obtain ⟨ws, e2, up, lt⟩ := lotOk_is e
    exact absurd e2 (h ws up lt)
/-- a list that is good, and a bad item behind it -/
theorem badPlace_bad {n : Nat} {d : PyData} (hd : ∀ b : Int, -1 ≤ b → numIn (b + 1) ((n : Int) - 1) d = false) : ∀ {ws : List Nat} {b : Int} {i : Nat}, -1 ≤ b → ws.Pairwise (· < ·) → (∀ x ∈ ws, x < n) → (∀ x ∈ ws, b < (x : Int)) → badPlace n b i (ws.map nD ++ [d]) = some (i + ws.length)
  | [], b, i, hb, _, _, _ => by
    simp only [List.map_nil, List.nil_append, badPlace]
    rw [if_neg (by rw [hd b hb]; simp)]
    rfl
  | w :: ws, b, i, hb, up, lt, ab => by
    have h1 := lt w List.mem_cons_self
    have h2 := ab w List.mem_cons_self
    obtain ⟨u1, u2⟩ := List.pairwise_cons.mp up
    simp only [List.map_cons, List.cons_append, badPlace]
    rw [if_pos (numIn_nat.mpr ⟨by omega, by omega⟩)]
    have := badPlace_bad hd (ws := ws) (b := numOf (nD w)) (i := i + 1) (by show (-1 : Int) ≤ (w : Int); omega) u2 (fun x hx => lt x (List.mem_cons_of_mem _ hx)) (fun x hx => by show (w : Int) < (x : Int); have := u1 x hx; omega)
    rw [this, List.length_cons]
    congr 1
    omega
theorem badRoad_bad {n : Nat} {d : PyData} (hd : pairOf n d = none) : ∀ {ps : List (Nat × Nat)} {p : Option (Nat × Nat)} {i : Nat}, ps.Pairwise ltP → (∀ q ∈ ps, q.1 < n ∧ q.2 < n) → (∀ q ∈ ps, above p q = true) → badRoad n p i (ps.map pairD ++ [d]) = some (i + ps.length)
  | [], p, i, _, _, _ => by
    simp only [List.map_nil, List.nil_append, badRoad, hd]
    rfl
  | q :: ps, p, i, up, lt, ab => by
    obtain ⟨u1, u2⟩ := List.pairwise_cons.mp up
    simp only [List.map_cons, List.cons_append, badRoad, pairOf_pair (lt q List.mem_cons_self)]
    rw [if_pos (ab q List.mem_cons_self)]
    have := badRoad_bad hd (ps := ps) (p := some q) (i := i + 1) u2 (fun x hx => lt x (List.mem_cons_of_mem _ hx)) (fun x hx => decide_eq_true (u1 x hx))
    rw [this, List.length_cons]
    congr 1
    omega
theorem pair_beyond {n : Nat} : pairOf n (.tuple [.int 0, nD n]) = none := by
  cases e : pairOf n (.tuple [.int 0, nD n]) with
  | none => rfl
  | some p =>
    obtain ⟨h1, _, h3⟩ := pairOf_is e
    unfold pairD at h1
    simp only [nD, PyData.tuple.injEq, List.cons.injEq, PyData.int.injEq] at h1
    have := h1.2.1
    omega
theorem txt_m1 : txtI (-1) = ("-1" : Str) := by decide +kernel
theorem txt_m2 : txtI (-2) = ("-2" : Str) := by decide +kernel
theorem txt_m3 : txtI (-3) = ("-3" : Str) := by decide +kernel
inductive MW : Str → Prop
  | map : MW "BadMap"
  | wish : MW "BadWish"
/-- a row: a thing that is no map, the error's name and its what as text -/
def NoMapE (d : PyData) : Prop := ∃ (dc : PyData) (x : Str) (i : Int), d = .tuple [dc, .str x, .str (txtI i)] ∧ mapErr dc = some (x, i) ∧ MW x ∧ -3 ≤ i ∧ i ≤ 240
section
variable {P : Program} {w : World} {K : PySem.W.Frag} {mg : Str → Option Value} {base : Heap} {ca : Str → Addr}
/-! ### _law_way_no_lots -/
def sp_law_way_no_lots (K : PySem.W.Frag) : Sp := fun vs H Q _ => ∃ (c : Addr) (C : Chart), vs = [.ref c] ∧ IsChart K H c C ∧ C.Ok ∧ ∀ (t : Addr) (xs : List V) (ds : List PyData) (H' : Hp), H' t = some (.lst xs) → DpAll K H' xs ds → ds.length = 11 → (∀ d ∈ ds, lotOk C.n d = false) → Same H H' → Q (.ref t) H'
theorem cal_law_way_no_lots (T : Txt mg) (D : Def K mg "_law_way_no_lots" s_law_way_no_lots) : Cal P w K mg base 1 "_law_way_no_lots" (sp_law_way_no_lots K) := by
  refine cal_of D sc_law_way_no_lots (fun _ _ _ _ _ _ us hl => match us, hl with | [_], _ => rfl) (fun vs H Q E h => ?_) (fun f cdv A outer s H vs Q E hr h => ?_)
  · obtain ⟨c, C, rfl, _⟩ := h
    rfl
  · obtain ⟨c, C, rfl, hCC, ok, q⟩ := h
    refine ⟨_, (pss_one (ps_ret (pe_lst (pa_cons pe_non (pa_cons pe_str (pa_cons pe_int (pa_cons (pe_tup (pa_cons (pe_ix (show IxR _ (rIxT K) from ix_tup) (pv 0) pe_int (fun _ _ => rfl)) pa_nil)) (pa_cons (pe_tup (pa_cons (pe_un un_neg pe_int) pa_nil)) (pa_cons (pe_tup (pa_cons pe_bl pa_nil)) (pa_cons (pe_tup (pa_cons pe_int (pa_cons pe_int pa_nil))) (pa_cons (pe_tup (pa_cons pe_int (pa_cons pe_int pa_nil))) (pa_cons (pe_tup (pa_cons pe_str pa_nil)) (pa_cons (pe_tup (pa_cons (pe_tup (pa_cons pe_int pa_nil)) pa_nil)) (pa_cons (pe_tup (pa_cons pe_non pa_nil)) pa_nil)))))))))))))), ?_⟩
    have hc : Dp K H (.ref c) (.tuple [nD C.n, .tuple (C.roads.map pairD), lotD C.wished]) := dp_chart hCC
    refine lst_gv (K := K) (gva_cons gv_non (gva_cons gv_str (gva_cons gv_int (gva_cons (gv_tup (gva_cons (gv_ixT (j := 0) (gv_var rfl hc) gv_int rfl) gva_nil) (by simp)) (gva_cons (gv_tup (gva_cons (gv_neg gv_int) gva_nil) (by simp)) (gva_cons (gv_tup (gva_cons gv_bl gva_nil) (by simp)) (gva_cons (gv_tup (gva_cons gv_int (gva_cons gv_int gva_nil)) (by simp)) (gva_cons (gv_tup (gva_cons gv_int (gva_cons gv_int gva_nil)) (by simp)) (gva_cons (gv_tup (gva_cons gv_str gva_nil) (by simp)) (gva_cons (gv_tup (gva_cons (gv_tup (gva_cons gv_int gva_nil) (by simp)) gva_nil) (by simp)) (gva_cons (gv_tup (gva_cons gv_non gva_nil) (by simp)) gva_nil))))))))))) (by simp) fun t xs H1 s1 hT hd => ?_
    refine q t xs _ H1 hT hd rfl (fun d hd' => no_lot fun ws up lt e => ?_) s1
    simp only [List.mem_cons, List.not_mem_nil, or_false] at hd'
    subst e
    unfold lotD at hd'
    rcases hd' with h | h | h | h | h | h | h | h | h | h | h
    · cases h
    · cases h
    · cases h
    all_goals (injection h with h; cases ws with | nil => cases h | cons a ws => ?_)
    · simp only [List.map_cons, List.cons.injEq, nD, PyData.int.injEq, List.map_eq_nil_iff] at h
      have := lt a List.mem_cons_self
      have := h.1
      omega
    · simp only [List.map_cons, List.cons.injEq, nD, PyData.int.injEq, List.map_eq_nil_iff] at h
      have := h.1
      omega
    · simp [nD] at h
    · cases ws with
      | nil => simp [nD] at h
      | cons b ws =>
        simp only [List.map_cons, List.cons.injEq, nD, PyData.int.injEq, List.map_eq_nil_iff] at h
        have := (List.pairwise_cons.mp up).1 b List.mem_cons_self
        have := h.1
        have := h.2.1
        omega
    · cases ws with
      | nil => simp [nD] at h
      | cons b ws =>
        simp only [List.map_cons, List.cons.injEq, nD, PyData.int.injEq, List.map_eq_nil_iff] at h
        have := (List.pairwise_cons.mp up).1 b List.mem_cons_self
        have := h.1
        have := h.2.1
        omega
    · simp [nD] at h
    · simp [nD] at h
    · simp [nD] at h
/-! ### _law_way_no_charts -/
def sp_law_way_no_charts (K : PySem.W.Frag) : Sp := fun vs H Q _ => ∃ (c : Addr) (C : Chart), vs = [.ref c] ∧ IsChart K H c C ∧ C.Ok ∧ C.roads.length < 240 ∧ ∀ (t : Addr) (xs : List V) (ds : List PyData) (H' : Hp), H' t = some (.lst xs) → DpAll K H' xs ds → ds.length = 10 → (∀ d ∈ ds, NoMapE d) → Same H H' → Q (.ref t) H'
theorem cal_law_way_no_charts (T : Txt mg) (D : Def K mg "_law_way_no_charts" s_law_way_no_charts) : Cal P w K mg base 1 "_law_way_no_charts" (sp_law_way_no_charts K) := by
  refine cal_of D sc_law_way_no_charts (fun _ _ _ _ _ _ us hl => match us, hl with | [_], _ => rfl) (fun vs H Q E h => ?_) (fun f cdv A outer s H vs Q E hr h => ?_)
  · obtain ⟨c, C, rfl, _⟩ := h
    rfl
  · obtain ⟨c, C, rfl, ⟨r, wd, ts, hC⟩, ok, r240, q⟩ := h
    have n60 := ok.n60
    refine ⟨_, (pss_cons (ps_asg (pv 0) (show PG _ _ (gTup K 3 _) from pg_tup (by rfl) (pgs_cons (pg_name (i := 1) sc_law_way_no_charts.nd rfl (Or.inl rfl)) (pgs_cons (pg_name (i := 2) sc_law_way_no_charts.nd rfl (Or.inl rfl)) (pgs_cons (pg_name (i := 3) sc_law_way_no_charts.nd rfl (Or.inl rfl)) pgs_nil)))))
      (pss_cons (ps_set (i := 4) sc_law_way_no_charts.nd rfl (Or.inl rfl) (pe_op (show OpR _ _ (rCatA K) from op_catA) (pv 2) (pe_tup (pa_cons (pe_tup (pa_cons pe_int (pa_cons (pv 1) pa_nil))) pa_nil))))
      (pss_cons (ps_set (i := 5) sc_law_way_no_charts.nd rfl (Or.inl rfl) (pe_lst (pa_cons (pe_tup (pa_cons pe_non (pa_cons pe_str (pa_cons pe_str pa_nil)))) (pa_cons (pe_tup (pa_cons (pe_tup (pa_cons (pv 1) (pa_cons (pv 2) pa_nil))) (pa_cons pe_str (pa_cons pe_str pa_nil)))) (pa_cons (pe_tup (pa_cons (pe_tup (pa_cons pe_int (pa_cons (pe_tup pa_nil) (pa_cons (pe_tup pa_nil) pa_nil)))) (pa_cons pe_str (pa_cons pe_str pa_nil)))) pa_nil)))))
      (pss_cons (ps_set (i := 5) sc_law_way_no_charts.nd rfl (Or.inl rfl) (pe_op op_cat (pv 5) (pe_lst (pa_cons (pe_tup (pa_cons (pe_tup (pa_cons (pe_un un_neg pe_int) (pa_cons (pe_tup pa_nil) (pa_cons (pe_tup pa_nil) pa_nil)))) (pa_cons pe_str (pa_cons pe_str pa_nil)))) (pa_cons (pe_tup (pa_cons (pe_tup (pa_cons pe_bl (pa_cons (pe_tup pa_nil) (pa_cons (pe_tup pa_nil) pa_nil)))) (pa_cons pe_str (pa_cons pe_str pa_nil)))) pa_nil)))))
      (pss_cons (ps_expr (pe_bm PySem.F.plainAttrs_list PySem.F.slot_list_append PySem.F.type_list_append mt_append (pv 5) (pa_cons (pe_tup (pa_cons (pe_tup (pa_cons pe_int (pa_cons pe_non (pa_cons pe_non pa_nil)))) (pa_cons pe_str (pa_cons pe_str pa_nil)))) pa_nil)))
      (pss_cons (ps_set (i := 5) sc_law_way_no_charts.nd rfl (Or.inl rfl) (pe_op op_cat (pv 5) (pe_lst (pa_cons (pe_tup (pa_cons (pe_tup (pa_cons (pv 1) (pa_cons pe_non (pa_cons (pv 3) pa_nil)))) (pa_cons pe_str (pa_cons pe_str pa_nil)))) (pa_cons (pe_tup (pa_cons (pe_tup (pa_cons (pv 1) (pa_cons (pv 4) (pa_cons pe_non pa_nil)))) (pa_cons pe_str (pa_cons (pe_callTy (show CallR _ _ rStrI from call_strI) (by rfl) T.str (by decide +kernel) (pa_cons (pe_callB (show CallR _ _ (rLenS K) from call_lenS) (by rfl) T.len (by decide +kernel) (pa_cons (pv 2) pa_nil)) pa_nil)) pa_nil)))) pa_nil)))))
      (pss_cons (ps_set (i := 5) sc_law_way_no_charts.nd rfl (Or.inl rfl) (pe_op op_cat (pv 5) (pe_lst (pa_cons (pe_tup (pa_cons (pe_tup (pa_cons (pv 1) (pa_cons (pv 2) (pa_cons pe_non pa_nil)))) (pa_cons pe_str (pa_cons pe_str pa_nil)))) pa_nil))))
      (pss_one (ps_ret (pe_op op_cat (pv 5) (pe_lst (pa_cons (pe_tup (pa_cons (pe_tup (pa_cons (pv 1) (pa_cons (pv 2) (pa_cons (pe_op (show OpR _ _ (rCatA K) from op_catA) (pv 3) (pe_tup (pa_cons (pe_un un_neg pe_int) pa_nil))) pa_nil)))) (pa_cons pe_str (pa_cons (pe_callTy (show CallR _ _ rStrI from call_strI) (by rfl) T.str (by decide +kernel) (pa_cons (pe_callB (show CallR _ _ (rLenS K) from call_lenS) (by rfl) T.len (by decide +kernel) (pa_cons (pv 3) pa_nil)) pa_nil)) pa_nil)))) pa_nil)))))))))))), ?_⟩
    refine ⟨_, rfl, c, _, rfl, hC.top, rfl, _, _, rfl, _, _, rfl, _, _, rfl, rfl, ?_⟩
    have hN : Dp K H (vN C.n) (nD C.n) := dp_nat _
    have hR : Dp K H (.ref r) (.tuple (C.roads.map pairD)) := .tup hC.row (dp_pairs hC.prs)
    have hW : Dp K H (.ref wd) (lotD C.wished) := dp_lot hC.wis
    have many := ok.many
    refine seq_gv (K := K) (gv_cat (gv_var rfl hR) (gv_tup (gva_cons (gv_tup (gva_cons gv_int (gva_cons (gv_var rfl hN) gva_nil)) (by simp)) gva_nil) (by simp)) (by simp; omega)) fun vb H1 s1 hb => ?_
    have hN1 := Dp.same s1 hN
    have hR1 := Dp.same s1 hR
    refine at_seq ?_
    unfold tAsg
    refine lst_gvN (K := K) (gva_cons (gv_tup (gva_cons gv_non (gva_cons gv_str (gva_cons gv_str gva_nil))) (by simp)) (gva_cons (gv_tup (gva_cons (gv_tup (gva_cons (gv_var rfl hN1) (gva_cons (gv_var rfl hR1) gva_nil)) (by simp)) (gva_cons gv_str (gva_cons gv_str gva_nil))) (by simp)) (gva_cons (gv_tup (gva_cons (gv_tup (gva_cons gv_int (gva_cons (gv_tup gva_nil (by simp)) (gva_cons (gv_tup gva_nil (by simp)) gva_nil))) (by simp)) (gva_cons gv_str (gva_cons gv_str gva_nil))) (by simp)) gva_nil))) (by simp) fun t1 xs1 H2 ht1 s2 hT1 hd1 => ?_
    generalize ees1 : (_ :: _ : List PyData) = es1 at hd1
    refine ⟨_, rfl, lst_gvN (K := K) (gva_cons (gv_tup (gva_cons (gv_tup (gva_cons (gv_neg gv_int) (gva_cons (gv_tup gva_nil (by simp)) (gva_cons (gv_tup gva_nil (by simp)) gva_nil))) (by simp)) (gva_cons gv_str (gva_cons gv_str gva_nil))) (by simp)) (gva_cons (gv_tup (gva_cons (gv_tup (gva_cons gv_bl (gva_cons (gv_tup gva_nil (by simp)) (gva_cons (gv_tup gva_nil (by simp)) gva_nil))) (by simp)) (gva_cons gv_str (gva_cons gv_str gva_nil))) (by simp)) gva_nil)) (by simp) fun t2 xs2 H4 ht2 s4 hT2 hd2 => ?_⟩
    generalize ees2 : (_ :: _ : List PyData) = es2 at hd2
    have len1 : es1.length = 3 := by rw [← ees1]; rfl
    have len2 : es2.length = 2 := by rw [← ees2]; rfl
    have lx1 := dpAll_length hd1
    have lx2 := dpAll_length hd2
    have hdA : DpAll K H4 (xs1 ++ xs2) (es1 ++ es2) := dpAll_app (DpAll.same s4 hd1) hd2
    refine ⟨t1, t2, xs1, xs2, rfl, rfl, s4 _ _ hT1, hT2, by rw [sizeLine_eq]; omega, fun t3 ht3 => ?_⟩
    have s5 : Same H4 (upd H4 t3 (.lst (xs1 ++ xs2))) := same_upd ht3
    have hT5 : (upd H4 t3 (.lst (xs1 ++ xs2))) t3 = some (.lst (xs1 ++ xs2)) := upd_same
    generalize upd H4 t3 (.lst (xs1 ++ xs2)) = H5 at s5 hT5
    refine ⟨_, rfl, .inl ⟨rfl, _, .inl (.inl hT5)⟩, ?_⟩
    refine Gv.go (K := K) (d := .tuple [.tuple [.int 61, .none, .none], .str "BadMap", .str "-2"]) (gv_tup (gva_cons (gv_tup (gva_cons gv_int (gva_cons gv_non (gva_cons gv_non gva_nil))) (by simp)) (gva_cons gv_str (gva_cons gv_str gva_nil))) (by simp)) fun v6 H6 s6 hv6 => ?_
    have hT6 := s6 _ _ hT5
    refine ⟨t3, _, _, rfl, rfl, hT6, by rw [List.length_append]; exact small1000 (by omega), ?_⟩
    have s7 : Same H4 (upd H6 t3 (.lst ((xs1 ++ xs2) ++ [v6]))) := fun b o e => by
      rw [upd_ne (ne_of_none e ht3)]
      exact s6 _ _ (s5 _ _ e)
    have hv7 : Dp K (upd H6 t3 (.lst ((xs1 ++ xs2) ++ [v6]))) v6 (.tuple [.tuple [.int 61, .none, .none], .str "BadMap", .str "-2"]) := by
      refine dp_kp (ex := [t3]) (H := H6) (fun b o nb eb => ?_) (fun b hb => ?_) _ _ rfl hv6
      · rw [upd_ne (fun z => nb (by rw [z]; simp))]
        exact eb
      · rw [List.mem_singleton.mp hb]
        exact ⟨_, hT6, (fun _ y => nomatch y), (fun _ _ y => nomatch y)⟩
    have hT7 : (upd H6 t3 (.lst ((xs1 ++ xs2) ++ [v6]))) t3 = some (.lst ((xs1 ++ xs2) ++ [v6])) := upd_same
    generalize upd H6 t3 (.lst ((xs1 ++ xs2) ++ [v6])) = H7 at s7 hv7 hT7
    have hd7 := dpAll_app (DpAll.same s7 hdA) (.cons hv7 .nil)
    have s07 := ((s1.trans s2).trans s4).trans s7
    have hN7 := Dp.same s07 hN
    have hR7 := Dp.same s07 hR
    have hW7 := Dp.same s07 hW
    have hb7 := Dp.same ((s2.trans s4).trans s7) hb
    have hdT7 : ∃ xsA esA, H7 t3 = some (.lst xsA) ∧ DpAll K H7 xsA esA ∧ esA = (es1 ++ es2) ++ [.tuple [.tuple [.int 61, .none, .none], .str "BadMap", .str "-2"]] := ⟨_, _, hT7, hd7, rfl⟩
    obtain ⟨xsA, esA, hTA, hdA', eA⟩ := hdT7
    have lenA : esA.length = 6 := by rw [eA, List.length_append, List.length_append, len1, len2]; rfl
    have lxA := dpAll_length hdA'
    refine ⟨_, rfl, lst_gvN (K := K) (gva_cons (gv_tup (gva_cons (gv_tup (gva_cons (gv_var rfl hN7) (gva_cons gv_non (gva_cons (gv_var rfl hW7) gva_nil))) (by simp)) (gva_cons gv_str (gva_cons gv_str gva_nil))) (by simp)) (gva_cons (gv_tup (gva_cons (gv_tup (gva_cons (gv_var rfl hN7) (gva_cons (gv_var rfl hb7) (gva_cons gv_non gva_nil))) (by simp)) (gva_cons gv_str (gva_cons (gv_str1 (gv_len (gv_var rfl hR7)) (by simp; omega)) gva_nil))) (by simp)) gva_nil)) (by simp) fun t4 xs3 H8 ht4 s8 hT8 hd8 => ?_⟩
    generalize ees3 : (_ :: _ : List PyData) = es3 at hd8
    have len3 : es3.length = 2 := by rw [← ees3]; rfl
    have lx3 := dpAll_length hd8
    refine ⟨t3, t4, _, xs3, rfl, rfl, s8 _ _ hTA, hT8, by rw [sizeLine_eq]; omega, fun t5 ht5 => ?_⟩
    have s9 : Same H8 (upd H8 t5 (.lst (xsA ++ xs3))) := same_upd ht5
    have hT9 : (upd H8 t5 (.lst (xsA ++ xs3))) t5 = some (.lst (xsA ++ xs3)) := upd_same
    generalize upd H8 t5 (.lst (xsA ++ xs3)) = H9 at s9 hT9
    have hd9 := dpAll_app (DpAll.same (s8.trans s9) hdA') (DpAll.same s9 hd8)
    have hN9 := Dp.same (s8.trans s9) hN7
    have hR9 := Dp.same (s8.trans s9) hR7
    have hW9 := Dp.same (s8.trans s9) hW7
    refine ⟨_, rfl, lst_gvN (K := K) (gva_cons (gv_tup (gva_cons (gv_tup (gva_cons (gv_var rfl hN9) (gva_cons (gv_var rfl hR9) (gva_cons gv_non gva_nil))) (by simp)) (gva_cons gv_str (gva_cons gv_str gva_nil))) (by simp)) gva_nil) (by simp) fun t6 xs4 H10 ht6 s10 hT10 hd10 => ?_⟩
    generalize ees4 : (_ :: _ : List PyData) = es4 at hd10
    have len4 : es4.length = 1 := by rw [← ees4]; rfl
    have lx4 := dpAll_length hd10
    refine ⟨t5, t6, _, xs4, rfl, rfl, s10 _ _ hT9, hT10, by rw [List.length_append, sizeLine_eq]; omega, fun t7 ht7 => ?_⟩
    have s11 : Same H10 (upd H10 t7 (.lst ((xsA ++ xs3) ++ xs4))) := same_upd ht7
    have hT11 : (upd H10 t7 (.lst ((xsA ++ xs3) ++ xs4))) t7 = some (.lst ((xsA ++ xs3) ++ xs4)) := upd_same
    generalize upd H10 t7 (.lst ((xsA ++ xs3) ++ xs4)) = H11 at s11 hT11
    have hd11 := dpAll_app (DpAll.same (s10.trans s11) hd9) (DpAll.same s11 hd10)
    have hN11 := Dp.same (s10.trans s11) hN9
    have hR11 := Dp.same (s10.trans s11) hR9
    have hW11 : Dp K H11 (.ref wd) (.tuple (C.wished.map nD)) := Dp.same (s10.trans s11) hW9
    have lw := up_len ok.upW ok.inW
    refine ⟨_, rfl, lst_gvN (K := K) (gva_cons (gv_tup (gva_cons (gv_tup (gva_cons (gv_var rfl hN11) (gva_cons (gv_var rfl hR11) (gva_cons (gv_cat (gv_var rfl hW11) (gv_tup (gva_cons (gv_neg gv_int) gva_nil) (by simp)) (by simp; omega)) gva_nil))) (by simp)) (gva_cons gv_str (gva_cons (gv_str1 (gv_len (gv_var rfl hW11)) (by simp; omega)) gva_nil))) (by simp)) gva_nil) (by simp) fun t8 xs5 H12 ht8 s12 hT12 hd12 => ?_⟩
    generalize ees5 : (_ :: _ : List PyData) = es5 at hd12
    have len5 : es5.length = 1 := by rw [← ees5]; rfl
    have lx5 := dpAll_length hd12
    refine ⟨t7, t8, _, xs5, rfl, rfl, s12 _ _ hT11, hT12, by rw [List.length_append, List.length_append, sizeLine_eq]; omega, fun t9 ht9 => ?_⟩
    have s13 : Same H12 (upd H12 t9 (.lst (((xsA ++ xs3) ++ xs4) ++ xs5))) := same_upd ht9
    refine q t9 _ _ _ upd_same (dpAll_app (DpAll.same (s12.trans s13) hd11) (DpAll.same s13 hd12)) (by simp only [List.length_append, lenA, len3, len4, len5]) (fun d hd' => ?_) (s07.trans ((s8.trans s9).trans ((s10.trans s11).trans (s12.trans s13))))
    rw [eA, ← ees1, ← ees2, ← ees3, ← ees4, ← ees5] at hd'
    simp only [List.mem_append, List.mem_cons, List.not_mem_nil, or_false] at hd'
    rcases hd' with ((((((h | h | h) | h | h) | h) | h | h) | h) | h)
    all_goals subst h
    · exact ⟨_, _, -1, by rw [txt_m1], rfl, .map, by decide, by decide⟩
    · exact ⟨_, _, -1, by rw [txt_m1], rfl, .map, by decide, by decide⟩
    · exact ⟨_, _, -2, by rw [txt_m2], rfl, .map, by decide, by decide⟩
    · exact ⟨_, _, -2, by rw [txt_m2], rfl, .map, by decide, by decide⟩
    · exact ⟨_, _, -2, by rw [txt_m2], rfl, .map, by decide, by decide⟩
    · exact ⟨_, _, -2, by rw [txt_m2], rfl, .map, by decide, by decide⟩
    · exact ⟨_, _, -3, by rw [txt_m3], (err_chart ok _ _).trans (mapErrN_map rfl), .map, by decide, by decide⟩
    · refine ⟨_, _, _, rfl, (err_chart ok _ _).trans (mapErrN_map ?_), .map, by rw [List.length_map]; omega, by rw [List.length_map]; omega⟩
      show (if (C.roads.map pairD ++ [PyData.tuple [.int 0, nD C.n]]).length ≤ 240 then optI (badRoad C.n none 0 (C.roads.map pairD ++ [PyData.tuple [.int 0, nD C.n]])) else some (-3)) = _
      rw [if_pos (by rw [List.length_append, List.length_map]; simp; omega), badRoad_bad pair_beyond ok.upR ok.inR (fun _ _ => rfl), Nat.zero_add, List.length_map]
      rfl
    · exact ⟨_, _, -1, by rw [txt_m1], (err_chart ok _ _).trans (mapErrN_wish (roads_none ok) rfl), .wish, by decide, by decide⟩
    · refine ⟨_, _, _, rfl, (err_chart ok _ _).trans (mapErrN_wish (roads_none ok) ?_), .wish, by rw [List.length_map]; omega, by rw [List.length_map]; omega⟩
      show optI (badPlace C.n (-1) 0 (C.wished.map nD ++ [.int (-1)])) = _
      rw [badPlace_bad (fun b hb => by
        cases e : numIn (b + 1) ((C.n : Int) - 1) (.int (-1)) with
        | false => rfl
        | true =>
          have := numIn_int.mp e
          omega) (by decide) ok.upW ok.inW (fun _ _ => by omega), Nat.zero_add, List.length_map]
      rfl
end
end Ft

set_option Elab.async false
set_option linter.all false
set_option maxRecDepth 100000
set_option maxHeartbeats 4000000
/-! A def that calls the lambda it gets and shows data by repr: called where nothing is guarded. -/
namespace Ft
open PySem PySem.Spec PyProof.Rows L2
open LamX (TabB TabS Tabs ExtN CodeO LamS lamSB lamS_by lamEnv tLam)
structure CalLG (P : Program) (w : World) (K : PySem.W.Frag) (mg : Str → Option Value) (base : Heap) (x : Str) (TT : (XK → Hp → VK → Prop) → Hp → VK → Prop) : Prop where
  ex : ∃ (g : Addr) (oc : Value) (od : Option Addr) (kV doc pm : Value) (an : Option Addr) (cdv ct : Value) (osl : Array (Option Value)) (st : Stmt) (Ng : List Str) (a : Str),
    K.lookup g = some ⟨oc, od, .func (PySem.W.fnOf x x (L2.defArgs st) (L2.defBody st) (L2.defScope st) .none kV doc pm an cdv ct), osl⟩ ∧ PySem.W.codeIn K cdv x = true ∧ PySem.W.keepIn K (.ref g) = true ∧ mg x = some (.ref g) ∧
    Binds K (PySem.W.fnOf x x (L2.defArgs st) (L2.defBody st) (L2.defScope st) .none kV doc pm an cdv ct) [a] [] ∧ FnScope Ng [a] (L2.defScope st) ∧ Ng[0]? = some a ∧ Vis (L2.defScope st) a ∧ (a == ("__debug__" : Str)) = false ∧ (a == ("__classdict__" : Str)) = false ∧
    ∀ (X : Cx) (q : Str), X.prog = P → X.w = w → X.K = K → X.mg = mg → X.base = base → X.A.guards = some [] → Room 1 X.A → GivesToN X Ng x (L2.defScope st) g cdv (L2.defBody st) a q TT
theorem pe_lG {X : Cx} {T : List (Addr × Str)} {TT : (XK → Hp → VK → Prop) → Hp → VK → Prop} {x : Str} {c P : Addr} (k : Nat) {j : Nat} {params : Arguments} {body : Expr} {scope : Scope} {t : XK → TE} {p lpos pos : Pos} (cl : CalLG X.prog X.w X.K X.mg X.base x TT) (hg : Gl X x)
    (TB : TabB X.base X.mg c P) (hcode : X.env.code = .ref c) (hmT : T = [(P, X.env.qual ++ "<lambda>")]) (hr : Room j X.A) (hk : k + 2 ≤ j) (L : LamS X.env.scope scope) (hdef : defaultsOf params X.env = ([], []))
    (hbind : ∀ (q : Str) (cl : List (Str × Addr)) (pm cv ctv : Value), bindArgs (PySem.W.kla_fn "<lambda>" q params body scope cl pm cv ctv) ⟨[], []⟩ = pure [])
    (hbody : ∀ (A : Around) (outer : List Env) (s : Shared) (H : Hp) (E : XK) (f c' : Addr), Room k (A.deeper (lamEnv X scope s.heap.objs.size f c')) → PE (lamCxN X A outer s H E scope f c') body (t E))
    (hG : X.A.guards = some []) (hdb : (x == ("__debug__" : Str)) = false := by decide) :
    PE X (.Call (.Name x p) [.Lambda params body scope lpos] [] pos) (tLam T TT t) := by
  obtain ⟨g, oc, od, kV, doc, pm, an, cdv, ct, osl, st, Ng, a, lk, hcd, kp, hm, b, S, h0, hv, hd, hcl, gv⟩ := cl.ex
  subst hmT
  exact pe_lamcallN (k := k) hg hm kp lk hcd b S h0 hv (gv X _ rfl rfl rfl rfl rfl hG (hr.mono (by omega))) TB hcode (by simp) (fun p hp _ => by rw [List.mem_singleton.mp hp]) (hr.mono hk) L hdef hbind hbody hdb hd hcl
theorem calLG_of {P : Program} {w : World} {K : PySem.W.Frag} {mg : Str → Option Value} {base : Heap} {x a : Str} {st : Stmt} {N : List Str} {TT : (XK → Hp → VK → Prop) → Hp → VK → Prop} (D : Def K mg x st) (S : FnScope N [a] (L2.defScope st)) (h0 : N[0]? = some a) (hv : Vis (L2.defScope st) a)
    (bd : ∀ (kV doc pm : Value) (an : Option Addr) (cdv ct : Value) (us : List Value), us.length = ([a] : List Str).length → bindArgs (PySem.W.fnOf x x (L2.defArgs st) (L2.defBody st) (L2.defScope st) .none kV doc pm an cdv ct) ⟨us, []⟩ = pure (([a] : List Str).zip us))
    (body : ∀ (X : Cx) (q : Str), X.prog = P → X.w = w → X.K = K → X.mg = mg → X.base = base → X.A.guards = some [] → Room 1 X.A → ∀ (g : Addr) (cdv : Value) (f c' : Addr) (s : Shared) (H : Hp) (Q : VK) (tl : XK → Hp → VK → Prop),
      (∀ (W : WX) (pn : List (Addr × Obj)) (xe : Value → Shared → Prop) (E : XK) (p1 p2 : Pos), L2N.Takes ((cxOf L2.CX0 P w K mg base N x (L2.defScope st) g cdv X.A X.stack s H L2.E0).tr pn xe) W → (∀ cls d σ' H', E cls d H' → W cls d σ' H') →
        PE ((cxOf L2.CX0 P w K mg base N x (L2.defScope st) g cdv X.A X.stack s H L2.E0).tr pn xe) (.Call (.Name a p1) [] [] p2) (fun σZ HZ Q => σZ[0]? = some (some (.ref f)) ∧ HZ c' = some (CodeO c' q) ∧ tl E HZ Q)) →
      H c' = some (CodeO c' q) → TT tl H Q → ∃ t, PSs (cxOf L2.CX0 P w K mg base N x (L2.defScope st) g cdv X.A X.stack s H L2.E0).nox (L2.defBody st) t ∧ t { nx := fun _ H' => Q .non H', rt := Q } (L2.start N [.ref f]) H)
    (hd : (a == ("__debug__" : Str)) = false := by decide) (hcl : (a == ("__classdict__" : Str)) = false := by decide) : CalLG P w K mg base x TT := by
  obtain ⟨g, fd, F, hm⟩ := D.ex
  obtain ⟨oc, od, kV, doc, pm, an, cdv, ct, osl, rfl, lk, hcd⟩ := F.ex
  refine ⟨g, oc, od, kV, doc, pm, an, cdv, ct, osl, st, N, a, lk, hcd, F.kp, hm, .all (bd kV doc pm an cdv ct), S, h0, hv, hd, hcl, ?_⟩
  intro X q e1 e2 e3 e4 e5 hG hR
  subst e1 e2 e3 e4 e5
  intro f c' s H Q tl act hc h
  exact body X q rfl rfl rfl rfl rfl hG hR g cdv f c' s H Q tl (fun W pn xe E p1 p2 tk hW => act W pn xe E p1 p2 tk hW) hc h
/-- as pe_lG, beside the tables of other defs -/
theorem pe_lTG {X : Cx} {T : List (Addr × Str)} {TT : (XK → Hp → VK → Prop) → Hp → VK → Prop} {x : Str} {c P : Addr} (k : Nat) {j : Nat} {params : Arguments} {body : Expr} {scope : Scope} {t : XK → TE} {p lpos pos : Pos} (cl : CalLG X.prog X.w X.K X.mg X.base x TT) (hg : Gl X x)
    (TB : TabB X.base X.mg c P) (hcode : X.env.code = .ref c) (hmT : (P, X.env.qual ++ "<lambda>") ∈ T) (hu : ∀ p ∈ T, p.1 = P → p.2 = X.env.qual ++ "<lambda>") (hr : Room j X.A) (hk : k + 2 ≤ j) (L : LamS X.env.scope scope) (hdef : defaultsOf params X.env = ([], []))
    (hbind : ∀ (q : Str) (cl : List (Str × Addr)) (pm cv ctv : Value), bindArgs (PySem.W.kla_fn "<lambda>" q params body scope cl pm cv ctv) ⟨[], []⟩ = pure [])
    (hbody : ∀ (A : Around) (outer : List Env) (s : Shared) (H : Hp) (E : XK) (f c' : Addr), Room k (A.deeper (lamEnv X scope s.heap.objs.size f c')) → PE (lamCxN X A outer s H E scope f c') body (t E))
    (hG : X.A.guards = some []) (hdb : (x == ("__debug__" : Str)) = false := by decide) :
    PE X (.Call (.Name x p) [.Lambda params body scope lpos] [] pos) (tLam T TT t) := by
  obtain ⟨g, oc, od, kV, doc, pm, an, cdv, ct, osl, st, Ng, a, lk, hcd, kp, hm, b, S, h0, hv, hd, hcl, gv⟩ := cl.ex
  exact pe_lamcallN (k := k) hg hm kp lk hcd b S h0 hv (gv X _ rfl rfl rfl rfl rfl hG (hr.mono (by omega))) TB hcode hmT hu (hr.mono hk) L hdef hbind hbody hdb hd hcl
end Ft

set_option Elab.async false
set_option linter.all false
set_option maxRecDepth 100000
set_option maxHeartbeats 4000000
/-! The end of a walk while an error is handled whose own context is None. -/
namespace Ft
open PySem PySem.Spec PyProof.Rows HotX
section
variable {prog : Program} {w : World} {A : Around} {E : Value → Shared → Prop} {s : Shared}
/-- the walk's end is told by a new StopIteration -/
theorem stop_hot {α : Type} {x1 : Addr} {Q : α → Shared → Prop} (hot : HotAt A x1 s.heap)
    (hE : ∀ h' e, (∀ b o, s.heap.get? b = some o → h'.get? b = some o) → (∃ o, h'.get? e = some o ∧ o.cls = .type "StopIteration") → E (.ref e) { s with heap := h' }) : wpAny (model prog w) A (newExc (.type "StopIteration") [] >>= raiseNew : Sem α) Q E s := by
  obtain ⟨hh, o1, vs1, h1, d1, c1⟩ := hot
  refine wpAny_bind ?_
  simp only [newExc, newTuple]
  refine wpAny_bind (wpAny_newObj_type ?_ (by size_fits))
  refine wpAny_bind (m := firstArgMember _ _) (wpAny_of_eq (a := Value.none) (by simp only [firstArgMember]; rfl) ?_)
  refine wpAny_newObj_type ?_ (by size_fits)
  refine raiseNew_hot ⟨hh, o1, vs1, Heap.get?_push_of_some _ (Heap.get?_push_of_some _ h1), d1, c1⟩ (Nat.ne_of_lt (Heap.lt_size (Heap.get?_push_of_some _ h1))) (Heap.get?_push_size _ rfl) rfl (by simp; omega) ?_
  refine hE _ _ (fun b o e => ?_) ⟨_, Heap.get?_update_self _ (Heap.get?_push_size _ rfl) rfl, rfl⟩
  rw [Heap.get?_update_other _ _ (Nat.ne_of_gt (Heap.lt_size (Heap.get?_push_of_some _ e)))]
  exact Heap.get?_push_of_some _ (Heap.get?_push_of_some _ e)
theorem hot_but {x1 it : Addr} {h h' : Heap} (hot : HotAt A x1 h) (ne : x1 ≠ it) (sb : Heap.SameBut it h h') : HotAt A x1 h' := by
  obtain ⟨hh, o1, vs1, h1, d1, c1⟩ := hot
  exact ⟨hh, o1, vs1, (sb.2 x1 ne).trans h1, d1, c1⟩
theorem list_end_hot {it l x1 : Addr} {i : Nat} {items : Array Value} {Q : Value → Shared → Prop} (hot : HotAt A x1 s.heap) (ne : x1 ≠ it)
    (hit : s.heap.IsListIter it l i) (hl : s.heap.IsList l items) (hx : items[i]? = none)
    (hE : ∀ h' e, Heap.ExtBut it s.heap h' → (∃ o, h'.get? e = some o ∧ o.cls = .type "StopIteration") → E (.ref e) { s with heap := h' }) : wpAny (model prog w) A (Builtin.SmallTypes.nextOf (.ref it)) Q E s := by
  obtain ⟨ob, gob, cob, dob⟩ := id hit
  obtain ⟨lo, glo, _, nlo, dlo⟩ := hl
  unfold Builtin.SmallTypes.nextOf
  refine wpAny_bind (wpAny_callSpecial?_slot (name := Str.ofString "__next__") hit.typeIs slot_listiter_next (wpAny_call_entry slot_listiter_next hit.typeIs entry_listiter_next ?_ (args_listiter_next _)))
  refine wpAny_bind (m := field (.ref it) 0) (wpAny_field gob dob (x := .ref l) rfl ?_)
  show wpAny _ _ (if (Value.ref l == Value.none) = true then _ else _) _ _ s
  rw [if_neg (fun z => Bool.false_ne_true z : ¬ ((Value.ref l == Value.none) = true))]
  refine wpAny_bind (m := field (.ref it) 1) (wpAny_field gob dob (x := .int i 0) rfl ?_)
  refine wpAny_bind (m := seqItems? (.ref l)) (wpAny_seqItems glo dlo ?_)
  simp only [Int.toNat_natCast, hx]
  refine wpAny_bind (wpAny_rule (wpAny_bind (wpAny_setField gob dob (by simp) ?_)))
  refine stop_hot (hot_but hot ne (Heap.SameBut.update ..)) fun h' e kept st => ?_
  exact hE h' e (fun b o nb eb => kept b o (by rw [(Heap.SameBut.update ..).2 b nb]; exact eb)) st
theorem enum_end_hot {e it l x1 : Addr} {i : Nat} {items : Array Value} {old : Value} {Q : Option Value → Shared → Prop} (hot : HotAt A x1 s.heap) (ne : x1 ≠ it)
    (he : IsEnum s.heap e it i old) (hit : s.heap.IsListIter it l i) (hl : s.heap.IsList l items) (hx : items[i]? = none)
    (hQ : ∀ h', Heap.ExtBut it s.heap h' → Q none { s with heap := h' }) : wpAny (model prog w) A (pyNext (.ref e)) Q E s := by
  have ty : s.TypeIs (.ref e) "enumerate" := ⟨_, he, rfl⟩
  unfold pyNext
  refine wpAny_bind (wpAny_attempt (wpAny_callSpecial?_slot (name := Str.ofString "__next__") ty F.slot_enumerate_next (wpAny_call_entry F.slot_enumerate_next ty F.entry_enumerate_next ?_ (F.args_enumerate_next_1 _))))
  refine wpAny_bind (m := field (.ref e) 2) (wpAny_field he rfl (x := .ref it) rfl ?_)
  refine wpAny_bind (list_end_hot hot ne hit hl hx fun h' z kept st => ?_)
  obtain ⟨o, ho, hc⟩ := st
  exact wpAny_bind (wpAny_isInstance (T := "StopIteration") (b := true) ⟨o, ho, hc⟩ isSubtype_stop (wpAny_pure (hQ h' kept)))
/-- the end of a tuple's walk -/
theorem tup_end_hot {it t x1 : Addr} {i : Nat} {items : Array Value} {Q : Option Value → Shared → Prop} (hot : HotAt A x1 s.heap) (ne : x1 ≠ it)
    (hit : IsTupIter s.heap it t i) (ht : IsTup s.heap t items) (hx : items[i]? = none)
    (hQ : ∀ h', Heap.ExtBut it s.heap h' → Q none { s with heap := h' }) : wpAny (model prog w) A (pyNext (.ref it)) Q E s := by
  obtain ⟨ob, gob, cob, dob⟩ := id hit
  obtain ⟨lo, glo, _, nlo, dlo⟩ := ht
  unfold pyNext
  refine wpAny_bind (wpAny_attempt (wpAny_callSpecial?_slot (name := Str.ofString "__next__") hit.typeIs slot_tupleiter_next (wpAny_call_entry slot_tupleiter_next hit.typeIs entry_tupleiter_next ?_ (args_tupleiter_next _))))
  refine wpAny_bind (m := field (.ref it) 0) (wpAny_field gob dob (x := .ref t) rfl ?_)
  show wpAny _ _ (if (Value.ref t == Value.none) = true then _ else _) _ _ s
  rw [if_neg (fun z => Bool.false_ne_true z : ¬ ((Value.ref t == Value.none) = true))]
  refine wpAny_bind (m := field (.ref it) 1) (wpAny_field gob dob (x := .int i 0) rfl ?_)
  refine wpAny_bind (m := seqItems? (.ref t)) (wpAny_seqItems glo dlo ?_)
  simp only [Int.toNat_natCast, hx]
  refine wpAny_bind (wpAny_rule (wpAny_bind (wpAny_setField gob dob (by simp) ?_)))
  refine stop_hot (hot_but hot ne (Heap.SameBut.update ..)) fun h' e kept st => ?_
  obtain ⟨o, ho, hc⟩ := st
  refine wpAny_bind (wpAny_isInstance (T := "StopIteration") (b := true) ⟨o, ho, hc⟩ isSubtype_stop (wpAny_pure (hQ h' fun b o nb eb => kept b o ?_)))
  rw [(Heap.SameBut.update ..).2 b nb]
  exact eb
theorem unpacked_hot {t x1 : Addr} {items : Array Value} {Q : List Value → Shared → Prop} (hot : HotAt A x1 s.heap) (ht : IsTup s.heap t items)
    (hQ : ∀ h', Heap.ExtBut s.heap.objs.size s.heap h' → Q items.toList { s with heap := h' }) : wpAny (model prog w) A (unpackItems (.ref t) items.size none) Q E s := by
  obtain ⟨hh, o1, vs1, h1, d1, c1⟩ := hot
  have below : x1 ≠ s.heap.objs.size := Nat.ne_of_lt (Heap.lt_size h1)
  have apart : t ≠ s.heap.objs.size := by obtain ⟨o, ho, _⟩ := id ht; exact Nat.ne_of_lt (Heap.lt_size ho)
  unfold unpackItems
  refine wpAny_bind ?_
  unfold notIterableAtAll
  refine wpAny_bind (wpAny_specialOf ht.typeIs slot_tuple_iter.lookup (wpAny_pure ?_))
  simp only [Bool.false_eq_true, if_false]
  refine wpAny_bind (wpAny_holding (iter_tuple ht (wpAny_bind (wpAny_holding (draw_tuple apart items.size 0 _ _ ⟨_, Heap.get?_push_size _ rfl, rfl, rfl⟩ (ht.push _) (by omega) fun h2 hit2 sb2 => ?_)))))
  have whole : List.take items.size (List.drop 0 items.toList) = items.toList := by rw [List.drop_zero]; exact List.take_of_length_le (by simp)
  rw [whole, if_neg (by simp)]
  refine wpAny_bind (wpAny_holding (tup_end_hot (hot_but ⟨hh, o1, vs1, Heap.get?_push_of_some _ h1, d1, c1⟩ below sb2) below hit2 ((ht.push _).extBut sb2.extBut apart) (by simp) fun h3 kept => ?_))
  simp only [Option.isSome_none, Bool.false_eq_true, if_false]
  exact wpAny_pure (hQ h3 fun b o nb eb => kept b o nb (sb2.extBut b o nb (Heap.get?_push_of_some _ eb)))
theorem assign_hot {env : Env} {elts : List Expr} {k : Nat} {pos : Pos} {t x1 : Addr} {items : Array Value} {Q : Unit → Shared → Prop} (hot : HotAt A x1 s.heap) (ht : IsTup s.heap t items)
    (hn : (assignEach elts env).length = items.size) (hstar : (assignEach elts env).findIdx? (·.1) = none)
    (h : ∀ h', Heap.ExtBut s.heap.objs.size s.heap h' → wpAny (model prog w) A (assignInOrder ((assignEach elts env).map (·.2)) items.toList) Q E { s with heap := h' }) :
    wpAny (model prog w) A (assign (.Tuple elts k pos) env (.ref t)) Q E s := by
  rw [assign_Tuple]
  refine wpAny_bind (wpAny_standAt ?_)
  unfold unpack
  rw [hn, hstar]
  exact wpAny_bind (wpAny_holding (unpacked_hot hot ht h))
end
end Ft
namespace Ft
open PySem PySem.Spec PyProof.Rows L2 L2H HotX
section
variable {P : Program} {w : World} {K : PySem.W.Frag} {elts : List Expr} {kk : Nat} {tpos : Pos}
theorem hot_pin {X : Cx} {pins : List (Addr × Obj)} {σ : L2.St} {H : Hp} {s : Shared} {b : Addr} (hc : HotC X) (I : Inv X pins σ H s) (hb : FpOk X pins H b) : ∃ x1, HotAt X.A x1 s.heap ∧ x1 ≠ b := by
  obtain ⟨p, ⟨hh, vs, e1, c1⟩, hp⟩ := hc
  exact ⟨p.1, ⟨hh, p.2, vs, (I.pin p (List.mem_append_left _ hp)).1, e1, c1⟩, hb.2.2.2.2.2 p (List.mem_append_left _ hp)⟩
/-- enumerate over a list, where an error is handled -/
theorem turn_enumH (a e it : Addr) : TurnH P w K (.Tuple elts kk tpos) (Ite K a) [e, it] e (fun i h => (∃ old, IsEnum h e it ((i : Nat) : Int) old) ∧ h.IsListIter it a i ∧ e ≠ it) where
  mem := (turn_enum (P := P) (w := w) (K := K) (elts := elts) (kk := kk) (tpos := tpos) a e it).mem
  obj := (turn_enum (P := P) (w := w) (K := K) (elts := elts) (kk := kk) (tpos := tpos) a e it).obj
  keep := (turn_enum (P := P) (w := w) (K := K) (elts := elts) (kk := kk) (tpos := tpos) a e it).keep
  self := (turn_enum (P := P) (w := w) (K := K) (elts := elts) (kk := kk) (tpos := tpos) a e it).self
  done := fun X hP hw hK hc i pins s σ H E I hf st hg => by
    subst hP hw hK
    obtain ⟨⟨old, he⟩, hit, ne⟩ := st
    obtain ⟨xs, hq, few⟩ := hg
    obtain ⟨its, rv, pl, _⟩ := I.list hq
    have fit := hf it (by simp)
    obtain ⟨x1, hot, apart⟩ := hot_pin hc I fit
    have len := rv.length
    obtain ⟨g0, g1, g2, g3, g4, g5⟩ := fit
    exact enum_end_hot hot apart he hit pl.isList (by simp; omega) fun h' kept => ⟨rfl, I.turned (t' := s.toks) kept g0 g1 g3 g4 g5⟩
  item := fun X hP hw hK _ i pins s σ H E I hf st hg => by
    subst hP hw hK
    obtain ⟨⟨old, he⟩, hit, ne⟩ := st
    obtain ⟨xs, x, hq, hx⟩ := hg
    obtain ⟨its, rv, pl, _⟩ := I.list hq
    obtain ⟨u, hu, ru⟩ := rv.get hx
    have above : ∀ b ∈ [e, it], b < s.heap.objs.size := fun b hb => by
      simp only [List.mem_cons, List.not_mem_nil, or_false] at hb
      rcases hb with rfl | rfl
      · exact Heap.lt_size he
      · obtain ⟨_, z, _⟩ := hit
        exact Heap.lt_size z
    refine wpAny_pyNext_enum_item he hit pl.isList (x := u) (by simpa using hu) ne fun h1 out hit1 pair _ kept => ⟨_, rfl, wpAny_letOwnedTupleGo_enum (s := { s with heap := h1, toks := s.toks + 1 }) out fun h2 he2 sb => ?_⟩
    have pair2 := (sb.2 _ (Nat.ne_of_gt (above e (by simp)))).trans pair
    have ok2 : ObjOk X.prog X.w (upd H s.heap.objs.size (.tup [.int (i : Nat), x])) h2 s.heap.objs.size (.tup [.int (i : Nat), x]) := ⟨by show 2 ≤ sizeLine; decide, [.int i s.toks, u], .cons ⟨_, rfl⟩ (.cons ru .nil), ⟨_, pair2, rfl, _, rfl⟩⟩
    have I2 : Inv X pins σ (upd H s.heap.objs.size (.tup [.int (i : Nat), x])) { s with heap := h2, toks := s.toks + 1 } := I.turnedNew (ch := [e, it]) (fun b o nb eb => by
      have n1 : b ≠ e := fun z => nb (by simp [z])
      have n2 : b ≠ it := fun z => nb (by simp [z])
      rw [sb.2 b n1]
      exact kept b o n1 n2 eb) hf (Nat.le_refl _) ok2
    refine ⟨.ref s.heap.objs.size, _, I2, rfl, ⟨_, x, rfl, I.hok.fresh (Nat.le_refl _), rfl, fun ys hy => I.list_inj hy hq ▸ hx⟩, ⟨⟨u, ?_⟩, hit1.at fun o z => (sb.2 it (Ne.symm ne)).trans z, ne⟩, fun b hb => ?_⟩
    · rw [show ((i + 1 : Nat) : Int) = (i : Int) + 1 by omega]
      exact he2
    · rw [upd_ne (Nat.ne_of_lt (above b hb))]
      exact (hf b hb).1
end
end Ft
namespace Ft
open PySem PySem.Spec PyProof.Rows L2 L2H HotX
section
variable {X : Cx}
theorem pi_enumH {e : Expr} {ta : TA} {p pos tpos : Pos} {elts : List Expr} {kk : Nat} (hg : Gl X "enumerate") (hm : X.mg "enumerate" = none) (ha : PA X [e] ta) (hs : starEach [e] X.env = [(false, eval e X.env)] := by rfl) :
    PIH X (.Tuple elts kk tpos) (.Call (.Name "enumerate" p) [e] [] pos) (iEnum X.K ta) := by
  refine ⟨fun pins s σ H R I h => Call_ (ld_blt I hg hm boot_enumerate (PyProof.Rows.callWith_type1 (thn (ha.run pos pins s σ H _ I h) fun us s1 got => ?_) hs rfl))⟩
  obtain ⟨vs, H1, I1, rel, a, xs, rfl, hq, q⟩ := got
  rw [Vals.ref1 rel]
  obtain ⟨its, _, pl, _⟩ := I1.list hq
  refine call_enumerate_list pl.isList fun h2 out hit _ kept => wpAny_pyIter_enum out ?_
  refine ⟨s1.heap.objs.size + 1, [s1.heap.objs.size + 1, s1.heap.objs.size], _, _, H1, rfl, I1.kept (t' := s1.toks) kept, turn_enumH a _ _, ⟨⟨.none, out⟩, hit, Nat.succ_ne_self _⟩, fun b hb => ?_, q⟩
  have up : s1.heap.objs.size ≤ b := by
    simp only [List.mem_cons, List.not_mem_nil, or_false] at hb
    rcases hb with z | z
    · rw [z]
      exact Nat.le_succ _
    · rw [z]
      exact Nat.le_refl _
  exact I1.fpOk up (I1.hok.fresh up)
theorem pg_tupH {es : List Expr} {k : Nat} {t : TGs} {n : Nat} {pos : Pos} (hc : HotC X) (h : PGs X es t)
    (hn : (assignEach es X.env).length = n := by rfl) (hst : (assignEach es X.env).findIdx? (·.1) = none := by rfl) : PG X (.Tuple es k pos) (gTup X.K n t) := by
  refine ⟨fun pins s σ H v u Q I r ⟨a, xs, ev, hq, hl, q⟩ => ?_⟩
  subst ev
  cases r
  obtain ⟨its, rv, pt, _⟩ := I.tuple hq
  obtain ⟨x1, hot⟩ := hc.at I
  refine assign_hot hot pt (by simp [hn, ← hl, rv.length]) hst fun h' kept => ?_
  exact h.run pins _ σ H xs _ Q (I.kept (t' := s.toks) fun b o eb => kept b o (Nat.ne_of_lt (Heap.lt_size eb)) eb) (by simpa using rv) q
end
end Ft

set_option Elab.async false
set_option linter.all false
set_option maxRecDepth 100000
set_option maxHeartbeats 4000000
/-! A list comprehension where an error is handled whose own context is None. -/
namespace Ft
open PySem PySem.Spec PyProof.Rows L2 L2H HotX
abbrev hotBlk (X : Cx) (q : Addr × Obj) (s : Shared) (H : Hp) (sc : Scope) (ce : Env) (fp : List Addr) : Cx := { X.blk s H sc ce fp with pn := [q] }
section
variable {X : Cx} {q : Addr × Obj} {pins : List (Addr × Obj)} {σ : L2.St} {H : Hp} {s : Shared} {sc : Scope} {own : List (Str × Nat)} {fp : List Addr}
theorem hot_start (I : Inv X pins σ H s) (ok : BlkOk X.N X.env.scope sc own) (hN : X.N.Nodup) (hfp : ∀ b ∈ fp, FpOk X pins H b ∧ b < s.heap.objs.size) (hq : q ∈ X.pn) :
    Inv (hotBlk X q s H sc (compEnvC sc (cellsFrom (s.heap.objs.size + 1) sc.names (cloFrom X.env.cells sc.names [])) s.heap.objs.size X.env) fp) [] (wipe σ (own.map (·.2))) H { s with heap := pushCells (s.heap.push { cls := .type "dict", data := .dict #[] }) sc.names } := by
  have B := block_start I ok hN hfp
  have O := B.ok
  obtain ⟨there, free, nloc, nfs, ncell⟩ := I.pin q (List.mem_append_left _ hq)
  refine ⟨⟨O.mod, O.kind, O.glob, O.blt, O.above, O.inj, O.has, O.cab, O.hd, O.frames, O.stk, O.exf, O.bs, O.bsz, O.noex, O.exfs, O.funs, O.frf⟩, B.os, B.bare, B.base, B.loc, B.cell, B.free, B.freeC, fun z hz => ?_, B.hok, B.len⟩
  have ez : z = q := by simpa using hz
  subst ez
  refine ⟨pushCells_keeps _ _ _ _ (Heap.get?_push_of_some _ there), free, fun e => ?_, fun m => ?_, ncell⟩
  · have : z.1 = s.heap.objs.size := e
    exact Nat.lt_irrefl _ (this ▸ Heap.lt_size there)
  · have m : z.1 ∈ frs X.stack := m
    rcases I.ok.stk with e | ⟨e, fr⟩
    · rw [e] at m
      exact nfs m
    · rw [e] at m
      obtain ⟨en, hen, eq⟩ := List.mem_filterMap.mp m
      rcases List.mem_cons.mp hen with rfl | hen
      · rw [fr] at eq
        exact nloc (Option.some.inj eq).symm
      · exact nfs (List.mem_filterMap.mpr ⟨en, hen, eq⟩)
end
section
variable {X : Cx} {q : Addr × Obj} {elt tg iter : Expr} {ifs : List Expr} {sc : Scope} {own : List (Str × Nat)} {pos : Pos} {wi : TI} {g : TG} {tt : TT} {te : TE}
theorem pe_lcH (hot : Hot1 X.A q) (hq : q ∈ X.pn) (hN : X.N.Nodup) (hi : PIH X tg iter wi) (ok : BlkOk X.N X.env.scope sc own)
    (hg : ∀ (s : Shared) (H : Hp) (C : Addr) (cl : List (Str × Addr)) (fp : List Addr), PG (hotBlk X q s H sc (compEnvC sc cl C X.env) fp) tg g) (ht : ∀ (s : Shared) (H : Hp) (C : Addr) (cl : List (Str × Addr)) (fp : List Addr), PTs (hotBlk X q s H sc (compEnvC sc cl C X.env) fp) ifs tt)
    (he : ∀ (s : Shared) (H : Hp) (C : Addr) (cl : List (Str × Addr)) (fp : List Addr), PE (hotBlk X q s H sc (compEnvC sc cl C X.env) fp) elt te) (hs : ∀ x, foldedSetIterable iter X.env x = pure x := by intro _; rfl) :
    PE X (.ListComp elt [⟨tg, iter, ifs, 0⟩] sc pos) (tLc wi g tt te (own.map (·.2))) := by
  refine ⟨fun pins s σ H Q I h => ?_⟩
  have caps : ∀ y ∈ sc.names, y.2 = .free → ∃ c, X.env.cells.lookup y.1 = some c := fun y hy e => (ok.free y hy e).elim (fun k => I.ok.has _ (.inl k)) fun k => I.ok.has _ (.inr k)
  rw [eval_ListComp]
  refine wpAny_comprehension_free (use := none) rfl hs (closure_ok caps) ok.kind (fun y hy e => by rw [ok.uniq y hy, e]) (thn (hi.run pins s σ H _ I h) fun xv sA hA => thn hA fun itv sB hB => ?_)
  obtain ⟨it, fp, tn, J, HB, rfl, IB, T, stB, fB, want⟩ := hB
  refine wpAny_newObj_type (newEnv_comp ?_) (by show 0 ≤ sizeLine; decide)
  obtain ⟨D, eD⟩ : ∃ D, sB.heap.objs.size = D := ⟨_, rfl⟩
  have newD : HB D = none := IB.hok.fresh (Nat.le_of_eq eD)
  obtain ⟨W, ⟨m0, w0⟩, turn⟩ := want D newD
  obtain ⟨sC, eC⟩ : ∃ sC : Shared, ({ sB with heap := sB.heap.push { cls := .type "list", data := .seq ([] : List Value).toArray } } : Shared) = sC := ⟨_, rfl⟩
  have heapC : sC.heap = sB.heap.push { cls := .type "list", data := .seq ([] : List Value).toArray } := by rw [← eC]
  have IC : Inv X pins σ (upd HB D (.lst [])) sC := by
    rw [← eC]
    refine IB.laid (t' := sB.toks) (fun b o e => Heap.get?_push_of_some _ e) (Nat.le_of_eq eD) ⟨Nat.zero_le _, [], 0, .nil, ?_⟩
    rw [← eD]
    exact Heap.get?_push_size _ rfl
  have inside : ∀ b ∈ fp, b < sB.heap.objs.size := fun b hb => let ⟨o, e, _⟩ := T.obj _ _ stB b hb; Heap.lt_size e
  have fC : ∀ b ∈ fp, FpOk X pins (upd HB D (.lst [])) b ∧ b < sC.heap.objs.size := fun b hb => by
    refine ⟨⟨?_, (fB b hb).2⟩, by rw [heapC, Heap.size_push]; exact Nat.lt_succ_of_lt (inside b hb)⟩
    rw [upd_ne (by rw [← eD]; exact Nat.ne_of_lt (inside b hb))]
    exact (fB b hb).1
  have ID := hot_start IC ok hN fC hq
  have stC : tn 0 sC.heap := T.keep _ _ _ stB fun b _ o e => by rw [heapC]; exact Heap.get?_push_of_some _ e
  rw [eC, eD]
  have pg := hg sC (upd HB D (.lst [])) sC.heap.objs.size (cellsFrom (sC.heap.objs.size + 1) sc.names (cloFrom X.env.cells sc.names [])) fp
  have pt := ht sC (upd HB D (.lst [])) sC.heap.objs.size (cellsFrom (sC.heap.objs.size + 1) sc.names (cloFrom X.env.cells sc.names [])) fp
  have pe := he sC (upd HB D (.lst [])) sC.heap.objs.size (cellsFrom (sC.heap.objs.size + 1) sc.names (cloFrom X.env.cells sc.names [])) fp
  have outside : ∀ b ∈ fp, (upd HB D (.lst [])) b = none := fun b hb => (fC b hb).1.1
  obtain ⟨ce, ece⟩ : ∃ ce, compEnvC sc (cellsFrom (sC.heap.objs.size + 1) sc.names (cloFrom X.env.cells sc.names [])) sC.heap.objs.size X.env = ce := ⟨_, rfl⟩
  have locals : ce.locals = sC.heap.objs.size := by rw [← ece]; rfl
  rw [ece] at ID pg pt pe
  obtain ⟨HC, eHC⟩ : ∃ HC, upd HB D (.lst []) = HC := ⟨_, rfl⟩
  rw [eHC] at IC ID pg pt pe w0 outside fC
  obtain ⟨sD, eSD⟩ : ∃ sD : Shared, ({ sC with heap := pushCells (sC.heap.push { cls := .type "dict", data := .dict #[] }) sc.names } : Shared) = sD := ⟨_, rfl⟩
  have stD : tn 0 sD.heap := T.keep _ _ _ stC fun b _ o e => by rw [← eSD]; exact pushCells_keeps _ _ _ _ (Heap.get?_push_of_some _ e)
  rw [eSD] at ID
  show codeAny _ _ (.compStart (.ListComp elt [⟨tg, iter, ifs, 0⟩] sc pos) 0 (.ref it) (.ref D) (compEnvC sc (cellsFrom (sC.heap.objs.size + 1) sc.names (cloFrom X.env.cells sc.names [])) sC.heap.objs.size X.env)) _ { sC with heap := pushCells (sC.heap.push { cls := .type "dict", data := .dict #[] }) sc.names }
  rw [ece, eSD]
  have warm : HotC (hotBlk X q sC HC sc ce fp) := ⟨q, hot, List.mem_singleton.mpr rfl⟩
  have still : ∀ {τ : L2.St} {G : Hp} {z : Shared}, Inv (hotBlk X q sC HC sc ce fp) [] τ G z → (∀ b ∈ fp, G b = none) → ∀ b ∈ fp, FpOk (hotBlk X q sC HC sc ce fp) [] G b := fun {τ G z} J hn b hb =>
    ⟨hn b hb, (J.ok.exf b hb).1, J.ok.exfs b hb, .inl hb, (J.ok.exf b hb).2, fun p hp => by
      have ep : p = q := by simpa using hp
      rw [ep]
      exact (fC b hb).1.2.2.2.2.2 q (List.mem_append_left _ hq)⟩
  refine (fun loop => codeAny_compStart_list loop (T.self X.A 0 _ _ _ stD loop)) ?_
  refine compLoop_any (fun n z => ∃ i G, Inv (hotBlk X q sC HC sc ce fp) [] (wipe σ (own.map (·.2))) G z ∧ tn i z.heap ∧ (∀ b ∈ fp, G b = none) ∧ W i n G) ?_ m0 ⟨0, HC, ID, stD, outside, w0⟩
  rintro n z ⟨i, G, JG, stG, outG, wG⟩
  rcases turn i n G wG with ⟨stop, fin⟩ | ⟨go, Nx, less, step⟩
  · refine thnF (T.done (hotBlk X q sC HC sc ce fp) rfl rfl rfl warm i [] z _ G (fun _ _ => False) JG (still JG outG) stG stop) fun r z1 ⟨er, J1⟩ => ?_
    subst er
    have back : Inv X pins σ G z1 := IC.call' (ch := fp) J1.os J1.base J1.hok J1.bare fun b hb => let ⟨_, f1, _, f3, f4, f5⟩ := (fC b hb).1; ⟨f3, f1, f4, f5⟩
    obtain ⟨m, ns, _⟩ := J1.loc
    have freeL : G ce.locals = none := J1.free
    have ns : z1.heap.Ns ce.locals m := ns
    rw [locals] at ns freeL
    obtain ⟨f0, f1, f2, f3, f4, f5⟩ := IC.fpOk (Nat.le_refl _) freeL
    exact ⟨m, ns, fun h2 sb => ⟨.ref D, G, back.turned (t' := z1.toks) (fun b o nb eb => (sb.2 b nb).trans eb) f0 f1 f3 f4 f5, rfl, fin⟩⟩
  · refine thnF (T.item (hotBlk X q sC HC sc ce fp) rfl rfl rfl warm i [] z _ G (fun _ _ => False) JG (still JG outG) stG go) fun r z1 ⟨u, er, more⟩ => ?_
    subst er
    refine thnF more fun _ z2 ⟨x, G2, J2, r2, y2, st2, out2⟩ => ?_
    refine thnF (pg.run _ z2 _ G2 x u _ (J2.pinned (still J2 out2) (T.obj _ _ st2)) r2 (step x G2 y2)) fun _ z3 ⟨τ, G3, J3, wiped, q3⟩ => ?_
    refine thnF (pt.run _ z3 τ G3 _ J3 q3) fun b z4 ⟨G4, J4, q4⟩ => ?_
    have again : ∀ {z5 : Shared} {G5 : Hp}, Inv (hotBlk X q sC HC sc ce fp) ([] ++ pinsAt fp z2.heap) τ G5 z5 → Nx G5 → ∃ m, m < n ∧ ∃ i G, Inv (hotBlk X q sC HC sc ce fp) [] (wipe σ (own.map (·.2))) G z5 ∧ tn i z5.heap ∧ (∀ b ∈ fp, G b = none) ∧ W i m G := fun {z5 G5} J5 nx => by
      obtain ⟨m, lt, w5⟩ := less G5 nx
      have held : ∀ b ∈ fp, ∀ o, z2.heap.get? b = some o → z5.heap.get? b = some o ∧ G5 b = none := fun b hb o e => let k := J5.pin (b, o) (List.mem_append_right _ (List.mem_append_right _ (mem_pinsAt hb e))); ⟨k.1, k.2.1⟩
      refine ⟨m, lt, i + 1, G5, (J5.unpinned (pins := [])).weak (by rw [← wiped, wipe_length]) (fun j v e => by rw [← wiped] at e; exact (wipe_some e).1), T.keep _ _ _ st2 fun b hb o e => (held b hb o e).1, fun b hb => ?_, w5⟩
      obtain ⟨o, e, _⟩ := T.obj _ _ st2 b hb
      exact (held b hb o e).2
    cases b with
    | false => exact again J4 q4
    | true => exact thnF (pe.run _ z4 τ G4 _ J4 q4) fun v z5 ⟨y, G5, J5, r5, acc, hD5, fits, nx⟩ => app_ok (X := hotBlk X q sC HC sc ce fp) J5 hD5 fits r5 fun z6 J6 => again J6 nx
end
end Ft

set_option Elab.async false
set_option linter.all false
set_option maxRecDepth 100000
set_option maxHeartbeats 4000000
/-! Within an except suite: what is handled, its context None. -/
namespace Ft
open PySem PySem.Spec PyProof.Rows L2 L2H HotX
theorem hot_suite {X : Cx} {a : Addr} {oe : Obj} {cls : Value} {d : Option Addr} {pn : List (Addr × Obj)} (hz : L2N.Zn cls d oe) (hf : ∃ vs, oe.data = .fields vs) : Hot1 (X.suite a ((a, oe) :: pn)).A (a, oe) :=
  ⟨rfl, let ⟨vs, e⟩ := hf; ⟨vs, e, hz.2.2 vs e⟩⟩
theorem hot_blk {X : Cx} {q : Addr × Obj} {s : Shared} {H : Hp} {sc : Scope} {ce : Env} {fp : List Addr} (hot : Hot1 X.A q) : HotC (hotBlk X q s H sc ce fp) := ⟨q, hot, List.mem_singleton.mpr rfl⟩
end Ft

set_option Elab.async false
set_option linter.all false
set_option maxRecDepth 100000
set_option maxHeartbeats 8000000
namespace Ft
open PySem PySem.Spec PyProof.Rows L2 L2H
/-- an error of class c is none of class d -/
def KitN (K : PySem.W.Frag) (ca : Str → Addr) (c d : Str) : Prop := PySem.W.kitOne K (.ref (ca c)) (.ref (ca d)) = some false
inductive RW5 : Str → Prop
  | map : RW5 "BadMap"
  | wish : RW5 "BadWish"
  | lot : RW5 "BadLot"
  | free : RW5 "BadFree"
  | place : RW5 "BadPlace"
section
variable {P : Program} {w : World} {K : PySem.W.Frag} {mg : Str → Option Value} {base : Heap} {ca : Str → Addr}
/-- what the names of a refusal are -/
def TTRaised (K : PySem.W.Frag) (ca : Str → Addr) : (XK → Hp → VK → Prop) → Hp → VK → Prop := fun tl H Q => ∃ (Ech : XK) (M : VK), tl Ech H M ∧ (∀ v H1, M v H1 → ∀ v2 H2, Same H1 H2 → Dp K H2 v2 (.tuple [.list [], .str ""]) → Q v2 H2) ∧
  ∀ cls d H', Ech cls d H' → ∃ (x : Str) (dd : Addr) (v : V) (dv : PyData), cls = .ref (ca x) ∧ d = some dd ∧ H' dd = some (.xd [("what", v)]) ∧ RW5 x ∧ Dp K H' v dv ∧ Shows dv ∧ ∀ v2 H2, Same H' H2 → Dp K H2 v2 (.tuple [.list [.str x], .str dv.shown]) → Q v2 H2
def five : List Str := ["BadMap", "BadWish", "BadLot", "BadFree", "BadPlace"]
theorem five_filter {x : Str} (h : RW5 x) : five.filter (fun y => decide (x = y)) = [x] := by
  cases h <;> decide
theorem five_get {i : Nat} {y : Str} (h : five[i]? = some y) : RW5 y := by
  have m := List.mem_of_getElem? h
  simp only [five, List.mem_cons, List.not_mem_nil, or_false] at m
  rcases m with rfl | rfl | rfl | rfl | rfl
  · exact .map
  · exact .wish
  · exact .lot
  · exact .free
  · exact .place
theorem calLG_law_way_raised (T : Txt mg) (D : Def K mg "_law_way_raised" s_law_way_raised) (e_Refused : Er P w K mg base ca "Refused") (e_BadMap : Er P w K mg base ca "BadMap") (e_BadWish : Er P w K mg base ca "BadWish") (e_BadLot : Er P w K mg base ca "BadLot") (e_BadFree : Er P w K mg base ca "BadFree") (e_BadPlace : Er P w K mg base ca "BadPlace")
    (x_BadMap_Refused : Exm K ca "BadMap" "Refused" true) (x_BadWish_Refused : Exm K ca "BadWish" "Refused" true) (x_BadLot_Refused : Exm K ca "BadLot" "Refused" true) (x_BadFree_Refused : Exm K ca "BadFree" "Refused" true) (x_BadPlace_Refused : Exm K ca "BadPlace" "Refused" true) (i_BadMap : IsC K (ca "BadMap")) (i_BadWish : IsC K (ca "BadWish")) (i_BadLot : IsC K (ca "BadLot")) (i_BadFree : IsC K (ca "BadFree")) (i_BadPlace : IsC K (ca "BadPlace"))
    (y_BadMap_BadMap : Kit K ca "BadMap" "BadMap") (y_BadWish_BadWish : Kit K ca "BadWish" "BadWish") (y_BadLot_BadLot : Kit K ca "BadLot" "BadLot") (y_BadFree_BadFree : Kit K ca "BadFree" "BadFree") (y_BadPlace_BadPlace : Kit K ca "BadPlace" "BadPlace")
    (n_BadMap_BadWish : KitN K ca "BadMap" "BadWish") (n_BadMap_BadLot : KitN K ca "BadMap" "BadLot") (n_BadMap_BadFree : KitN K ca "BadMap" "BadFree") (n_BadMap_BadPlace : KitN K ca "BadMap" "BadPlace") (n_BadWish_BadMap : KitN K ca "BadWish" "BadMap") (n_BadWish_BadLot : KitN K ca "BadWish" "BadLot") (n_BadWish_BadFree : KitN K ca "BadWish" "BadFree") (n_BadWish_BadPlace : KitN K ca "BadWish" "BadPlace") (n_BadLot_BadMap : KitN K ca "BadLot" "BadMap") (n_BadLot_BadWish : KitN K ca "BadLot" "BadWish") (n_BadLot_BadFree : KitN K ca "BadLot" "BadFree") (n_BadLot_BadPlace : KitN K ca "BadLot" "BadPlace") (n_BadFree_BadMap : KitN K ca "BadFree" "BadMap") (n_BadFree_BadWish : KitN K ca "BadFree" "BadWish") (n_BadFree_BadLot : KitN K ca "BadFree" "BadLot") (n_BadFree_BadPlace : KitN K ca "BadFree" "BadPlace") (n_BadPlace_BadMap : KitN K ca "BadPlace" "BadMap") (n_BadPlace_BadWish : KitN K ca "BadPlace" "BadWish") (n_BadPlace_BadLot : KitN K ca "BadPlace" "BadLot") (n_BadPlace_BadFree : KitN K ca "BadPlace" "BadFree") : CalLG P w K mg base "_law_way_raised" (TTRaised K ca) := by
  refine calLG_of D sc_law_way_raised rfl (.inl rfl) (fun _ _ _ _ _ _ us hl => match us, hl with | [_], _ => rfl) (fun X q e1 e2 e3 e4 e5 hG hR g cdv f c' s H Q tl act hc h => ?_)
  have hr := hR.deeper (envOfC "_law_way_raised" (L2.defScope s_law_way_raised) s.heap.objs.size g cdv)
  have hU := hr.units
  obtain ⟨Ech, M, ht, hM, hE⟩ := h
  have two : 2 ≤ sizeLine := by decide
  have three : 3 ≤ sizeLine := by decide
  have fve : 5 ≤ sizeLine := by decide
  have KT : ∀ {x y : Str}, RW5 x → RW5 y → PySem.W.kitOne K (.ref (ca x)) (.ref (ca y)) = some (decide (x = y)) := fun {x y} hx hy => by
    cases hx with
    | map => cases hy with | map => exact y_BadMap_BadMap | wish => exact n_BadMap_BadWish | lot => exact n_BadMap_BadLot | free => exact n_BadMap_BadFree | place => exact n_BadMap_BadPlace
    | wish => cases hy with | map => exact n_BadWish_BadMap | wish => exact y_BadWish_BadWish | lot => exact n_BadWish_BadLot | free => exact n_BadWish_BadFree | place => exact n_BadWish_BadPlace
    | lot => cases hy with | map => exact n_BadLot_BadMap | wish => exact n_BadLot_BadWish | lot => exact y_BadLot_BadLot | free => exact n_BadLot_BadFree | place => exact n_BadLot_BadPlace
    | free => cases hy with | map => exact n_BadFree_BadMap | wish => exact n_BadFree_BadWish | lot => exact n_BadFree_BadLot | free => exact y_BadFree_BadFree | place => exact n_BadFree_BadPlace
    | place => cases hy with | map => exact n_BadPlace_BadMap | wish => exact n_BadPlace_BadWish | lot => exact n_BadPlace_BadLot | free => exact n_BadPlace_BadFree | place => exact y_BadPlace_BadPlace
  refine ⟨_, (pss_cons (ps_try_ms rfl rfl sc_law_way_raised.nd takesN0 (fun W pn xe tk po => (pss_one (ps_expr (pe_mid (pe_actE (fun E hW => act W pn xe E _ _ tk hW)))))) (.as (i := 1) rfl rfl ⟨rfl, by decide, .inl (Er.g e_Refused)⟩ (fun a oe cls d pn hz hf => (pss_cons (ps_set (i := 2) sc_law_way_raised.nd rfl (Or.inr rfl) (pe_lst (pa_cons (pe_callB (show CallR _ _ (rIsX K a cls d (.ref (ca "BadMap"))) from call_isX hz hf) (by rfl) T.isinstance (by decide +kernel) (pa_cons (pv 1) (pa_cons (pe_globC (by rfl) (Er.g e_BadMap)) pa_nil))) (pa_cons (pe_callB (show CallR _ _ (rIsX K a cls d (.ref (ca "BadWish"))) from call_isX hz hf) (by rfl) T.isinstance (by decide +kernel) (pa_cons (pv 1) (pa_cons (pe_globC (by rfl) (Er.g e_BadWish)) pa_nil))) (pa_cons (pe_callB (show CallR _ _ (rIsX K a cls d (.ref (ca "BadLot"))) from call_isX hz hf) (by rfl) T.isinstance (by decide +kernel) (pa_cons (pv 1) (pa_cons (pe_globC (by rfl) (Er.g e_BadLot)) pa_nil))) pa_nil)))))
        (pss_cons (ps_set (i := 2) sc_law_way_raised.nd rfl (Or.inr rfl) (pe_op op_cat (pv 2) (pe_lst (pa_cons (pe_callB (show CallR _ _ (rIsX K a cls d (.ref (ca "BadFree"))) from call_isX hz hf) (by rfl) T.isinstance (by decide +kernel) (pa_cons (pv 1) (pa_cons (pe_globC (by rfl) (Er.g e_BadFree)) pa_nil))) (pa_cons (pe_callB (show CallR _ _ (rIsX K a cls d (.ref (ca "BadPlace"))) from call_isX hz hf) (by rfl) T.isinstance (by decide +kernel) (pa_cons (pv 1) (pa_cons (pe_globC (by rfl) (Er.g e_BadPlace)) pa_nil))) pa_nil)))))
        (pss_cons (ps_set (i := 3) sc_law_way_raised.nd rfl (Or.inl rfl) (pe_lst (pa_cons pe_str (pa_cons pe_str (pa_cons pe_str (pa_cons pe_str (pa_cons pe_str pa_nil)))))))
        (pss_one (ps_ret (pe_tup (pa_cons (pe_lcH (own := [("at", 4), ("name", 5)]) (hot_suite hz hf) List.mem_cons_self sc_law_way_raised.nd (show PIH _ _ _ (iEnum K _) from pi_enumH (by rfl) T.enumerate (pa_cons (pv 3) pa_nil)) (blkOk_by (N := ["call", "error", "under", "names", "at", "name"]) (sc := L2.defScope s_law_way_raised) (by decide +kernel)) (fun _ _ _ _ _ => (show PG _ _ (gTup K 2 _) from pg_tupH (hot_blk (hot_suite hz hf)) (pgs_cons (pg_name (i := 4) sc_law_way_raised.nd rfl (Or.inl rfl)) (pgs_cons (pg_name (i := 5) sc_law_way_raised.nd rfl (Or.inl rfl)) pgs_nil)))) (fun _ _ _ _ _ => pts_one (pt_val (pe_ix (show IxR _ (rIxL K) from ix_list) (pv 2) (pv 4) (fun _ _ => rfl)))) (fun _ _ _ _ _ => (pv 5))) (pa_cons (pe_callB (show CallR _ _ (rRepr K) from cr_repr hG hU) (by rfl) T.repr (by decide +kernel) (pa_cons (pe_what hz hf (pv 1)) pa_nil)) pa_nil)))))))))
      .nil))
      (pss_one (ps_ret (pe_tup (pa_cons (pe_lst pa_nil) (pa_cons pe_str pa_nil)))))), ?_⟩
  refine ⟨M, ⟨Ech, fun cls d σ' H' hx => ?_, rfl, hc, ht⟩, fun v H1 hm => ⟨Nat.zero_le _, fun l hl => ⟨two, fun p hp => ?_⟩⟩⟩
  · obtain ⟨x, dd, v, dv, rfl, rfl, hd, hw, hv, shv, hq⟩ := hE cls d H' hx
    have xR : Exm K ca x "Refused" true := by
      cases hw with
      | map => exact x_BadMap_Refused
      | wish => exact x_BadWish_Refused
      | lot => exact x_BadLot_Refused
      | free => exact x_BadFree_Refused
      | place => exact x_BadPlace_Refused
    have ic : IsC K (ca x) := by
      cases hw with
      | map => exact i_BadMap
      | wish => exact i_BadWish
      | lot => exact i_BadLot
      | free => exact i_BadFree
      | place => exact i_BadPlace
    have wc : WhatC K (ca x) := by
      cases hw with
      | map => exact Er.w e_BadMap
      | wish => exact Er.w e_BadWish
      | lot => exact Er.w e_BadLot
      | free => exact Er.w e_BadFree
      | place => exact Er.w e_BadPlace
    refine ⟨true, xR, fun _ a _ hl => ?_, fun h => nomatch h⟩
    obtain ⟨z0, z1, z2, z3, z4, z5, rfl⟩ : ∃ z0 z1 z2 z3 z4 z5, σ' = [z0, z1, z2, z3, z4, z5] := match σ', hl with
      | [z0, z1, z2, z3, z4, z5], _ => ⟨_, _, _, _, _, _, rfl⟩
    clear hl hx
    refine ⟨.ref a, rfl, .ref (ca "BadMap"), _, _, dd, v, rfl, (fun u h => h), rfl, ic, rfl, hd, KT hw .map, ?_⟩
    refine ⟨.ref a, rfl, .ref (ca "BadWish"), _, _, dd, v, rfl, (fun u h => h), rfl, ic, rfl, hd, KT hw .wish, ?_⟩
    refine ⟨.ref a, rfl, .ref (ca "BadLot"), _, _, dd, v, rfl, (fun u h => h), rfl, ic, rfl, hd, KT hw .lot, ?_⟩
    refine ⟨three, fun l1 hl1 => ?_⟩
    have s1 : Same H' (upd H' l1 (.lst [.bl (decide (x = "BadMap")), .bl (decide (x = "BadWish")), .bl (decide (x = "BadLot"))])) := same_upd hl1
    have hL1 : (upd H' l1 (.lst [.bl (decide (x = "BadMap")), .bl (decide (x = "BadWish")), .bl (decide (x = "BadLot"))])) l1 = some (.lst [.bl (decide (x = "BadMap")), .bl (decide (x = "BadWish")), .bl (decide (x = "BadLot"))]) := upd_same
    generalize upd H' l1 (.lst [.bl (decide (x = "BadMap")), .bl (decide (x = "BadWish")), .bl (decide (x = "BadLot"))]) = H1 at s1 hL1
    have hd1 := s1 _ _ hd
    refine ⟨_, rfl, ?_⟩
    refine ⟨.ref a, rfl, .ref (ca "BadFree"), _, _, dd, v, rfl, (fun u h => h), rfl, ic, rfl, hd1, KT hw .free, ?_⟩
    refine ⟨.ref a, rfl, .ref (ca "BadPlace"), _, _, dd, v, rfl, (fun u h => h), rfl, ic, rfl, hd1, KT hw .place, ?_⟩
    refine ⟨two, fun l2 hl2 => ?_⟩
    have s2 : Same H1 (upd H1 l2 (.lst [.bl (decide (x = "BadFree")), .bl (decide (x = "BadPlace"))])) := same_upd hl2
    have hL2 : (upd H1 l2 (.lst [.bl (decide (x = "BadFree")), .bl (decide (x = "BadPlace"))])) l2 = some (.lst [.bl (decide (x = "BadFree")), .bl (decide (x = "BadPlace"))]) := upd_same
    generalize upd H1 l2 (.lst [.bl (decide (x = "BadFree")), .bl (decide (x = "BadPlace"))]) = H2 at s2 hL2
    refine ⟨l1, l2, _, _, rfl, rfl, s2 _ _ hL1, hL2, fve, fun l3 hl3 => ?_⟩
    generalize eH3 : upd H2 l3 _ = H3
    have s3 : Same H2 H3 := by rw [← eH3]; exact same_upd hl3
    have hL3 : H3 l3 = some (.lst (five.map fun y => V.bl (decide (x = y)))) := by rw [← eH3]; exact upd_same
    clear eH3
    refine at_seq ⟨fve, fun l4 hl4 => ?_⟩
    refine at_name ?_
    generalize eH4 : upd H3 l4 _ = H4
    have s4 : Same H3 H4 := by rw [← eH4]; exact same_upd hl4
    have hL4 : H4 l4 = some (.lst (five.map V.str)) := by rw [← eH4]; exact upd_same
    clear eH4
    have s04 := ((s1.trans s2).trans s3).trans s4
    have hL34 := s4 _ _ hL3
    have hd4 := s04 _ _ hd
    refine ⟨_, rfl, l4, _, rfl, .inl (.inl hL4), fun D hD => ?_⟩
    have keep : ∀ {H' : Hp}, Kp [D] H4 H' → Same H4 H' := fun {H'} k b o e' => k b o (fun m => by rw [List.mem_singleton.mp m, hD] at e'; cases e') e'
    refine by_turns (walk_enum (K := K) (a := l4) (xs := five.map V.str)) (fun i H' => Kp [D] H4 H' ∧ H' D = some (.lst (((five.take i).filter fun y => decide (x = y)).map V.str)))
      ⟨(fun b o nb e' => by rw [upd_ne (ne_of_none e' hD)]; exact e'), upd_same⟩ (fun i H' _ ⟨k, _⟩ => .inl (.inl (keep k _ _ hL4))) ?_ ?_
    · rintro i y H5 H6 hi ⟨k5, hD5⟩ ⟨T1, x1, y1, rfl, hT1, rfl, e1, e2⟩
      cases e1
      obtain ⟨nm, hnm, rfl⟩ := get_map e2
      have i5 : i < five.length := (List.getElem?_eq_some_iff.mp hnm).1
      have i5' : i < 5 := i5
      have s6 : Same H5 (upd H5 T1 (.tup [.int (i : Nat), .str nm])) := same_upd hT1
      have hT6 : (upd H5 T1 (.tup [.int (i : Nat), .str nm])) T1 = some (.tup [.int (i : Nat), .str nm]) := upd_same
      generalize upd H5 T1 (.tup [.int (i : Nat), .str nm]) = H6 at s6 hT6
      have hD6 := s6 _ _ hD5
      have hL6 := s6 _ _ (keep k5 _ _ hL34)
      have k6 : Kp [D] H4 H6 := k5.trans (Same.kp s6)
      refine ⟨T1, _, rfl, .inl (.inl hT6), rfl, _, _, rfl, _, _, rfl, rfl, rfl, ?_⟩
      refine ⟨_, rfl, _, rfl, l3, _, _, _, rfl, rfl, .inl (.inl hL6), atI_nat (v := V.bl (decide (x = nm))) (by rw [List.getElem?_map, hnm]; rfl), _, rfl, ?_⟩
      have tk : five.take (i + 1) = five.take i ++ [nm] := take_more hnm
      refine ite_any (fun e => ?_) (fun e => ⟨k6, by rw [tk, List.filter_append, List.filter_cons, if_neg (by rw [e]; decide), List.filter_nil, List.append_nil]; exact hD6⟩)
      refine ⟨_, rfl, _, hD6, ?_, ?_, ?_⟩
      · rw [List.length_map, sizeLine_eq]
        have := List.length_filter_le (fun y => decide (x = y)) (five.take i)
        rw [List.length_take] at this
        omega
      · intro z o nz ez
        rw [upd_ne (fun y => nz (by rw [y]; simp))]
        exact k6 z o nz ez
      · rw [upd_same, tk, List.filter_append, List.filter_cons, if_pos e, List.filter_nil, List.map_append]
        rfl
    · rintro H5 ⟨k5, hD5⟩
      have s5 := keep k5
      rw [List.length_map, List.take_of_length_le (Nat.le_refl _), five_filter hw] at hD5
      have hd5 := s5 _ _ hd4
      have s05 := s04.trans s5
      refine ⟨.ref a, rfl, rfl, _, dd, v, rfl, wc, rfl, hd5, _, dv, rfl, Dp.same s05 hv, shv, ?_⟩
      refine ⟨two, fun p hp => ?_⟩
      have s6 := same_upd (o := .tup [.ref D, .str dv.shown]) hp
      exact hq (.ref p) _ (s05.trans s6) (.tup (.inl (.inl upd_same)) (.cons (.lst (.inl (.inl (s6 _ _ hD5))) (.cons (.str _) .nil)) (.cons (.str _) .nil)))
  · have s1 := same_upd (o := .lst []) hl
    have s2 := same_upd (o := .tup [.ref l, .str ""]) hp
    exact hM v H1 hm (.ref p) _ (s1.trans s2) (.tup (.inl (.inl upd_same)) (.cons (.lst (.inl (.inl (s2 _ _ upd_same))) .nil) (.cons (.str _) .nil)))
end
end Ft

set_option Elab.async false
set_option linter.all false
set_option maxRecDepth 100000
set_option maxHeartbeats 8000000
/-! What refusals are told to be: one at a time, and rows of them -/
namespace Ft
open PySem PySem.Spec PyProof.Rows L2
open LamX (TabB TabS Tabs ExtN CodeO)
/-- the names of one error and its what as text -/
def saidD (x z : Str) : PyData := .tuple [.list [.str x], .str z]
theorem txt_ok256 : ∀ k : Fin 256, PyData.strOk (txtI ((k.1 : Nat) : Int)) = true := by decide +kernel
theorem txt_ok {i : Int} (h1 : -3 ≤ i) (h2 : i ≤ 240) : PyData.strOk (txtI i) = true := by
  rcases Int.lt_or_le i 0 with h | h
  · have : i = -1 ∨ i = -2 ∨ i = -3 := by omega
    rcases this with rfl | rfl | rfl <;> decide +kernel
  · obtain ⟨n, rfl⟩ := Int.eq_ofNat_of_zero_le h
    exact txt_ok256 ⟨n, by omega⟩
theorem rw_ok {x : Str} (h : RW5 x) : PyData.strOk x = true := by cases h <;> decide +kernel
theorem said_canLay {x z : Str} (hx : PyData.strOk x = true) (hz : PyData.strOk z = true) : (saidD x z).canLay0 = true := by
  simp [saidD, PyData.canLay0, PyData.canLayAll0, hx, hz]
theorem said_shaped {x z : Str} (hx : PyData.strOk x = true) (hz : PyData.strOk z = true) : SeqAt.shaped (saidD x z) = true := by
  refine shaped_iff.mpr ⟨said_canLay hx hz, ?_⟩
  simp [saidD, PyData.depth, PyData.depthAll]
theorem said_eqv {x z : Str} (hx : PyData.strOk x = true) (hz : PyData.strOk z = true) : PyData.eqv (saidD x z) (saidD x z) = true := SeqAt.eqv_refl _ (said_canLay hx hz)
theorem txt_shown (i : Int) : (PyData.int i).shown = txtI i := rfl
theorem saids_shaped {ds : List PyData} (h : ∀ d ∈ ds, ∃ x z, d = saidD x z ∧ PyData.strOk x = true ∧ PyData.strOk z = true) : SeqAt.shaped (.list ds) = true := by
  refine shaped_iff.mpr ⟨?_, ?_⟩
  · simp only [PyData.canLay0]
    refine can_all.mpr fun e he => ?_
    obtain ⟨x, z, rfl, hx, hz⟩ := h e he
    exact said_canLay hx hz
  · simp only [PyData.depth]
    have := depth_all (n := 2) (ds := ds) fun e he => by
      obtain ⟨x, z, rfl, _⟩ := h e he
      simp [saidD, PyData.depth, PyData.depthAll]
    omega
theorem saids_eqv {ds : List PyData} (h : ∀ d ∈ ds, ∃ x z, d = saidD x z ∧ PyData.strOk x = true ∧ PyData.strOk z = true) : PyData.eqv (.list ds) (.list ds) = true := SeqAt.eqv_refl _ (shaped_iff.mp (saids_shaped h)).1
/-- it stays where a list of other things is changed -/
theorem said_keep {K : PySem.W.Frag} {H : Hp} {g : Addr} {ys zs : List V} {v : V} {x z : Str} (hg : H g = some (.lst ys)) (hy : ys ≠ [.str x]) (h : Dp K H v (saidD x z)) : Dp K (upd H g (.lst zs)) v (saidD x z) := by
  have l := fun b (hb : b ∈ [g]) => (show ∃ o, H b = some o ∧ (∀ xs, o ≠ .tup xs) ∧ ∀ q xs, o ≠ .frz q (.tup xs) by
    rw [List.mem_singleton.mp hb]
    exact ⟨_, hg, (fun _ z => nomatch z), (fun _ _ z => nomatch z)⟩)
  have k : Kp [g] H (upd H g (.lst zs)) := fun b u nb eb => by
    rw [upd_ne (fun y => nb (by rw [y]; simp))]
    exact eb
  cases h with
  | tup hT hA =>
    cases hA with
    | cons h1 h2 =>
      cases h2 with
      | cons h3 h4 =>
        cases h4
        cases h3
        cases h1 with
        | lst hL hB =>
          cases hB with
          | cons h5 h6 =>
            cases h6
            cases h5
            refine .tup (k.sqT l hT) (.cons (.lst ?_ (.cons (.str _) .nil)) (.cons (.str _) .nil))
            rcases hL with (e | ⟨o, e⟩) | e
            · refine .inl (.inl ?_)
              rw [upd_ne (fun q => ?_)]
              · exact e
              · rw [q, hg] at e
                exact hy (HO.lst.inj (Option.some.inj e))
            · refine .inl (.inr ⟨o, ?_⟩)
              rw [upd_ne (fun q => ?_)]
              · exact e
              · rw [q, hg] at e
                cases e
            · exact .inr e
section
variable {P : Program} {w : World} {K : PySem.W.Frag} {mg : Str → Option Value} {base : Heap} {ca : Str → Addr}
theorem mw_rw {x : Str} (h : MW x) : RW5 x := by
  cases h
  · exact .map
  · exact .wish
/-- a call that is refused, with a number -/
theorem raised_int {tl : XK → Hp → VK → Prop} {H1 : Hp} {R : VK} {x : Str} {i : Int} (hx : RW5 x) (hi : i.natAbs ≤ 1000) (h : ∀ (E : XK) (Q : VK), Raised K ca H1 E (x, .int i) → tl E H1 Q) (q : ∀ v H2, Same H1 H2 → Dp K H2 v (saidD x (txtI i)) → R v H2) : TTRaised K ca tl H1 R := by
  refine ⟨fun cls d H' => cls = .ref (ca x) ∧ ∃ dd, d = some dd ∧ H' dd = some (.xd [("what", .int i)]) ∧ Same H1 H', fun _ _ => False, h _ _ ?_, (fun _ _ z => z.elim), ?_⟩
  · intro d H' v s' hd hv
    cases dp_int hv
    exact ⟨rfl, d, rfl, hd, s'⟩
  · rintro cls d H' ⟨rfl, dd, rfl, hd, s'⟩
    exact ⟨x, dd, _, .int i, rfl, rfl, hd, hx, .int _, shows_tame (by simp only [tame, decide_eq_true_eq]; exact hi) (by simp [nodes]) (by simp [PyData.depth]), fun v2 H2 s2 hv => q v2 H2 (s'.trans s2) hv⟩
end
end Ft

set_option Elab.async false
set_option linter.all false
set_option maxRecDepth 100000
set_option maxHeartbeats 8000000
namespace Ft
open PySem PySem.Spec PyProof.Rows L2
open LamX (TabB TabS Tabs ExtN CodeO)
theorem dueF_map {K : PySem.W.Frag} {ca : Str → Addr} {H : Hp} {E : XK} {dc dl df : PyData} {x : Str} {i : Int} {ok : Chart → List Nat → List Nat → Prop} (h : mapErr dc = some (x, i)) (r : Raised K ca H E (x, .int i)) : DueLF K ca H E dc dl df ok := by
  refine ⟨fun x' i' h' => ?_, fun C ec o => ?_⟩
  · rw [h] at h'
    cases h'
    exact r
  · rw [ec, mapErr_chart o] at h
    cases h
theorem dueF_lot {K : PySem.W.Frag} {ca : Str → Addr} {H : Hp} {E : XK} {C : Chart} (o : C.Ok) {dl df : PyData} {ok : Chart → List Nat → List Nat → Prop} (h : lotOk C.n dl = false) (r : Raised K ca H E ("BadLot", .int (-1))) : DueLF K ca H E (chartD C) dl df ok := by
  refine ⟨fun x' i' h' => ?_, fun C' ec o' => ⟨fun _ => r, fun h' => ?_, fun S F e1 e2 a1 a2 a3 => ?_⟩⟩
  · rw [mapErr_chart o] at h'
    cases h'
  · rw [← chartD_inj ec, h] at h'
    cases h'
  · rw [chartD_inj ec, e1, lotOk_lot a1 a3.1] at h
    cases h
theorem dueF_free {K : PySem.W.Frag} {ca : Str → Addr} {H : Hp} {E : XK} {C : Chart} (o : C.Ok) {S : List Nat} (inS : ∀ x ∈ S, x < C.n) (upS : S.Pairwise (· < ·)) {df : PyData} {ok : Chart → List Nat → List Nat → Prop} (h : freeD C df = false) (r : Raised K ca H E ("BadFree", .int (-1))) : DueLF K ca H E (chartD C) (lotD S) df ok := by
  refine ⟨fun x' i' h' => ?_, fun C' ec o' => ⟨fun h' => ?_, fun _ _ => r, fun S' F e1 e2 a1 a2 a3 => ?_⟩⟩
  · rw [mapErr_chart o] at h'
    cases h'
  · rw [← chartD_inj ec, lotOk_lot upS inS] at h'
    cases h'
  · rw [chartD_inj ec, e2, freeD_of a2 a3.2] at h
    cases h
theorem rows_dpF {K : PySem.W.Frag} {H : Hp} : ∀ {Ws : List (Addr × List Nat)}, (∀ r ∈ Ws, SqT K H r.1 (r.2.map vN)) → DpAll K H (rfs Ws) (Ws.map fun r => lotD r.2)
  | [], _ => .nil
  | r :: Ws, h => .cons (dp_lot (h r List.mem_cons_self)) (rows_dpF fun q m => h q (List.mem_cons_of_mem _ m))
theorem no_freeD {C : Chart} {d : PyData} (h : lotOk C.n d = false) : freeD C d = false := by
  cases e : freeD C d with
  | false => rfl
  | true =>
    obtain ⟨F, rfl, up, lt⟩ := freeD_is e
    rw [lotOk_lot up fun a ha => (lt a ha).1] at h
    cases h
section
variable {P : Program} {w : World} {K : PySem.W.Frag} {mg : Str → Option Value} {base : Heap} {ca : Str → Addr} {cc Pt : Addr}
/-! ### _law_refused -/
def lamT (Pt : Addr) : List (Addr × Str) := [(Pt, (("_law_refused" : Str) ++ ".<locals>.") ++ "<lambda>")]
def sp_law_refused (K : PySem.W.Frag) (Pt : Addr) : Sp := fun vs H Q _ => ∃ (c lo fr : Addr) (C : Chart) (S F : List Nat), vs = [.ref c, .ref lo, .ref fr] ∧ IsChart K H c C ∧ C.Ok ∧ C.roads.length < 240 ∧ SqT K H lo (S.map vN) ∧ (∀ x ∈ S, x < C.n) ∧ S.Pairwise (· < ·) ∧ SqT K H fr (F.map vN) ∧ (∀ x ∈ F, x < C.n ∧ x ∉ C.wished) ∧ F.Pairwise (· < ·) ∧ Tabs (lamT Pt) H ∧ ∀ H', Q (.bl true) H'
theorem cal_law_refused (T : Txt mg) (D : DefT K mg "_law_refused" s_law_refused cc) (tb : TabB base mg cc Pt) (l_law_way_raised : CalLG P w K mg base "_law_way_raised" (TTRaised K ca)) (c_law_way_no_charts : Cal P w K mg base 1 "_law_way_no_charts" (sp_law_way_no_charts K)) (c_law_way_no_lots : Cal P w K mg base 1 "_law_way_no_lots" (sp_law_way_no_lots K))
    (c_pinch : CalX P w K mg base 7 "pinch" (spX_pinch K ca)) : CalG P w K mg base 20 "_law_refused" (sp_law_refused K Pt) := by
  refine calG_ofT D sc_law_refused (fun _ _ _ _ _ _ us hl => match us, hl with | [_, _, _], _ => rfl) (fun vs H Q E h => ?_) (fun f A outer s H vs Q E hg hr h => ?_)
  · obtain ⟨c, lo, fr, C, S, F, rfl, _⟩ := h
    rfl
  · obtain ⟨c, lo, fr, C, S, F, rfl, hC, ok, r240, hS, inS, upS, hF, inF, upF, tabs, q⟩ := h
    have hU := hr.units
    have hG := hg
    have n60 := ok.n60
    have lF : F.length ≤ 60 := Nat.le_trans (up_len upF fun a ha => (inF a ha).1) n60
    refine ⟨_, (pss_cons (ps_for PassesOwn.never rfl (show PI _ _ _ (iList K _) from pi_list (pe_c c_law_way_no_charts hr (by decide) (by rfl) (pa_cons (pv 0) pa_nil))) (show PG _ _ (gTup K 3 _) from pg_tup (by rfl) (pgs_cons (pg_name (i := 3) sc_law_refused.nd rfl (Or.inr rfl)) (pgs_cons (pg_name (i := 4) sc_law_refused.nd rfl (Or.inl rfl)) (pgs_cons (pg_name (i := 5) sc_law_refused.nd rfl (Or.inl rfl)) pgs_nil)))) (pss_one (ps_if (pt_cmpR (show OpR _ _ (rNeD K) from op_neD hU) (pe_lG (T := lamT Pt) 12 l_law_way_raised (by rfl) tb rfl rfl hr (by decide) (lam_scope (sc := L2.defScope s_law_refused) rfl (by decide +kernel)) (by rfl) (fun _ _ _ _ _ => by rfl) (fun A outer s H E f c' hr => (pe_x lam_takes c_pinch hr (by decide) (by rfl) (pa_cons (pv 3) (pa_cons pe_non (pa_cons pe_non pa_nil))))) hG) (pe_tup (pa_cons (pe_lst (pa_cons (pv 4) pa_nil)) (pa_cons (pv 5) pa_nil))) (nomark _)) (pss_one (ps_ret pe_bl)) pss_nil)))
      (pss_cons (ps_for PassesOwn.never rfl (show PI _ _ _ (iList K _) from pi_list (pe_op op_cat (pe_c c_law_way_no_lots hr (by decide) (by rfl) (pa_cons (pv 0) pa_nil)) (pe_lst (pa_cons (pe_callTy (show CallR _ _ (rListOf K) from call_listOf) (by rfl) T.list (by decide +kernel) (pa_cons (pv 1) pa_nil)) pa_nil)))) (pg_name (i := 3) sc_law_refused.nd rfl (Or.inr rfl)) (pss_one (ps_if (pt_cmpR (show OpR _ _ (rNeD K) from op_neD hU) (pe_lG (T := lamT Pt) 12 l_law_way_raised (by rfl) tb rfl rfl hr (by decide) (lam_scope (sc := L2.defScope s_law_refused) rfl (by decide +kernel)) (by rfl) (fun _ _ _ _ _ => by rfl) (fun A outer s H E f c' hr => (pe_x lam_takes c_pinch hr (by decide) (by rfl) (pa_cons (pv 0) (pa_cons (pv 3) (pa_cons pe_non pa_nil))))) hG) (pe_tup (pa_cons (pe_lst (pa_cons pe_str pa_nil)) (pa_cons pe_str pa_nil))) (nomark _)) (pss_one (ps_ret pe_bl)) pss_nil)))
      (pss_cons (ps_for PassesOwn.never rfl (show PI _ _ _ (iList K _) from pi_list (pe_op op_cat (pe_op op_cat (pe_c c_law_way_no_lots hr (by decide) (by rfl) (pa_cons (pv 0) pa_nil)) (pe_lst (pa_cons (pe_callTy (show CallR _ _ (rListOf K) from call_listOf) (by rfl) T.list (by decide +kernel) (pa_cons (pv 2) pa_nil)) pa_nil))) (pe_lc (own := [("p", 6)]) rfl sc_law_refused.nd (show PI _ _ _ (iTup K _) from pi_tup (pe_ix (show IxR _ (rIxT K) from ix_tup) (pv 0) pe_int (fun _ _ => rfl))) (blkOk_by (N := ["chart", "lot", "free", "thing", "name", "what", "p"]) (sc := L2.defScope s_law_refused) (by decide +kernel)) (fun _ _ _ _ _ => (pg_name (i := 6) sc_law_refused.nd rfl (Or.inl rfl))) (fun _ _ _ _ _ => pts_nil) (fun _ _ _ _ _ => (pe_callTy (show CallR _ _ (rTupleOf K) from call_tupleOf) (by rfl) T.tuple (by decide +kernel) (pa_cons (pe_callB (show CallR _ _ (rSortedIT K) from cr_sortedIT) (by rfl) T.sorted (by decide +kernel) (pa_cons (pe_op (show OpR _ _ (rCatA K) from op_catA) (pv 2) (pe_tup (pa_cons (pv 6) pa_nil))) pa_nil)) pa_nil)))))) (pg_name (i := 3) sc_law_refused.nd rfl (Or.inr rfl)) (pss_one (ps_if (pt_cmpR (show OpR _ _ (rNeD K) from op_neD hU) (pe_lG (T := lamT Pt) 12 l_law_way_raised (by rfl) tb rfl rfl hr (by decide) (lam_scope (sc := L2.defScope s_law_refused) rfl (by decide +kernel)) (by rfl) (fun _ _ _ _ _ => by rfl) (fun A outer s H E f c' hr => (pe_x lam_takes c_pinch hr (by decide) (by rfl) (pa_cons (pv 0) (pa_cons (pv 1) (pa_cons (pv 3) pa_nil))))) hG) (pe_tup (pa_cons (pe_lst (pa_cons pe_str pa_nil)) (pa_cons pe_str pa_nil))) (nomark _)) (pss_one (ps_ret pe_bl)) pss_nil)))
      (pss_one (ps_ret pe_bl))))), ?_⟩
    refine ⟨_, rfl, c, C, rfl, hC, ok, r240, fun t xs ds H1 hT1 hd1 ld nm s1 => ?_⟩
    have tabs1 := tabs_same tabs s1
    have hC1 := hC.same s1
    have hS1 := Same.sqT s1 hS
    have hF1 := Same.sqT s1 hF
    have lx := dpAll_length hd1
    have due : ∀ {x z : Str} {tx tz : TE} {v : V} {H' : Hp} {D : Bool → Hp → Prop} {σ : L2.St}, RW5 x → PyData.strOk z = true → (∀ H2 Q, Q (.str x) H2 → tx σ H2 Q) → (∀ H2 Q, Q (.str z) H2 → tz σ H2 Q) → Dp K H' v (saidD x z) → (∀ H2, Same H' H2 → D false H2) →
        tTup (tCons (tLst (tCons tx tNil)) (tCons tz tNil)) σ H' fun u H2 => rNeD K v u H2 fun b H3 => ∃ z, b = .bl z ∧ D z H3 := by
      intro x z tx tz v H' D σ hx okz rx rz hv hD
      have okx := rw_ok hx
      refine rx _ _ ⟨by show 1 ≤ sizeLine; decide, fun l1 hl1 => rz _ _ ⟨by show 2 ≤ sizeLine; decide, fun p hp => ?_⟩⟩
      have s3 := same_upd (o := .lst [.str x]) hl1
      have s4 := same_upd (o := .tup [.ref l1, .str z]) hp
      refine ⟨saidD x z, saidD x z, Dp.same (s3.trans s4) hv, .tup (.inl (.inl upd_same)) (.cons (.lst (.inl (.inl (s4 _ _ upd_same))) (.cons (.str _) .nil)) (.cons (.str _) .nil)), said_shaped okx okz, said_shaped okx okz, _, rfl, ?_⟩
      rw [said_eqv okx okz]
      exact hD _ (s3.trans s4)
    have okM : PyData.strOk "-1" = true := by rw [← txt_m1]; exact txt_ok (by decide) (by decide)
    refine ⟨t, rfl, ⟨_, .inl (.inl hT1)⟩, for_list (K := K) (xs := xs) (fun i σ H' => ∃ v3 v4 v5 v6 : Option V, σ = [some (.ref c), some (.ref lo), some (.ref fr), v3, v4, v5, v6] ∧ ExtN H1 H' ∧ Tabs (lamT Pt) H') ⟨_, _, _, _, rfl, ExtN.refl _, tabs1⟩ (fun i σ H' _ ⟨_, _, _, _, _, e, _⟩ => ext_sqL e (.inl (.inl hT1))) ?_ ?_⟩
    · rintro i y σ H2 hy ⟨v3, v4, v5, v6, rfl, e2, tabs2⟩
      obtain ⟨d, hd, dy⟩ := dpAll_get hd1 hy
      obtain ⟨dc, x, j, rfl, er, mw, hj1, hj2⟩ := nm d (List.mem_of_getElem? hd)
      obtain ⟨tt, zs, rfl, hTt, hZ⟩ := dp_tup (dp_ext e2 _ _ dy)
      cases hZ with
      | cons z1 hZ =>
      cases hZ with
      | cons z2 hZ =>
      cases hZ with
      | cons z3 hZ =>
      cases hZ
      cases z2
      cases z3
      rename_i thing
      refine ⟨tt, _, rfl, hTt, rfl, _, _, rfl, _, _, rfl, _, _, rfl, rfl, ?_⟩
      refine ⟨tabs2, fun H3 e3 t3 => ?_⟩
      have e13 := ExtN.trans e2 e3
      refine raised_int (mw_rw mw) (by omega) (fun E Q' r => ⟨_, rfl, _, .non, .non, dc, .none, .none, rfl, dp_ext e3 _ _ z1, .non, .non, dueF_map er r⟩) fun v H4 s4 hv => ?_
      refine due (mw_rw mw) (txt_ok hj1 hj2) (fun _ _ h => ⟨_, rfl, h⟩) (fun _ _ h => ⟨_, rfl, h⟩) hv fun H5 s5 => iteF ?_
      exact ⟨_, _, _, _, rfl, ExtN.trans e13 (ext_same (s4.trans s5)), tabs_same t3 (s4.trans s5)⟩
    rintro σ H2 ⟨v3, v4, v5, v6, rfl, e2, tabs2⟩
    refine ⟨_, rfl, c, C, rfl, ext_chart e2 hC1, ok, fun t2 ys es H3 hT3 hd3 le bad s3 => ?_⟩
    have e3 := ExtN.trans e2 (ext_same s3)
    have ly := dpAll_length hd3
    refine ⟨_, rfl, lo, _, rfl, .inr (ext_sqT e3 hS1), fun la hla => ⟨by show 1 ≤ sizeLine; decide, fun lb hlb => ?_⟩⟩
    generalize eH4 : upd H3 la _ = H4 at hlb ⊢
    have s4 : Same H3 H4 := by rw [← eH4]; exact same_upd hla
    have hA4 : H4 la = some (.lst (S.map vN)) := by rw [← eH4]; exact upd_same
    clear eH4
    generalize eH5 : upd H4 lb _ = H5
    have s5 : Same H4 H5 := by rw [← eH5]; exact same_upd hlb
    have hB5 : H5 lb = some (.lst [.ref la]) := by rw [← eH5]; exact upd_same
    clear eH5
    have s35 := s4.trans s5
    refine ⟨t2, lb, _, _, rfl, rfl, s35 _ _ hT3, hB5, by rw [sizeLine_eq, ly, le]; show 11 + 1 ≤ 16777216; decide, fun t3 ht3 => ?_⟩
    generalize eH6 : upd H5 t3 _ = H6
    have s6 : Same H5 H6 := by rw [← eH6]; exact same_upd ht3
    have hT6 : H6 t3 = some (.lst (ys ++ [.ref la])) := by rw [← eH6]; exact upd_same
    clear eH6
    have e6 := ExtN.trans e3 (ext_same (s35.trans s6))
    have tabs6 := tabs_same (tabs_same tabs2 s3) (s35.trans s6)
    have hd6 : DpAll K H6 (ys ++ [.ref la]) (es ++ [.list (S.map nD)]) := dpAll_app (DpAll.same (s35.trans s6) hd3) (.cons (.lst (.inl (.inl (s6 _ _ (s5 _ _ hA4)))) (dp_nats S)) .nil)
    have bad6 : ∀ d ∈ es ++ [PyData.list (S.map nD)], lotOk C.n d = false := fun d hd => by
      rcases List.mem_append.mp hd with hd | hd
      · exact bad d hd
      · rw [List.mem_singleton.mp hd]
        rfl
    have hC6 := ext_chart e6 hC1
    have hS6 := ext_sqT e6 hS1
    have hF6 := ext_sqT e6 hF1
    refine ⟨t3, rfl, ⟨_, .inl (.inl hT6)⟩, for_list (K := K) (xs := ys ++ [.ref la]) (fun i σ H' => ∃ v3 v4 v5 v6 : Option V, σ = [some (.ref c), some (.ref lo), some (.ref fr), v3, v4, v5, v6] ∧ ExtN H6 H' ∧ Tabs (lamT Pt) H') ⟨_, _, _, _, rfl, ExtN.refl _, tabs6⟩ (fun i σ H' _ ⟨_, _, _, _, _, e, _⟩ => ext_sqL e (.inl (.inl hT6))) ?_ ?_⟩
    · rintro i y σ H7 hy ⟨v3', v4', v5', v6', rfl, e7, tabs7⟩
      obtain ⟨d, hd, dy⟩ := dpAll_get hd6 hy
      have bd := bad6 d (List.mem_of_getElem? hd)
      refine ⟨tabs7, fun H8 e8 t8 => ?_⟩
      have e68 := ExtN.trans e7 e8
      refine raised_int (x := "BadLot") (i := -1) .lot (by decide) (fun E Q' r => ⟨_, rfl, _, rfl, .ref c, y, .non, chartD C, d, .none, rfl, dp_ext e68 _ _ (dp_chart hC6), dp_ext e68 _ _ dy, .non, dueF_lot ok bd r⟩) fun w1 H9 s9 hw1 => ?_
      rw [txt_m1] at hw1
      refine due .lot okM (fun _ _ h => h) (fun _ _ h => h) hw1 fun H10 s10 => iteF ?_
      exact ⟨_, _, _, _, rfl, ExtN.trans e68 (ext_same (s9.trans s10)), tabs_same t8 (s9.trans s10)⟩
    rintro σ H7 ⟨v3', v4', v5', v6', rfl, e7, tabs7⟩
    have hC7 := ext_chart e7 hC6
    have hS7 := ext_sqT e7 hS6
    have hF7 := ext_sqT e7 hF6
    refine ⟨_, rfl, c, C, rfl, hC7, ok, fun t4 ys2 es2 H8 hT8 hd8 le2 bad2 s8 => ?_⟩
    have ly2 := dpAll_length hd8
    refine ⟨_, rfl, fr, _, rfl, .inr (Same.sqT s8 hF7), fun la hla => ⟨by show 1 ≤ sizeLine; decide, fun lb hlb => ?_⟩⟩
    generalize eH9 : upd H8 la _ = H9 at hlb ⊢
    have s9 : Same H8 H9 := by rw [← eH9]; exact same_upd hla
    have hA9 : H9 la = some (.lst (F.map vN)) := by rw [← eH9]; exact upd_same
    clear eH9
    generalize eH10 : upd H9 lb _ = H10
    have s10 : Same H9 H10 := by rw [← eH10]; exact same_upd hlb
    have hB10 : H10 lb = some (.lst [.ref la]) := by rw [← eH10]; exact upd_same
    clear eH10
    have s810 := s9.trans s10
    refine ⟨t4, lb, _, _, rfl, rfl, s810 _ _ hT8, hB10, by rw [sizeLine_eq, ly2, le2]; show 11 + 1 ≤ 16777216; decide, fun t5 ht5 => ?_⟩
    generalize eH11 : upd H10 t5 _ = H11
    have s11 : Same H10 H11 := by rw [← eH11]; exact same_upd ht5
    have hT11 : H11 t5 = some (.lst (ys2 ++ [.ref la])) := by rw [← eH11]; exact upd_same
    clear eH11
    have hd11 : DpAll K H11 (ys2 ++ [.ref la]) (es2 ++ [.list (F.map nD)]) := dpAll_app (DpAll.same (s810.trans s11) hd8) (.cons (.lst (.inl (.inl (s11 _ _ (s10 _ _ hA9)))) (dp_nats F)) .nil)
    have s711 := s8.trans (s810.trans s11)
    have hC11 := hC7.same s711
    have hF11 := Same.sqT s711 hF7
    obtain ⟨r, wd, ts, hA11⟩ := id hC11
    have lw := up_len ok.upW ok.inW
    refine ⟨_, rfl, _, _, _, _, rfl, rfl, hA11.top, rfl, wd, rfl, ⟨_, hA11.wis⟩, fun D hD => ?_⟩
    refine lc_tup (K := K) (a := wd) (xs := C.wished.map vN) (fun j H' => ∃ N : List (Addr × List Nat), Kp [D] H11 H' ∧ H' D = some (.lst (rfs N)) ∧ N.length = j ∧ (∀ p ∈ N, SqT K H' p.1 (p.2.map vN)) ∧ ∀ p ∈ N, freeD C (lotD p.2) = false)
      ⟨[], (fun b o nb e' => by rw [upd_ne (ne_of_none e' hD)]; exact e'), upd_same, rfl, (fun _ h => nomatch h), fun _ h => nomatch h⟩ (fun j H' _ ⟨_, k, _⟩ => Same.sqT (kp_same hD k) hA11.wis) ?_ ?_
    · rintro j x H12 hx ⟨N, k12, hD12, lN, hN, nf⟩
      obtain ⟨y, hy, rfl⟩ := get_map hx
      have jl := (List.getElem?_eq_some_iff.mp hy).1
      have yw := List.mem_of_getElem? hy
      have s12 := kp_same hD k12
      refine ⟨rfl, ?_⟩
      show tOp (rCatA K) (tVar 2) (tTup (tCons (tVar 6) tNil)) _ H12 _
      refine Gv.go (K := K) (gv_cat (gv_var rfl (show Dp K H12 (.ref fr) (.tuple (F.map nD)) from dp_lot (Same.sqT s12 hF11))) (gv_tup (gva_cons (gv_var rfl (dp_nat y)) gva_nil) (by simp)) (by simp; omega)) fun v H13 s13 hv => ?_
      have eq : (.tuple (F.map nD ++ [nD y]) : PyData) = lotD (F ++ [y]) := by
        unfold lotD
        rw [List.map_append]
        rfl
      rw [eq] at hv
      obtain ⟨a, rfl, ha⟩ := lot_dp hv
      rw [vN_map] at ha
      refine ⟨a, _, rfl, ha, fun ns' pq pm _ hpq => ?_⟩
      obtain ⟨m, em⟩ : ∃ m, ns' = iN m := natZ fun x hx => by
        obtain ⟨z, _, rfl⟩ := List.mem_map.mp (pm.mem_iff.mp hx)
        omega
      subst em
      generalize eH14 : upd H13 pq _ = H14
      have s14 : Same H13 H14 := by rw [← eH14]; exact same_upd hpq
      have hQ14 : H14 pq = some (.lst ((iN m).map V.int)) := by rw [← eH14]; exact upd_same
      clear eH14
      refine ⟨pq, _, rfl, .inl ⟨.inl (.inl hQ14), fun tp htp => ?_⟩⟩
      generalize eH15 : upd H14 tp _ = H15
      have s15 : Same H14 H15 := by rw [← eH15]; exact same_upd htp
      have hT15 : SqT K H15 tp (m.map vN) := by rw [← eH15, vN_map]; exact .inl (.inl upd_same)
      clear eH15
      have hm : y ∈ m := by
        have h1 : (y : Int) ∈ iN m := pm.mem_iff.mpr (iN_mem.mpr (by simp))
        exact iN_mem.mp h1
      have noF : freeD C (lotD m) = false := by
        cases ef : freeD C (lotD m) with
        | false => rfl
        | true =>
          obtain ⟨F', e, _, lt⟩ := freeD_is ef
          have := lotD_inj e
          subst this
          exact absurd yw (lt y hm).2
      have s1215 := s13.trans (s14.trans s15)
      have hD15 := s1215 _ _ hD12
      refine ⟨_, hD15, by rw [rfs_len, sizeLine_eq]; omega, N ++ [(tp, m)], kp_put (k12.trans (Same.kp s1215)), by rw [upd_same, ← rfs_add], by rw [List.length_append, lN]; rfl, fun p hp => ?_, fun p hp => ?_⟩
      · rcases List.mem_append.mp hp with h | h
        · exact kp_lst.sqT (lists_one hD15) (Same.sqT s1215 (hN p h))
        · rw [List.mem_singleton.mp h]
          exact kp_lst.sqT (lists_one hD15) hT15
      · rcases List.mem_append.mp hp with h | h
        · exact nf p h
        · rw [List.mem_singleton.mp h]
          exact noF
    rintro H12 ⟨N, k12, hD12, lN, hN, nf⟩
    rw [List.length_map] at lN
    have s12 := kp_same hD k12
    refine ⟨t5, D, _, _, rfl, rfl, s12 _ _ hT11, hD12, by rw [rfs_len, List.length_append, ly2, le2, sizeLine_eq]; show 11 + 1 + N.length ≤ _; omega, fun t6 ht6 => ?_⟩
    generalize eH13 : upd H12 t6 _ = H13
    have s13 : Same H12 H13 := by rw [← eH13]; exact same_upd ht6
    have hT13 : H13 t6 = some (.lst ((ys2 ++ [.ref la]) ++ rfs N)) := by rw [← eH13]; exact upd_same
    clear eH13
    have hd13 : DpAll K H13 ((ys2 ++ [.ref la]) ++ rfs N) ((es2 ++ [.list (F.map nD)]) ++ N.map fun r => lotD r.2) := dpAll_app (DpAll.same (s12.trans s13) hd11) (rows_dpF fun r hr => Same.sqT s13 (hN r hr))
    have bad13 : ∀ d ∈ (es2 ++ [PyData.list (F.map nD)]) ++ N.map fun r => lotD r.2, freeD C d = false := fun d hd => by
      rcases List.mem_append.mp hd with hd | hd
      · rcases List.mem_append.mp hd with hd | hd
        · exact no_freeD (bad2 d hd)
        · rw [List.mem_singleton.mp hd]
          rfl
      · obtain ⟨p, hp, rfl⟩ := List.mem_map.mp hd
        exact nf p hp
    have s1113 := s12.trans s13
    have e13 := ExtN.trans e7 (ext_same (s711.trans s1113))
    have hC13 := hC11.same s1113
    have hS13 := Same.sqT (s711.trans s1113) hS7
    have tabs13 := tabs_same tabs7 (s711.trans s1113)
    refine ⟨t6, rfl, ⟨_, .inl (.inl hT13)⟩, for_list (K := K) (xs := (ys2 ++ [.ref la]) ++ rfs N) (fun i σ H' => ∃ v3 v4 v5 v6 : Option V, σ = [some (.ref c), some (.ref lo), some (.ref fr), v3, v4, v5, v6] ∧ ExtN H13 H' ∧ Tabs (lamT Pt) H') ⟨_, _, _, _, rfl, ExtN.refl _, tabs13⟩ (fun i σ H' _ ⟨_, _, _, _, _, e, _⟩ => ext_sqL e (.inl (.inl hT13))) ?_ ?_⟩
    · rintro i y σ H14 hy ⟨v3, v4, v5, v6, rfl, e14, tabs14⟩
      obtain ⟨d, hd, dy⟩ := dpAll_get hd13 hy
      have bd := bad13 d (List.mem_of_getElem? hd)
      refine ⟨tabs14, fun H15 e15 t15 => ?_⟩
      have e1315 := ExtN.trans e14 e15
      refine raised_int (x := "BadFree") (i := -1) .free (by decide) (fun E Q' r => ⟨_, rfl, _, rfl, _, rfl, .ref c, .ref lo, y, chartD C, lotD S, d, rfl, dp_ext e1315 _ _ (dp_chart hC13), dp_lot (ext_sqT e1315 hS13), dp_ext e1315 _ _ dy, dueF_free ok inS upS bd r⟩) fun w1 H16 s16 hw1 => ?_
      rw [txt_m1] at hw1
      refine due .free okM (fun _ _ h => h) (fun _ _ h => h) hw1 fun H17 s17 => iteF ?_
      exact ⟨_, _, _, _, rfl, ExtN.trans e1315 (ext_same (s16.trans s17)), tabs_same t15 (s16.trans s17)⟩
    rintro σ H14 ⟨v3, v4, v5, v6, rfl, e14, tabs14⟩
    exact q _
end
end Ft

set_option Elab.async false
set_option linter.all false
set_option maxRecDepth 100000
set_option maxHeartbeats 8000000
namespace Ft
open PySem PySem.Spec PyProof.Rows L2
theorem ahead_mem {rs : List (Nat × Nat)} {W : List Nat} {b : Nat} : b ∈ (rs.filter fun p => decide (p.1 ∈ W)).map (·.2) ↔ ∃ x ∈ W, (x, b) ∈ rs := by
  simp only [List.mem_map, List.mem_filter, decide_eq_true_eq]
  constructor
  · rintro ⟨⟨x, y⟩, ⟨h1, h2⟩, rfl⟩
    exact ⟨x, h2, h1⟩
  · rintro ⟨x, h1, h2⟩
    exact ⟨(x, b), ⟨h2, h1⟩, rfl⟩
section
variable {P : Program} {w : World} {K : PySem.W.Frag} {mg : Str → Option Value} {base : Heap} {t1 t2 : Tok}
/-! ### _law_map_met -/
def sp_law_map_met (K : PySem.W.Frag) : Sp := fun vs H Q _ => ∃ (c : Addr) (C : Chart) (a : Nat), vs = [.ref c, vN a] ∧ IsChart K H c C ∧ C.Ok ∧ a < C.n ∧ ∀ q H', Same H H' → H q = none → H' q = some (.lst ((met C.n C.roads C.wished [a]).map vN)) → Q (.ref q) H'
end
end Ft

set_option Elab.async false
set_option linter.all false
set_option maxRecDepth 100000
set_option maxHeartbeats 8000000
namespace Ft
open PySem PySem.Spec PyProof.Rows L2
/-- the rows of what each place comes to -/
structure TabAt (H : Hp) (C : Chart) (q : Addr) (rows : List Addr) : Prop where
  len : rows.length = C.n
  at_ : LotsAt H q rows fun a => met C.n C.roads C.wished [a]
theorem TabAt.same {H H' : Hp} (k : Same H H') {C : Chart} {q : Addr} {rows : List Addr} (h : TabAt H C q rows) : TabAt H' C q rows := ⟨h.len, k _ _ h.at_.top, fun a l e => k _ _ (h.at_.each a l e)⟩
theorem rows_at {K : PySem.W.Frag} {H : Hp} : ∀ {L : List Row} {lls : List (List Nat)}, L.map (·.2) = lls.map iN → (∀ p ∈ L, SqT K H p.1 (p.2.map V.int)) → RowsAt K H (L.map (·.1)) lls
  | [], [], _, _ => .nil
  | [], _ :: _, e, _ => by simp at e
  | _ :: _, [], e, _ => by simp at e
  | p :: L, l :: lls, e, h => by
    rw [List.map_cons, List.map_cons] at e
    injection e with e1 e2
    refine .cons ?_ (rows_at e2 fun q hq => h q (List.mem_cons_of_mem _ hq))
    have := h p List.mem_cons_self
    rw [e1, ← vN_map] at this
    exact this
section
variable {P : Program} {w : World} {K : PySem.W.Frag} {mg : Str → Option Value} {base : Heap} {t1 t2 : Tok}
/-! ### _law_map_table -/
def sp_law_map_table (K : PySem.W.Frag) : Sp := fun vs H Q _ => ∃ (c : Addr) (C : Chart), vs = [.ref c] ∧ IsChart K H c C ∧ C.Ok ∧ ∀ q rows H', Same H H' → H q = none → (∀ l ∈ rows, H l = none) → TabAt H' C q rows → Q (.ref q) H'
/-! ### _law_map_piece -/
def sp_law_map_piece (K : PySem.W.Frag) : Sp := fun vs H Q _ => ∃ (c tb : Addr) (C : Chart) (rows : List Addr) (a : Nat), vs = [.ref c, .ref tb, vN a] ∧ IsChart K H c C ∧ C.Ok ∧ a < C.n ∧ TabAt H C tb rows ∧ ∀ t H', Same H H' → SqT K H' t ((pieceOf C a).map vN) → Q (.ref t) H'
end
end Ft

set_option Elab.async false
set_option linter.all false
set_option maxRecDepth 100000
set_option maxHeartbeats 8000000
namespace Ft
open PySem PySem.Spec PyProof.Rows L2
section
variable {P : Program} {w : World} {K : PySem.W.Frag} {mg : Str → Option Value} {base : Heap} {t1 t2 : Tok}
/-! ### _law_map_lot -/
def sp_law_map_lot (K : PySem.W.Frag) : Sp := fun vs H Q _ => ∃ (p l c : Addr) (C : Chart), vs = [.ref p, .ref c] ∧ PoolAt H p l ∧ IsChart K H c C ∧ C.Ok ∧ ∀ (t : Addr) (U : List Nat) (H' : Hp), SqT K H' t (U.map vN) → Upto U C.n → PoolAt H' p l → Kp [p, l] H H' → Q (.ref t) H'
theorem cal_law_map_lot (T : Txt mg) (D : Def K mg "_law_map_lot" s_law_map_lot) (c_law_draw : Cal P w K mg base 2 "_law_draw" sp_law_draw) : Cal P w K mg base 3 "_law_map_lot" (sp_law_map_lot K) := by
  refine cal_of D sc_law_map_lot (fun _ _ _ _ _ _ us hl => match us, hl with | [_, _], _ => rfl) (fun vs H Q E h => ?_) (fun f cdv A outer s H vs Q E hr h => ?_)
  · obtain ⟨p, l, c, C, rfl, _⟩ := h
    rfl
  · obtain ⟨p, l, c, C, rfl, hP, ⟨r, wd, ts, hC⟩, ok, q⟩ := h
    have n60 := ok.n60
    refine ⟨_, (pss_cons (ps_set (i := 2) sc_law_map_lot.nd rfl (Or.inr rfl) (pe_c c_law_draw hr (by decide) (by rfl) (pa_cons (pv 0) (pa_cons pe_int pa_nil))))
      (pss_cons (ps_if (pt_cmpR op_eq (pv 2) pe_int (nomark _)) (pss_one (ps_ret (pe_ifExp (pt_cmpR op_eq (pe_c c_law_draw hr (by decide) (by rfl) (pa_cons (pv 0) (pa_cons pe_int pa_nil))) pe_int (nomark _)) (pe_tup pa_nil) (pe_tupRg rfl (by rfl) T.tuple (prg_1 (by rfl) T.range (pe_ix (show IxR _ (rIxT K) from ix_tup) (pv 1) pe_int (fun _ _ => rfl))))))) pss_nil)
      (pss_one (ps_ret (pe_callTy (show CallR _ _ (rTupleOf K) from call_tupleOf) (by rfl) T.tuple (by decide +kernel) (pa_cons (pe_lc (own := [("a", 3)]) rfl sc_law_map_lot.nd (pi_range1 (by rfl) T.range (pa_cons (pe_ix (show IxR _ (rIxT K) from ix_tup) (pv 1) pe_int (fun _ _ => rfl)) pa_nil)) (blkOk_by (N := ["pool", "chart", "way", "a"]) (sc := L2.defScope s_law_map_lot) (by decide +kernel)) (fun _ _ _ _ _ => (pg_name (i := 3) sc_law_map_lot.nd rfl (Or.inl rfl))) (fun _ _ _ _ _ => pts_one (pt_mid (pt_cond (pt_cmpR op_eq (pv 2) pe_int (nomark _)) (pt_cmpR op_gt (pe_c c_law_draw hr (by decide) (by rfl) (pa_cons (pv 0) (pa_cons pe_int pa_nil))) pe_int (nomark _)) (pt_cmpR op_eq (pe_c c_law_draw hr (by decide) (by rfl) (pa_cons (pv 0) (pa_cons (pe_op op_add pe_int (pv 2)) pa_nil))) pe_int (nomark _))))) (fun _ _ _ _ _ => (pv 3))) pa_nil)))))), ?_⟩
    refine ⟨_, rfl, p, l, 6, rfl, hP, by decide, by decide, fun way H1 hway hP1 k1 => ?_⟩
    have hC1 : ChartAt K H1 c C r wd ts := hC.keep k1 hP.lists
    refine ⟨_, rfl, rfl, _, rfl, ite_any (fun _ => ?_) (fun hw => ?_)⟩
    · refine ⟨_, rfl, p, l, 2, rfl, hP1, by decide, by decide, fun y H2 hy hP2 k2 => ?_⟩
      have hC2 : ChartAt K H2 c C r wd ts := hC1.keep k2 hP1.lists
      refine ⟨rfl, _, rfl, ite_any (fun _ => ?_) (fun _ => ?_)⟩
      · refine ⟨Nat.zero_le _, fun t ht => ?_⟩
        exact q t [] _ (.inl (.inl upd_same)) (Upto.nil _) (hP2.same (same_upd ht)) ((k1.trans k2).trans (Same.kp (same_upd ht)))
      · refine ⟨_, rfl, _, _, _, _, rfl, rfl, hC2.top, rfl, _, rfl, .of_le (by omega) (by omega) (by omega) (by omega), fun t ht => ?_⟩
        exact q t (List.range C.n) _ (.inl (.inl (by rw [upd_same, rgV_nat]))) (upto_range _) (hP2.same (same_upd ht)) ((k1.trans k2).trans (Same.kp (same_upd ht)))
    · refine ⟨_, rfl, _, _, _, _, rfl, rfl, hC1.top, rfl, _, rfl, by omega, by omega, fun e he => ?_⟩
      have epl : e ∉ [p, l] := hP1.free he
      refine lc_range (lo := 0) (n := C.n) (fun i H' => ∃ G : List Nat, Kp [p, l, e] H1 H' ∧ H' e = some (.lst (G.map vN)) ∧ PoolAt H' p l ∧ Upto G i)
        ⟨[], (fun b o x e' => by rw [upd_ne (ne_of_none e' he)]; exact e'), upd_same, hP1.same (same_upd he), Upto.nil 0⟩ ?_ ?_
      · rintro i H4 hi ⟨G, k4, hE, hP4, hG⟩
        have e0 : (0 : Int) + (i : Nat) = (i : Nat) := by omega
        refine ⟨rfl, ?_⟩
        rw [e0]
        refine ⟨fun _ H' => PoolAt H' p l ∧ Kp [p, l] H4 H', ⟨_, rfl, rfl, _, rfl, ite_any (fun _ => ?_) (fun _ => ?_)⟩, ?_⟩
        · exact ⟨_, rfl, p, l, 4, rfl, hP4, by decide, by decide, fun y H5 _ hP5 k5 => ⟨_, _, rfl, rfl, _, rfl, hP5, k5⟩⟩
        · exact ⟨_, rfl, _, rfl, _, _, rfl, rfl, p, l, 1 + way, rfl, hP4, by omega, by omega, fun y H5 _ hP5 k5 => ⟨rfl, _, rfl, hP5, k5⟩⟩
        rintro b H5 ⟨hP5, k5⟩
        have k45 : Kp [p, l, e] H1 H5 := fun b o nb eb => k5 _ _ (fun m => nb (by simp only [List.mem_cons, List.not_mem_nil, or_false] at m ⊢; rcases m with m | m <;> simp [m])) (k4 b o nb eb)
        have hE5 := k5 _ _ epl hE
        refine ite_any (fun _ => ?_) (fun _ => ?_)
        · refine ⟨_, rfl, _, hE5, by rw [List.length_map]; exact small1000 (by have := hG.len; omega), G ++ [i], ?_, by rw [upd_same, List.map_append]; rfl, hP5.set epl, hG.more⟩
          intro b o nb eb
          rw [upd_ne (fun z => nb (by rw [z]; simp))]
          exact k45 b o nb eb
        · exact ⟨G, k45, hE5, hP5, hG.wider⟩
      · rintro H4 ⟨G, k4, hE, hP4, hG⟩
        have k34 : Kp [p, l] H H4 := kp_made k1 he k4
        refine ⟨e, _, rfl, .inl ⟨.inl (.inl hE), fun t ht => ?_⟩⟩
        exact q t G _ (.inl (.inl upd_same)) hG (hP4.same (same_upd ht)) (k34.trans (Same.kp (same_upd ht)))
/-! ### _law_map_standing -/
def sp_law_map_standing (K : PySem.W.Frag) : Sp := fun vs H Q _ => ∃ (p l c : Addr) (C : Chart) (most : Nat), vs = [.ref p, .ref c, vN most] ∧ PoolAt H p l ∧ IsChart K H c C ∧ C.Ok ∧ 0 < C.n ∧ 0 < most ∧ most ≤ 9 ∧ ∀ (t : Addr) (S : List Nat) (H' : Hp), SqT K H' t (S.map vN) → (∀ x ∈ S, x < C.n) → 1 ≤ S.length → S.length ≤ most → PoolAt H' p l → Kp [p, l] H H' → Q (.ref t) H'
end
end Ft

set_option Elab.async false
set_option linter.all false
set_option maxRecDepth 100000
set_option maxHeartbeats 8000000
namespace Ft
open PySem PySem.Spec PyProof.Rows L2
open LamX (TabB TabS Tabs ExtN CodeO)
theorem roads63 {C : Chart} (ok : C.Ok) (n7 : C.n ≤ 7) : C.roads.length ≤ 49 := by
  have nd : C.roads.Nodup := ok.upR.imp fun {a b} hab (e : a = b) => by
    subst e
    unfold ltP at hab
    omega
  have nd2 : (C.roads.map fun p => p.1 * 7 + p.2).Nodup := by
    refine List.pairwise_map.mpr (nd.imp_of_mem fun {a b} ha hb ne e => ne ?_)
    have h1 := ok.inR a ha
    have h2 := ok.inR b hb
    exact Prod.ext (by omega) (by omega)
  have := len_of_lt _ 49 nd2 fun x hx => by
    obtain ⟨p, hp, rfl⟩ := List.mem_map.mp hx
    have := ok.inR p hp
    omega
  rw [List.length_map] at this
  omega
section
variable {P : Program} {w : World} {K : PySem.W.Frag} {mg : Str → Option Value} {base : Heap} {ca : Str → Addr} {Pt : Addr}
def sp_law (K : PySem.W.Frag) (Pt : Addr) : Sp := fun vs H Q _ => ∃ (a : Addr) (ns : List Int), vs = [.ref a] ∧ SqL K H a (ns.map V.int) ∧ Tabs (lamT Pt) H ∧ ∀ H', Q (.bl true) H'
theorem fn_law {f : Addr} {fd : FuncData} (T : Txt mg) (F : L2.Fun K "law" "law" s_law f fd) (c_law_pool : Cal P w K mg base 2 "_law_pool" (sp_law_pool K)) (c_law_map_drawn : Cal P w K mg base 5 "_law_map_drawn" (sp_law_map_drawn K)) (c_law_map_lot : Cal P w K mg base 3 "_law_map_lot" (sp_law_map_lot K))
    (c_law_way_regions : Cal P w K mg base 2 "_law_way_regions" (sp_law_way_regions K)) (c_law_way_nearest : Cal P w K mg base 2 "_law_way_nearest" (sp_law_way_nearest K)) (v_pinch : Cal P w K mg base 7 "pinch" (sp_pinch K)) (c_law_planted : CalG P w K mg base 8 "_law_planted" (sp_law_planted K)) (c_law_refused : CalG P w K mg base 20 "_law_refused" (sp_law_refused K Pt)) : FnG P w K mg base 21 f fd ["script"] (sp_law K Pt) := by
  refine gfun F sc_law (fun vs H Q E h => ?_) (fun cdv A outer s H vs Q E hg hr h => ?_)
  · obtain ⟨a, ns, rfl, _⟩ := h
    rfl
  · obtain ⟨sa, ns, rfl, hS, tabs, q⟩ := h
    have hU := hr.units
    have hG := hg
    refine ⟨_, (pss_cons (ps_set (i := 1) sc_law.nd rfl (Or.inl rfl) (pe_c c_law_pool hr (by decide) (by rfl) (pa_cons (pv 0) pa_nil)))
      (pss_cons (ps_set (i := 2) sc_law.nd rfl (Or.inr rfl) (pe_c c_law_map_drawn hr (by decide) (by rfl) (pa_cons (pv 1) (pa_cons pe_int pa_nil))))
      (pss_cons (ps_par (i := 3) (j := 4) (by rfl) sc_law.nd rfl rfl (by decide) rfl rfl (pa_cons (pe_c c_law_map_lot hr (by decide) (by rfl) (pa_cons (pv 1) (pa_cons (pv 2) pa_nil))) (pa_cons (pe_c c_law_map_lot hr (by decide) (by rfl) (pa_cons (pv 1) (pa_cons (pv 2) pa_nil))) pa_nil)) (by rfl))
      (pss_cons (ps_set (i := 5) sc_law.nd rfl (Or.inl rfl) (pe_callTy (show CallR _ _ (rTupleOf K) from call_tupleOf) (by rfl) T.tuple (by decide +kernel) (pa_cons (pe_lc (own := [("p", 9)]) rfl sc_law.nd (show PI _ _ _ (iTup K _) from pi_tup (pv 4)) (blkOk_by (N := ["script", "pool", "chart", "lot", "some", "free", "inner", "pairs", "places", "p"]) (sc := L2.defScope s_law) (by decide +kernel)) (fun _ _ _ _ _ => (pg_name (i := 9) sc_law.nd rfl (Or.inl rfl))) (fun _ _ _ _ _ => pts_one (pt_cmpR (show OpR _ _ (rIn K true) from op_notIn_seq) (pv 9) (pe_ix (show IxR _ (rIxT K) from ix_tup) (pv 2) pe_int (fun _ _ => rfl)) (by rfl))) (fun _ _ _ _ _ => (pv 9))) pa_nil)))
      (pss_cons (ps_set (i := 6) sc_law.nd rfl (Or.inl rfl) (pe_callTy (show CallR _ _ (rTupleOf K) from call_tupleOf) (by rfl) T.tuple (by decide +kernel) (pa_cons (pe_lc (own := [("p", 9)]) rfl sc_law.nd (pi_range1 (by rfl) T.range (pa_cons (pe_ix (show IxR _ (rIxT K) from ix_tup) (pv 2) pe_int (fun _ _ => rfl)) pa_nil)) (blkOk_by (N := ["script", "pool", "chart", "lot", "some", "free", "inner", "pairs", "places", "p"]) (sc := L2.defScope s_law) (by decide +kernel)) (fun _ _ _ _ _ => (pg_name (i := 9) sc_law.nd rfl (Or.inl rfl))) (fun _ _ _ _ _ => pts_one (pt_cmpR (show OpR _ _ (rIn K true) from op_notIn_seq) (pv 9) (pe_ix (show IxR _ (rIxT K) from ix_tup) (pv 2) pe_int (fun _ _ => rfl)) (by rfl))) (fun _ _ _ _ _ => (pv 9))) pa_nil)))
      (pss_cons (ps_set (i := 7) sc_law.nd rfl (Or.inl rfl) (pe_c c_law_way_regions hr (by decide) (by rfl) (pa_cons (pv 2) (pa_cons (pv 3) pa_nil))))
      (pss_cons (ps_for PassesOwn.never rfl (show PI _ _ _ (iList K _) from pi_list (pe_lst (pa_cons (pe_tup pa_nil) (pa_cons (pv 5) (pa_cons (pv 6) pa_nil))))) (pg_name (i := 8) sc_law.nd rfl (Or.inl rfl)) (pss_one (ps_if (pt_cmpR op_ne (pe_callB (show CallR _ _ (rRepr K) from cr_repr hG hU) (by rfl) T.repr (by decide +kernel) (pa_cons (pe_c v_pinch hr (by decide) (by rfl) (pa_cons (pv 2) (pa_cons (pv 3) (pa_cons (pv 8) pa_nil)))) pa_nil)) (pe_callB (show CallR _ _ (rRepr K) from cr_repr hG hU) (by rfl) T.repr (by decide +kernel) (pa_cons (pe_c c_law_way_nearest hr (by decide) (by rfl) (pa_cons (pv 7) (pa_cons (pv 8) pa_nil))) pa_nil)) (nomark _)) (pss_one (ps_ret pe_bl)) pss_nil)))
      (pss_one (ps_ret (pe_and (pe_g c_law_planted hG hr (by decide) (by rfl) (pa_cons (pv 1) pa_nil)) (pe_one (pe_g c_law_refused hG hr (by decide) (by rfl) (pa_cons (pv 2) (pa_cons (pv 3) (pa_cons (pv 5) pa_nil))))))))))))))), ?_⟩
    refine ⟨_, rfl, sa, ns, rfl, hS, fun p l H1 s1 _ _ hP1 => ?_⟩
    have pl : ∀ {H' : Hp}, PoolAt H' p l → ∀ b ∈ [p, l], ∃ xs, H' b = some (.lst xs) := fun {H'} hP b hb => by
      obtain ⟨_, _, _, h1, h2, _⟩ := hP
      simp only [List.mem_cons, List.not_mem_nil, or_false] at hb
      rcases hb with rfl | rfl
      · exact ⟨_, h1⟩
      · exact ⟨_, h2⟩
    have tabs1 := tabs_same tabs s1
    refine ⟨_, rfl, p, l, 7, rfl, hP1, by decide, fun c C H2 hC2 ok n7 hP2 k2 => ?_⟩
    have n60 := ok.n60
    have r49 := roads63 ok n7
    have tabs2 := tabs_kp tabs1 k2 (pl hP1)
    refine ⟨_, rfl, _, rfl, p, l, c, C, rfl, hP2, hC2, ok, fun lo S H3 hS3 upS hP3 k3 => ?_⟩
    have tabs3 := tabs_kp tabs2 k3 (pl hP2)
    have hC3 := hC2.keep k3 hP2.lists
    refine ⟨_, rfl, _, rfl, p, l, c, C, rfl, hP3, hC3, ok, fun so S2 H4 hO4 upO hP4 k4 => ⟨_, _, rfl, ?_⟩⟩
    have tabs4 := tabs_kp tabs3 k4 (pl hP3)
    have hC4 := hC3.keep k4 hP3.lists
    have hS4 := k4.sqT hP3.lists hS3
    obtain ⟨r, wd, ts, hA4⟩ := id hC4
    refine ⟨_, rfl, so, rfl, ⟨_, hO4⟩, fun D hD => ?_⟩
    refine lc_tup (K := K) (xs := S2.map vN) (fun i H' => Kp [D] H4 H' ∧ H' D = some (.lst (((S2.take i).filter fun b => !decide (b ∈ C.wished)).map vN)))
      ⟨(fun b o nb e' => by rw [upd_ne (ne_of_none e' hD)]; exact e'), upd_same⟩ (fun i H' _ ⟨k, _⟩ => Same.sqT (kp_same hD k) hO4) ?_ ?_
    · rintro i x H5 hx ⟨k5, hD5⟩
      obtain ⟨b, hb, rfl⟩ := get_map hx
      have iS : i < S2.length := (List.getElem?_eq_some_iff.mp hb).1
      have l60 : S2.length ≤ C.n := up_len upO.1 upO.2
      have s5 := kp_same hD k5
      have hA5 := hA4.same s5
      refine ⟨rfl, ?_⟩
      refine ⟨_, rfl, _, rfl, _, _, _, _, rfl, rfl, hA5.top, rfl, wd, _, rfl, .inr hA5.wis, rfl, all_vN C.wished, _, rfl, ?_⟩
      show if (!inV (vN b) (C.wished.map vN)) = true then _ else _
      rw [in_vN]
      by_cases h1 : b ∈ C.wished
      · rw [decide_eq_true h1]
        refine iteF ⟨k5, ?_⟩
        rw [take_filter hb, decide_eq_true h1, if_neg (by simp), List.append_nil]
        exact hD5
      · rw [decide_eq_false h1]
        refine iteT ?_
        have lf := List.length_filter_le (fun b => !decide (b ∈ C.wished)) (S2.take i)
        rw [List.length_take] at lf
        refine ⟨_, rfl, _, hD5, by rw [List.length_map, sizeLine_eq]; omega, kp_put k5, ?_⟩
        rw [upd_same, take_filter hb, decide_eq_false h1, if_pos (by simp), List.map_append]
        rfl
    rintro H5 ⟨k5, hD5⟩
    rw [List.length_map, List.take_length] at hD5
    have s5 := kp_same hD k5
    refine ⟨D, _, rfl, .inl ⟨.inl (.inl hD5), fun fo hfo => ?_⟩⟩
    generalize eH6 : upd H5 fo _ = H6
    have s6 : Same H5 H6 := by rw [← eH6]; exact same_upd hfo
    have hF6 : SqT K H6 fo ((S2.filter fun b => !decide (b ∈ C.wished)).map vN) := by rw [← eH6]; exact .inl (.inl upd_same)
    clear eH6
    have s46 := s5.trans s6
    obtain ⟨F, eF⟩ : ∃ F, (S2.filter fun b => !decide (b ∈ C.wished)) = F := ⟨_, rfl⟩
    rw [eF] at hF6
    have upF : F.Pairwise (· < ·) := by rw [← eF]; exact upO.1.filter _
    have inF : ∀ x ∈ F, x < C.n ∧ x ∉ C.wished := fun x hx => by
      rw [← eF, List.mem_filter] at hx
      exact ⟨upO.2 x hx.1, by simpa using hx.2⟩
    clear eF
    have hA6 := hA4.same s46
    refine at_name ?_
    dsimp only
    refine at_seq ⟨_, rfl, _, _, _, _, rfl, rfl, hA6.top, rfl, _, rfl, by omega, by omega, fun D2 hD2 => ?_⟩
    refine lc_range (lo := 0) (n := C.n) (fun i H' => Kp [D2] H6 H' ∧ H' D2 = some (.lst (((List.range i).filter fun b => !decide (b ∈ C.wished)).map vN)))
      ⟨(fun b o nb e' => by rw [upd_ne (ne_of_none e' hD2)]; exact e'), upd_same⟩ ?_ ?_
    · rintro i H7 hi ⟨k7, hD7⟩
      have s7 := kp_same hD2 k7
      have hA7 := hA6.same s7
      have e0 : (0 : Int) + (i : Nat) = (i : Nat) := by omega
      refine ⟨rfl, ?_⟩
      rw [e0]
      refine ⟨_, rfl, _, rfl, _, _, _, _, rfl, rfl, hA7.top, rfl, wd, _, rfl, .inr hA7.wis, rfl, all_vN C.wished, _, rfl, ?_⟩
      show if (!inV (vN i) (C.wished.map vN)) = true then _ else _
      rw [in_vN]
      by_cases h1 : i ∈ C.wished
      · rw [decide_eq_true h1]
        refine iteF ⟨k7, ?_⟩
        rw [List.range_succ, List.filter_append, List.filter_cons, decide_eq_true h1, if_neg (by simp), List.filter_nil, List.append_nil]
        exact hD7
      · rw [decide_eq_false h1]
        have lf := List.length_filter_le (fun b => !decide (b ∈ C.wished)) (List.range i)
        rw [List.length_range] at lf
        refine iteT ⟨_, rfl, _, hD7, by rw [List.length_map, sizeLine_eq]; omega, kp_put k7, ?_⟩
        rw [upd_same, List.range_succ, List.filter_append, List.filter_cons, decide_eq_false h1, if_pos (by simp), List.map_append]
        rfl
    rintro H7 ⟨k7, hD7⟩
    have s7 := kp_same hD2 k7
    refine ⟨D2, _, rfl, .inl ⟨.inl (.inl hD7), fun io hio => ?_⟩⟩
    generalize eH8 : upd H7 io _ = H8
    have s8 : Same H7 H8 := by rw [← eH8]; exact same_upd hio
    have hI8 : SqT K H8 io (((List.range C.n).filter fun b => !decide (b ∈ C.wished)).map vN) := by rw [← eH8]; exact .inl (.inl upd_same)
    clear eH8
    have s48 := s46.trans (s7.trans s8)
    have hC8 := hC4.same s48
    have hS8 := Same.sqT s48 hS4
    have hF8 := Same.sqT (s7.trans s8) hF6
    have lS := up_len upS.1 upS.2
    refine at_name ?_
    dsimp only
    refine at_seq ⟨_, rfl, _, rfl, c, lo, C, S, rfl, hC8, ok, n7, by omega, hS8, upS.2, by omega, fun pr R H9 s9 hR9 pR eR => ?_⟩
    have lR : R.length ≤ 128 := by
      have := congrArg List.length eR
      rw [List.length_map, regs_len] at this
      rw [this]
      have h1 : (besideL C S).length ≤ 7 := by
        have := up_len (those_up C.n fun b => b ∉ C.wished ∧ ComesS C S b) fun a h => (those_mem.mp h).1
        exact Nat.le_trans (List.length_filter_le _ _) (Nat.le_trans this n7)
      exact Nat.pow_le_pow_right (by decide) h1
    have s49 := s48.trans s9
    have hC9 := hC8.same s9
    have hS9 := Same.sqT s9 hS8
    have hF9 := Same.sqT s9 hF8
    have hI9 := Same.sqT s9 hI8
    refine at_name ?_
    dsimp only
    refine at_seq ⟨Nat.zero_le _, fun em hem => ?_⟩
    generalize eH10 : upd H9 em _ = H10
    have s10 : Same H9 H10 := by rw [← eH10]; exact same_upd hem
    have hE10 : SqT K H10 em (([] : List Nat).map vN) := by rw [← eH10]; exact .inl (.inl upd_same)
    clear eH10
    refine ⟨_, rfl, _, rfl, by show 3 ≤ sizeLine; decide, fun g hg => ?_⟩
    generalize eH11 : upd H10 g _ = H11
    have s11 : Same H10 H11 := by rw [← eH11]; exact same_upd hg
    have hG11 : H11 g = some (.lst [.ref em, .ref fo, .ref io]) := by rw [← eH11]; exact upd_same
    clear eH11
    have s911 := s10.trans s11
    have s411 := s49.trans s911
    have tabs11 := tabs_same tabs4 s411
    refine ⟨g, rfl, ⟨_, .inl (.inl hG11)⟩, for_list (K := K) (xs := [V.ref em, .ref fo, .ref io]) (fun i σ H' => ∃ v8 v9 : Option V, σ = [some (.ref sa), some (.ref p), some (.ref c), some (.ref lo), some (.ref so), some (.ref fo), some (.ref io), some (.ref pr), v8, v9] ∧ Same H11 H') ⟨_, _, rfl, Same.rfl' _⟩ (fun i σ H' _ ⟨_, _, _, s⟩ => .inl (.inl (s _ _ hG11))) ?_ ?_⟩
    · rintro i y σ H12 hy ⟨v8, v9, rfl, s12⟩
      have s912 := s911.trans s12
      obtain ⟨tr, U, rfl, hT12, upU, inU⟩ : ∃ (tr : Addr) (U : List Nat), y = .ref tr ∧ SqT K H12 tr (U.map vN) ∧ U.Pairwise (· < ·) ∧ ∀ x ∈ U, x < C.n ∧ x ∉ C.wished := by
        match i, hy with
        | 0, hy => cases hy; exact ⟨em, [], rfl, Same.sqT (s11.trans s12) hE10, .nil, fun _ h => nomatch h⟩
        | 1, hy => cases hy; exact ⟨fo, F, rfl, Same.sqT s912 hF9, upF, inF⟩
        | 2, hy => cases hy; exact ⟨io, _, rfl, Same.sqT s912 hI9, (range_up C.n).filter _, fun x hx => by
          rw [List.mem_filter, List.mem_range] at hx
          exact ⟨hx.1, by simpa using hx.2⟩⟩
        | n + 3, hy => cases hy
      have hC12 := hC9.same s912
      have hS12 := Same.sqT s912 hS9
      have nlt : ∀ (Z : List Nat) (x : Nat), x ∈ nextL C Z → x < 64 := fun Z x hx => by
        have := (nextL_mem.mp hx).1
        omega
      have nl : ∀ Z, (nextL C Z).length ≤ 64 := fun Z => by
        have := up_len (those_up C.n fun b => (∃ a ∈ Z, (a, b) ∈ C.roads) ∧ (b ∈ C.wished ∨ b ∉ Z)) fun a h => (those_mem.mp h).1
        exact Nat.le_trans this (by omega)
      refine ⟨_, rfl, _, rfl, _, rfl, c, lo, tr, C, S, U, rfl, hC12, ok, hS12, upS.2, upS.1, hT12, inU, upU, fun t X m H13 s13 sp hT13 => ?_⟩
      refine ⟨_, encL (nextL C X), rfl, dp_lot hT13, shows_row (nlt X) (nl X), ?_⟩
      obtain ⟨Y0, hY0, fY0⟩ := region_free (S := S) ok fun a ha => (inU a ha).2
      refine ⟨_, rfl, _, rfl, pr, tr, C, R, U, rfl, ok, s13 _ _ (s912 _ _ hR9), pR.same (s912.trans s13), Same.sqT s13 hT12, by omega, ?_, fun nx Y H14 s14 hN mY fY few least => ?_⟩
      · rw [← eR] at hY0
        obtain ⟨z, hz, rfl⟩ := List.mem_map.mp hY0
        exact ⟨z, hz, goodB_iff.mpr fY0⟩
      rw [eR] at mY few least
      have eN := nearest_is (up_nodup upS.1) sp mY fY few least
      refine ⟨_, encL (nextL C Y), rfl, dp_lot hN, shows_row (nlt Y) (nl Y), ?_⟩
      rw [eN]
      refine ⟨rfl, _, rfl, ite_any (fun hc => ?_) (fun _ => ?_)⟩
      · simp at hc
      · exact ⟨_, _, rfl, s12.trans (s13.trans s14)⟩
    · rintro σ H12 ⟨v8, v9, rfl, s12⟩
      have s412 := s411.trans s12
      have hP12 := hP4.same s412
      refine ⟨_, rfl, p, l, rfl, hP12, fun H13 hP13 k13 => ⟨_, rfl, iteT ?_⟩⟩
      exact ⟨_, rfl, _, rfl, _, rfl, c, lo, fo, C, S, F, rfl, (hC4.same s412).keep k13 hP12.lists, ok, by omega, k13.sqT hP12.lists (Same.sqT s412 hS4), upS.2, upS.1, k13.sqT hP12.lists (Same.sqT (s911.trans s12) hF9), inF, upF, tabs_kp (tabs_same tabs4 s412) k13 (pl hP12), q⟩
end
end Ft

set_option Elab.async false
set_option linter.all false
set_option maxRecDepth 100000
set_option maxHeartbeats 8000000
namespace Ft
open PySem PySem.Spec PyProof.Rows L2
open LamX (TabB TabS Tabs ExtN CodeO)
/-! ### all together -/
theorem def_mk {K : PySem.W.Frag} {h : Heap} {mg : Str → Option Value} {x : Str} {st : Stmt} {f : Addr} {oc : Value} {od an : Option Addr} {osl : Array (Option Value)} {kV doc pm cdv ct : Value} (X : K.In h) (G : h.Ns mainGlobals mg) (a : PySem.W.nsIn K mainGlobals x = some (some (.ref f)))
    (l : K.lookup f = some ⟨oc, od, .func (PySem.W.fnOf x x (L2.defArgs st) (L2.defBody st) (L2.defScope st) .none kV doc pm an cdv ct), osl⟩) (c : PySem.W.codeIn K cdv x = true) (k : PySem.W.keepIn K (.ref f) = true) : Def K mg x st :=
  ⟨f, _, fun_mk l c k, PySem.W.mg_of X G a⟩
theorem defT_mk {K : PySem.W.Frag} {h : Heap} {mg : Str → Option Value} {x : Str} {st : Stmt} {f cc : Addr} {oc : Value} {od an : Option Addr} {osl : Array (Option Value)} {kV doc pm ct : Value} (X : K.In h) (G : h.Ns mainGlobals mg) (a : PySem.W.nsIn K mainGlobals x = some (some (.ref f)))
    (l : K.lookup f = some ⟨oc, od, .func (PySem.W.fnOf x x (L2.defArgs st) (L2.defBody st) (L2.defScope st) .none kV doc pm an (.ref cc) ct), osl⟩) (c : PySem.W.codeIn K (.ref cc) x = true) (k : PySem.W.keepIn K (.ref f) = true) : DefT K mg x st cc :=
  ⟨f, oc, od, kV, doc, pm, an, ct, osl, l, c, k, PySem.W.mg_of X G a⟩
theorem txt_mk {K : PySem.W.Frag} {h : Heap} {mg : Str → Option Value} (X : K.In h) (G : h.Ns mainGlobals mg) (z0 : PySem.W.nsIn K mainGlobals "isinstance" = some none) (z1 : PySem.W.nsIn K mainGlobals "len" = some none) (z2 : PySem.W.nsIn K mainGlobals "tuple" = some none) (z3 : PySem.W.nsIn K mainGlobals "int" = some none) (z4 : PySem.W.nsIn K mainGlobals "bool" = some none) (z5 : PySem.W.nsIn K mainGlobals "enumerate" = some none) (z6 : PySem.W.nsIn K mainGlobals "range" = some none) (z7 : PySem.W.nsIn K mainGlobals "set" = some none) (z8 : PySem.W.nsIn K mainGlobals "list" = some none) (z9 : PySem.W.nsIn K mainGlobals "sorted" = some none) (z10 : PySem.W.nsIn K mainGlobals "min" = some none) (z11 : PySem.W.nsIn K mainGlobals "max" = some none) (z12 : PySem.W.nsIn K mainGlobals "repr" = some none) (z13 : PySem.W.nsIn K mainGlobals "dict" = some none) (z14 : PySem.W.nsIn K mainGlobals "str" = some none) (z15 : PySem.W.nsIn K mainGlobals "any" = some none) (z16 : PySem.W.nsIn K mainGlobals "all" = some none) (z17 : PySem.W.nsIn K mainGlobals "sum" = some none) (z18 : PySem.W.nsIn K mainGlobals "zip" = some none) : Txt mg :=
  ⟨PySem.W.mg_none_of X G z0, PySem.W.mg_none_of X G z1, PySem.W.mg_none_of X G z2, PySem.W.mg_none_of X G z3, PySem.W.mg_none_of X G z4, PySem.W.mg_none_of X G z5, PySem.W.mg_none_of X G z6, PySem.W.mg_none_of X G z7, PySem.W.mg_none_of X G z8, PySem.W.mg_none_of X G z9, PySem.W.mg_none_of X G z10, PySem.W.mg_none_of X G z11, PySem.W.mg_none_of X G z12, PySem.W.mg_none_of X G z13, PySem.W.mg_none_of X G z14, PySem.W.mg_none_of X G z15, PySem.W.mg_none_of X G z16, PySem.W.mg_none_of X G z17, PySem.W.mg_none_of X G z18⟩
theorem mgI_mk {K : PySem.W.Frag} {h : Heap} {mg : Str → Option Value} {x : Str} {n : Int} {t : Tok} (X : K.In h) (G : h.Ns mainGlobals mg) (a : PySem.W.nsIn K mainGlobals x = some (some (.int n t))) : MgI mg x n := ⟨t, PySem.W.mg_of X G a⟩
theorem ok_init {P : Program} {w : World} {K : PySem.W.Frag} {mg : Str → Option Value} {base : Heap} {fI : Addr} {fd : FuncData} (F : L2.Fun K "__init__" "Refused.__init__" s_init fI fd) : FnOk P w K mg base L2.CX0 1 fI fd ["self", "what"] (spInit K) := by
  refine F.ok sc_init (fun vs H Q E h => ?_) (fun cdv A outer s H vs Q E hr h => ?_)
  · obtain ⟨a, C, v, rfl, _⟩ := h
    rfl
  · obtain ⟨a, C, v, rfl, oe, no, ha, q⟩ := h
    refine ⟨_, (pss_one (ps_ost (pv 0) (pv 1))), ?_⟩
    exact ⟨_, rfl, _, rfl, a, C, rfl, oe, no, .inl ⟨ha, fun dx n ne => q dx n ne⟩⟩
/-- what the head tells of a class of errors -/
structure ErrH (K : PySem.W.Frag) (C fI : Addr) (x : Str) : Prop where
  a : PySem.W.nsIn K mainGlobals x = some (some (.ref C))
  cl : ∃ nm q N bs bm sn sub ab col dd k0 k1 k2 k3 k5, K.lookup C = some (excClassObj nm q C N bs bm true sn sub ab col dd k0 k1 k2 k3 k5 "ValueError.__new__") ∧ PySem.HandSPX.refsVE bm = true
  sa : PySem.W.findIn K (.ref C) "__setattr__" = some (some (.builtin "object.__setattr__"))
  ga : PySem.W.findIn K (.ref C) "__getattribute__" = some (some (.builtin "BaseException.__getattribute__"))
  gg : PySem.W.findIn K (.ref C) "__getattr__" = some none
  nw : PySem.W.findIn K (.ref C) "what" = some none
  ii : PySem.W.findIn K (.ref C) "__init__" = some (some (.ref fI))
  ex : PySem.W.subIn K (.ref C) (.type "BaseException") = some true
  ty : PySem.W.typeIn K (.ref C) = some (.type "type")
  kp : PySem.W.keepIn K (.ref C) = true
  hd : PySem.W.hasDictIn K C = true
  ic : PySem.W.isClsIn K C = true
theorem errH_mk {K : PySem.W.Frag} {C fI : Addr} {x : Str} {nm q : Str} {N : Addr} {bs bm : List Value} {sn : List Str} {sub : List Value} {ab : Bool} {col : Option Bool} {dd : Option Addr} {k0 k1 k2 k3 k5 : Option Value}
    (a : PySem.W.nsIn K mainGlobals x = some (some (.ref C))) (cl : K.lookup C = some (excClassObj nm q C N bs bm true sn sub ab col dd k0 k1 k2 k3 k5 "ValueError.__new__")) (r : PySem.HandSPX.refsVE bm = true)
    (sa : PySem.W.findIn K (.ref C) "__setattr__" = some (some (.builtin "object.__setattr__"))) (ga : PySem.W.findIn K (.ref C) "__getattribute__" = some (some (.builtin "BaseException.__getattribute__"))) (gg : PySem.W.findIn K (.ref C) "__getattr__" = some none) (nw : PySem.W.findIn K (.ref C) "what" = some none)
    (ii : PySem.W.findIn K (.ref C) "__init__" = some (some (.ref fI))) (ex : PySem.W.subIn K (.ref C) (.type "BaseException") = some true) (ty : PySem.W.typeIn K (.ref C) = some (.type "type")) (kp : PySem.W.keepIn K (.ref C) = true) (hd : PySem.W.hasDictIn K C = true) (ic : PySem.W.isClsIn K C = true) : ErrH K C fI x :=
  ⟨a, ⟨nm, q, N, bs, bm, sn, sub, ab, col, dd, k0, k1, k2, k3, k5, cl, r⟩, sa, ga, gg, nw, ii, ex, ty, kp, hd, ic⟩
theorem er_mk {P : Program} {w : World} {K : PySem.W.Frag} {h : Heap} {mg : Str → Option Value} {base : Heap} {ca : Str → Addr} {x : Str} {C fI : Addr} {fd : FuncData} (X : K.In h) (G : h.Ns mainGlobals mg) (e : ErrH K C fI x) (tI : PySem.W.typeIn K (.ref fI) = some (.type "function")) (F : L2.Fun K "__init__" "Refused.__init__" s_init fI fd)
    (b : Binds K fd ["self", "what"] []) (hc : ca x = C) : Er P w K mg base ca x := by
  subst hc
  exact ⟨fI, fd, ⟨PySem.W.mg_of X G e.a, ⟨e.cl, e.sa, e.ex, e.ty, e.kp⟩, e.ii, tI, e.nw, ⟨e.ga, e.gg, e.ex, e.hd⟩⟩, ok_init F, b⟩
theorem exm_mk {K : PySem.W.Frag} {ca : Str → Addr} {x y : Str} {C D fI fJ : Addr} {b : Bool} (e : ErrH K D fJ y) (h : PySem.W.subIn K (.ref C) (.ref D) = some b) (hc : ca x = C) (hd : ca y = D) : Exm K ca x y b := by
  subst hc hd
  unfold Exm
  have h1 : (PySem.W.subIn K (.ref (ca y)) (.type "BaseException") == some true) = true := by rw [e.ex]; rfl
  have h2 : ((PySem.W.clsIn K (ca y)).isSome && PySem.W.typeIn K (.ref (ca y)) == some (.type "type")) = true := by
    have z : (PySem.W.clsIn K (ca y)).isSome = true := e.ic
    rw [z, e.ty]
    rfl
  show (if (PySem.W.subIn K (.ref (ca y)) (.type "BaseException") == some true) = true then (if ((PySem.W.clsIn K (ca y)).isSome && PySem.W.typeIn K (.ref (ca y)) == some (.type "type")) = true then PySem.W.subIn K (.ref (ca x)) (.ref (ca y)) else none) else none) = some b
  rw [if_pos h1, if_pos h2]
  exact h
def caOf (l : List (Str × Addr)) (x : Str) : Addr := (l.lookup x).getD 0
/-- what the head tells of a class -/
structure ClsH (K : PySem.W.Frag) (C : Addr) (x : Str) : Prop where
  a : PySem.W.nsIn K mainGlobals x = some (some (.ref C))
  pg : PySem.W.plainGet K C Str.empty = true
  hd : PySem.W.hasDictIn K C = true
  po : PySem.W.plainOver K C = true
  sa : PySem.W.findIn K (.ref C) "__setattr__" = some (some (.builtin "object.__setattr__"))
  mks : PySem.W.makesIn K C = true
  kp : PySem.W.keepIn K (.ref C) = true
theorem kls_mk {K : PySem.W.Frag} {h : Heap} {mg : Str → Option Value} {ka : Str → Addr} {x : Str} {C : Addr} (X : K.In h) (G : h.Ns mainGlobals mg) (e : ClsH K C x) (hc : ka x = C) : Kls K mg ka x := by
  subst hc
  exact ⟨⟨e.pg, e.hd, e.po, e.sa⟩, e.mks, e.kp, PySem.W.mg_of X G e.a⟩
theorem dm_mk {K : PySem.W.Frag} {C f : Addr} {m qual : Str} {st : Stmt} {oc : Value} {od an : Option Addr} {osl : Array (Option Value)} {kV doc pm cdv ct : Value} (a : PySem.W.findIn K (.ref C) m = some (some (.ref f))) (i : PySem.W.isFn K (.ref f) = true)
    (l : K.lookup f = some ⟨oc, od, .func (PySem.W.fnOf m qual (L2.defArgs st) (L2.defBody st) (L2.defScope st) .none kV doc pm an cdv ct), osl⟩) (c : PySem.W.codeIn K cdv qual = true) (k : PySem.W.keepIn K (.ref f) = true) : ∃ f fd, L2.Fun K m qual st f fd ∧ Meth K C m f :=
  ⟨f, _, L2.fun_mk l c k, a, i, k⟩
theorem all_mk {l : PySem.W.OpenLaw} {w : World} {K : PySem.W.Frag} {h : Heap} {mg : Str → Option Value} {fa f : Addr} {oc : Value} {od an : Option Addr} {osl : Array (Option Value)} {kV doc pm cdv ct : Value} {fI : Addr} {fdI : FuncData} {C_BadFree : Addr} {C_BadLot : Addr} {C_BadMap : Addr} {C_BadPlace : Addr} {C_BadWish : Addr} {C_Refused : Addr} {A_Flow : Addr} {A_Net : Addr} {cc_law_refused Pt_law_refused : Addr} (X : K.In h) (G : h.Ns mainGlobals mg) (hfa : mg "law" = some (.ref fa)) (T : Txt mg)
    (D_law_pool : Def K mg "_law_pool" s_law_pool) (D_law_draw : Def K mg "_law_draw" s_law_draw) (D_law_turned : Def K mg "_law_turned" s_law_turned) (D_law_map_named : Def K mg "_law_map_named" s_law_map_named) (D_law_map_some_wished : Def K mg "_law_map_some_wished" s_law_map_some_wished) (D_law_map_drawn : Def K mg "_law_map_drawn" s_law_map_drawn) (D_law_map_lot : Def K mg "_law_map_lot" s_law_map_lot) (D_law_way_inner : Def K mg "_law_way_inner" s_law_way_inner) (D_law_way_next : Def K mg "_law_way_next" s_law_way_next) (D_law_way_regions : Def K mg "_law_way_regions" s_law_way_regions) (D_law_way_fewest : Def K mg "_law_way_fewest" s_law_way_fewest) (D_law_way_nearest : Def K mg "_law_way_nearest" s_law_way_nearest) (D_is_number : Def K mg "is_number" s_is_number) (D_number_within : Def K mg "number_within" s_number_within) (D_road_fits : Def K mg "road_fits" s_road_fits) (D_check_roads : Def K mg "check_roads" s_check_roads) (D_first_bad_place : Def K mg "first_bad_place" s_first_bad_place) (D_made_map : Def K mg "made_map" s_made_map) (D_lot_fits : Def K mg "lot_fits" s_lot_fits) (D_check_lot : Def K mg "check_lot" s_check_lot) (D_free_fits : Def K mg "free_fits" s_free_fits) (D_check_free : Def K mg "check_free" s_check_free) (D_arriving : Def K mg "arriving" s_arriving) (D_leaving : Def K mg "leaving" s_leaving) (D_gate : Def K mg "gate" s_gate) (D_flow_of : Def K mg "flow_of" s_flow_of) (D_places_next : Def K mg "places_next" s_places_next) (D_pinch : Def K mg "pinch" s_pinch) (D_law_map_planted : Def K mg "_law_map_planted" s_law_map_planted) (D_law_planted : Def K mg "_law_planted" s_law_planted) (D_law_way_raised : Def K mg "_law_way_raised" s_law_way_raised) (D_law_way_no_charts : Def K mg "_law_way_no_charts" s_law_way_no_charts) (D_law_way_no_lots : Def K mg "_law_way_no_lots" s_law_way_no_lots) (D_law_refused : DefT K mg "_law_refused" s_law_refused cc_law_refused)
    (m_MANY : MgI mg "MANY" 61) (m_MOST_PLACES : MgI mg "MOST_PLACES" 60) (m_MOST_ROADS : MgI mg "MOST_ROADS" 240) (E_BadFree : ErrH K C_BadFree fI "BadFree") (E_BadLot : ErrH K C_BadLot fI "BadLot") (E_BadMap : ErrH K C_BadMap fI "BadMap") (E_BadPlace : ErrH K C_BadPlace fI "BadPlace") (E_BadWish : ErrH K C_BadWish fI "BadWish") (E_Refused : ErrH K C_Refused fI "Refused") (tI : PySem.W.typeIn K (.ref fI) = some (.type "function")) (FI : L2.Fun K "__init__" "Refused.__init__" s_init fI fdI) (bI : Binds K fdI ["self", "what"] []) (X_BadFree_Refused : PySem.W.subIn K (.ref C_BadFree) (.ref C_Refused) = some true) (X_BadLot_Refused : PySem.W.subIn K (.ref C_BadLot) (.ref C_Refused) = some true) (X_BadMap_Refused : PySem.W.subIn K (.ref C_BadMap) (.ref C_Refused) = some true) (X_BadPlace_Refused : PySem.W.subIn K (.ref C_BadPlace) (.ref C_Refused) = some true) (X_BadWish_Refused : PySem.W.subIn K (.ref C_BadWish) (.ref C_Refused) = some true) (hnO : PySem.W.specialIn K (.builtin "object.__class__") "__get__" = some (some (.builtin "getset_descriptor.__get__"))) (htO : PySem.W.takesIn K (.builtin "object.__class__") = some true) (ha_BadFree : PySem.W.findIn K (.ref C_BadFree) "__class__" = some (some (.builtin "object.__class__"))) (hm_BadFree : PySem.W.mroIn K C_BadFree (.type "object") = some true) (ha_BadLot : PySem.W.findIn K (.ref C_BadLot) "__class__" = some (some (.builtin "object.__class__"))) (hm_BadLot : PySem.W.mroIn K C_BadLot (.type "object") = some true) (ha_BadMap : PySem.W.findIn K (.ref C_BadMap) "__class__" = some (some (.builtin "object.__class__"))) (hm_BadMap : PySem.W.mroIn K C_BadMap (.type "object") = some true) (ha_BadPlace : PySem.W.findIn K (.ref C_BadPlace) "__class__" = some (some (.builtin "object.__class__"))) (hm_BadPlace : PySem.W.mroIn K C_BadPlace (.type "object") = some true) (ha_BadWish : PySem.W.findIn K (.ref C_BadWish) "__class__" = some (some (.builtin "object.__class__"))) (hm_BadWish : PySem.W.mroIn K C_BadWish (.type "object") = some true) (Y_BadFree_BadFree : PySem.W.kitOne K (.ref C_BadFree) (.ref C_BadFree) = some true) (Y_BadLot_BadLot : PySem.W.kitOne K (.ref C_BadLot) (.ref C_BadLot) = some true) (Y_BadMap_BadMap : PySem.W.kitOne K (.ref C_BadMap) (.ref C_BadMap) = some true) (Y_BadPlace_BadPlace : PySem.W.kitOne K (.ref C_BadPlace) (.ref C_BadPlace) = some true) (Y_BadWish_BadWish : PySem.W.kitOne K (.ref C_BadWish) (.ref C_BadWish) = some true) (N_BadFree_BadLot : PySem.W.kitOne K (.ref C_BadFree) (.ref C_BadLot) = some false) (N_BadFree_BadMap : PySem.W.kitOne K (.ref C_BadFree) (.ref C_BadMap) = some false) (N_BadFree_BadPlace : PySem.W.kitOne K (.ref C_BadFree) (.ref C_BadPlace) = some false) (N_BadFree_BadWish : PySem.W.kitOne K (.ref C_BadFree) (.ref C_BadWish) = some false) (N_BadLot_BadFree : PySem.W.kitOne K (.ref C_BadLot) (.ref C_BadFree) = some false) (N_BadLot_BadMap : PySem.W.kitOne K (.ref C_BadLot) (.ref C_BadMap) = some false) (N_BadLot_BadPlace : PySem.W.kitOne K (.ref C_BadLot) (.ref C_BadPlace) = some false) (N_BadLot_BadWish : PySem.W.kitOne K (.ref C_BadLot) (.ref C_BadWish) = some false) (N_BadMap_BadFree : PySem.W.kitOne K (.ref C_BadMap) (.ref C_BadFree) = some false) (N_BadMap_BadLot : PySem.W.kitOne K (.ref C_BadMap) (.ref C_BadLot) = some false) (N_BadMap_BadPlace : PySem.W.kitOne K (.ref C_BadMap) (.ref C_BadPlace) = some false) (N_BadMap_BadWish : PySem.W.kitOne K (.ref C_BadMap) (.ref C_BadWish) = some false) (N_BadPlace_BadFree : PySem.W.kitOne K (.ref C_BadPlace) (.ref C_BadFree) = some false) (N_BadPlace_BadLot : PySem.W.kitOne K (.ref C_BadPlace) (.ref C_BadLot) = some false) (N_BadPlace_BadMap : PySem.W.kitOne K (.ref C_BadPlace) (.ref C_BadMap) = some false) (N_BadPlace_BadWish : PySem.W.kitOne K (.ref C_BadPlace) (.ref C_BadWish) = some false) (N_BadWish_BadFree : PySem.W.kitOne K (.ref C_BadWish) (.ref C_BadFree) = some false) (N_BadWish_BadLot : PySem.W.kitOne K (.ref C_BadWish) (.ref C_BadLot) = some false) (N_BadWish_BadMap : PySem.W.kitOne K (.ref C_BadWish) (.ref C_BadMap) = some false) (N_BadWish_BadPlace : PySem.W.kitOne K (.ref C_BadWish) (.ref C_BadPlace) = some false) (KH_Flow : ClsH K A_Flow "Flow") (KH_Net : ClsH K A_Net "Net") (QH_Flow_net : PySem.W.findIn K (.ref A_Flow) "net" = some none) (QH_Flow_lot : PySem.W.findIn K (.ref A_Flow) "lot" = some none) (QH_Flow_room : PySem.W.findIn K (.ref A_Flow) "room" = some none) (QH_Flow_ended : PySem.W.findIn K (.ref A_Flow) "ended" = some none) (QH_Flow_came : PySem.W.findIn K (.ref A_Flow) "came" = some none) (QH_Net_chart : PySem.W.findIn K (.ref A_Net) "chart" = some none) (QH_Net_beside : PySem.W.findIn K (.ref A_Net) "beside" = some none) (QH_Net_toward : PySem.W.findIn K (.ref A_Net) "toward" = some none) (QH_Net_rooms : PySem.W.findIn K (.ref A_Net) "rooms" = some none) (QH_Net_finish : PySem.W.findIn K (.ref A_Net) "finish" = some none) (DM_Net__join : ∃ f fd, L2.Fun K "_join" "Net._join" s_Net__join f fd ∧ Meth K A_Net "_join" f) (DM_Net___init__ : ∃ f fd, L2.Fun K "__init__" "Net.__init__" s_Net___init__ f fd ∧ Meth K A_Net "__init__" f) (DM_Flow__further_end : ∃ f fd, L2.Fun K "_further_end" "Flow._further_end" s_Flow__further_end f fd ∧ Meth K A_Flow "_further_end" f) (DM_Flow__add_way : ∃ f fd, L2.Fun K "_add_way" "Flow._add_way" s_Flow__add_way f fd ∧ Meth K A_Flow "_add_way" f) (DM_Flow__fill : ∃ f fd, L2.Fun K "_fill" "Flow._fill" s_Flow__fill f fd ∧ Meth K A_Flow "_fill" f) (DM_Flow___init__ : ∃ f fd, L2.Fun K "__init__" "Flow.__init__" s_Flow___init__ f fd ∧ Meth K A_Flow "__init__" f) (DM_Flow_near : ∃ f fd, L2.Fun K "near" "Flow.near" s_Flow_near f fd ∧ Meth K A_Flow "near" f) (gT_law_refused : h.get? Pt_law_refused = some { cls := .none, data := .fields #[] }) (nT_law_refused : K.lookup Pt_law_refused = none) (hT_law_refused : PySem.W.codeHdIn K cc_law_refused Pt_law_refused = true)
    (a : PySem.W.nsIn K mainGlobals "law" = some (some (.ref f))) (lk : K.lookup f = some ⟨oc, od, .func (PySem.W.fnOf "law" "law" (L2.defArgs s_law) (L2.defBody s_law) (L2.defScope s_law) .none kV doc pm an cdv ct), osl⟩) (c : PySem.W.codeIn K cdv "law" = true) (k : PySem.W.keepIn K (.ref f) = true) :
    ∃ (fd : FuncData) (cs : List (Addr × Addr)) (sp : Sp), (∀ p ∈ cs, h.get? p.2 = some { cls := .none, data := .fields #[] }) ∧ (∀ p ∈ cs, K.lookup p.2 = none) ∧ (∀ p ∈ cs, PySem.W.CodeHd h p.1 p.2) ∧ (∀ (s : Shared) (u : Value), BindsTo s fd ⟨[u], []⟩ [("script", u)]) ∧
      (∀ (H : Hp) (a : Addr) (ns : List Int), ns.length ≤ 63 → (∀ p ∈ cs, H p.2 = some (.tbl #[])) → SqL K H a (ns.map V.int) → sp [.ref a] H (fun v _ => v = .bl true) fun _ _ _ => False) ∧
      ∀ base : Heap, K.In base → base.Ns mainGlobals mg → (∀ p ∈ cs, TabB base mg p.1 p.2) → FnG l.prog w K mg base 21 fa fd ["script"] sp := by
  have e := hfa.symm.trans (PySem.W.mg_of X G a)
  cases e
  have F := fun_mk (st := s_law) lk c k
  refine ⟨PySem.W.fnOf "law" "law" (L2.defArgs s_law) (L2.defBody s_law) (L2.defScope s_law) .none kV doc pm an cdv ct, [(cc_law_refused, Pt_law_refused)], (sp_law K Pt_law_refused), ?_, ?_, ?_, fun s v => .of_eq rfl, fun H a ns _ hH hS => ?_, fun base _ _ tbs => ?_⟩
  · intro p hp
    simp only [List.mem_cons, List.not_mem_nil, or_false] at hp
    subst hp
    exact gT_law_refused
  · intro p hp
    simp only [List.mem_cons, List.not_mem_nil, or_false] at hp
    subst hp
    exact nT_law_refused
  · intro p hp
    simp only [List.mem_cons, List.not_mem_nil, or_false] at hp
    subst hp
    exact PySem.W.codeHd_of_K X hT_law_refused
  · exact ⟨a, ns, rfl, hS, (fun p hp => by rw [List.mem_singleton.mp hp]; exact LamX.TabS.nil (hH (cc_law_refused, Pt_law_refused) (by simp))), fun _ => rfl⟩
  have tb_law_refused := tbs (cc_law_refused, Pt_law_refused) (by simp)
  let ca : Str → Addr := caOf [("BadFree", C_BadFree), ("BadLot", C_BadLot), ("BadMap", C_BadMap), ("BadPlace", C_BadPlace), ("BadWish", C_BadWish), ("Refused", C_Refused)]
  have h_BadFree : ca "BadFree" = C_BadFree := by rfl
  have h_BadLot : ca "BadLot" = C_BadLot := by rfl
  have h_BadMap : ca "BadMap" = C_BadMap := by rfl
  have h_BadPlace : ca "BadPlace" = C_BadPlace := by rfl
  have h_BadWish : ca "BadWish" = C_BadWish := by rfl
  have h_Refused : ca "Refused" = C_Refused := by rfl
  have e_BadFree : Er l.prog w K mg base ca "BadFree" := er_mk X G E_BadFree tI FI bI h_BadFree
  have e_BadLot : Er l.prog w K mg base ca "BadLot" := er_mk X G E_BadLot tI FI bI h_BadLot
  have e_BadMap : Er l.prog w K mg base ca "BadMap" := er_mk X G E_BadMap tI FI bI h_BadMap
  have e_BadPlace : Er l.prog w K mg base ca "BadPlace" := er_mk X G E_BadPlace tI FI bI h_BadPlace
  have e_BadWish : Er l.prog w K mg base ca "BadWish" := er_mk X G E_BadWish tI FI bI h_BadWish
  have e_Refused : Er l.prog w K mg base ca "Refused" := er_mk X G E_Refused tI FI bI h_Refused
  have x_BadFree_Refused : Exm K ca "BadFree" "Refused" true := exm_mk (fI := fI) E_Refused X_BadFree_Refused h_BadFree h_Refused
  have x_BadLot_Refused : Exm K ca "BadLot" "Refused" true := exm_mk (fI := fI) E_Refused X_BadLot_Refused h_BadLot h_Refused
  have x_BadMap_Refused : Exm K ca "BadMap" "Refused" true := exm_mk (fI := fI) E_Refused X_BadMap_Refused h_BadMap h_Refused
  have x_BadPlace_Refused : Exm K ca "BadPlace" "Refused" true := exm_mk (fI := fI) E_Refused X_BadPlace_Refused h_BadPlace h_Refused
  have x_BadWish_Refused : Exm K ca "BadWish" "Refused" true := exm_mk (fI := fI) E_Refused X_BadWish_Refused h_BadWish h_Refused
  have i_BadFree : IsC K (ca "BadFree") := by rw [h_BadFree]; exact ⟨E_BadFree.ic, E_BadFree.ga, E_BadFree.gg, E_BadFree.ex, ha_BadFree, hnO, htO, hm_BadFree⟩
  have i_BadLot : IsC K (ca "BadLot") := by rw [h_BadLot]; exact ⟨E_BadLot.ic, E_BadLot.ga, E_BadLot.gg, E_BadLot.ex, ha_BadLot, hnO, htO, hm_BadLot⟩
  have i_BadMap : IsC K (ca "BadMap") := by rw [h_BadMap]; exact ⟨E_BadMap.ic, E_BadMap.ga, E_BadMap.gg, E_BadMap.ex, ha_BadMap, hnO, htO, hm_BadMap⟩
  have i_BadPlace : IsC K (ca "BadPlace") := by rw [h_BadPlace]; exact ⟨E_BadPlace.ic, E_BadPlace.ga, E_BadPlace.gg, E_BadPlace.ex, ha_BadPlace, hnO, htO, hm_BadPlace⟩
  have i_BadWish : IsC K (ca "BadWish") := by rw [h_BadWish]; exact ⟨E_BadWish.ic, E_BadWish.ga, E_BadWish.gg, E_BadWish.ex, ha_BadWish, hnO, htO, hm_BadWish⟩
  have y_BadFree_BadFree : Kit K ca "BadFree" "BadFree" := by unfold Kit; rw [h_BadFree]; exact Y_BadFree_BadFree
  have y_BadLot_BadLot : Kit K ca "BadLot" "BadLot" := by unfold Kit; rw [h_BadLot]; exact Y_BadLot_BadLot
  have y_BadMap_BadMap : Kit K ca "BadMap" "BadMap" := by unfold Kit; rw [h_BadMap]; exact Y_BadMap_BadMap
  have y_BadPlace_BadPlace : Kit K ca "BadPlace" "BadPlace" := by unfold Kit; rw [h_BadPlace]; exact Y_BadPlace_BadPlace
  have y_BadWish_BadWish : Kit K ca "BadWish" "BadWish" := by unfold Kit; rw [h_BadWish]; exact Y_BadWish_BadWish
  have n_BadFree_BadLot : KitN K ca "BadFree" "BadLot" := by unfold KitN; rw [h_BadFree, h_BadLot]; exact N_BadFree_BadLot
  have n_BadFree_BadMap : KitN K ca "BadFree" "BadMap" := by unfold KitN; rw [h_BadFree, h_BadMap]; exact N_BadFree_BadMap
  have n_BadFree_BadPlace : KitN K ca "BadFree" "BadPlace" := by unfold KitN; rw [h_BadFree, h_BadPlace]; exact N_BadFree_BadPlace
  have n_BadFree_BadWish : KitN K ca "BadFree" "BadWish" := by unfold KitN; rw [h_BadFree, h_BadWish]; exact N_BadFree_BadWish
  have n_BadLot_BadFree : KitN K ca "BadLot" "BadFree" := by unfold KitN; rw [h_BadLot, h_BadFree]; exact N_BadLot_BadFree
  have n_BadLot_BadMap : KitN K ca "BadLot" "BadMap" := by unfold KitN; rw [h_BadLot, h_BadMap]; exact N_BadLot_BadMap
  have n_BadLot_BadPlace : KitN K ca "BadLot" "BadPlace" := by unfold KitN; rw [h_BadLot, h_BadPlace]; exact N_BadLot_BadPlace
  have n_BadLot_BadWish : KitN K ca "BadLot" "BadWish" := by unfold KitN; rw [h_BadLot, h_BadWish]; exact N_BadLot_BadWish
  have n_BadMap_BadFree : KitN K ca "BadMap" "BadFree" := by unfold KitN; rw [h_BadMap, h_BadFree]; exact N_BadMap_BadFree
  have n_BadMap_BadLot : KitN K ca "BadMap" "BadLot" := by unfold KitN; rw [h_BadMap, h_BadLot]; exact N_BadMap_BadLot
  have n_BadMap_BadPlace : KitN K ca "BadMap" "BadPlace" := by unfold KitN; rw [h_BadMap, h_BadPlace]; exact N_BadMap_BadPlace
  have n_BadMap_BadWish : KitN K ca "BadMap" "BadWish" := by unfold KitN; rw [h_BadMap, h_BadWish]; exact N_BadMap_BadWish
  have n_BadPlace_BadFree : KitN K ca "BadPlace" "BadFree" := by unfold KitN; rw [h_BadPlace, h_BadFree]; exact N_BadPlace_BadFree
  have n_BadPlace_BadLot : KitN K ca "BadPlace" "BadLot" := by unfold KitN; rw [h_BadPlace, h_BadLot]; exact N_BadPlace_BadLot
  have n_BadPlace_BadMap : KitN K ca "BadPlace" "BadMap" := by unfold KitN; rw [h_BadPlace, h_BadMap]; exact N_BadPlace_BadMap
  have n_BadPlace_BadWish : KitN K ca "BadPlace" "BadWish" := by unfold KitN; rw [h_BadPlace, h_BadWish]; exact N_BadPlace_BadWish
  have n_BadWish_BadFree : KitN K ca "BadWish" "BadFree" := by unfold KitN; rw [h_BadWish, h_BadFree]; exact N_BadWish_BadFree
  have n_BadWish_BadLot : KitN K ca "BadWish" "BadLot" := by unfold KitN; rw [h_BadWish, h_BadLot]; exact N_BadWish_BadLot
  have n_BadWish_BadMap : KitN K ca "BadWish" "BadMap" := by unfold KitN; rw [h_BadWish, h_BadMap]; exact N_BadWish_BadMap
  have n_BadWish_BadPlace : KitN K ca "BadWish" "BadPlace" := by unfold KitN; rw [h_BadWish, h_BadPlace]; exact N_BadWish_BadPlace
  let ka : Str → Addr := caOf [("Flow", A_Flow), ("Net", A_Net)]
  have hk_Flow : ka "Flow" = A_Flow := by rfl
  have k_Flow : Kls K mg ka "Flow" := kls_mk X G KH_Flow hk_Flow
  have q_Flow : Attrs K ka "Flow" flowFs := fun f hf => by
    rw [hk_Flow]
    simp only [flowFs, List.mem_cons, List.not_mem_nil, or_false] at hf
    rcases hf with rfl | rfl | rfl | rfl | rfl
    · exact QH_Flow_net
    · exact QH_Flow_lot
    · exact QH_Flow_room
    · exact QH_Flow_ended
    · exact QH_Flow_came
  have hk_Net : ka "Net" = A_Net := by rfl
  have k_Net : Kls K mg ka "Net" := kls_mk X G KH_Net hk_Net
  have q_Net : Attrs K ka "Net" netFs := fun f hf => by
    rw [hk_Net]
    simp only [netFs, List.mem_cons, List.not_mem_nil, or_false] at hf
    rcases hf with rfl | rfl | rfl | rfl | rfl
    · exact QH_Net_chart
    · exact QH_Net_beside
    · exact QH_Net_toward
    · exact QH_Net_rooms
    · exact QH_Net_finish
  have D_Net__join : DefM K ka "Net" "_join" "Net._join" s_Net__join := ⟨by rw [hk_Net]; exact DM_Net__join⟩
  have D_Net___init__ : DefM K ka "Net" "__init__" "Net.__init__" s_Net___init__ := ⟨by rw [hk_Net]; exact DM_Net___init__⟩
  have D_Flow__further_end : DefM K ka "Flow" "_further_end" "Flow._further_end" s_Flow__further_end := ⟨by rw [hk_Flow]; exact DM_Flow__further_end⟩
  have D_Flow__add_way : DefM K ka "Flow" "_add_way" "Flow._add_way" s_Flow__add_way := ⟨by rw [hk_Flow]; exact DM_Flow__add_way⟩
  have D_Flow__fill : DefM K ka "Flow" "_fill" "Flow._fill" s_Flow__fill := ⟨by rw [hk_Flow]; exact DM_Flow__fill⟩
  have D_Flow___init__ : DefM K ka "Flow" "__init__" "Flow.__init__" s_Flow___init__ := ⟨by rw [hk_Flow]; exact DM_Flow___init__⟩
  have D_Flow_near : DefM K ka "Flow" "near" "Flow.near" s_Flow_near := ⟨by rw [hk_Flow]; exact DM_Flow_near⟩
  have c_law_pool := cal_law_pool (P := l.prog) (w := w) (base := base) T D_law_pool 
  have c_law_draw := cal_law_draw (P := l.prog) (w := w) (base := base) T D_law_draw 
  have c_law_turned := cal_law_turned (P := l.prog) (w := w) (base := base) T D_law_turned c_law_draw
  have c_law_map_named := cal_law_map_named (P := l.prog) (w := w) (base := base) T D_law_map_named c_law_turned
  have c_law_map_some_wished := cal_law_map_some_wished (P := l.prog) (w := w) (base := base) T D_law_map_some_wished c_law_draw
  have c_law_map_drawn := cal_law_map_drawn (P := l.prog) (w := w) (base := base) T D_law_map_drawn c_law_draw c_law_map_named c_law_map_some_wished
  have c_law_map_lot := cal_law_map_lot (P := l.prog) (w := w) (base := base) T D_law_map_lot c_law_draw
  have c_law_way_inner := cal_law_way_inner (P := l.prog) (w := w) (base := base) T D_law_way_inner 
  have c_law_way_next := cal_law_way_next (P := l.prog) (w := w) (base := base) T D_law_way_next 
  have c_law_way_regions := cal_law_way_regions (P := l.prog) (w := w) (base := base) T D_law_way_regions c_law_way_inner c_law_way_next
  have c_law_way_fewest := cal_law_way_fewest (P := l.prog) (w := w) (base := base) T D_law_way_fewest 
  have c_law_way_nearest := cal_law_way_nearest (P := l.prog) (w := w) (base := base) T D_law_way_nearest c_law_way_fewest
  have c_is_number := cal_is_number (P := l.prog) (w := w) (base := base) T D_is_number 
  have c_number_within := cal_number_within (P := l.prog) (w := w) (base := base) T D_number_within c_is_number
  have c_road_fits := cal_road_fits (P := l.prog) (w := w) (base := base) T D_road_fits c_number_within
  have c_check_roads := cal_check_roads (P := l.prog) (w := w) (base := base) T D_check_roads m_MOST_ROADS e_BadMap c_road_fits
  have c_first_bad_place := cal_first_bad_place (P := l.prog) (w := w) (base := base) T D_first_bad_place c_number_within
  have c_made_map := cal_made_map (P := l.prog) (w := w) (base := base) T D_made_map m_MOST_PLACES e_BadMap e_BadWish c_number_within c_check_roads c_first_bad_place
  have c_lot_fits := cal_lot_fits (P := l.prog) (w := w) (base := base) T D_lot_fits c_first_bad_place
  have c_check_lot := cal_check_lot (P := l.prog) (w := w) (base := base) T D_check_lot e_BadLot c_lot_fits
  have c_free_fits := cal_free_fits (P := l.prog) (w := w) (base := base) T D_free_fits c_lot_fits
  have c_check_free := cal_check_free (P := l.prog) (w := w) (base := base) T D_check_free e_BadFree c_free_fits
  have c_arriving := cal_arriving (P := l.prog) (w := w) (base := base) T D_arriving 
  have c_leaving := cal_leaving (P := l.prog) (w := w) (base := base) T D_leaving 
  have w_Net__join := calm_Net__join (P := l.prog) (w := w) (base := base) T D_Net__join k_Net q_Net
  have w_Net___init__ := calm_Net___init__ (P := l.prog) (w := w) (base := base) T D_Net___init__ k_Net q_Net c_arriving c_leaving m_MANY w_Net__join
  have c_gate := cal_gate (P := l.prog) (w := w) (base := base) T D_gate 
  have w_Flow__further_end := calm_Flow__further_end (P := l.prog) (w := w) (base := base) T D_Flow__further_end k_Net q_Net k_Flow q_Flow c_leaving
  have w_Flow__add_way := calm_Flow__add_way (P := l.prog) (w := w) (base := base) T D_Flow__add_way k_Net q_Net k_Flow q_Flow
  have w_Flow__fill := calm_Flow__fill (P := l.prog) (w := w) (base := base) T D_Flow__fill k_Flow q_Flow w_Flow__further_end w_Flow__add_way
  have w_Flow___init__ := calm_Flow___init__ (P := l.prog) (w := w) (base := base) T D_Flow___init__ k_Net q_Net k_Flow q_Flow m_MANY c_gate w_Flow__fill
  have c_flow_of := cal_flow_of (P := l.prog) (w := w) (base := base) T D_flow_of k_Net k_Flow m_MANY w_Net___init__ w_Flow___init__
  have c_places_next := cal_places_next (P := l.prog) (w := w) (base := base) T D_places_next 
  have w_Flow_near := calm_Flow_near (P := l.prog) (w := w) (base := base) T D_Flow_near k_Net q_Net k_Flow q_Flow c_leaving c_places_next
  have c_pinch := cal_pinch (P := l.prog) (w := w) (base := base) T D_pinch k_Flow c_made_map c_check_lot c_check_free c_flow_of w_Flow_near
  have v_pinch := calv_pinch (P := l.prog) (w := w) (base := base) c_pinch
  have c_law_map_planted := cal_law_map_planted (P := l.prog) (w := w) (base := base) T D_law_map_planted c_law_draw c_law_map_named
  have c_law_planted := cal_law_planted (P := l.prog) (w := w) (base := base) T D_law_planted c_law_map_planted c_law_draw v_pinch
  have l_law_way_raised := calLG_law_way_raised (P := l.prog) (w := w) (base := base) T D_law_way_raised e_Refused e_BadMap e_BadWish e_BadLot e_BadFree e_BadPlace x_BadMap_Refused x_BadWish_Refused x_BadLot_Refused x_BadFree_Refused x_BadPlace_Refused i_BadMap i_BadWish i_BadLot i_BadFree i_BadPlace y_BadMap_BadMap y_BadWish_BadWish y_BadLot_BadLot y_BadFree_BadFree y_BadPlace_BadPlace n_BadMap_BadWish n_BadMap_BadLot n_BadMap_BadFree n_BadMap_BadPlace n_BadWish_BadMap n_BadWish_BadLot n_BadWish_BadFree n_BadWish_BadPlace n_BadLot_BadMap n_BadLot_BadWish n_BadLot_BadFree n_BadLot_BadPlace n_BadFree_BadMap n_BadFree_BadWish n_BadFree_BadLot n_BadFree_BadPlace n_BadPlace_BadMap n_BadPlace_BadWish n_BadPlace_BadLot n_BadPlace_BadFree
  have c_law_way_no_charts := cal_law_way_no_charts (P := l.prog) (w := w) (base := base) T D_law_way_no_charts 
  have c_law_way_no_lots := cal_law_way_no_lots (P := l.prog) (w := w) (base := base) T D_law_way_no_lots 
  have c_law_refused := cal_law_refused (P := l.prog) (w := w) (base := base) T D_law_refused tb_law_refused l_law_way_raised c_law_way_no_charts c_law_way_no_lots c_pinch
  exact fn_law T F c_law_pool c_law_map_drawn c_law_map_lot c_law_way_regions c_law_way_nearest v_pinch c_law_planted c_law_refused
theorem walk {l : PySem.W.OpenLaw} {q : Program} {loose : List Str} {XP : (Str → Option Value) → Heap → Prop} {YP : World → Heap → Prop} {d : DefRec} {K : Params → PySem.W.Frag} (hn : l.most = some 63) (hdf : d.params.defaults = [])
    (hY : ∀ (w : World) (h : Heap), YP w h → (K w.params).In h)
    (F : ∀ (w : World) (mg : Str → Option Value) (fa : Addr) (h : Heap), YP w h → (K w.params).In h → h.Ns mainGlobals mg → mg d.name = some (.ref fa) →
      ∃ (fd : FuncData) (cs : List (Addr × Addr)) (sp : Sp), (∀ p ∈ cs, h.get? p.2 = some { cls := .none, data := .fields #[] }) ∧ (∀ p ∈ cs, (K w.params).lookup p.2 = none) ∧ (∀ p ∈ cs, PySem.W.CodeHd h p.1 p.2) ∧ (∀ (s : Shared) (u : Value), BindsTo s fd ⟨[u], []⟩ [("script", u)]) ∧
        (∀ (H : Hp) (a : Addr) (ns : List Int), ns.length ≤ 63 → (∀ p ∈ cs, H p.2 = some (.tbl #[])) → SqL (K w.params) H a (ns.map V.int) → sp [.ref a] H (fun v _ => v = .bl true) fun _ _ _ => False) ∧
        ∀ base : Heap, (K w.params).In base → base.Ns mainGlobals mg → (∀ p ∈ cs, TabB base mg p.1 p.2) → FnG l.prog w (K w.params) mg base 21 fa fd ["script"] sp) :
    PySem.W.WalkO q loose XP YP l.row.toRowW d [] (fun f vs => PySem.call f vs) :=
  gwalkT (n := 63) (k := 21) (x := "script") hn (by decide) hdf ⟨rfl, by decide, by decide⟩ hY F
end Ft

open PySem PySem.W PyProof.Rows
set_option maxRecDepth 100000 in
set_option maxHeartbeats 0 in
theorem PySem.Challenge.cw_fewtraps_k06_pinches_beside_all_regions_holds : PySem.Challenge.rw_fewtraps_k06_pinches_beside_all_regions.Holds := by
  w_on; o_law; k_head; (case hw => w_witness2)
  k_fill
  refine Ft.walk (l := PySem.Challenge.rw_fewtraps_k06_pinches_beside_all_regions) rfl rfl (fun w h Y => PySem.W.km_in_of Y) ?F
  case F =>
    intro w mg fa h Y KX G hmg
    have hT8 := PySem.W.km_tabs_of Y
    refine' Ft.all_mk KX G hmg (Ft.txt_mk KX G ?z0 ?z1 ?z2 ?z3 ?z4 ?z5 ?z6 ?z7 ?z8 ?z9 ?z10 ?z11 ?z12 ?z13 ?z14 ?z15 ?z16 ?z17 ?z18) (Ft.def_mk KX G ?a_law_pool ?l_law_pool ?c_law_pool ?k_law_pool) (Ft.def_mk KX G ?a_law_draw ?l_law_draw ?c_law_draw ?k_law_draw) (Ft.def_mk KX G ?a_law_turned ?l_law_turned ?c_law_turned ?k_law_turned) (Ft.def_mk KX G ?a_law_map_named ?l_law_map_named ?c_law_map_named ?k_law_map_named) (Ft.def_mk KX G ?a_law_map_some_wished ?l_law_map_some_wished ?c_law_map_some_wished ?k_law_map_some_wished) (Ft.def_mk KX G ?a_law_map_drawn ?l_law_map_drawn ?c_law_map_drawn ?k_law_map_drawn) (Ft.def_mk KX G ?a_law_map_lot ?l_law_map_lot ?c_law_map_lot ?k_law_map_lot) (Ft.def_mk KX G ?a_law_way_inner ?l_law_way_inner ?c_law_way_inner ?k_law_way_inner) (Ft.def_mk KX G ?a_law_way_next ?l_law_way_next ?c_law_way_next ?k_law_way_next) (Ft.def_mk KX G ?a_law_way_regions ?l_law_way_regions ?c_law_way_regions ?k_law_way_regions) (Ft.def_mk KX G ?a_law_way_fewest ?l_law_way_fewest ?c_law_way_fewest ?k_law_way_fewest) (Ft.def_mk KX G ?a_law_way_nearest ?l_law_way_nearest ?c_law_way_nearest ?k_law_way_nearest) (Ft.def_mk KX G ?a_is_number ?l_is_number ?c_is_number ?k_is_number) (Ft.def_mk KX G ?a_number_within ?l_number_within ?c_number_within ?k_number_within) (Ft.def_mk KX G ?a_road_fits ?l_road_fits ?c_road_fits ?k_road_fits) (Ft.def_mk KX G ?a_check_roads ?l_check_roads ?c_check_roads ?k_check_roads) (Ft.def_mk KX G ?a_first_bad_place ?l_first_bad_place ?c_first_bad_place ?k_first_bad_place) (Ft.def_mk KX G ?a_made_map ?l_made_map ?c_made_map ?k_made_map) (Ft.def_mk KX G ?a_lot_fits ?l_lot_fits ?c_lot_fits ?k_lot_fits) (Ft.def_mk KX G ?a_check_lot ?l_check_lot ?c_check_lot ?k_check_lot) (Ft.def_mk KX G ?a_free_fits ?l_free_fits ?c_free_fits ?k_free_fits) (Ft.def_mk KX G ?a_check_free ?l_check_free ?c_check_free ?k_check_free) (Ft.def_mk KX G ?a_arriving ?l_arriving ?c_arriving ?k_arriving) (Ft.def_mk KX G ?a_leaving ?l_leaving ?c_leaving ?k_leaving) (Ft.def_mk KX G ?a_gate ?l_gate ?c_gate ?k_gate) (Ft.def_mk KX G ?a_flow_of ?l_flow_of ?c_flow_of ?k_flow_of) (Ft.def_mk KX G ?a_places_next ?l_places_next ?c_places_next ?k_places_next) (Ft.def_mk KX G ?a_pinch ?l_pinch ?c_pinch ?k_pinch) (Ft.def_mk KX G ?a_law_map_planted ?l_law_map_planted ?c_law_map_planted ?k_law_map_planted) (Ft.def_mk KX G ?a_law_planted ?l_law_planted ?c_law_planted ?k_law_planted) (Ft.def_mk KX G ?a_law_way_raised ?l_law_way_raised ?c_law_way_raised ?k_law_way_raised) (Ft.def_mk KX G ?a_law_way_no_charts ?l_law_way_no_charts ?c_law_way_no_charts ?k_law_way_no_charts) (Ft.def_mk KX G ?a_law_way_no_lots ?l_law_way_no_lots ?c_law_way_no_lots ?k_law_way_no_lots) (Ft.defT_mk KX G ?a_law_refused ?l_law_refused ?c_law_refused ?k_law_refused) (Ft.mgI_mk KX G ?m_MANY) (Ft.mgI_mk KX G ?m_MOST_PLACES) (Ft.mgI_mk KX G ?m_MOST_ROADS) (Ft.errH_mk ?ea_BadFree ?ecl_BadFree ?r_BadFree ?esa_BadFree ?ega_BadFree ?egg_BadFree ?enw_BadFree ?eii_BadFree ?eex_BadFree ?ety_BadFree ?ekp_BadFree ?ehd_BadFree ?eic_BadFree) (Ft.errH_mk ?ea_BadLot ?ecl_BadLot ?r_BadLot ?esa_BadLot ?ega_BadLot ?egg_BadLot ?enw_BadLot ?eii_BadLot ?eex_BadLot ?ety_BadLot ?ekp_BadLot ?ehd_BadLot ?eic_BadLot) (Ft.errH_mk ?ea_BadMap ?ecl_BadMap ?r_BadMap ?esa_BadMap ?ega_BadMap ?egg_BadMap ?enw_BadMap ?eii_BadMap ?eex_BadMap ?ety_BadMap ?ekp_BadMap ?ehd_BadMap ?eic_BadMap) (Ft.errH_mk ?ea_BadPlace ?ecl_BadPlace ?r_BadPlace ?esa_BadPlace ?ega_BadPlace ?egg_BadPlace ?enw_BadPlace ?eii_BadPlace ?eex_BadPlace ?ety_BadPlace ?ekp_BadPlace ?ehd_BadPlace ?eic_BadPlace) (Ft.errH_mk ?ea_BadWish ?ecl_BadWish ?r_BadWish ?esa_BadWish ?ega_BadWish ?egg_BadWish ?enw_BadWish ?eii_BadWish ?eex_BadWish ?ety_BadWish ?ekp_BadWish ?ehd_BadWish ?eic_BadWish) (Ft.errH_mk ?ea_Refused ?ecl_Refused ?r_Refused ?esa_Refused ?ega_Refused ?egg_Refused ?enw_Refused ?eii_Refused ?eex_Refused ?ety_Refused ?ekp_Refused ?ehd_Refused ?eic_Refused) ?tI (L2.fun_mk ?lI ?cI ?kI) (L2.Fun.binds (st := Ft.s_init) (L2.fun_mk ?lI ?cI ?kI) fun _ _ _ _ _ _ us hl => match us, hl with | [_, _], _ => rfl) ?X_BadFree_Refused ?X_BadLot_Refused ?X_BadMap_Refused ?X_BadPlace_Refused ?X_BadWish_Refused ?hnO ?htO ?ha_BadFree ?hm_BadFree ?ha_BadLot ?hm_BadLot ?ha_BadMap ?hm_BadMap ?ha_BadPlace ?hm_BadPlace ?ha_BadWish ?hm_BadWish ?Y_BadFree_BadFree ?Y_BadLot_BadLot ?Y_BadMap_BadMap ?Y_BadPlace_BadPlace ?Y_BadWish_BadWish ?N_BadFree_BadLot ?N_BadFree_BadMap ?N_BadFree_BadPlace ?N_BadFree_BadWish ?N_BadLot_BadFree ?N_BadLot_BadMap ?N_BadLot_BadPlace ?N_BadLot_BadWish ?N_BadMap_BadFree ?N_BadMap_BadLot ?N_BadMap_BadPlace ?N_BadMap_BadWish ?N_BadPlace_BadFree ?N_BadPlace_BadLot ?N_BadPlace_BadMap ?N_BadPlace_BadWish ?N_BadWish_BadFree ?N_BadWish_BadLot ?N_BadWish_BadMap ?N_BadWish_BadPlace ⟨?Ka_Flow, ?Kpg_Flow, ?Khd_Flow, ?Kpo_Flow, ?Ksa_Flow, ?Kmk_Flow, ?Kkp_Flow⟩ ⟨?Ka_Net, ?Kpg_Net, ?Khd_Net, ?Kpo_Net, ?Ksa_Net, ?Kmk_Net, ?Kkp_Net⟩ ?Q_Flow_net ?Q_Flow_lot ?Q_Flow_room ?Q_Flow_ended ?Q_Flow_came ?Q_Net_chart ?Q_Net_beside ?Q_Net_toward ?Q_Net_rooms ?Q_Net_finish (Ft.dm_mk ?Wa_Net__join ?Wi_Net__join ?Wl_Net__join ?Wc_Net__join ?Wk_Net__join) (Ft.dm_mk ?Wa_Net___init__ ?Wi_Net___init__ ?Wl_Net___init__ ?Wc_Net___init__ ?Wk_Net___init__) (Ft.dm_mk ?Wa_Flow__further_end ?Wi_Flow__further_end ?Wl_Flow__further_end ?Wc_Flow__further_end ?Wk_Flow__further_end) (Ft.dm_mk ?Wa_Flow__add_way ?Wi_Flow__add_way ?Wl_Flow__add_way ?Wc_Flow__add_way ?Wk_Flow__add_way) (Ft.dm_mk ?Wa_Flow__fill ?Wi_Flow__fill ?Wl_Flow__fill ?Wc_Flow__fill ?Wk_Flow__fill) (Ft.dm_mk ?Wa_Flow___init__ ?Wi_Flow___init__ ?Wl_Flow___init__ ?Wc_Flow___init__ ?Wk_Flow___init__) (Ft.dm_mk ?Wa_Flow_near ?Wi_Flow_near ?Wl_Flow_near ?Wc_Flow_near ?Wk_Flow_near) (hT8 _ ?mT_law_refused) ?nT_law_refused ?hT_law_refused ?a ?l ?c ?k
    (case a_law_pool => k_is); (case l_law_pool => k_is); (case c_law_pool => k_is); (case k_law_pool => k_is)
    (case a_law_draw => k_is); (case l_law_draw => k_is); (case c_law_draw => k_is); (case k_law_draw => k_is)
    (case a_law_turned => k_is); (case l_law_turned => k_is); (case c_law_turned => k_is); (case k_law_turned => k_is)
    (case a_law_map_named => k_is); (case l_law_map_named => k_is); (case c_law_map_named => k_is); (case k_law_map_named => k_is)
    (case a_law_map_some_wished => k_is); (case l_law_map_some_wished => k_is); (case c_law_map_some_wished => k_is); (case k_law_map_some_wished => k_is)
    (case a_law_map_drawn => k_is); (case l_law_map_drawn => k_is); (case c_law_map_drawn => k_is); (case k_law_map_drawn => k_is)
    (case a_law_map_lot => k_is); (case l_law_map_lot => k_is); (case c_law_map_lot => k_is); (case k_law_map_lot => k_is)
    (case a_law_way_inner => k_is); (case l_law_way_inner => k_is); (case c_law_way_inner => k_is); (case k_law_way_inner => k_is)
    (case a_law_way_next => k_is); (case l_law_way_next => k_is); (case c_law_way_next => k_is); (case k_law_way_next => k_is)
    (case a_law_way_regions => k_is); (case l_law_way_regions => k_is); (case c_law_way_regions => k_is); (case k_law_way_regions => k_is)
    (case a_law_way_fewest => k_is); (case l_law_way_fewest => k_is); (case c_law_way_fewest => k_is); (case k_law_way_fewest => k_is)
    (case a_law_way_nearest => k_is); (case l_law_way_nearest => k_is); (case c_law_way_nearest => k_is); (case k_law_way_nearest => k_is)
    (case a_is_number => k_is); (case l_is_number => k_is); (case c_is_number => k_is); (case k_is_number => k_is)
    (case a_number_within => k_is); (case l_number_within => k_is); (case c_number_within => k_is); (case k_number_within => k_is)
    (case a_road_fits => k_is); (case l_road_fits => k_is); (case c_road_fits => k_is); (case k_road_fits => k_is)
    (case a_check_roads => k_is); (case l_check_roads => k_is); (case c_check_roads => k_is); (case k_check_roads => k_is)
    (case a_first_bad_place => k_is); (case l_first_bad_place => k_is); (case c_first_bad_place => k_is); (case k_first_bad_place => k_is)
    (case a_made_map => k_is); (case l_made_map => k_is); (case c_made_map => k_is); (case k_made_map => k_is)
    (case a_lot_fits => k_is); (case l_lot_fits => k_is); (case c_lot_fits => k_is); (case k_lot_fits => k_is)
    (case a_check_lot => k_is); (case l_check_lot => k_is); (case c_check_lot => k_is); (case k_check_lot => k_is)
    (case a_free_fits => k_is); (case l_free_fits => k_is); (case c_free_fits => k_is); (case k_free_fits => k_is)
    (case a_check_free => k_is); (case l_check_free => k_is); (case c_check_free => k_is); (case k_check_free => k_is)
    (case a_arriving => k_is); (case l_arriving => k_is); (case c_arriving => k_is); (case k_arriving => k_is)
    (case a_leaving => k_is); (case l_leaving => k_is); (case c_leaving => k_is); (case k_leaving => k_is)
    (case a_gate => k_is); (case l_gate => k_is); (case c_gate => k_is); (case k_gate => k_is)
    (case a_flow_of => k_is); (case l_flow_of => k_is); (case c_flow_of => k_is); (case k_flow_of => k_is)
    (case a_places_next => k_is); (case l_places_next => k_is); (case c_places_next => k_is); (case k_places_next => k_is)
    (case a_pinch => k_is); (case l_pinch => k_is); (case c_pinch => k_is); (case k_pinch => k_is)
    (case a_law_map_planted => k_is); (case l_law_map_planted => k_is); (case c_law_map_planted => k_is); (case k_law_map_planted => k_is)
    (case a_law_planted => k_is); (case l_law_planted => k_is); (case c_law_planted => k_is); (case k_law_planted => k_is)
    (case a_law_way_raised => k_is); (case l_law_way_raised => k_is); (case c_law_way_raised => k_is); (case k_law_way_raised => k_is)
    (case a_law_way_no_charts => k_is); (case l_law_way_no_charts => k_is); (case c_law_way_no_charts => k_is); (case k_law_way_no_charts => k_is)
    (case a_law_way_no_lots => k_is); (case l_law_way_no_lots => k_is); (case c_law_way_no_lots => k_is); (case k_law_way_no_lots => k_is)
    (case a_law_refused => k_is); (case l_law_refused => k_is); (case c_law_refused => k_is); (case k_law_refused => k_is)
    (case m_MANY => k_is)
    (case m_MOST_PLACES => k_is)
    (case m_MOST_ROADS => k_is)
    (case ea_BadFree => k_is); (case ecl_BadFree => k_is); (case esa_BadFree => k_is); (case ega_BadFree => k_is); (case egg_BadFree => k_is); (case enw_BadFree => k_is); (case eii_BadFree => k_is); (case eex_BadFree => k_is); (case ety_BadFree => k_is); (case ekp_BadFree => k_is); (case ehd_BadFree => k_is); (case eic_BadFree => k_is); (case r_BadFree => decide +kernel)
    (case ea_BadLot => k_is); (case ecl_BadLot => k_is); (case esa_BadLot => k_is); (case ega_BadLot => k_is); (case egg_BadLot => k_is); (case enw_BadLot => k_is); (case eii_BadLot => k_is); (case eex_BadLot => k_is); (case ety_BadLot => k_is); (case ekp_BadLot => k_is); (case ehd_BadLot => k_is); (case eic_BadLot => k_is); (case r_BadLot => decide +kernel)
    (case ea_BadMap => k_is); (case ecl_BadMap => k_is); (case esa_BadMap => k_is); (case ega_BadMap => k_is); (case egg_BadMap => k_is); (case enw_BadMap => k_is); (case eii_BadMap => k_is); (case eex_BadMap => k_is); (case ety_BadMap => k_is); (case ekp_BadMap => k_is); (case ehd_BadMap => k_is); (case eic_BadMap => k_is); (case r_BadMap => decide +kernel)
    (case ea_BadPlace => k_is); (case ecl_BadPlace => k_is); (case esa_BadPlace => k_is); (case ega_BadPlace => k_is); (case egg_BadPlace => k_is); (case enw_BadPlace => k_is); (case eii_BadPlace => k_is); (case eex_BadPlace => k_is); (case ety_BadPlace => k_is); (case ekp_BadPlace => k_is); (case ehd_BadPlace => k_is); (case eic_BadPlace => k_is); (case r_BadPlace => decide +kernel)
    (case ea_BadWish => k_is); (case ecl_BadWish => k_is); (case esa_BadWish => k_is); (case ega_BadWish => k_is); (case egg_BadWish => k_is); (case enw_BadWish => k_is); (case eii_BadWish => k_is); (case eex_BadWish => k_is); (case ety_BadWish => k_is); (case ekp_BadWish => k_is); (case ehd_BadWish => k_is); (case eic_BadWish => k_is); (case r_BadWish => decide +kernel)
    (case ea_Refused => k_is); (case ecl_Refused => k_is); (case esa_Refused => k_is); (case ega_Refused => k_is); (case egg_Refused => k_is); (case enw_Refused => k_is); (case eii_Refused => k_is); (case eex_Refused => k_is); (case ety_Refused => k_is); (case ekp_Refused => k_is); (case ehd_Refused => k_is); (case eic_Refused => k_is); (case r_Refused => decide +kernel)
    (case tI => k_is); (case lI => k_is); (case cI => k_is); (case kI => k_is)
    (case X_BadFree_Refused => first | rfl | k_is)
    (case X_BadLot_Refused => first | rfl | k_is)
    (case X_BadMap_Refused => first | rfl | k_is)
    (case X_BadPlace_Refused => first | rfl | k_is)
    (case X_BadWish_Refused => first | rfl | k_is)
    (case hnO => k_is); (case htO => k_is)
    (case ha_BadFree => k_is); (case hm_BadFree => k_is)
    (case ha_BadLot => k_is); (case hm_BadLot => k_is)
    (case ha_BadMap => k_is); (case hm_BadMap => k_is)
    (case ha_BadPlace => k_is); (case hm_BadPlace => k_is)
    (case ha_BadWish => k_is); (case hm_BadWish => k_is)
    (case Y_BadFree_BadFree => kit_is)
    (case Y_BadLot_BadLot => kit_is)
    (case Y_BadMap_BadMap => kit_is)
    (case Y_BadPlace_BadPlace => kit_is)
    (case Y_BadWish_BadWish => kit_is)
    (case N_BadFree_BadLot => kit_is)
    (case N_BadFree_BadMap => kit_is)
    (case N_BadFree_BadPlace => kit_is)
    (case N_BadFree_BadWish => kit_is)
    (case N_BadLot_BadFree => kit_is)
    (case N_BadLot_BadMap => kit_is)
    (case N_BadLot_BadPlace => kit_is)
    (case N_BadLot_BadWish => kit_is)
    (case N_BadMap_BadFree => kit_is)
    (case N_BadMap_BadLot => kit_is)
    (case N_BadMap_BadPlace => kit_is)
    (case N_BadMap_BadWish => kit_is)
    (case N_BadPlace_BadFree => kit_is)
    (case N_BadPlace_BadLot => kit_is)
    (case N_BadPlace_BadMap => kit_is)
    (case N_BadPlace_BadWish => kit_is)
    (case N_BadWish_BadFree => kit_is)
    (case N_BadWish_BadLot => kit_is)
    (case N_BadWish_BadMap => kit_is)
    (case N_BadWish_BadPlace => kit_is)
    (case Ka_Flow => k_is); (case Kpg_Flow => k_is); (case Khd_Flow => k_is); (case Kpo_Flow => k_is); (case Ksa_Flow => k_is); (case Kmk_Flow => k_is); (case Kkp_Flow => k_is)
    (case Ka_Net => k_is); (case Kpg_Net => k_is); (case Khd_Net => k_is); (case Kpo_Net => k_is); (case Ksa_Net => k_is); (case Kmk_Net => k_is); (case Kkp_Net => k_is)
    (case Q_Flow_net => k_is)
    (case Q_Flow_lot => k_is)
    (case Q_Flow_room => k_is)
    (case Q_Flow_ended => k_is)
    (case Q_Flow_came => k_is)
    (case Q_Net_chart => k_is)
    (case Q_Net_beside => k_is)
    (case Q_Net_toward => k_is)
    (case Q_Net_rooms => k_is)
    (case Q_Net_finish => k_is)
    (case Wa_Net__join => k_is); (case Wi_Net__join => k_is); (case Wl_Net__join => k_is); (case Wc_Net__join => k_is); (case Wk_Net__join => k_is)
    (case Wa_Net___init__ => k_is); (case Wi_Net___init__ => k_is); (case Wl_Net___init__ => k_is); (case Wc_Net___init__ => k_is); (case Wk_Net___init__ => k_is)
    (case Wa_Flow__further_end => k_is); (case Wi_Flow__further_end => k_is); (case Wl_Flow__further_end => k_is); (case Wc_Flow__further_end => k_is); (case Wk_Flow__further_end => k_is)
    (case Wa_Flow__add_way => k_is); (case Wi_Flow__add_way => k_is); (case Wl_Flow__add_way => k_is); (case Wc_Flow__add_way => k_is); (case Wk_Flow__add_way => k_is)
    (case Wa_Flow__fill => k_is); (case Wi_Flow__fill => k_is); (case Wl_Flow__fill => k_is); (case Wc_Flow__fill => k_is); (case Wk_Flow__fill => k_is)
    (case Wa_Flow___init__ => k_is); (case Wi_Flow___init__ => k_is); (case Wl_Flow___init__ => k_is); (case Wc_Flow___init__ => k_is); (case Wk_Flow___init__ => k_is)
    (case Wa_Flow_near => k_is); (case Wi_Flow_near => k_is); (case Wl_Flow_near => k_is); (case Wc_Flow_near => k_is); (case Wk_Flow_near => k_is)
    (case mT_law_refused => exact List.mem_cons_self); (case nT_law_refused => first | kernel_rfl | k_is); (case hT_law_refused => kernel_rfl)
    (case z0 => k_is)
    (case z1 => k_is)
    (case z2 => k_is)
    (case z3 => k_is)
    (case z4 => k_is)
    (case z5 => k_is)
    (case z6 => k_is)
    (case z7 => k_is)
    (case z8 => k_is)
    (case z9 => k_is)
    (case z10 => k_is)
    (case z11 => k_is)
    (case z12 => k_is)
    (case z13 => k_is)
    (case z14 => k_is)
    (case z15 => k_is)
    (case z16 => k_is)
    (case z17 => k_is)
    (case z18 => k_is)
    (case a => k_is); (case l => k_is); (case c => k_is); (case k => k_is)
