import PyProof.Rows.All
import Wide.All
import OpenK.AllK
import Wide.FinOn
import HandS.ForMost
import HandS.Strs
import HandS.TupSets
import HandS.SortInts
import HandS.IsInst
import HandS.TupLe
import HandS.TupAny
import HandS.DictComp
import HandS.Style
import HandS.Walk
import HandS.Conv
import KE.SortData
import KE.GoesMore
import HandS.Exc
import HandS.ExcOwn
import HandS.ExcInit
import HandS.ExcCtx
import HandS.ExcField
import HandS.TryOnly
import HandS.TryMany
import HandS.WordsExc
import KE.KExcIs
import HandS.ExcIs
import HandS.Deep
import HandS.SetBool
import HandS.WideBits
import HandS.More
import HandS.Lambda
import HandS.EndTab
import KE.KNestM
import HandS.TupMul
import HandS.Zip
import PyProof.SetRoads
import HandS.SetFor
import KE.KDictZip
import HandS.Zip0
import HandS.Comp
import KE.DataMinMax
import PyProof.Rows.RowBridgeK
import PySem.Challenge.RW_fewtraps_k62_safe_beside_the_game
set_option Elab.async false
set_option linter.all false
set_option maxRecDepth 100000
set_option maxHeartbeats 4000000
/-! The layer's additions: repr of data, calls of defs that ask for it, sets of ints, a dict comprehension given to a name. -/
namespace Ft
open PySem PySem.Spec PyProof.Rows L2

/-! ### repr of data -/
mutual
theorem dp_plain {K : PySem.W.Frag} {H : Hp} : ∀ (d : PyData) (v : V), Dp K H v d → d.hasDict = false
  | .none, _, _ => by simp only [PyData.hasDict]
  | .bool _, _, _ => by simp only [PyData.hasDict]
  | .int _, _, _ => by simp only [PyData.hasDict]
  | .str _, _, _ => by simp only [PyData.hasDict]
  | .list ds, _, h => by
    cases h with
    | lst _ a => simp only [PyData.hasDict]; exact dp_plains ds _ a
  | .tuple ds, _, h => by
    cases h with
    | tup _ a => simp only [PyData.hasDict]; exact dp_plains ds _ a
  | .dict _, _, h => by cases h
theorem dp_plains {K : PySem.W.Frag} {H : Hp} : ∀ (ds : List PyData) (vs : List V), DpAll K H vs ds → PyData.hasDictAll ds = false
  | [], _, _ => by simp only [PyData.hasDictAll]
  | d :: ds, _, h => by
    cases h with
    | cons h1 h2 => simp only [PyData.hasDictAll, dp_plain d _ h1, dp_plains ds _ h2, Bool.or_self]
end

/-- data that repr shows without meeting a bound -/
structure Shows (d : PyData) : Prop where
  sh : d.showable = true
  lv : d.leavesShort 13 = true
  wt : d.weight ≤ 2 ^ 20
  dp : d.depth ≤ 60

def rRepr (K : PySem.W.Frag) : List V → Hp → VK → Prop := fun xs H Q => ∃ x d, xs = [x] ∧ Dp K H x d ∧ Shows d ∧ Q (.str d.shown) H
theorem cr_repr {X : Cx} (hg : X.A.guards = some []) (hu : X.A.units + 64 < cLine) : CallR X (.builtin "repr") (rRepr X.K) := by
  intro pins s σ H xs us Q I r h
  obtain ⟨x, d, rfl, hd, S, q⟩ := h
  obtain ⟨u, rfl, rx⟩ := vals1 r
  have fits := PyData.shown_fits (by decide) (by decide) S.lv S.wt
  cases hd with
  | non =>
    cases rx
    simp only [PyData.shown] at q
    exact PySem.P.repr_of_none ⟨.str _, H, I.tok _, ⟨_, rfl⟩, q⟩
  | bl b =>
    cases rx
    simp only [PyData.shown] at q
    exact PySem.P.repr_of_bool ⟨.str _, H, I.tok _, ⟨_, rfl⟩, q⟩
  | int i =>
    obtain ⟨t, rfl⟩ := rx
    have hs := S.sh
    simp only [PyData.showable, decide_eq_true_eq] at hs
    simp only [PyData.shown] at q
    exact PySem.P.repr_of_int hs ⟨.str _, H, I.tok _, ⟨_, rfl⟩, q⟩
  | str z =>
    obtain ⟨t, rfl⟩ := rx
    simp only [PyData.shown] at q fits
    exact PySem.P.repr_of_str ⟨.str _, H, I.tok _, ⟨_, rfl⟩, q⟩ fits
  | lst h1 h2 =>
    obtain ⟨as, rd⟩ := Dp.reads I _ _ u (.lst h1 h2) rx
    cases rx
    exact repr_of_reads' rd S.sh (PyData.noDict_hsm (dp_plain _ _ (Dp.lst h1 h2))) hg (by have := S.dp; omega) (fun _ _ e => e) (fun h' v tk k => ⟨.str _, H, I.kept k, ⟨_, rfl⟩, q⟩) fits
  | tup h1 h2 =>
    obtain ⟨as, rd⟩ := Dp.reads I _ _ u (.tup h1 h2) rx
    cases rx
    exact repr_of_reads' rd S.sh (PyData.noDict_hsm (dp_plain _ _ (Dp.tup h1 h2))) hg (by have := S.dp; omega) (fun _ _ e => e) (fun h' v tk k => ⟨.str _, H, I.kept k, ⟨_, rfl⟩, q⟩) fits
end Ft

set_option Elab.async false
set_option linter.all false
set_option maxRecDepth 100000
set_option maxHeartbeats 4000000
namespace Ft
open PySem PySem.Spec PyProof.Rows L2
/-! ### defs that are called where no repr is under way -/
structure FnG (P : Program) (w : World) (K : PySem.W.Frag) (mg : Str → Option Value) (base : Heap) (k : Nat) (f : Addr) (fd : FuncData) (ps : List Str) (sp : Sp) : Prop where
  many : ∀ vs H Q E, sp vs H Q E → vs.length = ps.length
  goes : ∀ (A : Around) (out : List Env) (s : Shared) (H : Hp) (args : Args) (us : List Value) (vs : List V) (Q : VK) (E : XK), A.guards = some [] → Room k A → Env0 P w K mg base A out s H →
    BindsTo s fd args (ps.zip us) → Vals vs us → sp vs H Q E → codeAny (model P w) A (.call (.ref f) args) (CR CX0 out P w H s Q E) s
section
variable {P : Program} {w : World} {K : PySem.W.Frag} {mg : Str → Option Value} {base : Heap}
/-- by its body -/
theorem gfun {x : Str} {st : Stmt} {f : Addr} {fd : FuncData} {N ps : List Str} {k : Nat} {sp : Sp} (F : L2.Fun K x x st f fd) (S : FnScope N ps (L2.defScope st)) (many : ∀ vs H Q E, sp vs H Q E → vs.length = ps.length)
    (body : ∀ (cdv : Value) (A : Around) (out : List Env) (s : Shared) (H : Hp) (vs : List V) (Q : VK) (E : XK), A.guards = some [] → Room k (A.deeper (envOfC x (L2.defScope st) s.heap.objs.size f cdv)) → sp vs H Q E →
      ∃ t, PSs (cxOf L2.CX0 P w K mg base N x (L2.defScope st) f cdv A out s H E).nox (L2.defBody st) t ∧ t { nx := fun _ H' => Q .non H', rt := Q } (start N vs) H) :
    FnG P w K mg base (k + 1) f fd ps sp := by
  obtain ⟨oc, od, kV, doc, pm, an, cdv, ct, osl, rfl, lk, hcd⟩ := F.ex
  refine ⟨many, ?_⟩
  intro A out s H args us vs Q E hg hr e0 hb r hsp
  have hin : K.In s.heap := e0.mod.kin.keeps (fun b o q => (e0.bs b o q).1)
  have nolim : s.heap.NoLimit := e0.mod.nolimit.keeps (fun b o q => (e0.bs b o q).1)
  have kinds : ∀ y ∈ ps.zip us, (L2.defScope st).names.lookup y.1 = some .local ∨ ((L2.defScope st).names.lookup y.1 = some .cell ∧ ((cellsFrom (s.heap.objs.size + 1) (L2.defScope st).names []).lookup y.1).isSome = true) := by
    intro y hy
    cases S.par y.1 (List.of_mem_zip (a := y.1) (b := y.2) hy).1 with
    | inl q => exact .inl q
    | inr q => exact .inr ⟨q, PySem.W.cellsFrom_some _ _ _ (.inl q)⟩
  refine codeAny_call_function hr.depth (hin _ _ lk) rfl S.co S.gen rfl (PySem.W.codeRec_of hin hcd) (hb _ _ _ _ ?_)
  refine wpAny_newFunctionEnv_cells S.kind kinds fun env he s1 z => ?_
  subst he
  refine ⟨nolim.keeps z.toInCall.keep, codeAny_func ?_⟩
  obtain ⟨t, ht, hq⟩ := body cdv A out s H vs Q E hg (hr.deeper _) hsp
  have I := inv_start (CX := L2.CX0) (E := E) (f := f) (cd := cdv) (qual := x) S hr.hd e0 (many _ _ _ _ hsp) r z
  refine wpAny_mono (ht.nox.run [] s1 (start N vs) H _ I hq) ?_ (fun e s' hs => hs)
  intro fl s' hs
  have ends : ∀ {σ' : L2.St} {H' : Hp} {v : V} {u : Value}, Inv (cxOf L2.CX0 P w K mg base N x (L2.defScope st) f cdv A out s H E) [] σ' H' s' → RelV v u → Q v H' → CE out P w H s Q u s' := by
    intro σ' H' v u J rv q
    exact ⟨v, H', J.os, J.bare, J.base, J.hok, rv, q⟩
  cases fl with
  | ret u => exact let ⟨v, σ', H', J, rv, q⟩ := hs; ends J rv q
  | next => exact let ⟨σ', H', J, q⟩ := hs; ends (v := V.non) (u := Value.none) J rfl q
  | brk => exact let ⟨_, _, _, q⟩ := hs; q.elim
  | cont => exact let ⟨_, _, _, q⟩ := hs; q.elim
end
/-- called by its name -/
structure CalG (P : Program) (w : World) (K : PySem.W.Frag) (mg : Str → Option Value) (base : Heap) (k : Nat) (x : Str) (sp : Sp) : Prop where
  ex : ∃ (f : Addr) (fd : FuncData) (ps : List Str), FnG P w K mg base k f fd ps sp ∧ mg x = some (.ref f) ∧ PySem.W.keepIn K (.ref f) = true ∧ Binds K fd ps []
section
variable {X : Cx} {k j : Nat} {x : Str} {sp : Sp} {p pos : Pos} {e : Expr} {es : List Expr} {t : TA}
theorem pe_g (c : CalG X.prog X.w X.K X.mg X.base k x sp) (hgd : X.A.guards = some []) (hr : Room j X.A) (hk : k ≤ j) (hg : Gl X x) (ha : PA X (e :: es) t)
    (hdb : (x == ("__debug__" : Str)) = false := by decide) (he : starEach (e :: es) X.env = (false, eval e X.env) :: starEach es X.env := by rfl) (hpl : (backTo pos (starEach es X.env)).any (·.1) = false := by rfl) :
    PE X (.Call (.Name x p) (e :: es) [] pos) (tCall sp [] L2.E0 t) := by
  obtain ⟨f, fd, ps, F, hm, kp, b⟩ := c.ex
  refine ⟨fun pins s σ H Q I h => ?_⟩
  refine wpAny_Call_Name_kw (ld_glob I hg hm ?_ hdb)
  refine PySem.W.callWith_K (h₀ := X.base) I.ok.mod.kin kp (thn (ha.run pos pins s σ H _ I h) fun us s1 ⟨vs, H1, I1, r, q⟩ => ⟨I1.kIn, ?_⟩) he hpl
  have q2 : sp vs H1 Q L2.E0 := by
    have z : sp (vs ++ []) H1 Q L2.E0 := q
    rw [List.append_nil] at z
    exact z
  have hl : (us ++ []).length = ps.length := by rw [List.append_nil, ← r.length]; exact F.many _ _ _ _ q2
  have hb := b s1 us I1.kIn hl
  rw [List.append_nil] at hb
  refine wpAny_call (codeAny_mono (F.goes X.A X.stack s1 H1 ⟨us, []⟩ us vs Q L2.E0 hgd (hr.mono hk) I1.env0 hb r q2) ?_)
  intro o s' hq
  cases o with
  | error e => exact hq.elim
  | ok fl =>
    cases fl with
    | ret u => exact I1.after hq
    | next => exact hq.elim
    | brk => exact hq.elim
    | cont => exact hq.elim
end
/-! ### the end of a law row whose def asks for repr -/
theorem glaw {P : Program} {w : World} {K : PySem.W.Frag} {mg mb : Str → Option Value} {k : Nat} {fa a : Addr} {fd : FuncData} {x : Str} {sp : Sp} {s₁ : Shared} {vs : List Value} {ns : List Int}
    (KX : K.In s₁.heap) (hns : s₁.heap.Ns mainGlobals mg) (hb : s₁.heap.Ns builtinsNs mb) (hbb : ∀ x : Str, x ≠ "__name__" → mb x = bootBuiltins x) (hlim : s₁.heap.NoLimit) (hg : s₁.gens = #[])
    (ha : s₁.heap.get? a = some { cls := .type "list", data := .seq vs.toArray }) (hi : IntsAre vs ns) (hl : ns.length ≤ sizeLine) (hr : Room k callerA)
    (F : ∀ base : Heap, K.In base → base.Ns mainGlobals mg → FnG P w K mg base k fa fd [x] sp) (hbind : ∀ (s : Shared) (u : Value), BindsTo s fd ⟨[u], []⟩ [(x, u)])
    (hsp : ∀ H : Hp, Only H → SqL K H a (ns.map V.int) → sp [.ref a] H (fun v _ => v = .bl true) fun _ _ _ => False) :
    codeAny (model P w) callerA (.call (.ref fa) ⟨[.ref a], []⟩) (fun r s' => r = .ok (.ret (.bool true)) ∧ OldK s₁.heap s'.heap ∧ s'.os = s₁.os ∧ AllBare s'.gens) s₁ := by
  have rv := vals_ints hi
  have heart : ∀ H : Hp, Only H → SqL K H a (ns.map V.int) → HOk P w H s₁.heap → (∀ b, H b ≠ none → b = a) → (H a ≠ none → K.lookup a = none) →
      codeAny (model P w) callerA (.call (.ref fa) ⟨[.ref a], []⟩) (fun r s' => r = .ok (.ret (.bool true)) ∧ OldK s₁.heap s'.heap ∧ s'.os = s₁.os ∧ AllBare s'.gens) s₁ := by
    intro H only hS hok hA hK
    have same : ∀ {b : Addr} {u : HO}, H b = some u → b = a := fun {b u} q => hA b (by rw [q]; exact fun z => nomatch z)
    have stays : ∀ {b : Addr} {o : Obj}, s₁.heap.get? b = some o → H b = none → (hidT s₁.heap H).get? b = some o := fun q n => hidT_get q n
    have dictOff : ∀ {b : Addr} {o : Obj} {es : Array DictEntry} {ep : Nat}, s₁.heap.get? b = some o → o.data = .dict es ep → H b = none := by
      intro b o es ep q d
      cases z : H b with
      | none => rfl
      | some u =>
        have hba := same z
        subst hba
        have eo := Option.some.inj (ha.symm.trans q)
        rw [← eo] at d
        exact nomatch d
    have nsIn : ∀ {b : Addr} {m : Str → Option Value}, s₁.heap.Ns b m → (hidT s₁.heap H).Ns b m := fun ⟨o, es, ep, q, d, r⟩ => ⟨o, es, ep, stays q (dictOff q d), d, r⟩
    have kIn : K.In (hidT s₁.heap H) := by
      intro b o q
      refine stays (KX b o q) ?_
      cases z : H b with
      | none => rfl
      | some u =>
        have hba := same z
        subst hba
        have := hK (by rw [z]; exact fun y => nomatch y)
        rw [this] at q
        exact nomatch q
    have hM : Mod K mg (hidT s₁.heap H) := by
      obtain ⟨mc, l1, l2⟩ := hlim
      exact ⟨kIn, nsIn hns, ⟨mb, nsIn hb, hbb⟩, ⟨mc, nsIn l1, l2⟩⟩
    have e0 : Env0 P w K mg (hidT s₁.heap H) callerA [] s₁ H :=
      ⟨rfl, hM, fun b o q => of_hidT q, Nat.le_of_eq (hidT_size _ _), trivial, fun b hb => absurd (show b ∈ ([] : List Addr) from hb) List.not_mem_nil, hok, .of_eq hg⟩
    refine codeAny_mono ((F _ kIn (nsIn hns)).goes callerA [] s₁ H ⟨[.ref a], []⟩ [.ref a] [.ref a] _ _ rfl hr e0 (hbind s₁ (.ref a)) (.cons rfl .nil) (hsp H only hS)) ?_
    intro r s' h
    cases r with
    | error e => exact h.elim
    | ok fl =>
      cases fl with
      | next => exact h.elim
      | brk => exact h.elim
      | cont => exact h.elim
      | ret u =>
        obtain ⟨v, H', os, bare, un, hok', rr, q⟩ := h
        have q' : v = V.bl true := q
        subst q'
        have eu : u = Value.bool true := rr
        subst eu
        refine ⟨rfl, OldK.of_keep ?_, os, bare⟩
        intro b o q
        cases z : H b with
        | none => exact un.keep b o q z (fun y => absurd (show b ∈ ([] : List Addr) from y) List.not_mem_nil) (fun y => absurd y List.not_mem_nil)
        | some u =>
          rcases only b with y | ⟨ob, xs, y⟩
          · exact nomatch (z.symm.trans y)
          · obtain ⟨e1, _⟩ := hok b _ y
            obtain ⟨e2, _⟩ := hok' b _ (un.frzs b ob _ y)
            have eo := Option.some.inj (q.symm.trans e1)
            rw [eo]
            exact e2
  cases hk : K.lookup a with
  | some o =>
    have eo := Option.some.inj ((KX a o hk).symm.trans ha)
    subst eo
    exact heart (fun _ => none) (fun _ => .inl rfl) (.inr ⟨_, vs.toArray, _, hk, rfl, rfl, rfl, by rw [List.size_toArray, hi.length]; exact hl, by simpa using rv⟩) (fun b u z => nomatch (show (none : Option HO) = some u from z)) (fun b z => absurd rfl z) (fun z => absurd rfl z)
  | none =>
    have there : ∀ b u, (if b = a then some (HO.frz { cls := .type "list", data := .seq vs.toArray } (.lst (ns.map V.int))) else none) = some u → b = a ∧ u = HO.frz { cls := .type "list", data := .seq vs.toArray } (.lst (ns.map V.int)) := by
      intro b u z
      by_cases hba : b = a
      · rw [if_pos hba] at z
        exact ⟨hba, (Option.some.inj z).symm⟩
      · rw [if_neg hba] at z
        exact nomatch z
    refine heart (fun b => if b = a then some (.frz { cls := .type "list", data := .seq vs.toArray } (.lst (ns.map V.int))) else none) ?_ (.inl (.inr ⟨{ cls := .type "list", data := .seq vs.toArray }, if_pos rfl⟩)) ?_ ?_ (fun _ => hk)
    · intro b
      by_cases hba : b = a
      · exact .inr ⟨_, _, if_pos hba⟩
      · exact .inl (if_neg hba)
    · intro b u z
      obtain ⟨e1, e2⟩ := there b u z
      subst e1
      subst e2
      exact ⟨ha, by rw [List.length_map]; exact hl, vs, _, rv, ha⟩
    · intro b z
      by_cases hba : b = a
      · exact hba
      · exact absurd (if_neg hba) z
theorem gwalk {l : PySem.W.OpenLaw} {n k : Nat} {q : Program} {loose : List Str} {XP : (Str → Option Value) → Heap → Prop} {YP : World → Heap → Prop} {d : DefRec} {K : Params → PySem.W.Frag} {sp : World → Sp} {x : Str}
    (hn : l.most = some n) (hn2 : n ≤ sizeLine) (hdf : d.params.defaults = []) (hr : Room k callerA) (hY : ∀ (w : World) (h : Heap), YP w h → (K w.params).In h)
    (F : ∀ (w : World) (mg : Str → Option Value) (fa : Addr) (h : Heap), (K w.params).In h → h.Ns mainGlobals mg → mg d.name = some (.ref fa) →
      ∃ fd : FuncData, (∀ (s : Shared) (u : Value), BindsTo s fd ⟨[u], []⟩ [(x, u)]) ∧ ∀ base : Heap, (K w.params).In base → base.Ns mainGlobals mg → FnG l.prog w (K w.params) mg base k fa fd [x] (sp w))
    (hsp : ∀ (w : World) (H : Hp) (a : Addr) (ns : List Int), ns.length ≤ n → Only H → SqL (K w.params) H a (ns.map V.int) → sp w [.ref a] H (fun v _ => v = .bl true) fun _ _ _ => False) :
    PySem.W.WalkO q loose XP YP l.row.toRowW d [] (fun f vs => PySem.call f vs) := by
  refine Att.attach_call hn hdf ?_
  intro w s₀ s₁ mg mb fa o pm cd doc a vs ns G Y ho hd hcd hmg hobj hints hlen hg
  have KX := hY w _ Y
  obtain ⟨fd, hb, hF⟩ := F w mg fa _ KX G.T.g hmg
  exact glaw KX G.T.g G.T.b G.T.builtins G.T.nolimit hg hobj hints (Nat.le_trans hlen hn2) hr hF hb (fun H only hS => hsp w H a ns hlen only hS)
end Ft

set_option Elab.async false
set_option linter.all false
set_option maxRecDepth 100000
set_option maxHeartbeats 4000000
namespace Ft
open PySem PySem.Spec PyProof.Rows L2
/-! ### set(xs), xs a list of ints -/
/-- an empty set, as it is made -/
abbrev bareSet (w : World) : Obj := { cls := .type "set", dict := none, data := .set #[] 0 (.fresh 0 0 (!w.params.followText "set-order")) }
section
variable {P : Program} {w : World} {A : Around} {E : Value → Shared → Prop} {s : Shared}
set_option maxRecDepth 100000 in
theorem set_of_list {l : Addr} {its : Array Value} (ns : List Int) {Q : Value → Shared → Prop} (calm : A.handled = none) (isl : s.heap.IsList l its) (pIs : IntsAre its.toList ns) (few : ns.length + 1 < scanBound)
    (done : ∀ (h' : Heap) (tk c : Nat), SetR w h' s.heap.objs.size (fun j => decide (j ∈ ns)) c → c ≤ ns.length → (∀ b o, s.heap.get? b = some o → h'.get? b = some o) → Q (.ref s.heap.objs.size) { s with heap := h', toks := tk }) :
    wpAny (model P w) A (call (.type "set") [.ref l]) Q E s := by
  have size : its.size = ns.length := by rw [← IntsAre.length pIs, Array.length_toList]
  obtain ⟨c, tl, way⟩ := F.called_set.mro
  have made := F.called_set.made
  have under := F.called_set.sub
  refine wpAny_call (codeAny_of_tree ?_)
  show wpAny _ _ (callAny (.type "set") _) _ _ _
  refine wpAny_pure (And.intro (Code.quiet_builtin _ (by decide +kernel)) (codeAny_builtin F.entry_type_call ?_))
  rw [Around.under_plain (weight_type_call_type "set" [Value.ref l] []) rfl]
  have k1 := F.called_set.notType
  have k2 := F.called_set.canCreate
  have k3 := F.typeCall_set_1 (Value.ref l)
  repeat (any_goals (first | assumption | wp_step))
  refine codeAny_mono (code_set_led1 (.ref l) (E := E) (Q₁ := fun obj t => obj = .ref s.heap.objs.size ∧ t = { s with heap := s.heap.push (bareSet w) }) ⟨rfl, rfl⟩) fun r t ht => ?_
  match r, ht with
  | .error e, ht => exact ht
  | .ok .next, ht => exact ht
  | .ok .brk, ht => exact ht
  | .ok .cont, ht => exact ht
  | .ok (.ret obj), ht =>
    obtain ⟨e1, e2⟩ := ht
    subst e1 e2
    have atS : (s.heap.push (bareSet w)).get? s.heap.objs.size = some (bareSet w) := Heap.get?_push_size _ rfl
    have tyS : Shared.TypeIs { s with heap := s.heap.push (bareSet w) } (.ref s.heap.objs.size) "set" := ⟨_, atS, rfl⟩
    have look := F.called_set.init.lookup
    have binds := F.called_set.init.bind (.ref s.heap.objs.size)
    repeat (any_goals (first | assumption | wp_step))
    refine codeAny_mono (codeAny_call_builtin (R := wants (fun r u => r = .none ∧ ∃ h' tk c, u = { s with heap := h', toks := tk } ∧ SetR w h' s.heap.objs.size (fun j => decide (j ∈ ns)) c ∧ c ≤ ns.length ∧ (∀ b o, s.heap.get? b = some o → h'.get? b = some o)) E)
      F.called_set.init.plain F.entry_set_init (check_set_init_1 tyS ?_)) fun r2 u hu => ?_
    · obtain ⟨⟨oc, od, dat, osl⟩, hol, hcl, nl, hdl⟩ := isl
      simp only at hcl hdl
      subst hcl hdl
      have atL : (s.heap.push (bareSet w)).get? l = some { cls := .type "list", dict := od, data := .seq its nl, slots := osl } := Heap.get?_push_of_some _ hol
      have q1 := F.sub_list_set
      have q2 := F.sub_list_frozenset
      have q3 : (Value.type "list" == Value.type "dict") = false := by decide
      have isl1 : (s.heap.push (bareSet w)).IsList l its := ⟨_, atL, rfl, nl, rfl⟩
      unfold Builtin.«set.__init__» noKeywords Builtin.Frozenset.updateFrom
      generalize hit : pyIter = it
      wp_walk
      subst hit
      refine wpAny_pyIter_list isl1 ?_
      refine wpAny_bind (wpAny_runValue ?_)
      have below : l < s.heap.objs.size := Heap.lt_size hol
      have calm3 : A.in1.in1.in1.handled = none := by simp [calm]
      have apart : l ≠ (s.heap.push (bareSet w)).objs.size := by
        rw [Heap.size_push]
        exact Nat.ne_of_lt (Nat.lt_succ_of_lt below)
      have apartS : s.heap.objs.size ∉ [(s.heap.push (bareSet w)).objs.size, l] := by
        rw [Heap.size_push]
        simp only [List.mem_cons, List.mem_singleton, List.not_mem_nil, or_false, not_or]
        exact And.intro (Nat.ne_of_lt (Nat.lt_succ_self _)) (Nat.ne_of_gt below)
      have vals : ∀ (i : Nat) (v : Value), its[i]? = some v → ∃ k t, ns[i]? = some k ∧ v = .int k t := by
        intro i v hv
        have hi : i < ns.length := by
          rw [← size]
          exact (Array.getElem?_eq_some_iff.mp hv).1
        obtain ⟨t, e⟩ := PyProof.Rows.IntsAre.int_at pIs i v (by rw [Array.getElem?_toList]; exact hv)
        refine ⟨ns[i], t, List.getElem?_eq_getElem hi, ?_⟩
        rw [e, List.getD_eq_getElem?_getD, List.getElem?_eq_getElem hi]
        rfl
      refine set_update_ints ((Walks.list calm3 _ l apart its).toS) s.heap.objs.size apartS ns size few vals (its.size - 0) 0 _ (by omega) (Nat.zero_le _) ⟨⟨_, Heap.get?_push_size _ rfl, rfl, rfl⟩, isl1.push _⟩ ?start ?ends
      case start =>
        exact ⟨0, Nat.le_refl 0, setR_new_at (Heap.get?_push_of_some _ atS)⟩
      case ends =>
        intro v c' hm hc' hS'
        obtain ⟨h', g2, d', tk', os'⟩ := v
        have eg : g2 = s.gens := hm.gens
        have ed : d' = s.drawn := hm.drawn
        have eo : os' = s.os := hm.os
        subst eg ed eo
        show wpAny _ _ _ _ _ _
        refine wpAny_pure ?_
        show wpAny _ _ (ret Value.none) _ _ _
        rw [size] at hc'
        refine wpAny_pure ⟨rfl, h', tk', c', rfl, hS', hc', ?_⟩
        intro b o e
        have hb0 : b < s.heap.objs.size := Heap.lt_size e
        refine hm.heap b o ?_ (Heap.get?_push_of_some _ (Heap.get?_push_of_some _ e))
        rw [Heap.size_push]
        simp only [List.mem_cons, List.mem_singleton, List.not_mem_nil, or_false, not_or]
        exact And.intro (Nat.ne_of_lt hb0) (Nat.ne_of_lt (Nat.lt_succ_of_lt hb0))
    · match r2, hu with
      | .error e, hu => exact hu
      | .ok .next, hu => exact hu
      | .ok .brk, hu => exact hu
      | .ok .cont, hu => exact hu
      | .ok (.ret u0), hu =>
        obtain ⟨e1, h', tk, c2, e2, hS, hc2, hk⟩ := hu
        subst e1 e2
        repeat (any_goals (first | assumption | wp_step))
        exact done h' tk c2 hS hc2 hk
/-- set(xs) over the layer: a list or a tuple of ints -/
def rSetI (K : PySem.W.Frag) (w : World) : List V → Hp → VK → Prop := fun xs H Q => ∃ (l : Addr) (ns : List Int), xs = [V.ref l] ∧ (SqL K H l (ns.map V.int) ∨ SqT K H l (ns.map V.int)) ∧ ns.length ≤ 1000 ∧
  ∀ (p : Addr) (n : Nat), H p = none → n ≤ ns.length → Q (.ref p) (upd H p (SetO w p (fun j => decide (j ∈ ns)) n))
theorem cr_setI {X : Cx} (hc : X.calm = true) : CallR X (.type "set") (rSetI X.K X.w) := by
  intro pins s σ H xs us Q I r h
  obtain ⟨l, ns, rfl, hl, few, q⟩ := h
  have few1 : ns.length + 1 < scanBound := Nat.lt_of_le_of_lt (Nat.succ_le_succ few) (by decide)
  have free : H s.heap.objs.size = none := I.hok.fresh (Nat.le_refl _)
  rw [Vals.ref1 r]
  rcases hl with hl | hl
  · obtain ⟨its, rv, pl, hz⟩ := I.list hl
    refine set_of_list ns (I.ok.hd hc) pl.isList (by simpa using rv.ints) few1 fun h' tk c hS hc2 hk => ?_
    exact ⟨.ref _, upd H s.heap.objs.size (SetO X.w s.heap.objs.size (fun j => decide (j ∈ ns)) c), I.laid (t' := tk) hk (Nat.le_refl _) (setO_new hS), rfl, q _ _ free hc2⟩
  · obtain ⟨its, rv, pt, hz⟩ := I.tuple hl
    have pt2 : s.heap.IsTuple l its.toArray := pt
    refine call_set_tupI ns (I.ok.hd hc) pt2 (by simpa using ints_of_vals rv) few1 fun h' tk c hS hc2 hk => ?_
    exact ⟨.ref _, upd H s.heap.objs.size (SetO X.w s.heap.objs.size (fun j => decide (j ∈ ns)) c), I.laid (t' := tk) hk (Nat.le_refl _) (setO_new hS), rfl, q _ _ free hc2⟩
end
end Ft

set_option Elab.async false
set_option linter.all false
set_option maxRecDepth 100000
set_option maxHeartbeats 4000000
namespace Ft
open PySem PySem.Spec PyProof.Rows L2
/-! ### sorted of tuples of ints, whatever their lengths -/
abbrev Row := Addr × List Int
def leR (p q : Row) : Bool := decide (p.2 ≤ q.2)
def encR (p : Row) : PyData := .tuple (p.2.map .int)
theorem leR_is : PySem.W.dataLe false encR = leR := by
  funext p q
  show (!PySem.W.dataLt (.tuple (q.2.map .int)) (.tuple (p.2.map .int))) = decide (p.2 ≤ q.2)
  rw [PySem.W.dataLt_tuple]
  have e := PySem.W.dataLt_ints q.2 p.2
  unfold PySem.W.rowLt at e
  rw [e]
  by_cases h : q.2 < p.2
  · have h' : ¬ p.2 ≤ q.2 := fun r => List.not_lt.mpr r h
    simp [h, h']
  · have h' : p.2 ≤ q.2 := List.not_lt.mp h
    simp [h, h']
theorem leR_trans (a b c : Row) (h1 : leR a b = true) (h2 : leR b c = true) : leR a c = true :=
  decide_eq_true (List.le_trans (of_decide_eq_true h1) (of_decide_eq_true h2))
theorem leR_total (a b : Row) : (leR a b || leR b a) = true := by
  rcases List.le_total a.2 b.2 with h | h
  · simp [leR, h]
  · simp [leR, h]
theorem rows_alike (L : List Row) : PySem.W.AllAlike (L.map encR) :=
  PySem.W.AllAlike.of fun b b' => by
    show PySem.W.alike (.tuple (b.2.map .int)) (.tuple (b'.2.map .int)) = true
    simp only [PySem.W.alike]
    exact PySem.W.alike_ints _ _
theorem rows_sortable {L : List Row} (h : ∀ p ∈ L, p.2 ≠ []) : PySem.W.Sortable (L.map encR) := .inl fun d hd => by
  obtain ⟨b, hb, rfl⟩ := List.mem_map.mp hd
  have := h b hb
  show ∃ x r, PyData.tuple (b.2.map .int) = .tuple (x :: r)
  cases e : b.2 with
  | nil => exact absurd e this
  | cons x r => exact ⟨.int x, r.map .int, rfl⟩
theorem rows_deep {A : Around} {k : Nat} {L : List Row} (hu : A.units + k + 1 < cLine) : ∀ b, b ∈ L → A.units + k + (encR b).depth < cLine := by
  intro b _
  have e : (encR b).depth = 1 := by
    show PyData.depth (.tuple (b.2.map .int)) = 1
    simp only [PyData.depth, PySem.W.depth_ints]
  rw [e]
  exact hu
theorem rows_each : ∀ (L : List Row), PySem.W.EachIs (fun v (p : Row) => v = Value.ref p.1) (L.map fun p => Value.ref p.1) L
  | [] => .nil
  | p :: L => .cons rfl (rows_each L)
theorem rows_back : ∀ {vs : List Value} {L : List Row}, PySem.W.EachIs (fun v (p : Row) => v = Value.ref p.1) vs L → vs = L.map fun p => Value.ref p.1
  | _, _, .nil => rfl
  | _, _, .cons h t => by rw [h, rows_back t]; rfl
section
variable {X : Cx} {pins : List (Addr × Obj)} {σ : L2.St} {H : Hp} {s : Shared}
theorem dpAll_ints {K : PySem.W.Frag} {H : Hp} : ∀ ns : List Int, DpAll K H (ns.map V.int) (ns.map PyData.int)
  | [] => .nil
  | n :: ns => .cons (.int n) (dpAll_ints ns)
theorem rows_read (I : Inv X pins σ H s) : ∀ (L : List Row), (∀ p ∈ L, SqT X.K H p.1 (p.2.map V.int)) → PySem.W.EachIs (fun v b => ∃ as, Reads s.heap v (encR b) as) (L.map fun p => Value.ref p.1) L
  | [], _ => .nil
  | p :: L, h => .cons (Dp.reads I (encR p) (.ref p.1) (.ref p.1) (.tup (h p List.mem_cons_self) (dpAll_ints p.2)) rfl) (rows_read I L fun q hq => h q (List.mem_cons_of_mem _ hq))
end
/-- sorted(xs), xs a list of tuples of ints -/
def rSortedR (K : PySem.W.Frag) : List V → Hp → VK → Prop := fun vs H Q => ∃ (a : Addr) (L : List Row), vs = [V.ref a] ∧ SqL K H a (L.map fun p => V.ref p.1) ∧ (∀ p ∈ L, SqT K H p.1 (p.2.map V.int)) ∧ (∀ p ∈ L, p.2 ≠ []) ∧
  ∀ p, H p = none → Q (.ref p) (upd H p (.lst ((L.mergeSort leR).map fun p => V.ref p.1)))
theorem cr_sortedR {X : Cx} (hu : X.A.units + 64 < cLine) : CallR X (.builtin "sorted") (rSortedR X.K) := by
  intro pins s σ H xs us Q I r h
  obtain ⟨a, L, rfl, hl, hk, hne, q⟩ := h
  rw [Vals.ref1 r]
  obtain ⟨its, rv, pl, hz⟩ := I.list hl
  have ei : its = L.map fun p => Value.ref p.1 := refs_of_vals rv
  subst ei
  have hz2 : L.length ≤ sizeLine := by simpa using hz
  refine PySem.W.sorted_data (bs := L) (enc := encR) pl.isList (rows_each L) (rows_read I L hk) (rows_alike L) (rows_sortable hne) hz2 (rows_deep (k := 2) (by omega)) fun out hlen he => ?_
  rw [leR_is] at he
  have eo := rows_back he
  subst eo
  obtain ⟨ep, ho⟩ := PyProof.Rows.sortedAll_at s.heap (L.map fun p => Value.ref p.1) ((L.mergeSort leR).map fun p => Value.ref p.1).toArray
  refine ⟨.ref _, upd H (s.heap.objs.size + 1) (.lst ((L.mergeSort leR).map fun p => V.ref p.1)), I.laid (t' := s.toks) (fun _ _ => PyProof.Rows.sortedAll_old) (Nat.le_succ _) ⟨?_, _, ep, vals_of_refs _, ho⟩, rfl, q _ (I.hok.fresh (Nat.le_succ _))⟩
  rw [List.length_map, List.length_mergeSort]
  exact hz2
/-- sorted of a set of tuples of ints -/
theorem rows_order {L : List Row} : ∀ {vs : List Value}, (∀ v ∈ vs, ∃ q ∈ L, v = Value.ref q.1) → ∃ L1 : List Row, vs = L1.map (fun q => Value.ref q.1) ∧ ∀ q ∈ L1, q ∈ L
  | [], _ => ⟨[], rfl, fun q hq => nomatch hq⟩
  | v :: vs, h => by
    obtain ⟨q, hq, e⟩ := h v List.mem_cons_self
    obtain ⟨L1, e1, h1⟩ := rows_order (vs := vs) fun u hu => h u (List.mem_cons_of_mem _ hu)
    refine ⟨q :: L1, by rw [e, e1]; rfl, fun r hr => ?_⟩
    cases hr with
    | head => exact hq
    | tail _ z => exact h1 r z
section
variable {P : Program} {w : World} {A : Around} {E : Value → Shared → Prop} {s : Shared}
theorem nodup_back {α β : Type} {f : α → β} : ∀ {l : List α}, (l.map f).Nodup → l.Nodup
  | [], _ => List.nodup_nil
  | a :: l, h => by
    obtain ⟨h1, h2⟩ := List.nodup_cons.mp h
    exact List.nodup_cons.mpr ⟨fun z => h1 (List.mem_map.mpr ⟨a, z, rfl⟩), nodup_back h2⟩
theorem sorted_rows {a : Addr} {L : List Row} {es : Array (Int × Value)} {ep : Nat} {t : SetTable} {Q : Value → Shared → Prop} (R : SetTR P w s.heap a L es ep t) (hh : A.handled = none) (hu : A.units + 64 < cLine) (hne : ∀ p ∈ L, p.2 ≠ [])
    (rd : ∀ p ∈ L, ∃ as, Reads s.heap (.ref p.1) (encR p) as)
    (done : ∀ s' p (c : Nat) (L' : List Row), (∀ b o, s.heap.get? b = some o → s'.heap.get? b = some o) → s'.gens = s.gens → s'.os = s.os → s.heap.objs.size ≤ p →
      s'.heap.get? p = some (seqObj "list" (L'.map fun q => Value.ref q.1).toArray c) → L'.Perm L → L'.Pairwise (fun q r => q.2 ≤ r.2) → Q (.ref p) s') :
    wpAny (model P w) A (call (.builtin "sorted") [.ref a]) Q E s := by
  obtain ⟨o, ho, hex, hd⟩ := R.ob
  have size := R.size
  have few := R.few
  refine Calls.call_function_entry kind_sorted plain_sorted entry_sorted (args_sorted1 _) ?_
  unfold Builtin.«sorted»
  refine wpAny_bind (m := checkCount "sorted" 1 1 _) (wpAny_pure ?_)
  refine wpAny_bind (collect_set (A := A.in1) hh ⟨o, ho, hex.1, hd⟩ R.fits (by rw [size]; exact Nat.lt_trans few (by decide)) R.tab.ris R.led fun s1 vs k1 hz g1 o1 pm => ?_)
  have rows : es.toList.map (·.2) = L.map fun q => Value.ref q.1 := by
    rw [R.rows]
    unfold rowsOf
    rw [List.map_map]
    rfl
  rw [rows] at pm
  obtain ⟨L1, e1, sub1⟩ := rows_order (L := L) (vs := vs) fun v hv => by
    obtain ⟨q, hq, e⟩ := List.mem_map.mp (pm.mem_iff.mp hv)
    exact ⟨q, hq, e.symm⟩
  have apart : ∀ q ∈ L, ∀ r ∈ L, q.1 = r.1 → q = r := by
    intro q hq r hr e
    have t1 := R.tup q hq
    have t2 := R.tup r hr
    rw [e] at t1
    exact Prod.ext e (t1.inj t2)
  have pm1 : L1.Perm L := by
    have nL : L.Nodup := nodup_back R.nd
    have nR : (L.map fun q => Value.ref q.1).Nodup := by
      refine List.pairwise_map.mpr (List.Pairwise.imp_of_mem (fun {q r} hq hr hn e => ?_) nL)
      injection e with e
      exact hn (apart q hq r hr e)
    rw [e1] at pm
    refine (List.perm_ext_iff_of_nodup (nodup_back (pm.nodup_iff.mpr nR)) nL).mpr fun q => ⟨sub1 q, fun hq => ?_⟩
    obtain ⟨r, hr, e⟩ := List.mem_map.mp (pm.mem_iff.mpr (List.mem_map.mpr ⟨q, hq, rfl⟩))
    injection e with e
    rw [← apart r (sub1 r hr) q hq e]
    exact hr
  subst e1
  have len1 : L1.length < 64 := by rw [pm1.length_eq]; exact few
  have line1 : L1.length ≤ sizeLine := by rw [sizeLine_eq]; omega
  refine wpAny_bind (wpAny_newList ?_ (by simpa using line1))
  have hoL : (s1.heap.push (seqObj "list" (L1.map fun q => Value.ref q.1).toArray 0)).get? s1.heap.objs.size = some (seqObj "list" (L1.map fun q => Value.ref q.1).toArray 0) := Heap.get?_push_size _ rfl
  have er : ∀ (M : List Row), (∀ q ∈ M, q ∈ L) → PySem.W.EachIs (fun v b => ∃ as, Reads (s1.heap.push (seqObj "list" (L1.map fun q => Value.ref q.1).toArray 0)) v (encR b) as ∧ s1.heap.objs.size ∉ as) (M.map fun p => Value.ref p.1) M := by
    intro M
    induction M with
    | nil => intro _; exact .nil
    | cons p M ih =>
      intro hM
      obtain ⟨as, r0⟩ := rd p (hM p List.mem_cons_self)
      have r1 := PyProof.Rows.Reads.keeps (h' := s1.heap.push (seqObj "list" (L1.map fun q => Value.ref q.1).toArray 0)) (fun b u e => Heap.get?_push_of_some _ (k1 b u e)) r0
      refine .cons ⟨as, r1, ?_⟩ (ih fun q hq => hM q (List.mem_cons_of_mem _ hq))
      have flat : ∀ {h : Heap} {ns : List Int} {us : List Value} {bs : List Addr}, ReadsAll h us (ns.map PyData.int) bs → bs = [] := by
        intro h ns
        induction ns with
        | nil => intro us bs z; cases z; rfl
        | cons n ns ih2 =>
          intro us bs z
          cases z with
          | cons z1 z2 =>
            cases z1
            rw [ih2 z2]
            rfl
      have e0 : as = [] := by
        cases r0 with
        | tuple _ _ _ z => exact flat z
      rw [e0]
      exact List.not_mem_nil
  refine wpAny_bind (wpAny_holding (PySem.W.list_sort_data (s := { s1 with heap := s1.heap.push (seqObj "list" (L1.map fun q => Value.ref q.1).toArray 0) }) (R := fun v (p : Row) => v = Value.ref p.1) (bs := L1) (enc := encR) hoL (rows_each L1) (er L1 sub1) (rows_alike L1)
    (rows_sortable fun p hp => hne p (sub1 p hp)) line1 (rows_deep (k := 1) (by show A.units + 1 + 1 + 1 < cLine; omega)) fun out hlen he => ?_))
  rw [leR_is] at he
  have eo := rows_back he
  subst eo
  obtain ⟨c, hc⟩ := sortedHeap_at (vs := L1.map fun q => Value.ref q.1) (out := ((L1.mergeSort leR).map fun q => Value.ref q.1).toArray) hoL
  refine wpAny_pure ⟨_, rfl, done _ s1.heap.objs.size c (L1.mergeSort leR) (fun b u e => ?_) g1 o1 hz hc ((List.mergeSort_perm L1 leR).trans pm1) ?_⟩
  · have q := k1 b u e
    have hlt := Heap.lt_size q
    show (sortedHeap (s1.heap.push (seqObj "list" (L1.map fun q => Value.ref q.1).toArray 0)) s1.heap.objs.size (L1.map fun q => Value.ref q.1) _).get? b = some u
    rw [sortedHeap_old (Nat.ne_of_lt hlt) (by rw [size_push']; exact Nat.lt_succ_of_lt hlt)]
    exact Heap.get?_push_of_some _ q
  · exact (List.pairwise_mergeSort leR_trans leR_total L1).imp fun h => of_decide_eq_true h
end
/-- sorted(set), any tuples of ints -/
def rSortedS (K : PySem.W.Frag) (P : Program) (w : World) : List V → Hp → VK → Prop := fun vs H Q => ∃ (a : Addr) (L : List Row), vs = [V.ref a] ∧ H a = some (SetTO P w a L) ∧ (∀ p ∈ L, SqT K H p.1 (p.2.map V.int)) ∧ (∀ p ∈ L, p.2 ≠ []) ∧
  ∀ (L' : List Row) (p : Addr), L'.Perm L → (L'.map (·.2)).Nodup → L'.length < 64 → L'.Pairwise (fun q r => q.2 ≤ r.2) → H p = none → Q (.ref p) (upd H p (.lst (L'.map fun q => V.ref q.1)))
theorem cr_sortedSR {X : Cx} (hc : X.calm = true) (hu : X.A.units + 64 < cLine) : CallR X (.builtin "sorted") (rSortedS X.K X.prog X.w) := by
  intro pins s σ H xs us Q I r h
  obtain ⟨a, L, rfl, ha, hk, hne, q⟩ := h
  obtain ⟨es, ep, t, R⟩ := SetT0.full (I.hok a _ ha).1 fun p hp => I.isT (hk p hp)
  rw [Vals.ref1 r]
  refine sorted_rows R (I.ok.hd hc) hu hne (fun p hp => Dp.reads I (encR p) (.ref p.1) (.ref p.1) (.tup (hk p hp) (dpAll_ints p.2)) rfl) fun s' p c L' k g o hp hg pm pw => ?_
  have few : L'.length < 64 := by rw [pm.length_eq]; exact R.few
  have line : (L'.map fun q => V.ref q.1).length ≤ sizeLine := by rw [List.length_map, sizeLine_eq]; omega
  have free : H p = none := I.hok.fresh hp
  have J : Inv X pins σ (upd H p (.lst (L'.map fun q => V.ref q.1))) s' := I.call' (s' := s') (ch := []) o (Un.laid k hp free) (I.hok.laid k hp ⟨line, _, c, vals_of_refs L', hg⟩) (by rw [g]; exact I.bare) (fun _ z => nomatch z)
  exact ⟨.ref p, _, J, rfl, q L' p pm ((pm.map (·.2)).nodup_iff.mpr R.nd) few pw free⟩
end Ft

set_option Elab.async false
set_option linter.all false
set_option maxRecDepth 100000
set_option maxHeartbeats 4000000
namespace Ft
open PySem PySem.Spec PyProof.Rows L2
/-! ### a def that may be called by its name -/
structure Cal (P : Program) (w : World) (K : PySem.W.Frag) (mg : Str → Option Value) (base : Heap) (k : Nat) (x : Str) (sp : Sp) : Prop where
  ex : ∃ (f : Addr) (fd : FuncData) (ps : List Str), FnOk P w K mg base L2.CX0 k f fd ps sp ∧ mg x = some (.ref f) ∧ PySem.W.keepIn K (.ref f) = true ∧ Binds K fd ps []
theorem pe_c {X : Cx} {k j : Nat} {x : Str} {sp : Sp} {p pos : Pos} {e : Expr} {es : List Expr} {t : TA} (c : Cal X.prog X.w X.K X.mg X.base k x sp) (hr : Room j X.A) (hk : k ≤ j) (hg : Gl X x) (ha : PA X (e :: es) t)
    (hdb : (x == ("__debug__" : Str)) = false := by decide) (he : starEach (e :: es) X.env = (false, eval e X.env) :: starEach es X.env := by rfl) (hpl : (backTo pos (starEach es X.env)).any (·.1) = false := by rfl) :
    PE X (.Call (.Name x p) (e :: es) [] pos) (tCall sp [] L2.E0 t) := by
  obtain ⟨f, fd, ps, F, hm, kp, b⟩ := c.ex
  exact pe_call F (hr.mono hk) hg hm kp b .nil L2.pass0 ha hdb he hpl
/-- a def of the module as it stands behind the top, under its name -/
structure Def (K : PySem.W.Frag) (mg : Str → Option Value) (x : Str) (st : Stmt) : Prop where
  ex : ∃ (f : Addr) (fd : FuncData), L2.Fun K x x st f fd ∧ mg x = some (.ref f)
theorem cal_of {P : Program} {w : World} {K : PySem.W.Frag} {mg : Str → Option Value} {base : Heap} {x : Str} {st : Stmt} {N ps : List Str} {k : Nat} {sp : Sp} (D : Def K mg x st) (S : FnScope N ps (L2.defScope st))
    (bd : ∀ (kV doc pm : Value) (an : Option Addr) (cdv ct : Value) (us : List Value), us.length = ps.length → bindArgs (PySem.W.fnOf x x (L2.defArgs st) (L2.defBody st) (L2.defScope st) .none kV doc pm an cdv ct) ⟨us, []⟩ = pure (ps.zip us))
    (len : ∀ vs H Q E, sp vs H Q E → vs.length = ps.length)
    (body : ∀ (f : Addr) (cdv : Value) (A : Around) (outer : List Env) (s : Shared) (H : Hp) (vs : List V) (Q : VK) (E : XK), Room k (A.deeper (envOfC x (L2.defScope st) s.heap.objs.size f cdv)) → sp vs H Q E →
      ∃ t, PSs (cxOf L2.CX0 P w K mg base N x (L2.defScope st) f cdv A outer s H E).nox (L2.defBody st) t ∧ t { nx := fun _ H' => Q .non H', rt := Q } (start N vs) H) : Cal P w K mg base (k + 1) x sp := by
  obtain ⟨f, fd, F, hm⟩ := D.ex
  exact ⟨f, fd, ps, F.ok S len (body f), hm, F.kp, F.binds bd⟩
theorem calG_of {P : Program} {w : World} {K : PySem.W.Frag} {mg : Str → Option Value} {base : Heap} {x : Str} {st : Stmt} {N ps : List Str} {k : Nat} {sp : Sp} (D : Def K mg x st) (S : FnScope N ps (L2.defScope st))
    (bd : ∀ (kV doc pm : Value) (an : Option Addr) (cdv ct : Value) (us : List Value), us.length = ps.length → bindArgs (PySem.W.fnOf x x (L2.defArgs st) (L2.defBody st) (L2.defScope st) .none kV doc pm an cdv ct) ⟨us, []⟩ = pure (ps.zip us))
    (len : ∀ vs H Q E, sp vs H Q E → vs.length = ps.length)
    (body : ∀ (f : Addr) (cdv : Value) (A : Around) (out : List Env) (s : Shared) (H : Hp) (vs : List V) (Q : VK) (E : XK), A.guards = some [] → Room k (A.deeper (envOfC x (L2.defScope st) s.heap.objs.size f cdv)) → sp vs H Q E →
      ∃ t, PSs (cxOf L2.CX0 P w K mg base N x (L2.defScope st) f cdv A out s H E).nox (L2.defBody st) t ∧ t { nx := fun _ H' => Q .non H', rt := Q } (start N vs) H) : CalG P w K mg base (k + 1) x sp := by
  obtain ⟨f, fd, F, hm⟩ := D.ex
  exact ⟨f, fd, ps, gfun F S len (body f), hm, F.kp, F.binds bd⟩

/-! ### enumerate(tuple) -/
theorem enum_newT (l : Addr) (items : Array Value) (n : Nat) (dct : Option Addr) (sl : Array (Option Value)) :
    Meets (Builtin.«enumerate.__new__» ⟨[.type "enumerate", .ref l], []⟩) (fun _ R s => s.heap.get? l = some { cls := .type "tuple", dict := dct, data := .seq items n, slots := sl } ∧
      R (.ok (.ret (.ref (s.heap.push { cls := .type "tuple_iterator", data := .fields #[.ref l, .int 0 0] }).objs.size)))
        { s with heap := (s.heap.push { cls := .type "tuple_iterator", data := .fields #[.ref l, .int 0 0] }).push { cls := .type "enumerate", data := .fields #[.none, .bool false, .ref s.heap.objs.size, rawInt 0, .none, .none] } }) :=
  .of_wp fun prog w A R s h => by
    obtain ⟨hp, g, d, tk, os⟩ := s
    obtain ⟨hl, h⟩ := h
    have sub := sub_enumerate
    have tup : Heap.IsTuple (Shared.heap ⟨hp, g, d, tk, os⟩) l items := ⟨_, hl, rfl, n, rfl⟩
    wp_walk using PySem.AutoSeq1.wpAny_loadPart' hl
    refine wpAny_stack_any fun st => wpAny_pure ?_
    split
    · rename_i c _ _ _ _ _
      cases (c == Value.type "enumerate")
      · wp_walk using PySem.AutoSeq1.wpAny_loadPart' hl, wpAny_pyIter_tuple tup
        exact ⟨_, rfl, h⟩
      · wp_walk using PySem.AutoSeq1.wpAny_loadPart' hl, wpAny_pyIter_tuple tup
        exact ⟨_, rfl, h⟩
    · wp_walk using PySem.AutoSeq1.wpAny_loadPart' hl, wpAny_pyIter_tuple tup
      exact ⟨_, rfl, h⟩
theorem enum_tuple {prog : Program} {w : World} {A : Around} {E : Value → Shared → Prop} {s : Shared} {l : Addr} {items : Array Value} {Q : Value → Shared → Prop} (hL : s.heap.IsTuple l items)
    (h : ∀ h', IsEnum h' (s.heap.objs.size + 1) s.heap.objs.size 0 .none → h'.IsTupleIter s.heap.objs.size l 0 → h'.objs.size = s.heap.objs.size + 2 → (∀ b o, s.heap.get? b = some o → h'.get? b = some o) → Q (.ref (s.heap.objs.size + 1)) { s with heap := h' }) :
    wpAny (model prog w) A (call (.type "enumerate") [.ref l]) Q E s := by
  obtain ⟨⟨c, dct, dt, sl⟩, hl, hc, n, hd⟩ := hL
  replace hc : c = .type "tuple" := hc
  replace hd : dt = .seq items n := hd
  subst hc hd
  refine callType_new F.called_enumerate (by decide) (F.typeCall_enumerate_1 _) (F.newCall_enumerate_1 _) (fun obj => F.args_object_init_2 obj _) F.entry_enumerate_new (enum_newT l items n dct sl) ⟨hl, ?_⟩
  have hz : (s.heap.push { cls := .type "tuple_iterator", data := .fields #[.ref l, .int 0 0] }).objs.size = s.heap.objs.size + 1 := Heap.size_push ..
  show _ ∧ _
  rw [hz]
  have he : IsEnum ((s.heap.push { cls := .type "tuple_iterator", data := .fields #[.ref l, .int 0 0] }).push { cls := .type "enumerate", data := .fields #[.none, .bool false, .ref s.heap.objs.size, rawInt 0, .none, .none] }) (s.heap.objs.size + 1) s.heap.objs.size 0 .none := by
    have q := Heap.get?_push_size (s.heap.push { cls := .type "tuple_iterator", data := .fields #[.ref l, .int 0 0] }) (o := { cls := .type "enumerate", data := .fields #[.none, .bool false, .ref s.heap.objs.size, rawInt 0, .none, .none] }) rfl
    rw [hz] at q
    exact q
  exact ⟨⟨_, he, rfl⟩, h _ he ⟨_, Heap.get?_push_of_some _ (Heap.get?_push_size _ rfl), rfl, rfl⟩ (by rw [Heap.size_push, hz]) fun b o x => Heap.get?_push_of_some _ (Heap.get?_push_of_some _ x)⟩
def IteT (K : PySem.W.Frag) (a : Addr) : It :=
  ⟨fun i H => ∃ (xs : List V) (x : V), SqT K H a xs ∧ xs[i]? = some x, fun i H v H' => ∃ T x, v = .ref T ∧ H T = none ∧ H' = upd H T (.tup [.int (i : Nat), x]) ∧ ∀ xs, SqT K H a xs → xs[i]? = some x, fun i H => ∃ xs : List V, SqT K H a xs ∧ xs.length = i⟩
theorem turn_enumT {P : Program} {w : World} {K : PySem.W.Frag} {elts : List Expr} {kk : Nat} {tpos : Pos} (a e it : Addr) :
    Turn P w K (.Tuple elts kk tpos) (IteT K a) [e, it] e (fun i h => (∃ old, IsEnum h e it ((i : Nat) : Int) old) ∧ h.IsTupleIter it a i ∧ e ≠ it ∧ a ≠ it ∧ e ≠ a) where
  mem := by simp
  obj := fun i h st b hb => by
    obtain ⟨⟨old, he⟩, ⟨o, ho, hc, hd⟩, _⟩ := st
    have e' : b = e ∨ b = it := by simpa using hb
    rcases e' with z | z
    · rw [z]; exact ⟨_, he, fun v q => nomatch q⟩
    · rw [z]; exact ⟨o, ho, fun v q => by rw [hd] at q; cases q⟩
  keep := fun i h h' st k => let ⟨⟨old, he⟩, hi, hne⟩ := st; ⟨⟨old, k e (by simp) _ he⟩, hi.at fun o q => k it (by simp) o q, hne⟩
  item := by
    intro X hP hw hK hc i pins s σ H E I hf st hg
    subst hP hw hK
    obtain ⟨⟨old, he⟩, hit, hne, hai, hea⟩ := st
    obtain ⟨xs, x, hq, hx⟩ := hg
    obtain ⟨its, rv, p, hz⟩ := I.tuple hq
    have pt : s.heap.IsTuple a its.toArray := p
    obtain ⟨u, hu, ru⟩ := rv.get hx
    have hel : e < s.heap.objs.size := Heap.lt_size he
    have hil : it < s.heap.objs.size := by obtain ⟨_, q, _⟩ := hit; exact Heap.lt_size q
    have hlt : i < its.toArray.size := by
      have := (List.getElem?_eq_some_iff.mp hu).1
      simpa using this
    refine wpAny_pyNext_enum_itemD (Draws.tuple (A := X.A.in1) (by simpa using I.ok.hd hc) it a hai its.toArray) he ⟨hit, pt⟩ hlt hne (by simp [hne, hea]) fun y h' tk hy ho hit' hT hsz hk => ?_
    have eu : y = u := by
      have z : its[i]? = some y := by simpa using hy
      exact Option.some.inj (z.symm.trans hu)
    subst eu
    refine ⟨_, rfl, wpAny_letOwnedTupleGo_enum (s := { s with heap := h', toks := tk + 1 }) ho fun h'' he' sb => ?_⟩
    have hT2 : h''.get? s.heap.objs.size = some { cls := .type "tuple", data := .seq #[.int i tk, y] } := (sb.2 _ (Nat.ne_of_gt hel)).trans hT
    have new : ObjOk X.prog X.w (upd H s.heap.objs.size (.tup [.int (i : Nat), x])) h'' s.heap.objs.size (.tup [.int (i : Nat), x]) :=
      ⟨by show 2 ≤ sizeLine; decide, [.int i tk, y], .cons ⟨_, rfl⟩ (.cons ru .nil), ⟨_, hT2, rfl, _, rfl⟩⟩
    have I1 : Inv X pins σ (upd H s.heap.objs.size (.tup [.int (i : Nat), x])) { s with heap := h'', toks := tk + 1 } :=
      I.turnedNew (ch := [e, it]) (fun b ob hb q => (sb.2 b (fun z => hb (by simp [z]))).trans (hk b ob (fun z => hb (by simp [z])) (fun z => hb (by simp [z])) q)) hf (Nat.le_refl _) new
    refine ⟨.ref s.heap.objs.size, _, I1, rfl, ⟨_, x, rfl, I.hok.fresh (Nat.le_refl _), rfl, fun ys hy => by rw [I.tuple_inj hy hq]; exact hx⟩, ⟨⟨y, ?_⟩, hit'.1.at fun o q => (sb.2 it (Ne.symm hne)).trans q, hne, hai, hea⟩, fun b hb => ?_⟩
    · have e1 : ((i + 1 : Nat) : Int) = (i : Int) + 1 := by omega
      rw [e1]; exact he'
    · have e' : b = e ∨ b = it := by simpa using hb
      have hb' : b < s.heap.objs.size := by
        rcases e' with z | z
        · rw [z]; exact hel
        · rw [z]; exact hil
      rw [upd_ne (Nat.ne_of_lt hb')]
      exact (hf b hb).1
  done := by
    intro X hP hw hK hc i pins s σ H E I hf st hg
    subst hP hw hK
    obtain ⟨⟨old, he⟩, hit, hne, hai, hea⟩ := st
    obtain ⟨xs, hq, hx⟩ := hg
    obtain ⟨its, rv, p, hz⟩ := I.tuple hq
    have pt : s.heap.IsTuple a its.toArray := p
    obtain ⟨f0, f1, f2, f3, f4, f5⟩ := hf it (by simp)
    have hl : its.toArray.size = i := by
      rw [← hx, rv.length]
      simp
    refine wpAny_pyNext_enum_endD (Draws.tuple (A := X.A.in1) (by simpa using I.ok.hd hc) it a hai its.toArray) he ⟨by rw [hl]; exact hit, pt⟩ fun h' eb => ⟨rfl, I.turned (t' := s.toks) (fun b o hb q => eb b o hb q) f0 f1 f3 f4 f5⟩
  self := fun A i s Q E st h => let ⟨⟨_, he⟩, _⟩ := st; wpAny_pyIter_enum he h
def iEnumT (K : PySem.W.Frag) (ta : TA) : TI := fun σ H R => ta σ H fun vs H1 => ∃ a xs, vs = [.ref a] ∧ SqT K H1 a xs ∧ R (IteT K a) H1
theorem pi_enumT {X : Cx} {e : Expr} {ta : TA} {p pos tpos : Pos} {elts : List Expr} {kk : Nat} (hg : Gl X "enumerate") (hm : X.mg "enumerate" = none) (ha : PA X [e] ta) (hs : starEach [e] X.env = [(false, eval e X.env)] := by rfl) :
    PI X (.Tuple elts kk tpos) (.Call (.Name "enumerate" p) [e] [] pos) (iEnumT X.K ta) := by
  refine ⟨fun pins s σ H R I h => ?_⟩
  refine Call_ (ld_blt I hg hm boot_enumerate (PyProof.Rows.callWith_type1 (thn (ha.run pos pins s σ H _ I h) fun us s1 ⟨vs, H1, I1, r1, q1⟩ => ?_) hs rfl))
  obtain ⟨a, xs, ex, hq, q⟩ := q1
  subst ex
  cases r1 with
  | cons r rr =>
    cases rr
    cases r
    obtain ⟨its, rv, p', hz⟩ := I1.tuple hq
    have pt : s1.heap.IsTuple a its.toArray := p'
    have below : a < s1.heap.objs.size := by obtain ⟨_, q, _⟩ := pt; exact Heap.lt_size q
    refine enum_tuple pt fun h' he hit hsz hk => wpAny_pyIter_enum he ?_
    have I2 : Inv X pins σ H1 { s1 with heap := h' } := I1.kept (t' := s1.toks) hk
    refine ⟨s1.heap.objs.size + 1, [s1.heap.objs.size + 1, s1.heap.objs.size], _, _, H1, rfl, I2, turn_enumT a (s1.heap.objs.size + 1) s1.heap.objs.size, ⟨⟨.none, he⟩, hit, Nat.succ_ne_self _, Nat.ne_of_lt below, Nat.ne_of_gt (Nat.lt_succ_of_lt below)⟩, fun b hb => ?_, q⟩
    have e' : b = s1.heap.objs.size + 1 ∨ b = s1.heap.objs.size := by simpa using hb
    have hle : s1.heap.objs.size ≤ b := by
      rcases e' with z | z
      · rw [z]; exact Nat.le_add_right _ _
      · rw [z]; exact Nat.le_refl _
    exact I1.fpOk hle (I1.hok.fresh hle)
theorem walk_enumT {K : PySem.W.Frag} {a : Addr} {xs : List V} : L2.Walk (IteT K a) xs.length (fun H => SqT K H a xs) (YPair (fun i => some (.int (i : Nat))) (fun i => xs[i]?)) :=
  ⟨fun i H hi q => ⟨xs, xs[i], q, by simp [hi]⟩, fun H q => ⟨xs, q, rfl⟩, fun i H x H' hi q ⟨T, y, e1, e2, e3, e4⟩ => ⟨T, _, y, e1, e2, e3, rfl, e4 xs q⟩⟩

/-! ### a dict comprehension over any walk -/
theorem dc_it {J : It} {n : Nat} {G : Hp → Prop} {Y : Nat → Hp → V → Hp → Prop} (w : L2.Walk J n G Y) {g : TG} {tt : TT} {tk tv : TE} {vs : List Nat} {σ : L2.St} {H1 : Hp} {D : Addr} {Qd : Hp → Prop} (Pv : Nat → Hp → Prop) (h0 : Pv 0 (upd H1 D (.dK []))) (hG : ∀ i H, i ≤ n → Pv i H → G H)
    (hs : ∀ i x H H', i < n → Pv i H → Y i H x H' → g x (wipe σ vs) H' fun σ2 H2 => wipe σ2 vs = wipe σ vs ∧ tt σ2 H2 fun b H3 =>
      if b = true then tk σ2 H3 fun y H4 => tv σ2 H4 fun z H5 => ∃ kvs k, y = kV k ∧ H5 D = some (.dK kvs) ∧ kvs.length < sizeLine ∧ Pv (i + 1) (upd H5 D (.dK (putK kvs k z))) else Pv (i + 1) H3) (hd : ∀ H, Pv n H → Qd H) :
    ∃ W : Nat → Nat → Hp → Prop, (∃ m, W 0 m (upd H1 D (.dK []))) ∧ ∀ i m H, W i m H →
      (J.stop i H ∧ Qd H) ∨ (J.go i H ∧ ∃ Nx : Hp → Prop, (∀ H', Nx H' → ∃ m', m' < m ∧ W (i + 1) m' H') ∧ ∀ x H', J.yld i H x H' → g x (wipe σ vs) H' fun σ2 H2 => wipe σ2 vs = wipe σ vs ∧ tt σ2 H2 fun b H3 =>
        if b = true then tk σ2 H3 fun y H4 => tv σ2 H4 fun z H5 => ∃ kvs k, y = kV k ∧ H5 D = some (.dK kvs) ∧ kvs.length < sizeLine ∧ Nx (upd H5 D (.dK (putK kvs k z))) else Nx H3) := by
  refine ⟨fun i m H => m = n - i ∧ i ≤ n ∧ Pv i H, ⟨n, rfl, Nat.zero_le _, h0⟩, fun i m H ⟨em, hi, p⟩ => ?_⟩
  subst em
  have q := hG i H hi p
  rcases Nat.lt_or_eq_of_le hi with hlt | e
  · exact .inr ⟨w.goes i H hlt q, Pv (i + 1), fun H' p' => ⟨n - (i + 1), by omega, rfl, hlt, p'⟩, fun x H' y => hs i x H H' hlt p (w.yields i H x H' hlt q y)⟩
  · subst e
    exact .inl ⟨w.stops H q, hd H p⟩

/-! ### isinstance, one class -/
theorem isi_tuple {K : PySem.W.Frag} {H : Hp} {a : Addr} {xs : List V} (h : SqT K H a xs) : TyX K H (.ref a) (.type "tuple") := by
  rcases h with (h | ⟨o, h⟩) | ⟨o, _, _, e, c, _⟩
  · exact .base (.tup h)
  · exact .fTuple h
  · exact .kTuple e c
end Ft
namespace Ft
open PySem PySem.Spec PyProof.Rows L2
/-- a block within a block -/
theorem blkIn {N : List Str} {env : Env} {cl : List (Str × Addr)} {C : Addr} {scope inner sc : Scope} {own : List (Str × Nat)} (he : env.scope = sc) (h : blkC N (relS scope sc) inner own = true) : BlkOk N (compEnvC scope cl C env).scope inner own := by
  subst he
  exact blkOk_by h
end Ft
namespace Ft
open PySem PySem.Spec PyProof.Rows L2
/-! ### the layer's rules whose reading names the written part, under names of their own -/
def rLenS (K : PySem.W.Frag) : List V → Hp → VK → Prop := fun xs H Q => ∃ p ys, xs = [.ref p] ∧ (SqL K H p ys ∨ SqT K H p ys) ∧ Q (.int ys.length) H
theorem call_lenS {X : Cx} : CallR X (.builtin "len") (rLenS X.K) := call_len_seq
def rListOf (K : PySem.W.Frag) : List V → Hp → VK → Prop := fun xs H Q => ∃ p ys, xs = [.ref p] ∧ (SqL K H p ys ∨ SqT K H p ys) ∧ ∀ l, H l = none → Q (.ref l) (upd H l (.lst ys))
theorem call_listOf {X : Cx} : CallR X (.type "list") (rListOf X.K) := call_list_of
def rTupleOf (K : PySem.W.Frag) : List V → Hp → VK → Prop := fun xs H Q => ∃ p ys, xs = [.ref p] ∧ ((SqL K H p ys ∧ ∀ l, H l = none → Q (.ref l) (upd H l (.tup ys))) ∨ (SqT K H p ys ∧ Q (.ref p) H))
theorem call_tupleOf {X : Cx} : CallR X (.type "tuple") (rTupleOf X.K) := call_tuple_of
end Ft
namespace Ft
open PySem PySem.Spec PyProof.Rows L2
theorem at_name {i : Nat} {v : V} {σ : L2.St} {H : Hp} {Q : L2.St → Hp → Prop} (h : Q (σ.set i (some v)) H) : gName i v σ H Q := h
theorem at_seq {a b : TS} {D : Ends} {σ : L2.St} {H : Hp} (h : a { D with nx := b D } σ H) : tSeq a b D σ H := h
end Ft
namespace Ft
open PySem PySem.Spec PyProof.Rows L2
/-! ### a word between two statements, and behind an expression -/
def tCut (t u : TS) : TS := fun D σ H => ∃ M : L2.St → Hp → Prop, t { D with nx := M } σ H ∧ ∀ σ' H', M σ' H' → u D σ' H'
theorem ps_cut {X : Cx} {st : Stmt} {rest : List Stmt} {t u : TS} (h1 : PS X st t) (h2 : PSs X rest u) : PSs X (st :: rest) (tCut t u) := by
  refine ⟨fun pins s σ H D I h => ?_⟩
  obtain ⟨M, hm, hu⟩ := h
  refine wpAny_execs_cons (thn (h1.run pins s σ H { D with nx := M } I hm) ?_)
  intro f s1 q
  match f, q with
  | .next, q =>
    obtain ⟨σ', H', I', q⟩ := q
    exact h2.run pins s1 σ' H' D I' (hu σ' H' q)
  | .ret v, q => exact q
  | .brk, q => exact q
  | .cont, q => exact q
def tMid (te : TE) : TE := fun σ H Q => ∃ M : V → Hp → Prop, te σ H M ∧ ∀ v H', M v H' → Q v H'
theorem pe_mid {X : Cx} {e : Expr} {te : TE} (h : PE X e te) : PE X e (tMid te) := by
  refine ⟨fun pins s σ H Q I ⟨M, hm, hu⟩ => ?_⟩
  exact thn (h.run pins s σ H M I hm) fun u s1 ⟨v, H1, I1, r, m⟩ => ⟨v, H1, I1, r, hu v H1 m⟩
def tMidT (tt : TT) : TT := fun σ H Q => ∃ M : Bool → Hp → Prop, tt σ H M ∧ ∀ b H', M b H' → Q b H'
theorem pt_mid {X : Cx} {e : Expr} {tt : TT} (h : PT X e tt) : PT X e (tMidT tt) := by
  refine ⟨fun pins s σ H Q I ⟨M, hm, hu⟩ => ?_⟩
  exact thn (h.run pins s σ H M I hm) fun b s1 ⟨H1, I1, m⟩ => ⟨H1, I1, hu b H1 m⟩
theorem ite_any {c : Bool} {A B : Prop} (a : c = true → A) (b : c = false → B) : if c = true then A else B := by
  cases c with
  | true => exact iteT (a rfl)
  | false => exact iteF (b rfl)
end Ft

set_option Elab.async false
set_option linter.all false
set_option maxRecDepth 100000
set_option maxHeartbeats 4000000
namespace Ft
open PySem PySem.Spec PyProof.Rows L2
/-! ### the heap: what stays, and maps as they lie in it -/
def vN (n : Nat) : V := .int (n : Int)
def iN (l : List Nat) : List Int := l.map fun (n : Nat) => (n : Int)
theorem vN_map (l : List Nat) : l.map vN = (iN l).map V.int := by
  unfold iN
  rw [List.map_map]
  rfl
theorem iN_length (l : List Nat) : (iN l).length = l.length := List.length_map ..
theorem iN_mem {l : List Nat} {n : Nat} : (n : Int) ∈ iN l ↔ n ∈ l := by
  unfold iN
  constructor
  · intro h
    obtain ⟨m, hm, e⟩ := List.mem_map.mp h
    have : m = n := by omega
    exact this ▸ hm
  · intro h
    exact List.mem_map.mpr ⟨n, h, rfl⟩
/-- all but the objects in ex stay as they are -/
def Kp (ex : List Addr) (H H' : Hp) : Prop := ∀ b o, b ∉ ex → H b = some o → H' b = some o
theorem Kp.refl (ex : List Addr) (H : Hp) : Kp ex H H := fun _ _ _ h => h
theorem Kp.trans {ex : List Addr} {H H1 H2 : Hp} (a : Kp ex H H1) (b : Kp ex H1 H2) : Kp ex H H2 := fun c o n h => b c o n (a c o n h)
theorem Kp.of_same {ex : List Addr} {H H1 : Hp} (a : Same H H1) : Kp ex H H1 := fun c o _ h => a c o h
theorem Same.kp {ex : List Addr} {H H1 : Hp} (a : Same H H1) : Kp ex H H1 := fun c o _ h => a c o h
theorem same_upd {H : Hp} {p : Addr} {o : HO} (n : H p = none) : Same H (upd H p o) := fun b u e => by
  rw [upd_ne (ne_of_none e n)]
  exact e
theorem same_free {H H' : Hp} (a : Same H H') {p : Addr} (n : H' p = none) : H p = none := a.free n
theorem kp_free {ex : List Addr} {H H' : Hp} (a : Kp ex H H') {p : Addr} (hp : p ∉ ex) (n : H' p = none) : H p = none := by
  cases q : H p with
  | none => rfl
  | some o =>
    rw [a p o hp q] at n
    cases n
/-- a tuple stays where only lists and dicts change -/
def Lists (ex : List Addr) (H : Hp) : Prop := ∀ b ∈ ex, ∃ o, H b = some o ∧ (∀ xs, o ≠ .tup xs) ∧ ∀ q xs, o ≠ .frz q (.tup xs)
theorem Kp.sqT {K : PySem.W.Frag} {ex : List Addr} {H H' : Hp} (k : Kp ex H H') (l : Lists ex H) {a : Addr} {xs : List V} (h : SqT K H a xs) : SqT K H' a xs := by
  have off : ∀ o, H a = some o → ((∃ ys, o = .tup ys) ∨ ∃ q ys, o = .frz q (.tup ys)) → a ∉ ex := by
    intro o e t m
    obtain ⟨u, e1, n1, n2⟩ := l a m
    have : o = u := Option.some.inj (e.symm.trans e1)
    subst this
    rcases t with ⟨ys, t⟩ | ⟨q, ys, t⟩
    · exact n1 ys t
    · exact n2 q ys t
  rcases h with (h | ⟨o, h⟩) | h
  · exact .inl (.inl (k _ _ (off _ h (.inl ⟨_, rfl⟩)) h))
  · exact .inl (.inr ⟨o, k _ _ (off _ h (.inr ⟨_, _, rfl⟩)) h⟩)
  · exact .inr h
theorem Kp.sqL {K : PySem.W.Frag} {ex : List Addr} {H H' : Hp} (k : Kp ex H H') {a : Addr} {xs : List V} (n : a ∉ ex) (h : SqL K H a xs) : SqL K H' a xs := by
  rcases h with (h | ⟨o, h⟩) | h
  · exact .inl (.inl (k _ _ n h))
  · exact .inl (.inr ⟨o, k _ _ n h⟩)
  · exact .inr h
theorem lists_nil (H : Hp) : Lists [] H := fun _ h => nomatch h
theorem Same.sqT {K : PySem.W.Frag} {H H' : Hp} (k : Same H H') {a : Addr} {xs : List V} (h : SqT K H a xs) : SqT K H' a xs := (Same.kp (ex := []) k).sqT (lists_nil H) h

/-- a map -/
structure Chart where
  n : Nat
  roads : List (Nat × Nat)
  wished : List Nat
/-- a row of pairs at the addresses ts -/
def PairsAt (K : PySem.W.Frag) (H : Hp) (ts : List Addr) (ps : List (Nat × Nat)) : Prop := Paired (fun (t : Addr) (p : Nat × Nat) => SqT K H t [vN p.1, vN p.2]) ts ps
structure ChartAt (K : PySem.W.Frag) (H : Hp) (c : Addr) (C : Chart) (r w : Addr) (ts : List Addr) : Prop where
  top : SqT K H c [vN C.n, .ref r, .ref w]
  row : SqT K H r (ts.map V.ref)
  prs : PairsAt K H ts C.roads
  wis : SqT K H w (C.wished.map vN)
def IsChart (K : PySem.W.Frag) (H : Hp) (c : Addr) (C : Chart) : Prop := ∃ r w ts, ChartAt K H c C r w ts
theorem paired_imp {α β : Type} {R S : α → β → Prop} (h : ∀ a b, R a b → S a b) : ∀ {as : List α} {bs : List β}, Paired R as bs → Paired S as bs
  | _, _, .nil => .nil
  | _, _, .cons r t => .cons (h _ _ r) (paired_imp h t)
theorem PairsAt.keep {K : PySem.W.Frag} {ex : List Addr} {H H' : Hp} (k : Kp ex H H') (l : Lists ex H) {ts : List Addr} {ps : List (Nat × Nat)} (h : PairsAt K H ts ps) : PairsAt K H' ts ps :=
  paired_imp (fun _ _ q => k.sqT l q) h
theorem ChartAt.keep {K : PySem.W.Frag} {ex : List Addr} {H H' : Hp} (k : Kp ex H H') (l : Lists ex H) {c r w : Addr} {C : Chart} {ts : List Addr} (h : ChartAt K H c C r w ts) : ChartAt K H' c C r w ts :=
  ⟨k.sqT l h.top, k.sqT l h.row, h.prs.keep k l, k.sqT l h.wis⟩
theorem IsChart.keep {K : PySem.W.Frag} {ex : List Addr} {H H' : Hp} (k : Kp ex H H') (l : Lists ex H) {c : Addr} {C : Chart} (h : IsChart K H c C) : IsChart K H' c C := let ⟨r, w, ts, q⟩ := h; ⟨r, w, ts, q.keep k l⟩
theorem IsChart.same {K : PySem.W.Frag} {H H' : Hp} (k : Same H H') {c : Addr} {C : Chart} (h : IsChart K H c C) : IsChart K H' c C := h.keep (Same.kp (ex := []) k) (lists_nil H)
theorem ChartAt.same {K : PySem.W.Frag} {H H' : Hp} (k : Same H H') {c r w : Addr} {C : Chart} {ts : List Addr} (h : ChartAt K H c C r w ts) : ChartAt K H' c C r w ts := h.keep (Same.kp (ex := []) k) (lists_nil H)
theorem paired_get {α β : Type} {R : α → β → Prop} : ∀ {as : List α} {bs : List β} {i : Nat} {b : β}, Paired R as bs → bs[i]? = some b → ∃ a, as[i]? = some a ∧ R a b
  | _, _, _, _, .nil, e => by simp at e
  | _, _, 0, _, .cons r _, e => by
    simp at e
    subst e
    exact ⟨_, rfl, r⟩
  | _, _, i + 1, b, .cons _ t, e => by
    obtain ⟨a, h1, h2⟩ := paired_get (i := i) t (by simpa using e)
    exact ⟨a, by simpa using h1, h2⟩
theorem paired_getL {α β : Type} {R : α → β → Prop} : ∀ {as : List α} {bs : List β} {i : Nat} {a : α}, Paired R as bs → as[i]? = some a → ∃ b, bs[i]? = some b ∧ R a b
  | _, _, _, _, .nil, e => by simp at e
  | _, _, 0, _, .cons r _, e => by
    simp at e
    subst e
    exact ⟨_, rfl, r⟩
  | _, _, i + 1, b, .cons _ t, e => by
    obtain ⟨a, h1, h2⟩ := paired_getL (i := i) t (by simpa using e)
    exact ⟨a, by simpa using h1, h2⟩
/-- the order of pairs -/
def ltP (p q : Nat × Nat) : Prop := p.1 < q.1 ∨ (p.1 = q.1 ∧ p.2 < q.2)
structure Chart.Ok (C : Chart) : Prop where
  n60 : C.n ≤ 60
  many : C.roads.length ≤ 240
  inR : ∀ p ∈ C.roads, p.1 < C.n ∧ p.2 < C.n
  upR : C.roads.Pairwise ltP
  inW : ∀ a ∈ C.wished, a < C.n
  upW : C.wished.Pairwise (· < ·)
/-- the builtins' names that the top has left alone, and its own two numbers -/
structure Txt (mg : Str → Option Value) : Prop where
  isinstance : mg "isinstance" = none
  len : mg "len" = none
  tuple : mg "tuple" = none
  int : mg "int" = none
  bool : mg "bool" = none
  enumerate : mg "enumerate" = none
  range : mg "range" = none
  set : mg "set" = none
  list : mg "list" = none
  sorted : mg "sorted" = none
  min : mg "min" = none
  max : mg "max" = none
  repr : mg "repr" = none
  dict : mg "dict" = none
  str : mg "str" = none
  any : mg "any" = none
  all : mg "all" = none
  sum : mg "sum" = none
  zip : mg "zip" = none
end Ft

set_option Elab.async false
set_option linter.all false
set_option maxRecDepth 100000
set_option maxHeartbeats 4000000
/-! An error of an own class with an own __init__, made where nothing is handled: its context is None. -/
namespace Ft
open PySem PySem.Spec PyProof.Rows L2
section
variable {X : Cx} {e : Expr} {es : List Expr} {ta : TA} {p pos : Pos}
theorem pmk_oexN {CX : CXT} {x : Str} {C fI : Addr} {k : Nat} {fd : FuncData} {ps : List Str} {sp : Sp} (T : OexC X.K C) (iC : PySem.W.findIn X.K (.ref C) "__init__" = some (some (.ref fI))) (tI : PySem.W.typeIn X.K (.ref fI) = some (.type "function"))
    (init : FnOk X.prog X.w X.K X.mg X.base CX k fI fd ps sp) (hr : Room (k + 1) X.A) (binds : Binds X.K fd ps []) (silent : Passes CX X (fun _ _ _ => False)) (hg : Gl X x) (hm : X.mg x = some (.ref C)) (ha : PA X (e :: es) ta)
    (hdb : (x == ("__debug__" : Str)) = false := by decide) (he : starEach (e :: es) X.env = (false, eval e X.env) :: starEach es X.env := by rfl) (hpl : (backTo pos (starEach es X.env)).any (·.1) = false := by rfl) :
    L2N.PMk X (.Call (.Name x p) (e :: es) [] pos) (tMkO C sp [] ta) := by
  intro pins s σ H Q I h
  obtain ⟨nm, q, N, bs, bm, sn, sub, ab, col, dd, c0, c1, c2, c3, c5, stands, flags⟩ := T.cls
  refine wpAny_Call_Name_kw (ld_glob I hg hm (PySem.W.callWith_K (h₀ := X.base) I.ok.mod.kin T.kC (thn (ha.run pos pins s σ H _ I h) fun us s1 ran => ?_) he hpl) hdb)
  obtain ⟨vs, H1, I1, rel, few, told⟩ := ran
  refine ⟨I1.kIn, ?_⟩
  obtain ⟨hp, gens, drawn, toks, os⟩ := s1
  have above : hp.objs.size ≤ hp.objs.size + 1 := Nat.le_succ _
  have wish := told (hp.objs.size + 1) (I1.hok.fresh above)
  rw [List.append_nil] at wish
  have made : ((hp.push (PySem.W.kdv_tup us)).push (PySem.HandSPX.excO C hp.objs.size)).get? (hp.objs.size + 1) = some (PySem.HandSPX.excO C hp.objs.size) := by heap_get
  have old : ∀ b o, hp.get? b = some o → ((hp.push (PySem.W.kdv_tup us)).push (PySem.HandSPX.excO C hp.objs.size)).get? b = some o := fun b o z => Heap.get?_push_of_some _ (Heap.get?_push_of_some _ z)
  have I2 : Inv X pins σ (upd H1 (hp.objs.size + 1) (exo (hp.objs.size + 1) C none)) ⟨(hp.push (PySem.W.kdv_tup us)).push (PySem.HandSPX.excO C hp.objs.size), gens, drawn, toks, os⟩ := I1.laid (t' := toks) old above (exo_ok made)
  have rel2 : Vals (V.ref (hp.objs.size + 1) :: vs) (Value.ref (hp.objs.size + 1) :: us) := .cons rfl rel
  have size : (Value.ref (hp.objs.size + 1) :: us).length = ps.length := rel2.length.symm.trans (init.len _ _ _ _ wish)
  have bound := binds _ (Value.ref (hp.objs.size + 1) :: us) I2.kIn (by rw [List.append_nil]; exact size)
  rw [List.append_nil] at bound
  have fits : us.length ≤ sizeLine := by
    have := Paired.length rel
    rw [sizeLine_eq]
    omega
  refine wpAny_call (PySem.HandSPX.call_own F.excBase_ValueError (fun Y => PySem.HandSPX.refsVE_contains Y bm flags) (I1.kIn _ _ stands) (PySem.W.looks_findIn I1.kIn iC) (fun self => PySem.W.bind_fn I1.kIn self tI) fits ?_)
  refine codeAny_mono (init.run _ X.stack _ _ ⟨Value.ref (hp.objs.size + 1) :: us, []⟩ _ _ _ (fun _ _ _ => False) (hr.make C us []) (I2.env0.make C us []) bound rel2 wish) fun r s2 ended => ?_
  rcases r with er | (_ | _ | _ | u)
  · exact silent pins σ _ _ er s2 I2 ended
  all_goals first | exact False.elim ended | skip
  obtain ⟨v, H2, eos, bare, un, hok, rv, rfl, d, fs, ea, ed, free, q2⟩ := ended
  obtain ⟨h2, gens2, drawn2, toks2, os2⟩ := s2
  refine ⟨rv, ?_⟩
  obtain ⟨t0, G, J, back, gone, whole, na⟩ := mk_end0 (d2 := drawn2) (t2 := toks2) I1 above old un hok eos bare ea ed free
  exact ⟨hp.objs.size + 1, _, _, ⟨G, gens2, drawn2, toks2, os2⟩, _, .ref C, some d, rfl, J, back, gone, whole, ⟨rfl, rfl, fun fields z => by cases z; rfl⟩, rfl, rfl, na, rfl, bare, raises_own T.exC T.tyC, q2⟩
end
end Ft

set_option Elab.async false
set_option linter.all false
set_option maxRecDepth 100000
set_option maxHeartbeats 4000000
/-! Errors of own classes that share one __init__(self, what): raised, let through by a def, caught. -/
namespace Ft
open PySem PySem.Spec PyProof.Rows L2
/-- the class x of the text, at C; fI: the __init__ that it has -/
structure ErrC (K : PySem.W.Frag) (mg : Str → Option Value) (x : Str) (C fI : Addr) : Prop where
  g : mg x = some (.ref C)
  oex : OexC K C
  iC : PySem.W.findIn K (.ref C) "__init__" = some (some (.ref fI))
  tI : PySem.W.typeIn K (.ref fI) = some (.type "function")
  noW : PySem.W.findIn K (.ref C) "what" = some none
  xf : XfC K C
/-- __init__(self, what) -/
def spInit (K : PySem.W.Frag) : Sp := fun vs H Q _ => ∃ (a C : Addr) (v : V), vs = [.ref a, v] ∧ OexC K C ∧ PySem.W.findIn K (.ref C) "what" = some none ∧ H a = some (exo a C none) ∧
  ∀ dx, H dx = none → dx ≠ a → Q .non (upd (upd H dx (exd dx [("what", v)])) a (exo a C (some dx)))
/-- an error that may be raised -/
structure Er (P : Program) (w : World) (K : PySem.W.Frag) (mg : Str → Option Value) (base : Heap) (ca : Str → Addr) (x : Str) : Prop where
  ex : ∃ (fI : Addr) (fd : FuncData), ErrC K mg x (ca x) fI ∧ FnOk P w K mg base L2.CX0 1 fI fd ["self", "what"] (spInit K) ∧ Binds K fd ["self", "what"] []
theorem Er.c {P : Program} {w : World} {K : PySem.W.Frag} {mg : Str → Option Value} {base : Heap} {ca : Str → Addr} {x : Str} (e : Er P w K mg base ca x) : ∃ fI, ErrC K mg x (ca x) fI := let ⟨fI, _, h, _⟩ := e.ex; ⟨fI, h⟩
theorem upd_del {H : Hp} {a d : Addr} {o : HO} {u v : HO} {w : HO} (na : H a = none) (hd : d ≠ a) : upd (del (upd (upd (upd H a o) d u) a v) a) d w = upd H d w := by
  funext b
  by_cases h1 : b = d
  · rw [h1, upd_same, upd_same]
  · rw [upd_ne h1, upd_ne h1]
    by_cases h2 : b = a
    · rw [h2, del_same, na]
    · rw [del_ne h2, upd_ne h2, upd_ne h1, upd_ne h2]
theorem passF {X : Cx} {E : XK} : Passes L2.CX0 X E := fun _ _ _ _ _ _ _ h => h.elim
def tMidA (ta : TA) : TA := fun σ H Q => ∃ M : List V → Hp → Prop, ta σ H M ∧ ∀ vs H', M vs H' → Q vs H'
theorem pa_mid {X : Cx} {es : List Expr} {ta : TA} (h : PA X es ta) : PA X es (tMidA ta) := by
  refine ⟨fun pos pins s σ H Q I ⟨M, hm, hu⟩ => ?_⟩
  exact thn (h.run pos pins s σ H M I hm) fun us s1 ⟨vs, H1, I1, r, m⟩ => ⟨vs, H1, I1, r, hu vs H1 m⟩
/-- raise x(e) -/
def tRaise (C : Addr) (W : WX) (ta : TA) : TS := fun _ σ H => ta σ H fun vs H1 => ∃ v, vs = [v] ∧ ∀ d, H1 d = none → W (.ref C) (some d) σ (upd H1 d (.xd [("what", v)]))
section
variable {X : Cx} {ca : Str → Addr} {x : Str} {W : WX} {e : Expr} {es : List Expr} {ta : TA} {p pos pos2 : Pos} {k : Nat}
theorem ps_raiseE (hc : X.calm = true) (er : Er X.prog X.w X.K X.mg X.base ca x) (hr : Room k X.A) (hk : 2 ≤ k) (tk : L2N.Takes X W) (hg : Gl X x) (ha : PA X (e :: es) ta)
    (hdb : (x == ("__debug__" : Str)) = false := by decide) (he : starEach (e :: es) X.env = (false, eval e X.env) :: starEach es X.env := by rfl) (hpl : (backTo pos (starEach es X.env)).any (·.1) = false := by rfl) :
    PS X (.Raise (some (.Call (.Name x p) (e :: es) [] pos)) none pos2) (tRaise (ca x) W ta) := by
  obtain ⟨fI, fd, c, F, b⟩ := er.ex
  refine ⟨fun pins s σ H D I h => ?_⟩
  refine (L2N.ps_raise (pos := pos2) hc tk (pmk_oexN (pos := pos) (p := p) c.oex c.iC c.tI F (hr.mono hk) b passF hg c.g (pa_mid ha) hdb he hpl)).run pins s σ H D I ?_
  have imp : ∀ vs H1, (∃ v, vs = [v] ∧ ∀ d, H1 d = none → W (.ref (ca x)) (some d) σ (upd H1 d (.xd [("what", v)]))) →
      vs.length ≤ 1000 ∧ ∀ a, H1 a = none → spInit X.K (.ref a :: (vs ++ [])) (upd H1 a (exo a (ca x) none)) (fun v H2 => v = .non ∧ ∃ (d : Addr) (fs : List (Str × V)), H2 a = some (exo a (ca x) (some d)) ∧ H2 d = some (exd d fs) ∧ H1 d = none ∧ W (.ref (ca x)) (some d) σ (upd (del H2 a) d (.xd fs))) (fun _ _ _ => False) := by
    rintro vs H1 ⟨v, rfl, q⟩
    refine ⟨by simp, fun a na => ⟨a, ca x, v, rfl, c.oex, c.noW, upd_same, fun dx ndx hda => ⟨rfl, dx, [("what", v)], upd_same, ?_, ?_, ?_⟩⟩⟩
    · rw [upd_ne hda, upd_same]
    · rwa [upd_ne hda] at ndx
    · rw [upd_del na hda]
      rw [upd_ne hda] at ndx
      exact q dx ndx
  exact ⟨_, h, imp⟩
end
/-! ### defs that may raise -/
structure CalX (P : Program) (w : World) (K : PySem.W.Frag) (mg : Str → Option Value) (base : Heap) (k : Nat) (x : Str) (sp : Sp) : Prop where
  ex : ∃ (f : Addr) (fd : FuncData) (ps : List Str), FnOk P w K mg base (L2N.CX P w) k f fd ps sp ∧ mg x = some (.ref f) ∧ PySem.W.keepIn K (.ref f) = true ∧ Binds K fd ps []
theorem pe_x {X : Cx} {k j : Nat} {x : Str} {sp : Sp} {W : WX} {p pos : Pos} {e : Expr} {es : List Expr} {t : TA} (tk : L2N.Takes X W) (c : CalX X.prog X.w X.K X.mg X.base k x sp) (hr : Room j X.A) (hk : k ≤ j) (hg : Gl X x) (ha : PA X (e :: es) t)
    (hdb : (x == ("__debug__" : Str)) = false := by decide) (he : starEach (e :: es) X.env = (false, eval e X.env) :: starEach es X.env := by rfl) (hpl : (backTo pos (starEach es X.env)).any (·.1) = false := by rfl) :
    PE X (.Call (.Name x p) (e :: es) [] pos) (tCallS sp (WE W) t) := by
  obtain ⟨f, fd, ps, F, hm, kp, b⟩ := c.ex
  exact pe_callS F (hr.mono hk) hg hm kp b (fun σ => L2N.passAt tk σ) ha hdb he hpl
theorem okN {P : Program} {w : World} {K : PySem.W.Frag} {mg : Str → Option Value} {base : Heap} {x qual : Str} {st : Stmt} {f : Addr} {fd : FuncData} {N ps : List Str} {k : Nat} {sp : Sp} (F : L2.Fun K x qual st f fd) (S : FnScope N ps (L2.defScope st)) (len : ∀ vs H Q E, sp vs H Q E → vs.length = ps.length)
    (body : ∀ (cdv : Value) (A : Around) (outer : List Env) (s : Shared) (H : Hp) (vs : List V) (Q : VK) (E : XK), Room k (A.deeper (envOfC qual (L2.defScope st) s.heap.objs.size f cdv)) → sp vs H Q E →
      ∃ t, PSs (cxOf (L2N.CX P w) P w K mg base N qual (L2.defScope st) f cdv A outer s H E) (L2.defBody st) t ∧ t { nx := fun _ H' => Q .non H', rt := Q } (start N vs) H) : FnOk P w K mg base (L2N.CX P w) (k + 1) f fd ps sp := by
  obtain ⟨_, _, _, _, _, _, cdv, _, _, rfl, at_, code⟩ := F.ex
  exact fn_of at_ code S len fun A outer s H vs Q E => body cdv A outer s H vs Q E
theorem calx_of {P : Program} {w : World} {K : PySem.W.Frag} {mg : Str → Option Value} {base : Heap} {x : Str} {st : Stmt} {N ps : List Str} {k : Nat} {sp : Sp} (D : Def K mg x st) (S : FnScope N ps (L2.defScope st))
    (bd : ∀ (kV doc pm : Value) (an : Option Addr) (cdv ct : Value) (us : List Value), us.length = ps.length → bindArgs (PySem.W.fnOf x x (L2.defArgs st) (L2.defBody st) (L2.defScope st) .none kV doc pm an cdv ct) ⟨us, []⟩ = pure (ps.zip us))
    (len : ∀ vs H Q E, sp vs H Q E → vs.length = ps.length)
    (body : ∀ (f : Addr) (cdv : Value) (A : Around) (outer : List Env) (s : Shared) (H : Hp) (vs : List V) (Q : VK) (E : XK), Room k (A.deeper (envOfC x (L2.defScope st) s.heap.objs.size f cdv)) → sp vs H Q E →
      ∃ t, PSs (cxOf (L2N.CX P w) P w K mg base N x (L2.defScope st) f cdv A outer s H E) (L2.defBody st) t ∧ t { nx := fun _ H' => Q .non H', rt := Q } (start N vs) H) : CalX P w K mg base (k + 1) x sp := by
  obtain ⟨f, fd, F, hm⟩ := D.ex
  exact ⟨f, fd, ps, okN F S len (body f), hm, F.kp, F.binds bd⟩
/-- .. where nothing is raised -/
theorem fnOk_valid {P : Program} {w : World} {K : PySem.W.Frag} {mg : Str → Option Value} {base : Heap} {k : Nat} {f : Addr} {fd : FuncData} {ps : List Str} {sp sp' : Sp} (F : FnOk P w K mg base (L2N.CX P w) k f fd ps sp)
    (h : ∀ vs H Q E, sp' vs H Q E → sp vs H Q L2.E0) : FnOk P w K mg base L2.CX0 k f fd ps sp' :=
  ⟨fun vs H Q E q => F.len vs H Q _ (h _ _ _ _ q), fun A outer s H args us vs Q E hr he hb hv hs => codeAny_mono (F.run A outer s H args us vs Q L2.E0 hr he hb hv (h _ _ _ _ hs)) fun r s' hq => by
    cases r with
    | error e =>
      obtain ⟨_, _, _, _, _, _, _, _, _, _, _, _, z⟩ := hq
      exact z.elim
    | ok fl => cases fl <;> exact hq⟩
theorem CalX.valid {P : Program} {w : World} {K : PySem.W.Frag} {mg : Str → Option Value} {base : Heap} {k : Nat} {x : Str} {sp sp' : Sp} (c : CalX P w K mg base k x sp) (h : ∀ vs H Q E, sp' vs H Q E → sp vs H Q L2.E0) : Cal P w K mg base k x sp' := by
  obtain ⟨f, fd, ps, F, hm, kp, b⟩ := c.ex
  exact ⟨f, fd, ps, fnOk_valid F h, hm, kp, b⟩
theorem Cal.imp {P : Program} {w : World} {K : PySem.W.Frag} {mg : Str → Option Value} {base : Heap} {k : Nat} {x : Str} {sp sp' : Sp} (c : Cal P w K mg base k x sp) (h : ∀ vs H Q E, sp' vs H Q E → sp vs H Q E) : Cal P w K mg base k x sp' := by
  obtain ⟨f, fd, ps, F, hm, kp, b⟩ := c.ex
  exact ⟨f, fd, ps, F.imp h, hm, kp, b⟩
/-- what is wanted of an error e, of all that may leave -/
def Raised (K : PySem.W.Frag) (ca : Str → Addr) (H : Hp) (E : XK) (e : Str × PyData) : Prop := ∀ (d : Addr) (H' : Hp) (v : V), Same H H' → H' d = some (.xd [("what", v)]) → Dp K H' v e.2 → E (.ref (ca e.1)) (some d) H'
theorem Raised.same {K : PySem.W.Frag} {ca : Str → Addr} {H H1 : Hp} {E : XK} {e : Str × PyData} (r : Raised K ca H E e) (s : Same H H1) : Raised K ca H1 E e := fun d H' v s' hd hv => r d H' v (s.trans s') hd hv
end Ft

set_option Elab.async false
set_option linter.all false
set_option maxRecDepth 100000
set_option maxHeartbeats 4000000
/-! Several except clauses, each with a name or without. -/
namespace Ft
open PySem PySem.Spec PyProof.Rows L2
theorem takesN0 {X : Cx} : L2N.Takes X (fun _ _ _ _ => False) := fun _ _ ⟨_, _, _, _, _, _, _, _, _, _, _, _, _, _, _, _, z⟩ => z.elim
abbrev Hd := Value × Option Nat × (Addr → Value → Option Addr → TS)
def gone (i : Nat) (D : Ends) : Ends := { nx := fun σ' H' => D.nx (σ'.set i none) H', rt := D.rt, bk := fun σ' H' => D.bk (σ'.set i none) H', ct := fun σ' H' => D.ct (σ'.set i none) H' }
def wHd (o : Option Nat) (ts : Addr → Value → Option Addr → TS) (a : Addr) (cls : Value) (d : Option Addr) (D : Ends) (σ : L2.St) (H : Hp) : Prop := match o with
  | none => ts a cls d D σ H
  | some i => ts a cls d (gone i D) (σ.set i (some (.ref a))) H
/-- what the clauses wish of an exception of the body -/
def wMs (K : PySem.W.Frag) (n : Nat) (Wout : WX) (D : Ends) : List Hd → WX
  | [] => Wout
  | (c, o, ts) :: r => fun cls d σ H => ∃ b, PySem.W.exmOne K cls c = some b ∧ (b = true → ∀ a, H a = none → σ.length = n → wHd o ts a cls d D σ H) ∧ (b = false → wMs K n Wout D r cls d σ H)
inductive HdsA (X : Cx) : List ExceptHandler → List Hd → Prop
  | nil : HdsA X [] []
  | no {x : Str} {c : Value} {ts : Addr → Value → Option Addr → TS} {b₀ : Stmt} {suite : List Stmt} {np pos' : Pos} {hds : List ExceptHandler} {l : List Hd} (hc : Names X x c)
      (hsu : ∀ (a : Addr) (oe : Obj) (cls : Value) (d : Option Addr) (pn : List (Addr × Obj)), L2N.Zn cls d oe → (∃ vs, oe.data = .fields vs) → PSs (X.suite a ((a, oe) :: pn)) (b₀ :: suite) (ts a cls d)) (r : HdsA X hds l) :
      HdsA X (.ExceptHandler (some (.Name x np)) none (b₀ :: suite) pos' :: hds) ((c, none, ts) :: l)
  | as {x n : Str} {c : Value} {i : Nat} {ts : Addr → Value → Option Addr → TS} {b₀ : Stmt} {suite : List Stmt} {np pos' : Pos} {hds : List ExceptHandler} {l : List Hd} (hi : X.N[i]? = some n) (hln : X.env.kindOf n = some .local) (hc : Names X x c)
      (hsu : ∀ (a : Addr) (oe : Obj) (cls : Value) (d : Option Addr) (pn : List (Addr × Obj)), L2N.Zn cls d oe → (∃ vs, oe.data = .fields vs) → PSs (X.suite a ((a, oe) :: pn)) (b₀ :: suite) (ts a cls d)) (r : HdsA X hds l) :
      HdsA X (.ExceptHandler (some (.Name x np)) (some n) (b₀ :: suite) pos' :: hds) ((c, some i, ts) :: l)
section
variable {X : Cx} {body : List Stmt} {h₀ : ExceptHandler} {hds : List ExceptHandler} {l : List Hd} {pos : Pos} {tb : WX → TS} {Wout : WX}
theorem ps_try_ms (hs : X.stack = X.env :: X.outer) (hf : X.env.frame = some X.env.locals) (hN : X.N.Nodup) (tk : L2N.Takes X Wout)
    (hb : ∀ (W : WX) (pn : List (Addr × Obj)) (xe : Value → Shared → Prop), L2N.Takes (X.tr pn xe) W → PassesOwn (model X.prog X.w) X.A X.env xe → PSs (X.tr pn xe) body (tb W))
    (hh : HdsA X (h₀ :: hds) l) : PS X (.Try body (h₀ :: hds) [] [] pos) (fun D σ H => tb (wMs X.K X.N.length Wout D l) D σ H) := by
  refine ⟨fun pins s σ H D I h => ?_⟩
  have ok := I.ok
  have hfr : X.A.frames = some (X.env :: X.outer) := by rw [ok.frames, hs]
  refine wpAny_Try_except ?_
  refine wpAny_mono ((hb (wMs X.K X.N.length Wout D l) (X.pn ++ pins) (fun e s₁ => wpAny (model X.prog X.w) X.A (noteFrame e X.env) (fun _ s₂ => wpAny (model X.prog X.w) X.A (setFlight e none) (fun _ s₃ =>
    wpAny (model X.prog X.w) X.A (handleBy e X.env (h₀ :: hds)) (SP X pins D) X.xe s₃) X.xe s₂) X.xe s₁) (fun u s' xx => ?_) PassesOwn.looking).run [] s σ H D (I.toTry _) h) (fun f s1 hsp => ?_) (fun e s1 he => he)
  · -- the catch
    obtain ⟨a, B, sI, pins', σ', H', cls, d, rfl, J', nb, up, sky, na, os, ag, w⟩ := xx
    have J : Inv X pins σ' H' sI := J'.ofTry ok
    have sky' : Sky B (X.env :: X.outer) a (L2N.Zn cls d) X.env.locals s'.heap := by rw [← hs]; exact sky
    show wpAny (model X.prog X.w) X.A (noteFrame (.ref a) X.env) _ _ _
    refine L2N.Sky.land L2N.Zn.steady hfr hf sky' fun h3 fl3 up3 => ?_
    have J3 : Inv X pins σ' H' { s' with heap := h3 } := J.landed nb fl3.1 (up.trans up3) os ag
    obtain ⟨oe3, vs3, he3, hz3, hd3⟩ := fl3.there
    have notFr : ∀ {h : Heap} {o : Obj} {vs : Array Value}, h.FunFrames B (X.env :: X.outer) → h.get? a = some o → o.data = .fields vs → a ∉ frs (X.env :: X.outer) := fun {h o vs} ff e dd hm => by
      obtain ⟨_, o', e', hnf⟩ := ff.mem hm
      rw [e] at e'; cases e'
      exact hnf _ dd
    have nfr := notFr fl3.2.2.1 he3 hd3
    have nL : a ≠ X.env.locals := fun z => nfr (List.mem_filterMap.mpr ⟨X.env, List.mem_cons_self, by rw [hf, z]⟩)
    have nF : a ∉ X.fs := fun hm => by
      obtain ⟨e, he, q⟩ := List.mem_filterMap.mp hm
      exact nfr (List.mem_filterMap.mpr ⟨e, List.mem_cons_of_mem _ he, q⟩)
    have S3 := J3.suite he3 hd3 na nL nF
    have LT : PySem.W.Looks (model X.prog X.w) h3 (typeOf (.ref a)) cls := fun A Q E s k q => wpAny_typeOf_ref (k _ _ he3) (by rw [hz3.1]; exact q)
    have test : ∀ {x : Str} {c : Value} {np : Pos} (hc : Names X x c) {Q : Value → Shared → Prop} {E : Value → Shared → Prop}, Q c { s' with heap := h3 } → wpAny (model X.prog X.w) (X.A.mark (some (.ref a))) (eval (.Name x np) X.env) Q E { s' with heap := h3 } := fun {x c np} hc {Q E} q => by
      obtain ⟨hg, hdbg, hm | ⟨hm, hv, hnn⟩⟩ := hc
      · exact ld_glob (X := X.suite a ((a, oe3) :: (X.pn ++ pins))) S3 hg hm q hdbg
      · exact ld_blt (X := X.suite a ((a, oe3) :: (X.pn ++ pins))) S3 hg hm hv q hnn hdbg
    have go : ∀ {hds' : List ExceptHandler} {l' : List Hd}, HdsA X hds' l' → wMs X.K X.N.length Wout D l' cls d σ' H' →
        wpAny (model X.prog X.w) X.A (handleBy (.ref a) X.env hds') (SP X pins D) X.xe { s' with heap := h3 } := by
      intro hds' l' hk
      induction hk with
      | nil =>
        intro w
        refine wpAny_handleBy_nil ?_
        obtain ⟨k1, k2, k3, oe, vs, T, oT, ts', he, hz, hd, h1, hr⟩ := id fl3
        unfold PySem.passOn
        refine wpAny_bind (wpAny_field he hd h1 ?_)
        rw [if_neg (show ¬ ((Value.ref T == Value.none) = true) from by simp)]
        have fin : wpAny (model X.prog X.w) X.A (setFlight (.ref a) X.env.frame) (fun _ s4 => wpAny (model X.prog X.w) X.A (throw (.ref a) : Sem Flow) (SP X pins D) X.xe s4) X.xe { s' with heap := h3 } := by
          rw [hf]
          refine HandSPX.setFlight_upZ fl3 fun h4 hh4 up4 => wpAny_throw (tk _ _ ?_)
          exact ⟨a, B, sI, pins, σ', H', cls, d, rfl, J, nb, (up.trans up3).trans up4, .inr (.inr (by rw [hs]; exact hh4)), na, os, ag, w⟩
        first
          | exact wpAny_bind (wpAny_pure (wpAny_bind fin))
          | exact wpAny_bind fin
      | @no x c ts b₀ suite np pos' hds2 l2 hc hsu r ih =>
        intro w
        obtain ⟨b, hb1, hyes, hno⟩ := w
        have LM := PySem.W.exm_one (M := model X.prog X.w) (J3.kIn) LT hb1
        refine wpAny_handleBy_cons (codeAny_handlers_test ?_) (by intro q; cases q)
        refine test hc (LM.here ?_)
        cases b with
        | true =>
          refine codeAny_handlers_suite ?_
          refine HandSPX.lands_againZ fl3 fun h4 fl4 up4 => ?_
          have J4 : Inv X pins σ' H' { s' with heap := h4 } := J.landed nb fl4.1 ((up.trans up3).trans up4) os ag
          obtain ⟨oe4, vs4, he4, hz4, hd4⟩ := fl4.there
          have S4 := J4.suite he4 hd4 na nL nF
          refine wpAny_mono ((hsu a oe4 cls d (X.pn ++ pins) hz4 ⟨_, hd4⟩).run [] _ _ H' _ S4 (hyes rfl a na J.len)) (fun f s6 hsp => ?_) (fun _ _ z => False.elim z)
          cases f with
          | next =>
            obtain ⟨σ6, H6, S6, q6⟩ := hsp
            exact ⟨_, _, S6.unsuite ok, q6⟩
          | brk =>
            obtain ⟨σ6, H6, S6, q6⟩ := hsp
            exact ⟨_, _, S6.unsuite ok, q6⟩
          | cont =>
            obtain ⟨σ6, H6, S6, q6⟩ := hsp
            exact ⟨_, _, S6.unsuite ok, q6⟩
          | ret u =>
            obtain ⟨v6, σ6, H6, S6, r6, q6⟩ := hsp
            exact ⟨_, _, _, S6.unsuite ok, r6, q6⟩
        | false =>
          show wpAny _ X.A (handleBy (.ref a) X.env hds2) _ _ _
          exact ih (hno rfl)
      | @as x n c i ts b₀ suite np pos' hds2 l2 hi hln hc hsu r ih =>
        intro w
        obtain ⟨b, hb1, hyes, hno⟩ := w
        have LM := PySem.W.exm_one (M := model X.prog X.w) (J3.kIn) LT hb1
        refine wpAny_handleBy_cons (codeAny_handlers_test ?_) (by intro q; cases q)
        refine test hc (LM.here ?_)
        cases b with
        | true =>
          refine codeAny_handlers_suite_as ?_
          refine HandSPX.lands_againZ fl3 fun h4 fl4 up4 => ?_
          have J4 : Inv X pins σ' H' { s' with heap := h4 } := J.landed nb fl4.1 ((up.trans up3).trans up4) os ag
          obtain ⟨oe4, vs4, he4, hz4, hd4⟩ := fl4.there
          have S4 := J4.suite he4 hd4 na nL nF
          refine store_ok (X := X.suite a ((a, oe4) :: (X.pn ++ pins))) (v := .ref a) S4 hN hi (.inl hln) rfl (fun s5 S5 => ?_) (.inr hln)
          refine wpAny_mono ((hsu a oe4 cls d (X.pn ++ pins) hz4 ⟨_, hd4⟩).run [] s5 _ H' _ S5 (hyes rfl a na J.len)) (fun f s6 hsp => ?_) (fun _ _ z => False.elim z)
          have end_ : ∀ {σ6 : L2.St} {H6 : Hp} {Q : Shared → Prop}, Inv (X.suite a ((a, oe4) :: (X.pn ++ pins))) [] σ6 H6 s6 → (∀ s7, Inv X pins (σ6.set i none) H6 s7 → Q s7) →
              wpAny (model X.prog X.w) X.A (do bindName X.env n .none; unbindBehindTheSuite X.env n pos') (fun _ s7 => Q s7) X.xe s6 := fun {σ6 H6 Q} S6 hq => gone_ok (S6.unsuite ok) hN hi hln hq
          cases f with
          | next =>
            obtain ⟨σ6, H6, S6, q6⟩ := hsp
            exact end_ S6 fun s7 J7 => ⟨_, _, J7, q6⟩
          | brk =>
            obtain ⟨σ6, H6, S6, q6⟩ := hsp
            exact end_ S6 fun s7 J7 => ⟨_, _, J7, q6⟩
          | cont =>
            obtain ⟨σ6, H6, S6, q6⟩ := hsp
            exact end_ S6 fun s7 J7 => ⟨_, _, J7, q6⟩
          | ret u =>
            obtain ⟨v6, σ6, H6, S6, r6, q6⟩ := hsp
            exact end_ S6 fun s7 J7 => ⟨_, _, _, J7, r6, q6⟩
        | false =>
          show wpAny _ X.A (handleBy (.ref a) X.env hds2) _ _ _
          exact ih (hno rfl)
    exact go hh w
  · cases f with
    | next =>
      obtain ⟨σ', H', J', q⟩ := hsp
      exact wpAny_execs_nil ⟨σ', H', J'.ofTry ok, q⟩
    | brk =>
      obtain ⟨σ', H', J', q⟩ := hsp
      exact ⟨σ', H', J'.ofTry ok, q⟩
    | cont =>
      obtain ⟨σ', H', J', q⟩ := hsp
      exact ⟨σ', H', J'.ofTry ok, q⟩
    | ret u =>
      obtain ⟨v, σ', H', J', r, q⟩ := hsp
      exact ⟨v, σ', H', J'.ofTry ok, r, q⟩
end
end Ft

set_option Elab.async false
set_option linter.all false
set_option maxRecDepth 100000
set_option maxHeartbeats 4000000
/-! Data as it lies in the heap, and what the program's judges say of it. -/
namespace Ft
open PySem PySem.Spec PyProof.Rows L2
/-! ### data stay -/
theorem Same.sqL {K : PySem.W.Frag} {H H' : Hp} (k : Same H H') {a : Addr} {xs : List V} (h : SqL K H a xs) : SqL K H' a xs := (Same.kp (ex := []) k).sqL (by simp) h
mutual
theorem dp_same {K : PySem.W.Frag} {H H' : Hp} (s : Same H H') : ∀ (d : PyData) (v : V), Dp K H v d → Dp K H' v d
  | .none, _, h => by cases h; exact .non
  | .bool _, _, h => by cases h; exact .bl _
  | .int _, _, h => by cases h; exact .int _
  | .str _, _, h => by cases h; exact .str _
  | .list ds, _, h => by
    cases h with
    | lst h a => exact .lst (Same.sqL s h) (dp_sames s ds _ a)
  | .tuple ds, _, h => by
    cases h with
    | tup h a => exact .tup (Same.sqT s h) (dp_sames s ds _ a)
  | .dict _, _, h => by cases h
theorem dp_sames {K : PySem.W.Frag} {H H' : Hp} (s : Same H H') : ∀ (ds : List PyData) (vs : List V), DpAll K H vs ds → DpAll K H' vs ds
  | [], _, h => by cases h; exact .nil
  | d :: ds, _, h => by
    cases h with
    | cons h1 h2 => exact .cons (dp_same s d _ h1) (dp_sames s ds _ h2)
end
theorem Dp.same {K : PySem.W.Frag} {H H' : Hp} (s : Same H H') {d : PyData} {v : V} (h : Dp K H v d) : Dp K H' v d := dp_same s d v h
theorem DpAll.same {K : PySem.W.Frag} {H H' : Hp} (s : Same H H') {ds : List PyData} {vs : List V} (h : DpAll K H vs ds) : DpAll K H' vs ds := dp_sames s ds vs h
/-! no list in it -/
mutual
def noList : PyData → Bool
  | .list _ => false
  | .tuple ds => noLists ds
  | _ => true
def noLists : List PyData → Bool
  | [] => true
  | d :: ds => noList d && noLists ds
end
mutual
theorem dp_kp {K : PySem.W.Frag} {ex : List Addr} {H H' : Hp} (k : Kp ex H H') (l : Lists ex H) : ∀ (d : PyData) (v : V), noList d = true → Dp K H v d → Dp K H' v d
  | .none, _, _, h => by cases h; exact .non
  | .bool _, _, _, h => by cases h; exact .bl _
  | .int _, _, _, h => by cases h; exact .int _
  | .str _, _, _, h => by cases h; exact .str _
  | .list ds, _, n, h => by simp [noList] at n
  | .tuple ds, _, n, h => by
    cases h with
    | tup h a => exact .tup (k.sqT l h) (dp_kps k l ds _ (by simpa [noList] using n) a)
  | .dict _, _, _, h => by cases h
theorem dp_kps {K : PySem.W.Frag} {ex : List Addr} {H H' : Hp} (k : Kp ex H H') (l : Lists ex H) : ∀ (ds : List PyData) (vs : List V), noLists ds = true → DpAll K H vs ds → DpAll K H' vs ds
  | [], _, _, h => by cases h; exact .nil
  | d :: ds, _, n, h => by
    simp only [noLists, Bool.and_eq_true] at n
    cases h with
    | cons h1 h2 => exact .cons (dp_kp k l d _ n.1 h1) (dp_kps k l ds _ n.2 h2)
end
theorem dpAll_length {K : PySem.W.Frag} {H : Hp} : ∀ {vs : List V} {ds : List PyData}, DpAll K H vs ds → vs.length = ds.length
  | _, _, .nil => rfl
  | _, _, .cons _ t => by rw [List.length_cons, List.length_cons, dpAll_length t]
theorem dpAll_get {K : PySem.W.Frag} {H : Hp} : ∀ {vs : List V} {ds : List PyData} {i : Nat} {v : V}, DpAll K H vs ds → vs[i]? = some v → ∃ d, ds[i]? = some d ∧ Dp K H v d
  | _, _, _, _, .nil, e => by simp at e
  | _, _, 0, _, .cons r _, e => by
    simp at e
    subst e
    exact ⟨_, rfl, r⟩
  | _, _, i + 1, _, .cons _ t, e => by
    obtain ⟨d, h1, h2⟩ := dpAll_get (i := i) t (by simpa using e)
    exact ⟨d, by simpa using h1, h2⟩
theorem dpAll_getD {K : PySem.W.Frag} {H : Hp} : ∀ {vs : List V} {ds : List PyData} {i : Nat} {d : PyData}, DpAll K H vs ds → ds[i]? = some d → ∃ v, vs[i]? = some v ∧ Dp K H v d
  | _, _, _, _, .nil, e => by simp at e
  | _, _, 0, _, .cons r _, e => by
    simp at e
    subst e
    exact ⟨_, rfl, r⟩
  | _, _, i + 1, _, .cons _ t, e => by
    obtain ⟨d, h1, h2⟩ := dpAll_getD (i := i) t (by simpa using e)
    exact ⟨d, by simpa using h1, h2⟩
/-! ### isinstance of data -/
def tyD : PyData → String
  | .none => "NoneType"
  | .bool _ => "bool"
  | .int _ => "int"
  | .str _ => "str"
  | .list _ => "list"
  | .tuple _ => "tuple"
  | .dict _ => "dict"
theorem isi_dp {K : PySem.W.Frag} {H : Hp} {v : V} {d : PyData} (h : Dp K H v d) : TyX K H v (.type (tyD d)) := by
  cases h with
  | non => exact .base .non
  | bl b => exact .base (.bl b)
  | int i => exact .base (.int i)
  | str x => exact .base (.str x)
  | lst h _ =>
    rcases h with (h | ⟨o, h⟩) | ⟨o, _, _, e, c, _⟩
    · exact .base (.lst h)
    · exact .base (.frz h)
    · exact .kList e c
  | tup h _ => exact isi_tuple h
def isTup : PyData → Bool
  | .tuple _ => true
  | _ => false
def isIntB : PyData → Bool
  | .int _ => true
  | .bool _ => true
  | _ => false
def isBl : PyData → Bool
  | .bool _ => true
  | _ => false
def isNum : PyData → Bool
  | .int _ => true
  | _ => false
theorem kit_tup {K : PySem.W.Frag} (d : PyData) : PySem.W.kitOne K (.type (tyD d)) (.type "tuple") = some (isTup d) := by
  cases d with
  | none => exact kit_ty (show kitB "NoneType" "tuple" = some false by decide +kernel)
  | bool b => exact kit_ty (show kitB "bool" "tuple" = some false by decide +kernel)
  | int i => exact kit_ty (show kitB "int" "tuple" = some false by decide +kernel)
  | str z => exact kit_ty (show kitB "str" "tuple" = some false by decide +kernel)
  | list l => exact kit_ty (show kitB "list" "tuple" = some false by decide +kernel)
  | tuple l => exact kit_ty (show kitB "tuple" "tuple" = some true by decide +kernel)
  | dict l => exact kit_ty (show kitB "dict" "tuple" = some false by decide +kernel)
theorem kit_int {K : PySem.W.Frag} (d : PyData) : PySem.W.kitOne K (.type (tyD d)) (.type "int") = some (isIntB d) := by
  cases d with
  | none => exact kit_ty (show kitB "NoneType" "int" = some false by decide +kernel)
  | bool b => exact kit_ty (show kitB "bool" "int" = some true by decide +kernel)
  | int i => exact kit_ty (show kitB "int" "int" = some true by decide +kernel)
  | str z => exact kit_ty (show kitB "str" "int" = some false by decide +kernel)
  | list l => exact kit_ty (show kitB "list" "int" = some false by decide +kernel)
  | tuple l => exact kit_ty (show kitB "tuple" "int" = some false by decide +kernel)
  | dict l => exact kit_ty (show kitB "dict" "int" = some false by decide +kernel)
theorem kit_bool {K : PySem.W.Frag} (d : PyData) : PySem.W.kitOne K (.type (tyD d)) (.type "bool") = some (isBl d) := by
  cases d with
  | none => exact kit_ty (show kitB "NoneType" "bool" = some false by decide +kernel)
  | bool b => exact kit_ty (show kitB "bool" "bool" = some true by decide +kernel)
  | int i => exact kit_ty (show kitB "int" "bool" = some false by decide +kernel)
  | str z => exact kit_ty (show kitB "str" "bool" = some false by decide +kernel)
  | list l => exact kit_ty (show kitB "list" "bool" = some false by decide +kernel)
  | tuple l => exact kit_ty (show kitB "tuple" "bool" = some false by decide +kernel)
  | dict l => exact kit_ty (show kitB "dict" "bool" = some false by decide +kernel)
theorem isTup_not {d : PyData} (h : isTup d = false) : ∀ ds, d ≠ .tuple ds := by
  intro ds z
  subst z
  cases h
theorem isTup_is {d : PyData} (h : isTup d = true) : ∃ ds, d = .tuple ds := by
  cases d with
  | tuple ds => exact ⟨ds, rfl⟩
  | _ => cases h
theorem isNum_is {d : PyData} (h : isNum d = true) : ∃ i, d = .int i := by
  cases d with
  | int i => exact ⟨i, rfl⟩
  | _ => cases h
theorem dp_int {K : PySem.W.Frag} {H : Hp} {v : V} {i : Int} (h : Dp K H v (.int i)) : v = .int i := by cases h; rfl
theorem dp_tup {K : PySem.W.Frag} {H : Hp} {v : V} {ds : List PyData} (h : Dp K H v (.tuple ds)) : ∃ a xs, v = .ref a ∧ SqT K H a xs ∧ DpAll K H xs ds := by
  cases h with
  | tup h1 h2 => exact ⟨_, _, rfl, h1, h2⟩
/-! ### numbers, places, lots -/
def numOf : PyData → Int
  | .int i => i
  | _ => 0
def numIn (lo hi : Int) (d : PyData) : Bool := isNum d && (decide (lo ≤ numOf d) && decide (numOf d ≤ hi))
theorem numIn_is {lo hi : Int} {d : PyData} (h : numIn lo hi d = true) : ∃ i, d = .int i ∧ lo ≤ i ∧ i ≤ hi := by
  unfold numIn at h
  simp only [Bool.and_eq_true, decide_eq_true_eq] at h
  obtain ⟨i, rfl⟩ := isNum_is h.1
  exact ⟨i, rfl, h.2.1, h.2.2⟩
theorem numIn_int {lo hi i : Int} : numIn lo hi (.int i) = true ↔ lo ≤ i ∧ i ≤ hi := by
  unfold numIn
  simp only [isNum, numOf, Bool.true_and, Bool.and_eq_true]
  exact ⟨fun h => ⟨of_decide_eq_true h.1, of_decide_eq_true h.2⟩, fun h => ⟨decide_eq_true h.1, decide_eq_true h.2⟩⟩
def nD (n : Nat) : PyData := .int (n : Int)
theorem numIn_nat {lo hi : Int} {n : Nat} : numIn lo hi (nD n) = true ↔ lo ≤ (n : Int) ∧ (n : Int) ≤ hi := numIn_int
theorem dp_nat {K : PySem.W.Frag} {H : Hp} (n : Nat) : Dp K H (vN n) (nD n) := .int _
theorem dp_nats {K : PySem.W.Frag} {H : Hp} : ∀ (ws : List Nat), DpAll K H (ws.map vN) (ws.map nD)
  | [] => .nil
  | _ :: ws => .cons (dp_nat _) (dp_nats ws)
theorem nats_dp {K : PySem.W.Frag} {H : Hp} : ∀ {ws : List Nat} {xs : List V}, DpAll K H xs (ws.map nD) → xs = ws.map vN
  | [], _, h => by cases h; rfl
  | w :: ws, _, h => by
    cases h with
    | cons h1 h2 =>
      have := nats_dp (ws := ws) h2
      subst this
      cases h1
      rfl
def lotD (ws : List Nat) : PyData := .tuple (ws.map nD)
theorem dp_lot {K : PySem.W.Frag} {H : Hp} {a : Addr} {ws : List Nat} (h : SqT K H a (ws.map vN)) : Dp K H (.ref a) (lotD ws) := .tup h (dp_nats ws)
theorem lot_dp {K : PySem.W.Frag} {H : Hp} {v : V} {ws : List Nat} (h : Dp K H v (lotD ws)) : ∃ a, v = .ref a ∧ SqT K H a (ws.map vN) := by
  obtain ⟨a, xs, rfl, h1, h2⟩ := dp_tup h
  rw [nats_dp h2] at h1
  exact ⟨a, rfl, h1⟩
/-- the first that is no place or not above the one before it -/
def badPlace (n : Nat) : Int → Nat → List PyData → Option Nat
  | _, _, [] => none
  | b, i, d :: ds => if numIn (b + 1) ((n : Int) - 1) d = true then badPlace n (numOf d) (i + 1) ds else some i
theorem badPlace_ok {n : Nat} : ∀ {ws : List Nat} {b : Int} {i : Nat}, ws.Pairwise (· < ·) → (∀ x ∈ ws, x < n) → (∀ x ∈ ws, b < (x : Int)) → badPlace n b i (ws.map nD) = none
  | [], _, _, _, _, _ => rfl
  | w :: ws, b, i, up, lt, ab => by
    have h1 := lt w List.mem_cons_self
    have h2 := ab w List.mem_cons_self
    show (if numIn (b + 1) ((n : Int) - 1) (nD w) = true then badPlace n (numOf (nD w)) (i + 1) (ws.map nD) else some i) = none
    rw [if_pos (numIn_nat.mpr ⟨by omega, by omega⟩)]
    obtain ⟨u1, u2⟩ := List.pairwise_cons.mp up
    exact badPlace_ok u2 (fun x hx => lt x (List.mem_cons_of_mem _ hx)) fun x hx => by
      have := u1 x hx
      show (w : Int) < x
      omega
theorem badPlace_none {n : Nat} : ∀ {ds : List PyData} {b : Int} {i : Nat}, -1 ≤ b → badPlace n b i ds = none → ∃ ws : List Nat, ds = ws.map nD ∧ ws.Pairwise (· < ·) ∧ (∀ x ∈ ws, x < n) ∧ ∀ x ∈ ws, b < (x : Int)
  | [], _, _, _, _ => ⟨[], rfl, List.Pairwise.nil, (fun _ h => nomatch h), (fun _ h => nomatch h)⟩
  | d :: ds, b, i, hb, h => by
    unfold badPlace at h
    by_cases c : numIn (b + 1) ((n : Int) - 1) d = true
    · rw [if_pos c] at h
      obtain ⟨x, rfl, l1, l2⟩ := numIn_is c
      obtain ⟨ws, rfl, up, lt, ab⟩ := badPlace_none (b := x) (by omega) h
      refine ⟨x.toNat :: ws, ?_, List.pairwise_cons.mpr ⟨fun y hy => ?_, up⟩, fun y hy => ?_, fun y hy => ?_⟩
      · have : (x.toNat : Int) = x := by omega
        simp only [List.map_cons, nD]
        rw [this]
      · have := ab y hy
        omega
      · rcases List.mem_cons.mp hy with rfl | hy
        · omega
        · exact lt y hy
      · rcases List.mem_cons.mp hy with rfl | hy
        · omega
        · have := ab y hy
          omega
    · rw [if_neg c] at h
      cases h
def lotOk (n : Nat) : PyData → Bool
  | .tuple ds => (badPlace n (-1) 0 ds).isNone
  | _ => false
theorem lotOk_lot {n : Nat} {ws : List Nat} (up : ws.Pairwise (· < ·)) (lt : ∀ x ∈ ws, x < n) : lotOk n (lotD ws) = true := by
  unfold lotOk lotD
  simp only []
  rw [badPlace_ok up lt (fun x _ => by omega)]
  rfl
theorem lotOk_is {n : Nat} {d : PyData} (h : lotOk n d = true) : ∃ ws, d = lotD ws ∧ ws.Pairwise (· < ·) ∧ ∀ x ∈ ws, x < n := by
  cases d with
  | tuple ds =>
    unfold lotOk at h
    simp only [Option.isNone_iff_eq_none] at h
    obtain ⟨ws, rfl, up, lt, _⟩ := badPlace_none (by omega) h
    exact ⟨ws, rfl, up, lt⟩
  | _ => cases h
def optI : Option Nat → Option Int
  | none => none
  | some i => some (i : Int)
theorem optI_none {o : Option Nat} (h : optI o = none) : o = none := by
  cases o with
  | none => rfl
  | some i => cases h
/-! ### roads -/
def pairD (p : Nat × Nat) : PyData := .tuple [nD p.1, nD p.2]
def pairOf (n : Nat) : PyData → Option (Nat × Nat)
  | .tuple [a, b] => if (numIn 0 ((n : Int) - 1) a && numIn 0 ((n : Int) - 1) b) = true then some ((numOf a).toNat, (numOf b).toNat) else none
  | _ => none
theorem pairOf_pair {n : Nat} {p : Nat × Nat} (h : p.1 < n ∧ p.2 < n) : pairOf n (pairD p) = some p := by
  unfold pairOf pairD
  simp only []
  rw [if_pos]
  · rfl
  · rw [Bool.and_eq_true, numIn_nat, numIn_nat]
    omega
theorem pairOf_is {n : Nat} {d : PyData} {p : Nat × Nat} (h : pairOf n d = some p) : d = pairD p ∧ p.1 < n ∧ p.2 < n := by
  unfold pairOf at h
  split at h
  · rename_i a b
    split at h
    · rename_i c
      rw [Bool.and_eq_true] at c
      obtain ⟨i, rfl, i1, i2⟩ := numIn_is c.1
      obtain ⟨j, rfl, j1, j2⟩ := numIn_is c.2
      cases h
      refine ⟨?_, ?_, ?_⟩
      · unfold pairD nD
        simp only [numOf]
        rw [show ((i.toNat : Nat) : Int) = i by omega, show ((j.toNat : Nat) : Int) = j by omega]
      · simp only [numOf]
        omega
      · simp only [numOf]
        omega
    · cases h
  · cases h
instance (p q : Nat × Nat) : Decidable (ltP p q) := by unfold ltP; exact inferInstance
def above (p : Option (Nat × Nat)) (q : Nat × Nat) : Bool := match p with
  | none => true
  | some p => decide (ltP p q)
def badRoad (n : Nat) : Option (Nat × Nat) → Nat → List PyData → Option Nat
  | _, _, [] => none
  | p, i, d :: ds => match pairOf n d with
    | none => some i
    | some q => if above p q = true then badRoad n (some q) (i + 1) ds else some i
theorem badRoad_ok {n : Nat} : ∀ {ps : List (Nat × Nat)} {p : Option (Nat × Nat)} {i : Nat}, ps.Pairwise ltP → (∀ q ∈ ps, q.1 < n ∧ q.2 < n) → (∀ q ∈ ps, above p q = true) → badRoad n p i (ps.map pairD) = none
  | [], _, _, _, _, _ => rfl
  | q :: ps, p, i, up, lt, ab => by
    obtain ⟨u1, u2⟩ := List.pairwise_cons.mp up
    show (match pairOf n (pairD q) with
      | none => some i
      | some q => if above p q = true then badRoad n (some q) (i + 1) (ps.map pairD) else some i) = none
    rw [pairOf_pair (lt q List.mem_cons_self)]
    simp only []
    rw [if_pos (ab q List.mem_cons_self)]
    exact badRoad_ok u2 (fun x hx => lt x (List.mem_cons_of_mem _ hx)) fun x hx => decide_eq_true (u1 x hx)
theorem ltP_trans {a b c : Nat × Nat} (h1 : ltP a b) (h2 : ltP b c) : ltP a c := by
  unfold ltP at *
  omega
theorem badRoad_none {n : Nat} : ∀ {ds : List PyData} {p : Option (Nat × Nat)} {i : Nat}, badRoad n p i ds = none → ∃ ps : List (Nat × Nat), ds = ps.map pairD ∧ ps.Pairwise ltP ∧ (∀ q ∈ ps, q.1 < n ∧ q.2 < n) ∧ ∀ q ∈ ps, above p q = true
  | [], _, _, _ => ⟨[], rfl, List.Pairwise.nil, (fun _ h => nomatch h), (fun _ h => nomatch h)⟩
  | d :: ds, p, i, h => by
    unfold badRoad at h
    cases e : pairOf n d with
    | none => rw [e] at h; cases h
    | some q =>
      rw [e] at h
      simp only [] at h
      obtain ⟨e1, e2⟩ := pairOf_is e
      subst e1
      by_cases c : above p q = true
      · rw [if_pos c] at h
        obtain ⟨ps, rfl, up, lt, ab⟩ := badRoad_none h
        have ab' : ∀ x ∈ ps, ltP q x := fun x hx => of_decide_eq_true (ab x hx)
        refine ⟨q :: ps, rfl, List.pairwise_cons.mpr ⟨ab', up⟩, fun x hx => ?_, fun x hx => ?_⟩
        · rcases List.mem_cons.mp hx with rfl | hx
          · exact e2
          · exact lt x hx
        · rcases List.mem_cons.mp hx with rfl | hx
          · exact c
          · cases p with
            | none => rfl
            | some p => exact decide_eq_true (ltP_trans (of_decide_eq_true c) (ab' x hx))
      · rw [if_neg c] at h
        cases h
def roadsErr (n : Nat) : PyData → Option Int
  | .tuple ds => if ds.length ≤ 240 then optI (badRoad n none 0 ds) else some (-3)
  | _ => some (-3)
/-! ### maps -/
def chartD (C : Chart) : PyData := .tuple [nD C.n, .tuple (C.roads.map pairD), lotD C.wished]
def wishErr (n : Nat) : PyData → Option Int
  | .tuple ds => optI (badPlace n (-1) 0 ds)
  | _ => some (-1)
def mapErr3 (p r w : PyData) : Option (Str × Int) :=
  if numIn 0 60 p = true then
    match roadsErr (numOf p).toNat r with
    | some i => some ("BadMap", i)
    | none => (wishErr (numOf p).toNat w).map fun i => ("BadWish", i)
  else some ("BadMap", -2)
def mapErr : PyData → Option (Str × Int)
  | .tuple [p, r, w] => mapErr3 p r w
  | _ => some ("BadMap", -1)
theorem mapErr_chart {C : Chart} (ok : C.Ok) : mapErr (chartD C) = none := by
  have n60 := ok.n60
  unfold chartD mapErr mapErr3
  simp only []
  rw [if_pos (by rw [numIn_nat]; omega)]
  have e : (numOf (nD C.n)).toNat = C.n := by simp [nD, numOf]
  rw [e]
  have e1 : roadsErr C.n (.tuple (C.roads.map pairD)) = none := by
    unfold roadsErr
    simp only []
    rw [if_pos (by rw [List.length_map]; exact ok.many), badRoad_ok ok.upR ok.inR (fun _ _ => rfl)]
    rfl
  have e2 : wishErr C.n (lotD C.wished) = none := by
    unfold wishErr lotD
    simp only []
    rw [badPlace_ok ok.upW ok.inW (fun _ _ => by omega)]
    rfl
  rw [e1, e2]
  rfl
theorem mapErr3_none {p r w : PyData} (h : mapErr3 p r w = none) : ∃ C : Chart, C.Ok ∧ p = nD C.n ∧ r = .tuple (C.roads.map pairD) ∧ w = lotD C.wished := by
  unfold mapErr3 at h
  split at h
  · rename_i c
    obtain ⟨i, rfl, i1, i2⟩ := numIn_is c
    have ei : ((numOf (PyData.int i)).toNat : Int) = i := by simp only [numOf]; omega
    cases e : roadsErr (numOf (.int i)).toNat r with
    | some j => rw [e] at h; cases h
    | none =>
      rw [e] at h
      simp only [Option.map_eq_none_iff] at h
      cases r with
      | tuple rs =>
        unfold roadsErr at e
        simp only [] at e
        split at e
        · rename_i l
          have e := optI_none e
          obtain ⟨ps, rfl, up, lt, _⟩ := badRoad_none e
          cases w with
          | tuple ws =>
            unfold wishErr at h
            have h := optI_none h
            obtain ⟨vs, rfl, upv, ltv, _⟩ := badPlace_none (by omega) h
            refine ⟨⟨(numOf (.int i)).toNat, ps, vs⟩, ⟨?_, ?_, lt, up, ltv, upv⟩, ?_, rfl, rfl⟩
            · show (numOf (.int i)).toNat ≤ 60
              omega
            · rw [List.length_map] at l
              exact l
            · show PyData.int i = .int ((numOf (.int i)).toNat : Int)
              rw [ei]
          | _ => cases h
        · cases e
      | _ => cases e
  · cases h
theorem mapErr_none {d : PyData} (h : mapErr d = none) : ∃ C : Chart, C.Ok ∧ d = chartD C := by
  unfold mapErr at h
  split at h
  · obtain ⟨C, ok, rfl, rfl, rfl⟩ := mapErr3_none h
    exact ⟨C, ok, rfl⟩
  · cases h
theorem dp_pairs {K : PySem.W.Frag} {H : Hp} : ∀ {ts : List Addr} {ps : List (Nat × Nat)}, PairsAt K H ts ps → DpAll K H (ts.map V.ref) (ps.map pairD)
  | _, _, .nil => .nil
  | _, _, .cons r t => .cons (.tup r (.cons (dp_nat _) (.cons (dp_nat _) .nil))) (dp_pairs t)
theorem pairs_dp {K : PySem.W.Frag} {H : Hp} : ∀ {ps : List (Nat × Nat)} {xs : List V}, DpAll K H xs (ps.map pairD) → ∃ ts, xs = ts.map V.ref ∧ PairsAt K H ts ps
  | [], _, h => by cases h; exact ⟨[], rfl, .nil⟩
  | p :: ps, _, h => by
    cases h with
    | cons h1 h2 =>
      obtain ⟨ts, rfl, q⟩ := pairs_dp (ps := ps) h2
      obtain ⟨a, xs, rfl, hs, ha⟩ := dp_tup h1
      have e : xs = [p.1, p.2].map vN := nats_dp (ws := [p.1, p.2]) ha
      subst e
      exact ⟨a :: ts, rfl, .cons hs q⟩
theorem dp_chart {K : PySem.W.Frag} {H : Hp} {c : Addr} {C : Chart} (h : IsChart K H c C) : Dp K H (.ref c) (chartD C) := by
  obtain ⟨r, w, ts, q⟩ := h
  exact .tup q.top (.cons (dp_nat _) (.cons (.tup q.row (dp_pairs q.prs)) (.cons (dp_lot q.wis) .nil)))
theorem chart_dp {K : PySem.W.Frag} {H : Hp} {v : V} {C : Chart} (h : Dp K H v (chartD C)) : ∃ c, v = .ref c ∧ IsChart K H c C := by
  obtain ⟨c, xs, rfl, hs, ha⟩ := dp_tup h
  cases ha with
  | cons h1 ha =>
    cases ha with
    | cons h2 ha =>
      cases ha with
      | cons h3 ha =>
        cases ha
        cases h1
        obtain ⟨r, ys, rfl, hr, har⟩ := dp_tup h2
        obtain ⟨w, rfl, hw⟩ := lot_dp h3
        obtain ⟨ts, rfl, pr⟩ := pairs_dp har
        exact ⟨c, rfl, r, w, ts, hs, hr, pr, hw⟩
/-! ### standings -/
/-- the first that is no place -/
def noPlace (n : Nat) : Nat → List PyData → Option Nat
  | _, [] => none
  | i, d :: ds => if numIn 0 ((n : Int) - 1) d = true then noPlace n (i + 1) ds else some i
def standErr (n : Nat) : PyData → Option Int
  | .tuple ds => if 1 ≤ ds.length ∧ ds.length ≤ 3 then optI (noPlace n 0 ds) else some (-1)
  | _ => some (-1)
theorem noPlace_ok {n : Nat} : ∀ {ws : List Nat} {i : Nat}, (∀ x ∈ ws, x < n) → noPlace n i (ws.map nD) = none
  | [], _, _ => rfl
  | w :: ws, i, lt => by
    have h1 := lt w List.mem_cons_self
    show (if numIn 0 ((n : Int) - 1) (nD w) = true then noPlace n (i + 1) (ws.map nD) else some i) = none
    rw [if_pos (numIn_nat.mpr ⟨by omega, by omega⟩)]
    exact noPlace_ok fun x hx => lt x (List.mem_cons_of_mem _ hx)
theorem noPlace_none {n : Nat} : ∀ {ds : List PyData} {i : Nat}, noPlace n i ds = none → ∃ ws : List Nat, ds = ws.map nD ∧ ∀ x ∈ ws, x < n
  | [], _, _ => ⟨[], rfl, (fun _ h => nomatch h)⟩
  | d :: ds, i, h => by
    unfold noPlace at h
    by_cases c : numIn 0 ((n : Int) - 1) d = true
    · rw [if_pos c] at h
      obtain ⟨x, rfl, l1, l2⟩ := numIn_is c
      obtain ⟨ws, rfl, lt⟩ := noPlace_none h
      refine ⟨x.toNat :: ws, ?_, fun y hy => ?_⟩
      · have : (x.toNat : Int) = x := by omega
        simp only [List.map_cons, nD]
        rw [this]
      · rcases List.mem_cons.mp hy with rfl | hy
        · omega
        · exact lt y hy
    · rw [if_neg c] at h
      cases h
theorem standErr_ok {n : Nat} {S : List Nat} (lt : ∀ x ∈ S, x < n) (l1 : 1 ≤ S.length) (l3 : S.length ≤ 3) : standErr n (lotD S) = none := by
  unfold standErr lotD
  simp only []
  rw [if_pos (by rw [List.length_map]; exact ⟨l1, l3⟩), noPlace_ok lt]
  rfl
theorem standErr_none {n : Nat} {d : PyData} (h : standErr n d = none) : ∃ S : List Nat, d = lotD S ∧ (∀ x ∈ S, x < n) ∧ 1 ≤ S.length ∧ S.length ≤ 3 := by
  cases d with
  | tuple ds =>
    unfold standErr at h
    simp only [] at h
    split at h
    · rename_i c
      have h := optI_none h
      obtain ⟨ws, rfl, lt⟩ := noPlace_none h
      rw [List.length_map] at c
      exact ⟨ws, rfl, lt, c.1, c.2⟩
    · cases h
  | _ => cases h
end Ft

set_option Elab.async false
set_option linter.all false
set_option maxRecDepth 100000
set_option maxHeartbeats 4000000
namespace Ft
open PySem PySem.Spec PyProof.Rows L2
theorem Er.g {P : Program} {w : World} {K : PySem.W.Frag} {mg : Str → Option Value} {base : Heap} {ca : Str → Addr} {x : Str} (e : Er P w K mg base ca x) : mg x = some (.ref (ca x)) := let ⟨_, _, h, _⟩ := e.ex; h.g
/-- the errors of a class keep what they were made with -/
structure WhatC (K : PySem.W.Frag) (C : Addr) : Prop where
  xf : XfC K C
  no : PySem.W.findIn K (.ref C) "what" = some none
theorem Er.w {P : Program} {w : World} {K : PySem.W.Frag} {mg : Str → Option Value} {base : Heap} {ca : Str → Addr} {x : Str} (e : Er P w K mg base ca x) : WhatC K (ca x) := let ⟨_, _, h, _⟩ := e.ex; ⟨h.xf, h.noW⟩
/-- error.what, in the suite of a clause -/
def tWhat (K : PySem.W.Frag) (a : Addr) (cls : Value) (d : Option Addr) (te : TE) : TE := fun σ H Q => te σ H fun x H1 => x = .ref a ∧ ∃ (C dd : Addr) (v : V), cls = .ref C ∧ WhatC K C ∧ d = some dd ∧ H1 dd = some (.xd [("what", v)]) ∧ Q v H1
theorem pe_what {X : Cx} {a : Addr} {oe : Obj} {cls : Value} {d : Option Addr} {pn : List (Addr × Obj)} {e : Expr} {te : TE} {pos : Pos}
    (hz : L2N.Zn cls d oe) (hf : ∃ vs, oe.data = .fields vs) (he : PE (X.suite a ((a, oe) :: pn)) e te) (hb : attributeBase e "what" X.env (eval e X.env) = eval e X.env := by rfl) :
    PE (X.suite a ((a, oe) :: pn)) (.Attribute e "what" pos) (tWhat X.K a cls d te) := by
  refine ⟨fun pins s σ H Q I h => ?_⟩
  have he2 : PE (X.suite a ((a, oe) :: pn)) e (fun σ H Q => ∃ M : V → Hp → Prop, te σ H M ∧ ∀ v H', M v H' → Q v H') := ⟨fun pins s σ H Q I ⟨M, hm, hu⟩ => thn (he.run pins s σ H M I hm) fun u s1 ⟨v, H1, I1, r, m⟩ => ⟨v, H1, I1, r, hu v H1 m⟩⟩
  refine attr_of hb (thn (he2.run pins s σ H (fun x H1 => x = .ref a ∧ ∃ (C dd : Addr) (v : V), cls = .ref C ∧ WhatC X.K C ∧ d = some dd ∧ H1 dd = some (.xd [("what", v)]) ∧ Q v H1) I ⟨_, h, fun _ _ z => z⟩) fun u s1 hh => ?_)
  obtain ⟨x, H1, I1, rx, ex, C, dd, v, ec, T, ed, ea, q⟩ := hh
  subst ex
  obtain rfl : u = Value.ref a := rx
  subst ec
  subst ed
  obtain ⟨ha, _⟩ := I1.pin (a, oe) (List.mem_append_left _ List.mem_cons_self)
  obtain ⟨vs, hd⟩ := hf
  have hx : ObjOk X.prog X.w H1 s1.heap dd (.xd [("what", v)]) := I1.hok dd _ ea
  obtain ⟨mA, hns, hr⟩ := hx
  obtain ⟨od, ho, hl⟩ := lookIn_ns hns
  have l : List.lookup ("what" : Str) [(("what" : Str), v)] = some v := by simp [List.lookup]
  obtain ⟨u, hu, ru⟩ := RelO.some_of (v := v) (o := mA "what") (by rw [← l]; exact hr "what")
  have J : PySem.W.InstAt s1.heap a oe C (some od) := ⟨ha, hz.1, by unfold PySem.W.notCls; rw [hd] <;> rfl, by rw [hz.2.1]; exact ho⟩
  exact HandSPX.exc_get I1.kIn J T.xf.ga T.xf.gg T.xf.exC (PySem.W.findObj_own T.xf.hdC T.no rfl (by rw [hl, hu])) (handed_of ru) ⟨v, H1, I1.tok _, ru, q⟩
/-- an error of the class c is one that «except d» names, or is not -/
def Exm (K : PySem.W.Frag) (ca : Str → Addr) (c d : Str) (b : Bool) : Prop := PySem.W.exmOne K (.ref (ca c)) (.ref (ca d)) = some b
/-- a module's number -/
def MgI (mg : Str → Option Value) (x : Str) (n : Int) : Prop := ∃ t, mg x = some (.int n t)
theorem pe_globI {X : Cx} {x : Str} {n : Int} {pos : Pos} (hg : Gl X x) (h : MgI X.mg x n) (hd : (x == ("__debug__" : Str)) = false := by decide) : PE X (.Name x pos) (tC (.int n)) := by
  obtain ⟨t, h⟩ := h
  exact pe_glob (v := .int n) hg h ⟨_, rfl⟩ hd
end Ft

set_option Elab.async false
set_option linter.all false
set_option maxRecDepth 100000
set_option maxHeartbeats 4000000
namespace Ft
open PySem PySem.Spec PyProof.Rows L2
def top (i : Nat) : Stmt := PySem.Challenge.pw_fewtraps_k62_safe_beside_the_game.main.body.getD i (.Pass ⟨0, 0, 0, 0⟩)
abbrev s_wall : Stmt := top 0
theorem sc_wall : FnScope ["k"] ["k"] (L2.defScope s_wall) := ⟨rfl, rfl, rfl, by decide +kernel, rfl, by decide +kernel, by decide +kernel⟩
abbrev s_made_map : Stmt := top 11
theorem sc_made_map : FnScope ["thing", "places", "roads", "wished", "index"] ["thing"] (L2.defScope s_made_map) := ⟨rfl, rfl, rfl, by decide +kernel, rfl, by decide +kernel, by decide +kernel⟩
abbrev s_is_number : Stmt := top 12
theorem sc_is_number : FnScope ["thing"] ["thing"] (L2.defScope s_is_number) := ⟨rfl, rfl, rfl, by decide +kernel, rfl, by decide +kernel, by decide +kernel⟩
abbrev s_number_within : Stmt := top 13
theorem sc_number_within : FnScope ["thing", "low", "high"] ["thing", "low", "high"] (L2.defScope s_number_within) := ⟨rfl, rfl, rfl, by decide +kernel, rfl, by decide +kernel, by decide +kernel⟩
abbrev s_traps_number_fits : Stmt := top 14
theorem sc_traps_number_fits : FnScope ["thing"] ["thing"] (L2.defScope s_traps_number_fits) := ⟨rfl, rfl, rfl, by decide +kernel, rfl, by decide +kernel, by decide +kernel⟩
abbrev s_check_traps_number : Stmt := top 15
theorem sc_check_traps_number : FnScope ["thing"] ["thing"] (L2.defScope s_check_traps_number) := ⟨rfl, rfl, rfl, by decide +kernel, rfl, by decide +kernel, by decide +kernel⟩
abbrev s_first_bad_place : Stmt := top 16
theorem sc_first_bad_place : FnScope ["places", "items", "before", "index", "item"] ["places", "items"] (L2.defScope s_first_bad_place) := ⟨rfl, rfl, rfl, by decide +kernel, rfl, by decide +kernel, by decide +kernel⟩
abbrev s_check_roads : Stmt := top 17
theorem sc_check_roads : FnScope ["places", "roads", "index", "road"] ["places", "roads"] (L2.defScope s_check_roads) := ⟨rfl, rfl, rfl, by decide +kernel, rfl, by decide +kernel, by decide +kernel⟩
abbrev s_road_fits : Stmt := top 18
theorem sc_road_fits : FnScope ["places", "thing"] ["places", "thing"] (L2.defScope s_road_fits) := ⟨rfl, rfl, rfl, by decide +kernel, rfl, by decide +kernel, by decide +kernel⟩
abbrev s_place_fits : Stmt := top 19
theorem sc_place_fits : FnScope ["chart", "thing"] ["chart", "thing"] (L2.defScope s_place_fits) := ⟨rfl, rfl, rfl, by decide +kernel, rfl, by decide +kernel, by decide +kernel⟩
abbrev s_check_place : Stmt := top 20
theorem sc_check_place : FnScope ["chart", "thing"] ["chart", "thing"] (L2.defScope s_check_place) := ⟨rfl, rfl, rfl, by decide +kernel, rfl, by decide +kernel, by decide +kernel⟩
abbrev s_places_next : Stmt := top 21
theorem sc_places_next : FnScope ["chart", "lot", "inside", "wished", "a", "b"] ["chart", "lot"] (L2.defScope s_places_next) := ⟨rfl, rfl, rfl, by decide +kernel, rfl, by decide +kernel, by decide +kernel⟩
abbrev s_unwished_of : Stmt := top 22
theorem sc_unwished_of : FnScope ["chart", "wished", "place"] ["chart"] (L2.defScope s_unwished_of) := ⟨rfl, rfl, rfl, by decide +kernel, rfl, by decide +kernel, by decide +kernel⟩
abbrev s_arriving : Stmt := top 25
theorem sc_arriving : FnScope ["place"] ["place"] (L2.defScope s_arriving) := ⟨rfl, rfl, rfl, by decide +kernel, rfl, by decide +kernel, by decide +kernel⟩
abbrev s_leaving : Stmt := top 26
theorem sc_leaving : FnScope ["place"] ["place"] (L2.defScope s_leaving) := ⟨rfl, rfl, rfl, by decide +kernel, rfl, by decide +kernel, by decide +kernel⟩
abbrev s_gate : Stmt := top 27
theorem sc_gate : FnScope ["place"] ["place"] (L2.defScope s_gate) := ⟨rfl, rfl, rfl, by decide +kernel, rfl, by decide +kernel, by decide +kernel⟩
abbrev s_Net___init__ : Stmt := L2.inClass (top 28) 0
theorem sc_Net___init__ : FnScope ["self", "chart", "place", "a", "b", "_"] ["self", "chart"] (L2.defScope s_Net___init__) := ⟨rfl, rfl, rfl, by decide +kernel, rfl, by decide +kernel, by decide +kernel⟩
abbrev s_Net__join : Stmt := L2.inClass (top 28) 1
theorem sc_Net__join : FnScope ["self", "side", "other", "room"] ["self", "side", "other", "room"] (L2.defScope s_Net__join) := ⟨rfl, rfl, rfl, by decide +kernel, rfl, by decide +kernel, by decide +kernel⟩
abbrev s_Flow___init__ : Stmt := L2.inClass (top 29) 0
theorem sc_Flow___init__ : FnScope ["self", "net", "lot", "free", "most", "place"] ["self", "net", "lot", "free", "most"] (L2.defScope s_Flow___init__) := ⟨rfl, rfl, rfl, by decide +kernel, rfl, by decide +kernel, by decide +kernel⟩
abbrev s_Flow_many : Stmt := L2.inClass (top 29) 1
theorem sc_Flow_many : FnScope ["self"] ["self"] (L2.defScope s_Flow_many) := ⟨rfl, rfl, rfl, by decide +kernel, rfl, by decide +kernel, by decide +kernel⟩
abbrev s_Flow_near : Stmt := L2.inClass (top 29) 2
theorem sc_Flow_near : FnScope ["self", "chart", "place"] ["self"] (L2.defScope s_Flow_near) := ⟨rfl, rfl, rfl, by decide +kernel, rfl, by decide +kernel, by decide +kernel⟩
abbrev s_Flow_far : Stmt := L2.inClass (top 29) 3
theorem sc_Flow_far : FnScope ["self"] ["self"] (L2.defScope s_Flow_far) := ⟨rfl, rfl, rfl, by decide +kernel, rfl, by decide +kernel, by decide +kernel⟩
abbrev s_Flow_ways : Stmt := L2.inClass (top 29) 4
theorem sc_Flow_ways : FnScope ["self", "used", "found", "end"] ["self"] (L2.defScope s_Flow_ways) := ⟨rfl, rfl, rfl, by decide +kernel, rfl, by decide +kernel, by decide +kernel⟩
abbrev s_Flow__fill : Stmt := L2.inClass (top 29) 5
theorem sc_Flow__fill : FnScope ["self", "most", "end"] ["self", "most"] (L2.defScope s_Flow__fill) := ⟨rfl, rfl, rfl, by decide +kernel, rfl, by decide +kernel, by decide +kernel⟩
abbrev s_Flow__further_end : Stmt := L2.inClass (top 29) 6
theorem sc_Flow__further_end : FnScope ["self", "net", "came", "waiting", "side", "path", "other", "place"] ["self"] (L2.defScope s_Flow__further_end) := ⟨rfl, rfl, rfl, by decide +kernel, rfl, by decide +kernel, by decide +kernel⟩
abbrev s_Flow__add_way : Stmt := L2.inClass (top 29) 7
theorem sc_Flow__add_way : FnScope ["self", "end", "path"] ["self", "end"] (L2.defScope s_Flow__add_way) := ⟨rfl, rfl, rfl, by decide +kernel, rfl, by decide +kernel, by decide +kernel⟩
abbrev s_Flow__sides_before_ends : Stmt := L2.inClass (top 29) 8
theorem sc_Flow__sides_before_ends : FnScope ["self"] ["self"] (L2.defScope s_Flow__sides_before_ends) := ⟨rfl, rfl, rfl, by decide +kernel, rfl, by decide +kernel, by decide +kernel⟩
abbrev s_Flow__way_to : Stmt := L2.inClass (top 29) 9
theorem sc_Flow__way_to : FnScope ["self", "end", "used", "way", "place"] ["self", "end", "used"] (L2.defScope s_Flow__way_to) := ⟨rfl, rfl, rfl, by decide +kernel, rfl, by decide +kernel, by decide +kernel⟩
abbrev s_Flow__place_before : Stmt := L2.inClass (top 29) 10
theorem sc_Flow__place_before : FnScope ["self", "place", "used", "path"] ["self", "place", "used"] (L2.defScope s_Flow__place_before) := ⟨rfl, rfl, rfl, by decide +kernel, rfl, by decide +kernel, by decide +kernel⟩
abbrev s_safe : Stmt := top 31
theorem sc_safe : FnScope ["chart", "k", "a"] ["chart", "k", "a"] (L2.defScope s_safe) := ⟨rfl, rfl, rfl, by decide +kernel, rfl, by decide +kernel, by decide +kernel⟩
abbrev s_safe_lay : Stmt := top 32
theorem sc_safe_lay : FnScope ["chart", "k", "a", "gone", "free", "place"] ["chart", "k", "a"] (L2.defScope s_safe_lay) := ⟨rfl, rfl, rfl, by decide +kernel, rfl, by decide +kernel, by decide +kernel⟩
abbrev s_checked_rounds : Stmt := top 33
theorem sc_checked_rounds : FnScope ["chart", "k", "a"] ["chart", "k", "a"] (L2.defScope s_checked_rounds) := ⟨rfl, rfl, rfl, by decide +kernel, rfl, by decide +kernel, by decide +kernel⟩
abbrev s_rounds_of : Stmt := top 34
theorem sc_rounds_of : FnScope ["net", "k", "gone", "number", "going", "place"] ["net", "k"] (L2.defScope s_rounds_of) := ⟨rfl, rfl, rfl, by decide +kernel, rfl, by decide +kernel, by decide +kernel⟩
abbrev s_places_going : Stmt := top 35
theorem sc_places_going : FnScope ["net", "k", "gone", "free", "here", "place"] ["net", "k", "gone"] (L2.defScope s_places_going) := ⟨rfl, rfl, rfl, by decide +kernel, rfl, by decide +kernel, by decide +kernel⟩
abbrev s_law_bound_ground : Stmt := top 37
theorem sc_law_bound_ground : FnScope ["chart", "table", "heads", "lots", "a", "road", "lot", "b"] ["chart", "table"] (L2.defScope s_law_bound_ground) := ⟨rfl, rfl, rfl, by decide +kernel, rfl, by decide +kernel, by decide +kernel⟩
abbrev s_law_bound_single : Stmt := top 38
theorem sc_law_bound_single : FnScope ["chart", "ground", "traps", "starts", "miss", "stops", "moved", "left", "b"] ["chart", "ground", "traps", "starts"] (L2.defScope s_law_bound_single) := ⟨rfl, rfl, rfl, by decide +kernel, rfl, by decide +kernel, by decide +kernel⟩
abbrev s_law_bound_lots : Stmt := top 39
theorem sc_law_bound_lots : FnScope ["places", "most", "found", "a", "lot"] ["places", "most"] (L2.defScope s_law_bound_lots) := ⟨rfl, rfl, rfl, by decide +kernel, rfl, by decide +kernel, by decide +kernel⟩
abbrev s_law_bound_tree : Stmt := top 40
theorem sc_law_bound_tree : FnScope ["pool", "most", "roads", "places", "wished", "a", "turn", "way", "road"] ["pool", "most"] (L2.defScope s_law_bound_tree) := ⟨rfl, rfl, rfl, by decide +kernel, rfl, by decide +kernel, by decide +kernel⟩
abbrev s_law_pool : Stmt := top 41
theorem sc_law_pool : FnScope ["script", "first", "size"] ["script"] (L2.defScope s_law_pool) := ⟨rfl, rfl, rfl, by decide +kernel, rfl, by decide +kernel, by decide +kernel⟩
abbrev s_law_draw : Stmt := top 42
theorem sc_law_draw : FnScope ["pool", "many", "cell", "size", "found"] ["pool", "many"] (L2.defScope s_law_draw) := ⟨rfl, rfl, rfl, by decide +kernel, rfl, by decide +kernel, by decide +kernel⟩
abbrev s_law_is_whole : Stmt := top 43
theorem sc_law_is_whole : FnScope ["thing"] ["thing"] (L2.defScope s_law_is_whole) := ⟨rfl, rfl, rfl, by decide +kernel, rfl, by decide +kernel, by decide +kernel⟩
abbrev s_law_turned : Stmt := top 44
theorem sc_law_turned : FnScope ["pool", "many", "left", "found", "turn"] ["pool", "many"] (L2.defScope s_law_turned) := ⟨rfl, rfl, rfl, by decide +kernel, rfl, by decide +kernel, by decide +kernel⟩
abbrev s_law_map_named : Stmt := top 45
theorem sc_law_map_named : FnScope ["pool", "places", "roads", "wished", "names", "told", "a", "b"] ["pool", "places", "roads", "wished"] (L2.defScope s_law_map_named) := ⟨rfl, rfl, rfl, by decide +kernel, rfl, by decide +kernel, by decide +kernel⟩
abbrev s_law_map_some_wished : Stmt := top 46
theorem sc_law_map_some_wished : FnScope ["pool", "places", "roads", "way", "last", "a", "road"] ["pool", "places", "roads"] (L2.defScope s_law_map_some_wished) := ⟨rfl, rfl, rfl, by decide +kernel, rfl, by decide +kernel, by decide +kernel⟩
abbrev s_law_map_drawn : Stmt := top 47
theorem sc_law_map_drawn : FnScope ["pool", "most", "places", "way", "roads", "turn", "a", "b", "ahead", "size"] ["pool", "most"] (L2.defScope s_law_map_drawn) := ⟨rfl, rfl, rfl, by decide +kernel, rfl, by decide +kernel, by decide +kernel⟩
abbrev s_law_map_met : Stmt := top 48
theorem sc_law_map_met : FnScope ["chart", "a", "found", "left", "turn", "ahead", "road", "b"] ["chart", "a"] (L2.defScope s_law_map_met) := ⟨rfl, rfl, rfl, by decide +kernel, rfl, by decide +kernel, by decide +kernel⟩
abbrev s_law_map_table : Stmt := top 49
theorem sc_law_map_table : FnScope ["chart", "a"] ["chart"] (L2.defScope s_law_map_table) := ⟨rfl, rfl, rfl, by decide +kernel, rfl, by decide +kernel, by decide +kernel⟩
abbrev s_law_map_piece : Stmt := top 50
theorem sc_law_map_piece : FnScope ["chart", "table", "a", "b"] ["chart", "table", "a"] (L2.defScope s_law_map_piece) := ⟨rfl, rfl, rfl, by decide +kernel, rfl, by decide +kernel, by decide +kernel⟩
abbrev s_law_game_lost : Stmt := top 51
theorem sc_law_game_lost : FnScope ["chart", "ground", "k", "lots", "lost", "single", "turn", "fresh", "a", "kept", "traps", "one", "w"] ["chart", "ground", "k"] (L2.defScope s_law_game_lost) := ⟨rfl, rfl, rfl, by decide +kernel, rfl, by decide +kernel, by decide +kernel⟩
abbrev s_law_game_laid : Stmt := top 52
theorem sc_law_game_laid : FnScope ["chart", "ground", "k", "lost", "a", "traps", "one", "b", "w"] ["chart", "ground", "k", "lost", "a"] (L2.defScope s_law_game_laid) := ⟨rfl, rfl, rfl, by decide +kernel, rfl, by decide +kernel, by decide +kernel⟩
abbrev s_law_game_chart : Stmt := top 53
theorem sc_law_game_chart : FnScope ["pool", "chart", "many", "places", "roads", "turn", "a", "b"] ["pool"] (L2.defScope s_law_game_chart) := ⟨rfl, rfl, rfl, by decide +kernel, rfl, by decide +kernel, by decide +kernel⟩
abbrev s_law : Stmt := top 54
theorem sc_law : FnScope ["script", "pool", "k", "chart", "ground", "lost", "a"] ["script"] (L2.defScope s_law) := ⟨rfl, rfl, rfl, by decide +kernel, rfl, by decide +kernel, by decide +kernel⟩
abbrev s_init : Stmt := L2.inClass (top 2) 0
theorem sc_init : FnScope ["self", "what"] ["self", "what"] (L2.defScope s_init) := ⟨rfl, rfl, rfl, by decide +kernel, rfl, by decide +kernel, by decide +kernel⟩
end Ft

set_option Elab.async false
set_option linter.all false
set_option maxRecDepth 100000
set_option maxHeartbeats 4000000
namespace Ft
open PySem PySem.Spec PyProof.Rows L2
section
variable {P : Program} {w : World} {K : PySem.W.Frag} {mg : Str → Option Value} {base : Heap} {ca : Str → Addr}
/-! ### is_number, number_within, of data -/
def sp_is_number (K : PySem.W.Frag) : Sp := fun vs H Q _ => ∃ (v : V) (d : PyData), vs = [v] ∧ Dp K H v d ∧ Q (.bl (isNum d)) H
theorem cal_is_number (T : Txt mg) (D : Def K mg "is_number" s_is_number) : Cal P w K mg base 1 "is_number" (sp_is_number K) := by
  refine cal_of D sc_is_number (fun _ _ _ _ _ _ us hl => match us, hl with | [_], _ => rfl) (fun vs H Q E h => ?_) (fun f cdv A outer s H vs Q E hr h => ?_)
  · obtain ⟨v, d, rfl, _⟩ := h
    rfl
  · obtain ⟨v, d, rfl, hd, q⟩ := h
    refine ⟨_, (pss_one (ps_ret (pe_and (pe_callB (show CallR _ _ (rIsi K) from call_isi) (by rfl) T.isinstance (by decide +kernel) (pa_cons (pv 0) (pa_cons (pe_bltn (v := .ty "int") (u := .type "int") (by rfl) T.int (by decide +kernel) rfl) pa_nil))) (pe_one (pe_not (pe_callB (show CallR _ _ (rIsi K) from call_isi) (by rfl) T.isinstance (by decide +kernel) (pa_cons (pv 0) (pa_cons (pe_bltn (v := .ty "bool") (u := .type "bool") (by rfl) T.bool (by decide +kernel) rfl) pa_nil)))))))), ?_⟩
    refine ⟨_, rfl, _, _, _, _, isIntB d, rfl, .ty "int", isi_dp hd, kit_int d, isIntB d, rfl, ?_⟩
    cases e : isIntB d with
    | false =>
      have : isNum d = false := by cases d <;> first | rfl | cases e
      rw [this] at q
      exact iteF q
    | true =>
      refine iteT ?_
      refine ⟨_, rfl, _, _, _, _, isBl d, rfl, .ty "bool", isi_dp hd, kit_bool d, isBl d, rfl, ?_⟩
      have : isNum d = !isBl d := by cases d <;> first | rfl | cases e
      rw [this] at q
      exact q
def sp_number_within (K : PySem.W.Frag) : Sp := fun vs H Q _ => ∃ (v : V) (d : PyData) (lo hi : Int), vs = [v, .int lo, .int hi] ∧ Dp K H v d ∧ Q (.bl (numIn lo hi d)) H
theorem cal_number_within (T : Txt mg) (D : Def K mg "number_within" s_number_within) (c_is_number : Cal P w K mg base 1 "is_number" (sp_is_number K)) : Cal P w K mg base 2 "number_within" (sp_number_within K) := by
  refine cal_of D sc_number_within (fun _ _ _ _ _ _ us hl => match us, hl with | [_, _, _], _ => rfl) (fun vs H Q E h => ?_) (fun f cdv A outer s H vs Q E hr h => ?_)
  · obtain ⟨v, d, lo, hi, rfl, _⟩ := h
    rfl
  · obtain ⟨v, d, lo, hi, rfl, hd, q⟩ := h
    refine ⟨_, (pss_one (ps_ret (pe_and (pe_c c_is_number hr (by decide) (by rfl) (pa_cons (pv 0) pa_nil)) (pe_one (pe_chain op_le op_le (pv 1) (pv 0) (pv 2)))))), ?_⟩
    refine ⟨_, rfl, v, d, rfl, hd, isNum d, rfl, ?_⟩
    cases e : isNum d with
    | false =>
      have : numIn lo hi d = false := by unfold numIn; rw [e]; rfl
      rw [this] at q
      exact iteF q
    | true =>
      refine iteT ?_
      obtain ⟨i, rfl⟩ := isNum_is e
      cases dp_int hd
      have e2 : numIn lo hi (.int i) = (decide (lo ≤ i) && decide (i ≤ hi)) := by unfold numIn; rw [e]; rfl
      rw [e2] at q
      refine ⟨_, rfl, _, rfl, _, _, rfl, rfl, _, rfl, ?_⟩
      by_cases h1 : lo ≤ i
      · rw [decide_eq_true h1] at q ⊢
        exact iteT ⟨_, rfl, _, _, rfl, rfl, q⟩
      · rw [decide_eq_false h1] at q ⊢
        exact iteF q
end
end Ft

set_option Elab.async false
set_option linter.all false
set_option maxRecDepth 100000
set_option maxHeartbeats 4000000
namespace Ft
open PySem PySem.Spec PyProof.Rows L2
section
variable {P : Program} {w : World} {K : PySem.W.Frag} {mg : Str → Option Value} {base : Heap} {ca : Str → Addr}
theorem get_map {α β : Type} {f : α → β} {l : List α} {i : Nat} {y : β} (h : (l.map f)[i]? = some y) : ∃ x, l[i]? = some x ∧ y = f x := by
  rw [List.getElem?_map] at h
  cases e : l[i]? with
  | none => rw [e] at h; cases h
  | some x => rw [e] at h; exact ⟨x, rfl, (Option.some.inj h).symm⟩
theorem up_get {ws : List Nat} (up : ws.Pairwise (· < ·)) {i j a b : Nat} (hi : ws[i]? = some a) (hj : ws[j]? = some b) (h : i < j) : a < b := by
  obtain ⟨h1, e1⟩ := List.getElem?_eq_some_iff.mp hi
  obtain ⟨h2, e2⟩ := List.getElem?_eq_some_iff.mp hj
  rw [← e1, ← e2]
  exact List.pairwise_iff_getElem.mp up i j h1 h2 h
/-! ### first_bad_place, of data -/
def optV : Option Nat → V
  | none => .non
  | some i => .int (i : Int)
theorem drop_get {α : Type} {l : List α} {i : Nat} {x : α} (h : l[i]? = some x) : l.drop i = x :: l.drop (i + 1) := by
  obtain ⟨hi, e⟩ := List.getElem?_eq_some_iff.mp h
  rw [← e]
  exact List.drop_eq_getElem_cons hi
theorem badPlace_cons {n : Nat} {b : Int} {i : Nat} {d : PyData} {ds : List PyData} : badPlace n b i (d :: ds) = if numIn (b + 1) ((n : Int) - 1) d = true then badPlace n (numOf d) (i + 1) ds else some i := rfl
def sp_first_bad_place (K : PySem.W.Frag) : Sp := fun vs H Q _ => ∃ (n : Nat) (a : Addr) (xs : List V) (ds : List PyData), vs = [vN n, .ref a] ∧ SqT K H a xs ∧ DpAll K H xs ds ∧ ∀ H', Same H H' → Q (optV (badPlace n (-1) 0 ds)) H'
theorem cal_first_bad_place (T : Txt mg) (D : Def K mg "first_bad_place" s_first_bad_place) (c_number_within : Cal P w K mg base 2 "number_within" (sp_number_within K)) : Cal P w K mg base 3 "first_bad_place" (sp_first_bad_place K) := by
  refine cal_of D sc_first_bad_place (fun _ _ _ _ _ _ us hl => match us, hl with | [_, _], _ => rfl) (fun vs H Q E h => ?_) (fun f cdv A outer s H vs Q E hr h => ?_)
  · obtain ⟨n, a, xs, ds, rfl, _⟩ := h
    rfl
  · obtain ⟨n, a, xs, ds, rfl, hW, hD, q⟩ := h
    refine ⟨_, (pss_cons (ps_set (i := 2) sc_first_bad_place.nd rfl (Or.inl rfl) (pe_un un_neg pe_int))
      (pss_cons (ps_for PassesOwn.never rfl (show PI _ _ _ (iEnumT K _) from pi_enumT (by rfl) T.enumerate (pa_cons (pv 1) pa_nil)) (show PG _ _ (gTup K 2 _) from pg_tup (by rfl) (pgs_cons (pg_name (i := 3) sc_first_bad_place.nd rfl (Or.inl rfl)) (pgs_cons (pg_name (i := 4) sc_first_bad_place.nd rfl (Or.inl rfl)) pgs_nil))) (pss_cons (ps_if (pt_not (pt_val (pe_c c_number_within hr (by decide) (by rfl) (pa_cons (pv 4) (pa_cons (pe_op op_add (pv 2) pe_int) (pa_cons (pe_op op_sub (pv 0) pe_int) pa_nil)))))) (pss_one (ps_ret (pv 3))) pss_nil)
        (pss_one (ps_set (i := 2) sc_first_bad_place.nd rfl (Or.inl rfl) (pv 4)))))
      (pss_one (ps_ret pe_non)))), ?_⟩
    refine ⟨_, rfl, _, rfl, a, _, rfl, hW, for_it walk_enumT (fun i σ H' => ∃ (b : Int) (v3 v4 : Option V), σ = [some (vN n), some (.ref a), some (.int b), v3, v4] ∧ Same H H' ∧ badPlace n (-1) 0 ds = badPlace n b i (ds.drop i)) ⟨-1, _, _, rfl, fun _ _ h => h, rfl⟩ (fun i σ H' _ ⟨_, _, _, _, s1, _⟩ => Same.sqT s1 hW) ?_ ?_⟩
    · rintro i x σ H1 H2 hi ⟨b, v3, v4, rfl, s1, eb⟩ ⟨t, x0, y, rfl, nt, rfl, e1, e2⟩
      obtain ⟨d, hd, dd⟩ := dpAll_get hD e2
      have s2 := s1.trans (same_upd (o := .tup [.int (i : Nat), y]) nt)
      rw [drop_get hd, badPlace_cons] at eb
      cases e1
      refine ⟨t, _, rfl, .inl (.inl upd_same), rfl, _, _, rfl, _, _, rfl, rfl, ?_⟩
      refine ⟨_, rfl, _, rfl, _, _, rfl, rfl, _, rfl, _, _, rfl, rfl, _, d, _, _, rfl, Dp.same s2 dd, numIn (b + 1) ((n : Int) - 1) d, rfl, ?_⟩
      cases c : numIn (b + 1) ((n : Int) - 1) d with
      | false =>
        rw [c, if_neg Bool.false_ne_true] at eb
        refine iteT ?_
        have := q _ s2
        rw [eb] at this
        exact ⟨_, rfl, this⟩
      | true =>
        rw [c, if_pos rfl] at eb
        obtain ⟨z, rfl, _, _⟩ := numIn_is c
        cases dp_int dd
        refine iteF ?_
        exact ⟨_, rfl, z, _, _, rfl, s2, eb⟩
    · rintro σ H1 ⟨b, v3, v4, rfl, s1, eb⟩
      rw [dpAll_length hD, List.drop_length] at eb
      have := q H1 s1
      rw [eb] at this
      exact this
/-! ### road_fits, of data -/
def sp_road_fits (K : PySem.W.Frag) : Sp := fun vs H Q _ => ∃ (n : Nat) (v : V) (d : PyData), vs = [vN n, v] ∧ Dp K H v d ∧ Q (.bl (pairOf n d).isSome) H
theorem pairOf_two {n : Nat} {a b : PyData} : (pairOf n (.tuple [a, b])).isSome = (numIn 0 ((n : Int) - 1) a && numIn 0 ((n : Int) - 1) b) := by
  unfold pairOf
  simp only []
  split
  · rename_i h
    rw [h]
    rfl
  · rename_i h
    rw [Bool.not_eq_true] at h
    rw [h]
    rfl
theorem pairOf_len {n : Nat} {ds : List PyData} (h : ds.length ≠ 2) : pairOf n (.tuple ds) = none := by
  unfold pairOf
  split
  · rename_i a b e
    cases e
    exact absurd rfl h
  · rfl
theorem pairOf_not {n : Nat} {d : PyData} (h : isTup d = false) : pairOf n d = none := by
  cases d <;> first | rfl | cases h
theorem cal_road_fits (T : Txt mg) (D : Def K mg "road_fits" s_road_fits) (c_number_within : Cal P w K mg base 2 "number_within" (sp_number_within K)) : Cal P w K mg base 3 "road_fits" (sp_road_fits K) := by
  refine cal_of D sc_road_fits (fun _ _ _ _ _ _ us hl => match us, hl with | [_, _], _ => rfl) (fun vs H Q E h => ?_) (fun f cdv A outer s H vs Q E hr h => ?_)
  · obtain ⟨n, v, d, rfl, _⟩ := h
    rfl
  · obtain ⟨n, v, d, rfl, hd, q⟩ := h
    refine ⟨_, (pss_cons (ps_if (PW.pt (pw_or (pt_not (pt_val (pe_callB (show CallR _ _ (rIsi K) from call_isi) (by rfl) T.isinstance (by decide +kernel) (pa_cons (pv 1) (pa_cons (pe_bltn (v := .ty "tuple") (u := .type "tuple") (by rfl) T.tuple (by decide +kernel) rfl) pa_nil))))) (pw_or1 (pt_cmpR op_ne (pe_callB (show CallR _ _ (rLenS K) from call_lenS) (by rfl) T.len (by decide +kernel) (pa_cons (pv 1) pa_nil)) pe_int (nomark _))))) (pss_one (ps_ret pe_bl)) pss_nil)
      (pss_one (ps_ret (pe_and (pe_c c_number_within hr (by decide) (by rfl) (pa_cons (pe_ix (show IxR _ (rIxT K) from ix_tup) (pv 1) pe_int (fun _ _ => rfl)) (pa_cons pe_int (pa_cons (pe_op op_sub (pv 0) pe_int) pa_nil)))) (pe_one (pe_c c_number_within hr (by decide) (by rfl) (pa_cons (pe_ix (show IxR _ (rIxT K) from ix_tup) (pv 1) pe_int (fun _ _ => rfl)) (pa_cons pe_int (pa_cons (pe_op op_sub (pv 0) pe_int) pa_nil))))))))), ?_⟩
    refine ⟨_, rfl, _, _, _, _, isTup d, rfl, .ty "tuple", isi_dp hd, kit_tup d, isTup d, rfl, ?_⟩
    cases e : isTup d with
    | false =>
      rw [pairOf_not e] at q
      exact iteT (iteT q)
    | true =>
      obtain ⟨ds, rfl⟩ := isTup_is e
      obtain ⟨t, xs, rfl, ht, ha⟩ := dp_tup hd
      refine iteF ?_
      refine ⟨_, rfl, _, _, rfl, .inr ht, rfl, _, rfl, ?_⟩
      by_cases l : ds.length = 2
      · have e2 : (!decide (V.int ((xs.length : Nat) : Int) = V.int 2)) = false := by
          rw [dpAll_length ha, l]
          rfl
        obtain ⟨a, b, rfl⟩ : ∃ a b, ds = [a, b] := by
          match ds, l with
          | [a, b], _ => exact ⟨a, b, rfl⟩
        cases ha with
        | cons h1 h2 =>
          cases h2 with
          | cons h2 h3 =>
            cases h3
            rename_i x y
            refine iteF ?_
            rw [pairOf_two] at q
            refine ⟨_, rfl, _, _, _, _, rfl, rfl, ht, rfl, _, rfl, _, _, rfl, rfl, x, a, _, _, rfl, h1, numIn 0 ((n : Int) - 1) a, rfl, ?_⟩
            cases c : numIn 0 ((n : Int) - 1) a with
            | false =>
              rw [c] at q
              exact iteF q
            | true =>
              rw [c] at q
              refine iteT ?_
              exact ⟨_, rfl, _, _, _, _, rfl, rfl, ht, rfl, _, rfl, _, _, rfl, rfl, y, b, _, _, rfl, h2, q⟩
      · rw [pairOf_len l] at q
        have e2 : (!decide (V.int ((xs.length : Nat) : Int) = V.int 2)) = true := by
          rw [dpAll_length ha, decide_eq_false]
          · rfl
          · intro z
            have z' := V.int.inj z
            omega
        exact ite_any (fun _ => q) (fun z => absurd (show (!decide (V.int ((xs.length : Nat) : Int) = V.int 2)) = false from z) (by rw [e2]; exact fun h => nomatch h))
end
end Ft

set_option Elab.async false
set_option linter.all false
set_option maxRecDepth 100000
set_option maxHeartbeats 4000000
namespace Ft
open PySem PySem.Spec PyProof.Rows L2
section
variable {P : Program} {w : World} {K : PySem.W.Frag} {mg : Str → Option Value} {base : Heap} {ca : Str → Addr}
/-! ### check_roads, of data -/
theorem upP_get {ps : List (Nat × Nat)} (up : ps.Pairwise ltP) {i j : Nat} {a b : Nat × Nat} (hi : ps[i]? = some a) (hj : ps[j]? = some b) (h : i < j) : ltP a b := by
  obtain ⟨h1, e1⟩ := List.getElem?_eq_some_iff.mp hi
  obtain ⟨h2, e2⟩ := List.getElem?_eq_some_iff.mp hj
  rw [← e1, ← e2]
  exact List.pairwise_iff_getElem.mp up i j h1 h2 h
theorem lex_two {a b c d : Nat} :
    Ob.lexAt (fun j => decide (([(c : Int), (d : Int)] : List Int).getD j 0 = ([(a : Int), (b : Int)] : List Int).getD j 0)) (fun j => decide (([(c : Int), (d : Int)] : List Int).getD j 0 ≤ ([(a : Int), (b : Int)] : List Int).getD j 0)) (decide (([(c : Int), (d : Int)] : List Int).length ≤ ([(a : Int), (b : Int)] : List Int).length)) 0 (min ([(c : Int), (d : Int)] : List Int).length ([(a : Int), (b : Int)] : List Int).length) = !decide (ltP (a, b) (c, d)) := by
  simp only [List.length_cons, List.length_nil, Nat.min_self, Ob.lexAt, List.getD_cons_zero, List.getD_cons_succ]
  have e : decide (ltP (a, b) (c, d)) = decide (a < c ∨ (a = c ∧ b < d)) := by
    by_cases h : ltP (a, b) (c, d)
    · rw [decide_eq_true h]
      exact (decide_eq_true h).symm
    · rw [decide_eq_false h]
      exact (decide_eq_false h).symm
  rw [e]
  rcases Nat.lt_trichotomy a c with h | h | h
  · have n1 : ¬ ((c : Int) = a) := by omega
    have n2 : ¬ ((c : Int) ≤ a) := by omega
    have n3 : a < c ∨ (a = c ∧ b < d) := .inl h
    simp [n1, n2, n3]
  · have n1 : ((c : Int) = a) := by omega
    rcases Nat.lt_trichotomy b d with h2 | h2 | h2
    · have n2 : ¬ ((d : Int) = b) := by omega
      have n3 : ¬ ((d : Int) ≤ b) := by omega
      have n4 : a < c ∨ (a = c ∧ b < d) := .inr ⟨h, h2⟩
      simp [n1, n2, n3, n4]
    · have n2 : ((d : Int) = b) := by omega
      have n4 : ¬ (a < c ∨ (a = c ∧ b < d)) := by omega
      simp [n1, n2, n4]
    · have n2 : ¬ ((d : Int) = b) := by omega
      have n3 : ((d : Int) ≤ b) := by omega
      have n4 : ¬ (a < c ∨ (a = c ∧ b < d)) := by omega
      simp [n1, n2, n3, n4]
  · have n1 : ¬ ((c : Int) = a) := by omega
    have n2 : ((c : Int) ≤ a) := by omega
    have n3 : ¬ (a < c ∨ (a = c ∧ b < d)) := by omega
    simp [n1, n2, n3]
theorem badRoad_cons {n : Nat} {p : Option (Nat × Nat)} {i : Nat} {d : PyData} {ds : List PyData} : badRoad n p i (d :: ds) = match pairOf n d with
    | none => some i
    | some q => if above p q = true then badRoad n (some q) (i + 1) ds else some i := rfl
theorem pair_dp {K : PySem.W.Frag} {H : Hp} {v : V} {p : Nat × Nat} (h : Dp K H v (pairD p)) : ∃ t, v = .ref t ∧ SqT K H t [vN p.1, vN p.2] := by
  obtain ⟨a, xs, rfl, hs, ha⟩ := dp_tup h
  have e : xs = [p.1, p.2].map vN := nats_dp (ws := [p.1, p.2]) ha
  subst e
  exact ⟨a, rfl, hs⟩
def spX_check_roads (K : PySem.W.Frag) (ca : Str → Addr) : Sp := fun vs H Q E => ∃ (n : Nat) (v : V) (d : PyData), vs = [vN n, v] ∧ Dp K H v d ∧ (roadsErr n d = none → ∀ H', Same H H' → Q .non H') ∧ ∀ i, roadsErr n d = some i → Raised K ca H E ("BadMap", .int i)
theorem cal_check_roads (T : Txt mg) (D : Def K mg "check_roads" s_check_roads) (m_MOST_ROADS : MgI mg "MOST_ROADS" 240) (e_BadMap : Er P w K mg base ca "BadMap") (c_road_fits : Cal P w K mg base 3 "road_fits" (sp_road_fits K)) : CalX P w K mg base 4 "check_roads" (spX_check_roads K ca) := by
  refine calx_of D sc_check_roads (fun _ _ _ _ _ _ us hl => match us, hl with | [_, _], _ => rfl) (fun vs H Q E h => ?_) (fun f cdv A outer s H vs Q E hr h => ?_)
  · obtain ⟨n, v, d, rfl, _⟩ := h
    rfl
  · obtain ⟨n, v, d, rfl, hd, q, r⟩ := h
    refine ⟨_, (pss_cons (ps_if (PW.pt (pw_or (pt_not (pt_val (pe_callB (show CallR _ _ (rIsi K) from call_isi) (by rfl) T.isinstance (by decide +kernel) (pa_cons (pv 1) (pa_cons (pe_bltn (v := .ty "tuple") (u := .type "tuple") (by rfl) T.tuple (by decide +kernel) rfl) pa_nil))))) (pw_or1 (pt_cmpR op_gt (pe_callB (show CallR _ _ (rLenS K) from call_lenS) (by rfl) T.len (by decide +kernel) (pa_cons (pv 1) pa_nil)) (pe_globI (n := 240) rfl m_MOST_ROADS) (nomark _))))) (pss_one (ps_raiseE rfl e_BadMap hr (by decide) (L2N.takes_of rfl rfl rfl rfl) (by rfl) (pa_cons (pe_un un_neg pe_int) pa_nil))) pss_nil)
      (pss_one (ps_for (passes_of rfl) rfl (show PI _ _ _ (iEnumT K _) from pi_enumT (by rfl) T.enumerate (pa_cons (pv 1) pa_nil)) (show PG _ _ (gTup K 2 _) from pg_tup (by rfl) (pgs_cons (pg_name (i := 2) sc_check_roads.nd rfl (Or.inl rfl)) (pgs_cons (pg_name (i := 3) sc_check_roads.nd rfl (Or.inl rfl)) pgs_nil))) (pss_cons (ps_if (pt_not (pt_val (pe_c c_road_fits hr (by decide) (by rfl) (pa_cons (pv 0) (pa_cons (pv 3) pa_nil))))) (pss_one (ps_raiseE rfl e_BadMap hr (by decide) (L2N.takes_of rfl rfl rfl rfl) (by rfl) (pa_cons (pv 2) pa_nil))) pss_nil)
        (pss_one (ps_if (PW.pt (pw_and (pt_cmpR op_gt (pv 2) pe_int (nomark _)) (pw_and1 (pt_cmpR (show OpR _ _ (rLeT K) from op_leT hr.units0) (pv 3) (pe_ix (show IxR _ (rIxT K) from ix_tup) (pv 1) (pe_op op_sub (pv 2) pe_int) (fun _ _ => rfl)) (nomark _))))) (pss_one (ps_raiseE rfl e_BadMap hr (by decide) (L2N.takes_of rfl rfl rfl rfl) (by rfl) (pa_cons (pv 2) pa_nil))) pss_nil)))))), ?_⟩
    refine ⟨_, rfl, _, _, _, _, isTup d, rfl, .ty "tuple", isi_dp hd, kit_tup d, isTup d, rfl, ?_⟩
    cases e : isTup d with
    | false =>
      refine iteT (iteT ?_)
      refine ⟨_, rfl, _, rfl, fun dd hdd => ?_⟩
      exact r (-3) (by cases d <;> first | rfl | cases e) dd _ _ (same_upd hdd) upd_same (.int _)
    | true =>
      obtain ⟨ds, rfl⟩ := isTup_is e
      obtain ⟨a, xs, rfl, hR, hP⟩ := dp_tup hd
      have len := dpAll_length hP
      refine iteF ?_
      refine ⟨_, rfl, _, _, rfl, .inr hR, _, _, rfl, rfl, _, rfl, ?_⟩
      by_cases many : ds.length ≤ 240
      · rw [decide_eq_false (show ¬ ((240 : Int) < (xs.length : Nat)) by rw [len]; omega)]
        have er : roadsErr n (.tuple ds) = optI (badRoad n none 0 ds) := if_pos many
        rw [er] at q
        have r : ∀ i, optI (badRoad n none 0 ds) = some i → _ := fun i h => r i (er.trans h)
        refine iteF ?_
        refine ⟨_, rfl, a, _, rfl, hR, for_it walk_enumT (fun i σ H' => ∃ (v3 v4 : Option V) (p : Option (Nat × Nat)), σ = [some (vN n), some (.ref a), v3, v4] ∧ Same H H' ∧ badRoad n none 0 ds = badRoad n p i (ds.drop i) ∧ (i = 0 → p = none) ∧ ∀ i', i = i' + 1 → ∃ q, p = some q ∧ ds[i']? = some (pairD q)) ⟨_, _, none, rfl, (fun _ _ h => h), rfl, (fun _ => rfl), fun i' h => nomatch h⟩ (fun i σ H' _ ⟨_, _, _, _, s1, _⟩ => Same.sqT s1 hR) ?_ ?_⟩
        · rintro i x σ H1 H2 hi ⟨v3, v4, p, rfl, s1, eb, p0, pp⟩ ⟨t, x0, y, rfl, nt, rfl, e1, e2⟩
          obtain ⟨dy, hdy, dd⟩ := dpAll_get hP e2
          have s2 := s1.trans (same_upd (o := .tup [.int (i : Nat), y]) nt)
          rw [drop_get hdy, badRoad_cons] at eb
          cases e1
          refine ⟨t, _, rfl, .inl (.inl upd_same), rfl, _, _, rfl, _, _, rfl, rfl, ?_⟩
          refine ⟨_, rfl, _, rfl, n, y, dy, rfl, Dp.same s2 dd, (pairOf n dy).isSome, rfl, ?_⟩
          cases ep : pairOf n dy with
          | none =>
            rw [ep] at eb
            refine iteT ?_
            refine ⟨_, rfl, _, rfl, fun dx hdx => ?_⟩
            exact r i (by rw [eb]; rfl) dx _ _ (s2.trans (same_upd hdx)) upd_same (.int _)
          | some qr =>
            rw [ep] at eb
            simp only [] at eb
            obtain ⟨rfl, b1, b2⟩ := pairOf_is ep
            obtain ⟨z, rfl, pz⟩ := pair_dp dd
            refine iteF ?_
            refine ⟨_, rfl, _, _, rfl, rfl, _, rfl, ?_⟩
            cases i with
            | zero =>
              rw [decide_eq_false (show ¬ ((0 : Int) < ((0 : Nat) : Int)) by omega)]
              rw [p0 rfl] at eb
              rw [if_pos (show above none qr = true from rfl)] at eb
              refine iteF (iteF ⟨_, _, some qr, rfl, s2, eb, (fun h => nomatch h), fun i' h => ⟨qr, rfl, ?_⟩⟩)
              cases h
              exact hdy
            | succ i' =>
              rw [decide_eq_true (show (0 : Int) < ((i' + 1 : Nat) : Int) by omega)]
              refine iteT ?_
              obtain ⟨q0, rfl, hq0⟩ := pp i' rfl
              obtain ⟨y0, hy0, dy0⟩ := dpAll_getD hP hq0
              obtain ⟨z0, rfl, pz0⟩ := pair_dp dy0
              have ei : atI xs (((i' + 1 : Nat) : Int) - 1) = some (.ref z0) := by
                have e : ((i' + 1 : Nat) : Int) - 1 = (i' : Nat) := by omega
                rw [e]
                exact atI_nat hy0
              refine ⟨_, rfl, _, rfl, _, rfl, _, _, rfl, rfl, a, _, _, _, rfl, rfl, Same.sqT s2 hR, ei, z, z0, [(qr.1 : Int), (qr.2 : Int)], [(q0.1 : Int), (q0.2 : Int)], rfl, rfl, Same.sqT s2 pz, Same.sqT s2 pz0, _, rfl, ?_⟩
              rw [lex_two]
              by_cases lt : ltP q0 qr
              · have e3 : (!decide (ltP (q0.1, q0.2) (qr.1, qr.2))) = false := by rw [decide_eq_true (show ltP (q0.1, q0.2) (qr.1, qr.2) from lt)]; rfl
                rw [e3]
                rw [if_pos (show above (some q0) qr = true from decide_eq_true lt)] at eb
                refine iteF ⟨_, _, some qr, rfl, s2, eb, (fun h => nomatch h), fun j h => ⟨qr, rfl, ?_⟩⟩
                cases h
                exact hdy
              · have e3 : (!decide (ltP (q0.1, q0.2) (qr.1, qr.2))) = true := by rw [decide_eq_false (show ¬ ltP (q0.1, q0.2) (qr.1, qr.2) from lt)]; rfl
                rw [e3]
                rw [if_neg (show ¬ above (some q0) qr = true from fun h => lt (of_decide_eq_true h))] at eb
                refine iteT ?_
                refine ⟨_, rfl, _, rfl, fun dx hdx => ?_⟩
                exact r ((i' + 1 : Nat) : Int) (by rw [eb]; rfl) dx _ _ (s2.trans (same_upd hdx)) upd_same (.int _)
        · rintro σ H1 ⟨v3, v4, p, rfl, s1, eb, _⟩
          rw [len, List.drop_length] at eb
          exact q (by rw [eb]; rfl) H1 s1
      · rw [decide_eq_true (show ((240 : Int) < (xs.length : Nat)) by rw [len]; omega)]
        refine iteT ?_
        refine ⟨_, rfl, _, rfl, fun dx hdx => ?_⟩
        exact r (-3) (if_neg many) dx _ _ (same_upd hdx) upd_same (.int _)
end
end Ft

set_option Elab.async false
set_option linter.all false
set_option maxRecDepth 100000
set_option maxHeartbeats 4000000
namespace Ft
open PySem PySem.Spec PyProof.Rows L2
section
variable {P : Program} {w : World} {K : PySem.W.Frag} {mg : Str → Option Value} {base : Heap} {ca : Str → Addr}
/-! ### made_map, of data -/
theorem mapErr_not {d : PyData} (h : isTup d = false) : mapErr d = some (("BadMap" : Str), -1) := by
  cases d <;> first | rfl | cases h
theorem mapErr_len {ds : List PyData} (h : ds.length ≠ 3) : mapErr (.tuple ds) = some (("BadMap" : Str), -1) := by
  unfold mapErr
  split
  · rename_i a b c e
    cases e
    exact absurd rfl h
  · rfl
theorem mapErr_name {d : PyData} {x : Str} {i : Int} (h : mapErr d = some (x, i)) : x = "BadMap" ∨ x = "BadWish" := by
  unfold mapErr at h
  split at h
  · rename_i p r w
    unfold mapErr3 at h
    split at h
    · cases e : roadsErr (numOf p).toNat r with
      | some j => rw [e] at h; cases h; exact .inl rfl
      | none =>
        rw [e] at h
        cases e2 : wishErr (numOf p).toNat w with
        | some j => rw [e2] at h; cases h; exact .inr rfl
        | none => rw [e2] at h; cases h
    · cases h
      exact .inl rfl
  · cases h
    exact .inl rfl
/-- what is wanted behind a check: the answer, or the error that is due -/
def Due (K : PySem.W.Frag) (ca : Str → Addr) (H : Hp) (E : XK) (e : Option (Str × Int)) (ok : Prop) : Prop := (e = none → ok) ∧ ∀ x i, e = some (x, i) → Raised K ca H E (x, .int i)
def spX_made_map (K : PySem.W.Frag) (ca : Str → Addr) : Sp := fun vs H Q E => ∃ (v : V) (d : PyData), vs = [v] ∧ Dp K H v d ∧ Due K ca H E (mapErr d) (∀ c C c' H', v = .ref c → d = chartD C → C.Ok → Same H H' → IsChart K H' c' C → Q (.ref c') H')
def mapErrN (n : Nat) (rd wd : PyData) : Option (Str × Int) := match roadsErr n rd with
  | some i => some ("BadMap", i)
  | none => match wishErr n wd with
    | some i => some ("BadWish", i)
    | none => none
theorem mapErrN_map {n : Nat} {rd wd : PyData} {i : Int} (h : roadsErr n rd = some i) : mapErrN n rd wd = some (("BadMap" : Str), i) := by unfold mapErrN; rw [h]
theorem mapErrN_wish {n : Nat} {rd wd : PyData} {i : Int} (h : roadsErr n rd = none) (h2 : wishErr n wd = some i) : mapErrN n rd wd = some (("BadWish" : Str), i) := by unfold mapErrN; rw [h, h2]
theorem mapErrN_none {n : Nat} {rd wd : PyData} (h : roadsErr n rd = none) (h2 : wishErr n wd = none) : mapErrN n rd wd = none := by unfold mapErrN; rw [h, h2]
theorem dpAll_three {K : PySem.W.Frag} {H : Hp} {xs : List V} {a b c : PyData} (h : DpAll K H xs [a, b, c]) : ∃ x y z, xs = [x, y, z] ∧ Dp K H x a ∧ Dp K H y b ∧ Dp K H z c := by
  cases h with
  | cons h1 h =>
    cases h with
    | cons h2 h =>
      cases h with
      | cons h3 h =>
        cases h
        exact ⟨_, _, _, rfl, h1, h2, h3⟩
theorem dpAll_two {K : PySem.W.Frag} {H : Hp} {xs : List V} {a b : PyData} (h : DpAll K H xs [a, b]) : ∃ x y, xs = [x, y] ∧ Dp K H x a ∧ Dp K H y b := by
  cases h with
  | cons h1 h =>
    cases h with
    | cons h2 h =>
      cases h
      exact ⟨_, _, rfl, h1, h2⟩
theorem nD_toNat (n : Nat) : (numOf (nD n)).toNat = n := by simp [nD, numOf]
theorem int_nD {i : Int} (h : 0 ≤ i) : PyData.int i = nD (numOf (.int i)).toNat := by
  show PyData.int i = .int ((numOf (.int i)).toNat : Int)
  have : ((numOf (PyData.int i)).toNat : Int) = i := by
    simp only [numOf]
    omega
  rw [this]
theorem cal_made_map (T : Txt mg) (D : Def K mg "made_map" s_made_map) (m_MOST_PLACES : MgI mg "MOST_PLACES" 60) (e_BadMap : Er P w K mg base ca "BadMap") (e_BadWish : Er P w K mg base ca "BadWish") (c_number_within : Cal P w K mg base 2 "number_within" (sp_number_within K)) (c_check_roads : CalX P w K mg base 4 "check_roads" (spX_check_roads K ca))
    (c_first_bad_place : Cal P w K mg base 3 "first_bad_place" (sp_first_bad_place K)) : CalX P w K mg base 5 "made_map" (spX_made_map K ca) := by
  refine calx_of D sc_made_map (fun _ _ _ _ _ _ us hl => match us, hl with | [_], _ => rfl) (fun vs H Q E h => ?_) (fun f cdv A outer s H vs Q E hr h => ?_)
  · obtain ⟨v, d, rfl, _⟩ := h
    rfl
  · obtain ⟨v, d, rfl, hd, q, r⟩ := h
    have r : ∀ x i, mapErr d = some (x, i) → Raised K ca H E (x, .int i) := r
    refine ⟨_, (pss_cons (ps_if (PW.pt (pw_or (pt_not (pt_val (pe_callB (show CallR _ _ (rIsi K) from call_isi) (by rfl) T.isinstance (by decide +kernel) (pa_cons (pv 0) (pa_cons (pe_bltn (v := .ty "tuple") (u := .type "tuple") (by rfl) T.tuple (by decide +kernel) rfl) pa_nil))))) (pw_or1 (pt_cmpR op_ne (pe_callB (show CallR _ _ (rLenS K) from call_lenS) (by rfl) T.len (by decide +kernel) (pa_cons (pv 0) pa_nil)) pe_int (nomark _))))) (pss_one (ps_raiseE rfl e_BadMap hr (by decide) (L2N.takes_of rfl rfl rfl rfl) (by rfl) (pa_cons (pe_un un_neg pe_int) pa_nil))) pss_nil)
      (pss_cons (ps_asg (pv 0) (show PG _ _ (gTup K 3 _) from pg_tup (by rfl) (pgs_cons (pg_name (i := 1) sc_made_map.nd rfl (Or.inl rfl)) (pgs_cons (pg_name (i := 2) sc_made_map.nd rfl (Or.inl rfl)) (pgs_cons (pg_name (i := 3) sc_made_map.nd rfl (Or.inl rfl)) pgs_nil)))))
      (pss_cons (ps_if (pt_not (pt_val (pe_c c_number_within hr (by decide) (by rfl) (pa_cons (pv 1) (pa_cons pe_int (pa_cons (pe_globI (n := 60) rfl m_MOST_PLACES) pa_nil)))))) (pss_one (ps_raiseE rfl e_BadMap hr (by decide) (L2N.takes_of rfl rfl rfl rfl) (by rfl) (pa_cons (pe_un un_neg pe_int) pa_nil))) pss_nil)
      (pss_cons (ps_expr (pe_x (L2N.takes_of rfl rfl rfl rfl) c_check_roads hr (by decide) (by rfl) (pa_cons (pv 1) (pa_cons (pv 2) pa_nil))))
      (pss_cons (ps_if (pt_not (pt_val (pe_callB (show CallR _ _ (rIsi K) from call_isi) (by rfl) T.isinstance (by decide +kernel) (pa_cons (pv 3) (pa_cons (pe_bltn (v := .ty "tuple") (u := .type "tuple") (by rfl) T.tuple (by decide +kernel) rfl) pa_nil))))) (pss_one (ps_raiseE rfl e_BadWish hr (by decide) (L2N.takes_of rfl rfl rfl rfl) (by rfl) (pa_cons (pe_un un_neg pe_int) pa_nil))) pss_nil)
      (pss_cons (ps_set (i := 4) sc_made_map.nd rfl (Or.inl rfl) (pe_c c_first_bad_place hr (by decide) (by rfl) (pa_cons (pv 1) (pa_cons (pv 3) pa_nil))))
      (pss_cons (ps_if (pt_cmpR op_notN (pv 4) pe_non (nomark _)) (pss_one (ps_raiseE rfl e_BadWish hr (by decide) (L2N.takes_of rfl rfl rfl rfl) (by rfl) (pa_cons (pv 4) pa_nil))) pss_nil)
      (pss_one (ps_ret (pe_tup (pa_cons (pv 1) (pa_cons (pv 2) (pa_cons (pv 3) pa_nil))))))))))))), ?_⟩
    refine ⟨_, rfl, _, _, _, _, isTup d, rfl, .ty "tuple", isi_dp hd, kit_tup d, isTup d, rfl, ?_⟩
    cases e : isTup d with
    | false =>
      refine iteT (iteT ?_)
      exact ⟨_, rfl, _, rfl, fun dd hdd => r _ _ (mapErr_not e) dd _ _ (same_upd hdd) upd_same (.int _)⟩
    | true =>
      obtain ⟨ds, rfl⟩ := isTup_is e
      obtain ⟨c, xs, rfl, hC, hP⟩ := dp_tup hd
      have len := dpAll_length hP
      refine iteF ?_
      refine ⟨_, rfl, _, _, rfl, .inr hC, rfl, _, rfl, ?_⟩
      by_cases l : ds.length = 3
      · have e2 : (!decide (V.int ((xs.length : Nat) : Int) = V.int 3)) = false := by
          rw [len, l]
          rfl
        refine ite_any (fun z => absurd (show (!decide (V.int ((xs.length : Nat) : Int) = V.int 3)) = true from z) (by rw [e2]; exact fun h => nomatch h)) (fun _ => ?_)
        obtain ⟨p, rd, wd, rfl⟩ : ∃ a b c, ds = [a, b, c] := by
          match ds, l with
          | [a, b, c], _ => exact ⟨a, b, c, rfl⟩
        obtain ⟨vp, vr, vw, rfl, h1, h2, h3⟩ := dpAll_three hP
        refine ⟨_, rfl, c, _, rfl, hC, rfl, _, _, rfl, _, _, rfl, _, _, rfl, rfl, ?_⟩
        refine ⟨_, rfl, _, p, _, _, rfl, h1, numIn 0 60 p, rfl, ?_⟩
        have em : mapErr (.tuple [p, rd, wd]) = mapErr3 p rd wd := rfl
        rw [em] at q
        have r : ∀ x i, mapErr3 p rd wd = some (x, i) → _ := fun x i h => r x i (em.trans h)
        cases cn : numIn 0 60 p with
        | false =>
          refine iteT ?_
          exact ⟨_, rfl, _, rfl, fun dd hdd => r _ _ (by unfold mapErr3; rw [cn]; rfl) dd _ _ (same_upd hdd) upd_same (.int _)⟩
        | true =>
          obtain ⟨i, rfl, i1, i2⟩ := numIn_is cn
          cases dp_int h1
          obtain ⟨n, ep⟩ : ∃ n : Nat, PyData.int i = nD n := ⟨_, int_nD i1⟩
          have ei : i = (n : Int) := by
            have z : PyData.int i = .int (n : Int) := ep
            cases z
            rfl
          subst ei
          refine iteF ?_
          have e3 : mapErr3 (nD n) rd wd = mapErrN n rd wd := by
            unfold mapErr3 mapErrN
            rw [if_pos (by rw [numIn_nat]; omega), nD_toNat]
            cases roadsErr n rd with
            | some i => rfl
            | none => cases wishErr n wd <;> rfl
          have r : ∀ x i, mapErrN n rd wd = some (x, i) → Raised K ca H E (x, .int i) := fun x i h => r x i (e3.trans h)
          have q : mapErrN n rd wd = none → _ := fun h => q (e3.trans h)
          refine ⟨_, rfl, _, rfl, n, vr, rd, rfl, h2, fun er H1 s1 => ?_, fun j er => ?_⟩
          · have h31 := Dp.same s1 h3
            refine ⟨_, rfl, _, _, _, _, isTup wd, rfl, .ty "tuple", isi_dp h31, kit_tup wd, isTup wd, rfl, ?_⟩
            cases ew : isTup wd with
            | false =>
              have ew' : wishErr n wd = some (-1) := by cases wd <;> first | rfl | cases ew
              refine iteT ?_
              exact ⟨_, rfl, _, rfl, fun dd hdd => r _ _ (mapErrN_wish er ew') dd _ _ (s1.trans (same_upd hdd)) upd_same (.int _)⟩
            | true =>
              obtain ⟨wds, rfl⟩ := isTup_is ew
              obtain ⟨wa, ys, rfl, hW, hWs⟩ := dp_tup h31
              refine iteF ?_
              refine ⟨_, rfl, _, rfl, n, wa, ys, wds, rfl, hW, hWs, fun H2 s2 => ?_⟩
              have s12 := s1.trans s2
              have ew2 : wishErr n (.tuple wds) = optI (badPlace n (-1) 0 wds) := rfl
              cases eb : badPlace n (-1) 0 wds with
              | some k =>
                refine ⟨_, rfl, rfl, _, rfl, iteT ?_⟩
                exact ⟨_, rfl, _, rfl, fun dd hdd => r _ _ (mapErrN_wish er (by rw [ew2, eb]; rfl)) dd _ _ (s12.trans (same_upd hdd)) upd_same (.int _)⟩
              | none =>
                refine ⟨_, rfl, rfl, _, rfl, iteF ?_⟩
                have e1 : mapErrN n rd (.tuple wds) = none := mapErrN_none er (by rw [ew2, eb]; rfl)
                have e0 : mapErr3 (nD n) rd (.tuple wds) = none := e3.trans e1
                obtain ⟨C, ok, p1, p2, p3⟩ := mapErr3_none e0
                refine ⟨_, rfl, _, rfl, _, rfl, (by show 3 ≤ sizeLine; decide), fun p' hp => ?_⟩
                have s3 := s12.trans (same_upd (o := .tup [vN n, vr, .ref wa]) hp)
                have dd : Dp K (upd H2 p' (.tup [vN n, vr, .ref wa])) (.ref p') (chartD C) := by
                  have z : chartD C = .tuple [nD n, rd, .tuple wds] := by
                    unfold chartD
                    rw [← p1, ← p2, ← p3]
                  rw [z]
                  exact .tup (.inl (.inl upd_same)) (.cons (.int _) (.cons (Dp.same s3 h2) (.cons (Dp.same (s2.trans (same_upd hp)) h31) .nil)))
                obtain ⟨c2, ec, isC⟩ := chart_dp dd
                cases ec
                refine q e1 c C p' _ rfl ?_ ok s3 isC
                show PyData.tuple [nD n, rd, .tuple wds] = _
                unfold chartD
                rw [← p1, ← p2, ← p3]
          · intro dd H' v s' hdd hv
            exact r _ _ (mapErrN_map er) dd H' v s' hdd hv
      · refine ite_any (fun _ => ?_) (fun z => absurd (show (!decide (V.int ((xs.length : Nat) : Int) = V.int 3)) = false from z) (by
          rw [len, decide_eq_false]
          · exact fun h => nomatch h
          · intro z
            have z' := V.int.inj z
            omega))
        exact ⟨_, rfl, _, rfl, fun dd hdd => r _ _ (mapErr_len l) dd _ _ (same_upd hdd) upd_same (.int _)⟩
/-- of a map -/
def sp_made_map (K : PySem.W.Frag) : Sp := fun vs H Q _ => ∃ (c : Addr) (C : Chart), vs = [.ref c] ∧ IsChart K H c C ∧ C.Ok ∧ ∀ c' H', Same H H' → IsChart K H' c' C → Q (.ref c') H'
theorem chartD_inj {C C' : Chart} (h : chartD C = chartD C') : C = C' := by
  obtain ⟨n, rs, ws⟩ := C
  obtain ⟨n', rs', ws'⟩ := C'
  unfold chartD lotD at h
  simp only [PyData.tuple.injEq, List.cons.injEq, and_true] at h
  obtain ⟨h1, h2, h3⟩ := h
  have inN : ∀ {a b : Nat}, nD a = nD b → a = b := fun {a b} z => by
    have z' : PyData.int (a : Int) = .int (b : Int) := z
    cases z'
    rfl
  have inL : ∀ {f : Nat → PyData} {g : Nat → PyData}, True := fun {_ _} => trivial
  have e3 : ws = ws' := by
    refine List.map_inj_right (f := nD) (fun {a b} z => inN z) |>.mp h3
  have e2 : rs = rs' := by
    refine List.map_inj_right (f := pairD) (fun {a b} z => ?_) |>.mp h2
    unfold pairD at z
    simp only [PyData.tuple.injEq, List.cons.injEq, and_true] at z
    exact Prod.ext (inN z.1) (inN z.2)
  rw [inN h1, e2, e3]
theorem lotD_inj {ws ws' : List Nat} (h : lotD ws = lotD ws') : ws = ws' := by
  unfold lotD at h
  simp only [PyData.tuple.injEq] at h
  exact List.map_inj_right (f := nD) (fun {a b} z => by
    have z' : PyData.int (a : Int) = .int (b : Int) := z
    cases z'
    rfl) |>.mp h
theorem calv_made_map (c_made_map : CalX P w K mg base 5 "made_map" (spX_made_map K ca)) : Cal P w K mg base 5 "made_map" (sp_made_map K) :=
  c_made_map.valid fun vs H Q E ⟨c, C, e, isC, ok, q⟩ => ⟨_, _, e, dp_chart isC, fun _ c0 C' c' H' ec eC _ s' isC' => q c' H' s' (by rw [chartD_inj eC]; exact isC'), fun x i h => by rw [mapErr_chart ok] at h; cases h⟩
end
end Ft

set_option Elab.async false
set_option linter.all false
set_option maxRecDepth 100000
set_option maxHeartbeats 4000000
namespace Ft
open PySem PySem.Spec PyProof.Rows L2
section
variable {P : Program} {w : World} {K : PySem.W.Frag} {mg : Str → Option Value} {base : Heap} {ca : Str → Addr}
/-! ### place_fits, check_place, lot_fits, check_lot, of data -/
def rngD (n : Nat) (d : PyData) : Bool := numIn 0 ((n : Int) - 1) d
theorem rngD_nat {n i : Nat} (h : i < n) : rngD n (nD i) = true := numIn_nat.mpr ⟨by omega, by omega⟩
theorem rngD_is {n : Nat} {d : PyData} (h : rngD n d = true) : ∃ i, d = nD i ∧ i < n := by
  obtain ⟨i, rfl, h1, h2⟩ := numIn_is h
  refine ⟨i.toNat, ?_, by omega⟩
  show PyData.int i = .int (i.toNat : Int)
  rw [show ((i.toNat : Nat) : Int) = i by omega]
def sp_place_fits (K : PySem.W.Frag) : Sp := fun vs H Q _ => ∃ (c : Addr) (n : Nat) (v : V) (d : PyData) (r wd : Addr), vs = [.ref c, v] ∧ SqT K H c [vN n, .ref r, .ref wd] ∧ Dp K H v d ∧ Q (.bl (rngD n d)) H
theorem cal_place_fits (T : Txt mg) (D : Def K mg "place_fits" s_place_fits) (c_number_within : Cal P w K mg base 2 "number_within" (sp_number_within K)) : Cal P w K mg base 3 "place_fits" (sp_place_fits K) := by
  refine cal_of D sc_place_fits (fun _ _ _ _ _ _ us hl => match us, hl with | [_, _], _ => rfl) (fun vs H Q E h => ?_) (fun f cdv A outer s H vs Q E hr h => ?_)
  · obtain ⟨c, n, v, d, r, wd, rfl, _⟩ := h
    rfl
  · obtain ⟨c, n, v, d, r, wd, rfl, hc, hd, q⟩ := h
    refine ⟨_, (pss_one (ps_ret (pe_c c_number_within hr (by decide) (by rfl) (pa_cons (pv 1) (pa_cons pe_int (pa_cons (pe_op op_sub (pe_ix (show IxR _ (rIxT K) from ix_tup) (pv 0) pe_int (fun _ _ => rfl)) pe_int) pa_nil)))))), ?_⟩
    exact ⟨_, rfl, _, rfl, _, _, _, _, rfl, rfl, hc, rfl, _, _, rfl, rfl, v, d, _, _, rfl, hd, q⟩
def spX_check_place (K : PySem.W.Frag) (ca : Str → Addr) : Sp := fun vs H Q E => ∃ (c : Addr) (n : Nat) (v : V) (d : PyData) (r wd : Addr), vs = [.ref c, v] ∧ SqT K H c [vN n, .ref r, .ref wd] ∧ Dp K H v d ∧ (rngD n d = true → Q .non H) ∧ (rngD n d = false → Raised K ca H E ("BadPlace", d))
theorem cal_check_place (T : Txt mg) (D : Def K mg "check_place" s_check_place) (e_BadPlace : Er P w K mg base ca "BadPlace") (c_place_fits : Cal P w K mg base 3 "place_fits" (sp_place_fits K)) : CalX P w K mg base 4 "check_place" (spX_check_place K ca) := by
  refine calx_of D sc_check_place (fun _ _ _ _ _ _ us hl => match us, hl with | [_, _], _ => rfl) (fun vs H Q E h => ?_) (fun f cdv A outer s H vs Q E hr h => ?_)
  · obtain ⟨c, n, v, d, r, wd, rfl, _⟩ := h
    rfl
  · obtain ⟨c, n, v, d, r, wd, rfl, hc, hd, q1, q2⟩ := h
    refine ⟨_, (pss_one (ps_if (pt_not (pt_val (pe_c c_place_fits hr (by decide) (by rfl) (pa_cons (pv 0) (pa_cons (pv 1) pa_nil))))) (pss_one (ps_raiseE rfl e_BadPlace hr (by decide) (L2N.takes_of rfl rfl rfl rfl) (by rfl) (pa_cons (pv 1) pa_nil))) pss_nil)), ?_⟩
    refine ⟨_, rfl, _, rfl, c, n, v, d, r, wd, rfl, hc, hd, rngD n d, rfl, ?_⟩
    cases e : rngD n d with
    | true => exact iteF (q1 e)
    | false => exact iteT ⟨_, rfl, _, rfl, fun dd hdd => q2 e dd _ _ (same_upd hdd) upd_same (Dp.same (same_upd hdd) hd)⟩
def sp_check_place (K : PySem.W.Frag) : Sp := fun vs H Q _ => ∃ (c : Addr) (n i : Nat) (r wd : Addr), vs = [.ref c, vN i] ∧ SqT K H c [vN n, .ref r, .ref wd] ∧ i < n ∧ Q .non H
theorem calv_check_place (c_check_place : CalX P w K mg base 4 "check_place" (spX_check_place K ca)) : Cal P w K mg base 4 "check_place" (sp_check_place K) :=
  c_check_place.valid fun vs H Q E ⟨c, n, i, r, wd, e, hc, hi, q⟩ => ⟨c, n, _, _, r, wd, e, hc, dp_nat i, fun _ => q, fun h => by rw [rngD_nat hi] at h; cases h⟩
end
end Ft

set_option Elab.async false
set_option linter.all false
set_option maxRecDepth 100000
set_option maxHeartbeats 4000000
namespace Ft
open PySem PySem.Spec PyProof.Rows L2
/-- the places to which roads of the row lead from a, in the row's order -/
def succs (rs : List (Nat × Nat)) (a : Nat) : List Nat := (rs.filter fun p => p.1 == a).map (·.2)
theorem succs_more (rs : List (Nat × Nat)) (p : Nat × Nat) (a : Nat) : succs (rs ++ [p]) a = if p.1 = a then succs rs a ++ [p.2] else succs rs a := by
  unfold succs
  rw [List.filter_append, List.map_append]
  by_cases h : p.1 = a
  · rw [if_pos h]
    have : (p.1 == a) = true := by simp [h]
    simp [List.filter_cons, this]
  · rw [if_neg h]
    have : (p.1 == a) = false := by simp [h]
    simp [List.filter_cons, this]
theorem succs_len (rs : List (Nat × Nat)) (a : Nat) : (succs rs a).length ≤ rs.length := by
  unfold succs
  rw [List.length_map]
  exact List.length_filter_le _ _
theorem succs_mem {rs : List (Nat × Nat)} {a b : Nat} : b ∈ succs rs a ↔ (a, b) ∈ rs := by
  unfold succs
  simp only [List.mem_map, List.mem_filter, beq_iff_eq]
  constructor
  · rintro ⟨⟨x, y⟩, ⟨h1, h2⟩, h3⟩
    dsimp at h2 h3
    subst h2 h3
    exact h1
  · intro h
    exact ⟨(a, b), ⟨h, rfl⟩, rfl⟩
theorem nodup_inj {α : Type} {l : List α} (nd : l.Nodup) {i j : Nat} {a : α} (hi : l[i]? = some a) (hj : l[j]? = some a) : i = j := by
  obtain ⟨h1, e1⟩ := List.getElem?_eq_some_iff.mp hi
  obtain ⟨h2, e2⟩ := List.getElem?_eq_some_iff.mp hj
  have ap := List.pairwise_iff_getElem.mp nd
  rcases Nat.lt_trichotomy i j with h | h | h
  · exact absurd (e1.trans e2.symm) (ap i j h1 h2 h)
  · exact h
  · exact absurd (e2.trans e1.symm) (ap j i h2 h1 h)
theorem take_more {α : Type} {l : List α} {i : Nat} {x : α} (h : l[i]? = some x) : l.take (i + 1) = l.take i ++ [x] := by
  rw [List.take_add_one, h]
  rfl
section
variable {P : Program} {w : World} {K : PySem.W.Frag} {mg : Str → Option Value} {base : Heap} {t1 t2 : Tok}
/-! ### roads_from -/
/-- a list of lists of places stands at q -/
structure LotsAt (H : Hp) (q : Addr) (ls : List Addr) (f : Nat → List Nat) : Prop where
  top : H q = some (.lst (ls.map V.ref))
  each : ∀ a l, ls[a]? = some l → H l = some (.lst ((f a).map vN))
def sp_roads_from (K : PySem.W.Frag) : Sp := fun vs H Q _ => ∃ (c : Addr) (C : Chart), vs = [.ref c] ∧ IsChart K H c C ∧ C.Ok ∧ ∀ q ls H', Same H H' → ls.length = C.n → LotsAt H' q ls (succs C.roads) → Q (.ref q) H'
end
end Ft

set_option Elab.async false
set_option linter.all false
set_option maxRecDepth 100000
set_option maxHeartbeats 4000000
/-! Plain mathematics: ascending lists, reach -/
namespace Ft
theorem asc_ext : ∀ {l1 l2 : List Nat}, l1.Pairwise (· < ·) → l2.Pairwise (· < ·) → (∀ x, x ∈ l1 ↔ x ∈ l2) → l1 = l2
  | [], [], _, _, _ => rfl
  | [], b :: l2, _, _, h => absurd ((h b).mpr List.mem_cons_self) List.not_mem_nil
  | a :: l1, [], _, _, h => absurd ((h a).mp List.mem_cons_self) List.not_mem_nil
  | a :: l1, b :: l2, h1, h2, h => by
    obtain ⟨a1, p1⟩ := List.pairwise_cons.mp h1
    obtain ⟨a2, p2⟩ := List.pairwise_cons.mp h2
    have e : a = b := by
      rcases List.mem_cons.mp ((h a).mp List.mem_cons_self) with e | m
      · exact e
      · rcases List.mem_cons.mp ((h b).mpr List.mem_cons_self) with e | m'
        · exact e.symm
        · have := a2 a m
          have := a1 b m'
          omega
    subst e
    refine congrArg (a :: ·) (asc_ext p1 p2 fun x => ⟨fun m => ?_, fun m => ?_⟩)
    · rcases List.mem_cons.mp ((h x).mp (List.mem_cons_of_mem _ m)) with e | m'
      · have := a1 x m
        omega
      · exact m'
    · rcases List.mem_cons.mp ((h x).mpr (List.mem_cons_of_mem _ m)) with e | m'
      · have := a2 x m
        omega
      · exact m'
/-- the places below n with a property, ascending -/
noncomputable def those (n : Nat) (P : Nat → Prop) : List Nat := (List.range n).filter fun b => @decide (P b) (Classical.propDecidable _)
theorem up_nodup {l : List Nat} (h : l.Pairwise (· < ·)) : l.Nodup := h.imp fun {a b} x e => by subst e; exact Nat.lt_irrefl _ x
theorem range_up (n : Nat) : (List.range n).Pairwise (· < ·) := List.pairwise_lt_range
theorem those_up (n : Nat) (P : Nat → Prop) : (those n P).Pairwise (· < ·) := (range_up n).filter _
theorem those_mem {n : Nat} {P : Nat → Prop} {b : Nat} : b ∈ those n P ↔ b < n ∧ P b := by
  unfold those
  rw [List.mem_filter, List.mem_range]
  simp
theorem those_is {n : Nat} {P : Nat → Prop} {l : List Nat} (up : l.Pairwise (· < ·)) (h : ∀ x, x ∈ l ↔ x < n ∧ P x) : l = those n P :=
  asc_ext up (those_up n P) fun x => (h x).trans those_mem.symm
/-- a sorted copy of numbers -/
theorem sorted_iN {F : List Nat} (nd : F.Nodup) {ys : List Int} (pm : ys.Perm (F.map fun (n : Nat) => (n : Int))) (up : ys.Pairwise (· ≤ ·)) :
    ∃ l : List Nat, ys = l.map (fun (n : Nat) => (n : Int)) ∧ l.Pairwise (· < ·) ∧ ∀ x, x ∈ l ↔ x ∈ F := by
  have nn : ∀ y ∈ ys, 0 ≤ y := by
    intro y hy
    obtain ⟨n, _, e⟩ := List.mem_map.mp (pm.mem_iff.mp hy)
    omega
  have e : ys = (ys.map Int.toNat).map (fun (n : Nat) => (n : Int)) := by
    rw [List.map_map]
    conv => lhs; rw [← List.map_id ys]
    exact List.map_congr_left fun y hy => (Int.toNat_of_nonneg (nn y hy)).symm
  have ndy : ys.Nodup := by
    refine pm.nodup_iff.mpr ?_
    exact List.pairwise_map.mpr (nd.imp fun h e => h (by omega))
  refine ⟨ys.map Int.toNat, e, ?_, fun x => ?_⟩
  · refine List.pairwise_map.mpr ?_
    have both : ys.Pairwise fun a b => a ≤ b ∧ a ≠ b := List.Pairwise.and up ndy
    refine List.Pairwise.imp_of_mem (fun {a b} ha hb h => ?_) both
    have h1 := nn a ha
    have h2 := nn b hb
    omega
  · constructor
    · intro h
      obtain ⟨y, hy, e1⟩ := List.mem_map.mp h
      obtain ⟨n, hn, e2⟩ := List.mem_map.mp (pm.mem_iff.mp hy)
      have : n = x := by omega
      exact this ▸ hn
    · intro h
      have : (x : Int) ∈ ys := pm.mem_iff.mpr (List.mem_map.mpr ⟨x, h, rfl⟩)
      exact List.mem_map.mpr ⟨(x : Int), this, by omega⟩
/-- from a place along roads over unwished places -/
inductive Reach (rs : List (Nat × Nat)) (ws : List Nat) : Nat → Nat → Prop
  | one {a b : Nat} : (a, b) ∈ rs → Reach rs ws a b
  | more {a b c : Nat} : Reach rs ws a b → b ∉ ws → (b, c) ∈ rs → Reach rs ws a c
theorem Reach.cons {rs : List (Nat × Nat)} {ws : List Nat} {a b c : Nat} (h : (a, b) ∈ rs) (hb : b ∉ ws) (r : Reach rs ws b c) : Reach rs ws a c := by
  induction r with
  | one h2 => exact .more (.one h) hb h2
  | more _ h2 h3 ih => exact .more ih h2 h3
theorem Reach.trans {rs : List (Nat × Nat)} {ws : List Nat} {a b c : Nat} (r : Reach rs ws a b) (hb : b ∉ ws) (q : Reach rs ws b c) : Reach rs ws a c := by
  induction q with
  | one h2 => exact .more r hb h2
  | more _ h2 h3 ih => exact .more ih h2 h3
/-- what is closed and holds the first steps holds all -/
theorem Reach.within {rs : List (Nat × Nat)} {ws : List Nat} {S : Nat → Prop} {a b : Nat} (r : Reach rs ws a b) (h1 : ∀ x, (a, x) ∈ rs → S x) (h2 : ∀ x y, S x → x ∉ ws → (x, y) ∈ rs → S y) : S b := by
  induction r with
  | one h => exact h1 _ h
  | more _ hb h ih => exact h2 _ _ ih hb h
/-- the places that some place of S comes to -/
noncomputable def met (n : Nat) (rs : List (Nat × Nat)) (ws S : List Nat) : List Nat := those n fun b => ∃ a ∈ S, Reach rs ws a b
end Ft

set_option Elab.async false
set_option linter.all false
set_option maxRecDepth 100000
set_option maxHeartbeats 4000000
namespace Ft
open PySem PySem.Spec PyProof.Rows L2
section
variable {P : Program} {w : World} {K : PySem.W.Frag} {mg : Str → Option Value} {base : Heap} {t1 t2 : Tok}
theorem up_len {l : List Nat} {n : Nat} (h : l.Pairwise (· < ·)) (b : ∀ a ∈ l, a < n) : l.length ≤ n := by
  have := nat_nodup_len l (List.range n) (up_nodup h) fun x hx => List.mem_range.mpr (b x hx)
  rwa [List.length_range] at this
/-! ### unwished_of -/
def unw (C : Chart) : List Nat := (List.range C.n).filter fun a => !decide (a ∈ C.wished)
theorem range_more (n i : Nat) (h : i < n) : (List.range n).take (i + 1) = (List.range n).take i ++ [i] := by
  refine take_more ?_
  rw [List.getElem?_range h]
theorem range_take_mem {n i a : Nat} (h : i ≤ n) : a ∈ (List.range n).take i ↔ a < i := by
  have e : (List.range n).take i = List.range i := by
    rw [List.take_range, Nat.min_eq_left h]
  rw [e, List.mem_range]
def sp_unwished_of (K : PySem.W.Frag) : Sp := fun vs H Q _ => ∃ (c : Addr) (C : Chart), vs = [.ref c] ∧ IsChart K H c C ∧ C.Ok ∧ ∀ q H', Same H H' → H q = none → H' q = some (.lst ((unw C).map vN)) → Q (.ref q) H'
theorem cal_unwished_of (T : Txt mg) (D : Def K mg "unwished_of" s_unwished_of) : Cal P w K mg base 2 "unwished_of" (sp_unwished_of K) := by
  refine cal_of D sc_unwished_of (fun _ _ _ _ _ _ us hl => match us, hl with | [_], _ => rfl) (fun vs H Q E h => ?_) (fun f cdv A outer s H vs Q E hr h => ?_)
  · obtain ⟨c, C, rfl, _⟩ := h
    rfl
  · obtain ⟨c, C, rfl, ⟨r, wd, ts, hC⟩, ok, q⟩ := h
    have n60 := ok.n60
    refine ⟨_, (pss_cons (ps_set (i := 1) sc_unwished_of.nd rfl (Or.inr rfl) (pe_callTy (show CallR _ _ (rSetI K w) from cr_setI rfl) (by rfl) T.set (by decide +kernel) (pa_cons (pe_ix (show IxR _ (rIxT K) from ix_tup) (pv 0) pe_int (fun _ _ => rfl)) pa_nil)))
      (pss_one (ps_ret (pe_lc (own := [("place", 2)]) rfl sc_unwished_of.nd (pi_range1 (by rfl) T.range (pa_cons (pe_ix (show IxR _ (rIxT K) from ix_tup) (pv 0) pe_int (fun _ _ => rfl)) pa_nil)) (blkOk_by (N := ["chart", "wished", "place"]) (sc := L2.defScope s_unwished_of) (by decide +kernel)) (fun _ _ _ _ _ => (pg_name (i := 2) sc_unwished_of.nd rfl (Or.inl rfl))) (fun _ _ _ _ _ => pts_one (pt_cmpR (show OpR _ _ (rSNotIn w) from or_snotin) (pv 2) (pv 1) (by rfl))) (fun _ _ _ _ _ => (pv 2)))))), ?_⟩
    have lenW : (iN C.wished).length ≤ 1000 := by
      rw [iN_length]
      have := up_len ok.upW ok.inW
      omega
    refine ⟨_, rfl, _, _, _, _, rfl, rfl, hC.top, rfl, wd, iN C.wished, rfl, .inr (by rw [← vN_map]; exact hC.wis), lenW, fun p n0 hp hn0 => ?_⟩
    have s1 : Same H (upd H p (SetO w p (fun j => decide (j ∈ iN C.wished)) n0)) := same_upd hp
    have hC1 := hC.same s1
    refine ⟨_, rfl, _, _, _, _, rfl, rfl, hC1.top, rfl, _, rfl, by omega, by omega, fun d hd => ?_⟩
    have npd : p ≠ d := ne_of_none upd_same hd
    refine lc_range (lo := 0) (n := C.n) (fun i H' => Same H H' ∧ H' p = some (SetO w p (fun j => decide (j ∈ iN C.wished)) n0) ∧ H' d = some (.lst ((((List.range C.n).take i).filter fun a => !decide (a ∈ C.wished)).map vN)))
      ⟨s1.trans (same_upd hd), by rw [upd_ne npd]; exact upd_same, upd_same⟩ ?_ ?_
    · rintro i H1 hi ⟨s2, hp2, hd2⟩
      refine ⟨rfl, ?_⟩
      refine ⟨_, rfl, _, rfl, _, _, _, _, rfl, rfl, hp2, _, rfl, ?_⟩
      have e0 : (0 : Int) + (i : Nat) = (i : Nat) := by omega
      have e1 : decide ((0 : Int) + (i : Nat) ∈ iN C.wished) = decide (i ∈ C.wished) := by
        rw [e0]
        exact decide_eq_decide.mpr iN_mem
      rw [e1, range_more _ _ hi, List.filter_append]
      by_cases hw : i ∈ C.wished
      · rw [decide_eq_true hw]
        refine iteF ⟨s2, hp2, ?_⟩
        rw [hd2]
        simp [hw]
      · rw [decide_eq_false hw]
        refine iteT ?_
        refine ⟨_, rfl, _, hd2, ?_, ?_, ?_, ?_⟩
        · rw [List.length_map]
          have h1 := List.length_filter_le (fun a => !decide (a ∈ C.wished)) ((List.range C.n).take i)
          have h2 : ((List.range C.n).take i).length ≤ i := by rw [List.length_take]; omega
          exact small1000 (by omega)
        · intro b o e
          rw [upd_ne (ne_of_none e (s1.free hd))]
          exact s2 b o e
        · rw [upd_ne npd]
          exact hp2
        · rw [upd_same, List.map_append, e0]
          simp [hw]
          rfl
    · rintro H1 ⟨s2, hp2, hd2⟩
      rw [List.take_of_length_le (by rw [List.length_range]; exact Nat.le_refl _)] at hd2
      exact q d H1 s2 (s1.free hd) hd2
end
end Ft

set_option Elab.async false
set_option linter.all false
set_option maxRecDepth 100000
set_option maxHeartbeats 4000000
namespace Ft
open PySem PySem.Spec PyProof.Rows L2
/-- a dict of places, each with True -/
def keysOf (F : List Nat) : List (Key × V) := F.map fun (n : Nat) => ((Sum.inl (n : Int) : Key), V.bl true)
theorem keysOf_val : ∀ (F : List Nat) (x : Nat), valV (keysOf F) (Sum.inl (x : Int) : Key) = if x ∈ F then some (.bl true) else none
  | [], x => by simp [keysOf, valV]
  | a :: F, x => by
    have ih := keysOf_val F x
    unfold valV keysOf at ih ⊢
    rw [List.map_cons, List.find?_cons]
    by_cases h : a = x
    · subst h
      simp
    · have e : decide (((Sum.inl (a : Int) : Key)) = Sum.inl (x : Int)) = false := by
        refine decide_eq_false fun q => h ?_
        have := Sum.inl.inj q
        omega
      have hx : x ≠ a := fun q => h q.symm
      simp only [e, List.mem_cons, hx, false_or]
      exact ih
theorem keysOf_put (F : List Nat) (x : Nat) (h : x ∉ F) : putK (keysOf F) (Sum.inl (x : Int) : Key) (.bl true) = keysOf (F ++ [x]) := by
  rw [putK_new _ (by rw [keysOf_val, if_neg h])]
  unfold keysOf
  rw [List.map_append]
  rfl
theorem keysOf_len (F : List Nat) : (keysOf F).length = F.length := List.length_map ..
theorem keysOf_keys (F : List Nat) : (keysOf F).map (·.1) = (iN F).map Sum.inl := by
  unfold keysOf iN
  rw [List.map_map, List.map_map]
  rfl
theorem nodup_lt {F : List Nat} {n : Nat} (nd : F.Nodup) (b : ∀ x ∈ F, x < n) : F.length ≤ n := by
  have := nat_nodup_len F (List.range n) nd fun x hx => List.mem_range.mpr (b x hx)
  rwa [List.length_range] at this
/-- what holds between two turns of the search -/
structure Hunt (C : Chart) (S F W : List Nat) : Prop where
  nd : F.Nodup
  lt : ∀ b ∈ F, b < C.n
  fair : ∀ b ∈ F, ∃ a ∈ S, Reach C.roads C.wished a b
  wait : ∀ x ∈ W, x ∈ S ∨ (x ∈ F ∧ x ∉ C.wished)
structure Done (C : Chart) (S F W : List Nat) (off : Nat → Prop) : Prop where
  ok : ∀ x, (x ∈ S ∨ (x ∈ F ∧ x ∉ C.wished)) → x ∈ W ∨ off x ∨ ∀ b, (x, b) ∈ C.roads → b ∈ F
theorem hunt_end {C : Chart} {S F : List Nat} (h : Hunt C S F []) (d : Done C S F [] fun _ => False) : ∀ x, x ∈ F ↔ x < C.n ∧ ∃ a ∈ S, Reach C.roads C.wished a x := by
  intro x
  constructor
  · intro m
    exact ⟨h.lt x m, h.fair x m⟩
  · rintro ⟨_, a, ha, r⟩
    have all : ∀ y, (y ∈ S ∨ (y ∈ F ∧ y ∉ C.wished)) → ∀ b, (y, b) ∈ C.roads → b ∈ F := by
      intro y hy
      rcases d.ok y hy with z | z | z
      · exact absurd z List.not_mem_nil
      · exact z.elim
      · exact z
    exact r.within (S := (· ∈ F)) (fun y hy => all a (.inl ha) y hy) fun y z hy hw hz => all y (.inr ⟨hy, hw⟩) z hz
section
variable {P : Program} {w : World} {K : PySem.W.Frag} {mg : Str → Option Value} {base : Heap} {t1 t2 : Tok}
/-! ### reached -/
def hungry (n : Nat) (d wt : Addr) (H : Hp) : Nat := match H d, H wt with
  | some (.dK kvs), some (.lst ws) => 2 * (n - kvs.length) + ws.length
  | _, _ => 0
theorem hungry_is {n : Nat} {d wt : Addr} {H : Hp} {kvs : List (Key × V)} {ws : List V} (h1 : H d = some (.dK kvs)) (h2 : H wt = some (.lst ws)) : hungry n d wt H = 2 * (n - kvs.length) + ws.length := by
  unfold hungry
  rw [h1, h2]
def sp_reached (K : PySem.W.Frag) : Sp := fun vs H Q _ => ∃ (c st : Addr) (C : Chart) (S : List Nat), vs = [.ref c, .ref st] ∧ IsChart K H c C ∧ C.Ok ∧ SqT K H st (S.map vN) ∧ (∀ a ∈ S, a < C.n) ∧ S.length ≤ 60 ∧
  ∀ q H', Same H H' → H q = none → H' q = some (.lst ((met C.n C.roads C.wished S).map vN)) → Q (.ref q) H'
end
end Ft

set_option Elab.async false
set_option linter.all false
set_option maxRecDepth 100000
set_option maxHeartbeats 4000000
namespace Ft
open PySem PySem.Spec PyProof.Rows L2
/-- the unwished places that some place of S comes to -/
noncomputable def metU (C : Chart) (S : List Nat) : List Nat := those C.n fun b => b ∉ C.wished ∧ ∃ a ∈ S, Reach C.roads C.wished a b
/-- the piece of a place -/
noncomputable def pieceOf (C : Chart) (a : Nat) : List Nat := if a ∈ C.wished then [a] else those C.n fun b => b ∉ C.wished ∧ (b = a ∨ (Reach C.roads C.wished a b ∧ Reach C.roads C.wished b a))
theorem unw_mem {C : Chart} {a : Nat} : a ∈ unw C ↔ a < C.n ∧ a ∉ C.wished := by
  unfold unw
  simp [List.mem_filter]
theorem unw_up (C : Chart) : (unw C).Pairwise (· < ·) := (range_up C.n).filter _
theorem unw_len (C : Chart) : (unw C).length ≤ C.n := by
  have := List.length_filter_le (fun a => !decide (a ∈ C.wished)) (List.range C.n)
  rwa [List.length_range] at this
theorem those_len (n : Nat) (P : Nat → Prop) : (those n P).length ≤ n := up_len (those_up n P) fun a h => (those_mem.mp h).1
/-- a dict of places, each with an object -/
def dictOf : List Nat → List Addr → List (Key × V)
  | a :: l, d :: ds => (Sum.inl (a : Int), .ref d) :: dictOf l ds
  | _, _ => []
theorem dictOf_more : ∀ (l : List Nat) (ds : List Addr) (a : Nat) (d : Addr), l.length = ds.length → dictOf (l ++ [a]) (ds ++ [d]) = dictOf l ds ++ [(Sum.inl (a : Int), .ref d)]
  | [], [], _, _, _ => rfl
  | x :: l, y :: ds, a, d, h => by
    have := dictOf_more l ds a d (Nat.succ.inj h)
    show _ :: dictOf (l ++ [a]) (ds ++ [d]) = _ :: (dictOf l ds ++ _)
    rw [this]
  | [], _ :: _, _, _, h => nomatch h
  | _ :: _, [], _, _, h => nomatch h
theorem dictOf_len : ∀ (l : List Nat) (ds : List Addr), l.length = ds.length → (dictOf l ds).length = l.length
  | [], [], _ => rfl
  | x :: l, y :: ds, h => congrArg (· + 1) (dictOf_len l ds (Nat.succ.inj h))
  | [], _ :: _, h => nomatch h
  | _ :: _, [], h => nomatch h
theorem dictOf_none : ∀ (l : List Nat) (ds : List Addr) (x : Nat), x ∉ l → valV (dictOf l ds) (Sum.inl (x : Int) : Key) = none
  | [], _, _, _ => by simp [dictOf, valV]
  | _ :: _, [], _, _ => by simp [dictOf, valV]
  | a :: l, d :: ds, x, h => by
    have ih := dictOf_none l ds x fun m => h (List.mem_cons_of_mem _ m)
    unfold valV at ih ⊢
    show ((((Sum.inl (a : Int) : Key), V.ref d) :: dictOf l ds).find? fun kv => decide (kv.1 = Sum.inl (x : Int))).map (·.2) = none
    rw [List.find?_cons]
    have e : decide (((Sum.inl (a : Int) : Key)) = Sum.inl (x : Int)) = false := by
      refine decide_eq_false fun q => h ?_
      have := Sum.inl.inj q
      have : a = x := by omega
      rw [this]
      exact List.mem_cons_self
    simp only [e]
    exact ih
theorem dictOf_val : ∀ (l : List Nat) (ds : List Addr) (i x : Nat) (d : Addr), l.Nodup → l[i]? = some x → ds[i]? = some d → valV (dictOf l ds) (Sum.inl (x : Int) : Key) = some (.ref d)
  | [], _, _, _, _, _, h, _ => by simp at h
  | _ :: _, [], _, _, _, _, _, h => by simp at h
  | a :: l, e :: ds, 0, x, d, _, h1, h2 => by
    simp at h1 h2
    subst h1 h2
    unfold valV
    show ((((Sum.inl (a : Int) : Key), V.ref e) :: dictOf l ds).find? fun kv => decide (kv.1 = Sum.inl (a : Int))).map (·.2) = some (.ref e)
    rw [List.find?_cons]
    simp
  | a :: l, e :: ds, i + 1, x, d, nd, h1, h2 => by
    obtain ⟨n1, n2⟩ := List.nodup_cons.mp nd
    have ih := dictOf_val l ds i x d n2 (by simpa using h1) (by simpa using h2)
    have hx : x ∈ l := List.mem_of_getElem? (by simpa using h1 : l[i]? = some x)
    unfold valV at ih ⊢
    show ((((Sum.inl (a : Int) : Key), V.ref e) :: dictOf l ds).find? fun kv => decide (kv.1 = Sum.inl (x : Int))).map (·.2) = some (.ref d)
    rw [List.find?_cons]
    have e2 : decide (((Sum.inl (a : Int) : Key)) = Sum.inl (x : Int)) = false := by
      refine decide_eq_false fun q => n1 ?_
      have := Sum.inl.inj q
      have : a = x := by omega
      rw [this]
      exact hx
    simp only [e2]
    exact ih
section
variable {P : Program} {w : World} {K : PySem.W.Frag} {mg : Str → Option Value} {base : Heap} {t1 t2 : Tok}
/-! ### reached_unwished -/
def sp_reached_unwished (K : PySem.W.Frag) : Sp := fun vs H Q _ => ∃ (c st : Addr) (C : Chart) (S : List Nat), vs = [.ref c, .ref st] ∧ IsChart K H c C ∧ C.Ok ∧ SqT K H st (S.map vN) ∧ (∀ a ∈ S, a < C.n) ∧ S.length ≤ 60 ∧
  ∀ q H', Same H H' → H q = none → H' q = some (.lst ((metU C S).map vN)) → Q (.ref q) H'
end
end Ft

set_option Elab.async false
set_option linter.all false
set_option maxRecDepth 100000
set_option maxHeartbeats 4000000
namespace Ft
open PySem PySem.Spec PyProof.Rows L2
/-! ### set(xs), xs many ints among few -/
theorem nodup_sub_len {α : Type} [DecidableEq α] : ∀ (l D : List α), l.Nodup → (∀ x ∈ l, x ∈ D) → l.length ≤ D.length
  | [], _, _, _ => Nat.zero_le _
  | x :: l, D, nd, h => by
    obtain ⟨n1, n2⟩ := List.nodup_cons.mp nd
    have hx := h x List.mem_cons_self
    have ih := nodup_sub_len l (D.erase x) n2 fun y hy => (List.mem_erase_of_ne (fun e : y = x => n1 (e ▸ hy))).mpr (h y (List.mem_cons_of_mem _ hy))
    rw [List.length_erase_of_mem hx] at ih
    have := List.length_pos_of_mem hx
    rw [List.length_cons]
    omega
theorem setR_count {w : World} {h : Heap} {a : Addr} {S : Int → Bool} {n : Nat} (R : SetR w h a S n) {D : List Int} (hD : ∀ k, S k = true → k ∈ D) : n ≤ D.length := by
  obtain ⟨o, es, ep, t, _, _, _, _, nd, mem, _, _, e, _⟩ := R
  have := nodup_sub_len _ D nd fun k hk => hD k ((mem k).mpr hk)
  rw [List.length_map, Array.length_toList] at this
  omega
def rSetN (K : PySem.W.Frag) (w : World) : List V → Hp → VK → Prop := fun xs H Q => ∃ (l : Addr) (ns : List Int), xs = [V.ref l] ∧ (SqL K H l (ns.map V.int) ∨ SqT K H l (ns.map V.int)) ∧ ns.length ≤ 1000 ∧
  ∀ (p : Addr) (n : Nat), H p = none → (∀ D : List Int, (∀ k ∈ ns, k ∈ D) → n ≤ D.length) → Q (.ref p) (upd H p (SetO w p (fun j => decide (j ∈ ns)) n))
theorem cr_setN {X : Cx} (hc : X.calm = true) : CallR X (.type "set") (rSetN X.K X.w) := by
  intro pins s σ H xs us Q I r h
  obtain ⟨l, ns, rfl, hl, few, q⟩ := h
  have few1 : ns.length + 1 < scanBound := Nat.lt_of_le_of_lt (Nat.succ_le_succ few) (by decide)
  have free : H s.heap.objs.size = none := I.hok.fresh (Nat.le_refl _)
  rw [Vals.ref1 r]
  rcases hl with hl | hl
  · obtain ⟨its, rv, pl, hz⟩ := I.list hl
    refine set_of_list ns (I.ok.hd hc) pl.isList (by simpa using rv.ints) few1 fun h' tk c hS hc2 hk => ?_
    exact ⟨.ref _, upd H s.heap.objs.size (SetO X.w s.heap.objs.size (fun j => decide (j ∈ ns)) c), I.laid (t' := tk) hk (Nat.le_refl _) (setO_new hS), rfl, q _ _ free fun D hD => setR_count hS fun k hk => hD k (of_decide_eq_true hk)⟩
  · obtain ⟨its, rv, pt, hz⟩ := I.tuple hl
    have pt2 : s.heap.IsTuple l its.toArray := pt
    refine call_set_tupI ns (I.ok.hd hc) pt2 (by simpa using ints_of_vals rv) few1 fun h' tk c hS hc2 hk => ?_
    exact ⟨.ref _, upd H s.heap.objs.size (SetO X.w s.heap.objs.size (fun j => decide (j ∈ ns)) c), I.laid (t' := tk) hk (Nat.le_refl _) (setO_new hS), rfl, q _ _ free fun D hD => setR_count hS fun k hk => hD k (of_decide_eq_true hk)⟩
end Ft

set_option Elab.async false
set_option linter.all false
set_option maxRecDepth 100000
set_option maxHeartbeats 8000000
namespace Ft
open PySem PySem.Spec PyProof.Rows L2
section
variable {P : Program} {w : World} {K : PySem.W.Frag} {mg : Str → Option Value} {base : Heap} {t1 t2 : Tok}
/-! ### piece_table -/
/-- the pieces at the addresses rows -/
def PiecesAt (K : PySem.W.Frag) (H : Hp) (C : Chart) (rows : List Addr) : Prop := rows.length = C.n ∧ ∀ x t, rows[x]? = some t → SqT K H t ((pieceOf C x).map vN)
theorem piece_filter {C : Chart} {a : Nat} (ha : a < C.n) (hw : a ∉ C.wished) : (unw C).filter (fun b => decide (a = b) || (decide (b ∈ metU C [a]) && decide (a ∈ metU C [b]))) = pieceOf C a := by
  unfold pieceOf
  rw [if_neg hw]
  refine those_is ((unw_up C).filter _) fun x => ?_
  rw [List.mem_filter, unw_mem]
  unfold metU
  simp only [Bool.or_eq_true, Bool.and_eq_true, decide_eq_true_eq, those_mem, List.mem_singleton, exists_eq_left]
  constructor
  · rintro ⟨⟨h1, h2⟩, h3⟩
    refine ⟨h1, h2, ?_⟩
    rcases h3 with e | ⟨⟨_, _, r1⟩, ⟨_, _, r2⟩⟩
    · exact .inl e.symm
    · exact .inr ⟨r1, r2⟩
  · rintro ⟨h1, h2, h3⟩
    refine ⟨⟨h1, h2⟩, ?_⟩
    rcases h3 with e | ⟨r1, r2⟩
    · exact .inl e.symm
    · exact .inr ⟨⟨h1, h2, r1⟩, ⟨ha, hw, r2⟩⟩
def sp_piece_table (K : PySem.W.Frag) : Sp := fun vs H Q _ => ∃ (c : Addr) (C : Chart), vs = [.ref c] ∧ IsChart K H c C ∧ C.Ok ∧ ∀ q rows H', Same H H' → H q = none → H' q = some (.lst (rows.map V.ref)) → PiecesAt K H' C rows → Q (.ref q) H'
end
end Ft

set_option Elab.async false
set_option linter.all false
set_option maxRecDepth 100000
set_option maxHeartbeats 8000000
namespace Ft
open PySem PySem.Spec PyProof.Rows L2
theorem piece_self {C : Chart} {a : Nat} (h : a < C.n) : a ∈ pieceOf C a := by
  unfold pieceOf
  by_cases hw : a ∈ C.wished
  · rw [if_pos hw]
    exact List.mem_singleton.mpr rfl
  · rw [if_neg hw]
    exact those_mem.mpr ⟨h, hw, .inl rfl⟩
theorem piece_up (C : Chart) (a : Nat) : (pieceOf C a).Pairwise (· < ·) := by
  unfold pieceOf
  by_cases hw : a ∈ C.wished
  · rw [if_pos hw]
    exact List.pairwise_singleton _ _
  · rw [if_neg hw]
    exact those_up _ _
theorem piece_lt {C : Chart} {a b : Nat} (ha : a < C.n) (h : b ∈ pieceOf C a) : b < C.n := by
  unfold pieceOf at h
  by_cases hw : a ∈ C.wished
  · rw [if_pos hw] at h
    rw [List.mem_singleton.mp h]
    exact ha
  · rw [if_neg hw] at h
    exact (those_mem.mp h).1
/-- rows of places at the addresses ts -/
def RowsAt (K : PySem.W.Frag) (H : Hp) (ts : List Addr) (lls : List (List Nat)) : Prop := Paired (fun (t : Addr) (l : List Nat) => SqT K H t (l.map vN)) ts lls
theorem RowsAt.keep {K : PySem.W.Frag} {ex : List Addr} {H H' : Hp} (k : Kp ex H H') (l : Lists ex H) {ts : List Addr} {lls : List (List Nat)} (h : RowsAt K H ts lls) : RowsAt K H' ts lls := paired_imp (fun _ _ q => k.sqT l q) h
theorem RowsAt.same {K : PySem.W.Frag} {H H' : Hp} (k : Same H H') {ts : List Addr} {lls : List (List Nat)} (h : RowsAt K H ts lls) : RowsAt K H' ts lls := paired_imp (fun _ _ q => Same.sqT k q) h
theorem paired_app {α β : Type} {R : α → β → Prop} : ∀ {as as' : List α} {bs bs' : List β}, Paired R as bs → Paired R as' bs' → Paired R (as ++ as') (bs ++ bs')
  | _, _, _, _, .nil, h => h
  | _, _, _, _, .cons r t, h => .cons r (paired_app t h)
/-- whether a place is the least one of its piece -/
noncomputable def isLeast (C : Chart) (a : Nat) : Bool := decide ((pieceOf C a).head? = some a)
noncomputable def piecesL (C : Chart) : List (List Nat) := ((unw C).filter (isLeast C)).map (pieceOf C)
section
variable {P : Program} {w : World} {K : PySem.W.Frag} {mg : Str → Option Value} {base : Heap} {t1 t2 : Tok}
end
end Ft

set_option Elab.async false
set_option linter.all false
set_option maxRecDepth 100000
set_option maxHeartbeats 8000000
namespace Ft
open PySem PySem.Spec PyProof.Rows L2
/-- the draws' pool stands at p, its further cells at l -/
def PoolAt (H : Hp) (p l : Addr) : Prop := ∃ (a b : Int) (cs : List Int), H p = some (.lst [.int a, .int b, .ref l]) ∧ H l = some (.lst (cs.map V.int)) ∧ 0 ≤ a ∧ 0 ≤ b
theorem PoolAt.ne {H : Hp} {p l : Addr} (h : PoolAt H p l) : p ≠ l := by
  obtain ⟨a, b, cs, h1, h2, _⟩ := h
  intro e
  subst e
  have z := Option.some.inj (h1.symm.trans h2)
  have z2 : ([V.int a, V.int b, V.ref p] : List V) = cs.map V.int := by injection z
  have z3 : V.ref p ∈ cs.map V.int := by rw [← z2]; simp
  obtain ⟨c, _, e⟩ := List.mem_map.mp z3
  exact nomatch e
theorem PoolAt.lists {H : Hp} {p l : Addr} (h : PoolAt H p l) : Lists [p, l] H := by
  obtain ⟨a, b, cs, h1, h2, _⟩ := h
  intro x hx
  rcases List.mem_cons.mp hx with e | hx
  · rw [e]
    exact ⟨_, h1, (fun _ z => nomatch z), (fun _ _ z => nomatch z)⟩
  · rw [List.mem_singleton.mp hx]
    exact ⟨_, h2, (fun _ z => nomatch z), (fun _ _ z => nomatch z)⟩
theorem PoolAt.same {H H' : Hp} {p l : Addr} (k : Same H H') (h : PoolAt H p l) : PoolAt H' p l := by
  obtain ⟨a, b, cs, h1, h2, h3⟩ := h
  exact ⟨a, b, cs, k _ _ h1, k _ _ h2, h3⟩
theorem PoolAt.free {H : Hp} {p l : Addr} (h : PoolAt H p l) {q : Addr} (n : H q = none) : q ∉ [p, l] := by
  obtain ⟨a, b, cs, h1, h2, _⟩ := h
  intro m
  rcases List.mem_cons.mp m with e | m
  · rw [e, h1] at n
    cases n
  · rw [List.mem_singleton.mp m, h2] at n
    cases n
theorem ints_shaped (cs : List Int) : SeqAt.shaped (.list (cs.map .int)) = true := by
  unfold SeqAt.shaped
  have h1 : ∀ cs : List Int, PyData.canLayAll0 (cs.map .int) = true := by
    intro cs
    induction cs with
    | nil => simp [PyData.canLayAll0]
    | cons c cs ih => simp [PyData.canLayAll0, PyData.canLay0, ih]
  have h2 : PyData.depth (.list (cs.map .int)) = 1 := by
    simp only [PyData.depth, PySem.W.depth_ints]
  rw [h2]
  simp [PyData.canLay0, h1]
section
variable {P : Program} {w : World} {K : PySem.W.Frag} {mg : Str → Option Value} {base : Heap} {t1 t2 : Tok}
/-! ### _law_pool -/
def sp_law_pool (K : PySem.W.Frag) : Sp := fun vs H Q _ => ∃ (a : Addr) (ns : List Int), vs = [.ref a] ∧ SqL K H a (ns.map V.int) ∧ ∀ p l H', Same H H' → H p = none → H l = none → PoolAt H' p l → Q (.ref p) H'
theorem cal_law_pool (T : Txt mg) (D : Def K mg "_law_pool" s_law_pool) : Cal P w K mg base 2 "_law_pool" (sp_law_pool K) := by
  refine cal_of D sc_law_pool (fun _ _ _ _ _ _ us hl => match us, hl with | [_], _ => rfl) (fun vs H Q E h => ?_) (fun f cdv A outer s H vs Q E hr h => ?_)
  · obtain ⟨a, ns, rfl, _⟩ := h
    rfl
  · obtain ⟨a, ns, rfl, hS, q⟩ := h
    refine ⟨_, (pss_cons (ps_set (i := 1) sc_law_pool.nd rfl (Or.inl rfl) (pe_mid (pe_ifExp (pt_cmpR op_gt (pe_callB (show CallR _ _ (rLenS K) from call_lenS) (by rfl) T.len (by decide +kernel) (pa_cons (pv 0) pa_nil)) pe_int (nomark _)) (pe_callTy call_int1 (by rfl) T.int (by decide +kernel) (pa_cons (pe_ix (show IxR _ (rIxL K) from ix_list) (pv 0) pe_int (fun _ _ => rfl)) pa_nil)) pe_int)))
      (pss_cons (ps_set (i := 2) sc_law_pool.nd rfl (Or.inl rfl) (pe_mid (pe_ifExp (pt_cmpR op_ge (pv 1) pe_int (nomark _)) (pe_op op_mul pe_int (pv 1)) (pe_op op_sub (pe_un un_neg pe_int) (pe_op op_mul pe_int (pv 1))))))
      (pss_one (ps_ret (pe_lst (pa_cons (pe_mid (pe_ifExp (pt_cmpR op_ge (pv 2) (pe_op op_pow pe_int pe_int) (nomark _)) (pv 2) pe_int)) (pa_cons (pe_op op_add (pe_op op_mod (pe_callTy call_int1 (by rfl) T.int (by decide +kernel) (pa_cons (pe_op op_add (pe_op op_mul (pv 2) pe_int) pe_int) pa_nil)) pe_int) pe_int) (pa_cons (pe_callTy (show CallR _ _ (rListOf K) from call_listOf) (by rfl) T.list (by decide +kernel) (pa_cons (pe_slice (show SlR _ (rSlL K) from sl_list) (pv 0) (po_some pe_int) po_none) pa_nil)) pa_nil)))))))), ?_⟩
    refine ⟨fun v H' => ∃ x : Int, v = .int x ∧ H' = H, ⟨_, rfl, a, _, rfl, .inl hS, _, _, rfl, rfl, _, rfl, ite_any (fun h => ?_) (fun h => ⟨0, rfl, rfl⟩)⟩, ?_⟩
    · have h0 := of_decide_eq_true h
      cases ns with
      | nil => exact absurd h0 (by simp)
      | cons n0 ns => exact ⟨_, rfl, a, _, _, _, rfl, rfl, hS, atI_nat (j := 0) (v := V.int n0) rfl, .inl ⟨_, rfl, _, rfl, rfl⟩⟩
    rintro v H1 ⟨x, rfl, rfl⟩
    refine ⟨fun v H' => ∃ x : Int, v = .int x ∧ H' = H1 ∧ 0 ≤ x, ⟨_, rfl, _, _, rfl, rfl, _, rfl, ite_any (fun h => ?_) (fun h => ?_)⟩, ?_⟩
    · have h0 := of_decide_eq_true h
      exact ⟨_, rfl, _, _, rfl, rfl, .inl ⟨by decide, by decide⟩, _, rfl, rfl, by omega⟩
    · have h0 := of_decide_eq_false h
      exact ⟨_, rfl, _, rfl, _, _, rfl, rfl, .inl ⟨by decide, by decide⟩, _, _, rfl, rfl, _, rfl, rfl, by omega⟩
    rintro v H2 ⟨y, rfl, rfl, hy⟩
    refine ⟨fun v H' => ∃ x : Int, v = .int x ∧ H' = H2 ∧ 0 ≤ x, ⟨_, rfl, _, _, rfl, rfl, ⟨by decide, by decide, by decide⟩, _, _, rfl, rfl, _, rfl, ite_any (fun h => ⟨_, rfl, y, rfl, rfl, hy⟩) (fun h => ⟨0, rfl, rfl, by decide⟩)⟩, ?_⟩
    rintro v H3 ⟨z, rfl, rfl, hz⟩
    refine ⟨_, rfl, _, _, rfl, rfl, .inr ⟨by decide, by decide⟩, _, _, rfl, rfl, .inl ⟨_, rfl, _, _, rfl, rfl, (by show (0 : Int) < 2147483629; decide), _, _, rfl, rfl, ?_⟩⟩
    refine ⟨_, rfl, _, rfl, a, _, rfl, hS, fun e he => ?_⟩
    refine ⟨e, _, rfl, .inl (.inl (.inl upd_same)), fun l hl => ?_⟩
    refine ⟨by show 3 ≤ sizeLine; decide, fun p hp => ?_⟩
    have nel : e ≠ l := ne_of_none upd_same hl
    have npl : l ≠ p := ne_of_none upd_same hp
    have hl0 : H3 l = none := by rw [upd_ne nel.symm] at hl; exact hl
    have s1 : Same H3 (upd (upd H3 e (.lst (cutV (ns.map V.int) (some 1) none))) l (.lst (cutV (ns.map V.int) (some 1) none))) := (same_upd he).trans (same_upd hl)
    refine q p l _ (s1.trans (same_upd hp)) (s1.free hp) hl0 ?_
    refine ⟨z, _, (cutV (ns.map V.int) (some 1) none).map (fun v => match v with | .int i => i | _ => 0), upd_same, ?_, hz, ?_⟩
    · rw [upd_ne npl, upd_same]
      congr 2
      rw [List.map_map]
      conv => lhs; rw [← List.map_id (cutV (ns.map V.int) (some 1) none)]
      refine List.map_congr_left fun v hv => ?_
      have : v ∈ ns.map V.int := by
        unfold cutV at hv
        exact List.mem_of_mem_drop (List.mem_of_mem_take hv)
      obtain ⟨i, _, rfl⟩ := List.mem_map.mp this
      rfl
    · have := Int.emod_nonneg (y * 48271 + 1009) (show (2147483629 : Int) ≠ 0 by decide)
      omega
/-! ### _law_draw -/
def sp_law_draw : Sp := fun vs H Q _ => ∃ (p l : Addr) (m : Nat), vs = [.ref p, vN m] ∧ PoolAt H p l ∧ 0 < m ∧ m < 1073741824 ∧ ∀ (r : Nat) H', r < m → PoolAt H' p l → Kp [p, l] H H' → Q (vN r) H'
theorem cal_law_draw (T : Txt mg) (D : Def K mg "_law_draw" s_law_draw) : Cal P w K mg base 2 "_law_draw" sp_law_draw := by
  refine cal_of D sc_law_draw (fun _ _ _ _ _ _ us hl => match us, hl with | [_, _], _ => rfl) (fun vs H Q E h => ?_) (fun f cdv A outer s H vs Q E hr h => ?_)
  · obtain ⟨p, l, m, rfl, _⟩ := h
    rfl
  · obtain ⟨p, l, m, rfl, hP, m0, m1, q⟩ := h
    have hU := hr.units
    have npl := hP.ne
    refine ⟨_, (ps_cut (ps_if (PW.pt (pw_and (pt_cmpR op_eq (pe_ix (show IxR _ (rIxL K) from ix_list) (pv 0) pe_int (fun _ _ => rfl)) pe_int (nomark _)) (pw_and1 (pt_cmpR (show OpR _ _ (rNeD K) from op_neD hU) (pe_ix (show IxR _ (rIxL K) from ix_list) (pv 0) pe_int (fun _ _ => rfl)) (pe_lst pa_nil) (nomark _))))) (pss_cons (ps_set (i := 2) sc_law_draw.nd rfl (Or.inl rfl) (pe_callTy call_int1 (by rfl) T.int (by decide +kernel) (pa_cons (pe_bm PySem.F.plainAttrs_list PySem.F.slot_list_pop PySem.F.type_list_pop mt_popAt (pe_ix (show IxR _ (rIxL K) from ix_list) (pv 0) pe_int (fun _ _ => rfl)) (pa_cons pe_int pa_nil)) pa_nil)))
        (pss_cons (ps_set (i := 3) sc_law_draw.nd rfl (Or.inl rfl) (pe_mid (pe_ifExp (pt_cmpR op_ge (pv 2) pe_int (nomark _)) (pe_op op_mul pe_int (pv 2)) (pe_op op_sub (pe_un un_neg pe_int) (pe_op op_mul pe_int (pv 2))))))
        (pss_cons (ps_asg (pe_mid (pe_ifExp (pt_cmpR op_ge (pv 3) (pe_op op_pow pe_int pe_int) (nomark _)) (pv 3) pe_int)) (pg_sub (pv 0) pe_int set_list))
        (pss_one (ps_asg (pe_op op_add (pe_op op_mod (pe_callTy call_int1 (by rfl) T.int (by decide +kernel) (pa_cons (pe_op op_add (pe_ix (show IxR _ (rIxL K) from ix_list) (pv 0) pe_int (fun _ _ => rfl)) (pe_op op_mul (pv 3) pe_int)) pa_nil)) pe_int) pe_int) (pg_sub (pv 0) pe_int set_list)))))) pss_nil)
      (pss_cons (ps_if (pt_cmpR op_gt (pe_ix (show IxR _ (rIxL K) from ix_list) (pv 0) pe_int (fun _ _ => rfl)) pe_int (nomark _)) (pss_cons (ps_set (i := 4) sc_law_draw.nd rfl (Or.inl rfl) (pe_op op_mod (pe_callTy call_int1 (by rfl) T.int (by decide +kernel) (pa_cons (pe_ix (show IxR _ (rIxL K) from ix_list) (pv 0) pe_int (fun _ _ => rfl)) pa_nil)) (pv 1)))
        (pss_cons (ps_asg (pe_op op_fdiv (pe_ix (show IxR _ (rIxL K) from ix_list) (pv 0) pe_int (fun _ _ => rfl)) (pv 1)) (pg_sub (pv 0) pe_int set_list))
        (pss_one (ps_ret (pv 4))))) pss_nil)
      (pss_cons (ps_asg (pe_op op_mod (pe_callTy call_int1 (by rfl) T.int (by decide +kernel) (pa_cons (pe_op op_add (pe_op op_mul (pe_ix (show IxR _ (rIxL K) from ix_list) (pv 0) pe_int (fun _ _ => rfl)) pe_int) pe_int) pa_nil)) pe_int) (pg_sub (pv 0) pe_int set_list))
      (pss_one (ps_ret (pe_op op_mod (pe_op op_fdiv (pe_op op_mod (pe_callTy call_int1 (by rfl) T.int (by decide +kernel) (pa_cons (pe_op op_mul (pe_ix (show IxR _ (rIxL K) from ix_list) (pv 0) pe_int (fun _ _ => rfl)) (pe_ix (show IxR _ (rIxL K) from ix_list) (pv 0) pe_int (fun _ _ => rfl))) pa_nil)) pe_int) pe_int) (pv 1))))))), ?_⟩
    refine ⟨fun σ' H' => ∃ v2 v3 : Option V, σ' = [some (.ref p), some (vN m), v2, v3, none] ∧ PoolAt H' p l ∧ Kp [p, l] H H', ?_, ?_⟩
    · obtain ⟨a, b, cs, h1, h2, ha, hb⟩ := id hP
      refine ⟨_, rfl, p, _, _, _, rfl, rfl, .inl (.inl h1), rfl, rfl, _, rfl, ite_any (fun _ => ?_) (fun _ => ?_)⟩
      · refine ⟨_, rfl, p, _, _, _, rfl, rfl, .inl (.inl h1), rfl, Nat.zero_le _, fun e he => ?_⟩
        have s1 : Same H (upd H e (.lst [])) := same_upd he
        have nep : p ≠ e := ne_of_none h1 he
        have nel : l ≠ e := ne_of_none h2 he
        have h1' := s1 _ _ h1
        have h2' := s1 _ _ h2
        refine ⟨.list (cs.map .int), .list [], .lst (.inl (.inl h2')) (dpAll_ints cs), .lst (.inl (.inl upd_same)) .nil, ints_shaped cs, rfl, _, rfl, ite_any (fun hc => ?_) (fun _ => ?_)⟩
        · cases cs with
          | nil => exact absurd hc (by decide)
          | cons c cs =>
            have n1 : (-(2 ^ 63) : Int) ≤ 0 := by decide
            have n2 : (0 : Int) < 2 ^ 63 := by decide
            refine ⟨_, rfl, p, _, _, _, rfl, rfl, .inl (.inl h1'), rfl, .inl ⟨rfl, _, .inl (.inl h2')⟩, l, _, 0, 0, .int c, rfl, rfl, h2', n1, n2, ?_, rfl, .inl ⟨_, rfl, ?_⟩⟩
            · simp [seqIndex?]
            have h1b : (upd (upd H e (.lst [])) l (.lst ((List.map V.int (c :: cs)).eraseIdx 0))) p = some (.lst [.int a, .int b, .ref l]) := by rw [upd_ne npl]; exact h1'
            obtain ⟨Hc, eHc⟩ : ∃ Hc, Hc = upd (upd H e (.lst [])) l (.lst ((List.map V.int (c :: cs)).eraseIdx 0)) := ⟨_, rfl⟩
            rw [← eHc] at h1b ⊢
            refine ⟨fun v H' => ∃ x : Int, v = .int x ∧ H' = Hc ∧ 0 ≤ x, ⟨_, rfl, _, _, rfl, rfl, _, rfl, ite_any (fun h => ?_) (fun h => ?_)⟩, ?_⟩
            · have h0 := of_decide_eq_true h
              exact ⟨_, rfl, _, _, rfl, rfl, .inl ⟨by decide, by decide⟩, _, rfl, rfl, by omega⟩
            · have h0 := of_decide_eq_false h
              exact ⟨_, rfl, _, rfl, _, _, rfl, rfl, .inl ⟨by decide, by decide⟩, _, _, rfl, rfl, _, rfl, rfl, by omega⟩
            rintro v H2 ⟨y, rfl, rfl, hy⟩
            refine ⟨fun v H' => ∃ x : Int, v = .int x ∧ H' = H2 ∧ 0 ≤ x, ⟨_, rfl, _, _, rfl, rfl, ⟨by decide, by decide, by decide⟩, _, _, rfl, rfl, _, rfl, ite_any (fun h => ⟨_, rfl, y, rfl, rfl, hy⟩) (fun h => ⟨0, rfl, rfl, by decide⟩)⟩, ?_⟩
            rintro v H3 ⟨z, rfl, rfl, hz⟩
            subst eHc
            refine ⟨_, rfl, p, _, _, 0, rfl, rfl, h1b, rfl, ?_⟩
            refine ⟨_, rfl, p, _, _, _, rfl, rfl, .inl (.inl upd_same), rfl, _, rfl, _, _, rfl, rfl, .inr ⟨by decide, by decide⟩, _, _, rfl, rfl, .inl ⟨_, rfl, _, _, rfl, rfl, (by show (0 : Int) < 2147483629; decide), _, _, rfl, rfl, ?_⟩⟩
            refine ⟨_, rfl, p, _, _, 1, rfl, rfl, upd_same, rfl, ?_⟩
            refine ⟨_, _, rfl, ⟨z, _, cs, upd_same, ?_, hz, ?_⟩, ?_⟩
            · rw [upd_ne npl.symm, upd_ne npl.symm, upd_same]
              rfl
            · have := Int.emod_nonneg (b + y * 69621) (show (2147483629 : Int) ≠ 0 by decide)
              omega
            · intro b' o n e'
              have n1 : b' ≠ p := fun z => n (by rw [z]; simp)
              have n2 : b' ≠ l := fun z => n (by rw [z]; simp)
              rw [upd_ne n1, upd_ne n1, upd_ne n2]
              exact s1 _ _ e'
        · exact ⟨_, _, rfl, hP.same s1, Same.kp s1⟩
      · exact ⟨_, _, rfl, hP, Kp.refl _ _⟩
    · rintro σ' H1 ⟨v2, v3, rfl, ⟨a, b, cs, h1, h2, ha, hb⟩, k1⟩
      refine ⟨_, rfl, p, _, _, _, rfl, rfl, .inl (.inl h1), rfl, _, _, rfl, rfl, _, rfl, ite_any (fun hc => ?_) (fun hc => ?_)⟩
      · refine ⟨_, rfl, p, _, _, _, rfl, rfl, .inl (.inl h1), rfl, .inl ⟨_, rfl, _, rfl, _, _, rfl, rfl, (by show (0 : Int) < (m : Int); omega), ?_⟩⟩
        refine ⟨_, rfl, p, _, _, _, rfl, rfl, .inl (.inl h1), rfl, _, rfl, _, _, rfl, rfl, ⟨by show (0 : Int) < (m : Int); omega, by show (m : Int) < 1073741824; omega⟩, ?_⟩
        refine ⟨_, rfl, p, _, _, 0, rfl, rfl, h1, rfl, ?_⟩
        have h3 := Int.emod_nonneg a (show (m : Int) ≠ 0 by omega)
        have h4 := Int.emod_lt_of_pos a (show (0 : Int) < m by omega)
        refine ⟨_, rfl, ?_⟩
        have e0 : V.int (a % (m : Int)) = vN (a % (m : Int)).toNat := by
          unfold vN
          rw [Int.toNat_of_nonneg h3]
        show Q (V.int (a % (m : Int))) _
        rw [e0]
        refine q _ _ (by omega) ⟨a / m, b, cs, upd_same, by rw [upd_ne npl.symm]; exact h2, Int.ediv_nonneg ha (by omega), hb⟩ ?_
        intro b' o n e'
        rw [upd_ne (fun z => n (by rw [z]; simp))]
        exact k1 _ _ n e'
      · refine ⟨_, rfl, p, _, _, _, rfl, rfl, .inl (.inl h1), rfl, _, _, rfl, rfl, .inr ⟨by decide, by decide⟩, _, _, rfl, rfl, .inl ⟨_, rfl, _, _, rfl, rfl, (by show (0 : Int) < 2147483647; decide), ?_⟩⟩
        refine ⟨_, rfl, p, _, _, 1, rfl, rfl, h1, rfl, ?_⟩
        have h3 := Int.emod_nonneg (b * 48271 + 11) (show (2147483647 : Int) ≠ 0 by decide)
        have h4 := Int.emod_lt_of_pos (b * 48271 + 11) (show (0 : Int) < 2147483647 by decide)
        refine ⟨_, rfl, p, _, _, _, rfl, rfl, .inl (.inl upd_same), rfl, _, rfl, p, _, _, _, rfl, rfl, .inl (.inl upd_same), rfl, _, _, rfl, rfl, .inl ⟨by omega, by omega⟩, .inl ⟨_, rfl, _, _, rfl, rfl, (by show (0 : Int) < 2147483629; decide), ?_⟩⟩
        refine ⟨_, _, rfl, rfl, ⟨by decide, by decide⟩, _, rfl, _, _, rfl, rfl, (by show (0 : Int) < (m : Int); omega), ?_⟩
        have h5 := Int.emod_nonneg ((b * 48271 + 11) % 2147483647 * ((b * 48271 + 11) % 2147483647) % 2147483629 / 32) (show (m : Int) ≠ 0 by omega)
        have h6 := Int.emod_lt_of_pos ((b * 48271 + 11) % 2147483647 * ((b * 48271 + 11) % 2147483647) % 2147483629 / 32) (show (0 : Int) < m by omega)
        show Q (V.int (((b * 48271 + 11) % 2147483647 * ((b * 48271 + 11) % 2147483647) % 2147483629 / 32) % (m : Int))) _
        generalize ((b * 48271 + 11) % 2147483647 * ((b * 48271 + 11) % 2147483647) % 2147483629 / 32) % (m : Int) = z at h5 h6 ⊢
        have e0 : V.int z = vN z.toNat := by
          unfold vN
          rw [Int.toNat_of_nonneg h5]
        rw [e0]
        refine q _ _ (by omega) ⟨a, (b * 48271 + 11) % 2147483647, cs, upd_same, by rw [upd_ne npl.symm]; exact h2, ha, h3⟩ ?_
        intro b' o n e'
        rw [upd_ne (fun z => n (by rw [z]; simp))]
        exact k1 _ _ n e'
end
end Ft

set_option Elab.async false
set_option linter.all false
set_option maxRecDepth 100000
set_option maxHeartbeats 4000000
/-! isinstance of the error that a suite holds, whose class is known only then and which has a dict of its own. -/
namespace Ft
open PySem PySem.Spec PyProof.Rows L2
/-- what a class says so that isinstance asks its errors rightly -/
structure IsC (K : PySem.W.Frag) (C : Addr) : Prop where
  cl : (PySem.W.clsIn K C).isSome = true
  ga : PySem.W.findIn K (.ref C) "__getattribute__" = some (some (.builtin "BaseException.__getattribute__"))
  gg : PySem.W.findIn K (.ref C) "__getattr__" = some none
  ex : PySem.W.subIn K (.ref C) (.type "BaseException") = some true
  ha : PySem.W.findIn K (.ref C) "__class__" = some (some (.builtin "object.__class__"))
  hn : PySem.W.specialIn K (.builtin "object.__class__") "__get__" = some (some (.builtin "getset_descriptor.__get__"))
  ht : PySem.W.takesIn K (.builtin "object.__class__") = some true
  hm : PySem.W.mroIn K C (.type "object") = some true
def rIsX (K : PySem.W.Frag) (a : Addr) (cls : Value) (d : Option Addr) (cv : Value) : List V → Hp → VK → Prop := fun xs H Q => ∃ (c : V) (b : Bool) (C dd : Addr) (v : V), xs = [.ref a, c] ∧ (∀ u, RelV c u → u = cv) ∧ cls = .ref C ∧ IsC K C ∧ d = some dd ∧ H dd = some (.xd [("what", v)]) ∧ PySem.W.kitOne K (.ref C) cv = some b ∧ Q (.bl b) H
theorem call_isX {X : Cx} {a : Addr} {oe : Obj} {cls : Value} {d : Option Addr} {cv : Value} {pn : List (Addr × Obj)} (hz : L2N.Zn cls d oe) (hf : ∃ vs, oe.data = .fields vs) : CallR (X.suite a ((a, oe) :: pn)) (.builtin "isinstance") (rIsX X.K a cls d cv) := by
  intro pins s σ H xs us Q I r h
  obtain ⟨c, b, C, dd, v, rfl, hcv, rfl, ic, rfl, hdd, e, q⟩ := h
  cases r with
  | cons rx rr =>
    cases rr with
    | cons rt rr =>
      cases rr
      cases rx
      have ec := hcv _ rt
      subst ec
      obtain ⟨ha, _⟩ := I.pin (a, oe) (List.mem_append_left _ List.mem_cons_self)
      obtain ⟨vs, hd⟩ := hf
      have hx : ObjOk X.prog X.w H s.heap dd (.xd [("what", v)]) := I.hok dd _ hdd
      obtain ⟨mA, hns, hr⟩ := hx
      obtain ⟨od, ho, hl⟩ := lookIn_ns hns
      have J : PySem.W.InstAt s.heap a oe C (some od) := ⟨ha, hz.1, by unfold PySem.W.notCls; rw [hd] <;> rfl, by rw [hz.2.1]; exact ho⟩
      exact PySem.W.kia_one (PySem.W.kitx_exc ic.cl ic.ga ic.gg ic.ex ic.ha ic.hn ic.ht ic.hm) I.kIn J e (fun z => nomatch z) fun tk => ⟨.bl b, H, I.kept (t' := tk) fun _ _ z => z, rfl, q⟩
/-- an error of class c is one of class d, too; of the builtin one d -/
def Kit (K : PySem.W.Frag) (ca : Str → Addr) (c d : Str) : Prop := PySem.W.kitOne K (.ref (ca c)) (.ref (ca d)) = some true
def KitB (K : PySem.W.Frag) (ca : Str → Addr) (c : Str) (d : String) : Prop := PySem.W.kitOne K (.ref (ca c)) (.type d) = some true
end Ft

set_option Elab.async false
set_option linter.all false
set_option maxRecDepth 100000
set_option maxHeartbeats 4000000
namespace Ft
open PySem PySem.Spec PyProof.Rows L2
/-! x in t, t a tuple of data of any depth; t[i], t a list or a tuple; a class as a value -/
def rInTD (K : PySem.W.Frag) : R2 := fun x y H Q => ∃ d ds, Dp K H x d ∧ Dp K H y (.tuple ds) ∧ SeqAt.shaped d = true ∧ SeqAt.shaped (.tuple ds) = true ∧ Q (.bl (ds.any fun z => PyData.eqv z d)) H
def rNotInTD (K : PySem.W.Frag) : R2 := fun x y H Q => ∃ d ds, Dp K H x d ∧ Dp K H y (.tuple ds) ∧ SeqAt.shaped d = true ∧ SeqAt.shaped (.tuple ds) = true ∧ Q (.bl (!ds.any fun z => PyData.eqv z d)) H
theorem op_inTD {X : Cx} (hu : X.A.units + 65 < cLine) : OpR X (compareOp .In) (rInTD X.K) := by
  intro pins s σ H x y v u Q I rx ry h
  obtain ⟨d, ds, hd, he, sd, se, q⟩ := h
  obtain ⟨as, r1⟩ := Dp.reads I d x v hd rx
  obtain ⟨bs, r2⟩ := Dp.reads I (.tuple ds) y u he ry
  exact SeqAt.in_tuple_reads r2 r1 (SeqAt.canLay_of_shaped se) (SeqAt.canLay_of_shaped sd) (room_in_shaped sd hu) ⟨.bl _, H, I, rfl, q⟩
theorem op_notInTD {X : Cx} (hu : X.A.units + 65 < cLine) : OpR X (compareOp .NotIn) (rNotInTD X.K) := by
  intro pins s σ H x y v u Q I rx ry h
  obtain ⟨d, ds, hd, he, sd, se, q⟩ := h
  obtain ⟨as, r1⟩ := Dp.reads I d x v hd rx
  obtain ⟨bs, r2⟩ := Dp.reads I (.tuple ds) y u he ry
  exact SeqAt.notIn_tuple_reads r2 r1 (SeqAt.canLay_of_shaped se) (SeqAt.canLay_of_shaped sd) (room_in_shaped sd hu) ⟨.bl _, H, I, rfl, q⟩
def rIxA (K : PySem.W.Frag) : R2 := fun x y H Q => rIxL K x y H Q ∨ rIxT K x y H Q
theorem ix_any {X : Cx} : IxR X (rIxA X.K) := fun value slice pins s σ H x y v u Q I rx ry h hs => h.elim (fun h => ix_list value slice pins s σ H x y v u Q I rx ry h hs) (fun h => ix_tup value slice pins s σ H x y v u Q I rx ry h hs)
theorem pe_globC {X : Cx} {x : Str} {C : Addr} {pos : Pos} (hg : Gl X x) (h : X.mg x = some (.ref C)) (hd : (x == ("__debug__" : Str)) = false := by decide) : PE X (.Name x pos) (tC (.ref C)) := pe_glob (v := .ref C) hg h rfl hd
end Ft

set_option Elab.async false
set_option linter.all false
set_option maxRecDepth 100000
set_option maxHeartbeats 8000000
namespace Ft
open PySem PySem.Spec PyProof.Rows L2
theorem seqIndex_nat {r n : Nat} (h : r < n) : seqIndex? (r : Int) n = some r := by
  unfold seqIndex?
  have h0 : ¬ ((r : Int) < 0) := by omega
  have h1 : (r : Int) < n := by omega
  have h2 : (0 : Int) ≤ (r : Int) := by omega
  simp [h0, h1, h2]
theorem map_erase {α β : Type} (f : α → β) : ∀ (l : List α) (i : Nat), (l.map f).eraseIdx i = (l.eraseIdx i).map f
  | [], _ => rfl
  | _ :: _, 0 => rfl
  | a :: l, i + 1 => congrArg (f a :: ·) (map_erase f l i)
theorem cons_erase {α : Type} : ∀ {l : List α} {r : Nat} {x : α}, l[r]? = some x → (x :: l.eraseIdx r).Perm l
  | [], _, _, h => by simp at h
  | a :: l, 0, x, h => by
    have e : a = x := by simpa using h
    rw [e]
    exact List.Perm.refl _
  | a :: l, r + 1, x, h => (List.Perm.swap a x (l.eraseIdx r)).trans ((cons_erase (l := l) (r := r) (by simpa using h)).cons a)
theorem rgV_nat (n : Nat) : rgV 0 (n : Int) = (List.range n).map vN := by
  unfold rgV
  have e : ((n : Int) - 0).toNat = n := by omega
  rw [e]
  refine List.map_congr_left fun i _ => ?_
  show V.int (0 + (i : Int)) = V.int (i : Int)
  rw [Int.zero_add]
section
variable {P : Program} {w : World} {K : PySem.W.Frag} {mg : Str → Option Value} {base : Heap} {t1 t2 : Tok}
/-! ### _law_pick, of a list -/
def sp_law_pick (K : PySem.W.Frag) : Sp := fun vs H Q _ => ∃ (p l t : Addr) (xs : List V), vs = [.ref p, .ref t] ∧ PoolAt H p l ∧ SqL K H t xs ∧ t ∉ [p, l] ∧ 0 < xs.length ∧ xs.length < 1073741824 ∧ ∀ x H', x ∈ xs → PoolAt H' p l → Kp [p, l] H H' → Q x H'
/-! ### _law_turned -/
def sp_law_turned (K : PySem.W.Frag) : Sp := fun vs H Q _ => ∃ (p l : Addr) (m : Nat), vs = [.ref p, vN m] ∧ PoolAt H p l ∧ m ≤ 1000 ∧ ∀ (q : Addr) (perm : List Nat) (H' : Hp), perm.Perm (List.range m) → H q = none → H' q = some (.lst (perm.map vN)) → PoolAt H' p l → Kp [p, l] H H' → Q (.ref q) H'
theorem cal_law_turned (T : Txt mg) (D : Def K mg "_law_turned" s_law_turned) (c_law_draw : Cal P w K mg base 2 "_law_draw" sp_law_draw) : Cal P w K mg base 3 "_law_turned" (sp_law_turned K) := by
  refine cal_of D sc_law_turned (fun _ _ _ _ _ _ us hl => match us, hl with | [_, _], _ => rfl) (fun vs H Q E h => ?_) (fun f cdv A outer s H vs Q E hr h => ?_)
  · obtain ⟨p, l, m, rfl, _⟩ := h
    rfl
  · obtain ⟨p, l, m, rfl, hP, m1, q⟩ := h
    refine ⟨_, (pss_cons (ps_par (i := 2) (j := 3) (by rfl) sc_law_turned.nd rfl rfl (by decide) rfl rfl (pa_cons (pe_listRg rfl (by rfl) T.list (prg_1 (by rfl) T.range (pv 1))) (pa_cons (pe_lst pa_nil) pa_nil)) (by rfl))
      (pss_cons (ps_for PassesOwn.never rfl (pi_range1 (by rfl) T.range (pa_cons (pv 1) pa_nil)) (pg_name (i := 4) sc_law_turned.nd rfl (Or.inl rfl)) (pss_one (ps_expr (pe_bm PySem.F.plainAttrs_list PySem.F.slot_list_append PySem.F.type_list_append mt_append (pv 3) (pa_cons (pe_bm PySem.F.plainAttrs_list PySem.F.slot_list_pop PySem.F.type_list_pop mt_popAt (pv 2) (pa_cons (pe_c c_law_draw hr (by decide) (by rfl) (pa_cons (pv 0) (pa_cons (pe_callB (show CallR _ _ (rLenS K) from call_lenS) (by rfl) T.len (by decide +kernel) (pa_cons (pv 2) pa_nil)) pa_nil))) pa_nil)) pa_nil)))))
      (pss_one (ps_ret (pv 3))))), ?_⟩
    refine ⟨_, rfl, _, rfl, .of_le (by omega) (by omega) (by omega) (by omega), fun a ha => ?_⟩
    have s1 : Same H (upd H a (.lst (rgV 0 (m : Int)))) := same_upd ha
    have hA : (upd H a (.lst (rgV 0 (m : Int)))) a = some (.lst ((List.range m).map vN)) := by rw [upd_same, rgV_nat]
    generalize upd H a (.lst (rgV 0 (m : Int))) = H1 at s1 hA
    refine ⟨Nat.zero_le _, fun d hd => ?_⟩
    have nad : a ≠ d := ne_of_none hA hd
    have s2 : Same H1 (upd H1 d (.lst [])) := same_upd hd
    refine ⟨_, _, rfl, ?_⟩
    have k0 : ∀ b, b ∈ [p, l] → b ≠ a ∧ b ≠ d := by
      intro b hb
      obtain ⟨o, e, _⟩ := hP.lists b hb
      exact ⟨ne_of_none e ha, ne_of_none (s1 _ _ e) hd⟩
    refine ⟨_, rfl, _, rfl, by omega, by omega, for_range (lo := 0) (n := m) (fun i σ H' => ∃ (L F : List Nat) (v4 : Option V), σ = [some (.ref p), some (vN m), some (.ref a), some (.ref d), v4] ∧ PoolAt H' p l ∧ Kp [p, l] H H' ∧ H' a = some (.lst (L.map vN)) ∧ H' d = some (.lst (F.map vN)) ∧ (F ++ L).Perm (List.range m) ∧ F.length = i)
      ⟨List.range m, [], _, rfl, (hP.same s1).same s2, Same.kp (s1.trans s2), s2 _ _ hA, upd_same, List.Perm.refl _, rfl⟩ ?_ ?_⟩
    · rintro i σ H2 hi ⟨L, F, v4, rfl, hP2, k2, hL, hF, pm, eF⟩
      have len := pm.length_eq
      rw [List.length_append, List.length_range, eF] at len
      refine ⟨_, rfl, .inl ⟨rfl, _, .inl (.inl hF)⟩, _, rfl, .inl ⟨rfl, _, .inl (.inl hL)⟩, ?_⟩
      refine ⟨_, rfl, _, rfl, a, _, rfl, .inl (.inl (.inl hL)), p, l, L.length, ?_, hP2, by omega, by omega, fun r H3 hr3 hP3 k3 => ?_⟩
      · rw [List.length_map]
        rfl
      have na : a ∉ [p, l] := fun m => (k0 a m).1 rfl
      have nd : d ∉ [p, l] := fun m => (k0 d m).2 rfl
      have hL3 := k3 _ _ na hL
      have hF3 := k3 _ _ nd hF
      obtain ⟨x, hx⟩ : ∃ x, L[r]? = some x := ⟨_, List.getElem?_eq_getElem hr3⟩
      refine ⟨a, _, (r : Int), r, vN x, rfl, rfl, hL3, by omega, by omega, seqIndex_nat (by rw [List.length_map]; exact hr3), by rw [List.getElem?_map, hx]; rfl, ?_⟩
      have hF4 : (upd H3 a (.lst ((L.map vN).eraseIdx r))) d = some (.lst (F.map vN)) := by rw [upd_ne nad.symm]; exact hF3
      refine ⟨d, _, _, rfl, rfl, hF4, by rw [List.length_map, eF]; exact small1000 (by omega), L.eraseIdx r, F ++ [x], _, rfl, ?_, ?_, ?_, ?_, ?_, by rw [List.length_append, eF]; rfl⟩
      · obtain ⟨a1, b1, cs, h1, h2, h3⟩ := hP3
        exact ⟨a1, b1, cs, by rw [upd_ne (k0 p (by simp)).2, upd_ne (k0 p (by simp)).1]; exact h1, by rw [upd_ne (k0 l (by simp)).2, upd_ne (k0 l (by simp)).1]; exact h2, h3⟩
      · intro b o n e
        have na1 : b ≠ a := ne_of_none e ha
        have nd1 : b ≠ d := ne_of_none (s1 _ _ e) hd
        rw [upd_ne nd1, upd_ne na1]
        exact k3 b o n (k2 b o n e)
      · rw [upd_ne nad, upd_same, map_erase]
      · rw [upd_same, List.map_append]
        rfl
      · have pe : (x :: L.eraseIdx r).Perm L := cons_erase hx
        have e1 : F ++ [x] ++ L.eraseIdx r = F ++ (x :: L.eraseIdx r) := by simp
        rw [e1]
        exact (List.Perm.append_left F pe).trans pm
    · rintro σ H2 ⟨L, F, v4, rfl, hP2, k2, hL, hF, pm, eF⟩
      have len := pm.length_eq
      rw [List.length_append, List.length_range, eF] at len
      have eL : L = [] := List.length_eq_zero_iff.mp (by omega)
      subst eL
      rw [List.append_nil] at pm
      exact ⟨_, rfl, q d F H2 pm (s1.free hd) hF hP2 k2⟩
end
end Ft

set_option Elab.async false
set_option linter.all false
set_option maxRecDepth 100000
set_option maxHeartbeats 8000000
namespace Ft
open PySem PySem.Spec PyProof.Rows L2
/-! ### rows of two numbers, sorted -/
def two (p : Nat × Nat) : List Int := [(p.1 : Int), (p.2 : Int)]
theorem two_lt {p q : Nat × Nat} (le : two p ≤ two q) (ne : two p ≠ two q) : ltP p q := by
  unfold two at le ne
  rw [List.cons_le_cons_iff] at le
  rcases le with h | ⟨h1, h2⟩
  · exact .inl (by omega)
  · rw [List.cons_le_cons_iff] at h2
    rcases h2 with h | ⟨h3, _⟩
    · exact .inr ⟨by omega, by omega⟩
    · exact absurd (by rw [h1, h3]) ne
theorem two_inj {p q : Nat × Nat} (h : two p = two q) : p = q := by
  unfold two at h
  simp only [List.cons.injEq, and_true] at h
  exact Prod.ext (by omega) (by omega)
theorem rows_two : ∀ (L : List Row), (∀ r ∈ L, ∃ p, r.2 = two p) → ∃ ps : List (Nat × Nat), L.map (·.2) = ps.map two
  | [], _ => ⟨[], rfl⟩
  | r :: L, h => by
    obtain ⟨p, hp⟩ := h r List.mem_cons_self
    obtain ⟨ps, hps⟩ := rows_two L fun q hq => h q (List.mem_cons_of_mem _ hq)
    exact ⟨p :: ps, by rw [List.map_cons, List.map_cons, hp, hps]⟩
theorem rows_up {L : List Row} {ps : List (Nat × Nat)} (e : L.map (·.2) = ps.map two) (up : L.Pairwise fun q r => q.2 ≤ r.2) (nd : (L.map (·.2)).Nodup) : ps.Pairwise ltP := by
  have h1 : (ps.map two).Pairwise (· ≤ ·) := by
    rw [← e]
    exact List.pairwise_map.mpr up
  rw [e] at nd
  have h2 := List.Pairwise.and h1 nd
  exact (List.pairwise_map.mp h2).imp fun h => two_lt h.1 h.2
theorem rows_pairs {K : PySem.W.Frag} {H : Hp} : ∀ {L : List Row} {ps : List (Nat × Nat)}, L.map (·.2) = ps.map two → (∀ r ∈ L, SqT K H r.1 (r.2.map V.int)) → PairsAt K H (L.map (·.1)) ps
  | [], [], _, _ => .nil
  | [], _ :: _, e, _ => nomatch e
  | _ :: _, [], e, _ => nomatch e
  | r :: L, p :: ps, e, h => by
    rw [List.map_cons, List.map_cons] at e
    injection e with e1 e2
    refine .cons ?_ (rows_pairs e2 fun q hq => h q (List.mem_cons_of_mem _ hq))
    have := h r List.mem_cons_self
    rw [e1] at this
    exact this
/-! ### maps whose places are named anew -/
/-- the new name of a place -/
def nm (perm : List Nat) (a : Nat) : Nat := perm.getD a 0
theorem nm_get {perm : List Nat} {a : Nat} (h : a < perm.length) : perm[a]? = some (nm perm a) := by
  unfold nm
  rw [List.getD_eq_getElem?_getD, List.getElem?_eq_getElem h]
  rfl
structure Named (n : Nat) (prs : List (Nat × Nat)) (ws perm : List Nat) (C : Chart) : Prop where
  n : C.n = n
  ok : C.Ok
  roads : ∀ x y, (x, y) ∈ C.roads ↔ ∃ a b, (a, b) ∈ prs ∧ x = nm perm a ∧ y = nm perm b
  wished : ∀ x, x ∈ C.wished ↔ ∃ a ∈ ws, x = nm perm a
theorem perm_lt {perm : List Nat} {n : Nat} (pm : perm.Perm (List.range n)) {a : Nat} (h : a < n) : nm perm a < n := by
  have len : perm.length = n := by rw [pm.length_eq, List.length_range]
  have := List.mem_of_getElem? (nm_get (perm := perm) (a := a) (by rw [len]; exact h))
  exact List.mem_range.mp (pm.mem_iff.mp this)
theorem nm_at {perm : List Nat} {n : Nat} (pm : perm.Perm (List.range n)) {a : Nat} (h : a < n) : atI (perm.map vN) (a : Int) = some (vN (nm perm a)) := by
  have len : perm.length = n := by rw [pm.length_eq, List.length_range]
  refine atI_nat ?_
  rw [List.getElem?_map, nm_get (by rw [len]; exact h)]
  rfl
section
variable {P : Program} {w : World} {K : PySem.W.Frag} {mg : Str → Option Value} {base : Heap} {t1 t2 : Tok}
/-! ### _law_map_named -/
def sp_law_map_named (K : PySem.W.Frag) : Sp := fun vs H Q _ => ∃ (p l ro wi : Addr) (n : Nat) (ts : List Addr) (prs : List (Nat × Nat)) (ws : List Nat), vs = [.ref p, vN n, .ref ro, .ref wi] ∧ PoolAt H p l ∧ n ≤ 60 ∧
  H ro = some (.lst (ts.map V.ref)) ∧ ro ∉ [p, l] ∧ PairsAt K H ts prs ∧ prs.length < 64 ∧ (∀ q ∈ prs, q.1 < n ∧ q.2 < n) ∧ H wi = some (.lst (ws.map vN)) ∧ wi ∉ [p, l] ∧ ws.length < 64 ∧ (∀ a ∈ ws, a < n) ∧
  ∀ (q c na : Addr) (perm : List Nat) (C : Chart) (H' : Hp), perm.Perm (List.range n) → H q = none → H na = none → H' q = some (.lst [.ref c, .ref na]) → IsChart K H' c C → H' na = some (.lst (perm.map vN)) → Named n prs ws perm C → PoolAt H' p l → Kp [p, l] H H' → Q (.ref q) H'
theorem cal_law_map_named (T : Txt mg) (D : Def K mg "_law_map_named" s_law_map_named) (c_law_turned : Cal P w K mg base 3 "_law_turned" (sp_law_turned K)) : Cal P w K mg base 4 "_law_map_named" (sp_law_map_named K) := by
  refine cal_of D sc_law_map_named (fun _ _ _ _ _ _ us hl => match us, hl with | [_, _, _, _], _ => rfl) (fun vs H Q E h => ?_) (fun f cdv A outer s H vs Q E hr h => ?_)
  · obtain ⟨p, l, ro, wi, n, ts, prs, ws, rfl, _⟩ := h
    rfl
  · obtain ⟨p, l, ro, wi, n, ts, prs, ws, rfl, hP, n60, hRo, oR, hPr, fewP, inP, hWi, oW, fewW, inW, q⟩ := h
    have hU := hr.units
    refine ⟨_, (pss_cons (ps_set (i := 4) sc_law_map_named.nd rfl (Or.inr rfl) (pe_c c_law_turned hr (by decide) (by rfl) (pa_cons (pv 0) (pa_cons (pv 1) pa_nil))))
      (pss_cons (ps_set (i := 5) sc_law_map_named.nd rfl (Or.inl rfl) (pe_callTy (show CallR _ _ (rTupleOf K) from call_tupleOf) (by rfl) T.tuple (by decide +kernel) (pa_cons (pe_callB (show CallR _ _ (rSortedS K P w) from cr_sortedSR rfl hU) (by rfl) T.sorted (by decide +kernel) (pa_cons (pe_callTy (show CallR _ _ (rSetOfT K P w) from cr_setOfT rfl hU) (by rfl) T.set (by decide +kernel) (pa_cons (pe_lc (own := [("a", 6), ("b", 7)]) rfl sc_law_map_named.nd (show PI _ _ _ (iList K _) from pi_list (pv 2)) (blkOk_by (N := ["pool", "places", "roads", "wished", "names", "told", "a", "b"]) (sc := L2.defScope s_law_map_named) (by decide +kernel)) (fun _ _ _ _ _ => (show PG _ _ (gTup K 2 _) from pg_tup (by rfl) (pgs_cons (pg_name (i := 6) sc_law_map_named.nd rfl (Or.inl rfl)) (pgs_cons (pg_name (i := 7) sc_law_map_named.nd rfl (Or.inl rfl)) pgs_nil)))) (fun _ _ _ _ _ => pts_nil) (fun _ _ _ _ _ => (pe_tup (pa_cons (pe_ix (show IxR _ (rIxL K) from ix_list) (pv 4) (pv 6) (fun _ _ => rfl)) (pa_cons (pe_ix (show IxR _ (rIxL K) from ix_list) (pv 4) (pv 7) (fun _ _ => rfl)) pa_nil))))) pa_nil)) pa_nil)) pa_nil)))
      (pss_one (ps_ret (pe_lst (pa_cons (pe_tup (pa_cons (pv 1) (pa_cons (pv 5) (pa_cons (pe_callTy (show CallR _ _ (rTupleOf K) from call_tupleOf) (by rfl) T.tuple (by decide +kernel) (pa_cons (pe_callB (show CallR _ _ (rSortedSet w) from cr_sortedSet rfl) (by rfl) T.sorted (by decide +kernel) (pa_cons (pe_callTy (show CallR _ _ (rSetI K w) from cr_setI rfl) (by rfl) T.set (by decide +kernel) (pa_cons (pe_lc (own := [("a", 6)]) rfl sc_law_map_named.nd (show PI _ _ _ (iList K _) from pi_list (pv 3)) (blkOk_by (N := ["pool", "places", "roads", "wished", "names", "told", "a", "b"]) (sc := L2.defScope s_law_map_named) (by decide +kernel)) (fun _ _ _ _ _ => (pg_name (i := 6) sc_law_map_named.nd rfl (Or.inl rfl))) (fun _ _ _ _ _ => pts_nil) (fun _ _ _ _ _ => (pe_ix (show IxR _ (rIxL K) from ix_list) (pv 4) (pv 6) (fun _ _ => rfl)))) pa_nil)) pa_nil)) pa_nil)) pa_nil)))) (pa_cons (pv 4) pa_nil))))))), ?_⟩
    refine ⟨_, rfl, _, rfl, p, l, n, rfl, hP, by omega, fun na perm H1 pm hna hN hP1 k1 => ?_⟩
    have hRo1 := k1 _ _ oR hRo
    have hWi1 := k1 _ _ oW hWi
    have hPr1 : PairsAt K H1 ts prs := hPr.keep k1 hP.lists
    refine ⟨_, rfl, ro, rfl, ⟨_, .inl (.inl hRo1)⟩, fun d hd => ?_⟩
    have keep : ∀ {H' : Hp}, Kp [d] H1 H' → Same H1 H' := fun {H'} k b o e => k b o (fun m => by rw [List.mem_singleton.mp m, hd] at e; cases e) e
    refine lc_list (K := K) (xs := ts.map V.ref) (fun i H' => ∃ rows : List Row, rows.map (·.2) = (prs.take i).map (fun q => two (nm perm q.1, nm perm q.2)) ∧ Kp [d] H1 H' ∧ H' d = some (.lst (rows.map fun r => V.ref r.1)) ∧ ∀ r ∈ rows, H' r.1 = some (.tup (r.2.map V.int)))
      ⟨[], rfl, (fun b o x e => by rw [upd_ne (ne_of_none e hd)]; exact e), upd_same, fun r h => nomatch h⟩ (fun i H' _ ⟨_, _, k, _⟩ => .inl (.inl (keep k _ _ hRo1))) ?_ ?_
    · rintro i x H2 hx ⟨rows, e2, k2, hD, all⟩
      obtain ⟨t, ht, rfl⟩ := get_map hx
      obtain ⟨q0, hq0, pt⟩ := paired_getL hPr1 ht
      obtain ⟨b1, b2⟩ := inP q0 (List.mem_of_getElem? hq0)
      have hN2 := keep k2 _ _ hN
      have il : i < prs.length := (List.getElem?_eq_some_iff.mp hq0).1
      have el : rows.length = i := by
        have := congrArg List.length e2
        rw [List.length_map, List.length_map, List.length_take] at this
        omega
      refine ⟨t, _, rfl, Same.sqT (keep k2) pt, rfl, _, _, rfl, _, _, rfl, rfl, rfl, ?_⟩
      refine ⟨_, rfl, _, rfl, na, _, _, _, rfl, rfl, .inl (.inl hN2), nm_at pm b1, _, rfl, _, rfl, na, _, _, _, rfl, rfl, .inl (.inl hN2), nm_at pm b2, (by show 2 ≤ sizeLine; decide), fun e he => ?_⟩
      have nde : d ≠ e := ne_of_none hD he
      refine ⟨_, Eq.trans (upd_ne nde) hD, by rw [List.length_map, el]; exact small1000 (by omega), rows ++ [(e, two (nm perm q0.1, nm perm q0.2))], ?_, ?_, by rw [upd_same, List.map_append]; rfl, ?_⟩
      · rw [List.map_append, e2, take_more hq0, List.map_append]
        rfl
      · intro b o nb eb
        have := k2 b o nb eb
        rw [upd_ne (fun z => nb (by rw [z]; simp)), upd_ne (ne_of_none this he)]
        exact this
      · intro r hr'
        rcases List.mem_append.mp hr' with hr' | hr'
        · have := all r hr'
          have n1 : r.1 ≠ d := fun z => by rw [z, hD] at this; cases this
          rw [upd_ne n1, upd_ne (ne_of_none this he)]
          exact this
        · rw [List.mem_singleton.mp hr', upd_ne nde.symm, upd_same]
          rfl
    rintro H2 ⟨rows, e2, k2, hD, all⟩
    rw [List.take_of_length_le (by rw [List.length_map]; exact Nat.le_of_eq (Paired.length hPr1).symm)] at e2
    have elen : rows.length = prs.length := by
      have := congrArg List.length e2
      rw [List.length_map, List.length_map] at this
      exact this
    have shape : ∀ r ∈ rows, ∃ z, r.2 = two z := by
      intro r hr'
      have : r.2 ∈ rows.map (·.2) := List.mem_map.mpr ⟨r, hr', rfl⟩
      rw [e2] at this
      obtain ⟨z, _, ez⟩ := List.mem_map.mp this
      exact ⟨_, ez.symm⟩
    refine ⟨d, rows, rfl, .inl (.inl hD), (fun r hr' => .inl (.inl (all r hr'))), by omega, fun a L ha sub sup => ?_⟩
    have s3 : Same H2 (upd H2 a (SetTO P w a L)) := same_upd ha
    refine ⟨a, L, rfl, upd_same, (fun r hr' => Same.sqT s3 (.inl (.inl (all r (sub r hr'))))), (fun r hr' => by obtain ⟨z, ez⟩ := shape r (sub r hr'); rw [ez]; exact fun y => nomatch y), fun L' u pm' nd few pw hu' => ?_⟩
    have s4 : Same H2 (upd (upd H2 a (SetTO P w a L)) u (.lst (L'.map fun r => V.ref r.1))) := s3.trans (same_upd hu')
    refine ⟨u, _, rfl, .inl ⟨.inl (.inl upd_same), fun tp htp => ?_⟩⟩
    have s5 := s4.trans (same_upd (o := .tup (L'.map fun r => V.ref r.1)) htp)
    have hTp : (upd (upd (upd H2 a (SetTO P w a L)) u (.lst (L'.map fun r => V.ref r.1))) tp (.tup (L'.map fun r => V.ref r.1))) tp = some (.tup (L'.map fun r => V.ref r.1)) := upd_same
    generalize upd (upd (upd H2 a (SetTO P w a L)) u (.lst (L'.map fun r => V.ref r.1))) tp (.tup (L'.map fun r => V.ref r.1)) = H3 at s5 hTp
    have sub' : ∀ r ∈ L', r ∈ rows := fun r hr' => sub r (pm'.mem_iff.mp hr')
    obtain ⟨rds, erds⟩ := rows_two L' fun r hr' => shape r (sub' r hr')
    have upR : rds.Pairwise ltP := rows_up erds pw nd
    have hRd : PairsAt K H3 (L'.map (·.1)) rds := rows_pairs erds fun r hr' => .inl (.inl (s5 _ _ (all r (sub' r hr'))))
    have memR : ∀ x y, (x, y) ∈ rds ↔ ∃ a b, (a, b) ∈ prs ∧ x = nm perm a ∧ y = nm perm b := by
      intro x y
      have h1 : (x, y) ∈ rds ↔ two (x, y) ∈ rds.map two := by
        constructor
        · intro h
          exact List.mem_map.mpr ⟨_, h, rfl⟩
        · intro h
          obtain ⟨z, hz, ez⟩ := List.mem_map.mp h
          rw [← two_inj ez]
          exact hz
      rw [h1, ← erds]
      constructor
      · intro h
        obtain ⟨r, hr', er⟩ := List.mem_map.mp h
        have : r.2 ∈ rows.map (·.2) := List.mem_map.mpr ⟨r, sub' r hr', rfl⟩
        rw [e2, er] at this
        obtain ⟨⟨a', b'⟩, hab, ez⟩ := List.mem_map.mp this
        have := two_inj ez
        injection this with z1 z2
        exact ⟨a', b', hab, z1.symm, z2.symm⟩
      · rintro ⟨a', b', hab, rfl, rfl⟩
        have : two (nm perm a', nm perm b') ∈ rows.map (·.2) := by
          rw [e2]
          exact List.mem_map.mpr ⟨(a', b'), hab, rfl⟩
        obtain ⟨r, hr', er⟩ := List.mem_map.mp this
        have h2 := sup r hr'
        rw [er] at h2
        exact (pm'.map (·.2)).mem_iff.mpr h2
    have s13 : Same H1 H3 := (keep k2).trans s5
    have hN3 := s13 _ _ hN
    have hWi3 := s13 _ _ hWi1
    refine ⟨_, rfl, _, rfl, _, rfl, wi, rfl, ⟨_, .inl (.inl hWi3)⟩, fun d2 hd2 => ?_⟩
    have keep2 : ∀ {H' : Hp}, Kp [d2] H3 H' → Same H3 H' := fun {H'} k b o e => k b o (fun m => by rw [List.mem_singleton.mp m, hd2] at e; cases e) e
    refine lc_list (K := K) (xs := ws.map vN) (fun i H' => Kp [d2] H3 H' ∧ H' d2 = some (.lst (((ws.take i).map (nm perm)).map vN)))
      ⟨(fun b o x e => by rw [upd_ne (ne_of_none e hd2)]; exact e), upd_same⟩ (fun i H' _ ⟨k, _⟩ => .inl (.inl (keep2 k _ _ hWi3))) ?_ ?_
    · rintro i x H4 hx ⟨k4, hD4⟩
      obtain ⟨a', ha', rfl⟩ := get_map hx
      have il : i < ws.length := (List.getElem?_eq_some_iff.mp ha').1
      refine ⟨rfl, ?_⟩
      refine ⟨_, rfl, _, rfl, na, _, _, _, rfl, rfl, .inl (.inl (keep2 k4 _ _ hN3)), nm_at pm (inW a' (List.mem_of_getElem? ha')), _, hD4, ?_, ?_, ?_⟩
      · rw [List.length_map, List.length_map, List.length_take]
        exact small1000 (by omega)
      · intro b o nb eb
        rw [upd_ne (fun z => nb (by rw [z]; simp))]
        exact k4 b o nb eb
      · rw [upd_same, take_more ha', List.map_append, List.map_append]
        rfl
    rintro H4 ⟨k4, hD4⟩
    rw [List.take_of_length_le (by rw [List.length_map]; exact Nat.le_refl _)] at hD4
    refine ⟨d2, iN (ws.map (nm perm)), rfl, .inl (.inl (.inl (by rw [← vN_map]; exact hD4))), by rw [iN_length, List.length_map]; omega, fun p2 n2 hp2 hn2 => ?_⟩
    rw [iN_length, List.length_map] at hn2
    refine ⟨p2, _, n2, rfl, upd_same, by omega, fun ns u2 up2 mem2 _ hu2 => ?_⟩
    refine ⟨u2, _, rfl, .inl ⟨.inl (.inl upd_same), fun tw htw => ?_⟩⟩
    have s6 : Same H4 (upd (upd (upd H4 p2 (SetO w p2 (fun j => decide (j ∈ iN (ws.map (nm perm)))) n2)) u2 (.lst (ns.map V.int))) tw (.tup (ns.map V.int))) := ((same_upd hp2).trans (same_upd hu2)).trans (same_upd htw)
    have hTw : (upd (upd (upd H4 p2 (SetO w p2 (fun j => decide (j ∈ iN (ws.map (nm perm)))) n2)) u2 (.lst (ns.map V.int))) tw (.tup (ns.map V.int))) tw = some (.tup (ns.map V.int)) := upd_same
    generalize upd (upd (upd H4 p2 (SetO w p2 (fun j => decide (j ∈ iN (ws.map (nm perm)))) n2)) u2 (.lst (ns.map V.int))) tw (.tup (ns.map V.int)) = H5 at s6 hTw
    have s15 : Same H1 H5 := s13.trans ((keep2 k4).trans s6)
    have s35 : Same H3 H5 := (keep2 k4).trans s6
    obtain ⟨wl, ewl, memW⟩ : ∃ wl : List Nat, ns = iN wl ∧ ∀ x, x ∈ wl ↔ x ∈ ws.map (nm perm) := by
      have nn : ∀ y ∈ ns, 0 ≤ y := by
        intro y hy
        have := of_decide_eq_true ((mem2 y).mp hy)
        unfold iN at this
        obtain ⟨z, _, ez⟩ := List.mem_map.mp this
        omega
      refine ⟨ns.map Int.toNat, ?_, fun x => ?_⟩
      · unfold iN
        rw [List.map_map]
        conv => lhs; rw [← List.map_id ns]
        exact List.map_congr_left fun y hy => (Int.toNat_of_nonneg (nn y hy)).symm
      · constructor
        · intro h
          obtain ⟨y, hy, ey⟩ := List.mem_map.mp h
          have h2 := of_decide_eq_true ((mem2 y).mp hy)
          have h3 : y = (x : Int) := by
            have := nn y hy
            omega
          rw [h3] at h2
          exact iN_mem.mp h2
        · intro h
          exact List.mem_map.mpr ⟨(x : Int), (mem2 _).mpr (decide_eq_true (iN_mem.mpr h)), by omega⟩
    have upW : wl.Pairwise (· < ·) := by
      rw [ewl] at up2
      unfold iN at up2
      exact (List.pairwise_map.mp up2).imp fun h => by omega
    refine ⟨by show 3 ≤ sizeLine; decide, fun ct hct => ?_⟩
    have s7 : Same H5 (upd H5 ct (.tup [vN n, .ref tp, .ref tw])) := same_upd hct
    refine ⟨_, rfl, by show 2 ≤ sizeLine; decide, fun qa hqa => ?_⟩
    have s8 := s7.trans (same_upd (o := .lst [.ref ct, .ref na]) hqa)
    have s18 := s15.trans s8
    have len : perm.length = n := by rw [pm.length_eq, List.length_range]
    refine q qa ct na perm ⟨n, rds, wl⟩ _ pm ?_ hna upd_same ⟨tp, tw, L'.map (·.1), ?_, ?_, ?_, ?_⟩ (s18 _ _ hN) ⟨rfl, ⟨n60, ?_, ?_, upR, ?_, upW⟩, memR, ?_⟩ (hP1.same s18) ?_
    · have h1 := (s15.trans s7).free hqa
      cases eq : H qa with
      | none => rfl
      | some o =>
        have : qa ∉ [p, l] := by
          intro m
          obtain ⟨o', e', _⟩ := hP1.lists qa m
          rw [e'] at h1
          cases h1
        rw [k1 _ _ this eq] at h1
        cases h1
    · exact .inl (.inl (by rw [upd_ne (ne_of_none upd_same hqa)]; exact upd_same))
    · refine .inl (.inl ?_)
      have := s8 _ _ (s35 _ _ hTp)
      rw [List.map_map]
      exact this
    · exact hRd.keep (Same.kp (ex := []) (s35.trans s8)) (lists_nil _)
    · refine .inl (.inl ?_)
      have := s8 _ _ hTw
      rw [vN_map, ← ewl]
      exact this
    · show rds.length ≤ 240
      have e := congrArg List.length erds
      rw [List.length_map, List.length_map] at e
      omega
    · rintro ⟨x, y⟩ hxy
      obtain ⟨a', b', hab, e1, e3⟩ := (memR x y).mp hxy
      obtain ⟨b1, b2⟩ := inP _ hab
      rw [e1, e3]
      exact ⟨perm_lt pm b1, perm_lt pm b2⟩
    · intro x hx
      obtain ⟨a', ha', e1⟩ := List.mem_map.mp ((memW x).mp hx)
      rw [← e1]
      exact perm_lt pm (inW a' ha')
    · intro x
      rw [memW x, List.mem_map]
      exact ⟨fun ⟨a', h1, h2⟩ => ⟨a', h1, h2.symm⟩, fun ⟨a', h1, h2⟩ => ⟨a', h1, h2.symm⟩⟩
    · exact k1.trans (Same.kp s18)
end
end Ft

set_option Elab.async false
set_option linter.all false
set_option maxRecDepth 100000
set_option maxHeartbeats 8000000
namespace Ft
open PySem PySem.Spec PyProof.Rows L2
/-- ascending places below i -/
structure Upto (F : List Nat) (i : Nat) : Prop where
  up : F.Pairwise (· < ·)
  lt : ∀ a ∈ F, a < i
theorem Upto.nil (i : Nat) : Upto [] i := ⟨.nil, fun _ h => nomatch h⟩
theorem Upto.wider {F : List Nat} {i : Nat} (h : Upto F i) : Upto F (i + 1) := ⟨h.up, fun a m => Nat.lt_succ_of_lt (h.lt a m)⟩
theorem Upto.more {F : List Nat} {i : Nat} (h : Upto F i) : Upto (F ++ [i]) (i + 1) := by
  refine ⟨List.pairwise_append.mpr ⟨h.up, List.pairwise_singleton _ _, fun a ha b hb => ?_⟩, fun a m => ?_⟩
  · rw [List.mem_singleton.mp hb]
    exact h.lt a ha
  · rcases List.mem_append.mp m with m | m
    · exact Nat.lt_succ_of_lt (h.lt a m)
    · rw [List.mem_singleton.mp m]
      omega
theorem Upto.len {F : List Nat} {i : Nat} (h : Upto F i) : F.length ≤ i := up_len h.up h.lt
theorem upto_range (n : Nat) : Upto (List.range n) n := ⟨range_up n, fun _ h => List.mem_range.mp h⟩
theorem nodup_lt_len {l : List Nat} {n : Nat} (nd : l.Nodup) (b : ∀ a ∈ l, a < n) : l.length ≤ n := by
  have := nat_nodup_len l (List.range n) nd fun x hx => List.mem_range.mpr (b x hx)
  rwa [List.length_range] at this
/-! ### a list of pairs as data -/
def encP (p : Nat × Nat) : PyData := .tuple [.int (p.1 : Int), .int (p.2 : Int)]
theorem pairs_shaped (ps : List (Nat × Nat)) : SeqAt.shaped (.list (ps.map encP)) = true := by
  unfold SeqAt.shaped
  have h1 : PyData.canLayAll0 (ps.map encP) = true := by
    induction ps with
    | nil => simp [PyData.canLayAll0]
    | cons c cs ih => simp [PyData.canLayAll0, PyData.canLay0, encP, ih]
  have h2 : PyData.depthAll (ps.map encP) ≤ 1 := by
    induction ps with
    | nil => simp [PyData.depthAll]
    | cons c cs ih =>
      have ih' := ih (by
        have := h1
        simp [PyData.canLayAll0, PyData.canLay0, encP] at this
        exact this)
      simp [PyData.depthAll, PyData.depth, encP]
      omega
  simp [PyData.canLay0, h1, PyData.depth]
  omega
theorem dpAll_pairs {K : PySem.W.Frag} {H : Hp} : ∀ (L : List (Addr × (Nat × Nat))), (∀ r ∈ L, SqT K H r.1 [vN r.2.1, vN r.2.2]) → DpAll K H (L.map fun r => V.ref r.1) (L.map fun r => encP r.2)
  | [], _ => .nil
  | r :: L, h => .cons (.tup (h r List.mem_cons_self) (.cons (.int _) (.cons (.int _) .nil))) (dpAll_pairs L fun q hq => h q (List.mem_cons_of_mem _ hq))
theorem in_vN {x : Nat} {F : List Nat} : inV (vN x) (F.map vN) = decide (x ∈ F) := by
  rw [Bool.eq_iff_iff]
  unfold inV
  rw [List.any_map, List.any_eq_true, decide_eq_true_eq]
  constructor
  · rintro ⟨y, hy, e⟩
    have : (y : Int) = x := by simpa [eqV, vN] using e
    have : y = x := by omega
    exact this ▸ hy
  · intro h
    exact ⟨x, h, by simp [eqV, vN]⟩
theorem all_vN (F : List Nat) : (F.map vN).all flatV = true := by
  rw [List.all_map, List.all_eq_true]
  intro x _
  rfl
theorem PoolAt.set {H : Hp} {p l e : Addr} {o : HO} (n : e ∉ [p, l]) (h : PoolAt H p l) : PoolAt (upd H e o) p l := by
  obtain ⟨a, b, cs, h1, h2, h3⟩ := h
  exact ⟨a, b, cs, by rw [upd_ne (fun z => n (by simp [z]))]; exact h1, by rw [upd_ne (fun z => n (by simp [z]))]; exact h2, h3⟩
/-- what was made on the way does not count -/
theorem kp_made {p l e : Addr} {H H1 H2 : Hp} (k : Kp [p, l] H H1) (he : H1 e = none) (k2 : Kp [p, l, e] H1 H2) : Kp [p, l] H H2 := fun b o nb eb => by
  have e1 := k b o nb eb
  refine k2 b o (fun m => ?_) e1
  simp only [List.mem_cons, List.not_mem_nil, or_false] at m nb
  rcases m with m | m | m
  · exact nb (.inl m)
  · exact nb (.inr m)
  · rw [m, he] at e1
    cases e1
section
variable {P : Program} {w : World} {K : PySem.W.Frag} {mg : Str → Option Value} {base : Heap} {t1 t2 : Tok}
/-! ### _law_map_some_wished -/
def sp_law_map_some_wished (K : PySem.W.Frag) : Sp := fun vs H Q _ => ∃ (p l ro : Addr) (n : Nat) (ts : List Addr) (prs : List (Nat × Nat)), vs = [.ref p, vN n, .ref ro] ∧ PoolAt H p l ∧ n ≤ 60 ∧
  H ro = some (.lst (ts.map V.ref)) ∧ ro ∉ [p, l] ∧ PairsAt K H ts prs ∧ prs.length < 64 ∧
  ∀ (q : Addr) (ws : List Nat) (H' : Hp), ws.Nodup → (∀ a ∈ ws, a < n) → H q = none → H' q = some (.lst (ws.map vN)) → PoolAt H' p l → Kp [p, l] H H' → Q (.ref q) H'
theorem cal_law_map_some_wished (T : Txt mg) (D : Def K mg "_law_map_some_wished" s_law_map_some_wished) (c_law_draw : Cal P w K mg base 2 "_law_draw" sp_law_draw) : Cal P w K mg base 3 "_law_map_some_wished" (sp_law_map_some_wished K) := by
  refine cal_of D sc_law_map_some_wished (fun _ _ _ _ _ _ us hl => match us, hl with | [_, _, _], _ => rfl) (fun vs H Q E h => ?_) (fun f cdv A outer s H vs Q E hr h => ?_)
  · obtain ⟨p, l, ro, n, ts, prs, rfl, _⟩ := h
    rfl
  · obtain ⟨p, l, ro, n, ts, prs, rfl, hP, n60, hRo, oR, hPr, fewP, q⟩ := h
    have hU := hr.units
    refine ⟨_, (pss_cons (ps_asg (pe_tup (pa_cons (pe_c c_law_draw hr (by decide) (by rfl) (pa_cons (pv 0) (pa_cons pe_int pa_nil))) (pa_cons (pe_lc (own := [("a", 5)]) rfl sc_law_map_some_wished.nd (pi_range1 (by rfl) T.range (pa_cons (pv 1) pa_nil)) (blkOk_by (N := ["pool", "places", "roads", "way", "last", "a", "road"]) (sc := L2.defScope s_law_map_some_wished) (by decide +kernel)) (fun _ _ _ _ _ => (pg_name (i := 5) sc_law_map_some_wished.nd rfl (Or.inr rfl))) (fun _ _ _ _ _ => pts_one (pt_cmpR (show OpR _ _ (rEqD K) from op_eqD hU) (pe_lc (own := [("road", 6)]) rfl sc_law_map_some_wished.nd (show PI _ _ _ (iList K _) from pi_list (pv 2)) (blkIn (N := ["pool", "places", "roads", "way", "last", "a", "road"]) (sc := L2.defScope s_law_map_some_wished) rfl (by decide +kernel)) (fun _ _ _ _ _ => (pg_name (i := 6) sc_law_map_some_wished.nd rfl (Or.inl rfl))) (fun _ _ _ _ _ => pts_one (pt_cmpR op_eq (pe_ix (show IxR _ (rIxT K) from ix_tup) (pv 6) pe_int (fun _ _ => rfl)) (pv 5) (nomark _))) (fun _ _ _ _ _ => (pv 6))) (pe_lst pa_nil) (nomark _))) (fun _ _ _ _ _ => (pv 5))) pa_nil))) (show PG _ _ (gTup K 2 _) from pg_tup (by rfl) (pgs_cons (pg_name (i := 3) sc_law_map_some_wished.nd rfl (Or.inr rfl)) (pgs_cons (pg_name (i := 4) sc_law_map_some_wished.nd rfl (Or.inr rfl)) pgs_nil))))
      (pss_cons (ps_if (pt_cmpR op_lt (pv 3) pe_int (nomark _)) (pss_one (ps_ret (pe_op op_cat (pv 4) (pe_lc (own := [("a", 5)]) rfl sc_law_map_some_wished.nd (pi_range1 (by rfl) T.range (pa_cons (pv 1) pa_nil)) (blkOk_by (N := ["pool", "places", "roads", "way", "last", "a", "road"]) (sc := L2.defScope s_law_map_some_wished) (by decide +kernel)) (fun _ _ _ _ _ => (pg_name (i := 5) sc_law_map_some_wished.nd rfl (Or.inl rfl))) (fun _ _ _ _ _ => pts_one (PW.pt (pw_and (pt_cmpR (show OpR _ _ (rIn K true) from op_notIn_seq) (pv 5) (pv 4) (by rfl)) (pw_and (pt_cmpR op_gt (pv 3) pe_int (nomark _)) (pw_and1 (pt_cmpR op_eq (pe_c c_law_draw hr (by decide) (by rfl) (pa_cons (pv 0) (pa_cons pe_int pa_nil))) pe_int (nomark _))))))) (fun _ _ _ _ _ => (pv 5)))))) pss_nil)
      (pss_cons (ps_if (pt_cmpR op_lt (pv 3) pe_int (nomark _)) (pss_one (ps_ret (pe_lc (own := [("a", 5)]) rfl sc_law_map_some_wished.nd (pi_range1 (by rfl) T.range (pa_cons (pv 1) pa_nil)) (blkOk_by (N := ["pool", "places", "roads", "way", "last", "a", "road"]) (sc := L2.defScope s_law_map_some_wished) (by decide +kernel)) (fun _ _ _ _ _ => (pg_name (i := 5) sc_law_map_some_wished.nd rfl (Or.inl rfl))) (fun _ _ _ _ _ => pts_one (pt_cmpR op_eq (pe_c c_law_draw hr (by decide) (by rfl) (pa_cons (pv 0) (pa_cons (pe_op op_sub (pv 3) pe_int) pa_nil))) pe_int (nomark _))) (fun _ _ _ _ _ => (pv 5))))) pss_nil)
      (pss_one (ps_ret (pe_ifExp (pt_cmpR op_gt (pe_c c_law_draw hr (by decide) (by rfl) (pa_cons (pv 0) (pa_cons pe_int pa_nil))) pe_int (nomark _)) (pe_lst pa_nil) (pe_listRg rfl (by rfl) T.list (prg_1 (by rfl) T.range (pv 1))))))))), ?_⟩
    refine ⟨_, rfl, p, l, 8, rfl, hP, by decide, by decide, fun way H1 hway hP1 k1 => ?_⟩
    have hRo1 := k1 _ _ oR hRo
    have hPr1 : PairsAt K H1 ts prs := hPr.keep k1 hP.lists
    refine ⟨_, rfl, _, rfl, by omega, by omega, fun d hd => ?_⟩
    have keep : ∀ {H' : Hp}, Kp [d] H1 H' → Same H1 H' := fun {H'} k b o e => k b o (fun m => by rw [List.mem_singleton.mp m, hd] at e; cases e) e
    refine lc_range (lo := 0) (n := n) (fun i H' => ∃ F : List Nat, Kp [d] H1 H' ∧ H' d = some (.lst (F.map vN)) ∧ Upto F i)
      ⟨[], (fun b o x e => by rw [upd_ne (ne_of_none e hd)]; exact e), upd_same, Upto.nil 0⟩ ?_ ?_
    · rintro i H2 hi ⟨F, k2, hD, hF⟩
      have e0 : (0 : Int) + (i : Nat) = (i : Nat) := by omega
      refine ⟨rfl, ?_⟩
      rw [e0]
      refine ⟨_, rfl, ro, rfl, ⟨_, .inl (.inl (keep k2 _ _ hRo1))⟩, fun e he => ?_⟩
      have keep2 : ∀ {H' : Hp}, Kp [e] H2 H' → Same H2 H' := fun {H'} k b o e' => k b o (fun m => by rw [List.mem_singleton.mp m, he] at e'; cases e') e'
      refine lc_list (K := K) (xs := ts.map V.ref) (fun j H' => ∃ L : List (Addr × (Nat × Nat)), Kp [e] H2 H' ∧ H' e = some (.lst (L.map fun r => V.ref r.1)) ∧ L.length ≤ j ∧ ∀ r ∈ L, SqT K H2 r.1 [vN r.2.1, vN r.2.2])
        ⟨[], (fun b o x e' => by rw [upd_ne (ne_of_none e' he)]; exact e'), upd_same, Nat.le_refl _, fun _ h => nomatch h⟩ (fun j H' _ ⟨_, k, _⟩ => .inl (.inl (keep2 k _ _ (keep k2 _ _ hRo1)))) ?_ ?_
      · rintro j x H3 hx ⟨L, k3, hE, fl, all⟩
        obtain ⟨t, ht, rfl⟩ := get_map hx
        obtain ⟨q0, hq0, pt⟩ := paired_getL hPr1 ht
        have jl : j < prs.length := (List.getElem?_eq_some_iff.mp hq0).1
        have pt2 := Same.sqT (keep k2) pt
        have pt3 := Same.sqT (keep2 k3) pt2
        refine ⟨rfl, ?_⟩
        refine ⟨_, rfl, t, _, _, _, rfl, rfl, pt3, rfl, _, rfl, rfl, _, rfl, ite_any (fun _ => ?_) (fun _ => ?_)⟩
        · refine ⟨_, rfl, _, hE, by rw [List.length_map]; exact small1000 (by omega), L ++ [(t, q0)], ?_, by rw [upd_same, List.map_append]; rfl, by rw [List.length_append]; exact Nat.succ_le_succ fl, ?_⟩
          · intro b o nb eb
            rw [upd_ne (fun z => nb (by rw [z]; simp))]
            exact k3 b o nb eb
          · intro r hr'
            rcases List.mem_append.mp hr' with hr' | hr'
            · exact all r hr'
            · rw [List.mem_singleton.mp hr']
              exact pt2
        · exact ⟨L, k3, hE, by omega, all⟩
      · rintro H3 ⟨L, k3, hE, fl, all⟩
        refine ⟨Nat.zero_le _, fun g hg => ?_⟩
        have s4 : Same H3 (upd H3 g (.lst [])) := same_upd hg
        have hD3 := keep2 k3 _ _ hD
        have kd : Kp [d] H1 (upd H3 g (.lst [])) := fun b o nb eb => s4 _ _ (keep2 k3 _ _ (k2 b o nb eb))
        refine ⟨.list (L.map fun r => encP r.2), .list [], .lst (.inl (.inl (s4 _ _ hE))) (dpAll_pairs L fun r hr' => Same.sqT ((keep2 k3).trans s4) (all r hr')), .lst (.inl (.inl upd_same)) .nil, by have z := pairs_shaped (L.map (·.2)); rw [List.map_map] at z; exact z, rfl, _, rfl, ite_any (fun _ => ?_) (fun _ => ?_)⟩
        · refine ⟨_, rfl, _, s4 _ _ hD3, by rw [List.length_map]; exact small1000 (by have := hF.len; omega), F ++ [i], ?_, by rw [upd_same, List.map_append]; rfl, hF.more⟩
          intro b o nb eb
          rw [upd_ne (fun z => nb (by rw [z]; simp))]
          exact kd b o nb eb
        · exact ⟨F, kd, s4 _ _ hD3, hF.wider⟩
    rintro H2 ⟨F, k2, hD, hF⟩
    refine ⟨by show 2 ≤ sizeLine; decide, fun tp htp => ?_⟩
    have hD' : (upd H2 tp (.tup [vN way, .ref d])) d = some (.lst (F.map vN)) := (same_upd htp) _ _ hD
    refine ⟨tp, _, rfl, .inl (.inl upd_same), rfl, _, _, rfl, _, _, rfl, rfl, ?_⟩
    have s3 : Same H1 (upd H2 tp (.tup [vN way, .ref d])) := (keep k2).trans (same_upd htp)
    generalize upd H2 tp (.tup [vN way, .ref d]) = H3 at s3 hD'
    have hP3 := hP1.same s3
    have k3 : Kp [p, l] H H3 := k1.trans (Same.kp s3)
    have dpl : d ∉ [p, l] := hP1.free hd
    have hd0 : H d = none := kp_free k1 dpl hd
    refine ⟨_, rfl, _, _, rfl, rfl, _, rfl, ite_any (fun _ => ?_) (fun hw4 => ?_)⟩
    · refine ⟨_, rfl, _, rfl, _, rfl, by omega, by omega, fun e he => ?_⟩
      have hde : d ≠ e := ne_of_none hD' he
      have epl : e ∉ [p, l] := hP3.free he
      refine lc_range (lo := 0) (n := n) (fun i H' => ∃ G : List Nat, Kp [p, l, e] H3 H' ∧ H' e = some (.lst (G.map vN)) ∧ PoolAt H' p l ∧ Upto G i ∧ ∀ x ∈ G, x ∉ F)
        ⟨[], (fun b o x e' => by rw [upd_ne (ne_of_none e' he)]; exact e'), upd_same, hP3.same (same_upd he), Upto.nil 0, fun _ h => nomatch h⟩ ?_ ?_
      · rintro i H4 hi ⟨G, k4, hE, hP4, hG, off⟩
        have e0 : (0 : Int) + (i : Nat) = (i : Nat) := by omega
        have hD4 : H4 d = some (.lst (F.map vN)) := k4 _ _ (by simp only [List.mem_cons, List.not_mem_nil, or_false] at dpl ⊢; simp [dpl, hde]) hD'
        refine ⟨rfl, ?_⟩
        rw [e0]
        refine ⟨_, rfl, _, rfl, d, _, rfl, .inl (.inl (.inl hD4)), rfl, all_vN F, _, rfl, ite_any (fun hn => ?_) (fun _ => ?_)⟩
        · have hn' : i ∉ F := by
            have hn2 : (!inV (vN i) (F.map vN)) = true := hn
            rw [in_vN] at hn2
            simpa using hn2
          refine ⟨_, rfl, _, _, rfl, rfl, _, rfl, ite_any (fun _ => ?_) (fun _ => ?_)⟩
          · refine ⟨_, rfl, p, l, 6, rfl, hP4, by decide, by decide, fun r H5 hr5 hP5 k5 => ?_⟩
            have k45 : Kp [p, l, e] H3 H5 := fun b o nb eb => k5 _ _ (fun m => nb (by simp only [List.mem_cons, List.not_mem_nil, or_false] at m ⊢; rcases m with m | m <;> simp [m])) (k4 b o nb eb)
            have hE5 := k5 _ _ epl hE
            refine ⟨rfl, _, rfl, ite_any (fun _ => ?_) (fun _ => ?_)⟩
            · refine ⟨_, rfl, _, hE5, by rw [List.length_map]; exact small1000 (by have := hG.len; omega), G ++ [i], ?_, by rw [upd_same, List.map_append]; rfl, ?_, hG.more, ?_⟩
              · intro b o nb eb
                rw [upd_ne (fun z => nb (by rw [z]; simp))]
                exact k45 b o nb eb
              · exact hP5.set epl
              · intro x hx
                rcases List.mem_append.mp hx with hx | hx
                · exact off x hx
                · rw [List.mem_singleton.mp hx]
                  exact hn'
            · exact ⟨G, k45, hE5, hP5, hG.wider, off⟩
          · exact ⟨G, k4, hE, hP4, hG.wider, off⟩
        · exact ⟨G, k4, hE, hP4, hG.wider, off⟩
      · rintro H4 ⟨G, k4, hE, hP4, hG, off⟩
        have hD4 : H4 d = some (.lst (F.map vN)) := k4 _ _ (by simp only [List.mem_cons, List.not_mem_nil, or_false] at dpl ⊢; simp [dpl, hde]) hD'
        refine ⟨d, e, _, _, rfl, rfl, hD4, hE, ?_, fun z hz => ?_⟩
        · rw [List.length_map, List.length_map]
          have h1 := hF.len
          have h2 := hG.len
          show F.length + G.length ≤ sizeLine
          have h3 : (1000 : Nat) ≤ sizeLine := by decide
          omega
        · have s5 : Same H4 (upd H4 z (.lst (F.map vN ++ G.map vN))) := same_upd hz
          have k34 : Kp [p, l] H H4 := kp_made k3 he k4
          refine q z (F ++ G) _ ?_ ?_ (kp_free k34 (hP4.free hz) hz) (by rw [upd_same, List.map_append]) (hP4.same s5) (k34.trans (Same.kp s5))
          · rw [List.nodup_append]
            exact ⟨up_nodup hF.up, up_nodup hG.up, fun x hx y hy z => off y hy (z ▸ hx)⟩
          · intro x hx
            rcases List.mem_append.mp hx with hx | hx
            · exact hF.lt x hx
            · exact hG.lt x hx
    · have hw4' := of_decide_eq_false hw4
      refine ⟨_, rfl, _, _, rfl, rfl, _, rfl, ite_any (fun hw => ?_) (fun _ => ?_)⟩
      · refine ⟨_, rfl, _, rfl, by omega, by omega, fun e he => ?_⟩
        have epl : e ∉ [p, l] := hP3.free he
        refine lc_range (lo := 0) (n := n) (fun i H' => ∃ G : List Nat, Kp [p, l, e] H3 H' ∧ H' e = some (.lst (G.map vN)) ∧ PoolAt H' p l ∧ Upto G i)
          ⟨[], (fun b o x e' => by rw [upd_ne (ne_of_none e' he)]; exact e'), upd_same, hP3.same (same_upd he), Upto.nil 0⟩ ?_ ?_
        · rintro i H4 hi ⟨G, k4, hE, hP4, hG⟩
          have e0 : (0 : Int) + (i : Nat) = (i : Nat) := by omega
          refine ⟨rfl, ?_⟩
          rw [e0]
          refine ⟨_, rfl, _, rfl, _, _, rfl, rfl, p, l, way - 2, ?_, hP4, by omega, by omega, fun r H5 hr5 hP5 k5 => ?_⟩
          · have : ((way : Nat) : Int) - 2 = ((way - 2 : Nat) : Int) := by omega
            show [V.ref p, V.int ((way : Nat) - 2)] = [V.ref p, V.int ((way - 2 : Nat) : Int)]
            rw [this]
          have k45 : Kp [p, l, e] H3 H5 := fun b o nb eb => k5 _ _ (fun m => nb (by simp only [List.mem_cons, List.not_mem_nil, or_false] at m ⊢; rcases m with m | m <;> simp [m])) (k4 b o nb eb)
          have hE5 := k5 _ _ epl hE
          refine ⟨rfl, _, rfl, ite_any (fun _ => ?_) (fun _ => ?_)⟩
          · refine ⟨_, rfl, _, hE5, by rw [List.length_map]; exact small1000 (by have := hG.len; omega), G ++ [i], ?_, by rw [upd_same, List.map_append]; rfl, hP5.set epl, hG.more⟩
            intro b o nb eb
            rw [upd_ne (fun z => nb (by rw [z]; simp))]
            exact k45 b o nb eb
          · exact ⟨G, k45, hE5, hP5, hG.wider⟩
        · rintro H4 ⟨G, k4, hE, hP4, hG⟩
          have k34 : Kp [p, l] H H4 := kp_made k3 he k4
          exact q e G _ (up_nodup hG.up) hG.lt (kp_free k3 epl he) hE hP4 k34
      · refine ⟨_, rfl, p, l, 3, rfl, hP3, by decide, by decide, fun r H4 hr4 hP4 k4 => ?_⟩
        refine ⟨_, _, rfl, rfl, _, rfl, ite_any (fun _ => ?_) (fun _ => ?_)⟩
        · refine ⟨Nat.zero_le _, fun e he => ?_⟩
          have epl : e ∉ [p, l] := hP4.free he
          exact q e [] _ .nil (fun _ h => nomatch h) (kp_free (k3.trans k4) epl he) upd_same (hP4.set epl) ((k3.trans k4).trans (Same.kp (same_upd he)))
        · refine ⟨_, rfl, _, rfl, .of_le (by omega) (by omega) (by omega) (by omega), fun e he => ?_⟩
          have epl : e ∉ [p, l] := hP4.free he
          exact q e (List.range n) _ (up_nodup (range_up n)) (fun _ h => List.mem_range.mp h) (kp_free (k3.trans k4) epl he) (by rw [upd_same, rgV_nat]) (hP4.set epl) ((k3.trans k4).trans (Same.kp (same_upd he)))
end
end Ft

set_option Elab.async false
set_option linter.all false
set_option maxRecDepth 100000
set_option maxHeartbeats 8000000
namespace Ft
open PySem PySem.Spec PyProof.Rows L2
/-- pairs as fresh tuples -/
def TupsAt (H : Hp) (L : List (Addr × (Nat × Nat))) : Prop := ∀ r ∈ L, H r.1 = some (.tup [vN r.2.1, vN r.2.2])
theorem TupsAt.keep {ex : List Addr} {H H' : Hp} (k : Kp ex H H') (l : Lists ex H) {L : List (Addr × (Nat × Nat))} (h : TupsAt H L) : TupsAt H' L := fun r hr => by
  refine k _ _ (fun m => ?_) (h r hr)
  obtain ⟨o, e, n, _⟩ := l _ m
  rw [h r hr] at e
  exact n _ (Option.some.inj e).symm
theorem TupsAt.same {H H' : Hp} (k : Same H H') {L : List (Addr × (Nat × Nat))} (h : TupsAt H L) : TupsAt H' L := fun r hr => k _ _ (h r hr)
theorem TupsAt.set {H : Hp} {d : Addr} {xs : List V} {o : HO} (hd : H d = some (.lst xs)) {L : List (Addr × (Nat × Nat))} (h : TupsAt H L) : TupsAt (upd H d o) L := fun r hr => by
  have := h r hr
  rw [upd_ne (fun z => by rw [z, hd] at this; cases this)]
  exact this
theorem TupsAt.add {H : Hp} {t : Addr} {p : Nat × Nat} {L : List (Addr × (Nat × Nat))} (h : TupsAt H L) (ht : H t = some (.tup [vN p.1, vN p.2])) : TupsAt H (L ++ [(t, p)]) := fun r hr => by
  rcases List.mem_append.mp hr with hr | hr
  · exact h r hr
  · rw [List.mem_singleton.mp hr]
    exact ht
theorem TupsAt.pairs {K : PySem.W.Frag} {H : Hp} : ∀ {L : List (Addr × (Nat × Nat))}, TupsAt H L → PairsAt K H (L.map (·.1)) (L.map (·.2))
  | [], _ => .nil
  | r :: L, h => .cons (.inl (.inl (h r List.mem_cons_self))) (TupsAt.pairs fun q hq => h q (List.mem_cons_of_mem _ hq))
theorem TupsAt.not {H : Hp} {d : Addr} {xs : List V} (hd : H d = some (.lst xs)) {L : List (Addr × (Nat × Nat))} (h : TupsAt H L) : ∀ r ∈ L, r.1 ≠ d := fun r hr z => by
  have := h r hr
  rw [z, hd] at this
  cases this
theorem Named.few {n : Nat} {prs : List (Nat × Nat)} {ws perm : List Nat} {C : Chart} (h : Named n prs ws perm C) : C.roads.length ≤ prs.length := by
  have nd : C.roads.Nodup := h.ok.upR.imp fun {a b} hab (e : a = b) => by
    subst e
    unfold ltP at hab
    omega
  have h1 := nodup_sub_len C.roads (prs.map fun q => (nm perm q.1, nm perm q.2)) nd fun q hq => by
    obtain ⟨a, b, hab, e1, e2⟩ := (h.roads q.1 q.2).mp hq
    exact List.mem_map.mpr ⟨(a, b), hab, Prod.ext e1.symm e2.symm⟩
  rwa [List.length_map] at h1
theorem floor_nat (i z : Nat) : (i : Int) / (1 + (z : Int)) * (1 + (z : Int)) = ((i / (1 + z) * (1 + z) : Nat) : Int) := by
  push_cast
  rfl
section
variable {P : Program} {w : World} {K : PySem.W.Frag} {mg : Str → Option Value} {base : Heap} {t1 t2 : Tok}
/-! ### _law_map_drawn -/
def sp_law_map_drawn (K : PySem.W.Frag) : Sp := fun vs H Q _ => ∃ (p l : Addr) (most : Nat), vs = [.ref p, vN most] ∧ PoolAt H p l ∧ most ≤ 20 ∧ ∀ (c : Addr) (C : Chart) (H' : Hp), IsChart K H' c C → C.Ok → C.n ≤ most → C.roads.length < 64 → PoolAt H' p l → Kp [p, l] H H' → Q (.ref c) H'
theorem cal_law_map_drawn (T : Txt mg) (D : Def K mg "_law_map_drawn" s_law_map_drawn) (c_law_draw : Cal P w K mg base 2 "_law_draw" sp_law_draw) (c_law_map_named : Cal P w K mg base 4 "_law_map_named" (sp_law_map_named K))
    (c_law_map_some_wished : Cal P w K mg base 3 "_law_map_some_wished" (sp_law_map_some_wished K)) : Cal P w K mg base 5 "_law_map_drawn" (sp_law_map_drawn K) := by
  refine cal_of D sc_law_map_drawn (fun _ _ _ _ _ _ us hl => match us, hl with | [_, _], _ => rfl) (fun vs H Q E h => ?_) (fun f cdv A outer s H vs Q E hr h => ?_)
  · obtain ⟨p, l, most, rfl, _⟩ := h
    rfl
  · obtain ⟨p, l, most, rfl, hP, m20, q⟩ := h
    have hU := hr.units
    refine ⟨_, (pss_cons (ps_set (i := 2) sc_law_map_drawn.nd rfl (Or.inr rfl) (pe_c c_law_draw hr (by decide) (by rfl) (pa_cons (pv 0) (pa_cons (pe_op op_add (pv 1) pe_int) pa_nil))))
      (pss_cons (ps_if (pt_cmpR op_eq (pv 2) pe_int (nomark _)) (pss_one (ps_ret (pe_tup (pa_cons pe_int (pa_cons (pe_tup pa_nil) (pa_cons (pe_tup pa_nil) pa_nil)))))) pss_nil)
      (pss_cons (ps_par (i := 3) (j := 4) (by rfl) sc_law_map_drawn.nd rfl rfl (by decide) rfl rfl (pa_cons (pe_c c_law_draw hr (by decide) (by rfl) (pa_cons (pv 0) (pa_cons pe_int pa_nil))) (pa_cons (pe_lst pa_nil) pa_nil)) (by rfl))
      (pss_cons (ps_for PassesOwn.never rfl (pi_range1 (by rfl) T.range (pa_cons (pe_c c_law_draw hr (by decide) (by rfl) (pa_cons (pv 0) (pa_cons (pe_op op_add (pe_op op_mul pe_int (pv 2)) pe_int) pa_nil))) pa_nil)) (pg_name (i := 5) sc_law_map_drawn.nd rfl (Or.inl rfl)) (pss_cons (ps_par (i := 6) (j := 7) (by rfl) sc_law_map_drawn.nd rfl rfl (by decide) rfl rfl (pa_cons (pe_c c_law_draw hr (by decide) (by rfl) (pa_cons (pv 0) (pa_cons (pv 2) pa_nil))) (pa_cons (pe_c c_law_draw hr (by decide) (by rfl) (pa_cons (pv 0) (pa_cons (pv 2) pa_nil))) pa_nil)) (by rfl))
        (pss_cons (ps_set (i := 8) sc_law_map_drawn.nd rfl (Or.inl rfl) (pe_mid (pe_or (pe_cmpR op_eq (pv 3) pe_int (nomark _)) (pe_one (pe_and (pe_cmpR op_gt (pv 3) pe_int (nomark _)) (pe_one (pe_cmpR op_gt (pe_c c_law_draw hr (by decide) (by rfl) (pa_cons (pv 0) (pa_cons pe_int pa_nil))) pe_int (nomark _))))))))
        (pss_one (ps_expr (pe_bm PySem.F.plainAttrs_list PySem.F.slot_list_append PySem.F.type_list_append mt_append (pv 4) (pa_cons (pe_mid (pe_ifExp (pt_truth (pv 8) (by intro _; rfl)) (pe_tup (pa_cons (pe_callB (call_min2 rfl) (by rfl) T.min (by decide +kernel) (pa_cons (pv 6) (pa_cons (pv 7) pa_nil))) (pa_cons (pe_callB (call_max2 rfl) (by rfl) T.max (by decide +kernel) (pa_cons (pv 6) (pa_cons (pv 7) pa_nil))) pa_nil))) (pe_tup (pa_cons (pv 6) (pa_cons (pv 7) pa_nil))))) pa_nil)))))))
      (ps_cut (ps_if (pt_cmpR op_eq (pv 3) pe_int (nomark _)) (pss_cons (ps_set (i := 9) sc_law_map_drawn.nd rfl (Or.inr rfl) (pe_op op_add pe_int (pe_c c_law_draw hr (by decide) (by rfl) (pa_cons (pv 0) (pa_cons pe_int pa_nil)))))
        (pss_one (ps_set (i := 4) sc_law_map_drawn.nd rfl (Or.inl rfl) (pe_op op_cat (pv 4) (pe_lc (own := [("a", 6)]) rfl sc_law_map_drawn.nd (pi_range1 (by rfl) T.range (pa_cons (pe_op op_sub (pv 2) pe_int) pa_nil)) (blkOk_by (N := ["pool", "most", "places", "way", "roads", "turn", "a", "b", "ahead", "size"]) (sc := L2.defScope s_law_map_drawn) (by decide +kernel)) (fun _ _ _ _ _ => (pg_name (i := 6) sc_law_map_drawn.nd rfl (Or.inl rfl))) (fun _ _ _ _ _ => pts_nil) (fun _ _ _ _ _ => (pe_tup (pa_cons (pv 6) (pa_cons (pe_mid (pe_ifExp (PW.pt (pw_and (pt_cmpR op_gt (pe_op op_mod (pe_callTy call_int1 (by rfl) T.int (by decide +kernel) (pa_cons (pe_op op_add (pv 6) pe_int) pa_nil)) (pv 9)) pe_int (nomark _)) (pw_and1 (pt_cmpR op_lt (pe_op op_add (pv 6) pe_int) (pv 2) (nomark _))))) (pe_op op_add (pv 6) pe_int) (pe_op op_mul (pe_op op_fdiv (pv 6) (pv 9)) (pv 9)))) pa_nil))))))))) pss_nil)
      (pss_one (ps_ret (pe_ix (show IxR _ (rIxL K) from ix_list) (pe_c c_law_map_named hr (by decide) (by rfl) (pa_cons (pv 0) (pa_cons (pv 2) (pa_cons (pv 4) (pa_cons (pe_c c_law_map_some_wished hr (by decide) (by rfl) (pa_cons (pv 0) (pa_cons (pv 2) (pa_cons (pv 4) pa_nil)))) pa_nil))))) pe_int (fun _ _ => rfl))))))))), ?_⟩
    refine ⟨_, rfl, _, rfl, _, _, rfl, rfl, p, l, most + 1, rfl, hP, by omega, by omega, fun n H1 hn hP1 k1 => ?_⟩
    refine ⟨_, rfl, rfl, _, rfl, ite_any (fun h0 => ?_) (fun h0 => ?_)⟩
    · have hn0 : n = 0 := by
        have := of_decide_eq_true h0
        unfold vN at this
        have := V.int.inj this
        omega
      refine ⟨Nat.zero_le _, fun r1 h1 => ?_⟩
      have s1 : Same H1 (upd H1 r1 (.tup [])) := same_upd h1
      have hT1 : (upd H1 r1 (.tup [])) r1 = some (.tup []) := upd_same
      generalize upd H1 r1 (.tup []) = H2 at s1 hT1
      refine ⟨Nat.zero_le _, fun r2 h2 => ?_⟩
      have s2 : Same H2 (upd H2 r2 (.tup [])) := same_upd h2
      have hT2 : (upd H2 r2 (.tup [])) r2 = some (.tup []) := upd_same
      generalize upd H2 r2 (.tup []) = H3 at s2 hT2
      refine ⟨by show 3 ≤ sizeLine; decide, fun c hc => ?_⟩
      have s3 : Same H3 (upd H3 c (.tup [.int 0, .ref r1, .ref r2])) := same_upd hc
      have s13 := (s1.trans s2).trans s3
      refine q c ⟨0, [], []⟩ _ ⟨r1, r2, [], .inl (.inl upd_same), .inl (.inl (s3 _ _ (s2 _ _ hT1))), .nil, .inl (.inl (s3 _ _ hT2))⟩ ⟨by decide, by decide, (fun _ h => nomatch h), .nil, (fun _ h => nomatch h), .nil⟩ (Nat.zero_le _) (by show (0 : Nat) < 64; decide) (hP1.same s13) (k1.trans (Same.kp s13))
    have hn0 : 0 < n := by
      have := of_decide_eq_false h0
      unfold vN at this
      rcases Nat.eq_zero_or_pos n with e | e
      · exact absurd (by rw [e]; rfl) this
      · exact e
    refine ⟨_, rfl, p, l, 4, rfl, hP1, by decide, by decide, fun way H2 hway hP2 k2 => ?_⟩
    refine ⟨Nat.zero_le _, fun d hd => ?_⟩
    have s3 : Same H2 (upd H2 d (.lst [])) := same_upd hd
    have hD3 : (upd H2 d (.lst [])) d = some (.lst []) := upd_same
    have dpl : d ∉ [p, l] := hP2.free hd
    have hP3 := hP2.same s3
    have k3 : Kp [p, l] H (upd H2 d (.lst [])) := (k1.trans k2).trans (Same.kp s3)
    have hd0 : H d = none := kp_free (k1.trans k2) dpl hd
    generalize upd H2 d (.lst []) = H3 at s3 hD3 hP3 k3
    refine ⟨_, _, rfl, ?_⟩
    refine ⟨_, rfl, _, rfl, _, _, rfl, rfl, .inl ⟨by decide, by decide⟩, _, _, rfl, rfl, p, l, 2 * n + 2, rfl, hP3, by omega, by omega, fun m H4 hm hP4 k4 => ?_⟩
    have hD4 := k4 _ _ dpl hD3
    have kset : ∀ {H' : Hp} {o : HO}, Kp [p, l] H H' → Kp [p, l] H (upd H' d o) := fun {H' o} k b x nb e => by
      rw [upd_ne (ne_of_none e hd0)]
      exact k b x nb e
    refine ⟨_, rfl, by omega, by omega, for_range (lo := 0) (n := m) (fun i σ H' => ∃ (L : List (Addr × (Nat × Nat))) (v5 v6 v7 v8 : Option V), σ = [some (.ref p), some (vN most), some (vN n), some (vN way), some (.ref d), v5, v6, v7, v8, none] ∧ PoolAt H' p l ∧ Kp [p, l] H H' ∧ H' d = some (.lst (L.map fun r => V.ref r.1)) ∧ TupsAt H' L ∧ (∀ r ∈ L, r.2.1 < n ∧ r.2.2 < n) ∧ L.length = i)
      ⟨[], _, _, _, _, rfl, hP4, k3.trans k4, hD4, (fun _ h => nomatch h), (fun _ h => nomatch h), rfl⟩ ?_ ?_⟩
    · rintro i σ H5 hi ⟨L, v5, v6, v7, v8, rfl, hP5, k5, hD5, hL5, inL, eL⟩
      refine ⟨_, rfl, _, rfl, p, l, n, rfl, hP5, by omega, by omega, fun a H6 ha hP6 k6 => ?_⟩
      refine ⟨_, rfl, _, rfl, p, l, n, rfl, hP6, by omega, by omega, fun b H7 hb hP7 k7 => ?_⟩
      refine ⟨_, _, rfl, ?_⟩
      have k67 := k6.trans k7
      have hD7 := k67 _ _ dpl hD5
      have hL7 : TupsAt H7 L := hL5.keep k67 hP5.lists
      refine ⟨fun v H' => ∃ c : Bool, v = .bl c ∧ PoolAt H' p l ∧ Kp [p, l] H7 H', ⟨_, rfl, rfl, _, rfl, ite_any (fun _ => ⟨_, rfl, hP7, Kp.refl _ _⟩) (fun _ => ⟨_, rfl, _, _, rfl, rfl, _, rfl, ite_any (fun _ => ?_) (fun _ => ⟨_, rfl, hP7, Kp.refl _ _⟩)⟩)⟩, ?_⟩
      · exact ⟨_, rfl, p, l, 5, rfl, hP7, by decide, by decide, fun r H8 hr8 hP8 k8 => ⟨_, _, rfl, rfl, _, rfl, hP8, k8⟩⟩
      rintro v H8 ⟨c, rfl, hP8, k8⟩
      have hD8 := k8 _ _ dpl hD7
      have hL8 : TupsAt H8 L := hL7.keep k8 hP7.lists
      refine ⟨_, rfl, .inl ⟨rfl, _, .inl (.inl hD8)⟩, ?_⟩
      refine ⟨fun v H' => ∃ (t : Addr) (x y : Nat), v = .ref t ∧ H8 t = none ∧ H' = upd H8 t (.tup [vN x, vN y]) ∧ x < n ∧ y < n, ⟨_, rfl, _, rfl, ite_any (fun _ => ?_) (fun _ => ?_)⟩, ?_⟩
      · refine ⟨_, rfl, _, rfl, _, _, rfl, _, rfl, _, rfl, _, _, rfl, by show 2 ≤ sizeLine; decide, fun t ht => ?_⟩
        have e1 : V.int (if (b : Int) < (a : Int) then (b : Int) else (a : Int)) = vN (if b < a then b else a) := by
          by_cases h : b < a
          · rw [if_pos h, if_pos (by omega)]
            rfl
          · rw [if_neg h, if_neg (by omega)]
            rfl
        have e2 : V.int (if (a : Int) < (b : Int) then (b : Int) else (a : Int)) = vN (if a < b then b else a) := by
          by_cases h : a < b
          · rw [if_pos h, if_pos (by omega)]
            rfl
          · rw [if_neg h, if_neg (by omega)]
            rfl
        refine ⟨t, (if b < a then b else a), (if a < b then b else a), rfl, ht, by rw [← e1, ← e2], ?_, ?_⟩
        · by_cases h : b < a
          · rw [if_pos h]; exact hb
          · rw [if_neg h]; exact ha
        · by_cases h : a < b
          · rw [if_pos h]; exact hb
          · rw [if_neg h]; exact ha
      · exact ⟨_, rfl, _, rfl, by show 2 ≤ sizeLine; decide, fun t ht => ⟨t, a, b, rfl, ht, rfl, ha, hb⟩⟩
      rintro v H9 ⟨t, x, y, rfl, ht, rfl, hx, hy⟩
      have s9 : Same H8 (upd H8 t (.tup [vN x, vN y])) := same_upd ht
      have hT9 : (upd H8 t (.tup [vN x, vN y])) t = some (.tup [vN x, vN y]) := upd_same
      have hD9 := s9 _ _ hD8
      refine ⟨d, _, _, rfl, rfl, hD9, by rw [List.length_map]; exact small1000 (by omega), L ++ [(t, (x, y))], _, _, _, _, rfl, (hP8.same s9).set dpl, kset ((k5.trans (k67.trans k8)).trans (Same.kp s9)), by rw [upd_same, List.map_append]; rfl, ((hL8.same s9).add hT9).set hD9, ?_, by rw [List.length_append, eL]; rfl⟩
      intro r hr'
      rcases List.mem_append.mp hr' with hr' | hr'
      · exact inL r hr'
      · rw [List.mem_singleton.mp hr']
        exact ⟨hx, hy⟩
    rintro σ H5 ⟨L, v5, v6, v7, v8, rfl, hP5, k5, hD5, hL5, inL, eL⟩
    refine ⟨fun σ' H' => ∃ (ro : Addr) (L' : List (Addr × (Nat × Nat))) (v5 v6 v7 v8 v9 : Option V), σ' = [some (.ref p), some (vN most), some (vN n), some (vN way), some (.ref ro), v5, v6, v7, v8, v9] ∧ PoolAt H' p l ∧ Kp [p, l] H H' ∧ ro ∉ [p, l] ∧ H' ro = some (.lst (L'.map fun r => V.ref r.1)) ∧ TupsAt H' L' ∧ (∀ r ∈ L', r.2.1 < n ∧ r.2.2 < n) ∧ L'.length < 64, ?_, ?_⟩
    · refine ⟨_, rfl, rfl, _, rfl, ite_any (fun _ => ?_) (fun _ => ?_)⟩
      · refine ⟨_, rfl, p, l, 3, rfl, hP5, by decide, by decide, fun z H6 hz hP6 k6 => ?_⟩
        have hD6 := k6 _ _ dpl hD5
        have hL6 : TupsAt H6 L := hL5.keep k6 hP5.lists
        refine ⟨_, _, rfl, rfl, ?_⟩
        refine ⟨_, rfl, _, rfl, _, _, rfl, rfl, _, rfl, by omega, by omega, fun e he => ?_⟩
        have epl : e ∉ [p, l] := hP6.free he
        have hde : d ≠ e := ne_of_none hD6 he
        refine lc_range (lo := 0) (n := ((n : Int) - 1).toNat) (fun i H' => ∃ M : List (Addr × (Nat × Nat)), Kp [e] H6 H' ∧ H' e = some (.lst (M.map fun r => V.ref r.1)) ∧ TupsAt H' M ∧ (∀ r ∈ M, r.2.1 < n ∧ r.2.2 < n) ∧ M.length ≤ i)
          ⟨[], (fun b o x e' => by rw [upd_ne (ne_of_none e' he)]; exact e'), upd_same, (fun _ h => nomatch h), (fun _ h => nomatch h), Nat.zero_le _⟩ ?_ ?_
        · rintro i H7 hi ⟨M, k7, hE, hM, inM, eM⟩
          have e0 : (0 : Int) + (i : Nat) = (i : Nat) := by omega
          refine ⟨rfl, ?_⟩
          rw [e0]
          refine ⟨_, rfl, fun v H' => ∃ x : Nat, x < n ∧ v = vN x ∧ H' = H7, ?_, ?_⟩
          · have fl : ∃ x : Nat, x < n ∧ V.int ((i : Int) / (1 + (z : Int)) * (1 + (z : Int))) = vN x ∧ H7 = H7 := by
              refine ⟨i / (1 + z) * (1 + z), ?_, congrArg V.int (floor_nat i z), rfl⟩
              have := Nat.div_mul_le_self i (1 + z)
              omega
            have z1 : (0 : Int) < 1 + (z : Int) := by omega
            have z2 : (1 : Int) + (z : Int) < 1073741824 := by omega
            have z3 : -2 ^ 64 < (1 : Int) + (z : Int) := by omega
            have z4 : (1 : Int) + (z : Int) < 2 ^ 64 := by omega
            refine ⟨_, rfl, _, _, rfl, rfl, .inl ⟨_, rfl, _, rfl, _, _, rfl, rfl, z1, _, _, rfl, rfl, _, rfl, ite_any (fun _ => ?_) (fun _ => ?_)⟩⟩
            · refine ⟨_, rfl, _, _, rfl, rfl, _, rfl, _, _, rfl, rfl, _, rfl, ite_any (fun hx => ?_) (fun _ => ?_)⟩
              · have hx' := of_decide_eq_true hx
                exact ⟨_, rfl, _, _, rfl, rfl, i + 1, by omega, rfl, rfl⟩
              · exact ⟨_, rfl, _, rfl, _, _, rfl, rfl, ⟨z1, z2⟩, _, rfl, _, _, rfl, rfl, .inr ⟨z3, z4⟩, fl⟩
            · exact ⟨_, rfl, _, rfl, _, _, rfl, rfl, ⟨z1, z2⟩, _, rfl, _, _, rfl, rfl, .inr ⟨z3, z4⟩, fl⟩
          rintro v H8 ⟨x, hx, rfl, rfl⟩
          refine ⟨by show 2 ≤ sizeLine; decide, fun t ht => ?_⟩
          have s9 : Same H8 (upd H8 t (.tup [vN i, vN x])) := same_upd ht
          have hT9 : (upd H8 t (.tup [vN i, vN x])) t = some (.tup [vN i, vN x]) := upd_same
          have hE9 := s9 _ _ hE
          refine ⟨_, hE9, by rw [List.length_map]; exact small1000 (by omega), M ++ [(t, (i, x))], ?_, by rw [upd_same, List.map_append]; rfl, ((hM.same s9).add hT9).set hE9, ?_, by rw [List.length_append]; exact Nat.succ_le_succ eM⟩
          · intro b o nb eb
            rw [upd_ne (fun z => nb (by rw [z]; simp))]
            exact s9 _ _ (k7 b o nb eb)
          · intro r hr'
            rcases List.mem_append.mp hr' with hr' | hr'
            · exact inM r hr'
            · rw [List.mem_singleton.mp hr']
              exact ⟨by show i < n; omega, hx⟩
        · rintro H7 ⟨M, k7, hE, hM, inM, eM⟩
          have s7 : Same H6 H7 := fun b o eb => k7 b o (fun m => by rw [List.mem_singleton.mp m, he] at eb; cases eb) eb
          have hP7 := hP6.same s7
          refine ⟨d, e, _, _, rfl, rfl, s7 _ _ hD6, hE, ?_, fun ro hro => ?_⟩
          · rw [List.length_map, List.length_map]
            have h3 : (1000 : Nat) ≤ sizeLine := by decide
            omega
          · have s8 : Same H7 (upd H7 ro (.lst ((L.map fun r => V.ref r.1) ++ M.map fun r => V.ref r.1))) := same_upd hro
            refine ⟨ro, L ++ M, _, _, _, _, _, rfl, hP7.same s8, (k5.trans k6).trans (Same.kp (s7.trans s8)), hP7.free hro, by rw [upd_same, List.map_append], ?_, ?_, by rw [List.length_append]; omega⟩
            · intro r hr'
              rcases List.mem_append.mp hr' with hr' | hr'
              · exact (hL6.same (s7.trans s8)) r hr'
              · exact (hM.same s8) r hr'
            · intro r hr'
              rcases List.mem_append.mp hr' with hr' | hr'
              · exact inL r hr'
              · exact inM r hr'
      · exact ⟨d, L, _, _, _, _, _, rfl, hP5, k5, dpl, hD5, hL5, inL, by omega⟩
    · rintro σ' H6 ⟨ro, L', v5, v6, v7, v8, v9, rfl, hP6, k6, rpl, hRo, hL', inL', few⟩
      have ePr : (L'.map fun r => V.ref r.1) = (L'.map (·.1)).map V.ref := by rw [List.map_map]; rfl
      rw [ePr] at hRo
      have len : (L'.map (·.2)).length < 64 := by rw [List.length_map]; exact few
      refine ⟨_, rfl, _, rfl, _, rfl, _, rfl, _, rfl, _, rfl, p, l, ro, n, L'.map (·.1), L'.map (·.2), rfl, hP6, by omega, hRo, rpl, hL'.pairs, len, fun wi ws H7 nd ltw hw0 hW hP7 k7 => ?_⟩
      have hRo7 := k7 _ _ rpl hRo
      refine ⟨p, l, ro, wi, n, L'.map (·.1), L'.map (·.2), ws, rfl, hP7, by omega, hRo7, rpl, hL'.pairs.keep k7 hP6.lists, len, ?_, hW, hP6.free hw0, ?_, ltw, fun q' c na perm C H8 pm _ _ hQ hC _ nmd hP8 k8 => ?_⟩
      · intro r hr'
        obtain ⟨z, hz, rfl⟩ := List.mem_map.mp hr'
        exact inL' z hz
      · have := nodup_lt_len nd ltw
        omega
      · refine ⟨q', _, _, _, rfl, rfl, .inl (.inl hQ), rfl, ?_⟩
        exact q c C H8 hC nmd.ok (by rw [nmd.n]; omega) (Nat.lt_of_le_of_lt nmd.few len) hP8 ((k6.trans k7).trans k8)
end
end Ft

set_option Elab.async false
set_option linter.all false
set_option maxRecDepth 100000
set_option maxHeartbeats 4000000
/-! Plain mathematics: the law's own way of meeting places, row by row -/
namespace Ft
structure Layer (n : Nat) (rs : List (Nat × Nat)) (ws : List Nat) (a : Nat) (F W : List Nat) : Prop where
  nd : F.Nodup
  lt : ∀ b ∈ F, b < n
  fair : ∀ b ∈ F, Reach rs ws a b
  wait : ∀ x ∈ W, x = a ∨ (x ∈ F ∧ x ∉ ws)
  ok : ∀ x, (x = a ∨ (x ∈ F ∧ x ∉ ws)) → x ∈ W ∨ ∀ b, (x, b) ∈ rs → b ∈ F
theorem Layer.start {n : Nat} {rs : List (Nat × Nat)} {ws : List Nat} {a : Nat} : Layer n rs ws a [] [a] :=
  ⟨List.nodup_nil, fun _ h => absurd h List.not_mem_nil, fun _ h => absurd h List.not_mem_nil, fun x h => .inl (List.mem_singleton.mp h), fun x h => by
    rcases h with h | h
    · exact .inl (List.mem_singleton.mpr h)
    · exact absurd h.1 List.not_mem_nil⟩
theorem Layer.step {n : Nat} {rs : List (Nat × Nat)} {ws : List Nat} {a : Nat} {F W A : List Nat} (L : Layer n rs ws a F W) (inR : ∀ p ∈ rs, p.1 < n ∧ p.2 < n) (nd : A.Nodup) (hA : ∀ b, b ∈ A ↔ ∃ x ∈ W, (x, b) ∈ rs) :
    Layer n rs ws a (F ++ A.filter fun b => !decide (b ∈ F)) ((A.filter fun b => !decide (b ∈ F)).filter fun b => !decide (b ∈ ws)) := by
  have mem : ∀ b, b ∈ A.filter (fun b => !decide (b ∈ F)) ↔ b ∈ A ∧ b ∉ F := fun b => by simp [List.mem_filter]
  have fairA : ∀ b ∈ A, b < n ∧ Reach rs ws a b := by
    intro b hb
    obtain ⟨x, hx, hr⟩ := (hA b).mp hb
    refine ⟨(inR _ hr).2, ?_⟩
    rcases L.wait x hx with e | ⟨h1, h2⟩
    · rw [e] at hr
      exact .one hr
    · exact .more (L.fair x h1) h2 hr
  refine ⟨?_, ?_, ?_, ?_, ?_⟩
  · rw [List.nodup_append]
    refine ⟨L.nd, nd.filter _, fun x hx y hy e => ?_⟩
    exact ((mem y).mp hy).2 (e ▸ hx)
  · intro b hb
    rcases List.mem_append.mp hb with hb | hb
    · exact L.lt b hb
    · exact (fairA b ((mem b).mp hb).1).1
  · intro b hb
    rcases List.mem_append.mp hb with hb | hb
    · exact L.fair b hb
    · exact (fairA b ((mem b).mp hb).1).2
  · intro x hx
    rw [List.mem_filter] at hx
    exact .inr ⟨List.mem_append_right _ hx.1, by simpa using hx.2⟩
  · intro x hx
    have old : (x = a ∨ (x ∈ F ∧ x ∉ ws)) → ∀ b, (x, b) ∈ rs → b ∈ F ++ A.filter fun b => !decide (b ∈ F) := by
      intro h b hb
      rcases L.ok x h with h1 | h1
      · by_cases hf : b ∈ F
        · exact List.mem_append_left _ hf
        · exact List.mem_append_right _ ((mem b).mpr ⟨(hA b).mpr ⟨x, h1, hb⟩, hf⟩)
      · exact List.mem_append_left _ (h1 b hb)
    rcases hx with e | ⟨h1, h2⟩
    · exact .inr (old (.inl e))
    · rcases List.mem_append.mp h1 with h1 | h1
      · exact .inr (old (.inr ⟨h1, h2⟩))
      · exact .inl (List.mem_filter.mpr ⟨h1, by simpa using h2⟩)
theorem Layer.ends {n : Nat} {rs : List (Nat × Nat)} {ws : List Nat} {a : Nat} {F : List Nat} (L : Layer n rs ws a F []) (x : Nat) : x ∈ F ↔ x < n ∧ ∃ a' ∈ [a], Reach rs ws a' x := by
  constructor
  · intro h
    exact ⟨L.lt x h, a, List.mem_singleton.mpr rfl, L.fair x h⟩
  · rintro ⟨_, a', ha', r⟩
    rw [List.mem_singleton.mp ha'] at r
    refine r.within (S := (· ∈ F)) (fun y hy => ?_) fun y z hy hw hz => ?_
    · rcases L.ok a (.inl rfl) with h | h
      · exact absurd h List.not_mem_nil
      · exact h y hy
    · rcases L.ok y (.inr ⟨hy, hw⟩) with h | h
      · exact absurd h List.not_mem_nil
      · exact h z hz
/-- a sorted row of a set's numbers -/
theorem set_nat {ns : List Int} {A : List Nat} (up : ns.Pairwise (· < ·)) (mem : ∀ j : Int, j ∈ ns ↔ decide (j ∈ iN A) = true) : ∃ wl : List Nat, ns = iN wl ∧ wl.Pairwise (· < ·) ∧ ∀ x, x ∈ wl ↔ x ∈ A := by
  have nn : ∀ y ∈ ns, 0 ≤ y := by
    intro y hy
    have := of_decide_eq_true ((mem y).mp hy)
    unfold iN at this
    obtain ⟨z, _, ez⟩ := List.mem_map.mp this
    omega
  have e : ns = iN (ns.map Int.toNat) := by
    unfold iN
    rw [List.map_map]
    conv => lhs; rw [← List.map_id ns]
    exact List.map_congr_left fun y hy => (Int.toNat_of_nonneg (nn y hy)).symm
  refine ⟨ns.map Int.toNat, e, ?_, fun x => ?_⟩
  · rw [e] at up
    unfold iN at up
    exact (List.pairwise_map.mp up).imp fun h => by omega
  · constructor
    · intro h
      obtain ⟨y, hy, ey⟩ := List.mem_map.mp h
      have h2 := of_decide_eq_true ((mem y).mp hy)
      have h3 : y = (x : Int) := by
        have := nn y hy
        omega
      rw [h3] at h2
      exact iN_mem.mp h2
    · intro h
      exact List.mem_map.mpr ⟨(x : Int), (mem _).mpr (decide_eq_true (iN_mem.mpr h)), by omega⟩
end Ft

set_option Elab.async false
set_option linter.all false
set_option maxRecDepth 100000
set_option maxHeartbeats 8000000
namespace Ft
open PySem PySem.Spec PyProof.Rows L2
theorem ahead_mem {rs : List (Nat × Nat)} {W : List Nat} {b : Nat} : b ∈ (rs.filter fun p => decide (p.1 ∈ W)).map (·.2) ↔ ∃ x ∈ W, (x, b) ∈ rs := by
  simp only [List.mem_map, List.mem_filter, decide_eq_true_eq]
  constructor
  · rintro ⟨⟨x, y⟩, ⟨h1, h2⟩, rfl⟩
    exact ⟨x, h2, h1⟩
  · rintro ⟨x, h1, h2⟩
    exact ⟨(x, b), ⟨h2, h1⟩, rfl⟩
section
variable {P : Program} {w : World} {K : PySem.W.Frag} {mg : Str → Option Value} {base : Heap} {t1 t2 : Tok}
/-! ### _law_map_met -/
def sp_law_map_met (K : PySem.W.Frag) : Sp := fun vs H Q _ => ∃ (c : Addr) (C : Chart) (a : Nat), vs = [.ref c, vN a] ∧ IsChart K H c C ∧ C.Ok ∧ a < C.n ∧ ∀ q H', Same H H' → H q = none → H' q = some (.lst ((met C.n C.roads C.wished [a]).map vN)) → Q (.ref q) H'
theorem cal_law_map_met (T : Txt mg) (D : Def K mg "_law_map_met" s_law_map_met) : Cal P w K mg base 2 "_law_map_met" (sp_law_map_met K) := by
  refine cal_of D sc_law_map_met (fun _ _ _ _ _ _ us hl => match us, hl with | [_, _], _ => rfl) (fun vs H Q E h => ?_) (fun f cdv A outer s H vs Q E hr h => ?_)
  · obtain ⟨c, C, a, rfl, _⟩ := h
    rfl
  · obtain ⟨c, C, a, rfl, ⟨r, wd, ts, hC⟩, ok, ha, q⟩ := h
    have n60 := ok.n60
    have hU := hr.units
    refine ⟨_, (pss_cons (ps_asg (pe_tup (pa_cons (pe_lst pa_nil) (pa_cons (pe_lst (pa_cons (pv 1) pa_nil)) pa_nil))) (show PG _ _ (gTup K 2 _) from pg_tup (by rfl) (pgs_cons (pg_name (i := 2) sc_law_map_met.nd rfl (Or.inr rfl)) (pgs_cons (pg_name (i := 3) sc_law_map_met.nd rfl (Or.inr rfl)) pgs_nil))))
      (pss_cons (ps_for PassesOwn.never rfl (pi_range1 (by rfl) T.range (pa_cons (pe_op op_add (pe_ix (show IxR _ (rIxT K) from ix_tup) (pv 0) pe_int (fun _ _ => rfl)) pe_int) pa_nil)) (pg_name (i := 4) sc_law_map_met.nd rfl (Or.inl rfl)) (pss_cons (ps_setLc (i := 5) (own := [("road", 6)]) rfl sc_law_map_met.nd rfl rfl (sw_true rfl rfl rfl (by decide +kernel)) (show PI _ _ _ (iTup K _) from pi_tup (pe_ix (show IxR _ (rIxT K) from ix_tup) (pv 0) pe_int (fun _ _ => rfl))) (blkOk_by (N := ["chart", "a", "found", "left", "turn", "ahead", "road", "b"]) (sc := L2.defScope s_law_map_met) (by decide +kernel)) (fun _ _ _ _ _ => (pg_name (i := 6) sc_law_map_met.nd rfl (Or.inl rfl))) (fun _ _ _ _ _ => pts_one (pt_cmpR (show OpR _ _ (rIn K false) from op_in_seq) (pe_ix (show IxR _ (rIxT K) from ix_tup) (pv 6) pe_int (fun _ _ => rfl)) (pv 3) (by rfl))) (fun _ _ _ _ _ => (pe_ix (show IxR _ (rIxT K) from ix_tup) (pv 6) pe_int (fun _ _ => rfl))))
        (pss_cons (ps_setLc (i := 5) (own := [("b", 7)]) rfl sc_law_map_met.nd rfl rfl (sw_true rfl rfl rfl (by decide +kernel)) (show PI _ _ _ (iList K _) from pi_list (pe_callB (show CallR _ _ (rSortedSet w) from cr_sortedSet rfl) (by rfl) T.sorted (by decide +kernel) (pa_cons (pe_callTy (show CallR _ _ (rSetN K w) from cr_setN rfl) (by rfl) T.set (by decide +kernel) (pa_cons (pv 5) pa_nil)) pa_nil))) (blkOk_by (N := ["chart", "a", "found", "left", "turn", "ahead", "road", "b"]) (sc := L2.defScope s_law_map_met) (by decide +kernel)) (fun _ _ _ _ _ => (pg_name (i := 7) sc_law_map_met.nd rfl (Or.inl rfl))) (fun _ _ _ _ _ => pts_one (pt_cmpR (show OpR _ _ (rIn K true) from op_notIn_seq) (pv 7) (pv 2) (by rfl))) (fun _ _ _ _ _ => (pv 7)))
        (pss_cons (ps_set (i := 2) sc_law_map_met.nd rfl (Or.inr rfl) (pe_op op_cat (pv 2) (pv 5)))
        (pss_cons (ps_set (i := 3) sc_law_map_met.nd rfl (Or.inr rfl) (pe_lc (own := [("b", 7)]) rfl sc_law_map_met.nd (show PI _ _ _ (iList K _) from pi_list (pv 5)) (blkOk_by (N := ["chart", "a", "found", "left", "turn", "ahead", "road", "b"]) (sc := L2.defScope s_law_map_met) (by decide +kernel)) (fun _ _ _ _ _ => (pg_name (i := 7) sc_law_map_met.nd rfl (Or.inl rfl))) (fun _ _ _ _ _ => pts_one (pt_cmpR (show OpR _ _ (rIn K true) from op_notIn_seq) (pv 7) (pe_ix (show IxR _ (rIxT K) from ix_tup) (pv 0) pe_int (fun _ _ => rfl)) (by rfl))) (fun _ _ _ _ _ => (pv 7))))
        (pss_one (ps_if (pt_cmpR (show OpR _ _ (rEqD K) from op_eqD hU) (pv 3) (pe_lst pa_nil) (nomark _)) (pss_one ps_break) pss_nil)))))))
      (pss_one (ps_ret (pe_callB (show CallR _ _ (rSortedI K) from cr_sortedI) (by rfl) T.sorted (by decide +kernel) (pa_cons (pv 2) pa_nil)))))), ?_⟩
    refine ⟨Nat.zero_le _, fun f0 hf0 => ?_⟩
    have s1 : Same H (upd H f0 (.lst [])) := same_upd hf0
    have hF0 : (upd H f0 (.lst [])) f0 = some (.lst []) := upd_same
    generalize upd H f0 (.lst []) = H1 at s1 hF0
    refine ⟨_, rfl, by show 1 ≤ sizeLine; decide, fun w0 hw0 => ?_⟩
    have s2 : Same H1 (upd H1 w0 (.lst [vN a])) := same_upd hw0
    have hW0 : (upd H1 w0 (.lst [vN a])) w0 = some (.lst [vN a]) := upd_same
    generalize upd H1 w0 (.lst [vN a]) = H2 at s2 hW0
    refine ⟨by show 2 ≤ sizeLine; decide, fun tp htp => ?_⟩
    have s3 : Same H2 (upd H2 tp (.tup [.ref f0, .ref w0])) := same_upd htp
    refine ⟨tp, _, rfl, .inl (.inl upd_same), rfl, _, _, rfl, _, _, rfl, rfl, ?_⟩
    generalize upd H2 tp (.tup [.ref f0, .ref w0]) = H3 at s3
    have s13 := (s1.trans s2).trans s3
    have n1 : ((C.n : Int) + 1).toNat = C.n + 1 := by omega
    refine ⟨_, rfl, _, _, _, _, rfl, rfl, (hC.same s13).top, rfl, _, _, rfl, rfl, _, rfl, by show -2 ^ 62 ≤ (C.n : Int) + 1; omega, by show (C.n : Int) + 1 < 2 ^ 62; omega, for_range (lo := 0) (n := ((C.n : Int) + 1).toNat) (fun i σ H' => ∃ (fa wa : Addr) (F W : List Nat) (v4 v5 v6 v7 : Option V), σ = [some (.ref c), some (vN a), some (.ref fa), some (.ref wa), v4, v5, v6, v7] ∧ Same H H' ∧
      H' fa = some (.lst (F.map vN)) ∧ H' wa = some (.lst (W.map vN)) ∧ Layer C.n C.roads C.wished a F W ∧ i ≤ F.length) ?_ ?_ ?_⟩
    · exact ⟨f0, w0, [], [a], _, _, _, _, rfl, s13, s3 _ _ (s2 _ _ hF0), s3 _ _ hW0, Layer.start, Nat.zero_le _⟩
    · rintro i σ H4 hi ⟨fa, wa, F, W, v4, v5, v6, v7, rfl, s4, hF, hW, ly, cnt⟩
      have hC4 := hC.same s4
      have Fl := nodup_lt_len ly.nd ly.lt
      refine ⟨_, rfl, _, _, _, _, rfl, rfl, hC4.top, rfl, r, rfl, ⟨_, hC4.row⟩, fun e he => ?_⟩
      have keep4 : ∀ {H' : Hp}, Kp [e] H4 H' → Same H4 H' := fun {H'} k b o e' => k b o (fun m => by rw [List.mem_singleton.mp m, he] at e'; cases e') e'
      refine lc_tup (K := K) (xs := ts.map V.ref) (fun j H' => Kp [e] H4 H' ∧ H' e = some (.lst ((((C.roads.take j).filter fun p => decide (p.1 ∈ W)).map (·.2)).map vN)))
        ⟨(fun b o x e' => by rw [upd_ne (ne_of_none e' he)]; exact e'), upd_same⟩ (fun j H' _ ⟨k, _⟩ => Same.sqT (keep4 k) hC4.row) ?_ ?_
      · rintro j x H5 hx ⟨k5, hE⟩
        obtain ⟨t, ht, rfl⟩ := get_map hx
        obtain ⟨q0, hq0, pt⟩ := paired_getL hC4.prs ht
        have pt5 := Same.sqT (keep4 k5) pt
        have hW5 := keep4 k5 _ _ hW
        have jl : j < C.roads.length := (List.getElem?_eq_some_iff.mp hq0).1
        have m240 := ok.many
        refine ⟨rfl, ?_⟩
        refine ⟨_, rfl, t, _, _, _, rfl, rfl, pt5, rfl, _, rfl, wa, _, rfl, .inl (.inl (.inl hW5)), rfl, all_vN W, _, rfl, ?_⟩
        show if inV (vN q0.1) (W.map vN) = true then _ else _
        rw [in_vN]
        by_cases hw : q0.1 ∈ W
        · rw [decide_eq_true hw]
          refine iteT ?_
          refine ⟨_, rfl, t, _, _, _, rfl, rfl, pt5, rfl, _, hE, ?_, ?_, ?_⟩
          · rw [List.length_map, List.length_map]
            have h1 := List.length_filter_le (fun p : Nat × Nat => decide (p.1 ∈ W)) (C.roads.take j)
            have h2 : (C.roads.take j).length ≤ j := by rw [List.length_take]; omega
            exact small1000 (by omega)
          · intro b o nb eb
            rw [upd_ne (fun z => nb (by rw [z]; simp))]
            exact k5 b o nb eb
          · rw [upd_same, take_more hq0, List.filter_append, List.map_append, List.map_append]
            simp [hw]
        · rw [decide_eq_false hw]
          refine iteF ⟨k5, ?_⟩
          rw [hE, take_more hq0, List.filter_append]
          simp [hw]
      rintro H5 ⟨k5, hE⟩
      rw [List.take_of_length_le (by rw [List.length_map]; exact Nat.le_of_eq (Paired.length hC4.prs).symm)] at hE
      have s5 := keep4 k5
      refine ⟨_, rfl, e, iN ((C.roads.filter fun p => decide (p.1 ∈ W)).map (·.2)), rfl, .inl (.inl (.inl (by rw [← vN_map]; exact hE))), ?_, fun sa n2 hsa hn2 => ?_⟩
      · rw [iN_length, List.length_map]
        have h1 := List.length_filter_le (fun p : Nat × Nat => decide (p.1 ∈ W)) C.roads
        have := ok.many
        omega
      have few : n2 < 64 := by
        have := hn2 (iN (List.range C.n)) fun k hk => by
          unfold iN at hk
          obtain ⟨b, hb, rfl⟩ := List.mem_map.mp hk
          obtain ⟨x, _, hr'⟩ := ahead_mem.mp hb
          exact iN_mem.mpr (List.mem_range.mpr (ok.inR _ hr').2)
        rw [iN_length, List.length_range] at this
        omega
      refine ⟨sa, _, n2, rfl, upd_same, few, fun ns u2 up2 mem2 _ hu2 => ?_⟩
      obtain ⟨wl, rfl, upw, memw⟩ := set_nat up2 mem2
      have s6 : Same H5 (upd (upd H5 sa (SetO w sa (fun j => decide (j ∈ iN ((C.roads.filter fun p => decide (p.1 ∈ W)).map (·.2)))) n2)) u2 (.lst ((iN wl).map V.int))) := (same_upd hsa).trans (same_upd hu2)
      have hU2 : (upd (upd H5 sa (SetO w sa (fun j => decide (j ∈ iN ((C.roads.filter fun p => decide (p.1 ∈ W)).map (·.2)))) n2)) u2 (.lst ((iN wl).map V.int))) u2 = some (.lst (wl.map vN)) := by rw [upd_same, vN_map]
      generalize upd (upd H5 sa (SetO w sa (fun j => decide (j ∈ iN ((C.roads.filter fun p => decide (p.1 ∈ W)).map (·.2)))) n2)) u2 (.lst ((iN wl).map V.int)) = H6 at s6 hU2
      have memW : ∀ b, b ∈ wl ↔ ∃ x ∈ W, (x, b) ∈ C.roads := fun b => (memw b).trans ahead_mem
      have wll : wl.length ≤ C.n := up_len upw fun b hb => by
        obtain ⟨x, _, hr'⟩ := (memW b).mp hb
        exact (ok.inR _ hr').2
      have ly' := ly.step ok.inR (up_nodup upw) memW
      have hF6 := s6 _ _ (s5 _ _ hF)
      refine ⟨u2, rfl, ⟨_, .inl (.inl hU2)⟩, fun d hd => ?_⟩
      have keep6 : ∀ {H' : Hp}, Kp [d] H6 H' → Same H6 H' := fun {H'} k b o e' => k b o (fun m => by rw [List.mem_singleton.mp m, hd] at e'; cases e') e'
      refine lc_list (K := K) (xs := wl.map vN) (fun j H' => Kp [d] H6 H' ∧ H' d = some (.lst (((wl.take j).filter fun b => !decide (b ∈ F)).map vN)))
        ⟨(fun b o x e' => by rw [upd_ne (ne_of_none e' hd)]; exact e'), upd_same⟩ (fun j H' _ ⟨k, _⟩ => .inl (.inl (keep6 k _ _ hU2))) ?_ ?_
      · rintro j x H7 hx ⟨k7, hD⟩
        obtain ⟨b, hb, rfl⟩ := get_map hx
        refine ⟨rfl, ?_⟩
        refine ⟨_, rfl, _, rfl, fa, _, rfl, .inl (.inl (.inl (keep6 k7 _ _ hF6))), rfl, all_vN F, _, rfl, ?_⟩
        show if (!inV (vN b) (F.map vN)) = true then _ else _
        rw [in_vN]
        by_cases hw : b ∈ F
        · rw [decide_eq_true hw]
          refine iteF ⟨k7, ?_⟩
          rw [hD, take_more hb, List.filter_append]
          simp [hw]
        · rw [decide_eq_false hw]
          refine iteT ?_
          refine ⟨_, rfl, _, hD, ?_, ?_, ?_⟩
          · rw [List.length_map]
            have h1 := List.length_filter_le (fun b => !decide (b ∈ F)) (wl.take j)
            have h2 : (wl.take j).length ≤ wl.length := by rw [List.length_take]; omega
            exact small1000 (by omega)
          · intro b' o nb eb
            rw [upd_ne (fun z => nb (by rw [z]; simp))]
            exact k7 b' o nb eb
          · rw [upd_same, take_more hb, List.filter_append, List.map_append]
            simp [hw]
      rintro H7 ⟨k7, hD⟩
      rw [List.take_of_length_le (by rw [List.length_map]; exact Nat.le_refl _)] at hD
      obtain ⟨A3, eA3⟩ : ∃ A3, A3 = wl.filter fun b => !decide (b ∈ F) := ⟨_, rfl⟩
      rw [← eA3] at hD ly'
      have A3l : A3.length ≤ 60 := by
        rw [eA3]
        have := List.length_filter_le (fun b => !decide (b ∈ F)) wl
        omega
      have s7 := keep6 k7
      have hF7 := s7 _ _ hF6
      refine ⟨_, rfl, _, rfl, fa, d, _, _, rfl, rfl, hF7, hD, ?_, fun fa' hfa' => ?_⟩
      · rw [List.length_map, List.length_map]
        have : (1000 : Nat) ≤ sizeLine := by decide
        omega
      have s8 : Same H7 (upd H7 fa' (.lst (F.map vN ++ A3.map vN))) := same_upd hfa'
      have hF8 : (upd H7 fa' (.lst (F.map vN ++ A3.map vN))) fa' = some (.lst ((F ++ A3).map vN)) := by rw [upd_same, List.map_append]
      generalize upd H7 fa' (.lst (F.map vN ++ A3.map vN)) = H8 at s8 hF8
      have s48 : Same H4 H8 := (s5.trans s6).trans (s7.trans s8)
      have hD8 := s8 _ _ hD
      have hC8 := hC4.same s48
      refine ⟨_, rfl, d, rfl, ⟨_, .inl (.inl hD8)⟩, fun g hg => ?_⟩
      have keep8 : ∀ {H' : Hp}, Kp [g] H8 H' → Same H8 H' := fun {H'} k b o e' => k b o (fun m => by rw [List.mem_singleton.mp m, hg] at e'; cases e') e'
      refine lc_list (K := K) (xs := A3.map vN) (fun j H' => Kp [g] H8 H' ∧ H' g = some (.lst (((A3.take j).filter fun b => !decide (b ∈ C.wished)).map vN)))
        ⟨(fun b o x e' => by rw [upd_ne (ne_of_none e' hg)]; exact e'), upd_same⟩ (fun j H' _ ⟨k, _⟩ => .inl (.inl (keep8 k _ _ hD8))) ?_ ?_
      · rintro j x H9 hx ⟨k9, hG⟩
        obtain ⟨b, hb, rfl⟩ := get_map hx
        have hC9 := hC8.same (keep8 k9)
        refine ⟨rfl, ?_⟩
        refine ⟨_, rfl, _, rfl, _, _, _, _, rfl, rfl, hC9.top, rfl, wd, _, rfl, .inr hC9.wis, rfl, all_vN C.wished, _, rfl, ?_⟩
        show if (!inV (vN b) (C.wished.map vN)) = true then _ else _
        rw [in_vN]
        by_cases hw : b ∈ C.wished
        · rw [decide_eq_true hw]
          refine iteF ⟨k9, ?_⟩
          rw [hG, take_more hb, List.filter_append]
          simp [hw]
        · rw [decide_eq_false hw]
          refine iteT ?_
          refine ⟨_, rfl, _, hG, ?_, ?_, ?_⟩
          · rw [List.length_map]
            have h1 := List.length_filter_le (fun b => !decide (b ∈ C.wished)) (A3.take j)
            have h2 : (A3.take j).length ≤ A3.length := by rw [List.length_take]; omega
            exact small1000 (by omega)
          · intro b' o nb eb
            rw [upd_ne (fun z => nb (by rw [z]; simp))]
            exact k9 b' o nb eb
          · rw [upd_same, take_more hb, List.filter_append, List.map_append]
            simp [hw]
      rintro H9 ⟨k9, hG⟩
      rw [List.take_of_length_le (by rw [List.length_map]; exact Nat.le_refl _)] at hG
      obtain ⟨W', eW'⟩ : ∃ W', W' = A3.filter fun b => !decide (b ∈ C.wished) := ⟨_, rfl⟩
      rw [← eW'] at hG ly'
      have s9 := s48.trans (keep8 k9)
      have hF9 := keep8 k9 _ _ hF8
      refine ⟨_, rfl, Nat.zero_le _, fun z hz => ?_⟩
      have s10 : Same H9 (upd H9 z (.lst [])) := same_upd hz
      have s40 := s9.trans s10
      have hF10 := s10 _ _ hF9
      have hG10 := s10 _ _ hG
      refine ⟨.list ((iN W').map .int), .list [], .lst (.inl (.inl hG10)) (by rw [vN_map]; exact dpAll_ints _), .lst (.inl (.inl upd_same)) .nil, ints_shaped _, rfl, _, rfl, ite_any (fun hc => ?_) (fun hc => ?_)⟩
      · have e0 : W' = [] := by
          cases W' with
          | nil => rfl
          | cons b W' => exact absurd hc (by simp [iN, PyData.eqv, PyData.eqvAll])
        rw [e0] at ly'
        refine ⟨_, rfl, fa', iN (F ++ A3), rfl, .inl (.inl (by rw [← vN_map]; exact hF10)), fun ns' pq pm' pw hpq => ?_⟩
        obtain ⟨l, el, upl, ml⟩ := sorted_iN ly'.nd pm' pw
        have e1 : l = met C.n C.roads C.wished [a] := those_is upl fun x => (ml x).trans (ly'.ends x)
        have s11 := (s4.trans s40).trans (same_upd (o := .lst (ns'.map V.int)) hpq)
        refine q pq _ s11 ((s4.trans s40).free hpq) ?_
        rw [upd_same, el, ← e1, vN_map]
        rfl
      · have ne : W' ≠ [] := fun e0 => by
          rw [e0] at hc
          exact absurd hc (by simp [iN, PyData.eqv, PyData.eqvAll])
        refine ⟨fa', g, F ++ A3, W', _, _, _, _, rfl, s4.trans s40, hF10, hG10, ly', ?_⟩
        have : 0 < A3.length := by
          rcases Nat.eq_zero_or_pos A3.length with e0 | e0
          · rw [eW', List.length_eq_zero_iff.mp e0] at ne
            exact absurd rfl ne
          · exact e0
        rw [List.length_append]
        omega
    · rintro σ H4 ⟨fa, wa, F, W, v4, v5, v6, v7, rfl, s4, hF, hW, ly, cnt⟩
      have Fl := nodup_lt_len ly.nd ly.lt
      rw [n1] at cnt
      omega
end
end Ft

set_option Elab.async false
set_option linter.all false
set_option maxRecDepth 100000
set_option maxHeartbeats 4000000
/-! Plain mathematics: the pieces of a map, and rows in their order -/
namespace Ft
theorem piece_mem {C : Chart} {a b : Nat} (hw : a ∉ C.wished) : b ∈ pieceOf C a ↔ b < C.n ∧ b ∉ C.wished ∧ (b = a ∨ (Reach C.roads C.wished a b ∧ Reach C.roads C.wished b a)) := by
  unfold pieceOf
  rw [if_neg hw]
  exact those_mem
theorem piece_eq {C : Chart} {a b : Nat} (hb : b ∈ pieceOf C a) : pieceOf C b = pieceOf C a := by
  by_cases hw : a ∈ C.wished
  · have e : pieceOf C a = [a] := by
      unfold pieceOf
      rw [if_pos hw]
    rw [e] at hb
    rw [List.mem_singleton.mp hb]
  · obtain ⟨bn, bw, rel⟩ := (piece_mem hw).mp hb
    refine asc_ext (piece_up C b) (piece_up C a) fun x => ?_
    rw [piece_mem bw, piece_mem hw]
    constructor
    · rintro ⟨xn, xw, h⟩
      refine ⟨xn, xw, ?_⟩
      rcases rel with e | ⟨r1, r2⟩
      · rw [e] at h
        exact h
      · rcases h with e | ⟨q1, q2⟩
        · rw [e]
          exact .inr ⟨r1, r2⟩
        · exact .inr ⟨r1.trans bw q1, q2.trans bw r2⟩
    · rintro ⟨xn, xw, h⟩
      refine ⟨xn, xw, ?_⟩
      rcases rel with e | ⟨r1, r2⟩
      · rw [e]
        exact h
      · rcases h with e | ⟨q1, q2⟩
        · rw [e]
          exact .inr ⟨r2, r1⟩
        · exact .inr ⟨r2.trans hw q1, q2.trans hw r1⟩
theorem piecesL_mem {C : Chart} {l : List Nat} : l ∈ piecesL C ↔ ∃ a ∈ unw C, l = pieceOf C a := by
  unfold piecesL
  constructor
  · intro h
    obtain ⟨a, ha, rfl⟩ := List.mem_map.mp h
    exact ⟨a, (List.mem_filter.mp ha).1, rfl⟩
  · rintro ⟨a, ha, rfl⟩
    have ha' := unw_mem.mp ha
    cases e : pieceOf C a with
    | nil =>
      have := piece_self ha'.1
      rw [e] at this
      exact absurd this List.not_mem_nil
    | cons h rest =>
      have hh : h ∈ pieceOf C a := by
        rw [e]
        exact List.mem_cons_self
      have hm := (piece_mem ha'.2).mp hh
      have e2 := piece_eq hh
      refine List.mem_map.mpr ⟨h, List.mem_filter.mpr ⟨unw_mem.mpr ⟨hm.1, hm.2.1⟩, ?_⟩, by rw [e2, e]⟩
      unfold isLeast
      rw [e2, e]
      simp
/-- rows ascending as rows -/
def ltL (p q : List Int) : Prop := p ≤ q ∧ p ≠ q
theorem ltL_asym {p q : List Int} (h1 : ltL p q) (h2 : ltL q p) : False := h1.2 (List.le_antisymm h1.1 h2.1)
theorem rows_ext : ∀ {l1 l2 : List (List Int)}, l1.Pairwise ltL → l2.Pairwise ltL → (∀ x, x ∈ l1 ↔ x ∈ l2) → l1 = l2
  | [], [], _, _, _ => rfl
  | [], b :: l2, _, _, h => absurd ((h b).mpr List.mem_cons_self) List.not_mem_nil
  | a :: l1, [], _, _, h => absurd ((h a).mp List.mem_cons_self) List.not_mem_nil
  | a :: l1, b :: l2, h1, h2, h => by
    obtain ⟨a1, p1⟩ := List.pairwise_cons.mp h1
    obtain ⟨a2, p2⟩ := List.pairwise_cons.mp h2
    have e : a = b := by
      rcases List.mem_cons.mp ((h a).mp List.mem_cons_self) with e | m
      · exact e
      · rcases List.mem_cons.mp ((h b).mpr List.mem_cons_self) with e | m'
        · exact e.symm
        · exact (ltL_asym (a2 a m) (a1 b m')).elim
    subst e
    refine congrArg (a :: ·) (rows_ext p1 p2 fun x => ⟨fun m => ?_, fun m => ?_⟩)
    · rcases List.mem_cons.mp ((h x).mp (List.mem_cons_of_mem _ m)) with e | m'
      · exact ((a1 x m).2 e.symm).elim
      · exact m'
    · rcases List.mem_cons.mp ((h x).mpr (List.mem_cons_of_mem _ m)) with e | m'
      · exact ((a2 x m).2 e.symm).elim
      · exact m'
theorem cons_ltL {a b : Int} {p q : List Int} (h : a < b) : ltL (a :: p) (b :: q) := by
  refine ⟨List.cons_le_cons_iff.mpr (.inl h), fun e => ?_⟩
  injection e with e1 _
  omega
theorem piecesL_up (C : Chart) : ((piecesL C).map iN).Pairwise ltL := by
  unfold piecesL
  rw [List.map_map]
  refine List.pairwise_map.mpr ?_
  refine List.Pairwise.imp_of_mem (fun {a b} ha hb h => ?_) ((unw_up C).filter (isLeast C))
  have la := (List.mem_filter.mp ha).2
  have lb := (List.mem_filter.mp hb).2
  unfold isLeast at la lb
  have la := of_decide_eq_true la
  have lb := of_decide_eq_true lb
  show ltL (iN (pieceOf C a)) (iN (pieceOf C b))
  cases ea : pieceOf C a with
  | nil =>
    rw [ea] at la
    cases la
  | cons x p =>
    cases eb : pieceOf C b with
    | nil =>
      rw [eb] at lb
      cases lb
    | cons y q =>
      rw [ea] at la
      rw [eb] at lb
      have e1 : x = a := Option.some.inj la
      have e2 : y = b := Option.some.inj lb
      rw [e1, e2]
      exact cons_ltL (show (a : Int) < (b : Int) by omega)
theorem iN_inj : ∀ {l1 l2 : List Nat}, iN l1 = iN l2 → l1 = l2
  | [], [], _ => rfl
  | [], _ :: _, h => by simp [iN] at h
  | _ :: _, [], h => by simp [iN] at h
  | a :: l1, b :: l2, h => by
    unfold iN at h
    rw [List.map_cons, List.map_cons] at h
    injection h with h1 h2
    have e : a = b := by omega
    rw [e, iN_inj (l1 := l1) (l2 := l2) h2]
/-- what is met, one place more -/
theorem those_yes {j : Nat} {P : Nat → Prop} (h : P j) : those (j + 1) P = those j P ++ [j] := by
  unfold those
  rw [List.range_succ, List.filter_append]
  congr 1
  rw [List.filter_cons]
  simp [h]
theorem those_no {j : Nat} {P : Nat → Prop} (h : ¬ P j) : those (j + 1) P = those j P := by
  unfold those
  rw [List.range_succ, List.filter_append]
  simp [h]
theorem met_mem {n : Nat} {rs : List (Nat × Nat)} {ws : List Nat} {a b : Nat} : b ∈ met n rs ws [a] ↔ b < n ∧ Reach rs ws a b := by
  unfold met
  rw [those_mem]
  constructor
  · rintro ⟨h, x, hx, r⟩
    rw [List.mem_singleton.mp hx] at r
    exact ⟨h, r⟩
  · rintro ⟨h, r⟩
    exact ⟨h, a, List.mem_singleton.mpr rfl, r⟩
end Ft

set_option Elab.async false
set_option linter.all false
set_option maxRecDepth 100000
set_option maxHeartbeats 8000000
namespace Ft
open PySem PySem.Spec PyProof.Rows L2
/-- the rows of what each place comes to -/
structure TabAt (H : Hp) (C : Chart) (q : Addr) (rows : List Addr) : Prop where
  len : rows.length = C.n
  at_ : LotsAt H q rows fun a => met C.n C.roads C.wished [a]
theorem TabAt.same {H H' : Hp} (k : Same H H') {C : Chart} {q : Addr} {rows : List Addr} (h : TabAt H C q rows) : TabAt H' C q rows := ⟨h.len, k _ _ h.at_.top, fun a l e => k _ _ (h.at_.each a l e)⟩
theorem rows_at {K : PySem.W.Frag} {H : Hp} : ∀ {L : List Row} {lls : List (List Nat)}, L.map (·.2) = lls.map iN → (∀ p ∈ L, SqT K H p.1 (p.2.map V.int)) → RowsAt K H (L.map (·.1)) lls
  | [], [], _, _ => .nil
  | [], _ :: _, e, _ => by simp at e
  | _ :: _, [], e, _ => by simp at e
  | p :: L, l :: lls, e, h => by
    rw [List.map_cons, List.map_cons] at e
    injection e with e1 e2
    refine .cons ?_ (rows_at e2 fun q hq => h q (List.mem_cons_of_mem _ hq))
    have := h p List.mem_cons_self
    rw [e1, ← vN_map] at this
    exact this
section
variable {P : Program} {w : World} {K : PySem.W.Frag} {mg : Str → Option Value} {base : Heap} {t1 t2 : Tok}
/-! ### _law_map_table -/
def sp_law_map_table (K : PySem.W.Frag) : Sp := fun vs H Q _ => ∃ (c : Addr) (C : Chart), vs = [.ref c] ∧ IsChart K H c C ∧ C.Ok ∧ ∀ q rows H', Same H H' → H q = none → (∀ l ∈ rows, H l = none) → TabAt H' C q rows → Q (.ref q) H'
theorem cal_law_map_table (T : Txt mg) (D : Def K mg "_law_map_table" s_law_map_table) (c_law_map_met : Cal P w K mg base 2 "_law_map_met" (sp_law_map_met K)) : Cal P w K mg base 3 "_law_map_table" (sp_law_map_table K) := by
  refine cal_of D sc_law_map_table (fun _ _ _ _ _ _ us hl => match us, hl with | [_], _ => rfl) (fun vs H Q E h => ?_) (fun f cdv A outer s H vs Q E hr h => ?_)
  · obtain ⟨c, C, rfl, _⟩ := h
    rfl
  · obtain ⟨c, C, rfl, ⟨r, wd, ts, hC⟩, ok, q⟩ := h
    have n60 := ok.n60
    refine ⟨_, (pss_one (ps_ret (pe_lc (own := [("a", 1)]) rfl sc_law_map_table.nd (pi_range1 (by rfl) T.range (pa_cons (pe_ix (show IxR _ (rIxT K) from ix_tup) (pv 0) pe_int (fun _ _ => rfl)) pa_nil)) (blkOk_by (N := ["chart", "a"]) (sc := L2.defScope s_law_map_table) (by decide +kernel)) (fun _ _ _ _ _ => (pg_name (i := 1) sc_law_map_table.nd rfl (Or.inl rfl))) (fun _ _ _ _ _ => pts_nil) (fun _ _ _ _ _ => (pe_c c_law_map_met hr (by decide) (by rfl) (pa_cons (pv 0) (pa_cons (pv 1) pa_nil))))))), ?_⟩
    refine ⟨_, rfl, _, _, _, _, rfl, rfl, hC.top, rfl, _, rfl, by omega, by omega, fun d hd => ?_⟩
    have keep : ∀ {H' : Hp}, Kp [d] H H' → Same H H' := fun {H'} k b o e' => k b o (fun m => by rw [List.mem_singleton.mp m, hd] at e'; cases e') e'
    refine lc_range (lo := 0) (n := C.n) (fun j H' => ∃ rows : List Addr, Kp [d] H H' ∧ H' d = some (.lst (rows.map V.ref)) ∧ rows.length = j ∧ (∀ l ∈ rows, H l = none) ∧ ∀ a l, rows[a]? = some l → l ≠ d ∧ H' l = some (.lst ((met C.n C.roads C.wished [a]).map vN)))
      ⟨[], (fun b o x e' => by rw [upd_ne (ne_of_none e' hd)]; exact e'), upd_same, rfl, (fun _ h => nomatch h), fun a l h => by simp at h⟩ ?_ ?_
    · rintro j H1 hj ⟨rows, k1, hD, len, new, each⟩
      have e0 : (0 : Int) + (j : Nat) = (j : Nat) := by omega
      refine ⟨rfl, ?_⟩
      rw [e0]
      refine ⟨_, rfl, _, rfl, c, C, j, rfl, ⟨r, wd, ts, hC.same (keep k1)⟩, ok, hj, fun m H2 s2 hm hM => ?_⟩
      have hD2 := s2 _ _ hD
      have md : m ≠ d := (ne_of_none hD hm).symm
      refine ⟨_, hD2, by rw [List.length_map]; exact small1000 (by omega), rows ++ [m], ?_, by rw [upd_same, List.map_append]; rfl, by rw [List.length_append, len]; rfl, ?_, ?_⟩
      · intro b o nb eb
        rw [upd_ne (fun z => nb (by rw [z]; simp))]
        exact s2 _ _ (k1 b o nb eb)
      · intro l hl
        rcases List.mem_append.mp hl with hl | hl
        · exact new l hl
        · rw [List.mem_singleton.mp hl]
          exact (keep k1).free hm
      · intro a l hl
        by_cases ha : a < rows.length
        · rw [List.getElem?_append_left ha] at hl
          obtain ⟨n1, e1⟩ := each a l hl
          exact ⟨n1, by rw [upd_ne n1]; exact s2 _ _ e1⟩
        · have hl' := hl
          rw [List.getElem?_append_right (by omega)] at hl
          have a0 : a - rows.length = 0 := by
            rcases Nat.eq_zero_or_pos (a - rows.length) with e | e
            · exact e
            · have : (rows ++ [m]).length ≤ a := by
                rw [List.length_append, List.length_singleton]
                omega
              rw [List.getElem?_eq_none this] at hl'
              cases hl'
          rw [a0] at hl
          have e1 : m = l := by simpa using hl
          have e2 : a = j := by omega
          rw [← e1, e2]
          exact ⟨md, by rw [upd_ne md]; exact hM⟩
    · rintro H1 ⟨rows, k1, hD, len, new, each⟩
      exact q d rows H1 (keep k1) hd new ⟨len, hD, fun a l e => (each a l e).2⟩
/-! ### _law_map_piece -/
def sp_law_map_piece (K : PySem.W.Frag) : Sp := fun vs H Q _ => ∃ (c tb : Addr) (C : Chart) (rows : List Addr) (a : Nat), vs = [.ref c, .ref tb, vN a] ∧ IsChart K H c C ∧ C.Ok ∧ a < C.n ∧ TabAt H C tb rows ∧ ∀ t H', Same H H' → SqT K H' t ((pieceOf C a).map vN) → Q (.ref t) H'
theorem cal_law_map_piece (T : Txt mg) (D : Def K mg "_law_map_piece" s_law_map_piece) : Cal P w K mg base 2 "_law_map_piece" (sp_law_map_piece K) := by
  refine cal_of D sc_law_map_piece (fun _ _ _ _ _ _ us hl => match us, hl with | [_, _, _], _ => rfl) (fun vs H Q E h => ?_) (fun f cdv A outer s H vs Q E hr h => ?_)
  · obtain ⟨c, tb, C, rows, a, rfl, _⟩ := h
    rfl
  · obtain ⟨c, tb, C, rows, a, rfl, ⟨r, wd, ts, hC⟩, ok, ha, hT, q⟩ := h
    have n60 := ok.n60
    refine ⟨_, (pss_cons (ps_if (pt_cmpR (show OpR _ _ (rIn K false) from op_in_seq) (pv 2) (pe_ix (show IxR _ (rIxT K) from ix_tup) (pv 0) pe_int (fun _ _ => rfl)) (by rfl)) (pss_one (ps_ret (pe_tup (pa_cons (pv 2) pa_nil)))) pss_nil)
      (pss_one (ps_ret (pe_callTy (show CallR _ _ (rTupleOf K) from call_tupleOf) (by rfl) T.tuple (by decide +kernel) (pa_cons (pe_lc (own := [("b", 3)]) rfl sc_law_map_piece.nd (pi_range1 (by rfl) T.range (pa_cons (pe_ix (show IxR _ (rIxT K) from ix_tup) (pv 0) pe_int (fun _ _ => rfl)) pa_nil)) (blkOk_by (N := ["chart", "table", "a", "b"]) (sc := L2.defScope s_law_map_piece) (by decide +kernel)) (fun _ _ _ _ _ => (pg_name (i := 3) sc_law_map_piece.nd rfl (Or.inl rfl))) (fun _ _ _ _ _ => pts_one (PW.pt (pw_and (pt_cmpR (show OpR _ _ (rIn K true) from op_notIn_seq) (pv 3) (pe_ix (show IxR _ (rIxT K) from ix_tup) (pv 0) pe_int (fun _ _ => rfl)) (by rfl)) (pw_and1 (PW.pt (pw_or (pt_cmpR op_eq (pv 3) (pv 2) (nomark _)) (pw_or1 (PW.pt (pw_and (pt_cmpR (show OpR _ _ (rIn K false) from op_in_seq) (pv 3) (pe_ix (show IxR _ (rIxL K) from ix_list) (pv 1) (pv 2) (fun _ _ => rfl)) (by rfl)) (pw_and1 (pt_cmpR (show OpR _ _ (rIn K false) from op_in_seq) (pv 2) (pe_ix (show IxR _ (rIxL K) from ix_list) (pv 1) (pv 3) (fun _ _ => rfl)) (by rfl)))))))))))) (fun _ _ _ _ _ => (pv 3))) pa_nil))))), ?_⟩
    refine ⟨_, rfl, _, rfl, _, _, _, _, rfl, rfl, hC.top, rfl, wd, _, rfl, .inr hC.wis, rfl, all_vN C.wished, _, rfl, ?_⟩
    show if inV (vN a) (C.wished.map vN) = true then _ else _
    rw [in_vN]
    by_cases hw : a ∈ C.wished
    · rw [decide_eq_true hw]
      refine iteT ?_
      refine ⟨_, rfl, by show 1 ≤ sizeLine; decide, fun t ht => ?_⟩
      refine q t _ (same_upd ht) (.inl (.inl ?_))
      have e : pieceOf C a = [a] := by
        unfold pieceOf
        rw [if_pos hw]
      rw [upd_same, e]
      rfl
    · rw [decide_eq_false hw]
      refine iteF ?_
      refine ⟨_, rfl, _, _, _, _, rfl, rfl, hC.top, rfl, _, rfl, by omega, by omega, fun d hd => ?_⟩
      have keep : ∀ {H' : Hp}, Kp [d] H H' → Same H H' := fun {H'} k b o e' => k b o (fun m => by rw [List.mem_singleton.mp m, hd] at e'; cases e') e'
      obtain ⟨Pr, ePr⟩ : ∃ Pr : Nat → Prop, Pr = fun b => b ∉ C.wished ∧ (b = a ∨ (b ∈ met C.n C.roads C.wished [a] ∧ a ∈ met C.n C.roads C.wished [b])) := ⟨_, rfl⟩
      refine lc_range (lo := 0) (n := C.n) (fun j H' => Kp [d] H H' ∧ H' d = some (.lst ((those j Pr).map vN)))
        ⟨(fun b o x e' => by rw [upd_ne (ne_of_none e' hd)]; exact e'), upd_same⟩ ?_ ?_
      · rintro j H1 hj ⟨k1, hD⟩
        have e0 : (0 : Int) + (j : Nat) = (j : Nat) := by omega
        have hC1 := hC.same (keep k1)
        have hT1 := hT.same (keep k1)
        obtain ⟨ra, hra⟩ : ∃ t, rows[a]? = some t := ⟨_, List.getElem?_eq_getElem (by rw [hT.len]; exact ha)⟩
        obtain ⟨rj, hrj⟩ : ∃ t, rows[j]? = some t := ⟨_, List.getElem?_eq_getElem (by rw [hT.len]; exact hj)⟩
        refine ⟨rfl, ?_⟩
        rw [e0]
        have no : ¬ Pr j → Kp [d] H H1 ∧ H1 d = some (.lst ((those (j + 1) Pr).map vN)) := fun h => ⟨k1, by rw [those_no h]; exact hD⟩
        have len : (those j Pr).length ≤ j := those_len j Pr
        have yes : Pr j → (V.int (j : Int) = vN j) ∧ H1 d = some (.lst ((those j Pr).map vN)) ∧ ((those j Pr).map vN).length < sizeLine ∧ Kp [d] H (upd H1 d (.lst ((those j Pr).map vN ++ [vN j]))) ∧ (upd H1 d (.lst ((those j Pr).map vN ++ [vN j]))) d = some (.lst ((those (j + 1) Pr).map vN)) := fun h =>
          ⟨rfl, hD, by rw [List.length_map]; exact small1000 (by omega), fun b o nb eb => by rw [upd_ne (fun z => nb (by rw [z]; simp))]; exact k1 b o nb eb, by rw [upd_same, those_yes h, List.map_append]; rfl⟩
        refine ⟨_, rfl, _, rfl, _, _, _, _, rfl, rfl, hC1.top, rfl, wd, _, rfl, .inr hC1.wis, rfl, all_vN C.wished, _, rfl, ?_⟩
        show if (!inV (vN j) (C.wished.map vN)) = true then _ else _
        rw [in_vN]
        by_cases jw : j ∈ C.wished
        · rw [decide_eq_true jw]
          exact iteF (no (by rw [ePr]; exact fun h => h.1 jw))
        · rw [decide_eq_false jw]
          refine iteT ?_
          refine ⟨_, rfl, _, rfl, rfl, _, rfl, ?_⟩
          by_cases ja : j = a
          · have : decide (V.int (j : Int) = vN a) = true := by
              rw [ja]
              exact decide_eq_true rfl
            rw [this]
            refine iteT ?_
            obtain ⟨_, y1, y2, y3, y4⟩ := yes (by rw [ePr]; exact ⟨jw, .inl ja⟩)
            exact ⟨_, rfl, _, y1, y2, y3, y4⟩
          · have : decide (V.int (j : Int) = vN a) = false := by
              refine decide_eq_false fun e => ja ?_
              have := V.int.inj e
              omega
            rw [this]
            refine iteF ?_
            refine ⟨_, rfl, _, rfl, _, rfl, tb, _, _, _, rfl, rfl, .inl (.inl hT1.at_.top), atI_nat (v := V.ref ra) (by rw [List.getElem?_map, hra]; rfl), ra, _, rfl, .inl (.inl (.inl (hT1.at_.each a ra hra))), rfl, all_vN _, _, rfl, ?_⟩
            show if inV (vN j) ((met C.n C.roads C.wished [a]).map vN) = true then _ else _
            rw [in_vN]
            by_cases m1 : j ∈ met C.n C.roads C.wished [a]
            · rw [decide_eq_true m1]
              refine iteT ?_
              refine ⟨_, rfl, _, rfl, _, rfl, tb, _, _, _, rfl, rfl, .inl (.inl hT1.at_.top), atI_nat (v := V.ref rj) (by rw [List.getElem?_map, hrj]; rfl), rj, _, rfl, .inl (.inl (.inl (hT1.at_.each j rj hrj))), rfl, all_vN _, _, rfl, ?_⟩
              show if inV (vN a) ((met C.n C.roads C.wished [j]).map vN) = true then _ else _
              rw [in_vN]
              by_cases m2 : a ∈ met C.n C.roads C.wished [j]
              · rw [decide_eq_true m2]
                refine iteT ?_
                obtain ⟨_, y1, y2, y3, y4⟩ := yes (by rw [ePr]; exact ⟨jw, .inr ⟨m1, m2⟩⟩)
                exact ⟨_, rfl, _, y1, y2, y3, y4⟩
              · rw [decide_eq_false m2]
                exact iteF (no (by rw [ePr]; exact fun h => h.2.elim ja fun h => m2 h.2))
            · rw [decide_eq_false m1]
              exact iteF (no (by rw [ePr]; exact fun h => h.2.elim ja fun h => m1 h.1))
      · rintro H1 ⟨k1, hD⟩
        have e : those C.n Pr = pieceOf C a := by
          refine asc_ext (those_up _ _) (piece_up C a) fun x => ?_
          rw [those_mem, piece_mem hw, ePr]
          constructor
          · rintro ⟨xn, xw, h⟩
            exact ⟨xn, xw, h.imp id fun h => ⟨(met_mem.mp h.1).2, (met_mem.mp h.2).2⟩⟩
          · rintro ⟨xn, xw, h⟩
            exact ⟨xn, xw, h.imp id fun h => ⟨met_mem.mpr ⟨xn, h.1⟩, met_mem.mpr ⟨ha, h.2⟩⟩⟩
        rw [e] at hD
        refine ⟨d, _, rfl, .inl ⟨.inl (.inl hD), fun t ht => ?_⟩⟩
        exact q t _ ((keep k1).trans (same_upd ht)) (.inl (.inl upd_same))
end
end Ft

set_option Elab.async false
set_option linter.all false
set_option maxRecDepth 100000
set_option maxHeartbeats 4000000
namespace Ft
open PySem PySem.Spec PyProof.Rows L2
/-- any walk within a block, its turns by an invariant -/
theorem by_turns {J : It} {n : Nat} {G : Hp → Prop} {Y : Nat → Hp → V → Hp → Prop} (w : L2.Walk J n G Y) {Bd : (Hp → Prop) → V → Hp → Prop} {H0 : Hp} {Qd : Hp → Prop} (Pv : Nat → Hp → Prop) (h0 : Pv 0 H0) (hG : ∀ i H, i ≤ n → Pv i H → G H)
    (hs : ∀ i x H H', i < n → Pv i H → Y i H x H' → Bd (Pv (i + 1)) x H') (hd : ∀ H, Pv n H → Qd H) :
    ∃ W : Nat → Nat → Hp → Prop, (∃ m, W 0 m H0) ∧ ∀ i m H, W i m H → (J.stop i H ∧ Qd H) ∨ (J.go i H ∧ ∃ Nx : Hp → Prop, (∀ H', Nx H' → ∃ m', m' < m ∧ W (i + 1) m' H') ∧ ∀ x H', J.yld i H x H' → Bd Nx x H') := by
  refine ⟨fun i m H => m = n - i ∧ i ≤ n ∧ Pv i H, ⟨n, rfl, Nat.zero_le _, h0⟩, fun i m H ⟨em, hi, p⟩ => ?_⟩
  subst em
  have g := hG i H hi p
  by_cases lt : i < n
  · exact .inr ⟨w.goes i H lt g, Pv (i + 1), fun H' p' => ⟨n - (i + 1), by omega, rfl, lt, p'⟩, fun x H' y => hs i x H H' lt p (w.yields i H x H' lt g y)⟩
  · have e : i = n := by omega
    subst e
    exact .inl ⟨w.stops H g, hd H p⟩
/-- a if c else b, as a test -/
def tCond (tc ta tb : TT) : TT := fun σ H Q => tc σ H fun z H1 => if z = true then ta σ H1 Q else tb σ H1 Q
theorem pt_cond {X : Cx} {c a b : Expr} {pos : Pos} {tc ta tb : TT} (hc : PT X c tc) (ha : PT X a ta) (hb : PT X b tb) : PT X (.IfExp c a b pos) (tCond tc ta tb) := by
  refine ⟨fun pins s σ H Q I h => isTrue_IfExp (thn (hc.run pins s σ H _ I h) fun z s1 ⟨H1, I1, q1⟩ => ?_)⟩
  cases z with
  | true => exact ha.run pins s1 σ H1 Q I1 q1
  | false => exact hb.run pins s1 σ H1 Q I1 q1
end Ft

set_option Elab.async false
set_option linter.all false
set_option maxRecDepth 100000
set_option maxHeartbeats 4000000
/-! a set of ints by two clauses -/
namespace Ft
open PySem PySem.Spec PyProof.Rows L2
abbrev twoSet (el ta ia tb ib : Expr) (ca cb : List Expr) (sco : Scope) (at_ : Pos) : Expr := .SetComp el [⟨ta, ia, ca, 0⟩, ⟨tb, ib, cb, 0⟩] sco at_
section
variable {G : Program} {w : World} {A : Around} {Z : Result → Shared → Prop} {el ta ia tb ib : Expr} {ca cb : List Expr} {sco : Scope} {at_ : Pos} {o d : Value} {ev : Env}
/-- the tests of a clause, until one fails -/
abbrev tests (cs : List Expr) (ev : Env) : Sem Bool := forIn cs true fun c r => if r = true then (isTrue c ev (eval c ev) >>= fun z => pure (ForInStep.yield z)) else pure (ForInStep.yield r)
theorem turn_a : compTurn (twoSet el ta ia tb ib ca cb sco at_) 0 o d ev = (standAt ia.pos >>= fun _ => pyNext o >>= fun (n : Option Value) => match n with
    | none => pure (.done .next)
    | some v => letOwnedTupleGo ta o v >>= fun _ => assign ta ev v >>= fun _ => tests ca ev >>= fun z =>
      if z = true then (eval ib ev >>= fun y => standAt ib.pos >>= fun _ => foldedSetIterable ib ev y >>= fun y => holding [y] (pyIter y) >>= fun t => runOwn (.compStart (twoSet el ta ia tb ib ca cb sco at_) 1 t d ev) ev >>= fun _ => again (.compLoop (twoSet el ta ia tb ib ca cb sco at_) 0 o d ev))
      else again (.compLoop (twoSet el ta ia tb ib ca cb sco at_) 0 o d ev)) := by rfl
theorem turn_b : compTurn (twoSet el ta ia tb ib ca cb sco at_) 1 o d ev = (standAt ib.pos >>= fun _ => pyNext o >>= fun (n : Option Value) => match n with
    | none => pure (.done .next)
    | some v => letOwnedTupleGo tb o v >>= fun _ => assign tb ev v >>= fun _ => tests cb ev >>= fun z =>
      if z = true then ((eval el ev >>= fun y => standAt el.pos >>= fun _ => call (.builtin "set.add") [d, y] >>= fun _ => pure ()) >>= fun _ => again (.compLoop (twoSet el ta ia tb ib ca cb sco at_) 1 o d ev))
      else again (.compLoop (twoSet el ta ia tb ib ca cb sco at_) 1 o d ev)) := by rfl
/-- what a raised thing asks -/
abbrev out_ (G : Program) (w : World) (A : Around) (ev : Env) (Z : Result → Shared → Prop) : Value → Shared → Prop := notedBy (model G w) A ev fun x t => Z (.error x) t
theorem loop_b {s : Shared} (I : Nat → Shared → Prop)
    (step : ∀ k s, I k s → wpAny (model G w) A (pyNext o) (fun n s1 => match n with
      | none => Z (.ok .next) s1
      | some v => wpAny (model G w) A (letOwnedTupleGo tb o v) (fun _ s2 => wpAny (model G w) A (assign tb ev v) (fun _ s3 => wpAny (model G w) A (tests cb ev) (fun z s4 =>
          if z = true then wpAny (model G w) A (eval el ev) (fun y s5 => wpAny (model G w) A (call (.builtin "set.add") [d, y]) (fun _ s6 => ∃ j, j < k ∧ I j s6) (out_ G w A ev Z) s5) (out_ G w A ev Z) s4
          else ∃ j, j < k ∧ I j s4) (out_ G w A ev Z) s3) (out_ G w A ev Z) s2) (out_ G w A ev Z) s1) (out_ G w A ev Z) s)
    (k : Nat) (h : I k s) : codeAny (model G w) A (.compLoop (twoSet el ta ia tb ib ca cb sco at_) 1 o d ev) Z s := by
  refine codeAny_loop rfl I (fun k s hI => ?_) k h
  show wpAny _ A ((compTurn (twoSet el ta ia tb ib ca cb sco at_) 1 o d ev).onRaise (fun x => noteFrame x ev >>= fun _ => theTreesLotGoes x)) _ _ s
  refine wpAny_noted ?_
  rw [turn_b]
  refine wpAny_bind (wpAny_standAt (wpAny_bind (wpAny_mono (step k s hI) (fun n s1 q1 => ?_) fun _ _ x => x)))
  cases n with
  | none => exact wpAny_pure q1
  | some v =>
    refine wpAny_bind (wpAny_mono q1 (fun _ s2 q2 => wpAny_bind (wpAny_mono q2 (fun _ s3 q3 => wpAny_bind (wpAny_mono q3 (fun z s4 q4 => ?_) fun _ _ x => x)) fun _ _ x => x)) fun _ _ x => x)
    cases z with
    | false => exact wpAny_pure ⟨rfl, q4⟩
    | true => exact wpAny_bind (wpAny_bind (wpAny_mono q4 (fun y s5 q5 => wpAny_bind (wpAny_standAt (wpAny_bind (wpAny_mono q5 (fun _ s6 q6 => wpAny_pure (wpAny_pure ⟨rfl, q6⟩)) fun _ _ x => x)))) fun _ _ x => x))
theorem loop_a {s : Shared} (same : ∀ y, foldedSetIterable ib ev y = pure y) (I : Nat → Shared → Prop)
    (step : ∀ k s, I k s → wpAny (model G w) A (pyNext o) (fun n s1 => match n with
      | none => Z (.ok .next) s1
      | some v => wpAny (model G w) A (letOwnedTupleGo ta o v) (fun _ s2 => wpAny (model G w) A (assign ta ev v) (fun _ s3 => wpAny (model G w) A (tests ca ev) (fun z s4 =>
          if z = true then wpAny (model G w) A (eval ib ev) (fun y s5 => wpAny (model G w) A (pyIter y) (fun t s6 => codeAny (model G w) A (.compStart (twoSet el ta ia tb ib ca cb sco at_) 1 t d ev) (fun r s7 => match r with
            | .ok _ => ∃ j, j < k ∧ I j s7
            | .error _ => False) s6) (out_ G w A ev Z) s5) (out_ G w A ev Z) s4
          else ∃ j, j < k ∧ I j s4) (out_ G w A ev Z) s3) (out_ G w A ev Z) s2) (out_ G w A ev Z) s1) (out_ G w A ev Z) s)
    (k : Nat) (h : I k s) : codeAny (model G w) A (.compLoop (twoSet el ta ia tb ib ca cb sco at_) 0 o d ev) Z s := by
  refine codeAny_loop rfl I (fun k s hI => ?_) k h
  show wpAny _ A ((compTurn (twoSet el ta ia tb ib ca cb sco at_) 0 o d ev).onRaise (fun x => noteFrame x ev >>= fun _ => theTreesLotGoes x)) _ _ s
  refine wpAny_noted ?_
  rw [turn_a]
  refine wpAny_bind (wpAny_standAt (wpAny_bind (wpAny_mono (step k s hI) (fun n s1 q1 => ?_) fun _ _ x => x)))
  cases n with
  | none => exact wpAny_pure q1
  | some v =>
    refine wpAny_bind (wpAny_mono q1 (fun _ s2 q2 => wpAny_bind (wpAny_mono q2 (fun _ s3 q3 => wpAny_bind (wpAny_mono q3 (fun z s4 q4 => ?_) fun _ _ x => x)) fun _ _ x => x)) fun _ _ x => x)
    cases z with
    | false => exact wpAny_pure ⟨rfl, q4⟩
    | true =>
      refine wpAny_bind (wpAny_mono q4 (fun y s5 q5 => wpAny_bind (wpAny_standAt (wpAny_bind (wpAny_of_eq (same y) (wpAny_bind (wpAny_holding (wpAny_mono q5 (fun t s6 q6 => wpAny_bind (wpAny_runOwn ?_)) fun _ _ x => x)))))))  fun _ _ x => x)
      rw [Around.mark_none]
      refine codeAny_mono q6 fun r s7 q7 => ?_
      cases r with
      | error _ => exact q7.elim
      | ok _ =>
        first
          | exact wpAny_pure ⟨rfl, q7⟩
          | exact wpAny_bind (wpAny_pure (wpAny_pure ⟨rfl, q7⟩))
theorem start_b {s : Shared} (go : codeAny (model G w) A (.compLoop (twoSet el ta ia tb ib ca cb sco at_) 1 o d ev) Z s)
    (go2 : wpAny (model G w) A (pyIter o) (fun t s1 => codeAny (model G w) A (.compLoop (twoSet el ta ia tb ib ca cb sco at_) 1 t d ev) Z s1) (out_ G w A ev Z) s) :
    codeAny (model G w) A (.compStart (twoSet el ta ia tb ib ca cb sco at_) 1 o d ev) Z s := by
  refine codeAny_of_tree ?_
  show wpAny _ _ ((compStart (twoSet el ta ia tb ib ca cb sco at_) 1 o d ev).onRaise (fun x => noteFrame x ev >>= fun _ => standAt theWindowsPlace)) _ _ s
  refine wpAny_notedAt ?_
  unfold compStart
  show wpAny _ _ (ask >>= _) _ _ s
  refine wpAny_bind (wpAny_askSetting (wpAny_ite ?_))
  split
  case isTrue =>
    first
      | exact wpAny_pure (And.intro rfl go)
      | exact wpAny_bind (wpAny_pure (wpAny_pure (And.intro rfl go)))
  case isFalse =>
    refine wpAny_bind (wpAny_rule (wpAny_bind ?_))
    show wpAny _ _ (standAt ib.pos) _ _ s
    exact wpAny_standAt (wpAny_bind (wpAny_mono go2 (fun t s1 q => wpAny_pure (And.intro rfl q)) fun _ _ x => x))
end
end Ft

set_option Elab.async false
set_option linter.all false
set_option maxRecDepth 100000
set_option maxHeartbeats 4000000
namespace Ft
open PySem PySem.Spec PyProof.Rows L2
theorem put_ok {X : Cx} {pins : List (Addr × Obj)} {σ : L2.St} {H : Hp} {s : Shared} {E : Value → Shared → Prop} {D : Addr} {S : Int → Bool} {n : Nat} {k : Int} {tk : Tok} {Q : Value → Shared → Prop} (I : Inv X pins σ H s) (hD : H D = some (SetO X.w D S n)) (room : n + 1 < scanBound)
    (go : ∀ t, Inv X pins σ (upd H D (SetO X.w D (fun j => S j || decide (j = k)) (if S k = true then n else n + 1))) t → Q .none t) : wpAny (model X.prog X.w) X.A (call (.builtin "set.add") [.ref D, .int k tk]) Q E s := by
  refine setR_add (setO_get I hD) room fun h' sb new => go _ ?_
  obtain ⟨u, _, _, _, hu, _⟩ := id new
  exact I.write (e := D) (t' := s.toks + 1) (by rw [hD]; trivial) (.inl rfl) (fun b x hb hx => (sb.2 b hb).trans hx) ⟨u, hu⟩ (setO_new new)
/-- {el for ta in ia if .. for tb in ib if ..}, ints: D the new set -/
def tSet2 (w : World) (wi : TI) (ga : TG) (tca : TT) (wj : TI) (gb : TG) (tcb : TT) (te : TE) (all inn : List Nat) : TE := fun σ H Q => wi σ H fun J Ha => ∀ D, Ha D = none → ∃ W : Nat → Nat → Hp → Prop, (∃ m, W 0 m (upd Ha D (SetO w D (fun _ => false) 0))) ∧ ∀ i m Hb, W i m Hb →
  (J.stop i Hb ∧ Q (.ref D) Hb) ∨ (J.go i Hb ∧ ∃ N : Hp → Prop, (∀ Hc, N Hc → ∃ m', m' < m ∧ W (i + 1) m' Hc) ∧ ∀ x Hc, J.yld i Hb x Hc → ga x (wipe σ all) Hc fun σa Hd => wipe σa all = wipe σ all ∧ tca σa Hd fun z He =>
    if z = true then wj σa He fun K1 Hf => ∃ U : Nat → Nat → Hp → Prop, (∃ m, U 0 m Hf) ∧ ∀ j k Hg, U j k Hg →
      (K1.stop j Hg ∧ N Hg) ∨ (K1.go j Hg ∧ ∃ M : Hp → Prop, (∀ Hh, M Hh → ∃ k', k' < k ∧ U (j + 1) k' Hh) ∧ ∀ y Hh, K1.yld j Hg y Hh → gb y (wipe σa inn) Hh fun σb Hi => wipe σb inn = wipe σa inn ∧ tcb σb Hi fun z Hj =>
        if z = true then te σb Hj fun v Hk => ∃ (c : Int) (S : Int → Bool) (n : Nat), v = .int c ∧ Hk D = some (SetO w D S n) ∧ n + 1 < scanBound ∧ M (upd Hk D (SetO w D (fun j => S j || decide (j = c)) (if S c = true then n else n + 1))) else M Hj)
    else N He)
section
variable {X : Cx}
abbrev InBlk (X : Cx) (sco : Scope) (P : Cx → Prop) : Prop := ∀ (s : Shared) (H : Hp) (C : Addr) (cl : List (Str × Addr)) (fp : List Addr), P (X.blk s H sco (compEnvC sco cl C X.env) fp)
theorem set2_core {pins : List (Addr × Obj)} {s : Shared} {σ : L2.St} {H : Hp} {Q : VK} {el ta ia tb ib : Expr} {ca cb : List Expr} {sco : Scope} {own : List (Str × Nat)} {inn : List Nat} {at_ at2 : Pos} {wi wj : TI} {ga gb : TG} {tca tcb : TT} {te : TE} {use : Option (Value → Sem Unit)} {Qf : Value → Shared → Prop}
    (calm : X.calm = true) (nd : X.N.Nodup) (I : Inv X pins σ H s) (pi : PI X ta ia wi) (ok : BlkOk X.N X.env.scope sco own) (sub : ∀ i ∈ inn, i ∈ own.map (·.2)) (pga : InBlk X sco fun Y => PG Y ta ga) (pta : InBlk X sco fun Y => PTs Y ca tca) (pib : InBlk X sco fun Y => PI Y tb ib wj) (pgb : InBlk X sco fun Y => PG Y tb gb) (ptb : InBlk X sco fun Y => PTs Y cb tcb)
    (pel : InBlk X sco fun Y => PE Y el te) (fa : ∀ x, foldedSetIterable ia X.env x = pure x) (fb : ∀ env x, foldedSetIterable ib env x = pure x) (h : tSet2 X.w wi ga tca wj gb tcb te (own.map (·.2)) inn σ H Q)
    (back : ∀ D C t m Ht, Inv X pins σ Ht t → Q (.ref D) Ht → t.heap.Ns C m → FpOk X pins Ht C → compPost (model X.prog X.w) X.A X.xe use Qf (.ref D) C (.ok .next) t) :
    wpAny (model X.prog X.w) X.A (comprehension (twoSet el ta ia tb ib ca cb sco at_) sco X.env at2 (newSet (.type "set")) false (eval ia X.env) use) Qf X.xe s := by
  have cells : ∀ y ∈ sco.names, y.2 = .free → ∃ c, X.env.cells.lookup y.1 = some c := fun y hy e => (ok.free y hy e).elim (fun k => I.ok.has _ (.inl k)) (fun k => I.ok.has _ (.inr k))
  refine wpAny_comprehension_free (use := use) rfl fa (closure_ok cells) ok.kind (fun y hy e => by rw [ok.uniq y hy, e]) (thn (pi.run pins s σ H _ I h) fun xv s1 hx => thn hx fun itv s2 h2 => ?_)
  obtain ⟨it, fp, tn, J, Ha, e, Ia, T, sta, fpa, q⟩ := h2
  subst e
  refine PpSet.newSet_ok (newEnv_comp ?_)
  obtain ⟨D, eD⟩ : ∃ D, s2.heap.objs.size = D := ⟨_, rfl⟩
  have free : Ha D = none := Ia.hok.fresh (Nat.le_of_eq eD)
  obtain ⟨W, ⟨m0, w0⟩, turn⟩ := q D free
  obtain ⟨s3, es3⟩ : ∃ s3 : Shared, ({ s2 with heap := s2.heap.push { cls := .type "set", dict := none, data := .set #[] 0 (.fresh 0 0 (!X.w.params.followText "set-order")) } } : Shared) = s3 := ⟨_, rfl⟩
  have I3 : Inv X pins σ (upd Ha D (SetO X.w D (fun _ => false) 0)) s3 := by
    subst es3 eD
    exact Ia.laid (t' := s2.toks) (fun b o e => Heap.get?_push_of_some _ e) (Nat.le_refl _) (setO_new (setR_fresh X.w))
  have push3 : s3.heap = s2.heap.push { cls := .type "set", dict := none, data := .set #[] 0 (.fresh 0 0 (!X.w.params.followText "set-order")) } := by rw [← es3]
  have below : ∀ b ∈ fp, b < s2.heap.objs.size := fun b hb => by
    obtain ⟨_, e, _⟩ := T.obj _ _ sta b hb
    exact Heap.lt_size e
  have fp3 : ∀ b ∈ fp, FpOk X pins (upd Ha D (SetO X.w D (fun _ => false) 0)) b ∧ b < s3.heap.objs.size := fun b hb => by
    have lt := below b hb
    refine ⟨⟨by rw [upd_ne (by rw [← eD]; exact Nat.ne_of_lt lt)]; exact (fpa b hb).1, (fpa b hb).2⟩, ?_⟩
    rw [push3, Heap.size_push]
    exact Nat.lt_succ_of_lt lt
  have st3 : tn 0 s3.heap := T.keep _ _ _ sta fun b _ o e => by rw [push3]; exact Heap.get?_push_of_some _ e
  have I4 := block_start I3 ok nd fp3
  obtain ⟨cl, ecl⟩ : ∃ cl, cellsFrom (s3.heap.objs.size + 1) sco.names (cloFrom X.env.cells sco.names []) = cl := ⟨_, rfl⟩
  rw [ecl] at I4
  have pga := pga s3 (upd Ha D (SetO X.w D (fun _ => false) 0)) s3.heap.objs.size cl fp
  have pta := pta s3 (upd Ha D (SetO X.w D (fun _ => false) 0)) s3.heap.objs.size cl fp
  have pib := pib s3 (upd Ha D (SetO X.w D (fun _ => false) 0)) s3.heap.objs.size cl fp
  have pgb := pgb s3 (upd Ha D (SetO X.w D (fun _ => false) 0)) s3.heap.objs.size cl fp
  have ptb := ptb s3 (upd Ha D (SetO X.w D (fun _ => false) 0)) s3.heap.objs.size cl fp
  have pel := pel s3 (upd Ha D (SetO X.w D (fun _ => false) 0)) s3.heap.objs.size cl fp
  have none3 : ∀ b ∈ fp, (upd Ha D (SetO X.w D (fun _ => false) 0)) b = none := fun b hb => (fp3 b hb).1.1
  rw [eD, es3, ecl]
  obtain ⟨ev, eev⟩ : ∃ ev, compEnvC sco cl s3.heap.objs.size X.env = ev := ⟨_, rfl⟩
  have loc : ev.locals = s3.heap.objs.size := by
    subst eev
    rfl
  rw [eev] at I4 pga pta pib pgb ptb pel
  obtain ⟨H3, eH3⟩ : ∃ H3, upd Ha D (SetO X.w D (fun _ => false) 0) = H3 := ⟨_, rfl⟩
  rw [eH3] at I3 I4 pga pta pib pgb ptb pel w0 none3 fp3
  obtain ⟨s4, es4⟩ : ∃ s4 : Shared, ({ s3 with heap := pushCells (s3.heap.push { cls := .type "dict", data := .dict #[] }) sco.names } : Shared) = s4 := ⟨_, rfl⟩
  rw [es4] at I4
  have st4 : tn 0 s4.heap := T.keep _ _ _ st3 fun b _ o e => by rw [← es4]; exact pushCells_keeps _ _ _ _ (Heap.get?_push_of_some _ e)
  have calmF : ∀ {σt : L2.St} {Ht : Hp} {t : Shared}, Inv (X.blk s3 H3 sco ev fp) [] σt Ht t → (∀ b ∈ fp, Ht b = none) → ∀ b ∈ fp, FpOk (X.blk s3 H3 sco ev fp) [] Ht b := by
    intro σt Ht t It none b hb
    refine ⟨none b hb, (It.ok.exf b hb).1, It.ok.exfs b hb, .inl hb, (fun x c e => (It.ok.exf b hb).2 x c e), fun p hp => ?_⟩
    have : p ∈ ([] : List (Addr × Obj)) ++ [] := hp
    simp at this
  suffices z : codeAny (model X.prog X.w) X.A (.compStart (twoSet el ta ia tb ib ca cb sco at_) 0 (.ref it) (.ref D) ev) (compPost (model X.prog X.w) X.A X.xe use Qf (.ref D) s3.heap.objs.size) s4 by
    rw [← es4, ← eev] at z
    exact z
  obtain ⟨vs, evs⟩ : ∃ vs, own.map (·.2) = vs := ⟨_, rfl⟩
  rw [evs] at turn sub I4
  have loop : codeAny (model X.prog X.w) X.A (.compLoop (twoSet el ta ia tb ib ca cb sco at_) 0 (.ref it) (.ref D) ev) (compPost (model X.prog X.w) X.A X.xe use Qf (.ref D) s3.heap.objs.size) s4 := by
    refine loop_a (fb ev) (fun k t => ∃ i Ht, Inv (X.blk s3 H3 sco ev fp) [] (wipe σ vs) Ht t ∧ tn i t.heap ∧ (∀ b ∈ fp, Ht b = none) ∧ W i k Ht) ?_ m0 ⟨0, H3, I4, st4, none3, w0⟩
    rintro k s5 ⟨i, H5, I5, st5, n5, w5⟩
    rcases turn i k H5 w5 with ⟨stop, over⟩ | ⟨go, N, less, step⟩
    · refine thnF (T.done (X.blk s3 H3 sco ev fp) rfl rfl rfl calm i [] s5 _ H5 (fun _ _ => False) I5 (calmF I5 n5) st5 stop) fun r s6 ⟨er, I6⟩ => ?_
      subst er
      have I7 : Inv X pins σ H5 s6 := I3.call' (ch := fp) I6.os I6.base I6.hok I6.bare fun b hb => by
        obtain ⟨⟨_, f1, f2, f3, f4, f5⟩, _⟩ := fp3 b hb
        exact ⟨f3, f1, f4, f5⟩
      have freeC : H5 s3.heap.objs.size = none := by
        rw [← loc]
        exact I6.free
      obtain ⟨m, hm, _⟩ := I6.loc
      have hm : s6.heap.Ns ev.locals m := hm
      rw [loc] at hm
      exact back D s3.heap.objs.size s6 m H5 I7 over hm (I3.fpOk (Nat.le_refl _) freeC)
    · refine thnF (T.item (X.blk s3 H3 sco ev fp) rfl rfl rfl calm i [] s5 _ H5 (fun _ _ => False) I5 (calmF I5 n5) st5 go) fun r s6 ⟨u, er, h6⟩ => ?_
      subst er
      refine thnF h6 fun _ s7 ⟨x, H7, I7, r7, y7, st7, n7⟩ => ?_
      have I7p := I7.pinned (calmF I7 n7) (T.obj _ _ st7)
      refine thnF (pga.run _ s7 _ H7 x u _ I7p r7 (step x H7 y7)) fun _ s8 ⟨σ8, H8, I8, w8, q8⟩ => thnF (pta.run _ s8 σ8 H8 _ I8 q8) fun z s9 ⟨H9, I9, q9⟩ => ?_
      have len8 : (wipe σ vs).length = σ8.length := by rw [← w8, wipe_length]
      have know8 : ∀ (j : Nat) v, (wipe σ vs)[j]? = some (some v) → σ8[j]? = some (some v) := fun j v e => by
        rw [← w8] at e
        exact (wipe_some e).1
      have knowIn : ∀ (j : Nat) v, (wipe σ vs)[j]? = some (some v) → (wipe σ8 inn)[j]? = some (some v) := fun j v e => by
        rw [← w8] at e
        obtain ⟨e1, off⟩ := wipe_some e
        rw [wipe_out fun z => off (sub j z)]
        exact e1
      have fin : ∀ {σt : L2.St} {t : Shared} {Ht : Hp}, Inv (X.blk s3 H3 sco ev fp) ([] ++ pinsAt fp s7.heap) σt Ht t → (wipe σ vs).length = σt.length → (∀ (j : Nat) v, (wipe σ vs)[j]? = some (some v) → σt[j]? = some (some v)) → N Ht → ∃ m, m < k ∧ ∃ i Hu, Inv (X.blk s3 H3 sco ev fp) [] (wipe σ vs) Hu t ∧ tn i t.heap ∧ (∀ b ∈ fp, Hu b = none) ∧ W i m Hu := by
        intro σt t Ht It hlen hknow hN
        obtain ⟨m, lt, wm⟩ := less Ht hN
        have pinned : ∀ b ∈ fp, ∀ o, s7.heap.get? b = some o → t.heap.get? b = some o ∧ Ht b = none := fun b hb o e => by
          have z := It.pin (b, o) (List.mem_append_right _ (List.mem_append_right _ (mem_pinsAt hb e)))
          exact ⟨z.1, z.2.1⟩
        refine ⟨m, lt, i + 1, Ht, (It.unpinned (pins := [])).weak hlen hknow, T.keep _ _ _ st7 fun b hb o e => (pinned b hb o e).1, fun b hb => ?_, wm⟩
        obtain ⟨o, e, _⟩ := T.obj _ _ st7 b hb
        exact (pinned b hb o e).2
      cases z with
      | false =>
        simp only [Bool.false_eq_true, if_false] at q9 ⊢
        exact fin I9 len8 know8 q9
      | true =>
        simp only [if_true] at q9 ⊢
        refine thnF (pib.run _ s9 σ8 H9 _ I9 q9) fun xv s10 hx => thnF hx fun itv s11 h11 => ?_
        obtain ⟨it1, fp1, tn1, K1, Hf, ee, If, T1, stf, fpf, U, ⟨m1, u0⟩, turn1⟩ := h11
        subst ee
        have calmG : ∀ {Ht : Hp}, (∀ b ∈ fp1, Ht b = none) → ∀ b ∈ fp1, FpOk (X.blk s3 H3 sco ev fp) ([] ++ pinsAt fp s7.heap) Ht b := fun none b hb => ⟨none b hb, (fpf b hb).2⟩
        have inner : codeAny (model X.prog X.w) X.A (.compLoop (twoSet el ta ia tb ib ca cb sco at_) 1 (.ref it1) (.ref D) ev) (fun r t => match r with
            | .ok _ => ∃ m, m < k ∧ ∃ i Hu, Inv (X.blk s3 H3 sco ev fp) [] (wipe σ vs) Hu t ∧ tn i t.heap ∧ (∀ b ∈ fp, Hu b = none) ∧ W i m Hu
            | .error _ => False) s11 := by
          refine loop_b (fun kk t => ∃ j Ht, Inv (X.blk s3 H3 sco ev fp) ([] ++ pinsAt fp s7.heap) (wipe σ8 inn) Ht t ∧ tn1 j t.heap ∧ (∀ b ∈ fp1, Ht b = none) ∧ U j kk Ht) ?_ m1 ⟨0, Hf, If.weak (wipe_length _ _) (fun j v e => (wipe_some e).1), stf, (fun b hb => (fpf b hb).1), u0⟩
          rintro kk s12 ⟨j, H12, I12, st12, n12, u12⟩
          rcases turn1 j kk H12 u12 with ⟨stop1, over1⟩ | ⟨go1, M, less1, step1⟩
          · refine thnF (T1.done (X.blk s3 H3 sco ev fp) rfl rfl rfl calm j _ s12 (wipe σ8 inn) H12 (fun _ _ => False) I12 (calmG n12) st12 stop1) fun r s13 ⟨er, I13⟩ => ?_
            subst er
            exact fin I13 (len8.trans (wipe_length σ8 inn).symm) knowIn over1
          · refine thnF (T1.item (X.blk s3 H3 sco ev fp) rfl rfl rfl calm j _ s12 (wipe σ8 inn) H12 (fun _ _ => False) I12 (calmG n12) st12 go1) fun r s13 ⟨u1, er, h13⟩ => ?_
            subst er
            refine thnF h13 fun _ s14 ⟨x1, H14, I14, r14, y14, st14, n14⟩ => ?_
            have I14p := I14.pinned (calmG n14) (T1.obj _ _ st14)
            refine thnF (pgb.run _ s14 (wipe σ8 inn) H14 x1 u1 _ I14p r14 (step1 x1 H14 y14)) fun _ s15 ⟨σ15, H15, I15, w15, q15⟩ => thnF (ptb.run _ s15 σ15 H15 _ I15 q15) fun z1 s16 ⟨H16, I16, q16⟩ => ?_
            have fin1 : ∀ {t : Shared} {Ht : Hp}, Inv (X.blk s3 H3 sco ev fp) (([] ++ pinsAt fp s7.heap) ++ pinsAt fp1 s14.heap) σ15 Ht t → M Ht → ∃ m, m < kk ∧ ∃ j Hu, Inv (X.blk s3 H3 sco ev fp) ([] ++ pinsAt fp s7.heap) (wipe σ8 inn) Hu t ∧ tn1 j t.heap ∧ (∀ b ∈ fp1, Hu b = none) ∧ U j m Hu := by
              intro t Ht It hM
              obtain ⟨m, lt, um⟩ := less1 Ht hM
              have pinned : ∀ b ∈ fp1, ∀ o, s14.heap.get? b = some o → t.heap.get? b = some o ∧ Ht b = none := fun b hb o e => by
                have z := It.pin (b, o) (List.mem_append_right _ (List.mem_append_right _ (mem_pinsAt hb e)))
                exact ⟨z.1, z.2.1⟩
              refine ⟨m, lt, j + 1, Ht, It.unpinned.weak (by rw [← w15, wipe_length]) (fun j v e => by rw [← w15] at e; exact (wipe_some e).1), T1.keep _ _ _ st14 fun b hb o e => (pinned b hb o e).1, fun b hb => ?_, um⟩
              obtain ⟨o, e, _⟩ := T1.obj _ _ st14 b hb
              exact (pinned b hb o e).2
            cases z1 with
            | false =>
              simp only [Bool.false_eq_true, if_false] at q16 ⊢
              exact fin1 I16 q16
            | true =>
              simp only [if_true] at q16 ⊢
              refine thnF (pel.run _ s16 σ15 H16 _ I16 q16) fun v s17 ⟨yv, H17, I17, r17, cc, S0, n0, ey, hD17, room, hM⟩ => ?_
              subst ey
              obtain ⟨tk, rfl⟩ := r17
              exact put_ok (X := X.blk s3 H3 sco ev fp) I17 hD17 room fun t It => fin1 It hM
        exact start_b inner (T1.self X.A 0 _ _ _ stf inner)
  exact PpSet.codeAny_compStart_set loop (T.self X.A 0 _ _ _ st4 loop)
theorem pe_set2 {el ta ia tb ib : Expr} {ca cb : List Expr} {sco : Scope} {own : List (Str × Nat)} {inn : List Nat} {at_ : Pos} {wi wj : TI} {ga gb : TG} {tca tcb : TT} {te : TE} (calm : X.calm = true) (nd : X.N.Nodup) (pi : PI X ta ia wi) (ok : BlkOk X.N X.env.scope sco own) (sub : ∀ i ∈ inn, i ∈ own.map (·.2))
    (pga : InBlk X sco fun Y => PG Y ta ga) (pta : InBlk X sco fun Y => PTs Y ca tca) (pib : InBlk X sco fun Y => PI Y tb ib wj) (pgb : InBlk X sco fun Y => PG Y tb gb) (ptb : InBlk X sco fun Y => PTs Y cb tcb) (pel : InBlk X sco fun Y => PE Y el te)
    (fa : ∀ x, foldedSetIterable ia X.env x = pure x := by intro _; rfl) (fb : ∀ env x, foldedSetIterable ib env x = pure x := by intro _ _; rfl) : PE X (twoSet el ta ia tb ib ca cb sco at_) (tSet2 X.w wi ga tca wj gb tcb te (own.map (·.2)) inn) := by
  refine ⟨fun pins s σ H Q I h => ?_⟩
  rw [PpSet.eval_SetComp]
  refine set2_core calm nd I pi ok sub pga pta pib pgb ptb pel fa fb h fun D C t m Ht It q hm fc => ⟨m, hm, fun h'' sb => ?_⟩
  obtain ⟨f0, f1, _, f3, f4, f5⟩ := fc
  exact ⟨.ref D, Ht, It.turned (t' := t.toks) (fun b o hb e => (sb.2 b hb).trans e) f0 f1 f3 f4 f5, rfl, q⟩
end
end Ft

set_option Elab.async false
set_option linter.all false
set_option maxRecDepth 100000
set_option maxHeartbeats 8000000
namespace Ft
open PySem PySem.Spec PyProof.Rows L2
theorem piece_lt' {C : Chart} {a b : Nat} (ha : a < C.n) (h : b ∈ pieceOf C a) : b < C.n := by
  unfold pieceOf at h
  by_cases hw : a ∈ C.wished
  · rw [if_pos hw] at h
    rw [List.mem_singleton.mp h]
    exact ha
  · rw [if_neg hw] at h
    exact (those_mem.mp h).1
theorem len_of_lt' (l : List Nat) (n : Nat) (nd : l.Nodup) (b : ∀ x ∈ l, x < n) : l.length ≤ n := by
  have := nat_nodup_len l (List.range n) nd fun x hx => List.mem_range.mpr (b x hx)
  rwa [List.length_range] at this
section
variable {P : Program} {w : World} {K : PySem.W.Frag} {mg : Str → Option Value} {base : Heap} {ca : Str → Addr}
/-! ### made_standing, of data -/
theorem noPlace_cons {n i : Nat} {d : PyData} {ds : List PyData} : noPlace n i (d :: ds) = if rngD n d = true then noPlace n (i + 1) ds else some i := rfl
theorem standErr_not {n : Nat} {d : PyData} (h : isTup d = false) : standErr n d = some (-1) := by
  cases d <;> first | rfl | cases h
/-- what a function of a map and a standing owes -/
def DueS (K : PySem.W.Frag) (ca : Str → Addr) (H : Hp) (E : XK) (dc ds : PyData) (ok : Chart → List Nat → Prop) : Prop :=
  (∀ x i, mapErr dc = some (x, i) → Raised K ca H E (x, .int i)) ∧ ∀ C, dc = chartD C → C.Ok → (∀ i, standErr C.n ds = some i → Raised K ca H E ("BadStanding", .int i)) ∧ ∀ S, ds = lotD S → (∀ x ∈ S, x < C.n) → 1 ≤ S.length → S.length ≤ 3 → ok C S
def spX_made_standing (K : PySem.W.Frag) (ca : Str → Addr) : Sp := fun vs H Q E => ∃ (vc vt : V) (dc ds : PyData), vs = [vc, vt] ∧ Dp K H vc dc ∧ Dp K H vt ds ∧ DueS K ca H E dc ds fun C S => ∀ H', Same H H' → Q vt H'
theorem DueS.valid {K : PySem.W.Frag} {ca : Str → Addr} {H : Hp} {E : XK} {C : Chart} {S : List Nat} {ok : Chart → List Nat → Prop} (o : C.Ok) (lt : ∀ x ∈ S, x < C.n) (l1 : 1 ≤ S.length) (l3 : S.length ≤ 3) (q : ok C S) : DueS K ca H E (chartD C) (lotD S) ok :=
  ⟨fun x i h => (by rw [mapErr_chart o] at h; cases h), fun C' e _ => (by
    have z := chartD_inj e
    subst z
    exact ⟨fun i h => (by rw [standErr_ok lt l1 l3] at h; cases h), fun S' e' _ _ _ => (by
      have z := lotD_inj e'
      subst z
      exact q)⟩)⟩
def sp_made_standing (K : PySem.W.Frag) : Sp := fun vs H Q _ => ∃ (c t : Addr) (C : Chart) (S : List Nat), vs = [.ref c, .ref t] ∧ IsChart K H c C ∧ C.Ok ∧ SqT K H t (S.map vN) ∧ (∀ x ∈ S, x < C.n) ∧ 1 ≤ S.length ∧ S.length ≤ 3 ∧ ∀ H', Same H H' → Q (.ref t) H'
theorem calv_made_standing (c_made_standing : CalX P w K mg base 6 "made_standing" (spX_made_standing K ca)) : Cal P w K mg base 6 "made_standing" (sp_made_standing K) :=
  c_made_standing.valid fun vs H Q E ⟨c, t, C, S, e, isC, ok, hS, lt, l1, l3, q⟩ => ⟨_, _, _, _, e, dp_chart isC, dp_lot hS, .valid ok lt l1 l3 q⟩
/-! ### is_standing -/
/-! ### members -/
noncomputable def membersOf (C : Chart) (S : List Nat) : List Nat := those C.n fun b => ∃ a ∈ S, b ∈ pieceOf C a
def spX_members (K : PySem.W.Frag) (ca : Str → Addr) : Sp := fun vs H Q E => ∃ (vc vt : V) (dc ds : PyData), vs = [vc, vt] ∧ Dp K H vc dc ∧ Dp K H vt ds ∧ DueS K ca H E dc ds fun C S => ∀ q H', Same H H' → SqT K H' q ((membersOf C S).map vN) → Q (.ref q) H'
def sp_members (K : PySem.W.Frag) : Sp := fun vs H Q _ => ∃ (c t : Addr) (C : Chart) (S : List Nat), vs = [.ref c, .ref t] ∧ IsChart K H c C ∧ C.Ok ∧ SqT K H t (S.map vN) ∧ (∀ x ∈ S, x < C.n) ∧ 1 ≤ S.length ∧ S.length ≤ 3 ∧ ∀ q H', Same H H' → SqT K H' q ((membersOf C S).map vN) → Q (.ref q) H'
theorem calv_members (c_members : CalX P w K mg base 7 "members" (spX_members K ca)) : Cal P w K mg base 7 "members" (sp_members K) :=
  c_members.valid fun vs H Q E ⟨c, t, C, S, e, isC, ok, hS, lt, l1, l3, q⟩ => ⟨_, _, _, _, e, dp_chart isC, dp_lot hS, .valid ok lt l1 l3 q⟩
end
end Ft

set_option Elab.async false
set_option linter.all false
set_option maxRecDepth 100000
set_option maxHeartbeats 8000000
namespace Ft
open PySem PySem.Spec PyProof.Rows L2
/-- the least place of a place's piece -/
noncomputable def leastOf (C : Chart) (a : Nat) : Nat := (pieceOf C a).headD 0
noncomputable def rowOf (C : Chart) (S : List Nat) : List Nat := S.map (leastOf C)
theorem piece_has {C : Chart} {a : Nat} (ha : a < C.n) : a ∈ pieceOf C a := by
  unfold pieceOf
  by_cases hw : a ∈ C.wished
  · rw [if_pos hw]
    exact List.mem_singleton.mpr rfl
  · rw [if_neg hw]
    exact those_mem.mpr ⟨ha, hw, .inl rfl⟩
theorem least_get {C : Chart} {a : Nat} (ha : a < C.n) : (pieceOf C a)[0]? = some (leastOf C a) := by
  unfold leastOf
  have h := piece_has ha
  cases e : pieceOf C a with
  | nil =>
    rw [e] at h
    cases h
  | cons x l => rfl
theorem least_mem {C : Chart} {a : Nat} (ha : a < C.n) : leastOf C a ∈ pieceOf C a := List.mem_of_getElem? (least_get ha)
theorem least_lt {C : Chart} {a : Nat} (ha : a < C.n) : leastOf C a < C.n := piece_lt' ha (least_mem ha)
theorem row_take {C : Chart} {S : List Nat} {i a : Nat} (h : S[i]? = some a) : (rowOf C S).take (i + 1) = (rowOf C S).take i ++ [leastOf C a] := take_more (by unfold rowOf; rw [List.getElem?_map, h]; rfl)
theorem row_len {C : Chart} {S : List Nat} : (rowOf C S).length = S.length := List.length_map ..
section
variable {P : Program} {w : World} {K : PySem.W.Frag} {mg : Str → Option Value} {base : Heap} {ca : Str → Addr}
/-! ### row_of -/
def spX_row_of (K : PySem.W.Frag) (ca : Str → Addr) : Sp := fun vs H Q E => ∃ (vc vt : V) (dc ds : PyData), vs = [vc, vt] ∧ Dp K H vc dc ∧ Dp K H vt ds ∧ DueS K ca H E dc ds fun C S => ∀ q H', Same H H' → SqT K H' q ((rowOf C S).map vN) → Q (.ref q) H'
def sp_row_of (K : PySem.W.Frag) : Sp := fun vs H Q _ => ∃ (c t : Addr) (C : Chart) (S : List Nat), vs = [.ref c, .ref t] ∧ IsChart K H c C ∧ C.Ok ∧ SqT K H t (S.map vN) ∧ (∀ x ∈ S, x < C.n) ∧ 1 ≤ S.length ∧ S.length ≤ 3 ∧ ∀ q H', Same H H' → SqT K H' q ((rowOf C S).map vN) → Q (.ref q) H'
theorem calv_row_of (c_row_of : CalX P w K mg base 7 "row_of" (spX_row_of K ca)) : Cal P w K mg base 7 "row_of" (sp_row_of K) :=
  c_row_of.valid fun vs H Q E ⟨c, t, C, S, e, isC, ok, hS, lt, l1, l3, q⟩ => ⟨_, _, _, _, e, dp_chart isC, dp_lot hS, .valid ok lt l1 l3 q⟩
end
end Ft

set_option linter.all false
namespace Ft
theorem take_flat {α β : Type} {f : α → List β} {l : List α} {i : Nat} {x : α} (h : l[i]? = some x) : (l.take (i + 1)).flatMap f = (l.take i).flatMap f ++ f x := by
  rw [List.take_add_one, h, Option.toList_some, List.flatMap_append, List.flatMap_cons, List.flatMap_nil, List.append_nil]
theorem take_filter {α : Type} {f : α → Bool} {l : List α} {i : Nat} {x : α} (h : l[i]? = some x) : (l.take (i + 1)).filter f = (l.take i).filter f ++ (if f x = true then [x] else []) := by
  rw [List.take_add_one, h, Option.toList_some, List.filter_append, List.filter_cons, List.filter_nil]
theorem natZ {l : List Int} (h : ∀ x ∈ l, 0 ≤ x) : ∃ m, l = iN m := by
  refine ⟨l.map Int.toNat, ?_⟩
  unfold iN
  rw [List.map_map]
  conv => lhs; rw [← List.map_id l]
  exact List.map_congr_left fun x hx => (Int.toNat_of_nonneg (h x hx)).symm
end Ft

set_option Elab.async false
set_option linter.all false
set_option maxRecDepth 100000
set_option maxHeartbeats 4000000
/-! what stays beside one object that changes -/
namespace Ft
open PySem PySem.Spec PyProof.Rows L2
theorem kp_same {H H' : Hp} {D : Addr} (hD : H D = none) (k : Kp [D] H H') : Same H H' := fun b o e => k b o (fun m => by rw [List.mem_singleton.mp m, hD] at e; cases e) e
theorem same_kp {H H1 H2 : Hp} {D : Addr} (hD : H D = none) (s : Same H H1) (k : Kp [D] H1 H2) : Same H H2 := fun b o e => k b o (fun m => by rw [List.mem_singleton.mp m, hD] at e; cases e) (s b o e)
theorem kp_put {H H' : Hp} {D : Addr} {o : HO} (k : Kp [D] H H') : Kp [D] H (upd H' D o) := fun z u nz ez => by
  rw [upd_ne (fun y => nz (by rw [y]; simp))]
  exact k z u nz ez
theorem lists_one {H : Hp} {D : Addr} {xs : List V} (h : H D = some (.lst xs)) : Lists [D] H := fun b hb => by
  rw [List.mem_singleton.mp hb]
  exact ⟨_, h, (fun _ z => nomatch z), (fun _ _ z => nomatch z)⟩
theorem kp_lst {H : Hp} {D : Addr} {o : HO} : Kp [D] H (upd H D o) := fun z u nz ez => by
  rw [upd_ne (fun y => nz (by rw [y]; simp))]
  exact ez
end Ft

set_option Elab.async false
set_option linter.all false
set_option maxRecDepth 100000
set_option maxHeartbeats 8000000
namespace Ft
open PySem PySem.Spec PyProof.Rows L2
/-- rows of places, made one by one -/
structure RowsUp (H0 H : Hp) (d : Addr) (f : Nat → List Nat) (j : Nat) (rows : List Addr) : Prop where
  k : Kp [d] H0 H
  top : H d = some (.lst (rows.map V.ref))
  len : rows.length = j
  new : ∀ l ∈ rows, H0 l = none
  each : ∀ a l, rows[a]? = some l → l ≠ d ∧ H l = some (.lst ((f a).map vN))
theorem RowsUp.start {H0 : Hp} {d : Addr} {f : Nat → List Nat} (hd : H0 d = none) : RowsUp H0 (upd H0 d (.lst [])) d f 0 [] :=
  ⟨(fun b o x e' => by rw [upd_ne (ne_of_none e' hd)]; exact e'), upd_same, rfl, (fun _ h => nomatch h), fun a l h => by simp at h⟩
theorem get_snoc {α : Type} {l : List α} {x y : α} {i : Nat} (h : (l ++ [x])[i]? = some y) : l[i]? = some y ∨ (i = l.length ∧ x = y) := by
  by_cases e : i < l.length
  · rw [List.getElem?_append_left e] at h
    exact .inl h
  · have h2 := (List.getElem?_eq_some_iff.mp h).1
    rw [List.length_append, List.length_singleton] at h2
    have : i = l.length := by omega
    subst this
    rw [List.getElem?_append_right (Nat.le_refl _), Nat.sub_self] at h
    exact .inr ⟨rfl, by simpa using h⟩
theorem RowsUp.more {H0 H1 H2 : Hp} {d m : Addr} {f : Nat → List Nat} {j : Nat} {rows : List Addr} (h : RowsUp H0 H1 d f j rows) (hd : H0 d = none) (s : Same H1 H2) (m0 : H1 m = none) (hM : H2 m = some (.lst ((f j).map vN))) : RowsUp H0 (upd H2 d (.lst (rows.map V.ref ++ [V.ref m]))) d f (j + 1) (rows ++ [m]) := by
  have md : m ≠ d := (ne_of_none h.top m0).symm
  refine ⟨fun b o nb eb => ?_, by rw [upd_same, List.map_append]; rfl, by rw [List.length_append, h.len]; rfl, fun l hl => ?_, fun a l hl => ?_⟩
  · rw [upd_ne (fun z => nb (by rw [z]; simp))]
    exact s _ _ (h.k b o nb eb)
  · rcases List.mem_append.mp hl with hl | hl
    · exact h.new l hl
    · rw [List.mem_singleton.mp hl]
      exact (kp_same hd h.k).free m0
  · rcases get_snoc hl with g | ⟨e1, e2⟩
    · obtain ⟨n1, e1⟩ := h.each a l g
      exact ⟨n1, by rw [upd_ne n1]; exact s _ _ e1⟩
    · rw [← e2, e1, h.len]
      exact ⟨md, by rw [upd_ne md]; exact hM⟩
/-- the places to which roads lead from a place -/
def headsL (C : Chart) (a : Nat) : List Nat := (C.roads.filter fun p => decide (p.1 = a)).map (·.2)
theorem headsL_mem {C : Chart} {a b : Nat} : b ∈ headsL C a ↔ (a, b) ∈ C.roads := by
  unfold headsL
  rw [List.mem_map]
  constructor
  · rintro ⟨p, hp, rfl⟩
    rw [List.mem_filter, decide_eq_true_eq] at hp
    obtain ⟨h1, h2⟩ := hp
    rw [← h2]
    exact h1
  · exact fun h => ⟨(a, b), List.mem_filter.mpr ⟨h, decide_eq_true rfl⟩, rfl⟩
/-- the ground of a map: where roads lead, where each place comes, its piece -/
structure Ground (K : PySem.W.Frag) (H : Hp) (C : Chart) (q hd cm fs lt : Addr) (hs cs ts : List Addr) : Prop where
  top : H q = some (.lst [.ref hd, .ref cm, .ref fs, .ref lt])
  heads : LotsAt H hd hs (headsL C)
  hlen : hs.length = C.n
  comes : LotsAt H cm cs fun a => metU C [a]
  clen : cs.length = C.n
  firsts : H fs = some (.lst (((List.range C.n).map (leastOf C)).map vN))
  lots : H lt = some (.lst (ts.map V.ref))
  tlen : ts.length = C.n
  each : ∀ a t, ts[a]? = some t → SqT K H t ((pieceOf C a).map vN)
def groundA (q hd cm fs lt : Addr) (hs cs : List Addr) : List Addr := q :: hd :: cm :: fs :: lt :: (hs ++ cs)
theorem LotsAt.same {H H' : Hp} (s : Same H H') {q : Addr} {ls : List Addr} {f : Nat → List Nat} (h : LotsAt H q ls f) : LotsAt H' q ls f := ⟨s _ _ h.top, fun a l e => s _ _ (h.each a l e)⟩
theorem Ground.same {K : PySem.W.Frag} {H H' : Hp} (s : Same H H') {C : Chart} {q hd cm fs lt : Addr} {hs cs ts : List Addr} (h : Ground K H C q hd cm fs lt hs cs ts) : Ground K H' C q hd cm fs lt hs cs ts :=
  ⟨s _ _ h.top, h.heads.same s, h.hlen, h.comes.same s, h.clen, s _ _ h.firsts, s _ _ h.lots, h.tlen, fun a t e => Same.sqT s (h.each a t e)⟩
theorem Ground.kp {K : PySem.W.Frag} {H H' : Hp} {ex : List Addr} (k : Kp ex H H') (l : Lists ex H) {C : Chart} {q hd cm fs lt : Addr} {hs cs ts : List Addr} (off : ∀ z ∈ groundA q hd cm fs lt hs cs, z ∉ ex) (h : Ground K H C q hd cm fs lt hs cs ts) : Ground K H' C q hd cm fs lt hs cs ts := by
  have o1 : ∀ z, z ∈ hs ++ cs → z ∉ ex := fun z m => off z (by unfold groundA; simp only [List.mem_cons]; exact .inr (.inr (.inr (.inr (.inr m)))))
  exact ⟨k _ _ (off _ (by simp [groundA])) h.top, ⟨k _ _ (off _ (by simp [groundA])) h.heads.top, fun a l e => k _ _ (o1 l (List.mem_append_left _ (List.mem_of_getElem? e))) (h.heads.each a l e)⟩, h.hlen,
    ⟨k _ _ (off _ (by simp [groundA])) h.comes.top, fun a l e => k _ _ (o1 l (List.mem_append_right _ (List.mem_of_getElem? e))) (h.comes.each a l e)⟩, h.clen, k _ _ (off _ (by simp [groundA])) h.firsts, k _ _ (off _ (by simp [groundA])) h.lots, h.tlen, fun a t e => k.sqT l (h.each a t e)⟩
section
variable {P : Program} {w : World} {K : PySem.W.Frag} {mg : Str → Option Value} {base : Heap}
/-! ### _law_bound_ground -/
def sp_law_bound_ground (K : PySem.W.Frag) : Sp := fun vs H Q _ => ∃ (c tb : Addr) (C : Chart) (rows : List Addr), vs = [.ref c, .ref tb] ∧ IsChart K H c C ∧ C.Ok ∧ TabAt H C tb rows ∧
  ∀ (q hd cm fs lt : Addr) (hs cs ts : List Addr) (H' : Hp), Same H H' → (∀ z ∈ groundA q hd cm fs lt hs cs, H z = none) → Ground K H' C q hd cm fs lt hs cs ts → Q (.ref q) H'
theorem cal_law_bound_ground (T : Txt mg) (D : Def K mg "_law_bound_ground" s_law_bound_ground) (c_law_map_piece : Cal P w K mg base 2 "_law_map_piece" (sp_law_map_piece K)) : Cal P w K mg base 3 "_law_bound_ground" (sp_law_bound_ground K) := by
  refine cal_of D sc_law_bound_ground (fun _ _ _ _ _ _ us hl => match us, hl with | [_, _], _ => rfl) (fun vs H Q E h => ?_) (fun f cdv A outer s H vs Q E hr h => ?_)
  · obtain ⟨c, tb, C, rows, rfl, _⟩ := h
    rfl
  · obtain ⟨c, tb, C, rows, rfl, hCC, ok, hT, q⟩ := h
    have n60 := ok.n60
    have many := ok.many
    obtain ⟨r, wd, ts0, hC⟩ := id hCC
    refine ⟨_, (pss_cons (ps_setLc (i := 2) (own := [("a", 4)]) rfl sc_law_bound_ground.nd rfl rfl (sw_true rfl rfl rfl (by decide +kernel)) (pi_range1 (by rfl) T.range (pa_cons (pe_ix (show IxR _ (rIxT K) from ix_tup) (pv 0) pe_int (fun _ _ => rfl)) pa_nil)) (blkOk_by (N := ["chart", "table", "heads", "lots", "a", "road", "lot", "b"]) (sc := L2.defScope s_law_bound_ground) (by decide +kernel)) (fun _ _ _ _ _ => (pg_name (i := 4) sc_law_bound_ground.nd rfl (Or.inr rfl))) (fun _ _ _ _ _ => pts_nil) (fun _ _ _ _ _ => (pe_lc (own := [("road", 5)]) rfl sc_law_bound_ground.nd (show PI _ _ _ (iTup K _) from pi_tup (pe_ix (show IxR _ (rIxT K) from ix_tup) (pv 0) pe_int (fun _ _ => rfl))) (blkIn (N := ["chart", "table", "heads", "lots", "a", "road", "lot", "b"]) (sc := L2.defScope s_law_bound_ground) rfl (by decide +kernel)) (fun _ _ _ _ _ => (pg_name (i := 5) sc_law_bound_ground.nd rfl (Or.inl rfl))) (fun _ _ _ _ _ => pts_one (pt_cmpR op_eq (pe_ix (show IxR _ (rIxT K) from ix_tup) (pv 5) pe_int (fun _ _ => rfl)) (pv 4) (nomark _))) (fun _ _ _ _ _ => (pe_ix (show IxR _ (rIxT K) from ix_tup) (pv 5) pe_int (fun _ _ => rfl))))))
      (pss_cons (ps_setLc (i := 3) (own := [("a", 4)]) rfl sc_law_bound_ground.nd rfl rfl (sw_true rfl rfl rfl (by decide +kernel)) (pi_range1 (by rfl) T.range (pa_cons (pe_ix (show IxR _ (rIxT K) from ix_tup) (pv 0) pe_int (fun _ _ => rfl)) pa_nil)) (blkOk_by (N := ["chart", "table", "heads", "lots", "a", "road", "lot", "b"]) (sc := L2.defScope s_law_bound_ground) (by decide +kernel)) (fun _ _ _ _ _ => (pg_name (i := 4) sc_law_bound_ground.nd rfl (Or.inl rfl))) (fun _ _ _ _ _ => pts_nil) (fun _ _ _ _ _ => (pe_c c_law_map_piece hr (by decide) (by rfl) (pa_cons (pv 0) (pa_cons (pv 1) (pa_cons (pv 4) pa_nil))))))
      (pss_one (ps_ret (pe_lst (pa_cons (pv 2) (pa_cons (pe_lc (own := [("a", 4)]) rfl sc_law_bound_ground.nd (pi_range1 (by rfl) T.range (pa_cons (pe_ix (show IxR _ (rIxT K) from ix_tup) (pv 0) pe_int (fun _ _ => rfl)) pa_nil)) (blkOk_by (N := ["chart", "table", "heads", "lots", "a", "road", "lot", "b"]) (sc := L2.defScope s_law_bound_ground) (by decide +kernel)) (fun _ _ _ _ _ => (pg_name (i := 4) sc_law_bound_ground.nd rfl (Or.inl rfl))) (fun _ _ _ _ _ => pts_nil) (fun _ _ _ _ _ => (pe_lc (own := [("b", 7)]) rfl sc_law_bound_ground.nd (show PI _ _ _ (iList K _) from pi_list (pe_ix (show IxR _ (rIxL K) from ix_list) (pv 1) (pv 4) (fun _ _ => rfl))) (blkIn (N := ["chart", "table", "heads", "lots", "a", "road", "lot", "b"]) (sc := L2.defScope s_law_bound_ground) rfl (by decide +kernel)) (fun _ _ _ _ _ => (pg_name (i := 7) sc_law_bound_ground.nd rfl (Or.inl rfl))) (fun _ _ _ _ _ => pts_one (pt_cmpR (show OpR _ _ (rIn K true) from op_notIn_seq) (pv 7) (pe_ix (show IxR _ (rIxT K) from ix_tup) (pv 0) pe_int (fun _ _ => rfl)) (by rfl))) (fun _ _ _ _ _ => (pv 7))))) (pa_cons (pe_lc (own := [("lot", 6)]) rfl sc_law_bound_ground.nd (show PI _ _ _ (iList K _) from pi_list (pv 3)) (blkOk_by (N := ["chart", "table", "heads", "lots", "a", "road", "lot", "b"]) (sc := L2.defScope s_law_bound_ground) (by decide +kernel)) (fun _ _ _ _ _ => (pg_name (i := 6) sc_law_bound_ground.nd rfl (Or.inl rfl))) (fun _ _ _ _ _ => pts_nil) (fun _ _ _ _ _ => (pe_ix (show IxR _ (rIxT K) from ix_tup) (pv 6) pe_int (fun _ _ => rfl)))) (pa_cons (pv 3) pa_nil))))))))), ?_⟩
    have e0 : ∀ i : Nat, (0 : Int) + (i : Nat) = (i : Nat) := fun i => by omega
    refine ⟨_, rfl, _, _, _, _, rfl, rfl, hC.top, rfl, _, rfl, by omega, by omega, fun hd hd0 => ?_⟩
    refine lc_range (lo := 0) (n := C.n) (fun j H' => ∃ hs, RowsUp H H' hd (headsL C) j hs) ⟨[], RowsUp.start hd0⟩ ?_ ?_
    · rintro j H1 hj ⟨hs, up⟩
      have s1 := kp_same hd0 up.k
      have hC1 := hC.same s1
      refine ⟨rfl, ?_⟩
      rw [e0]
      refine ⟨_, rfl, _, _, _, _, rfl, rfl, hC1.top, rfl, r, rfl, ⟨_, hC1.row⟩, fun m hm => ?_⟩
      refine lc_tup (K := K) (a := r) (xs := ts0.map V.ref) (fun i H' => Kp [m] H1 H' ∧ H' m = some (.lst ((((C.roads.take i).filter fun p => decide (p.1 = j)).map (·.2)).map vN)))
        ⟨(fun b o nb e' => by rw [upd_ne (ne_of_none e' hm)]; exact e'), upd_same⟩ (fun i H' _ ⟨k, _⟩ => Same.sqT (kp_same hm k) hC1.row) ?_ ?_
      · rintro i x H2 hx ⟨k2, hM2⟩
        obtain ⟨t, ht, rfl⟩ := get_map hx
        obtain ⟨q0, hq0, pt⟩ := paired_getL hC1.prs ht
        have pt2 := Same.sqT (kp_same hm k2) pt
        have lf := List.length_filter_le (fun p : Nat × Nat => decide (p.1 = j)) (C.roads.take i)
        have il := (List.getElem?_eq_some_iff.mp hq0).1
        rw [List.length_take] at lf
        refine ⟨rfl, ?_⟩
        refine ⟨_, rfl, _, _, _, _, rfl, rfl, pt2, rfl, _, rfl, rfl, _, rfl, ite_any (fun hc => ?_) (fun hc => ?_)⟩
        · have e : q0.1 = j := by
            have z : V.int (q0.1 : Int) = V.int (j : Int) := of_decide_eq_true hc
            have := V.int.inj z
            omega
          refine ⟨_, rfl, _, _, _, _, rfl, rfl, pt2, rfl, _, hM2, by rw [List.length_map, List.length_map, sizeLine_eq]; omega, kp_put k2, ?_⟩
          rw [upd_same, take_more hq0, List.filter_append, List.filter_cons, decide_eq_true e, if_pos rfl, List.filter_nil, List.map_append, List.map_append]
          rfl
        · have e : q0.1 ≠ j := fun e => by
            rw [e] at hc
            exact (of_decide_eq_false hc) rfl
          refine ⟨k2, ?_⟩
          rw [take_more hq0, List.filter_append, List.filter_cons, decide_eq_false e, if_neg (by simp), List.filter_nil, List.append_nil]
          exact hM2
      rintro H2 ⟨k2, hM2⟩
      have el : (ts0.map V.ref).length = C.roads.length := by rw [List.length_map]; exact hC1.prs.length
      rw [el, List.take_length] at hM2
      have s2 := kp_same hm k2
      exact ⟨_, s2 _ _ up.top, by rw [List.length_map, up.len]; exact small1000 (by omega), hs ++ [m], up.more hd0 s2 hm hM2⟩
    rintro H1 ⟨hs, up1⟩
    have s1 := kp_same hd0 up1.k
    have hC1 := hC.same s1
    refine at_name ?_
    dsimp only
    refine at_seq ⟨_, rfl, _, _, _, _, rfl, rfl, hC1.top, rfl, _, rfl, by omega, by omega, fun lt lt0 => ?_⟩
    refine lc_range (lo := 0) (n := C.n) (fun j H' => Kp [lt] H1 H' ∧ ∃ ts : List Addr, H' lt = some (.lst (ts.map V.ref)) ∧ ts.length = j ∧ ∀ a t, ts[a]? = some t → SqT K H' t ((pieceOf C a).map vN))
      ⟨(fun b o x e' => by rw [upd_ne (ne_of_none e' lt0)]; exact e'), [], upd_same, rfl, fun a t h => by simp at h⟩ ?_ ?_
    · rintro j H2 hj ⟨k2, ts, hL2, len, each⟩
      have s2 := kp_same lt0 k2
      have s02 := s1.trans s2
      refine ⟨rfl, ?_⟩
      rw [e0]
      refine ⟨_, rfl, _, rfl, _, rfl, c, tb, C, rows, j, rfl, hCC.same s02, ok, hj, hT.same s02, fun t H3 s3 hT3 => ?_⟩
      have hL3 := s3 _ _ hL2
      have ll := lists_one hL3
      refine ⟨_, hL3, by rw [List.length_map, len]; exact small1000 (by omega), kp_put (k2.trans (Kp.of_same s3)), ts ++ [t], by rw [upd_same, List.map_append]; rfl, by rw [List.length_append, len]; rfl, fun a u hu => ?_⟩
      rcases get_snoc hu with g | ⟨e1, e2⟩
      · exact kp_lst.sqT ll (Same.sqT s3 (each a u g))
      · rw [← e2, e1, len]
        exact kp_lst.sqT ll hT3
    rintro H2 ⟨k2, ts, hL2, tlen, each2⟩
    have s2 := kp_same lt0 k2
    have s02 := s1.trans s2
    have hC2 := hC.same s02
    have lt00 : H lt = none := s1.free lt0
    refine at_name ?_
    dsimp only
    refine ⟨_, rfl, _, rfl, _, _, _, _, rfl, rfl, hC2.top, rfl, _, rfl, by omega, by omega, fun cm cm0 => ?_⟩
    refine lc_range (lo := 0) (n := C.n) (fun j H' => ∃ cs, RowsUp H2 H' cm (fun a => metU C [a]) j cs) ⟨[], RowsUp.start cm0⟩ ?_ ?_
    · rintro j H3 hj ⟨cs, up⟩
      have s3 := kp_same cm0 up.k
      have s03 := s02.trans s3
      have hC3 := hC.same s03
      have hT3 := hT.same s03
      obtain ⟨rw_, hrw⟩ : ∃ l, rows[j]? = some l := ⟨_, List.getElem?_eq_getElem (by rw [hT.len]; exact hj)⟩
      have hR3 := hT3.at_.each j rw_ hrw
      refine ⟨rfl, ?_⟩
      rw [e0]
      refine ⟨_, rfl, _, rfl, tb, _, _, _, rfl, rfl, .inl (.inl hT3.at_.top), atI_nat (v := V.ref rw_) (by rw [List.getElem?_map, hrw]; rfl), rw_, rfl, ⟨_, .inl (.inl hR3)⟩, fun m hm => ?_⟩
      have lM : (met C.n C.roads C.wished [j]).length ≤ C.n := those_len _ _
      refine lc_list (K := K) (xs := (met C.n C.roads C.wished [j]).map vN) (fun i H' => Kp [m] H3 H' ∧ H' m = some (.lst ((((met C.n C.roads C.wished [j]).take i).filter fun a => !decide (a ∈ C.wished)).map vN)))
        ⟨(fun b o nb e' => by rw [upd_ne (ne_of_none e' hm)]; exact e'), upd_same⟩ (fun i H' _ ⟨k, _⟩ => .inl (.inl (kp_same hm k _ _ hR3))) ?_ ?_
      · rintro i x H4 hx ⟨k4, hM4⟩
        obtain ⟨b, hb, rfl⟩ := get_map hx
        have ib := (List.getElem?_eq_some_iff.mp hb).1
        have hC4 := hC3.same (kp_same hm k4)
        have lf := List.length_filter_le (fun a => !decide (a ∈ C.wished)) ((met C.n C.roads C.wished [j]).take i)
        rw [List.length_take] at lf
        refine ⟨rfl, ?_⟩
        refine ⟨_, rfl, _, rfl, _, _, _, _, rfl, rfl, hC4.top, rfl, wd, _, rfl, .inr hC4.wis, rfl, all_vN C.wished, _, rfl, ?_⟩
        show if (!inV (vN b) (C.wished.map vN)) = true then _ else _
        rw [in_vN]
        by_cases h1 : b ∈ C.wished
        · rw [decide_eq_true h1]
          refine iteF ⟨k4, ?_⟩
          rw [take_filter hb, decide_eq_true h1, if_neg (by simp), List.append_nil]
          exact hM4
        · rw [decide_eq_false h1]
          refine iteT ⟨_, rfl, _, hM4, by rw [List.length_map, sizeLine_eq]; omega, kp_put k4, ?_⟩
          rw [upd_same, take_filter hb, decide_eq_false h1, if_pos (by simp), List.map_append]
          rfl
      rintro H4 ⟨k4, hM4⟩
      rw [List.length_map, List.take_length] at hM4
      have eM : ((met C.n C.roads C.wished [j]).filter fun a => !decide (a ∈ C.wished)) = metU C [j] := by
        refine those_is ((those_up _ _).filter _) fun x => ?_
        rw [List.mem_filter]
        unfold met
        rw [those_mem]
        simp
        constructor
        · rintro ⟨⟨h1, h2⟩, h3⟩
          exact ⟨h1, h3, h2⟩
        · rintro ⟨h1, h3, h2⟩
          exact ⟨⟨h1, h2⟩, h3⟩
      rw [eM] at hM4
      have s4 := kp_same hm k4
      exact ⟨_, s4 _ _ up.top, by rw [List.length_map, up.len]; exact small1000 (by omega), cs ++ [m], up.more cm0 s4 hm hM4⟩
    rintro H3 ⟨cs, up3⟩
    have s3 := kp_same cm0 up3.k
    have hL3 := s3 _ _ hL2
    refine ⟨_, rfl, lt, rfl, ⟨_, .inl (.inl hL3)⟩, fun fs fs0 => ?_⟩
    refine lc_list (K := K) (xs := ts.map V.ref) (fun i H' => Kp [fs] H3 H' ∧ H' fs = some (.lst (((List.range i).map (leastOf C)).map vN)))
      ⟨(fun b o nb e' => by rw [upd_ne (ne_of_none e' fs0)]; exact e'), upd_same⟩ (fun i H' _ ⟨k, _⟩ => .inl (.inl (kp_same fs0 k _ _ hL3))) ?_ ?_
    · rintro i x H4 hx ⟨k4, hF4⟩
      obtain ⟨t, ht, rfl⟩ := get_map hx
      have it := (List.getElem?_eq_some_iff.mp ht).1
      have hi : i < C.n := by omega
      have hp := Same.sqT (s3.trans (kp_same fs0 k4)) (each2 i t ht)
      refine ⟨rfl, ?_⟩
      refine ⟨_, rfl, _, _, _, _, rfl, rfl, hp, atI_nat (j := 0) (v := vN (leastOf C i)) (by rw [List.getElem?_map, least_get hi]; rfl), _, hF4, by rw [List.length_map, List.length_map, List.length_range]; exact small1000 (by omega), kp_put k4, ?_⟩
      rw [upd_same, List.range_succ, List.map_append, List.map_append]
      rfl
    rintro H4 ⟨k4, hF4⟩
    rw [List.length_map, tlen] at hF4
    have s4 := kp_same fs0 k4
    have s24 := s3.trans s4
    refine ⟨_, rfl, by show 4 ≤ sizeLine; decide, fun qq qq0 => ?_⟩
    have s5 := same_upd (o := .lst [.ref hd, .ref cm, .ref fs, .ref lt]) qq0
    have s25 := s24.trans s5
    have s15 := s2.trans s25
    have free2 : ∀ {z : Addr}, H2 z = none → H z = none := fun h => s02.free h
    refine q qq hd cm fs lt hs cs ts _ (s1.trans s15) (fun z hz => ?_) ⟨upd_same, ⟨s15 _ _ up1.top, fun a l e => s15 _ _ (up1.each a l e).2⟩, up1.len, ⟨s5 _ _ (s4 _ _ up3.top), fun a l e => s5 _ _ (s4 _ _ (up3.each a l e).2)⟩, up3.len, s5 _ _ hF4, s25 _ _ hL2, tlen, fun a t e => Same.sqT s25 (each2 a t e)⟩
    unfold groundA at hz
    simp only [List.mem_cons, List.mem_append] at hz
    rcases hz with h | h | h | h | h | h | h
    · rw [h]; exact (s1.trans (s2.trans s24)).free qq0
    · rw [h]; exact hd0
    · rw [h]; exact free2 cm0
    · rw [h]; exact free2 (s3.free fs0)
    · rw [h]; exact lt00
    · exact up1.new z h
    · exact free2 (up3.new z h)
end
end Ft

set_option Elab.async false
set_option linter.all false
set_option maxRecDepth 100000
set_option maxHeartbeats 4000000
/-! Classes of the program's own: their methods by name, their objects by what each attribute holds. -/
namespace Ft
open PySem PySem.Spec PyProof.Rows L2
/-- a class, by its name -/
structure Kls (K : PySem.W.Frag) (mg : Str → Option Value) (ka : Str → Addr) (x : Str) : Prop where
  cl : Cls K (ka x)
  makes : PySem.W.makesIn K (ka x) = true
  kp : PySem.W.keepIn K (.ref (ka x)) = true
  g : mg x = some (.ref (ka x))
/-- an attribute that only its objects have -/
def NoA (K : PySem.W.Frag) (ka : Str → Addr) (x f : Str) : Prop := NoAttr K (ka x) f
structure DefM (K : PySem.W.Frag) (ka : Str → Addr) (x m qual : Str) (st : Stmt) : Prop where
  ex : ∃ f fd, L2.Fun K m qual st f fd ∧ Meth K (ka x) m f
structure CalM (P : Program) (w : World) (K : PySem.W.Frag) (mg : Str → Option Value) (base : Heap) (k : Nat) (ka : Str → Addr) (x m : Str) (sp : Sp) : Prop where
  ex : ∃ f fd ps, FnOk P w K mg base L2.CX0 k f fd ps sp ∧ Meth K (ka x) m f ∧ Binds K fd ps []
section
variable {P : Program} {w : World} {K : PySem.W.Frag} {mg : Str → Option Value} {base : Heap} {ka : Str → Addr}
theorem calm_of {x m qual : Str} {st : Stmt} {N ps : List Str} {k : Nat} {sp : Sp} (D : DefM K ka x m qual st) (S : FnScope N ps (L2.defScope st))
    (bd : ∀ (kV doc pm : Value) (an : Option Addr) (cdv ct : Value) (us : List Value), us.length = ps.length → bindArgs (PySem.W.fnOf m qual (L2.defArgs st) (L2.defBody st) (L2.defScope st) .none kV doc pm an cdv ct) ⟨us, []⟩ = pure (ps.zip us))
    (len : ∀ vs H Q E, sp vs H Q E → vs.length = ps.length)
    (body : ∀ (f : Addr) (cdv : Value) (A : Around) (outer : List Env) (s : Shared) (H : Hp) (vs : List V) (Q : VK) (E : XK), Room k (A.deeper (envOfC qual (L2.defScope st) s.heap.objs.size f cdv)) → sp vs H Q E →
      ∃ t, PSs (cxOf L2.CX0 P w K mg base N qual (L2.defScope st) f cdv A outer s H E).nox (L2.defBody st) t ∧ t { nx := fun _ H' => Q .non H', rt := Q } (start N vs) H) : CalM P w K mg base (k + 1) ka x m sp := by
  obtain ⟨f, fd, F, M⟩ := D.ex
  exact ⟨f, fd, ps, F.ok S len (body f), M, F.binds bd⟩
end
section
variable {X : Cx} {k j : Nat} {x m : Str} {sp : Sp} {p pos apos : Pos} {o e : Expr} {es : List Expr} {ta : TE} {t : TA} {ka : Str → Addr}
theorem pe_m {pl : Sem Bool} (c : CalM X.prog X.w X.K X.mg X.base k ka x m sp) (kl : Kls X.K X.mg ka x) (hr : Room j X.A) (hk : k ≤ j) (he : PE X o ta) (ha : PA X (e :: es) t)
    (hst : starEach (e :: es) X.env = (false, eval e X.env) :: starEach es X.env := by rfl) (hpl : (backTo pos (starEach es X.env)).any (·.1) = false := by rfl)
    (ht : eval (.Call (.Attribute o m apos) (e :: es) [] pos) X.env = (do
      let ov ← eval o X.env
      standAt apos.atName
      let (f, first) ← holding [ov] (getMethod ov m pl)
      callWith pos f first (backTo pos (starEach (e :: es) X.env)) (backToKw pos (keywordEach [] X.env))) := by rfl) :
    PE X (.Call (.Attribute o m apos) (e :: es) [] pos) (tMeth (ka x) m sp [] L2.E0 ta t) := by
  obtain ⟨f, fd, ps, F, M, b⟩ := c.ex
  exact pe_meth he kl.cl M F (hr.mono hk) b .nil pass0 ha hst hpl ht
theorem pe_m0 {pl : Sem Bool} (c : CalM X.prog X.w X.K X.mg X.base k ka x m sp) (kl : Kls X.K X.mg ka x) (hr : Room j X.A) (hk : k ≤ j) (he : PE X o ta)
    (ht : eval (.Call (.Attribute o m apos) [] [] pos) X.env = (do
      let ov ← eval o X.env
      standAt apos.atName
      let (f, first) ← holding [ov] (getMethod ov m pl)
      callWith pos f first (backTo pos (starEach [] X.env)) (backToKw pos (keywordEach [] X.env))) := by rfl) :
    PE X (.Call (.Attribute o m apos) [] [] pos) (tMeth (ka x) m sp [] L2.E0 ta tNil) := by
  obtain ⟨f, fd, ps, F, M, b⟩ := c.ex
  exact pe_meth0 he kl.cl M F (hr.mono hk) b .nil pass0 ht
/-- C(..) -/
theorem pe_k (c : CalM X.prog X.w X.K X.mg X.base k ka x "__init__" sp) (kl : Kls X.K X.mg ka x) (hr : Room j X.A) (hk : k + 1 ≤ j) (hg : Gl X x) (ha : PA X (e :: es) t)
    (hdb : (x == ("__debug__" : Str)) = false := by decide) (he : starEach (e :: es) X.env = (false, eval e X.env) :: starEach es X.env := by rfl) (hpl : (backTo pos (starEach es X.env)).any (·.1) = false := by rfl) :
    PE X (.Call (.Name x p) (e :: es) [] pos) (tMake (ka x) sp [] L2.E0 t) := by
  obtain ⟨f, fd, ps, F, M, b⟩ := c.ex
  exact pe_make ⟨kl.makes, M.at_, M.fn, kl.kp⟩ F (hr.mono hk) hg kl.g b .nil pass0 ha hdb he hpl
/-- e.f -/
theorem pe_fldD {f : Str} (he : PE X e ta) (hb : attributeBase e f X.env (eval e X.env) = eval e X.env := by rfl) : PE X (.Attribute e f pos) (tFld X.K ta f) := pe_fld he hb
/-- xs[i], where a store to it goes on -/
theorem get_listP : PGet X (rIxL X.K) := by
  intro pins s σ H x y v u Q I rx ry h
  obtain ⟨p, xs, i, z, rfl, rfl, hq, he, q⟩ := h
  cases rx
  obtain ⟨t, rfl⟩ := ry
  obtain ⟨its, r, pl, hz⟩ := I.list hq
  obtain ⟨j, h1, h2, h3, h4, h5⟩ := atI_get he
  obtain ⟨w, ew, rw'⟩ := r.get h2
  have hl := r.length
  have hn := line63
  have fin : EP X pins σ Q w s := ⟨z, H, I, rw', q⟩
  by_cases h0 : 0 ≤ i
  · have hj : i.toNat = j := by
      rw [seqIndex_of h0 h5] at h1
      exact Option.some.inj h1
    exact wpAny_getItem_list pl.isList (by omega) (by rw [sizeLine_eq] at hz; omega) (by rw [hj]; simpa using ew) fin
  · have hj : (i + (its.toArray.size : Int)).toNat = j := by
      rw [seqIndex_neg (by omega) h4] at h1
      rw [List.size_toArray, ← hl]
      exact Option.some.inj h1
    exact wpAny_getItem_list_neg pl.isList (by omega) (by rw [List.size_toArray] <;> omega) (by omega) (by rw [hj]; simpa using ew) fin
end
/-! ### objects, by their attributes -/
structure ObjAt (H : Hp) (p C : Addr) (n : Nat) (look : Str → Option V) : Prop where
  ex : ∃ dx fs, H p = some (.ins C dx fs) ∧ (∀ f, fs.lookup f = look f) ∧ fs.length ≤ n
def setA (look : Str → Option V) (f : Str) (v : V) : Str → Option V := fun g => if g = f then some v else look g
theorem putF_len (f : Str) (v : V) : ∀ fs : List (Str × V), (putF f v fs).length ≤ fs.length + 1
  | [] => by simp [putF]
  | (g, x) :: r => by
    unfold putF
    split
    · simp
    · rw [List.length_cons, List.length_cons]
      have := putF_len f v r
      omega
theorem putF_len_in {f : Str} {v w : V} : ∀ {fs : List (Str × V)}, fs.lookup f = some w → (putF f v fs).length = fs.length
  | [], h => by simp at h
  | (g, x) :: r, h => by
    unfold putF
    split
    · simp
    · rename_i n
      rw [List.length_cons, List.length_cons]
      rw [List.lookup_cons] at h
      have e : (f == g) = false := by
        rw [beq_eq_false_iff_ne]
        exact fun z => n z.symm
      rw [e] at h
      rw [putF_len_in (fs := r) h]
theorem ObjAt.same {H H' : Hp} {p C : Addr} {n : Nat} {look : Str → Option V} (s : Same H H') (h : ObjAt H p C n look) : ObjAt H' p C n look := by
  obtain ⟨dx, fs, e, q⟩ := h.ex
  exact ⟨dx, fs, s _ _ e, q⟩
theorem ObjAt.keep {ex : List Addr} {H H' : Hp} (k : Kp ex H H') {p C : Addr} {n : Nat} {look : Str → Option V} (np : p ∉ ex) (h : ObjAt H p C n look) : ObjAt H' p C n look := by
  obtain ⟨dx, fs, e, q⟩ := h.ex
  exact ⟨dx, fs, k _ _ np e, q⟩
theorem ObjAt.there {H : Hp} {p C : Addr} {n : Nat} {look : Str → Option V} (h : ObjAt H p C n look) : ∃ o, H p = some o := by
  obtain ⟨dx, fs, e, _⟩ := h.ex
  exact ⟨_, e⟩
/-- e.f read, by what the object holds -/
theorem fld_read {K : PySem.W.Frag} {H : Hp} {p C : Addr} {n : Nat} {look : Str → Option V} {f : Str} {v : V} {Q : VK} (h : ObjAt H p C n look) (c : Cls K C) (na : NoAttr K C f) (l : look f = some v) (q : Q v H) :
    ∃ a C dx fs v', V.ref p = .ref a ∧ H a = some (.ins C dx fs) ∧ Cls K C ∧ NoAttr K C f ∧ fs.lookup f = some v' ∧ Q v' H := by
  obtain ⟨dx, fs, e, lk, _⟩ := h.ex
  exact ⟨p, C, dx, fs, v, rfl, e, c, na, by rw [lk, l], q⟩
/-- e.f = v stored -/
theorem fld_store {K : PySem.W.Frag} {H : Hp} {p C : Addr} {n : Nat} {look : Str → Option V} {f : Str} {v : V} {Q : Hp → Prop} (h : ObjAt H p C n look) (n1 : n < 900) (c : Cls K C) (na : NoAttr K C f)
    (q : ∀ H', ObjAt H' p C (n + 1) (setA look f v) → Kp [p] H H' → Q H') :
    ∃ a C dx fs, V.ref p = .ref a ∧ H a = some (.ins C dx fs) ∧ Cls K C ∧ NoAttr K C f ∧ fs.length < 1000 ∧ Q (upd H a (.ins C dx (putF f v fs))) := by
  obtain ⟨dx, fs, e, lk, hl⟩ := h.ex
  refine ⟨p, C, dx, fs, rfl, e, c, na, by omega, q _ ⟨dx, _, upd_same, fun g => ?_, ?_⟩ fun b o nb eb => ?_⟩
  · rw [lookup_putF, lk]
    rfl
  · have := putF_len f v fs
    omega
  · rw [upd_ne (fun z => nb (by rw [z]; simp))]
    exact eb
/-- .. where it is there already -/
theorem fld_store_in {K : PySem.W.Frag} {H : Hp} {p C : Addr} {n : Nat} {look : Str → Option V} {f : Str} {v w : V} {Q : Hp → Prop} (h : ObjAt H p C n look) (n1 : n < 900) (c : Cls K C) (na : NoAttr K C f) (l : look f = some w)
    (q : ∀ H', ObjAt H' p C n (setA look f v) → Kp [p] H H' → Q H') :
    ∃ a C dx fs, V.ref p = .ref a ∧ H a = some (.ins C dx fs) ∧ Cls K C ∧ NoAttr K C f ∧ fs.length < 1000 ∧ Q (upd H a (.ins C dx (putF f v fs))) := by
  obtain ⟨dx, fs, e, lk, hl⟩ := h.ex
  refine ⟨p, C, dx, fs, rfl, e, c, na, by omega, q _ ⟨dx, _, upd_same, fun g => ?_, ?_⟩ fun b o nb eb => ?_⟩
  · rw [lookup_putF, lk]
    rfl
  · rw [putF_len_in (w := w) (by rw [lk, l])]
    exact hl
  · rw [upd_ne (fun z => nb (by rw [z]; simp))]
    exact eb
/-- o.m(..) -/
theorem meth_at {H : Hp} {p C : Addr} {n : Nat} {look : Str → Option V} {m : Str} {R : Prop} (h : ObjAt H p C n look) (l : look m = none) (q : R) : ∃ a dx fs, V.ref p = .ref a ∧ H a = some (.ins C dx fs) ∧ fs.lookup m = none ∧ R := by
  obtain ⟨dx, fs, e, lk, _⟩ := h.ex
  exact ⟨p, dx, fs, rfl, e, by rw [lk, l], q⟩
/-- a new object -/
theorem obj_new {H : Hp} {x dx C : Addr} (nx : H x = none) (ndx : H dx = none) (ne : dx ≠ x) : ObjAt (upd (upd H dx (.own x)) x (.ins C dx [])) x C 0 (fun _ => none) ∧ Same H (upd (upd H dx (.own x)) x (.ins C dx [])) :=
  ⟨⟨dx, [], upd_same, fun _ => rfl, Nat.le_refl _⟩, fun b o e => by
    rw [upd_ne (ne_of_none e nx), upd_ne (ne_of_none e ndx)]
    exact e⟩
end Ft

set_option Elab.async false
set_option linter.all false
set_option maxRecDepth 100000
set_option maxHeartbeats 4000000
/-! Plain mathematics: nets of arcs, room in both directions, what is pushed through. -/
namespace Ft
structure Arc where
  tail : Nat
  head : Nat
  cap : Nat
def tow : List Arc → List Nat
  | [] => []
  | a :: A => a.head :: a.tail :: tow A
def rms : List Arc → List Nat
  | [] => []
  | a :: A => a.cap :: 0 :: rms A
def bes (s : Nat) : Nat → List Arc → List Nat
  | _, [] => []
  | i, a :: A => (if a.tail = s then [2 * i] else []) ++ ((if a.head = s then [2 * i + 1] else []) ++ bes s (i + 1) A)
/-- the path that goes back -/
def xo (p : Nat) : Nat := if p % 2 = 0 then p + 1 else p - 1
theorem xo_even (i : Nat) : xo (2 * i) = 2 * i + 1 := by unfold xo; rw [if_pos (by omega)]
theorem xo_odd (i : Nat) : xo (2 * i + 1) = 2 * i := by unfold xo; rw [if_neg (by omega)]; omega
theorem xo_xo (p : Nat) : xo (xo p) = p := by unfold xo; split <;> split <;> omega
theorem xo_lt {p n : Nat} (h : p < 2 * n) : xo p < 2 * n := by unfold xo; split <;> omega
theorem xo_ne (p : Nat) : xo p ≠ p := by unfold xo; split <;> omega
theorem xo_add2 (p : Nat) : xo (p + 2) = xo p + 2 := by unfold xo; split <;> split <;> omega
theorem parity (p : Nat) : ∃ i, p = 2 * i ∨ p = 2 * i + 1 := ⟨p / 2, by omega⟩
theorem tow_len : ∀ A : List Arc, (tow A).length = 2 * A.length
  | [] => rfl
  | a :: A => by
    show (tow A).length + 1 + 1 = 2 * (A.length + 1)
    rw [tow_len A]
    omega
theorem rms_len : ∀ A : List Arc, (rms A).length = 2 * A.length
  | [] => rfl
  | a :: A => by
    show (rms A).length + 1 + 1 = 2 * (A.length + 1)
    rw [rms_len A]
    omega
theorem tow_app : ∀ (A : List Arc) (a : Arc), tow (A ++ [a]) = tow A ++ [a.head, a.tail]
  | [], a => rfl
  | b :: A, a => by
    show b.head :: b.tail :: tow (A ++ [a]) = b.head :: b.tail :: (tow A ++ [a.head, a.tail])
    rw [tow_app A a]
theorem rms_app : ∀ (A : List Arc) (a : Arc), rms (A ++ [a]) = rms A ++ [a.cap, 0]
  | [], a => rfl
  | b :: A, a => by
    show b.cap :: 0 :: rms (A ++ [a]) = b.cap :: 0 :: (rms A ++ [a.cap, 0])
    rw [rms_app A a]
theorem bes_app (s : Nat) : ∀ (i : Nat) (A : List Arc) (a : Arc), bes s i (A ++ [a]) = bes s i A ++ ((if a.tail = s then [2 * (i + A.length)] else []) ++ (if a.head = s then [2 * (i + A.length) + 1] else []))
  | i, [], a => by simp [bes]
  | i, b :: A, a => by
    show (if b.tail = s then [2 * i] else []) ++ ((if b.head = s then [2 * i + 1] else []) ++ bes s (i + 1) (A ++ [a])) = ((if b.tail = s then [2 * i] else []) ++ ((if b.head = s then [2 * i + 1] else []) ++ bes s (i + 1) A)) ++ _
    rw [bes_app s (i + 1) A a, List.length_cons, List.append_assoc, List.append_assoc]
    have e : i + 1 + A.length = i + (A.length + 1) := by omega
    rw [e]
theorem tow_even : ∀ {A : List Arc} {i : Nat} {a : Arc}, A[i]? = some a → (tow A)[2 * i]? = some a.head
  | b :: A, 0, a, h => by simp at h; subst h; rfl
  | b :: A, i + 1, a, h => by
    have := tow_even (A := A) (i := i) (a := a) (by simpa using h)
    show (b.head :: b.tail :: tow A)[2 * (i + 1)]? = _
    rw [show 2 * (i + 1) = 2 * i + 1 + 1 by omega, List.getElem?_cons_succ, List.getElem?_cons_succ, this]
theorem tow_odd : ∀ {A : List Arc} {i : Nat} {a : Arc}, A[i]? = some a → (tow A)[2 * i + 1]? = some a.tail
  | b :: A, 0, a, h => by simp at h; subst h; rfl
  | b :: A, i + 1, a, h => by
    have := tow_odd (A := A) (i := i) (a := a) (by simpa using h)
    show (b.head :: b.tail :: tow A)[2 * (i + 1) + 1]? = _
    rw [show 2 * (i + 1) + 1 = 2 * i + 1 + 1 + 1 by omega, List.getElem?_cons_succ, List.getElem?_cons_succ, this]
theorem bes_mem {s : Nat} : ∀ {A : List Arc} {i p : Nat}, p ∈ bes s i A ↔ ∃ j a, A[j]? = some a ∧ ((p = 2 * (i + j) ∧ a.tail = s) ∨ (p = 2 * (i + j) + 1 ∧ a.head = s))
  | [], i, p => by simp [bes]
  | b :: A, i, p => by
    unfold bes
    rw [List.mem_append, List.mem_append, bes_mem (A := A)]
    constructor
    · rintro (h | h | ⟨j, a, h1, h2⟩)
      · split at h
        · rename_i e
          exact ⟨0, b, rfl, .inl ⟨List.mem_singleton.mp h, e⟩⟩
        · cases h
      · split at h
        · rename_i e
          exact ⟨0, b, rfl, .inr ⟨List.mem_singleton.mp h, e⟩⟩
        · cases h
      · refine ⟨j + 1, a, by simpa using h1, ?_⟩
        rw [show i + (j + 1) = i + 1 + j by omega]
        exact h2
    · rintro ⟨j, a, h1, h2⟩
      cases j with
      | zero =>
        simp at h1
        subst h1
        rcases h2 with ⟨e1, e2⟩ | ⟨e1, e2⟩
        · left
          rw [if_pos e2]
          exact List.mem_singleton.mpr e1
        · right; left
          rw [if_pos e2]
          exact List.mem_singleton.mpr e1
      | succ j =>
        right; right
        refine ⟨j, a, by simpa using h1, ?_⟩
        rw [show i + 1 + j = i + (j + 1) by omega]
        exact h2
/-- path p goes from u to v -/
def Goes (A : List Arc) (p u v : Nat) : Prop := (tow A)[p]? = some v ∧ (tow A)[xo p]? = some u
theorem goes_fwd {A : List Arc} {i : Nat} {a : Arc} (h : A[i]? = some a) : Goes A (2 * i) a.tail a.head := ⟨tow_even h, by rw [xo_even]; exact tow_odd h⟩
theorem goes_back {A : List Arc} {i : Nat} {a : Arc} (h : A[i]? = some a) : Goes A (2 * i + 1) a.head a.tail := ⟨tow_odd h, by rw [xo_odd]; exact tow_even h⟩
theorem goes_is {A : List Arc} {p u v : Nat} (h : Goes A p u v) : ∃ i a, A[i]? = some a ∧ ((p = 2 * i ∧ u = a.tail ∧ v = a.head) ∨ (p = 2 * i + 1 ∧ u = a.head ∧ v = a.tail)) := by
  obtain ⟨i, e⟩ := parity p
  have hp : p < 2 * A.length := by
    have := (List.getElem?_eq_some_iff.mp h.1).1
    rwa [tow_len] at this
  have hi : i < A.length := by omega
  have ha : A[i]? = some A[i] := List.getElem?_eq_getElem hi
  refine ⟨i, A[i], ha, ?_⟩
  rcases e with e | e
  · subst e
    obtain ⟨h1, h2⟩ := goes_fwd ha
    exact .inl ⟨rfl, Option.some.inj (h.2.symm.trans h2), Option.some.inj (h.1.symm.trans h1)⟩
  · subst e
    obtain ⟨h1, h2⟩ := goes_back ha
    exact .inr ⟨rfl, Option.some.inj (h.2.symm.trans h2), Option.some.inj (h.1.symm.trans h1)⟩
theorem bes_goes {A : List Arc} {s p : Nat} : p ∈ bes s 0 A ↔ ∃ v, Goes A p s v := by
  rw [bes_mem]
  constructor
  · rintro ⟨j, a, h1, ⟨e1, e2⟩ | ⟨e1, e2⟩⟩
    · rw [Nat.zero_add] at e1
      subst e1 e2
      exact ⟨_, goes_fwd h1⟩
    · rw [Nat.zero_add] at e1
      subst e1 e2
      exact ⟨_, goes_back h1⟩
  · rintro ⟨v, h⟩
    obtain ⟨i, a, h1, ⟨e1, e2, e3⟩ | ⟨e1, e2, e3⟩⟩ := goes_is h
    · exact ⟨i, a, h1, .inl ⟨by rw [Nat.zero_add]; exact e1, e2.symm⟩⟩
    · exact ⟨i, a, h1, .inr ⟨by rw [Nat.zero_add]; exact e1, e2.symm⟩⟩
theorem goes_lt {A : List Arc} {p u v : Nat} (h : Goes A p u v) : p < 2 * A.length := by
  have := (List.getElem?_eq_some_iff.mp h.1).1
  rwa [tow_len] at this
theorem goes_one {A : List Arc} {p u v u' v' : Nat} (h : Goes A p u v) (h' : Goes A p u' v') : u = u' ∧ v = v' := ⟨Option.some.inj (h.2.symm.trans h'.2), Option.some.inj (h.1.symm.trans h'.1)⟩
/-! ### what flows -/
/-- what comes to v less what leaves it -/
def exc : List Arc → List Nat → Nat → Int
  | a :: A, _ :: f :: r, v => ((if a.head = v then (f : Int) else 0) - (if a.tail = v then (f : Int) else 0)) + exc A r v
  | _, _, _ => 0
def push (room : List Nat) (p : Nat) : List Nat := (room.set p (room.getD p 0 - 1)).set (xo p) (room.getD (xo p) 0 + 1)
theorem push_len (room : List Nat) (p : Nat) : (push room p).length = room.length := by
  unfold push
  rw [List.length_set, List.length_set]
theorem push_add2 (x y : Nat) (r : List Nat) (p : Nat) : push (x :: y :: r) (p + 2) = x :: y :: push r p := by
  unfold push
  rw [xo_add2]
  rfl
theorem exc_push : ∀ {A : List Arc} {room : List Nat} {p u v : Nat}, room.length = 2 * A.length → Goes A p u v → 0 < room.getD p 0 → ∀ x, exc A (push room p) x = exc A room x + ((if v = x then 1 else 0) - (if u = x then 1 else 0))
  | [], room, p, u, v, _, h, _, x => by simp [Goes, tow] at h
  | a :: A, [], p, u, v, hl, h, _, x => by simp at hl
  | a :: A, [y], p, u, v, hl, h, _, x => by simp at hl; omega
  | a :: A, c :: f :: r, p, u, v, hl, h, hp, x => by
    match p, h, hp with
    | 0, h, hp =>
      obtain ⟨e1, e2⟩ := h
      simp [tow] at e1
      have e2 : (some a.tail : Option Nat) = some u := e2
      cases e2
      subst e1
      show ((if a.head = x then ((f + 1 : Nat) : Int) else 0) - (if a.tail = x then ((f + 1 : Nat) : Int) else 0)) + exc A r x = ((if a.head = x then (f : Int) else 0) - (if a.tail = x then (f : Int) else 0)) + exc A r x + _
      split <;> split <;> omega
    | 1, h, hp =>
      obtain ⟨e1, e2⟩ := h
      simp [tow] at e1
      have e2 : (some a.head : Option Nat) = some u := e2
      cases e2
      subst e1
      have hf : 0 < f := hp
      show ((if a.head = x then ((f - 1 : Nat) : Int) else 0) - (if a.tail = x then ((f - 1 : Nat) : Int) else 0)) + exc A r x = ((if a.head = x then (f : Int) else 0) - (if a.tail = x then (f : Int) else 0)) + exc A r x + _
      split <;> split <;> omega
    | p + 2, h, hp =>
      rw [push_add2]
      have h' : Goes A p u v := by
        obtain ⟨e1, e2⟩ := h
        rw [xo_add2] at e2
        exact ⟨by simpa [tow] using e1, by simpa [tow] using e2⟩
      have ih := exc_push (A := A) (room := r) (p := p) (by simp at hl; omega) h' (by simpa using hp) x
      show (_ - _) + exc A (push r p) x = (_ - _) + exc A r x + _
      rw [ih]
      omega
theorem getD_set {l : List Nat} {i j v : Nat} : (l.set i v).getD j 0 = if i = j ∧ i < l.length then v else l.getD j 0 := by
  rw [List.getD_eq_getElem?_getD, List.getD_eq_getElem?_getD, List.getElem?_set]
  by_cases h : i = j
  · subst h
    by_cases h2 : i < l.length
    · rw [if_pos rfl, if_pos h2, if_pos ⟨rfl, h2⟩]
      rfl
    · rw [if_pos rfl, if_neg h2, if_neg (fun z => h2 z.2), List.getElem?_eq_none (by omega)]
  · rw [if_neg h, if_neg (fun z => h z.1)]
theorem push_at {room : List Nat} {p q : Nat} {n : Nat} (hl : room.length = 2 * n) (hp : p < 2 * n) : (push room p).getD q 0 = if q = p then room.getD p 0 - 1 else if q = xo p then room.getD (xo p) 0 + 1 else room.getD q 0 := by
  unfold push
  have hx := xo_lt hp
  have ne := xo_ne p
  rw [getD_set, getD_set, List.length_set, hl]
  by_cases h1 : q = p
  · subst h1
    rw [if_pos rfl, if_neg (fun z => ne z.1), if_pos ⟨rfl, hp⟩]
  · rw [if_neg h1]
    by_cases h2 : q = xo p
    · subst h2
      rw [if_pos rfl, if_pos ⟨rfl, hx⟩]
    · rw [if_neg h2, if_neg (fun z => h2 z.1.symm), if_neg (fun z => h1 z.1.symm)]
end Ft

set_option Elab.async false
set_option linter.all false
set_option maxRecDepth 100000
set_option maxHeartbeats 4000000
/-! Plain mathematics: a way pushed through, and what flows over a border. -/
namespace Ft
/-! ### many pushes -/
def pushes (room : List Nat) (ps : List Nat) : List Nat := ps.foldl push room
theorem pushes_len (ps : List Nat) : ∀ room : List Nat, (pushes room ps).length = room.length := by
  induction ps with
  | nil => exact fun _ => rfl
  | cons p ps ih =>
    intro room
    show (pushes (push room p) ps).length = _
    rw [ih, push_len]
theorem pushes_snoc (room ps : List Nat) (p : Nat) : pushes room (ps ++ [p]) = push (pushes room ps) p := by
  unfold pushes
  rw [List.foldl_append]
  rfl
theorem pushes_le {n : Nat} : ∀ {ps room : List Nat}, room.length = 2 * n → (∀ p ∈ ps, p < 2 * n) → ∀ q, (pushes room ps).getD q 0 ≤ room.getD q 0 + ps.count (xo q)
  | [], room, _, _, q => by simp [pushes]
  | p :: ps, room, hl, hp, q => by
    have ih := pushes_le (n := n) (ps := ps) (room := push room p) (by rw [push_len]; exact hl) (fun x hx => hp x (List.mem_cons_of_mem _ hx)) q
    have e := push_at (q := q) hl (hp p List.mem_cons_self)
    show (pushes (push room p) ps).getD q 0 ≤ _
    rw [List.count_cons]
    rw [e] at ih
    by_cases h1 : q = p
    · rw [if_pos h1] at ih
      rw [h1] at ih ⊢
      omega
    · rw [if_neg h1] at ih
      by_cases h2 : q = xo p
      · rw [if_pos h2] at ih
        have : (p == xo q) = true := by rw [h2, xo_xo]; simp
        rw [if_pos this]
        rw [h2] at ih ⊢
        omega
      · rw [if_neg h2] at ih
        omega
theorem pushes_ge {n : Nat} : ∀ {ps room : List Nat}, room.length = 2 * n → (∀ p ∈ ps, p < 2 * n) → ∀ q, room.getD q 0 ≤ (pushes room ps).getD q 0 + ps.count q
  | [], room, _, _, q => by simp [pushes]
  | p :: ps, room, hl, hp, q => by
    have ih := pushes_ge (n := n) (ps := ps) (room := push room p) (by rw [push_len]; exact hl) (fun x hx => hp x (List.mem_cons_of_mem _ hx)) q
    have e := push_at (q := q) hl (hp p List.mem_cons_self)
    show _ ≤ (pushes (push room p) ps).getD q 0 + _
    rw [List.count_cons]
    rw [e] at ih
    by_cases h1 : q = p
    · rw [if_pos h1] at ih
      have : (p == q) = true := by rw [h1]; simp
      rw [if_pos this]
      rw [h1] at ih ⊢
      omega
    · rw [if_neg h1] at ih
      by_cases h2 : q = xo p
      · rw [if_pos h2] at ih
        rw [h2] at ih ⊢
        omega
      · rw [if_neg h2] at ih
        omega
/-- both directions of a path together have as much room as before -/
theorem push_sum {room : List Nat} {p i n : Nat} (hl : room.length = 2 * n) (hp : p < 2 * n) (h0 : 0 < room.getD p 0) : (push room p).getD (2 * i) 0 + (push room p).getD (2 * i + 1) 0 = room.getD (2 * i) 0 + room.getD (2 * i + 1) 0 := by
  rw [push_at hl hp, push_at hl hp]
  obtain ⟨j, e | e⟩ := parity p
  · subst e
    rw [xo_even] at *
    by_cases h : i = j
    · subst h
      rw [if_pos rfl, if_neg (by omega), if_pos rfl]
      omega
    · rw [if_neg (by omega), if_neg (by omega), if_neg (by omega), if_neg (by omega)]
  · subst e
    rw [xo_odd] at *
    by_cases h : i = j
    · subst h
      rw [if_neg (by omega), if_pos rfl, if_pos rfl]
      omega
    · rw [if_neg (by omega), if_neg (by omega), if_neg (by omega), if_neg (by omega)]
/-! ### what was reached, in the order in which it was -/
def keysT (L : List (Nat × Option Nat)) : List Nat := L.map (·.1)
inductive Tree (A : List Arc) (room src : List Nat) : List (Nat × Option Nat) → Prop
  | nil : Tree A room src []
  | src {L : List (Nat × Option Nat)} {v : Nat} : Tree A room src L → v ∈ src → v ∉ keysT L → Tree A room src (L ++ [(v, none)])
  | arc {L : List (Nat × Option Nat)} {p u v : Nat} : Tree A room src L → Goes A p u v → u ∈ keysT L → 0 < room.getD p 0 → v ∉ keysT L → Tree A room src (L ++ [(v, some p)])
theorem keysT_app (L : List (Nat × Option Nat)) (e : Nat × Option Nat) : keysT (L ++ [e]) = keysT L ++ [e.1] := by
  unfold keysT
  rw [List.map_append]
  rfl
theorem Tree.nd {A : List Arc} {room src : List Nat} {L : List (Nat × Option Nat)} (h : Tree A room src L) : (keysT L).Nodup := by
  induction h with
  | nil => exact List.nodup_nil
  | src _ _ n ih =>
    rw [keysT_app, List.nodup_append]
    exact ⟨ih, by simp, fun x hx y hy e => n (by rw [List.mem_singleton.mp hy] at e; simp only at e; rw [← e]; exact hx)⟩
  | arc _ _ _ _ n ih =>
    rw [keysT_app, List.nodup_append]
    exact ⟨ih, by simp, fun x hx y hy e => n (by rw [List.mem_singleton.mp hy] at e; simp only at e; rw [← e]; exact hx)⟩
theorem Tree.all {A : List Arc} {room src : List Nat} {L : List (Nat × Option Nat)} {R : Nat → Prop} (h : Tree A room src L) (h0 : ∀ v ∈ src, R v) (h1 : ∀ p u v, Goes A p u v → 0 < room.getD p 0 → R u → R v) : ∀ v ∈ keysT L, R v := by
  induction h with
  | nil => exact fun _ h => nomatch h
  | src _ m _ ih =>
    intro v hv
    rw [keysT_app] at hv
    rcases List.mem_append.mp hv with hv | hv
    · exact ih v hv
    · rw [List.mem_singleton.mp hv]
      exact h0 _ m
  | arc _ g m r _ ih =>
    intro v hv
    rw [keysT_app] at hv
    rcases List.mem_append.mp hv with hv | hv
    · exact ih v hv
    · rw [List.mem_singleton.mp hv]
      exact h1 _ _ _ g r (ih _ m)
/-- the paths back from v to a source -/
inductive Back (A : List Arc) (L : List (Nat × Option Nat)) : Nat → List Nat → Prop
  | src {v : Nat} : (v, none) ∈ L → Back A L v []
  | arc {v p u : Nat} {ps : List Nat} : (v, some p) ∈ L → Goes A p u v → Back A L u ps → Back A L v (p :: ps)
theorem Back.more {A : List Arc} {L M : List (Nat × Option Nat)} {v : Nat} {ps : List Nat} (h : Back A L v ps) (s : ∀ e ∈ L, e ∈ M) : Back A M v ps := by
  induction h with
  | src m => exact .src (s _ m)
  | arc m g _ ih => exact .arc (s _ m) g ih
/-- paths one behind the other, back from v: their heads are different places, all reached -/
structure BackOk (A : List Arc) (room : List Nat) (K : List Nat) (ps : List Nat) : Prop where
  lt : ∀ p ∈ ps, p < 2 * A.length
  pos : ∀ p ∈ ps, 0 < room.getD p 0
  nd : ps.Nodup
  inn : ∀ p ∈ ps, ∃ u v, Goes A p u v ∧ u ∈ K ∧ v ∈ K
theorem tree_back {A : List Arc} {room src : List Nat} {L : List (Nat × Option Nat)} (h : Tree A room src L) : ∀ v ∈ keysT L, ∃ ps, Back A L v ps ∧ BackOk A room (keysT L) ps ∧ ps.length ≤ L.length := by
  induction h with
  | nil => exact fun _ h => nomatch h
  | @src L v _ m n ih =>
    intro x hx
    rw [keysT_app] at hx
    rcases List.mem_append.mp hx with hx | hx
    · obtain ⟨ps, b, ok, l⟩ := ih x hx
      refine ⟨ps, b.more fun e he => List.mem_append_left _ he, ⟨ok.lt, ok.pos, ok.nd, fun p hp => ?_⟩, by rw [List.length_append]; omega⟩
      obtain ⟨u, w, g, h1, h2⟩ := ok.inn p hp
      rw [keysT_app]
      exact ⟨u, w, g, List.mem_append_left _ h1, List.mem_append_left _ h2⟩
    · rw [List.mem_singleton.mp hx]
      exact ⟨[], .src (List.mem_append_right _ List.mem_cons_self), ⟨(fun _ h => nomatch h), (fun _ h => nomatch h), List.nodup_nil, fun _ h => nomatch h⟩, Nat.zero_le _⟩
  | @arc L p u v _ g m r n ih =>
    intro x hx
    rw [keysT_app] at hx
    rcases List.mem_append.mp hx with hx | hx
    · obtain ⟨ps, b, ok, l⟩ := ih x hx
      refine ⟨ps, b.more fun e he => List.mem_append_left _ he, ⟨ok.lt, ok.pos, ok.nd, fun p hp => ?_⟩, by rw [List.length_append]; omega⟩
      obtain ⟨u, w, g, h1, h2⟩ := ok.inn p hp
      rw [keysT_app]
      exact ⟨u, w, g, List.mem_append_left _ h1, List.mem_append_left _ h2⟩
    · rw [List.mem_singleton.mp hx]
      obtain ⟨ps, b, ok, l⟩ := ih u m
      refine ⟨p :: ps, .arc (List.mem_append_right _ List.mem_cons_self) g (b.more fun e he => List.mem_append_left _ he), ⟨fun q hq => ?_, fun q hq => ?_, List.nodup_cons.mpr ⟨fun hm => ?_, ok.nd⟩, fun q hq => ?_⟩, by rw [List.length_append, List.length_cons]; show ps.length + 1 ≤ L.length + 1; omega⟩
      · rcases List.mem_cons.mp hq with e | hq
        · rw [e]; exact goes_lt g
        · exact ok.lt q hq
      · rcases List.mem_cons.mp hq with e | hq
        · rw [e]; exact r
        · exact ok.pos q hq
      · obtain ⟨u', v', g', _, hv'⟩ := ok.inn p hm
        rw [← (goes_one g g').2] at hv'
        exact n hv'
      · rw [keysT_app]
        rcases List.mem_cons.mp hq with e | hq
        · rw [e]
          exact ⟨u, v, g, List.mem_append_left _ m, List.mem_append_right _ List.mem_cons_self⟩
        · obtain ⟨u', w, g', h1, h2⟩ := ok.inn q hq
          exact ⟨u', w, g', List.mem_append_left _ h1, List.mem_append_left _ h2⟩
/-- what is pushed back from v comes from a source -/
theorem back_exc {A : List Arc} {room src : List Nat} {L : List (Nat × Option Nat)} (hl : room.length = 2 * A.length) (hs : ∀ v, (v, none) ∈ L → v ∈ src) : ∀ {ps dn : List Nat} {v : Nat}, Back A L v ps → BackOk A room (keysT L) (dn ++ ps) → ∃ s ∈ src, ∀ x, exc A (pushes room (dn ++ ps)) x = exc A (pushes room dn) x + ((if v = x then 1 else 0) - (if s = x then 1 else 0))
  | [], dn, v, h, ok => by
    cases h with
    | src m =>
      refine ⟨v, hs v m, fun x => ?_⟩
      rw [List.append_nil]
      omega
  | p :: ps, dn, v, h, ok => by
    cases h with
    | @arc _ _ u _ m g b =>
      have e : dn ++ p :: ps = (dn ++ [p]) ++ ps := by rw [List.append_assoc]; rfl
      rw [e] at ok ⊢
      obtain ⟨s, h1, h2⟩ := back_exc (ps := ps) (dn := dn ++ [p]) hl hs b ok
      refine ⟨s, h1, fun x => ?_⟩
      have hd : ∀ q ∈ dn, q < 2 * A.length := fun q hq => ok.lt q (List.mem_append_left _ (List.mem_append_left _ hq))
      have nd := ok.nd
      rw [List.nodup_append, List.nodup_append] at nd
      have np : p ∉ dn := fun m => nd.1.2.2 p m p List.mem_cons_self rfl
      have c0 : dn.count p = 0 := List.count_eq_zero.mpr np
      have ge := pushes_ge (n := A.length) hl hd p
      have pp := ok.pos p (List.mem_append_left _ (List.mem_append_right _ List.mem_cons_self))
      have e2 := exc_push (room := pushes room dn) (by rw [pushes_len]; exact hl) g (by omega) x
      rw [h2 x, pushes_snoc, e2]
      omega
/-- .. and changes no room of both directions together -/
theorem pushes_sum {A : List Arc} {room K : List Nat} (hl : room.length = 2 * A.length) : ∀ {ps dn : List Nat}, BackOk A room K (dn ++ ps) → ∀ i, (pushes room (dn ++ ps)).getD (2 * i) 0 + (pushes room (dn ++ ps)).getD (2 * i + 1) 0 = (pushes room dn).getD (2 * i) 0 + (pushes room dn).getD (2 * i + 1) 0
  | [], dn, _, i => by rw [List.append_nil]
  | p :: ps, dn, ok, i => by
    have e : dn ++ p :: ps = (dn ++ [p]) ++ ps := by rw [List.append_assoc]; rfl
    rw [e] at ok ⊢
    rw [pushes_sum hl (ps := ps) (dn := dn ++ [p]) ok i, pushes_snoc]
    have hd : ∀ q ∈ dn, q < 2 * A.length := fun q hq => ok.lt q (List.mem_append_left _ (List.mem_append_left _ hq))
    have nd := ok.nd
    rw [List.nodup_append, List.nodup_append] at nd
    have np : p ∉ dn := fun m => nd.1.2.2 p m p List.mem_cons_self rfl
    have c0 : dn.count p = 0 := List.count_eq_zero.mpr np
    have ge := pushes_ge (n := A.length) hl hd p
    have pp := ok.pos p (List.mem_append_left _ (List.mem_append_right _ List.mem_cons_self))
    exact push_sum (n := A.length) (by rw [pushes_len]; exact hl) (ok.lt p (List.mem_append_left _ (List.mem_append_right _ List.mem_cons_self))) (by omega)
/-! ### what flows over a border -/
/-- out of the sides with R, less what flows in -/
def out : List Arc → List Nat → (Nat → Bool) → Int
  | a :: A, _ :: f :: r, R => ((if R a.tail then (f : Int) else 0) - (if R a.head then (f : Int) else 0)) + out A r R
  | _, _, _ => 0
def sumOn (g : Nat → Int) : List Nat → Int
  | [] => 0
  | v :: l => g v + sumOn g l
theorem sumOn_add (g h : Nat → Int) : ∀ l, sumOn (fun v => g v + h v) l = sumOn g l + sumOn h l
  | [] => rfl
  | v :: l => by
    show g v + h v + sumOn _ l = g v + sumOn g l + (h v + sumOn h l)
    rw [sumOn_add g h l]
    omega
theorem sumOn_sub (g h : Nat → Int) : ∀ l, sumOn (fun v => g v - h v) l = sumOn g l - sumOn h l
  | [] => rfl
  | v :: l => by
    show g v - h v + sumOn _ l = g v + sumOn g l - (h v + sumOn h l)
    rw [sumOn_sub g h l]
    omega
theorem sumOn_zero : ∀ l, sumOn (fun _ => 0) l = 0
  | [] => rfl
  | v :: l => by
    show 0 + sumOn _ l = 0
    rw [sumOn_zero l]
    rfl
theorem sumOn_congr {g h : Nat → Int} : ∀ {l : List Nat}, (∀ v ∈ l, g v = h v) → sumOn g l = sumOn h l
  | [], _ => rfl
  | v :: l, e => by
    show g v + sumOn g l = h v + sumOn h l
    rw [e v List.mem_cons_self, sumOn_congr fun x hx => e x (List.mem_cons_of_mem _ hx)]
theorem sumOn_one (w : Nat) (f : Int) : ∀ {l : List Nat}, l.Nodup → sumOn (fun v => if w = v then f else 0) l = if w ∈ l then f else 0
  | [], _ => by simp [sumOn]
  | v :: l, nd => by
    obtain ⟨n1, n2⟩ := List.nodup_cons.mp nd
    show (if w = v then f else 0) + sumOn _ l = _
    rw [sumOn_one w f n2]
    by_cases h : w = v
    · subst h
      rw [if_pos rfl, if_neg n1, if_pos List.mem_cons_self]
      omega
    · rw [if_neg h]
      by_cases h2 : w ∈ l
      · rw [if_pos h2, if_pos (List.mem_cons_of_mem _ h2)]
        omega
      · rw [if_neg h2, if_neg (fun m => (List.mem_cons.mp m).elim h h2)]
        rfl
/-- the border of the sides in l -/
theorem exc_out {l : List Nat} (nd : l.Nodup) : ∀ (A : List Arc) (room : List Nat), sumOn (exc A room) l = - out A room (fun v => decide (v ∈ l))
  | [], room => by
    have : sumOn (exc [] room) l = sumOn (fun _ => 0) l := sumOn_congr fun v _ => by simp [exc]
    rw [this, sumOn_zero]
    simp [out]
  | a :: A, [] => by
    have : sumOn (exc (a :: A) []) l = sumOn (fun _ => 0) l := sumOn_congr fun v _ => by simp [exc]
    rw [this, sumOn_zero]
    simp [out]
  | a :: A, [y] => by
    have : sumOn (exc (a :: A) [y]) l = sumOn (fun _ => 0) l := sumOn_congr fun v _ => by simp [exc]
    rw [this, sumOn_zero]
    simp [out]
  | a :: A, c :: f :: r => by
    have e : sumOn (exc (a :: A) (c :: f :: r)) l = sumOn (fun v => ((if a.head = v then (f : Int) else 0) - (if a.tail = v then (f : Int) else 0)) + exc A r v) l := sumOn_congr fun v _ => rfl
    rw [e, sumOn_add, sumOn_sub, sumOn_one _ _ nd, sumOn_one _ _ nd, exc_out nd A r]
    show _ = - (((if decide (a.tail ∈ l) = true then (f : Int) else 0) - (if decide (a.head ∈ l) = true then (f : Int) else 0)) + out A r _)
    simp only [decide_eq_true_eq]
    omega
end Ft

set_option Elab.async false
set_option linter.all false
set_option maxRecDepth 100000
set_option maxHeartbeats 4000000
/-! Plain mathematics: the net of a map, and flows in it. -/
namespace Ft
def keepR (C : Chart) (p : Nat × Nat) : Bool := decide (p.1 ≠ p.2) || decide (p.2 ∈ C.wished)
def gatesA (C : Chart) : List Arc := (List.range C.n).map fun a => ⟨2 * a, 2 * a + 1, if a ∈ C.wished then 0 else 1⟩
def roadsA (C : Chart) : List Arc := (C.roads.filter (keepR C)).map fun p => ⟨2 * p.1 + 1, 2 * p.2, 61⟩
def netA (C : Chart) : List Arc := gatesA C ++ roadsA C
def gateCap (C : Chart) (S F : List Nat) (a : Nat) : Nat := if a ∈ S then 0 else if a ∈ F then 61 else if a ∈ C.wished then 0 else 1
def capOf (C : Chart) (S F : List Nat) (i : Nat) : Nat := if i < C.n then gateCap C S F i else 61
theorem gates_len (C : Chart) : (gatesA C).length = C.n := by unfold gatesA; rw [List.length_map, List.length_range]
theorem net_gate {C : Chart} {a : Nat} (h : a < C.n) : (netA C)[a]? = some ⟨2 * a, 2 * a + 1, if a ∈ C.wished then 0 else 1⟩ := by
  unfold netA
  rw [List.getElem?_append_left (by rw [gates_len]; exact h)]
  unfold gatesA
  rw [List.getElem?_map, List.getElem?_range h]
  rfl
theorem net_is {C : Chart} {i : Nat} {a : Arc} (h : (netA C)[i]? = some a) : (i < C.n ∧ a.tail = 2 * i ∧ a.head = 2 * i + 1) ∨ (C.n ≤ i ∧ ∃ x y, (x, y) ∈ C.roads ∧ (x ≠ y ∨ y ∈ C.wished) ∧ a.tail = 2 * x + 1 ∧ a.head = 2 * y) := by
  by_cases hi : i < C.n
  · rw [net_gate hi] at h
    cases h
    exact .inl ⟨hi, rfl, rfl⟩
  · right
    refine ⟨by omega, ?_⟩
    unfold netA at h
    rw [List.getElem?_append_right (by rw [gates_len]; omega)] at h
    have m := List.mem_of_getElem? h
    unfold roadsA at m
    obtain ⟨p, hp, rfl⟩ := List.mem_map.mp m
    rw [List.mem_filter] at hp
    have k := hp.2
    unfold keepR at k
    rw [Bool.or_eq_true, decide_eq_true_eq, decide_eq_true_eq] at k
    exact ⟨p.1, p.2, hp.1, k, rfl, rfl⟩
theorem net_road {C : Chart} {x y : Nat} (h : (x, y) ∈ C.roads) (k : x ≠ y ∨ y ∈ C.wished) : ∃ i, C.n ≤ i ∧ (netA C)[i]? = some ⟨2 * x + 1, 2 * y, 61⟩ := by
  have m : (⟨2 * x + 1, 2 * y, 61⟩ : Arc) ∈ roadsA C := by
    unfold roadsA
    refine List.mem_map.mpr ⟨(x, y), List.mem_filter.mpr ⟨h, ?_⟩, rfl⟩
    unfold keepR
    rw [Bool.or_eq_true, decide_eq_true_eq, decide_eq_true_eq]
    exact k
  obtain ⟨j, hj⟩ := List.getElem?_of_mem m
  refine ⟨C.n + j, by omega, ?_⟩
  unfold netA
  rw [List.getElem?_append_right (by rw [gates_len]; omega), gates_len, show C.n + j - C.n = j by omega, hj]
def srcs (S : List Nat) : List Nat := S.map fun a => 2 * a + 1
theorem srcs_mem {S : List Nat} {v : Nat} : v ∈ srcs S ↔ ∃ a ∈ S, v = 2 * a + 1 := by
  unfold srcs
  rw [List.mem_map]
  exact ⟨fun ⟨a, h, e⟩ => ⟨a, h, e.symm⟩, fun ⟨a, h, e⟩ => ⟨a, h, e.symm⟩⟩
/-- the lot comes to it -/
def ComesS (C : Chart) (S : List Nat) (b : Nat) : Prop := ∃ a ∈ S, Reach C.roads C.wished a b
/-- the sides that ways from the lot may use -/
def RS (C : Chart) (S : List Nat) (v : Nat) : Prop := (∃ a, v = 2 * a + 1 ∧ (a ∈ S ∨ (a ∉ C.wished ∧ ComesS C S a))) ∨ (∃ b, v = 2 * b ∧ ComesS C S b)
theorem RS.odd {C : Chart} {S : List Nat} {a : Nat} (h : RS C S (2 * a + 1)) : a ∈ S ∨ (a ∉ C.wished ∧ ComesS C S a) := by
  rcases h with ⟨b, e, h⟩ | ⟨b, e, _⟩
  · have : a = b := by omega
    rw [this]; exact h
  · omega
theorem RS.even {C : Chart} {S : List Nat} {a : Nat} (h : RS C S (2 * a)) : ComesS C S a := by
  rcases h with ⟨b, e, _⟩ | ⟨b, e, h⟩
  · omega
  · have : a = b := by omega
    rw [this]; exact h
def twos (E : List Nat) : List Nat := E.map fun w => 2 * w
/-- lot and free places as they may be -/
structure LotsOk (C : Chart) (S F : List Nat) : Prop where
  inS : ∀ a ∈ S, a < C.n
  inF : ∀ a ∈ F, a < C.n ∧ a ∉ C.wished
structure FlowOk (C : Chart) (S F : List Nat) (room E : List Nat) : Prop where
  len : room.length = 2 * (netA C).length
  sum : ∀ i, i < (netA C).length → room.getD (2 * i) 0 + room.getD (2 * i + 1) 0 = capOf C S F i
  exc : ∀ v, v < 2 * C.n → v ∉ srcs S → exc (netA C) room v = ((twos E).count v : Int)
  nd : E.Nodup
  inE : ∀ w ∈ E, w ∈ C.wished
  small : ∀ i, room.getD (2 * i + 1) 0 ≤ E.length
  near : ∀ i a, (netA C)[i]? = some a → 0 < room.getD (2 * i + 1) 0 → RS C S a.tail ∧ RS C S a.head
section
variable {C : Chart} {S F room E : List Nat} {L : List (Nat × Option Nat)}
theorem cap_pos {a : Nat} (lo : LotsOk C S F) (h : 0 < gateCap C S F a) : a ∉ S ∧ a ∉ C.wished := by
  unfold gateCap at h
  split at h
  · omega
  · rename_i h1
    split at h
    · rename_i h2
      exact ⟨h1, (lo.inF a h2).2⟩
    · split at h
      · omega
      · rename_i h3
        exact ⟨h1, h3⟩
/-- a step where there is room stays among the sides that ways may use -/
theorem RS_step (lo : LotsOk C S F) (fo : FlowOk C S F room E) {p u v : Nat} (g : Goes (netA C) p u v) (r : 0 < room.getD p 0) (h : RS C S u) : RS C S v := by
  obtain ⟨i, a, ha, ⟨e1, e2, e3⟩ | ⟨e1, e2, e3⟩⟩ := goes_is g
  · subst e1 e2 e3
    rcases net_is ha with ⟨hi, t, hd⟩ | ⟨hi, x, y, hr, _, t, hd⟩
    · rw [t] at h
      rw [hd]
      have hl : i < (netA C).length := (List.getElem?_eq_some_iff.mp ha).1
      have s := fo.sum i hl
      unfold capOf at s
      rw [if_pos hi] at s
      have c := cap_pos (a := i) lo (by omega)
      exact .inl ⟨i, rfl, .inr ⟨c.2, h.even⟩⟩
    · rw [t] at h
      rw [hd]
      refine .inr ⟨y, rfl, ?_⟩
      rcases h.odd with m | ⟨nw, s, hs, rs⟩
      · exact ⟨x, m, .one hr⟩
      · exact ⟨s, hs, .more rs nw hr⟩
  · subst e1 e2 e3
    exact (fo.near i a ha r).1
theorem tree_RS (lo : LotsOk C S F) (fo : FlowOk C S F room E) (t : Tree (netA C) room (srcs S) L) : ∀ v ∈ keysT L, RS C S v :=
  t.all (fun v hv => by
    obtain ⟨a, ha, rfl⟩ := srcs_mem.mp hv
    exact .inl ⟨a, rfl, .inl ha⟩) fun p u v g r h => RS_step lo fo g r h
theorem tree_src {A : List Arc} {src : List Nat} (t : Tree A room src L) : ∀ v, (v, none) ∈ L → v ∈ src := by
  induction t with
  | nil => exact fun _ h => nomatch h
  | src _ m _ ih =>
    intro v hv
    rcases List.mem_append.mp hv with hv | hv
    · exact ih v hv
    · have := List.mem_singleton.mp hv
      injection this with e _
      rw [e]
      exact m
  | arc _ _ _ _ _ ih =>
    intro v hv
    rcases List.mem_append.mp hv with hv | hv
    · exact ih v hv
    · have := List.mem_singleton.mp hv
      injection this with _ e
      cases e
/-- how a side was reached -/
theorem tree_in {A : List Arc} {src : List Nat} (t : Tree A room src L) : ∀ v ∈ keysT L, v ∈ src ∨ ∃ p u, Goes A p u v ∧ u ∈ keysT L ∧ 0 < room.getD p 0 := by
  induction t with
  | nil => exact fun _ h => nomatch h
  | src _ m _ ih =>
    intro v hv
    rw [keysT_app] at hv ⊢
    rcases List.mem_append.mp hv with hv | hv
    · rcases ih v hv with h | ⟨p, u, g, h, r⟩
      · exact .inl h
      · exact .inr ⟨p, u, g, List.mem_append_left _ h, r⟩
    · rw [List.mem_singleton.mp hv]
      exact .inl m
  | @arc L0 p u _ _ g m r _ ih =>
    intro v hv
    rw [keysT_app] at hv ⊢
    rcases List.mem_append.mp hv with hv | hv
    · rcases ih v hv with h | ⟨p, u, g, h, r⟩
      · exact .inl h
      · exact .inr ⟨p, u, g, List.mem_append_left _ h, r⟩
    · rw [List.mem_singleton.mp hv]
      exact .inr ⟨p, u, g, List.mem_append_left _ m, r⟩
theorem twos_app (E : List Nat) (w : Nat) : twos (E ++ [w]) = twos E ++ [2 * w] := by
  unfold twos
  rw [List.map_append]
  rfl
theorem twos_mem {E : List Nat} {w : Nat} : 2 * w ∈ twos E ↔ w ∈ E := by
  unfold twos
  rw [List.mem_map]
  exact ⟨fun ⟨x, h, e⟩ => by have : x = w := by omega
                             rw [← this]; exact h, fun h => ⟨w, h, rfl⟩⟩
/-- one more way -/
theorem FlowOk.more (lo : LotsOk C S F) (fo : FlowOk C S F room E) (t : Tree (netA C) room (srcs S) L) {w : Nat} (hw : w ∈ C.wished) (hn : w ∉ E) {ps : List Nat} (hb : Back (netA C) L (2 * w) ps) (ok : BackOk (netA C) room (keysT L) ps) : FlowOk C S F (pushes room ps) (E ++ [w]) := by
  have lt := ok.lt
  have le := fun q => pushes_le (n := (netA C).length) fo.len lt q
  have one : ∀ q, ps.count q ≤ 1 := fun q => List.nodup_iff_count.mp ok.nd q
  refine ⟨by rw [pushes_len]; exact fo.len, fun i hi => ?_, fun v hv hs => ?_, ?_, fun x hx => ?_, fun i => ?_, fun i a ha h => ?_⟩
  · have := pushes_sum (dn := []) fo.len (ps := ps) (K := keysT L) ok i
    rw [List.nil_append] at this
    rw [this]
    exact fo.sum i hi
  · obtain ⟨s, h1, h2⟩ := back_exc (dn := []) fo.len (tree_src t) hb ok
    have e := h2 v
    rw [List.nil_append] at e
    rw [e, show pushes room [] = room from rfl, fo.exc v hv hs, twos_app, List.count_append, List.count_singleton]
    have ns : s ≠ v := fun z => hs (z ▸ h1)
    rw [if_neg ns]
    by_cases h : 2 * w = v
    · rw [if_pos h, if_pos (by rw [h]; simp)]
      omega
    · rw [if_neg h, if_neg (by simpa using h)]
      omega
  · rw [List.nodup_append]
    exact ⟨fo.nd, by simp, fun x hx y hy e => hn (by rw [List.mem_singleton.mp hy] at e; exact e ▸ hx)⟩
  · rcases List.mem_append.mp hx with hx | hx
    · exact fo.inE x hx
    · rw [List.mem_singleton.mp hx]
      exact hw
  · have := le (2 * i + 1)
    have := one (xo (2 * i + 1))
    have := fo.small i
    rw [List.length_append]
    show _ ≤ E.length + 1
    omega
  · have h1 := le (2 * i + 1)
    by_cases h0 : 0 < room.getD (2 * i + 1) 0
    · exact fo.near i a ha h0
    · rw [xo_odd] at h1
      have m : 2 * i ∈ ps := List.count_pos_iff.mp (by omega)
      obtain ⟨u, v, g, hu, hv⟩ := ok.inn _ m
      have := goes_one g (goes_fwd ha)
      have rs := tree_RS lo fo t
      rw [this.1] at hu
      rw [this.2] at hv
      exact ⟨rs _ hu, rs _ hv⟩
theorem FlowOk.start (h1 : room.length = 2 * (netA C).length) (h2 : ∀ i, i < (netA C).length → room.getD (2 * i) 0 = capOf C S F i ∧ room.getD (2 * i + 1) 0 = 0) : FlowOk C S F room [] := by
  have z : ∀ i, room.getD (2 * i + 1) 0 = 0 := fun i => by
    by_cases h : i < (netA C).length
    · exact (h2 i h).2
    · rw [List.getD_eq_getElem?_getD, List.getElem?_eq_none (by omega)]
      rfl
  refine ⟨h1, fun i hi => by rw [(h2 i hi).1, (h2 i hi).2]; rfl, fun v _ _ => ?_, List.nodup_nil, (fun _ h => nomatch h), fun i => by rw [z]; exact Nat.zero_le _, fun i a _ h => by rw [z] at h; omega⟩
  have : ∀ (A : List Arc) (r : List Nat), (∀ i, r.getD (2 * i + 1) 0 = 0) → Ft.exc A r v = 0 := by
    intro A
    induction A with
    | nil => intro r _; simp [Ft.exc]
    | cons a A ih =>
      intro r hr
      match r, hr with
      | [], _ => simp [Ft.exc]
      | [y], _ => simp [Ft.exc]
      | c :: f :: r, hr =>
        have f0 : f = 0 := hr 0
        have := ih r fun i => by
          have := hr (i + 1)
          rw [show 2 * (i + 1) + 1 = (2 * i + 1) + 1 + 1 by omega] at this
          simpa using this
        show ((if a.head = v then (f : Int) else 0) - (if a.tail = v then (f : Int) else 0)) + Ft.exc A r v = 0
        rw [this, f0]
        split <;> split <;> omega
  rw [this _ _ z]
  rfl
end
end Ft

set_option Elab.async false
set_option linter.all false
set_option maxRecDepth 100000
set_option maxHeartbeats 4000000
/-! Plain mathematics: what flows over a border of the net, and the nearest least wall. -/
namespace Ft
/-! ### sums -/
theorem sumOn_le {g h : Nat → Int} : ∀ {l : List Nat}, (∀ v ∈ l, g v ≤ h v) → sumOn g l ≤ sumOn h l
  | [], _ => Int.le_refl _
  | v :: l, e => by
    show g v + sumOn g l ≤ h v + sumOn h l
    have := e v List.mem_cons_self
    have := sumOn_le fun x hx => e x (List.mem_cons_of_mem v hx)
    omega
theorem sumOn_tight {g h : Nat → Int} : ∀ {l : List Nat}, (∀ v ∈ l, g v ≤ h v) → sumOn h l ≤ sumOn g l → ∀ v ∈ l, g v = h v
  | [], _, _ => fun _ m => nomatch m
  | v :: l, e, t => fun x hx => by
    have t' : h v + sumOn h l ≤ g v + sumOn g l := t
    have e1 := e v List.mem_cons_self
    have e2 := sumOn_le fun x hx => e x (List.mem_cons_of_mem v hx)
    rcases List.mem_cons.mp hx with q | hx
    · rw [q]; omega
    · exact sumOn_tight (fun x hx => e x (List.mem_cons_of_mem v hx)) (by omega) x hx
theorem sumOn_app (g : Nat → Int) : ∀ l m, sumOn g (l ++ m) = sumOn g l + sumOn g m
  | [], m => by show sumOn g m = 0 + sumOn g m; omega
  | v :: l, m => by
    show g v + sumOn g (l ++ m) = g v + sumOn g l + sumOn g m
    rw [sumOn_app g l m]
    omega
theorem sumOn_map (g : Nat → Int) (f : Nat → Nat) : ∀ l, sumOn g (l.map f) = sumOn (fun v => g (f v)) l
  | [] => rfl
  | v :: l => by
    show g (f v) + sumOn g (l.map f) = g (f v) + sumOn _ l
    rw [sumOn_map g f l]
theorem sumOn_count (p : Nat → Bool) : ∀ l : List Nat, sumOn (fun v => if p v = true then 1 else 0) l = ((l.filter p).length : Int)
  | [] => rfl
  | v :: l => by
    show (if p v = true then (1 : Int) else 0) + sumOn _ l = _
    rw [sumOn_count p l, List.filter_cons]
    split
    · rw [List.length_cons]
      omega
    · omega
theorem sumOn_split (g : Nat → Int) (p : Nat → Bool) : ∀ l : List Nat, sumOn g l = sumOn g (l.filter p) + sumOn g (l.filter fun v => !p v)
  | [] => rfl
  | v :: l => by
    show g v + sumOn g l = _
    rw [sumOn_split g p l, List.filter_cons, List.filter_cons]
    cases p v with
    | true =>
      rw [if_pos rfl, if_neg (by simp)]
      show _ = g v + sumOn g _ + _
      omega
    | false =>
      rw [if_neg (by simp), if_pos (by simp)]
      show _ = _ + (g v + sumOn g _)
      omega
/-- how many of E stand in l -/
theorem sumOn_twos {l : List Nat} (nd : l.Nodup) : ∀ E : List Nat, sumOn (fun v => ((twos E).count v : Int)) l = ((E.filter fun w => decide (2 * w ∈ l)).length : Int)
  | [] => by
    have : sumOn (fun v => ((twos []).count v : Int)) l = sumOn (fun _ => 0) l := sumOn_congr fun v _ => rfl
    rw [this, sumOn_zero]
    rfl
  | w :: E => by
    have : sumOn (fun v => ((twos (w :: E)).count v : Int)) l = sumOn (fun v => ((twos E).count v : Int) + (if 2 * w = v then 1 else 0)) l := sumOn_congr fun v _ => by
      show (((2 * w) :: twos E).count v : Int) = _
      rw [List.count_cons]
      by_cases h : 2 * w = v
      · rw [if_pos (by simpa using h), if_pos h]
        omega
      · rw [if_neg (by simpa using h), if_neg h]
        omega
    rw [this, sumOn_add, sumOn_twos nd E, sumOn_one _ _ nd, List.filter_cons]
    by_cases h : 2 * w ∈ l
    · rw [if_pos h, if_pos (by simpa using h), List.length_cons]
      omega
    · rw [if_neg h, if_neg (by simpa using h)]
      omega
theorem filt_split (p : Nat → Bool) : ∀ l : List Nat, (l.filter p).length + (l.filter fun v => !p v).length = l.length
  | [] => rfl
  | v :: l => by
    have := filt_split p l
    rw [List.filter_cons, List.filter_cons, List.length_cons]
    cases p v with
    | true =>
      rw [if_pos rfl, if_neg (by simp), List.length_cons]
      omega
    | false =>
      rw [if_neg (by simp), if_pos (by simp), List.length_cons]
      omega
/-! ### one arc's part -/
def tmA (A : List Arc) (room : List Nat) (R : Nat → Bool) (i : Nat) : Int := match A[i]? with
  | some a => (if R a.tail then (room.getD (2 * i + 1) 0 : Int) else 0) - (if R a.head then (room.getD (2 * i + 1) 0 : Int) else 0)
  | none => 0
theorem out_sum : ∀ {A : List Arc} {room : List Nat} (R : Nat → Bool), room.length = 2 * A.length → out A room R = sumOn (tmA A room R) (List.range A.length)
  | [], room, R, h => by
    have : room = [] := List.length_eq_zero_iff.mp h
    rw [this]
    rfl
  | a :: A, [], R, h => by simp at h
  | a :: A, [y], R, h => by
    exfalso
    simp only [List.length_cons, List.length_nil] at h
    try omega
  | a :: A, c :: f :: r, R, h => by
    have ih := out_sum (A := A) (room := r) R (by simp at h; omega)
    rw [List.length_cons, List.range_succ_eq_map]
    show ((if R a.tail then (f : Int) else 0) - (if R a.head then (f : Int) else 0)) + out A r R = tmA (a :: A) (c :: f :: r) R 0 + sumOn _ _
    rw [ih, sumOn_map]
    have e0 : tmA (a :: A) (c :: f :: r) R 0 = ((if R a.tail then (f : Int) else 0) - (if R a.head then (f : Int) else 0)) := rfl
    rw [e0]
    rfl
theorem out_congr {R R' : Nat → Bool} {N : Nat} (e : ∀ v, v < N → R v = R' v) : ∀ {A : List Arc} {room : List Nat}, (∀ a ∈ A, a.tail < N ∧ a.head < N) → out A room R = out A room R'
  | [], room, _ => by simp [out]
  | a :: A, [], _ => by simp [out]
  | a :: A, [y], _ => by simp [out]
  | a :: A, c :: f :: r, h => by
    show ((if R a.tail then (f : Int) else 0) - (if R a.head then (f : Int) else 0)) + out A r R = ((if R' a.tail then (f : Int) else 0) - (if R' a.head then (f : Int) else 0)) + out A r R'
    rw [e _ (h a List.mem_cons_self).1, e _ (h a List.mem_cons_self).2, out_congr e fun x hx => h x (List.mem_cons_of_mem _ hx)]
theorem out_all : ∀ {A : List Arc} {room : List Nat}, out A room (fun _ => true) = 0
  | [], room => by simp [out]
  | a :: A, [] => by simp [out]
  | a :: A, [y] => by simp [out]
  | a :: A, c :: f :: r => by
    show ((if (fun _ => true) a.tail = true then (f : Int) else 0) - (if (fun _ => true) a.head = true then (f : Int) else 0)) + out A r _ = 0
    rw [out_all (A := A) (room := r)]
    simp
section
variable {C : Chart} {S F room E : List Nat} {L : List (Nat × Option Nat)}
theorem net_lt (ok : C.Ok) : ∀ a ∈ netA C, a.tail < 2 * C.n ∧ a.head < 2 * C.n := fun a ha => by
  obtain ⟨i, hi⟩ := List.getElem?_of_mem ha
  rcases net_is hi with ⟨h, e1, e2⟩ | ⟨_, x, y, hr, _, e1, e2⟩
  · omega
  · have := ok.inR (x, y) hr
    simp only at this
    omega
/-- what flows over the border of R ends outside -/
theorem FlowOk.border (ok : C.Ok) (fo : FlowOk C S F room E) (R : Nat → Bool) (hs : ∀ a ∈ S, R (2 * a + 1) = true) : out (netA C) room R = ((E.filter fun w => !R (2 * w)).length : Int) := by
  have ndr : (List.range (2 * C.n)).Nodup := List.nodup_range
  have lt := net_lt ok
  have mr : ∀ v, v < 2 * C.n → decide (v ∈ List.range (2 * C.n)) = true := fun v hv => decide_eq_true (List.mem_range.mpr hv)
  have all : sumOn (Ft.exc (netA C) room) (List.range (2 * C.n)) = 0 := by
    rw [exc_out ndr, out_congr (R' := fun _ => true) (fun v hv => mr v hv) lt, out_all]
    rfl
  have ins : sumOn (Ft.exc (netA C) room) ((List.range (2 * C.n)).filter R) = - out (netA C) room R := by
    rw [exc_out (ndr.filter _)]
    congr 1
    refine out_congr (N := 2 * C.n) (fun v hv => ?_) lt
    cases h : R v with
    | true => exact decide_eq_true (List.mem_filter.mpr ⟨List.mem_range.mpr hv, h⟩)
    | false =>
      refine decide_eq_false fun m => ?_
      rw [(List.mem_filter.mp m).2] at h
      cases h
  have outs : sumOn (Ft.exc (netA C) room) ((List.range (2 * C.n)).filter fun v => !R v) = ((E.filter fun w => !R (2 * w)).length : Int) := by
    have e1 : sumOn (Ft.exc (netA C) room) ((List.range (2 * C.n)).filter fun v => !R v) = sumOn (fun v => ((twos E).count v : Int)) ((List.range (2 * C.n)).filter fun v => !R v) := sumOn_congr fun v hv => by
      rw [List.mem_filter, List.mem_range] at hv
      refine fo.exc v hv.1 fun m => ?_
      obtain ⟨a, ha, rfl⟩ := srcs_mem.mp m
      rw [hs a ha] at hv
      simp at hv
    rw [e1, sumOn_twos (ndr.filter _)]
    congr 2
    refine List.filter_congr fun w hw => ?_
    have wn := ok.inW w (fo.inE w hw)
    cases h : R (2 * w) with
    | true =>
      refine decide_eq_false fun m => ?_
      have := (List.mem_filter.mp m).2
      rw [h] at this
      simp at this
    | false => exact decide_eq_true (List.mem_filter.mpr ⟨List.mem_range.mpr (by omega), by rw [h]; rfl⟩)
  have sp := sumOn_split (Ft.exc (netA C) room) R (List.range (2 * C.n))
  omega
end
/-! ### what lies next to places -/
noncomputable def nextL (C : Chart) (X : List Nat) : List Nat := those C.n fun b => (∃ a ∈ X, (a, b) ∈ C.roads) ∧ (b ∈ C.wished ∨ b ∉ X)
theorem nextL_mem {C : Chart} {X : List Nat} {b : Nat} : b ∈ nextL C X ↔ b < C.n ∧ (∃ a ∈ X, (a, b) ∈ C.roads) ∧ (b ∈ C.wished ∨ b ∉ X) := those_mem
/-- all of the lot, and unwished places beside -/
structure Region (C : Chart) (S X : List Nat) : Prop where
  sub : ∀ a ∈ S, a ∈ X
  inn : ∀ a ∈ X, a ∈ S ∨ a ∉ C.wished
/-- the nearest of the least walls that use no free place, of m places -/
structure NearSpec (C : Chart) (S F : List Nat) (m : Nat) (X : List Nat) : Prop where
  up : X.Pairwise (· < ·)
  lt : ∀ a ∈ X, a < C.n
  sub : ∀ a ∈ S, a ∈ X
  inn : ∀ a ∈ X, a ∈ S ∨ (a ∉ C.wished ∧ ComesS C S a)
  free : ∀ b ∈ nextL C X, b ∉ F
  many : (nextL C X).length = m
  least : ∀ Y, Region C S Y → (∀ b ∈ nextL C Y, b ∉ F) → m ≤ (nextL C Y).length ∧ ((nextL C Y).length = m → ∀ a ∈ X, a ∈ Y)
/-- no way further -/
structure Closed (C : Chart) (S room E : List Nat) (L : List (Nat × Option Nat)) : Prop where
  tree : Tree (netA C) room (srcs S) L
  src : ∀ a ∈ S, 2 * a + 1 ∈ keysT L
  done : ∀ u ∈ keysT L, ∀ p v, Goes (netA C) p u v → 0 < room.getD p 0 → v ∈ keysT L
  noEnd : ∀ w ∈ C.wished, 2 * w ∈ keysT L → w ∈ E
theorem nodup_len_le {l m : List Nat} (nd : l.Nodup) (s : ∀ x ∈ l, x ∈ m) : l.length ≤ m.length := L2.nat_nodup_len l m nd s
theorem nodup_len_eq {l m : List Nat} (n1 : l.Nodup) (n2 : m.Nodup) (s : ∀ x, x ∈ l ↔ x ∈ m) : l.length = m.length := Nat.le_antisymm (nodup_len_le n1 fun x hx => (s x).mp hx) (nodup_len_le n2 fun x hx => (s x).mpr hx)
theorem sub_full {l m : List Nat} (nd : l.Nodup) (s : ∀ x ∈ l, x ∈ m) (h : m.length ≤ l.length) : ∀ x ∈ m, x ∈ l := fun x hx => Classical.byContradiction fun no => by
  have := nodup_len_le (l := x :: l) (m := m) (List.nodup_cons.mpr ⟨no, nd⟩) fun y hy => (List.mem_cons.mp hy).elim (fun e => e ▸ hx) (s y)
  rw [List.length_cons] at this
  omega
section
variable {C : Chart} {S F room E : List Nat} {L : List (Nat × Option Nat)}
/-- over the border of a region's sides no more flows than lies next to it -/
theorem region_tight (ok : C.Ok) (lo : LotsOk C S F) (fo : FlowOk C S F room E) {Y : List Nat} (rg : Region C S Y) (fr : ∀ b ∈ nextL C Y, b ∉ F) :
    E.length ≤ (nextL C Y).length ∧ ((nextL C Y).length = E.length → ∃ R : Nat → Bool, (∀ v, R v = true ↔ ((∃ a ∈ Y, v = 2 * a + 1) ∨ ∃ b, v = 2 * b ∧ ((b ∈ Y ∧ b ∉ C.wished) ∨ b ∈ nextL C Y))) ∧ (∀ p u v, Goes (netA C) p u v → 0 < room.getD p 0 → R u = true → R v = true) ∧ ∀ w ∈ C.wished, w ∈ nextL C Y → w ∈ E) := by
  obtain ⟨R, hR⟩ : ∃ R : Nat → Bool, ∀ v, R v = true ↔ ((∃ a ∈ Y, v = 2 * a + 1) ∨ ∃ b, v = 2 * b ∧ ((b ∈ Y ∧ b ∉ C.wished) ∨ b ∈ nextL C Y)) :=
    ⟨fun v => @decide _ (Classical.propDecidable _), fun v => @decide_eq_true_iff _ (Classical.propDecidable _)⟩
  have odd : ∀ a, R (2 * a + 1) = true ↔ a ∈ Y := fun a => by
    rw [hR]
    constructor
    · rintro (⟨b, h, e⟩ | ⟨b, e, _⟩)
      · have : a = b := by omega
        rw [this]; exact h
      · omega
    · exact fun h => .inl ⟨a, h, rfl⟩
  have even : ∀ b, R (2 * b) = true ↔ ((b ∈ Y ∧ b ∉ C.wished) ∨ b ∈ nextL C Y) := fun b => by
    rw [hR]
    constructor
    · rintro (⟨a, _, e⟩ | ⟨a, e, h⟩)
      · omega
      · have : b = a := by omega
        rw [this]; exact h
    · exact fun h => .inr ⟨b, rfl, h⟩
  have bd := fo.border ok R fun a ha => (odd a).mpr (rg.sub a ha)
  rw [out_sum R fo.len] at bd
  have road_in : ∀ {x y : Nat}, (x, y) ∈ C.roads → R (2 * x + 1) = true → R (2 * y) = true := fun {x y} hr h => by
    have hx := (odd x).mp h
    rw [even]
    by_cases h1 : y ∈ C.wished
    · exact .inr (nextL_mem.mpr ⟨(ok.inR _ hr).2, ⟨x, hx, hr⟩, .inl h1⟩)
    · by_cases h2 : y ∈ Y
      · exact .inl ⟨h2, h1⟩
      · exact .inr (nextL_mem.mpr ⟨(ok.inR _ hr).2, ⟨x, hx, hr⟩, .inr h2⟩)
  have part : ∀ i ∈ List.range (netA C).length, tmA (netA C) room R i ≤ (if (fun i => decide (i ∈ nextL C Y) && !decide (i ∈ C.wished)) i = true then (1 : Int) else 0) := fun i hi => by
    rw [List.mem_range] at hi
    have ha : (netA C)[i]? = some (netA C)[i] := List.getElem?_eq_getElem hi
    unfold tmA
    rw [ha]
    simp only
    rcases net_is ha with ⟨h, e1, e2⟩ | ⟨h, x, y, hr, _, e1, e2⟩
    · rw [e1, e2]
      by_cases t : R (2 * i) = true
      · by_cases d : R (2 * i + 1) = true
        · rw [if_pos t, if_pos d]
          split <;> omega
        · rw [if_pos t, if_neg d]
          have ny : i ∉ Y := fun m => d ((odd i).mpr m)
          have nx : i ∈ nextL C Y := ((even i).mp t).elim (fun z => absurd z.1 ny) id
          have s := fo.sum i hi
          unfold capOf gateCap at s
          rw [if_pos h, if_neg (fun m => ny (rg.sub i m)), if_neg (fr i nx)] at s
          by_cases hw : i ∈ C.wished
          · rw [if_pos hw] at s
            split <;> omega
          · rw [if_neg hw] at s
            rw [if_pos (by simp [nx, hw])]
            omega
      · rw [if_neg t]
        split <;> split <;> omega
    · rw [e1, e2]
      by_cases t : R (2 * x + 1) = true
      · rw [if_pos t, if_pos (road_in hr t)]
        split <;> omega
      · rw [if_neg t]
        split <;> split <;> omega
  have bnd := sumOn_le part
  rw [sumOn_count] at bnd
  have nxN := up_nodup (those_up C.n fun b => (∃ a ∈ Y, (a, b) ∈ C.roads) ∧ (b ∈ C.wished ∨ b ∉ Y))
  have inr : ((List.range (netA C).length).filter fun i => decide (i ∈ nextL C Y) && !decide (i ∈ C.wished)).length ≤ ((nextL C Y).filter fun b => !decide (b ∈ C.wished)).length := by
    refine nodup_len_le (List.nodup_range.filter _) fun i hi => ?_
    rw [List.mem_filter, Bool.and_eq_true, decide_eq_true_eq] at hi
    exact List.mem_filter.mpr ⟨hi.2.1, hi.2.2⟩
  have inE : (E.filter fun w => !(!R (2 * w))).length ≤ ((nextL C Y).filter fun b => decide (b ∈ C.wished)).length := by
    refine nodup_len_le (fo.nd.filter _) fun w hw => ?_
    rw [List.mem_filter, Bool.not_not] at hw
    have ww := fo.inE w hw.1
    refine List.mem_filter.mpr ⟨((even w).mp hw.2).elim (fun z => absurd ww z.2) id, decide_eq_true ww⟩
  have spE := filt_split (fun w => !R (2 * w)) E
  have spN := filt_split (fun b => decide (b ∈ C.wished)) (nextL C Y)
  refine ⟨by omega, fun eq => ?_⟩
  have tight := sumOn_tight part (by rw [sumOn_count]; omega)
  refine ⟨R, hR, fun p u v g r h => ?_, fun w hw hn => ?_⟩
  · obtain ⟨i, a, ha, ⟨e1, e2, e3⟩ | ⟨e1, e2, e3⟩⟩ := goes_is g
    · subst e1 e2 e3
      have hi : i < (netA C).length := (List.getElem?_eq_some_iff.mp ha).1
      have tm := tight i (List.mem_range.mpr hi)
      rcases net_is ha with ⟨hn, e1, e2⟩ | ⟨hn, x, y, hr, _, e1, e2⟩
      · rw [e1] at h
        rw [e2]
        show R (2 * i + 1) = true
        by_cases d : R (2 * i + 1) = true
        · exact d
        · exfalso
          unfold tmA at tm
          rw [ha] at tm
          simp only [e1, e2] at tm
          rw [if_pos h, if_neg d] at tm
          have ny : i ∉ Y := fun m => d ((odd i).mpr m)
          have nx : i ∈ nextL C Y := ((even i).mp h).elim (fun z => absurd z.1 ny) id
          have s := fo.sum i hi
          unfold capOf gateCap at s
          rw [if_pos hn, if_neg (fun m => ny (rg.sub i m)), if_neg (fr i nx)] at s
          by_cases hw : i ∈ C.wished
          · rw [if_pos hw] at s
            omega
          · rw [if_neg hw] at s
            rw [if_pos (by simp [nx, hw])] at tm
            omega
      · rw [e1] at h
        rw [e2]
        exact road_in hr h
    · subst e1 e2 e3
      have hi : i < (netA C).length := (List.getElem?_eq_some_iff.mp ha).1
      have tm := tight i (List.mem_range.mpr hi)
      show R a.tail = true
      by_cases d : R a.tail = true
      · exact d
      · exfalso
        unfold tmA at tm
        rw [ha] at tm
        simp only at tm
        rw [if_neg d, if_pos h] at tm
        split at tm <;> omega
  · have sub : ∀ x ∈ E.filter fun w => !(!R (2 * w)), x ∈ (nextL C Y).filter fun b => decide (b ∈ C.wished) := fun w hw => by
      rw [List.mem_filter, Bool.not_not] at hw
      have ww := fo.inE w hw.1
      refine List.mem_filter.mpr ⟨((even w).mp hw.2).elim (fun z => absurd ww z.2) id, decide_eq_true ww⟩
    have m := sub_full (fo.nd.filter _) sub (by omega) w (List.mem_filter.mpr ⟨hn, decide_eq_true hw⟩)
    exact (List.mem_filter.mp m).1
theorem region_out (ok : C.Ok) (lo : LotsOk C S F) (fo : FlowOk C S F room E) {Y : List Nat} (rg : Region C S Y) (fr : ∀ b ∈ nextL C Y, b ∉ F) :
    E.length ≤ (nextL C Y).length ∧ ((nextL C Y).length = E.length → ∀ (L : List (Nat × Option Nat)), Tree (netA C) room (srcs S) L → ∀ v ∈ keysT L, (∃ a ∈ Y, v = 2 * a + 1) ∨ ∃ b, v = 2 * b ∧ ((b ∈ Y ∧ b ∉ C.wished) ∨ b ∈ nextL C Y)) := by
  obtain ⟨h1, h2⟩ := region_tight ok lo fo rg fr
  refine ⟨h1, fun eq L tr v hv => ?_⟩
  obtain ⟨R, hR, cl, _⟩ := h2 eq
  refine (hR v).mp (tr.all (R := fun v => R v = true) (fun v hv => ?_) (fun p u v g r h => cl p u v g r h) v hv)
  obtain ⟨a, ha, rfl⟩ := srcs_mem.mp hv
  exact (hR _).mpr (.inl ⟨a, rg.sub a ha, rfl⟩)
/-- what was reached, when no way goes on, tells the nearest least wall -/
theorem near_spec (ok : C.Ok) (lo : LotsOk C S F) (fo : FlowOk C S F room E) (few : E.length ≤ 60) (cl : Closed C S room E L) : NearSpec C S F E.length (those C.n fun a => 2 * a + 1 ∈ keysT L) := by
  obtain ⟨X, eX⟩ : ∃ X, (those C.n fun a => 2 * a + 1 ∈ keysT L) = X := ⟨_, rfl⟩
  rw [eX]
  have mX : ∀ a, a ∈ X ↔ a < C.n ∧ 2 * a + 1 ∈ keysT L := fun a => by rw [← eX]; exact those_mem
  have rs := tree_RS lo fo cl.tree
  have sub : ∀ a ∈ S, a ∈ X := fun a ha => (mX a).mpr ⟨lo.inS a ha, cl.src a ha⟩
  have inn : ∀ a ∈ X, a ∈ S ∨ (a ∉ C.wished ∧ ComesS C S a) := fun a ha => (rs _ ((mX a).mp ha).2).odd
  have road_in : ∀ {x y : Nat}, (x, y) ∈ C.roads → (x ≠ y ∨ y ∈ C.wished) → 2 * x + 1 ∈ keysT L → 2 * y ∈ keysT L := fun {x y} hr k h => by
    obtain ⟨i, hi, ha⟩ := net_road hr k
    have hl : i < (netA C).length := (List.getElem?_eq_some_iff.mp ha).1
    have s := fo.sum i hl
    unfold capOf at s
    rw [if_neg (by omega)] at s
    have := fo.small i
    exact cl.done _ h _ _ (goes_fwd ha) (by omega)
  have next_in : ∀ b ∈ nextL C X, 2 * b ∈ keysT L := fun b hb => by
    obtain ⟨_, ⟨a, ha, hr⟩, hw⟩ := nextL_mem.mp hb
    refine road_in hr ?_ ((mX a).mp ha).2
    by_cases e : a = b
    · subst e
      exact .inr (hw.elim id fun n => absurd ha n)
    · exact .inl e
  have full : ∀ b, b < C.n → 2 * b ∈ keysT L → b ∉ X → b ∉ S ∧ b ∉ F ∧ room.getD (2 * b) 0 = 0 := fun b hb h n => by
    have g := net_gate (C := C) hb
    have hl : b < (netA C).length := (List.getElem?_eq_some_iff.mp g).1
    have r0 : room.getD (2 * b) 0 = 0 := by
      rcases Nat.eq_zero_or_pos (room.getD (2 * b) 0) with e | e
      · exact e
      · exact absurd ((mX b).mpr ⟨hb, cl.done _ h _ _ (goes_fwd g) e⟩) n
    have nS : b ∉ S := fun m => n (sub b m)
    refine ⟨nS, fun m => ?_, r0⟩
    have s := fo.sum b hl
    unfold capOf gateCap at s
    rw [if_pos hb, if_neg nS, if_pos m] at s
    have := fo.small b
    omega
  have free : ∀ b ∈ nextL C X, b ∉ F := fun b hb m => by
    obtain ⟨hn, _, hw⟩ := nextL_mem.mp hb
    have nX : b ∉ X := hw.elim (fun w => absurd w (lo.inF b m).2) id
    exact (full b hn (next_in b hb) nX).2.1 m
  have next_iff : ∀ b, b ∈ nextL C X ↔ b < C.n ∧ 2 * b ∈ keysT L ∧ (b ∈ C.wished ∨ b ∉ X) := fun b => by
    constructor
    · intro hb
      obtain ⟨h1, _, h3⟩ := nextL_mem.mp hb
      exact ⟨h1, next_in b hb, h3⟩
    · rintro ⟨hn, h, hw⟩
      refine nextL_mem.mpr ⟨hn, ?_, hw⟩
      rcases tree_in cl.tree _ h with m | ⟨p, u, g, hu, r⟩
      · obtain ⟨a, _, e⟩ := srcs_mem.mp m
        omega
      · obtain ⟨i, a, ha, ⟨e1, e2, e3⟩ | ⟨e1, e2, e3⟩⟩ := goes_is g
        · rcases net_is ha with ⟨_, t, d⟩ | ⟨_, x, y, hr, _, t, d⟩
          · omega
          · have : b = y := by omega
            subst this
            rw [e2, t] at hu
            exact ⟨x, (mX x).mpr ⟨(ok.inR _ hr).1, hu⟩, hr⟩
        · rcases net_is ha with ⟨hi, t, d⟩ | ⟨_, x, y, hr, _, t, d⟩
          · exfalso
            have : b = i := by omega
            subst this
            rw [e2, d] at hu
            have bX : b ∈ X := (mX b).mpr ⟨hn, hu⟩
            have bw : b ∈ C.wished := hw.elim id fun n => absurd bX n
            have hl : b < (netA C).length := (List.getElem?_eq_some_iff.mp ha).1
            have s := fo.sum b hl
            unfold capOf gateCap at s
            rw [if_pos hi] at s
            rw [e1] at r
            by_cases h1 : b ∈ S
            · rw [if_pos h1] at s
              omega
            · rw [if_neg h1] at s
              by_cases h2 : b ∈ F
              · exact (lo.inF b h2).2 bw
              · rw [if_neg h2, if_pos bw] at s
                omega
          · omega
  have bd := fo.border ok (fun v => decide (v ∈ keysT L)) fun a ha => decide_eq_true (cl.src a ha)
  rw [out_sum _ fo.len] at bd
  have part : ∀ i ∈ List.range (netA C).length, tmA (netA C) room (fun v => decide (v ∈ keysT L)) i = (if (fun i => decide (i < C.n ∧ 2 * i ∈ keysT L ∧ i ∉ X ∧ i ∉ C.wished)) i = true then (1 : Int) else 0) := fun i hi => by
    rw [List.mem_range] at hi
    have ha : (netA C)[i]? = some (netA C)[i] := List.getElem?_eq_getElem hi
    unfold tmA
    rw [ha]
    simp only [decide_eq_true_eq]
    rcases net_is ha with ⟨h, e1, e2⟩ | ⟨h, x, y, hr, k, e1, e2⟩
    · rw [e1, e2]
      by_cases t : 2 * i ∈ keysT L
      · by_cases d : 2 * i + 1 ∈ keysT L
        · have nn : ¬ (i < C.n ∧ 2 * i ∈ keysT L ∧ i ∉ X ∧ i ∉ C.wished) := fun z => z.2.2.1 ((mX i).mpr ⟨h, d⟩)
          rw [if_neg nn, if_pos t, if_pos d]
          omega
        · rw [if_pos t, if_neg d]
          have nX : i ∉ X := fun m => d ((mX i).mp m).2
          obtain ⟨nS, nF, r0⟩ := full i h t nX
          have s := fo.sum i hi
          unfold capOf gateCap at s
          rw [if_pos h, if_neg nS, if_neg nF] at s
          by_cases hw : i ∈ C.wished
          · rw [if_pos hw] at s
            have nn : ¬ (i < C.n ∧ 2 * i ∈ keysT L ∧ i ∉ X ∧ i ∉ C.wished) := fun z => z.2.2.2 hw
            rw [if_neg nn]
            omega
          · rw [if_neg hw] at s
            rw [if_pos ⟨h, t, nX, hw⟩]
            omega
      · have nn : ¬ (i < C.n ∧ 2 * i ∈ keysT L ∧ i ∉ X ∧ i ∉ C.wished) := fun z => t z.2.1
        rw [if_neg nn, if_neg t]
        by_cases d : 2 * i + 1 ∈ keysT L
        · rw [if_pos d]
          rcases Nat.eq_zero_or_pos (room.getD (2 * i + 1) 0) with e | e
          · omega
          · have := cl.done _ d (2 * i + 1) (2 * i) (by have := goes_back ha; rwa [e1, e2] at this) e
            exact absurd this t
        · rw [if_neg d]
          omega
    · have nn : ¬ (i < C.n ∧ 2 * i ∈ keysT L ∧ i ∉ X ∧ i ∉ C.wished) := fun z => by omega
      rw [if_neg nn, e1, e2]
      by_cases t : 2 * x + 1 ∈ keysT L
      · rw [if_pos t, if_pos (road_in hr k t)]
        omega
      · rw [if_neg t]
        by_cases d : 2 * y ∈ keysT L
        · rw [if_pos d]
          rcases Nat.eq_zero_or_pos (room.getD (2 * i + 1) 0) with e | e
          · omega
          · have := cl.done _ d (2 * i + 1) (2 * x + 1) (by have := goes_back ha; rwa [e1, e2] at this) e
            exact absurd this t
        · rw [if_neg d]
          omega
  rw [sumOn_congr part, sumOn_count] at bd
  have nxN := up_nodup (those_up C.n fun b => (∃ a ∈ X, (a, b) ∈ C.roads) ∧ (b ∈ C.wished ∨ b ∉ X))
  have nxN : (nextL C X).Nodup := nxN
  have spE := filt_split (fun w => !decide (2 * w ∈ keysT L)) E
  have spN := filt_split (fun b => decide (b ∈ C.wished)) (nextL C X)
  have glen : C.n ≤ (netA C).length := by
    unfold netA
    rw [List.length_append, gates_len]
    omega
  have c1 : ((List.range (netA C).length).filter fun i => decide (i < C.n ∧ 2 * i ∈ keysT L ∧ i ∉ X ∧ i ∉ C.wished)).length = ((nextL C X).filter fun b => !decide (b ∈ C.wished)).length := by
    refine nodup_len_eq (List.nodup_range.filter _) (nxN.filter _) fun b => ?_
    rw [List.mem_filter, List.mem_filter, List.mem_range, next_iff, decide_eq_true_eq, Bool.not_eq_true', decide_eq_false_iff_not]
    constructor
    · rintro ⟨_, h1, h2, h3, h4⟩
      exact ⟨⟨h1, h2, .inr h3⟩, h4⟩
    · rintro ⟨⟨h1, h2, h3⟩, h4⟩
      exact ⟨by omega, h1, h2, h3.elim (fun w => absurd w h4) id, h4⟩
  have c2 : (E.filter fun w => !(!decide (2 * w ∈ keysT L))).length = ((nextL C X).filter fun b => decide (b ∈ C.wished)).length := by
    refine nodup_len_eq (fo.nd.filter _) (nxN.filter _) fun b => ?_
    rw [List.mem_filter, List.mem_filter, next_iff, Bool.not_not, decide_eq_true_eq, decide_eq_true_eq]
    constructor
    · rintro ⟨h1, h2⟩
      have w := fo.inE b h1
      exact ⟨⟨ok.inW b w, h2, .inl w⟩, w⟩
    · rintro ⟨⟨_, h2, _⟩, w⟩
      exact ⟨cl.noEnd b w h2, h2⟩
  refine ⟨by rw [← eX]; exact those_up _ _, fun a ha => ((mX a).mp ha).1, sub, inn, free, by omega, fun Y rg fr => ?_⟩
  obtain ⟨h1, h2⟩ := region_out ok lo fo rg fr
  refine ⟨h1, fun e a ha => ?_⟩
  rcases h2 e L cl.tree _ ((mX a).mp ha).2 with ⟨b, hb, e⟩ | ⟨b, e, _⟩
  · have : a = b := by omega
    rw [this]; exact hb
  · omega
end
end Ft

set_option Elab.async false
set_option linter.all false
set_option maxRecDepth 100000
set_option maxHeartbeats 8000000
namespace Ft
open PySem PySem.Spec PyProof.Rows L2
/-- attributes that no class has of itself -/
def Attrs (K : PySem.W.Frag) (ka : Str → Addr) (x : Str) (l : List Str) : Prop := ∀ f ∈ l, NoAttr K (ka x) f
def netFs : List Str := ["chart", "beside", "toward", "rooms", "finish"]
section
variable {P : Program} {w : World} {K : PySem.W.Frag} {mg : Str → Option Value} {base : Heap} {ka : Str → Addr}
/-! ### sides and gates -/
def sp_arriving : Sp := fun vs H Q _ => ∃ a : Nat, vs = [vN a] ∧ a ≤ 1000 ∧ Q (vN (2 * a)) H
theorem cal_arriving (T : Txt mg) (D : Def K mg "arriving" s_arriving) : Cal P w K mg base 1 "arriving" sp_arriving := by
  refine cal_of D sc_arriving (fun _ _ _ _ _ _ us hl => match us, hl with | [_], _ => rfl) (fun vs H Q E h => ?_) (fun f cdv A outer s H vs Q E hr h => ?_)
  · obtain ⟨a, rfl, _⟩ := h
    rfl
  · obtain ⟨a, rfl, ha, q⟩ := h
    refine ⟨_, (pss_one (ps_ret (pe_op op_mul pe_int (pv 0)))), ?_⟩
    refine ⟨_, rfl, _, _, rfl, rfl, .inl ⟨by decide, by decide⟩, ?_⟩
    have e : V.int (2 * (a : Int)) = vN (2 * a) := by unfold vN; congr 1
    show Q (V.int (2 * (a : Int))) H
    rw [e]
    exact q
def sp_leaving : Sp := fun vs H Q _ => ∃ a : Nat, vs = [vN a] ∧ a ≤ 1000 ∧ Q (vN (2 * a + 1)) H
theorem cal_leaving (T : Txt mg) (D : Def K mg "leaving" s_leaving) : Cal P w K mg base 1 "leaving" sp_leaving := by
  refine cal_of D sc_leaving (fun _ _ _ _ _ _ us hl => match us, hl with | [_], _ => rfl) (fun vs H Q E h => ?_) (fun f cdv A outer s H vs Q E hr h => ?_)
  · obtain ⟨a, rfl, _⟩ := h
    rfl
  · obtain ⟨a, rfl, ha, q⟩ := h
    refine ⟨_, (pss_one (ps_ret (pe_op op_add (pe_op op_mul pe_int (pv 0)) pe_int))), ?_⟩
    refine ⟨_, rfl, _, _, rfl, rfl, .inl ⟨by decide, by decide⟩, _, _, rfl, rfl, ?_⟩
    have e : V.int (2 * (a : Int) + 1) = vN (2 * a + 1) := by unfold vN; congr 1
    show Q (V.int (2 * (a : Int) + 1)) H
    rw [e]
    exact q
def sp_gate : Sp := fun vs H Q _ => ∃ a : Nat, vs = [vN a] ∧ a ≤ 1000 ∧ Q (vN (2 * a)) H
theorem cal_gate (T : Txt mg) (D : Def K mg "gate" s_gate) : Cal P w K mg base 1 "gate" sp_gate := by
  refine cal_of D sc_gate (fun _ _ _ _ _ _ us hl => match us, hl with | [_], _ => rfl) (fun vs H Q E h => ?_) (fun f cdv A outer s H vs Q E hr h => ?_)
  · obtain ⟨a, rfl, _⟩ := h
    rfl
  · obtain ⟨a, rfl, ha, q⟩ := h
    refine ⟨_, (pss_one (ps_ret (pe_op op_mul pe_int (pv 0)))), ?_⟩
    refine ⟨_, rfl, _, _, rfl, rfl, .inl ⟨by decide, by decide⟩, ?_⟩
    have e : V.int (2 * (a : Int)) = vN (2 * a) := by unfold vN; congr 1
    show Q (V.int (2 * (a : Int))) H
    rw [e]
    exact q
/-! ### a net, being made -/
structure NetPart (ka : Str → Addr) (H : Hp) (p bl tl rl : Addr) (ls : List Addr) (n : Nat) (A : List Arc) : Prop where
  ob : ∃ dx fs, H p = some (.ins (ka "Net") dx fs) ∧ fs.lookup ("beside" : Str) = some (.ref bl) ∧ fs.lookup ("toward" : Str) = some (.ref tl) ∧ fs.lookup ("rooms" : Str) = some (.ref rl) ∧ fs.lookup ("_join" : Str) = none
  top : H bl = some (.lst (ls.map V.ref))
  len : ls.length = 2 * n
  each : ∀ s l, ls[s]? = some l → H l = some (.lst ((bes s 0 A).map vN))
  tow : H tl = some (.lst ((tow A).map vN))
  rms : H rl = some (.lst ((rms A).map vN))
  nd : (bl :: tl :: rl :: ls).Nodup
theorem NetPart.keep {H H' : Hp} {p bl tl rl : Addr} {ls : List Addr} {n : Nat} {A : List Arc} (s : Same H H') (h : NetPart ka H p bl tl rl ls n A) : NetPart ka H' p bl tl rl ls n A := by
  obtain ⟨dx, fs, e, r⟩ := h.ob
  exact ⟨⟨dx, fs, s _ _ e, r⟩, s _ _ h.top, h.len, fun a l q => s _ _ (h.each a l q), s _ _ h.tow, s _ _ h.rms, h.nd⟩
theorem small_arcs {A : List Arc} (h : A.length ≤ 400) : 2 * A.length + 2 < sizeLine := by rw [sizeLine_eq]; omega
theorem bes_len (s : Nat) : ∀ (i : Nat) (A : List Arc), (bes s i A).length ≤ 2 * A.length
  | _, [] => Nat.le_refl _
  | i, a :: A => by
    unfold bes
    rw [List.length_append, List.length_append, List.length_cons]
    have := bes_len s (i + 1) A
    split <;> split <;> simp <;> omega
def sp_Net__join (K : PySem.W.Frag) (ka : Str → Addr) : Sp := fun vs H Q _ => ∃ (p bl tl rl : Addr) (ls : List Addr) (n : Nat) (A : List Arc) (a b c : Nat), vs = [.ref p, vN a, vN b, vN c] ∧ NetPart ka H p bl tl rl ls n A ∧ a < 2 * n ∧ b < 2 * n ∧ A.length ≤ 400 ∧
  ∀ H', NetPart ka H' p bl tl rl ls n (A ++ [⟨a, b, c⟩]) → Kp (tl :: rl :: ls) H H' → Q .non H'
theorem calm_Net__join (T : Txt mg) (D : DefM K ka "Net" "_join" "Net._join" s_Net__join) (k_Net : Kls K mg ka "Net") (q_Net : Attrs K ka "Net" netFs) : CalM P w K mg base 1 ka "Net" "_join" (sp_Net__join K ka) := by
  refine calm_of D sc_Net__join (fun _ _ _ _ _ _ us hl => match us, hl with | [_, _, _, _], _ => rfl) (fun vs H Q E h => ?_) (fun f cdv A outer s H vs Q E hr h => ?_)
  · obtain ⟨p, bl, tl, rl, ls, n, A, a, b, c, rfl, _⟩ := h
    rfl
  · obtain ⟨p, bl, tl, rl, ls, n, Ar, a, b, c, rfl, hN, ha, hb, few, q⟩ := h
    have hU := hr.units
    obtain ⟨dx, fs, e, lB, lT, lR, lJ⟩ := hN.ob
    have cl := k_Net.cl
    have nB : NoAttr K (ka "Net") "beside" := q_Net _ (by decide)
    have nT : NoAttr K (ka "Net") "toward" := q_Net _ (by decide)
    have nR : NoAttr K (ka "Net") "rooms" := q_Net _ (by decide)
    obtain ⟨nd1, nd2⟩ := List.nodup_cons.mp hN.nd
    obtain ⟨nd3, nd4⟩ := List.nodup_cons.mp nd2
    obtain ⟨nd5, nd6⟩ := List.nodup_cons.mp nd4
    have nbt : bl ≠ tl := fun z => nd1 (by rw [z]; simp)
    have nbr : bl ≠ rl := fun z => nd1 (by rw [z]; simp)
    have ntr : tl ≠ rl := fun z => nd3 (by rw [z]; simp)
    have nbl : ∀ l ∈ ls, l ≠ bl := fun l m z => nd1 (by rw [← z]; simp [m])
    have ntl : ∀ l ∈ ls, l ≠ tl := fun l m z => nd3 (by rw [← z]; simp [m])
    have nrl : ∀ l ∈ ls, l ≠ rl := fun l m z => nd5 (by rw [← z]; exact m)
    obtain ⟨la, hla⟩ : ∃ l, ls[a]? = some l := ⟨_, List.getElem?_eq_getElem (by rw [hN.len]; exact ha)⟩
    obtain ⟨lb, hlb⟩ : ∃ l, ls[b]? = some l := ⟨_, List.getElem?_eq_getElem (by rw [hN.len]; exact hb)⟩
    have mla := List.mem_of_getElem? hla
    have mlb := List.mem_of_getElem? hlb
    have tlen := tow_len Ar
    have rlen := rms_len Ar
    have sm := small_arcs few
    have npl : ∀ {l : Addr} {xs : List V}, H l = some (.lst xs) → p ≠ l := fun h z => by rw [z, h] at e; cases e
    refine ⟨_, (pss_cons (ps_expr (pe_bm PySem.F.plainAttrs_list PySem.F.slot_list_append PySem.F.type_list_append mt_append (pe_ix (show IxR _ (rIxL K) from ix_list) (show PE _ _ (tFld K _ _) from pe_fldD (pv 0)) (pv 1) (fun _ _ => rfl)) (pa_cons (pe_callB (show CallR _ _ (rLenS K) from call_lenS) (by rfl) T.len (by decide +kernel) (pa_cons (show PE _ _ (tFld K _ _) from pe_fldD (pv 0)) pa_nil)) pa_nil)))
      (pss_cons (ps_expr (pe_bm PySem.F.plainAttrs_list PySem.F.slot_list_append PySem.F.type_list_append mt_append (show PE _ _ (tFld K _ _) from pe_fldD (pv 0)) (pa_cons (pv 2) pa_nil)))
      (pss_cons (ps_expr (pe_bm PySem.F.plainAttrs_list PySem.F.slot_list_append PySem.F.type_list_append mt_append (show PE _ _ (tFld K _ _) from pe_fldD (pv 0)) (pa_cons (pv 3) pa_nil)))
      (pss_cons (ps_expr (pe_bm PySem.F.plainAttrs_list PySem.F.slot_list_append PySem.F.type_list_append mt_append (pe_ix (show IxR _ (rIxL K) from ix_list) (show PE _ _ (tFld K _ _) from pe_fldD (pv 0)) (pv 2) (fun _ _ => rfl)) (pa_cons (pe_callB (show CallR _ _ (rLenS K) from call_lenS) (by rfl) T.len (by decide +kernel) (pa_cons (show PE _ _ (tFld K _ _) from pe_fldD (pv 0)) pa_nil)) pa_nil)))
      (pss_cons (ps_expr (pe_bm PySem.F.plainAttrs_list PySem.F.slot_list_append PySem.F.type_list_append mt_append (show PE _ _ (tFld K _ _) from pe_fldD (pv 0)) (pa_cons (pv 1) pa_nil)))
      (pss_one (ps_expr (pe_bm PySem.F.plainAttrs_list PySem.F.slot_list_append PySem.F.type_list_append mt_append (show PE _ _ (tFld K _ _) from pe_fldD (pv 0)) (pa_cons pe_int pa_nil))))))))), ?_⟩
    refine ⟨_, rfl, p, _, dx, fs, _, rfl, e, cl, nB, lB, _, rfl, bl, _, _, _, rfl, rfl, .inl (.inl hN.top), atI_nat (v := V.ref la) (by rw [List.getElem?_map, hla]; rfl), .inl ⟨rfl, _, .inl (.inl (hN.each a la hla))⟩, ?_⟩
    refine ⟨_, rfl, p, _, dx, fs, _, rfl, e, cl, nT, lT, tl, _, rfl, .inl (.inl (.inl hN.tow)), la, _, _, rfl, rfl, hN.each a la hla, by rw [List.length_map]; have := bes_len a 0 Ar; omega, ?_⟩
    generalize eH1 : upd H la _ = H1
    have f1 : ∀ z, z ≠ la → H1 z = H z := fun z nz => by rw [← eH1]; exact upd_ne nz
    have g1 : H1 la = some (.lst ((bes a 0 Ar).map vN ++ [vN (2 * Ar.length)])) := by rw [← eH1, upd_same, List.length_map, tlen]; rfl
    clear eH1
    have e1 : H1 p = some (.ins (ka "Net") dx fs) := by rw [f1 p (npl (hN.each a la hla))]; exact e
    have t1 : H1 tl = some (.lst ((tow Ar).map vN)) := by rw [f1 tl (ntl la mla).symm]; exact hN.tow
    have r1 : H1 rl = some (.lst ((rms Ar).map vN)) := by rw [f1 rl (nrl la mla).symm]; exact hN.rms
    have b1 : H1 bl = some (.lst (ls.map V.ref)) := by rw [f1 bl (nbl la mla).symm]; exact hN.top
    refine ⟨_, rfl, p, _, dx, fs, _, rfl, e1, cl, nT, lT, .inl ⟨rfl, _, .inl (.inl t1)⟩, _, rfl, tl, _, _, rfl, rfl, t1, by rw [List.length_map]; omega, ?_⟩
    generalize eH2 : upd H1 tl _ = H2
    have f2 : ∀ z, z ≠ tl → H2 z = H1 z := fun z nz => by rw [← eH2]; exact upd_ne nz
    have t2 : H2 tl = some (.lst ((tow Ar).map vN ++ [vN b])) := by rw [← eH2]; exact upd_same
    clear eH2
    have e2 : H2 p = some (.ins (ka "Net") dx fs) := by rw [f2 p (npl hN.tow)]; exact e1
    have r2 : H2 rl = some (.lst ((rms Ar).map vN)) := by rw [f2 rl ntr.symm]; exact r1
    have b2 : H2 bl = some (.lst (ls.map V.ref)) := by rw [f2 bl nbt]; exact b1
    have g2 : H2 la = some (.lst ((bes a 0 Ar).map vN ++ [vN (2 * Ar.length)])) := by rw [f2 la (ntl la mla)]; exact g1
    refine ⟨_, rfl, p, _, dx, fs, _, rfl, e2, cl, nR, lR, .inl ⟨rfl, _, .inl (.inl r2)⟩, _, rfl, rl, _, _, rfl, rfl, r2, by rw [List.length_map]; omega, ?_⟩
    generalize eH3 : upd H2 rl _ = H3
    have f3 : ∀ z, z ≠ rl → H3 z = H2 z := fun z nz => by rw [← eH3]; exact upd_ne nz
    have r3 : H3 rl = some (.lst ((rms Ar).map vN ++ [vN c])) := by rw [← eH3]; exact upd_same
    clear eH3
    have e3 : H3 p = some (.ins (ka "Net") dx fs) := by rw [f3 p (npl hN.rms)]; exact e2
    have t3 : H3 tl = some (.lst ((tow Ar).map vN ++ [vN b])) := by rw [f3 tl ntr]; exact t2
    have b3 : H3 bl = some (.lst (ls.map V.ref)) := by rw [f3 bl nbr]; exact b2
    have g3 : H3 la = some (.lst ((bes a 0 Ar).map vN ++ [vN (2 * Ar.length)])) := by rw [f3 la (nrl la mla)]; exact g2
    have l3 : H3 lb = some (.lst ((bes b 0 Ar).map vN ++ (if a = b then [vN (2 * Ar.length)] else []))) := by
      by_cases h : a = b
      · subst h
        have : lb = la := Option.some.inj (hlb.symm.trans hla)
        subst this
        rw [if_pos rfl]
        exact g3
      · have nl : lb ≠ la := fun z => h ((List.getElem?_inj (by rw [hN.len]; exact ha) nd6).mp (by rw [hla, hlb, z]))
        rw [if_neg h, List.append_nil, f3 lb (nrl lb mlb), f2 lb (ntl lb mlb), f1 lb nl]
        exact hN.each b lb hlb
    refine ⟨_, rfl, p, _, dx, fs, _, rfl, e3, cl, nB, lB, _, rfl, bl, _, _, _, rfl, rfl, .inl (.inl b3), atI_nat (v := V.ref lb) (by rw [List.getElem?_map, hlb]; rfl), .inl ⟨rfl, _, .inl (.inl l3)⟩, ?_⟩
    refine ⟨_, rfl, p, _, dx, fs, _, rfl, e3, cl, nT, lT, tl, _, rfl, .inl (.inl (.inl t3)), lb, _, _, rfl, rfl, l3, by rw [List.length_append, List.length_map]; have := bes_len b 0 Ar; split <;> simp <;> omega, ?_⟩
    generalize eH4 : upd H3 lb _ = H4
    have f4 : ∀ z, z ≠ lb → H4 z = H3 z := fun z nz => by rw [← eH4]; exact upd_ne nz
    have g4 : H4 lb = some (.lst (((bes b 0 Ar).map vN ++ (if a = b then [vN (2 * Ar.length)] else [])) ++ [vN (2 * Ar.length + 1)])) := by rw [← eH4, upd_same, List.length_append, List.length_map, tlen]; rfl
    clear eH4
    have e4 : H4 p = some (.ins (ka "Net") dx fs) := by rw [f4 p (npl (hN.each b lb hlb))]; exact e3
    have t4 : H4 tl = some (.lst ((tow Ar).map vN ++ [vN b])) := by rw [f4 tl (ntl lb mlb).symm]; exact t3
    have r4 : H4 rl = some (.lst ((rms Ar).map vN ++ [vN c])) := by rw [f4 rl (nrl lb mlb).symm]; exact r3
    have b4 : H4 bl = some (.lst (ls.map V.ref)) := by rw [f4 bl (nbl lb mlb).symm]; exact b3
    refine ⟨_, rfl, p, _, dx, fs, _, rfl, e4, cl, nT, lT, .inl ⟨rfl, _, .inl (.inl t4)⟩, _, rfl, tl, _, _, rfl, rfl, t4, by rw [List.length_append, List.length_map]; simp; omega, ?_⟩
    generalize eH5 : upd H4 tl _ = H5
    have f5 : ∀ z, z ≠ tl → H5 z = H4 z := fun z nz => by rw [← eH5]; exact upd_ne nz
    have t5 : H5 tl = some (.lst (((tow Ar).map vN ++ [vN b]) ++ [vN a])) := by rw [← eH5]; exact upd_same
    clear eH5
    have e5 : H5 p = some (.ins (ka "Net") dx fs) := by rw [f5 p (npl hN.tow)]; exact e4
    have r5 : H5 rl = some (.lst ((rms Ar).map vN ++ [vN c])) := by rw [f5 rl ntr.symm]; exact r4
    have b5 : H5 bl = some (.lst (ls.map V.ref)) := by rw [f5 bl nbt]; exact b4
    refine ⟨_, rfl, p, _, dx, fs, _, rfl, e5, cl, nR, lR, .inl ⟨rfl, _, .inl (.inl r5)⟩, rl, _, _, rfl, rfl, r5, by rw [List.length_append, List.length_map]; simp; omega, ?_⟩
    generalize eH6 : upd H5 rl _ = H6
    have f6 : ∀ z, z ≠ rl → H6 z = H5 z := fun z nz => by rw [← eH6]; exact upd_ne nz
    have r6 : H6 rl = some (.lst (((rms Ar).map vN ++ [vN c]) ++ [vN 0])) := by rw [← eH6]; exact upd_same
    clear eH6
    refine q H6 ⟨⟨dx, fs, by rw [f6 p (npl hN.rms)]; exact e5, lB, lT, lR, lJ⟩, by rw [f6 bl nbr]; exact b5, hN.len, fun s l hs => ?_, ?_, ?_, hN.nd⟩ fun z o nz ez => ?_
    · have ml := List.mem_of_getElem? hs
      have up : ∀ z, z ∈ ls → H6 z = H4 z := fun z mz => by rw [f6 z (nrl z mz), f5 z (ntl z mz)]
      rw [up l ml, bes_app, List.map_append, List.map_append, Nat.zero_add]
      by_cases h : b = s
      · subst h
        have : l = lb := Option.some.inj (hs.symm.trans hlb)
        subst this
        rw [g4, if_pos rfl]
        by_cases h2 : a = b
        · rw [if_pos h2, if_pos h2, List.append_assoc]
          rfl
        · rw [if_neg h2, if_neg h2, List.append_nil]
          rfl
      · rw [if_neg h]
        have nl : l ≠ lb := fun z => h ((List.getElem?_inj (by rw [hN.len]; exact hb) nd6).mp (by rw [hlb, hs, z]))
        rw [f4 l nl, f3 l (nrl l ml), f2 l (ntl l ml)]
        by_cases h2 : a = s
        · subst h2
          have : l = la := Option.some.inj (hs.symm.trans hla)
          subst this
          rw [g1, if_pos rfl]
          simp
        · have nl2 : l ≠ la := fun z => h2 ((List.getElem?_inj (by rw [hN.len]; exact ha) nd6).mp (by rw [hla, hs, z]))
          rw [f1 l nl2, hN.each s l hs, if_neg h2]
          simp
    · rw [f6 tl ntr, t5, tow_app, List.map_append, List.append_assoc]
      rfl
    · rw [r6, rms_app, List.map_append, List.append_assoc]
      rfl
    · have h1 : z ≠ tl := fun y => nz (by rw [y]; simp)
      have h2 : z ≠ rl := fun y => nz (by rw [y]; simp)
      have h3 : z ∉ ls := fun m => nz (by simp [m])
      rw [f6 z h2, f5 z h1, f4 z (fun y => h3 (y ▸ mlb)), f3 z h2, f2 z h1, f1 z (fun y => h3 (y ▸ mla))]
      exact ez
end
end Ft

set_option Elab.async false
set_option linter.all false
set_option maxRecDepth 100000
set_option maxHeartbeats 8000000
namespace Ft
open PySem PySem.Spec PyProof.Rows L2
theorem setA_at {look : Str → Option V} {f : Str} {v : V} : setA look f v f = some v := if_pos rfl
theorem setA_off {look : Str → Option V} {f g : Str} {v : V} (h : g ≠ f) : setA look f v g = look g := if_neg h
/-- a net as it stands -/
structure NetAt (ka : Str → Addr) (H : Hp) (p c : Addr) (C : Chart) (bl tl rl fl : Addr) (ls : List Addr) : Prop where
  ob : ∃ dx fs, H p = some (.ins (ka "Net") dx fs) ∧ fs.lookup ("chart" : Str) = some (.ref c) ∧ fs.lookup ("beside" : Str) = some (.ref bl) ∧ fs.lookup ("toward" : Str) = some (.ref tl) ∧ fs.lookup ("rooms" : Str) = some (.ref rl) ∧ fs.lookup ("finish" : Str) = some (.ref fl)
  top : H bl = some (.lst (ls.map V.ref))
  len : ls.length = 2 * C.n
  each : ∀ s l, ls[s]? = some l → H l = some (.lst ((bes s 0 (netA C)).map vN))
  tow : H tl = some (.lst ((tow (netA C)).map vN))
  rms : H rl = some (.lst ((rms (netA C)).map vN))
  fin : H fl = some (.dK (keysOf (twos C.wished)))
theorem NetAt.same {ka : Str → Addr} {H H' : Hp} {p c : Addr} {C : Chart} {bl tl rl fl : Addr} {ls : List Addr} (s : Same H H') (h : NetAt ka H p c C bl tl rl fl ls) : NetAt ka H' p c C bl tl rl fl ls := by
  obtain ⟨dx, fs, e, r⟩ := h.ob
  exact ⟨⟨dx, fs, s _ _ e, r⟩, s _ _ h.top, h.len, fun a l q => s _ _ (h.each a l q), s _ _ h.tow, s _ _ h.rms, s _ _ h.fin⟩
def gatesN (C : Chart) (i : Nat) : List Arc := (List.range i).map fun a => ⟨2 * a, 2 * a + 1, if a ∈ C.wished then 0 else 1⟩
theorem gatesN_more (C : Chart) (i : Nat) : gatesN C (i + 1) = gatesN C i ++ [⟨2 * i, 2 * i + 1, if i ∈ C.wished then 0 else 1⟩] := by
  unfold gatesN
  rw [List.range_succ, List.map_append]
  rfl
theorem gatesN_len (C : Chart) (i : Nat) : (gatesN C i).length = i := by unfold gatesN; rw [List.length_map, List.length_range]
def roadsN (C : Chart) (j : Nat) : List Arc := ((C.roads.take j).filter (keepR C)).map fun p => ⟨2 * p.1 + 1, 2 * p.2, 61⟩
theorem roadsN_more {C : Chart} {j : Nat} {p : Nat × Nat} (h : C.roads[j]? = some p) : roadsN C (j + 1) = roadsN C j ++ (if keepR C p = true then [⟨2 * p.1 + 1, 2 * p.2, 61⟩] else []) := by
  unfold roadsN
  rw [take_more h, List.filter_append, List.map_append, List.filter_cons, List.filter_nil]
  congr 1
  split <;> rfl
theorem roadsN_len (C : Chart) (j : Nat) : (roadsN C j).length ≤ C.roads.length := by
  unfold roadsN
  rw [List.length_map]
  have h1 := List.length_filter_le (keepR C) (C.roads.take j)
  rw [List.length_take] at h1
  omega
theorem net_len (C : Chart) : (netA C).length ≤ C.n + C.roads.length := by
  have h := roadsN_len C C.roads.length
  unfold roadsN at h
  rw [List.take_length] at h
  unfold netA
  rw [List.length_append, gates_len]
  exact Nat.add_le_add_left h _
section
variable {P : Program} {w : World} {K : PySem.W.Frag} {mg : Str → Option Value} {base : Heap} {ka : Str → Addr}
def sp_Net___init__ (K : PySem.W.Frag) (ka : Str → Addr) : Sp := fun vs H Q _ => ∃ (p c : Addr) (C : Chart), vs = [.ref p, .ref c] ∧ ObjAt H p (ka "Net") 0 (fun _ => none) ∧ IsChart K H c C ∧ C.Ok ∧
  ∀ H' bl tl rl fl ls, NetAt ka H' p c C bl tl rl fl ls → Kp [p] H H' → Q .non H'
theorem calm_Net___init__ (T : Txt mg) (D : DefM K ka "Net" "__init__" "Net.__init__" s_Net___init__) (k_Net : Kls K mg ka "Net") (q_Net : Attrs K ka "Net" netFs) (c_arriving : Cal P w K mg base 1 "arriving" sp_arriving) (c_leaving : Cal P w K mg base 1 "leaving" sp_leaving) (m_MANY : MgI mg "MANY" 61)
    (w_Net__join : CalM P w K mg base 1 ka "Net" "_join" (sp_Net__join K ka)) : CalM P w K mg base 2 ka "Net" "__init__" (sp_Net___init__ K ka) := by
  refine calm_of D sc_Net___init__ (fun _ _ _ _ _ _ us hl => match us, hl with | [_, _], _ => rfl) (fun vs H Q E h => ?_) (fun f cdv A outer s H vs Q E hr h => ?_)
  · obtain ⟨p, c, C, rfl, _⟩ := h
    rfl
  · obtain ⟨p, c, C, rfl, hO, ⟨r, wd, ts, hC⟩, ok, q⟩ := h
    have hu := hu_of hr
    have hU := hr.units
    have n60 := ok.n60
    have m240 := ok.many
    have cl := k_Net.cl
    have nC : NoAttr K (ka "Net") "chart" := q_Net _ (by decide)
    have nB : NoAttr K (ka "Net") "beside" := q_Net _ (by decide)
    have nT : NoAttr K (ka "Net") "toward" := q_Net _ (by decide)
    have nR : NoAttr K (ka "Net") "rooms" := q_Net _ (by decide)
    have nF : NoAttr K (ka "Net") "finish" := q_Net _ (by decide)
    refine ⟨_, (pss_cons (ps_fld (pv 0) (pv 1) rfl)
      (pss_cons (ps_fld (pv 0) (pe_lc (own := [("_", 5)]) rfl sc_Net___init__.nd (pi_range1 (by rfl) T.range (pa_cons (pe_op op_mul pe_int (pe_ix (show IxR _ (rIxT K) from ix_tup) (pv 1) pe_int (fun _ _ => rfl))) pa_nil)) (blkOk_by (N := ["self", "chart", "place", "a", "b", "_"]) (sc := L2.defScope s_Net___init__) (by decide +kernel)) (fun _ _ _ _ _ => (pg_name (i := 5) sc_Net___init__.nd rfl (Or.inl rfl))) (fun _ _ _ _ _ => pts_nil) (fun _ _ _ _ _ => (pe_lst pa_nil))) rfl)
      (pss_cons (ps_fld (pv 0) (pe_lst pa_nil) rfl)
      (pss_cons (ps_fld (pv 0) (pe_lst pa_nil) rfl)
      (pss_cons (ps_fld (pv 0) (pe_dc (own := [("place", 2)]) rfl sc_Net___init__.nd (show PI _ _ _ (iTup K _) from pi_tup (pe_ix (show IxR _ (rIxT K) from ix_tup) (pv 1) pe_int (fun _ _ => rfl))) (blkOk_by (N := ["self", "chart", "place", "a", "b", "_"]) (sc := L2.defScope s_Net___init__) (by decide +kernel)) (fun _ _ _ _ _ => (pg_name (i := 2) sc_Net___init__.nd rfl (Or.inl rfl))) (fun _ _ _ _ _ => pts_nil) (fun _ _ _ _ _ => (pe_c c_arriving hr (by decide) (by rfl) (pa_cons (pv 2) pa_nil))) (fun _ _ _ _ _ => pe_bl)) rfl)
      (pss_cons (ps_for PassesOwn.never rfl (pi_range1 (by rfl) T.range (pa_cons (pe_ix (show IxR _ (rIxT K) from ix_tup) (pv 1) pe_int (fun _ _ => rfl)) pa_nil)) (pg_name (i := 2) sc_Net___init__.nd rfl (Or.inl rfl)) (pss_one (ps_expr (pe_m w_Net__join k_Net hr (by decide) (pv 0) (pa_cons (pe_c c_arriving hr (by decide) (by rfl) (pa_cons (pv 2) pa_nil)) (pa_cons (pe_c c_leaving hr (by decide) (by rfl) (pa_cons (pv 2) pa_nil)) (pa_cons (pe_ifExp (pt_cmp (pc_din hu (pe_c c_arriving hr (by decide) (by rfl) (pa_cons (pv 2) pa_nil)) (show PE _ _ (tFld K _ _) from pe_fldD (pv 0)))) pe_int pe_int) pa_nil)))))))
      (pss_one (ps_for PassesOwn.never rfl (show PI _ _ _ (iTup K _) from pi_tup (pe_ix (show IxR _ (rIxT K) from ix_tup) (pv 1) pe_int (fun _ _ => rfl))) (show PG _ _ (gTup K 2 _) from pg_tup (by rfl) (pgs_cons (pg_name (i := 3) sc_Net___init__.nd rfl (Or.inl rfl)) (pgs_cons (pg_name (i := 4) sc_Net___init__.nd rfl (Or.inl rfl)) pgs_nil))) (pss_one (ps_if (PW.pt (pw_or (pt_cmpR op_ne (pv 3) (pv 4) (nomark _)) (pw_or1 (pt_cmp (pc_din hu (pe_c c_arriving hr (by decide) (by rfl) (pa_cons (pv 4) pa_nil)) (show PE _ _ (tFld K _ _) from pe_fldD (pv 0))))))) (pss_one (ps_expr (pe_m w_Net__join k_Net hr (by decide) (pv 0) (pa_cons (pe_c c_leaving hr (by decide) (by rfl) (pa_cons (pv 3) pa_nil)) (pa_cons (pe_c c_arriving hr (by decide) (by rfl) (pa_cons (pv 4) pa_nil)) (pa_cons (pe_globI (n := 61) rfl m_MANY) pa_nil)))))) pss_nil)))))))))), ?_⟩
    obtain ⟨o0, ep0⟩ := hO.there
    have np : ∀ {z : Addr} {o : HO}, H z = some o → (∀ dx fs, o ≠ .ins (ka "Net") dx fs) → p ≠ z := fun {z o} e1 e2 e3 => by
      obtain ⟨dx, fs, e, _⟩ := hO.ex
      rw [e3, e1] at e
      exact e2 _ _ (Option.some.inj e)
    refine ⟨_, rfl, _, rfl, fld_store hO (by decide) cl nC fun H1 hO1 k1 => ?_⟩
    have hlp : Lists [p] H := fun b hb => by
      rw [List.mem_singleton.mp hb]
      obtain ⟨dx, fs, e, _⟩ := hO.ex
      exact ⟨_, e, (fun _ z => nomatch z), (fun _ _ z => nomatch z)⟩
    have hC1 : ChartAt K H1 c C r wd ts := hC.keep k1 hlp
    have e2n : (2 * (C.n : Int)).toNat = 2 * C.n := by omega
    refine ⟨_, rfl, _, _, _, _, rfl, rfl, hC1.top, rfl, _, _, rfl, rfl, .inl ⟨by decide, by decide⟩, _, rfl, by show -2 ^ 62 ≤ 2 * (C.n : Int); omega, by show 2 * (C.n : Int) < 2 ^ 62; omega, fun bl hbl => ?_⟩
    refine lc_range (lo := 0) (n := (2 * (C.n : Int)).toNat) (fun i H' => ∃ ls : List Addr, ls.length = i ∧ ls.Nodup ∧ Same H1 H' ∧ (∀ l ∈ ls, H1 l = none ∧ l ≠ bl ∧ H' l = some (.lst [])) ∧ H' bl = some (.lst (ls.map V.ref))) ⟨[], rfl, List.nodup_nil, same_upd hbl, (fun l z => nomatch z), upd_same⟩ ?_ ?_
    · rintro i H2 hi ⟨ls, el, nd, s1, all, hD⟩
      refine ⟨rfl, ?_⟩
      refine ⟨Nat.zero_le _, fun z hz => ?_⟩
      have npd : bl ≠ z := ne_of_none hD hz
      have new : ∀ l ∈ ls, l ≠ z := fun l hl => ne_of_none (all l hl).2.2 hz
      refine ⟨_, Eq.trans (upd_ne npd) hD, by rw [List.length_map, el]; exact small1000 (by omega), ls ++ [z], by rw [List.length_append, el]; rfl, ?_, ?_, ?_, ?_⟩
      · rw [List.nodup_append]
        refine ⟨nd, by simp, fun x hx y hy => ?_⟩
        rw [List.mem_singleton.mp hy]
        exact new x hx
      · intro b o e
        have n1 : b ≠ bl := ne_of_none e hbl
        have n2 : b ≠ z := ne_of_none (s1 b o e) hz
        rw [upd_ne n1, upd_ne n2]
        exact s1 b o e
      · intro l hl
        rcases List.mem_append.mp hl with hl | hl
        · obtain ⟨a1, a2, a3⟩ := all l hl
          exact ⟨a1, a2, by rw [upd_ne a2, upd_ne (new l hl)]; exact a3⟩
        · rw [List.mem_singleton.mp hl]
          exact ⟨s1.free hz, npd.symm, by rw [upd_ne npd.symm, upd_same]⟩
      · rw [upd_same, List.map_append]
        rfl
    rintro H2 ⟨ls, el, ndl, s2, all2, hB2⟩
    rw [e2n] at el
    have hO2 := hO1.same s2
    have off : ∀ {z : Addr}, H1 z = none → z ≠ p := fun h e => by
      obtain ⟨o, h2⟩ := hO1.there
      rw [e, h2] at h
      cases h
    have nbl : bl ≠ p := off hbl
    refine ⟨_, rfl, fld_store hO2 (by decide) cl nB fun H3 hO3 k3 => ?_⟩
    have hB3 : H3 bl = some (.lst (ls.map V.ref)) := k3 _ _ (by simpa using nbl) hB2
    have all3 : ∀ l ∈ ls, H3 l = some (.lst []) := fun l hl => k3 _ _ (by simpa using off (all2 l hl).1) (all2 l hl).2.2
    have nls : ∀ l ∈ ls, H1 l = none := fun l hl => (all2 l hl).1
    have nlb : ∀ l ∈ ls, l ≠ bl := fun l hl => (all2 l hl).2.1
    refine ⟨Nat.zero_le _, fun tl htl => ?_⟩
    have ntl0 : ∀ {z : Addr} {o : HO}, H3 z = some o → z ≠ tl := fun e => ne_of_none e htl
    generalize eH4 : upd H3 tl _ = H4
    have s4 : Same H3 H4 := by rw [← eH4]; exact same_upd htl
    have hT4 : H4 tl = some (.lst []) := by rw [← eH4]; exact upd_same
    clear eH4
    obtain ⟨oP3, eP3⟩ := hO3.there
    have ntp : tl ≠ p := (ntl0 eP3).symm
    refine ⟨_, rfl, fld_store (hO3.same s4) (by decide) cl nT fun H5 hO5 k5 => ?_⟩
    have hT5 : H5 tl = some (.lst []) := k5 _ _ (by simpa using ntp) hT4
    have hB5 : H5 bl = some (.lst (ls.map V.ref)) := k5 _ _ (by simpa using nbl) (s4 _ _ hB3)
    have all5 : ∀ l ∈ ls, H5 l = some (.lst []) := fun l hl => k5 _ _ (by simpa using off (nls l hl)) (s4 _ _ (all3 l hl))
    refine ⟨Nat.zero_le _, fun rl hrl => ?_⟩
    generalize eH6 : upd H5 rl _ = H6
    have s6 : Same H5 H6 := by rw [← eH6]; exact same_upd hrl
    have hR6 : H6 rl = some (.lst []) := by rw [← eH6]; exact upd_same
    clear eH6
    obtain ⟨oP5, eP5⟩ := hO5.there
    have nrp : rl ≠ p := (ne_of_none eP5 hrl).symm
    refine ⟨_, rfl, fld_store (hO5.same s6) (by decide) cl nR fun H7 hO7 k7 => ?_⟩
    have hR7 : H7 rl = some (.lst []) := k7 _ _ (by simpa using nrp) hR6
    have hT7 : H7 tl = some (.lst []) := k7 _ _ (by simpa using ntp) (s6 _ _ hT5)
    have hB7 : H7 bl = some (.lst (ls.map V.ref)) := k7 _ _ (by simpa using nbl) (s6 _ _ hB5)
    have all7 : ∀ l ∈ ls, H7 l = some (.lst []) := fun l hl => k7 _ _ (by simpa using off (nls l hl)) (s6 _ _ (all5 l hl))
    have ndA : (bl :: tl :: rl :: ls).Nodup := by
      refine List.nodup_cons.mpr ⟨fun m => ?_, List.nodup_cons.mpr ⟨fun m => ?_, List.nodup_cons.mpr ⟨fun m => ?_, ndl⟩⟩⟩
      · rcases List.mem_cons.mp m with e | m
        · exact ntl0 hB3 e
        · rcases List.mem_cons.mp m with e | m
          · exact ne_of_none hB5 hrl e
          · exact nlb bl m rfl
      · rcases List.mem_cons.mp m with e | m
        · exact ne_of_none hT5 hrl e
        · exact ntl0 (all3 tl m) rfl
      · exact ne_of_none (all5 rl m) hrl rfl
    have k17 : Kp [p] H1 H7 := ((((Kp.of_same s2).trans k3).trans (Kp.of_same s4)).trans k5 |>.trans (Kp.of_same s6)).trans k7
    have k07 := k1.trans k17
    have hC7 : ChartAt K H7 c C r wd ts := hC.keep k07 hlp
    refine ⟨_, rfl, _, _, _, _, rfl, rfl, hC7.top, rfl, wd, rfl, ⟨_, hC7.wis⟩, fun fl hfl => ?_⟩
    have keep7 : ∀ {H' : Hp}, Kp [fl] H7 H' → Same H7 H' := fun {H'} k b o e' => k b o (fun m => by rw [List.mem_singleton.mp m, hfl] at e'; cases e') e'
    refine dc_tup (K := K) (xs := C.wished.map vN) (fun i H' => Kp [fl] H7 H' ∧ H' fl = some (.dK (keysOf (twos (C.wished.take i)))))
      ⟨(fun b o nb e' => by rw [upd_ne (ne_of_none e' hfl)]; exact e'), upd_same⟩ (fun i H' _ ⟨k, _⟩ => Same.sqT (keep7 k) hC7.wis) ?_ ?_
    · rintro i x H8 hx ⟨k8, hF8⟩
      obtain ⟨b, hb, rfl⟩ := get_map hx
      have hbw := List.mem_of_getElem? hb
      have hbn := ok.inW b hbw
      have iw : i < C.wished.length := (List.getElem?_eq_some_iff.mp hb).1
      have lw := up_len ok.upW ok.inW
      refine ⟨rfl, ?_⟩
      refine ⟨_, rfl, b, rfl, by omega, ?_⟩
      refine ⟨_, (Sum.inl ((2 * b : Nat) : Int) : Key), rfl, hF8, by rw [keysOf_len]; unfold twos; rw [List.length_map, List.length_take, sizeLine_eq]; omega, ?_, ?_⟩
      · intro z o nz ez
        rw [upd_ne (fun y => nz (by rw [y]; simp))]
        exact k8 z o nz ez
      · have nb : 2 * b ∉ twos (C.wished.take i) := fun m => by
          have hm := twos_mem.mp m
          obtain ⟨j, hj⟩ := List.getElem?_of_mem hm
          rw [List.getElem?_take] at hj
          split at hj
          · rename_i lt
            have := (List.getElem?_inj (by omega) (up_nodup ok.upW)).mp (hj.trans hb.symm)
            omega
          · cases hj
        rw [upd_same, keysOf_put _ _ nb, take_more hb, twos_app]
    rintro H8 ⟨k8, hF8⟩
    rw [List.length_map, List.take_length] at hF8
    have s8 := keep7 k8
    obtain ⟨oP7, eP7⟩ := hO7.there
    have nfp : fl ≠ p := (ne_of_none eP7 hfl).symm
    refine ⟨_, rfl, fld_store (hO7.same s8) (by decide) cl nF fun H9 hO9 k9 => ?_⟩
    have hF9 : H9 fl = some (.dK (keysOf (twos C.wished))) := k9 _ _ (by simpa using nfp) hF8
    have at9 : ∀ {z : Addr} {o : HO}, z ≠ p → H7 z = some o → H9 z = some o := fun nz e => k9 _ _ (by simpa using nz) (s8 _ _ e)
    have k09 : Kp [p] H H9 := (k07.trans (Kp.of_same s8)).trans k9
    have hC9 : ChartAt K H9 c C r wd ts := hC.keep k09 hlp
    obtain ⟨dx, fs, eP, lk, _⟩ := hO9.ex
    have lCh : fs.lookup ("chart" : Str) = some (.ref c) := by
      rw [lk, setA_off (by decide), setA_off (by decide), setA_off (by decide), setA_off (by decide)]
      exact setA_at
    have lB : fs.lookup ("beside" : Str) = some (.ref bl) := by
      rw [lk, setA_off (by decide), setA_off (by decide), setA_off (by decide)]
      exact setA_at
    have lT : fs.lookup ("toward" : Str) = some (.ref tl) := by
      rw [lk, setA_off (by decide), setA_off (by decide)]
      exact setA_at
    have lR : fs.lookup ("rooms" : Str) = some (.ref rl) := by
      rw [lk, setA_off (by decide)]
      exact setA_at
    have lF : fs.lookup ("finish" : Str) = some (.ref fl) := by
      rw [lk]
      exact setA_at
    have lJ : fs.lookup ("_join" : Str) = none := by
      rw [lk, setA_off (by decide), setA_off (by decide), setA_off (by decide), setA_off (by decide), setA_off (by decide)]
    have hN9 : NetPart ka H9 p bl tl rl ls C.n [] := by
      refine ⟨⟨dx, fs, eP, lB, lT, lR, lJ⟩, at9 nbl hB7, el, fun a l hl => ?_, at9 ntp hT7, at9 nrp hR7, ndA⟩
      have ml := List.mem_of_getElem? hl
      exact at9 (off (nls l ml)) (all7 l ml)
    have k03 : Kp [p] H H3 := (k1.trans (Kp.of_same s2)).trans k3
    have k05 : Kp [p] H H5 := (k03.trans (Kp.of_same s4)).trans k5
    have T0 : H tl = none := kp_free k03 (by simpa using ntp) htl
    have R0 : H rl = none := kp_free k05 (by simpa using nrp) hrl
    have L0 : ∀ l ∈ ls, H l = none := fun l hl => kp_free k1 (by simpa using off (nls l hl)) (nls l hl)
    have new0 : ∀ {z : Addr} {o : HO}, H z = some o → z ∉ tl :: rl :: ls := fun {z o} e m => by
      rcases List.mem_cons.mp m with h | m
      · rw [h, T0] at e; cases e
      · rcases List.mem_cons.mp m with h | m
        · rw [h, R0] at e; cases e
        · rw [L0 z m] at e; cases e
    have l9 : Lists (tl :: rl :: ls) H9 := fun z m => by
      rcases List.mem_cons.mp m with h | m
      · rw [h]; exact ⟨_, hN9.tow, (fun _ z => nomatch z), (fun _ _ z => nomatch z)⟩
      · rcases List.mem_cons.mp m with h | m
        · rw [h]; exact ⟨_, hN9.rms, (fun _ z => nomatch z), (fun _ _ z => nomatch z)⟩
        · obtain ⟨i, hi⟩ := List.getElem?_of_mem m
          exact ⟨_, hN9.each i z hi, (fun _ z => nomatch z), (fun _ _ z => nomatch z)⟩
    have nf : fl ∉ tl :: rl :: ls := fun m => by
      have h : ∃ xs, H9 fl = some (.lst xs) := by
        rcases List.mem_cons.mp m with h | m
        · rw [h]; exact ⟨_, hN9.tow⟩
        · rcases List.mem_cons.mp m with h | m
          · rw [h]; exact ⟨_, hN9.rms⟩
          · obtain ⟨i, hi⟩ := List.getElem?_of_mem m
            exact ⟨_, hN9.each i fl hi⟩
      obtain ⟨xs, h⟩ := h
      rw [hF9] at h
      cases h
    have npk : p ∉ tl :: rl :: ls := fun m => by
      have h : ∃ xs, H9 p = some (.lst xs) := by
        rcases List.mem_cons.mp m with h | m
        · rw [h]; exact ⟨_, hN9.tow⟩
        · rcases List.mem_cons.mp m with h | m
          · rw [h]; exact ⟨_, hN9.rms⟩
          · obtain ⟨i, hi⟩ := List.getElem?_of_mem m
            exact ⟨_, hN9.each i p hi⟩
      obtain ⟨xs, h⟩ := h
      rw [eP] at h
      cases h
    refine ⟨_, rfl, _, _, _, _, rfl, rfl, hC9.top, rfl, _, rfl, by omega, by omega, for_range (lo := 0) (n := C.n) (fun i σ H' => ∃ v2 v3 v4 v5 : Option V, σ = [some (.ref p), some (.ref c), v2, v3, v4, v5] ∧ Kp (tl :: rl :: ls) H9 H' ∧ NetPart ka H' p bl tl rl ls C.n (gatesN C i)) ?_ ?_ ?_⟩
    · exact ⟨_, _, _, _, rfl, Kp.refl _ _, hN9⟩
    · rintro i σ H10 hi ⟨v2, v3, v4, v5, rfl, k10, hN⟩
      have eP' := k10 _ _ npk eP
      have hF' := k10 _ _ nf hF9
      have ei : ([V.int (0 + (i : Int))] : List V) = [vN i] := by rw [Int.zero_add]; rfl
      have lN := gatesN_len C i
      have go : ∀ cp : Nat, (cp = if i ∈ C.wished then 0 else 1) → sp_Net__join K ka [.ref p, vN (2 * i), vN (2 * i + 1), vN cp] H10 (fun v H' => ∃ u2 u3 u4 u5 : Option V, [some (V.ref p), some (.ref c), some (V.int (0 + (i : Int))), v3, v4, v5] = [some (V.ref p), some (.ref c), u2, u3, u4, u5] ∧ Kp (tl :: rl :: ls) H9 H' ∧ NetPart ka H' p bl tl rl ls C.n (gatesN C (i + 1))) E := fun cp ec =>
        ⟨p, bl, tl, rl, ls, C.n, gatesN C i, 2 * i, 2 * i + 1, cp, rfl, hN, by omega, by omega, by omega, fun H' hN' k' => ⟨_, _, _, _, rfl, k10.trans k', by rw [gatesN_more, ← ec]; exact hN'⟩⟩
      refine ⟨_, rfl, p, dx, fs, rfl, eP', lJ, _, rfl, i, ei, by omega, _, rfl, i, ei, by omega, _, rfl, i, ei, by omega, _, rfl, p, _, dx, fs, _, rfl, eP', cl, nF, lF, fl, _, rfl, DGet.k (k := Sum.inl ((2 * i : Nat) : Int)) hF', _, rfl, ?_⟩
      rw [keysOf_val]
      by_cases hw : i ∈ C.wished
      · rw [if_pos (twos_mem.mpr hw)]
        refine iteT ?_
        obtain ⟨p', bl', tl', rl', ls', n', A', a', b', c', e', hh⟩ := go 0 (by rw [if_pos hw])
        exact ⟨p', bl', tl', rl', ls', n', A', a', b', c', e', hh⟩
      · rw [if_neg (fun m => hw (twos_mem.mp m))]
        refine iteF ?_
        obtain ⟨p', bl', tl', rl', ls', n', A', a', b', c', e', hh⟩ := go 1 (by rw [if_neg hw])
        exact ⟨p', bl', tl', rl', ls', n', A', a', b', c', e', hh⟩
    rintro σ H10 ⟨v2, v3, v4, v5, rfl, k10, hN10⟩
    have hC10 : ChartAt K H10 c C r wd ts := hC9.keep k10 l9
    refine ⟨_, rfl, _, _, _, _, rfl, rfl, hC10.top, rfl, r, rfl, ⟨_, hC10.row⟩, for_tup (K := K) (xs := ts.map V.ref) (fun j σ H' => ∃ v3 v4 v5 : Option V, σ = [some (.ref p), some (.ref c), v2, v3, v4, v5] ∧ Kp (tl :: rl :: ls) H9 H' ∧ NetPart ka H' p bl tl rl ls C.n (gatesA C ++ roadsN C j)) ?_ ?_ ?_ ?_⟩
    · refine ⟨_, _, _, rfl, k10, ?_⟩
      have : gatesA C ++ roadsN C 0 = gatesN C C.n := by
        unfold roadsN gatesA gatesN
        simp
      rw [this]
      exact hN10
    · rintro j σ H11 _ ⟨_, _, _, _, k11, _⟩
      exact (hC9.keep k11 l9).row
    · rintro j x σ H11 hx ⟨v3, v4, v5, rfl, k11, hN⟩
      obtain ⟨t, ht, rfl⟩ := get_map hx
      obtain ⟨q0, hq0, pt⟩ := paired_getL hC9.prs ht
      have pt11 : SqT K H11 t [vN q0.1, vN q0.2] := k11.sqT l9 pt
      have inq := ok.inR q0 (List.mem_of_getElem? hq0)
      have eP' := k11 _ _ npk eP
      have hF' := k11 _ _ nf hF9
      have lN : (gatesA C ++ roadsN C j).length ≤ 300 := by
        rw [List.length_append, gates_len]
        have := roadsN_len C j
        omega
      refine ⟨t, _, rfl, pt11, rfl, _, _, rfl, _, _, rfl, rfl, ?_⟩
      have join : keepR C q0 = true → sp_Net__join K ka [.ref p, vN (2 * q0.1 + 1), vN (2 * q0.2), vN 61] H11 (fun v H' => ∃ u3 u4 u5 : Option V, [some (V.ref p), some (.ref c), v2, some (vN q0.1), some (vN q0.2), v5] = [some (V.ref p), some (.ref c), v2, u3, u4, u5] ∧ Kp (tl :: rl :: ls) H9 H' ∧ NetPart ka H' p bl tl rl ls C.n (gatesA C ++ roadsN C (j + 1))) E := fun hk =>
        ⟨p, bl, tl, rl, ls, C.n, gatesA C ++ roadsN C j, 2 * q0.1 + 1, 2 * q0.2, 61, rfl, hN, by omega, by omega, by omega, fun H' hN' k' => ⟨_, _, _, rfl, k11.trans k', by rw [roadsN_more hq0, if_pos hk, ← List.append_assoc]; exact hN'⟩⟩
      have go : keepR C q0 = true → ∀ {R : Prop}, (sp_Net__join K ka [.ref p, vN (2 * q0.1 + 1), vN (2 * q0.2), vN 61] H11 (fun v H' => ∃ u3 u4 u5 : Option V, [some (V.ref p), some (.ref c), v2, some (vN q0.1), some (vN q0.2), v5] = [some (V.ref p), some (.ref c), v2, u3, u4, u5] ∧ Kp (tl :: rl :: ls) H9 H' ∧ NetPart ka H' p bl tl rl ls C.n (gatesA C ++ roadsN C (j + 1))) E → R) → R := fun hk R f => f (join hk)
      refine ⟨_, rfl, _, rfl, rfl, _, rfl, ite_any (fun h1 => ?_) (fun h1 => ?_)⟩
      · have hk : keepR C q0 = true := by
          unfold keepR
          have : q0.1 ≠ q0.2 := fun e => by rw [e] at h1; simp at h1
          simp [this]
        refine ⟨_, rfl, p, dx, fs, rfl, eP', lJ, _, rfl, q0.1, rfl, by omega, _, rfl, q0.2, rfl, by omega, ?_⟩
        exact go hk fun ⟨p', bl', tl', rl', ls', n', A', a', b', c', e', hh⟩ => ⟨p', bl', tl', rl', ls', n', A', a', b', c', e', hh⟩
      · have e12 : q0.1 = q0.2 := by
          have z : V.int (q0.1 : Int) = V.int (q0.2 : Int) := by simpa [vN] using h1
          have := V.int.inj z
          omega
        refine ⟨_, rfl, q0.2, rfl, by omega, _, rfl, p, _, dx, fs, _, rfl, eP', cl, nF, lF, fl, _, rfl, DGet.k (k := Sum.inl ((2 * q0.2 : Nat) : Int)) hF', _, rfl, ?_⟩
        rw [keysOf_val]
        by_cases hw : q0.2 ∈ C.wished
        · rw [if_pos (twos_mem.mpr hw)]
          refine iteT ?_
          have hk : keepR C q0 = true := by
            unfold keepR
            simp [hw]
          refine ⟨_, rfl, p, dx, fs, rfl, eP', lJ, _, rfl, q0.1, rfl, by omega, _, rfl, q0.2, rfl, by omega, ?_⟩
          exact go hk fun ⟨p', bl', tl', rl', ls', n', A', a', b', c', e', hh⟩ => ⟨p', bl', tl', rl', ls', n', A', a', b', c', e', hh⟩
        · rw [if_neg (fun m => hw (twos_mem.mp m))]
          refine iteF ⟨_, _, _, rfl, k11, ?_⟩
          have hk : ¬ keepR C q0 = true := by
            unfold keepR
            simp [hw, e12]
          rw [roadsN_more hq0, if_neg hk, List.append_nil]
          exact hN
    · rintro σ H11 ⟨v3, v4, v5, rfl, k11, hN⟩
      have el' : (ts.map V.ref).length = C.roads.length := by rw [List.length_map]; exact hC9.prs.length
      rw [el'] at hN
      have eN : gatesA C ++ roadsN C C.roads.length = netA C := by
        unfold roadsN netA roadsA
        rw [List.take_length]
      rw [eN] at hN
      refine q H11 bl tl rl fl ls ⟨⟨dx, fs, k11 _ _ npk eP, lCh, lB, lT, lR, lF⟩, hN.top, hN.len, hN.each, hN.tow, hN.rms, k11 _ _ nf hF9⟩ fun z o nz ez => ?_
      exact k11 _ _ (new0 ez) (k09 _ _ nz ez)
end
end Ft

set_option Elab.async false
set_option linter.all false
set_option maxRecDepth 100000
set_option maxHeartbeats 4000000
/-! Plain mathematics: how many roads are left, from each place -/
namespace Ft
/-- the numbers that belong to the places from which a wished place is come to without a trap -/
structure Left (n : Nat) (rs : List (Nat × Nat)) (ws T : List Nat) (L : List (Nat × Nat)) : Prop where
  nd : (L.map (·.1)).Nodup
  lt : ∀ p ∈ L, p.1 < n ∧ p.1 ∉ T
  zero : ∀ b, (b, 0) ∈ L ↔ b ∈ ws ∧ b ∉ T
  succ : ∀ b k, (b, k + 1) ∈ L → b ∉ ws ∧ ∃ c, (b, c) ∈ rs ∧ (c, k) ∈ L
  near : ∀ b c j, (b, c) ∈ rs → b ∉ ws → b ∉ T → (c, j) ∈ L → ∃ k, k ≤ j + 1 ∧ (b, k) ∈ L
/-- .. while they are being found: m rounds are done, those in A came last -/
structure Lefting (n : Nat) (rs : List (Nat × Nat)) (ws T : List Nat) (m : Nat) (L : List (Nat × Nat)) (A : List Nat) : Prop where
  nd : (L.map (·.1)).Nodup
  lt : ∀ p ∈ L, p.1 < n ∧ p.1 ∉ T
  zero : ∀ b, (b, 0) ∈ L ↔ b ∈ ws ∧ b ∉ T
  succ : ∀ b k, (b, k + 1) ∈ L → b ∉ ws ∧ ∃ c, (b, c) ∈ rs ∧ (c, k) ∈ L
  top : ∀ p ∈ L, p.2 ≤ m
  near : ∀ b c j, (b, c) ∈ rs → b ∉ ws → b ∉ T → j < m → (c, j) ∈ L → ∃ k, k ≤ j + 1 ∧ (b, k) ∈ L
  last : ∀ b, b ∈ A ↔ (b, m) ∈ L
theorem key_mem {L : List (Nat × Nat)} {b : Nat} : b ∈ L.map (·.1) ↔ ∃ k, (b, k) ∈ L := by
  rw [List.mem_map]
  exact ⟨fun ⟨⟨x, k⟩, h, e⟩ => ⟨k, by cases e; exact h⟩, fun ⟨k, h⟩ => ⟨(b, k), h, rfl⟩⟩
theorem Lefting.start {n : Nat} {rs : List (Nat × Nat)} {ws T W : List Nat} (inW : ∀ a ∈ ws, a < n) (nd : W.Nodup) (hW : ∀ b, b ∈ W ↔ b ∈ ws ∧ b ∉ T) : Lefting n rs ws T 0 (W.map fun b => (b, 0)) W := by
  have mem : ∀ b k, (b, k) ∈ W.map (fun b => (b, 0)) ↔ b ∈ W ∧ k = 0 := by
    intro b k
    rw [List.mem_map]
    exact ⟨fun ⟨x, h, e⟩ => by cases e; exact ⟨h, rfl⟩, fun ⟨h, e⟩ => ⟨b, h, by rw [e]⟩⟩
  refine ⟨?_, ?_, ?_, ?_, ?_, ?_, ?_⟩
  · rw [List.map_map]
    have : W.map ((fun p : Nat × Nat => p.1) ∘ fun b => (b, 0)) = W := by
      conv => rhs; rw [← List.map_id W]
      rfl
    rw [this]
    exact nd
  · rintro ⟨b, k⟩ h
    have := (hW b).mp ((mem b k).mp h).1
    exact ⟨inW b this.1, this.2⟩
  · intro b
    rw [mem, hW]
    exact ⟨fun h => h.1, fun h => ⟨h, rfl⟩⟩
  · intro b k h
    exact absurd ((mem _ _).mp h).2 (by omega)
  · rintro ⟨b, k⟩ h
    exact Nat.le_of_eq ((mem _ _).mp h).2
  · intro b c j _ _ _ h
    exact absurd h (Nat.not_lt_zero _)
  · intro b
    rw [mem]
    exact ⟨fun h => ⟨h, rfl⟩, fun h => h.1⟩
theorem Lefting.step {n : Nat} {rs : List (Nat × Nat)} {ws T A A' : List Nat} {m : Nat} {L : List (Nat × Nat)} (h : Lefting n rs ws T m L A) (inR : ∀ p ∈ rs, p.1 < n ∧ p.2 < n) (nd : A'.Nodup) (hA : ∀ a, a ∈ A' ↔ (∃ b ∈ A, (a, b) ∈ rs) ∧ a ∉ ws ∧ a ∉ T ∧ a ∉ L.map (·.1)) :
    Lefting n rs ws T (m + 1) (L ++ A'.map fun a => (a, m + 1)) A' := by
  have mem : ∀ b k, (b, k) ∈ A'.map (fun a => (a, m + 1)) ↔ b ∈ A' ∧ k = m + 1 := by
    intro b k
    rw [List.mem_map]
    exact ⟨fun ⟨x, h, e⟩ => by cases e; exact ⟨h, rfl⟩, fun ⟨h, e⟩ => ⟨b, h, by rw [e]⟩⟩
  refine ⟨?_, ?_, ?_, ?_, ?_, ?_, ?_⟩
  · rw [List.map_append, List.map_map]
    have : A'.map ((fun p : Nat × Nat => p.1) ∘ fun a => (a, m + 1)) = A' := by
      conv => rhs; rw [← List.map_id A']
      rfl
    rw [this, List.nodup_append]
    exact ⟨h.nd, nd, fun x hx y hy e => ((hA y).mp hy).2.2.2 (e ▸ hx)⟩
  · rintro ⟨b, k⟩ hb
    rcases List.mem_append.mp hb with hb | hb
    · exact h.lt _ hb
    · obtain ⟨⟨c, _, hr⟩, _, ht, _⟩ := (hA b).mp ((mem b k).mp hb).1
      exact ⟨(inR _ hr).1, ht⟩
  · intro b
    rw [List.mem_append, mem, ← h.zero b]
    exact ⟨fun q => q.elim id fun q => absurd q.2 (by omega), .inl⟩
  · intro b k hb
    rcases List.mem_append.mp hb with hb | hb
    · obtain ⟨h1, c, h2, h3⟩ := h.succ b k hb
      exact ⟨h1, c, h2, List.mem_append_left _ h3⟩
    · obtain ⟨hm, e⟩ := (mem _ _).mp hb
      obtain ⟨⟨c, hc, hr⟩, hw, _⟩ := (hA b).mp hm
      have ek : k = m := by omega
      rw [ek]
      exact ⟨hw, c, hr, List.mem_append_left _ ((h.last c).mp hc)⟩
  · rintro ⟨b, k⟩ hb
    rcases List.mem_append.mp hb with hb | hb
    · exact Nat.le_succ_of_le (h.top _ hb)
    · exact Nat.le_of_eq ((mem _ _).mp hb).2
  · intro b c j hr hw ht hj hc
    have hc' : (c, j) ∈ L := by
      rcases List.mem_append.mp hc with hc | hc
      · exact hc
      · exact absurd ((mem _ _).mp hc).2 (by omega)
    by_cases e : j = m
    · by_cases hk : b ∈ L.map (·.1)
      · obtain ⟨k, hk⟩ := key_mem.mp hk
        exact ⟨k, by have : k ≤ m := h.top _ hk; omega, List.mem_append_left _ hk⟩
      · refine ⟨m + 1, by omega, List.mem_append_right _ ((mem _ _).mpr ⟨(hA b).mpr ⟨⟨c, (h.last c).mpr (e ▸ hc'), hr⟩, hw, ht, hk⟩, rfl⟩)⟩
    · obtain ⟨k, h1, h2⟩ := h.near b c j hr hw ht (by omega) hc'
      exact ⟨k, h1, List.mem_append_left _ h2⟩
  · intro b
    rw [List.mem_append, mem]
    constructor
    · intro hb
      exact .inr ⟨hb, rfl⟩
    · rintro (hb | hb)
      · have : m + 1 ≤ m := h.top _ hb
        omega
      · exact hb.1
theorem Lefting.ends {n : Nat} {rs : List (Nat × Nat)} {ws T : List Nat} {m : Nat} {L : List (Nat × Nat)} (h : Lefting n rs ws T m L []) : Left n rs ws T L := by
  refine ⟨h.nd, h.lt, h.zero, h.succ, fun b c j hr hw ht hc => ?_⟩
  have h1 : j ≤ m := h.top _ hc
  by_cases e : j = m
  · exact absurd ((h.last c).mpr (e ▸ hc)) List.not_mem_nil
  · exact h.near b c j hr hw ht (by omega) hc
theorem len_of_lt (l : List Nat) (n : Nat) (nd : l.Nodup) (b : ∀ x ∈ l, x < n) : l.length ≤ n := by
  have := L2.nat_nodup_len l (List.range n) nd fun x hx => List.mem_range.mpr (b x hx)
  rwa [List.length_range] at this
theorem Lefting.len {n : Nat} {rs : List (Nat × Nat)} {ws T A : List Nat} {m : Nat} {L : List (Nat × Nat)} (h : Lefting n rs ws T m L A) : L.length ≤ n := by
  have := len_of_lt (L.map (·.1)) n h.nd fun x hx => by
    obtain ⟨p, hp, rfl⟩ := List.mem_map.mp hx
    exact (h.lt p hp).1
  rwa [List.length_map] at this
theorem Left.one {n : Nat} {rs : List (Nat × Nat)} {ws T : List Nat} {L : List (Nat × Nat)} (h : Left n rs ws T L) {b k j : Nat} (h1 : (b, k) ∈ L) (h2 : (b, j) ∈ L) : k = j := by
  have : ∀ (L : List (Nat × Nat)), (L.map (·.1)).Nodup → (b, k) ∈ L → (b, j) ∈ L → k = j := by
    intro L
    induction L with
    | nil => intro _ z; exact absurd z List.not_mem_nil
    | cons p L ih =>
      intro nd m1 m2
      rw [List.map_cons] at nd
      obtain ⟨n1, n2⟩ := List.nodup_cons.mp nd
      rcases List.mem_cons.mp m1 with e1 | m1
      · rcases List.mem_cons.mp m2 with e2 | m2
        · have := e1.trans e2.symm
          injection this
        · exact absurd (key_mem.mpr ⟨j, m2⟩) (by rw [← e1] at n1; exact n1)
      · rcases List.mem_cons.mp m2 with e2 | m2
        · exact absurd (key_mem.mpr ⟨k, m1⟩) (by rw [← e2] at n1; exact n1)
        · exact ih n2 m1 m2
  exact this L h.nd h1 h2
/-- no number is greater than there are places -/
theorem Left.many {n : Nat} {rs : List (Nat × Nat)} {ws T : List Nat} {L : List (Nat × Nat)} (h : Left n rs ws T L) : ∀ (k b : Nat), (b, k) ∈ L → k < n := by
  have ex : ∀ (k b : Nat), (b, k) ∈ L → ∃ l : List Nat, l.length = k + 1 ∧ l.Nodup ∧ ∀ x ∈ l, ∃ j, j ≤ k ∧ (x, j) ∈ L := by
    intro k
    induction k with
    | zero => exact fun b hb => ⟨[b], rfl, by simp, fun x hx => ⟨0, Nat.le_refl _, by rw [List.mem_singleton.mp hx]; exact hb⟩⟩
    | succ k ih =>
      intro b hb
      obtain ⟨_, c, _, hc⟩ := h.succ b k hb
      obtain ⟨l, h1, h2, h3⟩ := ih c hc
      refine ⟨b :: l, by rw [List.length_cons, h1], List.nodup_cons.mpr ⟨fun m => ?_, h2⟩, fun x hx => ?_⟩
      · obtain ⟨j, hj, hx⟩ := h3 b m
        have := h.one hb hx
        omega
      · rcases List.mem_cons.mp hx with e | hx
        · exact ⟨k + 1, Nat.le_refl _, e ▸ hb⟩
        · obtain ⟨j, hj, hm⟩ := h3 x hx
          exact ⟨j, by omega, hm⟩
  intro k b hb
  obtain ⟨l, h1, h2, h3⟩ := ex k b hb
  have := len_of_lt l n h2 fun x hx => by
    obtain ⟨j, _, hm⟩ := h3 x hx
    exact (h.lt _ hm).1
  omega
end Ft

set_option Elab.async false
set_option linter.all false
set_option maxRecDepth 100000
set_option maxHeartbeats 8000000
namespace Ft
open PySem PySem.Spec PyProof.Rows L2
/-! ### a dict of places, each with a number -/
def lvOf (L : List (Nat × Nat)) : List (Key × V) := L.map fun p => ((Sum.inl (p.1 : Int) : Key), vN p.2)
theorem lvOf_none : ∀ (L : List (Nat × Nat)) (x : Nat), x ∉ L.map (·.1) → valV (lvOf L) (Sum.inl (x : Int) : Key) = none
  | [], _, _ => by simp [lvOf, valV]
  | p :: L, x, h => by
    have ih := lvOf_none L x fun m => h (List.mem_cons_of_mem _ m)
    unfold valV lvOf at ih ⊢
    rw [List.map_cons, List.find?_cons]
    have e : decide (((Sum.inl (p.1 : Int) : Key)) = Sum.inl (x : Int)) = false := by
      refine decide_eq_false fun q => h ?_
      have := Sum.inl.inj q
      have : p.1 = x := by omega
      rw [List.map_cons, ← this]
      exact List.mem_cons_self
    simp only [e]
    exact ih
theorem lvOf_some : ∀ (L : List (Nat × Nat)) (x k : Nat), (L.map (·.1)).Nodup → (x, k) ∈ L → valV (lvOf L) (Sum.inl (x : Int) : Key) = some (vN k)
  | [], _, _, _, h => nomatch h
  | p :: L, x, k, nd, h => by
    rw [List.map_cons] at nd
    obtain ⟨n1, n2⟩ := List.nodup_cons.mp nd
    unfold valV lvOf
    rw [List.map_cons, List.find?_cons]
    rcases List.mem_cons.mp h with e | h
    · rw [← e]
      simp
    · have ih := lvOf_some L x k n2 h
      unfold valV lvOf at ih
      have e : decide (((Sum.inl (p.1 : Int) : Key)) = Sum.inl (x : Int)) = false := by
        refine decide_eq_false fun q => n1 ?_
        have := Sum.inl.inj q
        have : p.1 = x := by omega
        rw [this]
        exact key_mem.mpr ⟨k, h⟩
      simp only [e]
      exact ih
theorem lvOf_put (L : List (Nat × Nat)) (x k : Nat) (h : x ∉ L.map (·.1)) : putK (lvOf L) (Sum.inl (x : Int) : Key) (vN k) = lvOf (L ++ [(x, k)]) := by
  rw [putK_new _ (lvOf_none L x h)]
  unfold lvOf
  rw [List.map_append]
  rfl
theorem lvOf_len (L : List (Nat × Nat)) : (lvOf L).length = L.length := List.length_map ..
/-- the keys of a dict are these places -/
def Keyed (kvs : List (Key × V)) (A : List Nat) : Prop := kvs.map (·.1) = A.map fun (n : Nat) => (Sum.inl (n : Int) : Key)
theorem keyed_val : ∀ {kvs : List (Key × V)} {A : List Nat}, Keyed kvs A → ∀ x : Nat, (valV kvs (Sum.inl (x : Int) : Key)).isSome = decide (x ∈ A)
  | [], [], _, x => by simp [valV]
  | [], _ :: _, h, _ => by simp [Keyed] at h
  | _ :: _, [], h, _ => by simp [Keyed] at h
  | p :: kvs, a :: A, h, x => by
    unfold Keyed at h
    rw [List.map_cons, List.map_cons] at h
    injection h with h1 h2
    have ih := keyed_val (kvs := kvs) (A := A) h2 x
    unfold valV at ih ⊢
    rw [List.find?_cons, h1]
    by_cases e : a = x
    · subst e
      simp
    · have e1 : decide (((Sum.inl (a : Int) : Key)) = Sum.inl (x : Int)) = false := by
        refine decide_eq_false fun q => e ?_
        have := Sum.inl.inj q
        omega
      have hx : x ≠ a := fun q => e q.symm
      simp only [e1, List.mem_cons, hx, false_or]
      exact ih
theorem keyed_keysOf (A : List Nat) : Keyed (keysOf A) A := by
  unfold Keyed keysOf
  rw [List.map_map]
  rfl
theorem keyed_zeros (W : List Nat) : Keyed (lvOf (W.map fun b => (b, 0))) W := by
  unfold Keyed lvOf
  rw [List.map_map, List.map_map]
  rfl
theorem keysOf_again : ∀ (B : List Nat) (x : Nat), x ∈ B → putK (keysOf B) (Sum.inl (x : Int) : Key) (.bl true) = keysOf B := by
  intro B x h
  unfold putK
  rw [if_pos (by
    rw [List.any_eq_true]
    exact ⟨(Sum.inl (x : Int), .bl true), List.mem_map.mpr ⟨x, h, rfl⟩, by simp⟩)]
  conv => rhs; rw [← List.map_id (keysOf B)]
  refine List.map_congr_left fun kv hkv => ?_
  unfold keysOf at hkv
  obtain ⟨y, _, rfl⟩ := List.mem_map.mp hkv
  by_cases e : ((Sum.inl (y : Int) : Key)) = Sum.inl (x : Int)
  · rw [if_pos e]
    rfl
  · rw [if_neg e]
    rfl
/-- how much of the search is left -/
def restOf (n : Nat) (d : Addr) (σ : L2.St) (H : Hp) : Nat := match σ[5]?, H d with
  | some (some (V.ref la)), some (HO.dK kvs) => (n - kvs.length) + (match H la with
    | some (HO.dK (_ :: _)) => 1
    | _ => 0)
  | _, _ => 0
theorem restOf_is {n : Nat} {d la : Addr} {σ : L2.St} {H : Hp} {ks kvs : List (Key × V)} (h0 : σ[5]? = some (some (V.ref la))) (h1 : H d = some (.dK ks)) (h2 : H la = some (.dK kvs)) : restOf n d σ H = (n - ks.length) + (if kvs = [] then 0 else 1) := by
  unfold restOf
  simp only [h0, h1, h2]
  cases kvs with
  | nil => simp
  | cons a b => simp
section
variable {P : Program} {w : World} {K : PySem.W.Frag} {mg : Str → Option Value} {base : Heap} {t1 t2 : Tok}
/-! ### roads_left -/
def sp_roads_left (K : PySem.W.Frag) : Sp := fun vs H Q _ => ∃ (c tr : Addr) (C : Chart) (U : List Nat), vs = [.ref c, .ref tr] ∧ IsChart K H c C ∧ C.Ok ∧ SqT K H tr (U.map vN) ∧ U.length ≤ 1000 ∧
  ∀ d L H', Same H H' → H d = none → H' d = some (.dK (lvOf L)) → Left C.n C.roads C.wished U L → Q (.ref d) H'
end
end Ft

set_option Elab.async false
set_option linter.all false
set_option maxRecDepth 100000
set_option maxHeartbeats 4000000
/-! name = {..: .. for ..} on one line, the name a local one -/
namespace Ft
open PySem PySem.Spec PyProof.Rows L2
theorem sw_trueD {kx vx : Expr} {gs : List Comprehension} {scope : Scope} {pos py : Pos} {y : Str} {l : Nat} {env : Env} (hk : env.scope.kind = .function) (hy : env.scope.names.lookup y = some .local) (hl : (py.line == pos.line) = true) (ha : (scope.names.any fun (n, k) => n == y && (k == .local || k == .cell)) = false) :
    swapsWith (.DictComp kx vx gs scope pos) (some (.Name y py)) l env = pure true := by
  have b : env.blockKind = .function := by unfold Env.blockKind; rw [hk]; rfl
  have k : env.kindOf y = some .local := hy
  unfold swapsWith; simp only [b, k, ha, Expr.pos, hl]; rfl
theorem ps_setDc {X : Cx} {i : Nat} {y : Str} {py pos spos : Pos} {kx vx tg iter : Expr} {ifs : List Expr} {scope : Scope} {own : List (Str × Nat)} {wi : TI} {g : TG} {tt : TT} {tk tv : TE} (hc : X.calm = true) (hN : X.N.Nodup) (hy : X.N[i]? = some y) (hyl : X.env.scope.names.lookup y = some .local)
    (hsw : swapsWith (.DictComp kx vx [⟨tg, iter, ifs, 0⟩] scope pos) (some (.Name y py)) spos.line X.env = pure true) (hi : PI X tg iter wi) (ok : BlkOk X.N X.env.scope scope own)
    (pg : ∀ (s : Shared) (H : Hp) (C : Addr) (cl : List (Str × Addr)) (fp : List Addr), PG (X.blk s H scope (compEnvC scope cl C X.env) fp) tg g) (pt : ∀ (s : Shared) (H : Hp) (C : Addr) (cl : List (Str × Addr)) (fp : List Addr), PTs (X.blk s H scope (compEnvC scope cl C X.env) fp) ifs tt)
    (pk : ∀ (s : Shared) (H : Hp) (C : Addr) (cl : List (Str × Addr)) (fp : List Addr), PE (X.blk s H scope (compEnvC scope cl C X.env) fp) kx tk) (pv : ∀ (s : Shared) (H : Hp) (C : Addr) (cl : List (Str × Addr)) (fp : List Addr), PE (X.blk s H scope (compEnvC scope cl C X.env) fp) vx tv)
    (hs : ∀ x, foldedSetIterable iter X.env x = pure x := by intro _; rfl) : PS X (.Assign [.Name y py] (.DictComp kx vx [⟨tg, iter, ifs, 0⟩] scope pos) spos) (tAsg (tDc wi g tt tk tv (own.map (·.2))) (gName i)) := by
  refine ⟨fun pins s σ H D I h => ?_⟩
  rw [exec_Assign_Name_used _ _ _ _ hsw]
  refine wpAny_bind (wpAny_standAt (wpAny_bind (show wpAny _ X.A (do let _ ← comprehension (.DictComp kx vx [⟨tg, iter, ifs, 0⟩] scope pos) scope X.env (firstIterPos [⟨tg, iter, ifs, 0⟩] pos) newDict false (eval iter X.env) (some (assign (.Name y py) X.env))) _ _ s from ?_)))
  refine wpAny_bind (thn (dc_core (Qf := fun _ s' => SP X pins D .next s') hc hN I hi ok pg pt pk pv hs (show tDc wi g tt tk tv (own.map (·.2)) σ H (fun x H1 => gName i x σ H1 D.nx) from h) fun L C s' m H' I' q hn f => ?_) fun _ s' hq => wpAny_pure (wpAny_pure hq))
  refine (show wpAny _ _ (assign (.Name y py) X.env (.ref L)) _ _ _ from wpAny_assign_Name (store_ok2 (v := V.ref L) I' hN hy (.inl hyl) rfl (fun s2 I2 ⟨a, sb, at_⟩ => ?_) (.inr hyl)))
  obtain ⟨f0, f1, f2, f3, f4, f5⟩ := f
  have ne : C ≠ a := at_.elim (fun z => by rw [z]; exact f1) fun z e => f4 y a z e.symm
  exact ⟨m, hn.sameBut sb ne, fun h3 sb3 => ⟨_, H', I2.turned (t' := s2.toks) (fun b o hb e => (sb3.2 b hb).trans e) f0 f1 f3 f4 f5, q⟩⟩
end Ft

set_option Elab.async false
set_option linter.all false
set_option maxRecDepth 100000
set_option maxHeartbeats 8000000
namespace Ft
open PySem PySem.Spec PyProof.Rows L2
def flowFs : List Str := ["net", "lot", "room", "ended", "came"]
def flowMs : List Str := ["many", "near", "far", "ways", "_fill", "_further_end", "_add_way", "_sides_before_ends", "_way_to", "_place_before"]
/-- a flow as it stands, but for what its lists hold -/
structure FlowOb (ka : Str → Addr) (H : Hp) (f nt lo rm en : Addr) (cv : V) : Prop where
  ex : ∃ dx fs, H f = some (.ins (ka "Flow") dx fs) ∧ fs.lookup ("net" : Str) = some (.ref nt) ∧ fs.lookup ("lot" : Str) = some (.ref lo) ∧ fs.lookup ("room" : Str) = some (.ref rm) ∧ fs.lookup ("ended" : Str) = some (.ref en) ∧ fs.lookup ("came" : Str) = some cv ∧ (∀ m ∈ flowMs, fs.lookup m = none) ∧ fs.length < 900
theorem FlowOb.keep {ka : Str → Addr} {H H' : Hp} {f nt lo rm en : Addr} {cv : V} (h : FlowOb ka H f nt lo rm en cv) (e : H' f = H f) : FlowOb ka H' f nt lo rm en cv := by
  obtain ⟨dx, fs, e1, r⟩ := h.ex
  exact ⟨dx, fs, by rw [e]; exact e1, r⟩
theorem FlowOb.same {ka : Str → Addr} {H H' : Hp} {f nt lo rm en : Addr} {cv : V} (s : Same H H') (h : FlowOb ka H f nt lo rm en cv) : FlowOb ka H' f nt lo rm en cv := by
  obtain ⟨dx, fs, e1, r⟩ := h.ex
  exact ⟨dx, fs, s _ _ e1, r⟩
theorem FlowOb.kp {ka : Str → Addr} {ex : List Addr} {H H' : Hp} {f nt lo rm en : Addr} {cv : V} (k : Kp ex H H') (n : f ∉ ex) (h : FlowOb ka H f nt lo rm en cv) : FlowOb ka H' f nt lo rm en cv := by
  obtain ⟨dx, fs, e1, r⟩ := h.ex
  exact ⟨dx, fs, k _ _ n e1, r⟩
/-- .. with another dict of what came -/
theorem FlowOb.came {ka : Str → Addr} {H : Hp} {f nt lo rm en : Addr} {cv : V} (h : FlowOb ka H f nt lo rm en cv) {dx : Addr} {fs : List (Str × V)} (e : H f = some (.ins (ka "Flow") dx fs)) (v : V) : FlowOb ka (upd H f (.ins (ka "Flow") dx (putF "came" v fs))) f nt lo rm en v := by
  obtain ⟨dx', fs', e1, l1, l2, l3, l4, l5, l6, l7⟩ := h.ex
  rw [e] at e1
  cases e1
  refine ⟨dx, _, upd_same, ?_, ?_, ?_, ?_, ?_, fun m hm => ?_, ?_⟩
  · rw [lookup_putF, if_neg (by decide)]; exact l1
  · rw [lookup_putF, if_neg (by decide)]; exact l2
  · rw [lookup_putF, if_neg (by decide)]; exact l3
  · rw [lookup_putF, if_neg (by decide)]; exact l4
  · rw [lookup_putF, if_pos rfl]
  · have : m ≠ "came" := fun z => by rw [z] at hm; revert hm; decide
    rw [lookup_putF, if_neg this]
    exact l6 m hm
  · rw [putF_len_in l5]
    exact l7
def cameD (L : List (Nat × Option Nat)) : List (Key × V) := L.map fun e => ((Sum.inl (e.1 : Int) : Key), match e.2 with
  | none => V.non
  | some p => vN p)
theorem cameD_keyed (L : List (Nat × Option Nat)) : Keyed (cameD L) (keysT L) := by
  unfold Keyed cameD keysT
  rw [List.map_map, List.map_map]
  rfl
theorem cameD_len (L : List (Nat × Option Nat)) : (cameD L).length = L.length := List.length_map ..
theorem cameD_val (L : List (Nat × Option Nat)) (x : Nat) : (valV (cameD L) (Sum.inl (x : Int) : Key)).isSome = decide (x ∈ keysT L) := keyed_val (cameD_keyed L) x
theorem cameD_put (L : List (Nat × Option Nat)) (x : Nat) (o : Option Nat) (h : x ∉ keysT L) : putK (cameD L) (Sum.inl (x : Int) : Key) (match o with | none => V.non | some p => vN p) = cameD (L ++ [(x, o)]) := by
  have hv : valV (cameD L) (Sum.inl (x : Int) : Key) = none := by
    have := cameD_val L x
    rw [decide_eq_false h] at this
    cases e : valV (cameD L) (Sum.inl (x : Int) : Key) with
    | none => rfl
    | some v => rw [e] at this; cases this
  rw [putK_new _ hv]
  unfold cameD
  rw [List.map_append]
  rfl
theorem cameD_get : ∀ {L : List (Nat × Option Nat)} {x : Nat} {o : Option Nat}, (keysT L).Nodup → (x, o) ∈ L → valV (cameD L) (Sum.inl (x : Int) : Key) = some (match o with | none => V.non | some p => vN p)
  | [], _, _, _, h => nomatch h
  | e :: L, x, o, nd, h => by
    obtain ⟨n1, n2⟩ := List.nodup_cons.mp (show (e.1 :: keysT L).Nodup from nd)
    unfold valV cameD
    rw [List.map_cons, List.find?_cons]
    rcases List.mem_cons.mp h with q | h
    · subst q
      simp
    · have ih := cameD_get n2 h
      unfold valV cameD at ih
      have : decide (((Sum.inl (e.1 : Int) : Key)) = Sum.inl (x : Int)) = false := by
        refine decide_eq_false fun q => n1 ?_
        have := Sum.inl.inj q
        have : e.1 = x := by omega
        rw [this]
        exact List.mem_map.mpr ⟨_, h, rfl⟩
      simp only [this]
      exact ih
/-- what a look for one more end finds -/
inductive Found (C : Chart) (S room E : List Nat) : V → List (Nat × Option Nat) → Prop
  | none {L : List (Nat × Option Nat)} : Closed C S room E L → Found C S room E .non L
  | some {L : List (Nat × Option Nat)} {w : Nat} : Tree (netA C) room (srcs S) L → 2 * w ∈ keysT L → w ∈ C.wished → w ∉ E → Found C S room E (vN (2 * w)) L
/-- while it looks -/
structure Looking (C : Chart) (S room E : List Nat) (L : List (Nat × Option Nat)) (W : List Nat) (busy : Nat → Prop) : Prop where
  tree : Tree (netA C) room (srcs S) L
  src : ∀ a ∈ S, 2 * a + 1 ∈ keysT L
  wait : ∀ u ∈ W, u ∈ keysT L
  done : ∀ u ∈ keysT L, u ∉ W → ¬ busy u → ∀ p v, Goes (netA C) p u v → 0 < room.getD p 0 → v ∈ keysT L
  noEnd : ∀ w ∈ C.wished, 2 * w ∈ keysT L → w ∈ E
theorem key_lt {C : Chart} {S room : List Nat} {L : List (Nat × Option Nat)} (ok : C.Ok) (inS : ∀ a ∈ S, a < C.n) (t : Tree (netA C) room (srcs S) L) : ∀ v ∈ keysT L, v < 2 * C.n :=
  t.all (fun v hv => by
    obtain ⟨a, ha, rfl⟩ := srcs_mem.mp hv
    have := inS a ha
    omega) fun p u v g _ _ => by
    obtain ⟨i, a, ha, ⟨_, _, e⟩ | ⟨_, _, e⟩⟩ := goes_is g
    · rw [e]; exact (net_lt ok a (List.mem_of_getElem? ha)).2
    · rw [e]; exact (net_lt ok a (List.mem_of_getElem? ha)).1
theorem tree_len {C : Chart} {S room : List Nat} {L : List (Nat × Option Nat)} (ok : C.Ok) (inS : ∀ a ∈ S, a < C.n) (t : Tree (netA C) room (srcs S) L) : L.length ≤ 2 * C.n := by
  have := len_of_lt (keysT L) (2 * C.n) t.nd (key_lt ok inS t)
  unfold keysT at this
  rwa [List.length_map] at this
section
variable {P : Program} {w : World} {K : PySem.W.Frag} {mg : Str → Option Value} {base : Heap} {ka : Str → Addr}
def sp_Flow__further_end (K : PySem.W.Frag) (ka : Str → Addr) : Sp := fun vs H Q _ => ∃ (f nt lo rm en c bl tl rl fl : Addr) (ls : List Addr) (cv : V) (C : Chart) (S room E : List Nat), vs = [.ref f] ∧ nt ≠ f ∧ FlowOb ka H f nt lo rm en cv ∧ NetAt ka H nt c C bl tl rl fl ls ∧ C.Ok ∧ SqT K H lo (S.map vN) ∧ S.Nodup ∧ (∀ a ∈ S, a < C.n) ∧
  H rm = some (.lst (room.map vN)) ∧ room.length = 2 * (netA C).length ∧ H en = some (.dK (keysOf (twos E))) ∧ ∀ (v : V) (cm : Addr) (L : List (Nat × Option Nat)) (H' : Hp), H cm = none → H' cm = some (.dK (cameD L)) → FlowOb ka H' f nt lo rm en (.ref cm) → Kp [f] H H' → Found C S room E v L → Q v H'
theorem calm_Flow__further_end (T : Txt mg) (D : DefM K ka "Flow" "_further_end" "Flow._further_end" s_Flow__further_end) (k_Net : Kls K mg ka "Net") (q_Net : Attrs K ka "Net" netFs) (k_Flow : Kls K mg ka "Flow") (q_Flow : Attrs K ka "Flow" flowFs) (c_leaving : Cal P w K mg base 1 "leaving" sp_leaving) :
    CalM P w K mg base 2 ka "Flow" "_further_end" (sp_Flow__further_end K ka) := by
  refine calm_of D sc_Flow__further_end (fun _ _ _ _ _ _ us hl => match us, hl with | [_], _ => rfl) (fun vs H Q E h => ?_) (fun f cdv A outer s H vs Q E hr h => ?_)
  · obtain ⟨f, nt, lo, rm, en, c, bl, tl, rl, fl, ls, cv, C, S, room, E, rfl, _⟩ := h
    rfl
  · obtain ⟨f, nt, lo, rm, en, c, bl, tl, rl, fl, ls, cv, C, S, room, Ed, rfl, nN, hO, hN, ok, hS, ndS, inS, hRm, lRm, hEn, q⟩ := h
    have hu := hu_of hr
    have hU := hr.units
    have n60 := ok.n60
    have cN := k_Net.cl
    have cF := k_Flow.cl
    have aNet : NoAttr K (ka "Flow") "net" := q_Flow _ (by decide)
    have aLot : NoAttr K (ka "Flow") "lot" := q_Flow _ (by decide)
    have aRoom : NoAttr K (ka "Flow") "room" := q_Flow _ (by decide)
    have aEnd : NoAttr K (ka "Flow") "ended" := q_Flow _ (by decide)
    have aCame : NoAttr K (ka "Flow") "came" := q_Flow _ (by decide)
    have aB : NoAttr K (ka "Net") "beside" := q_Net _ (by decide)
    have aT : NoAttr K (ka "Net") "toward" := q_Net _ (by decide)
    have aF : NoAttr K (ka "Net") "finish" := q_Net _ (by decide)
    have lS := len_of_lt S C.n ndS inS
    refine ⟨_, (pss_cons (ps_set (i := 1) sc_Flow__further_end.nd rfl (Or.inl rfl) (show PE _ _ (tFld K _ _) from pe_fldD (pv 0)))
      (pss_cons (ps_setDc (i := 2) (own := [("place", 7)]) rfl sc_Flow__further_end.nd rfl rfl (sw_trueD rfl rfl rfl (by decide +kernel)) (show PI _ _ _ (iTup K _) from pi_tup (show PE _ _ (tFld K _ _) from pe_fldD (pv 0))) (blkOk_by (N := ["self", "net", "came", "waiting", "side", "path", "other", "place"]) (sc := L2.defScope s_Flow__further_end) (by decide +kernel)) (fun _ _ _ _ _ => (pg_name (i := 7) sc_Flow__further_end.nd rfl (Or.inl rfl))) (fun _ _ _ _ _ => pts_nil) (fun _ _ _ _ _ => (pe_c c_leaving hr (by decide) (by rfl) (pa_cons (pv 7) pa_nil))) (fun _ _ _ _ _ => pe_non))
      (pss_cons (ps_fld (pv 0) (pv 2) rfl)
      (pss_cons (ps_set (i := 3) sc_Flow__further_end.nd rfl (Or.inl rfl) (pe_callTy (call_listD rfl) (by rfl) T.list (by decide +kernel) (pa_cons (pv 2) pa_nil)))
      (pss_cons (ps_while PassesOwn.never (pt_truth (pv 3) (by intro _; rfl)) (pss_cons (ps_set (i := 4) sc_Flow__further_end.nd rfl (Or.inl rfl) (pe_bm0 PySem.F.plainAttrs_list PySem.F.slot_list_pop PySem.F.type_list_pop mt_pop (pv 3)))
        (pss_one (ps_for PassesOwn.never rfl (show PI _ _ _ (iList K _) from pi_list (pe_ix (show IxR _ (rIxL K) from ix_list) (show PE _ _ (tFld K _ _) from pe_fldD (pv 1)) (pv 4) (fun _ _ => rfl))) (pg_name (i := 5) sc_Flow__further_end.nd rfl (Or.inl rfl)) (pss_cons (ps_set (i := 6) sc_Flow__further_end.nd rfl (Or.inl rfl) (pe_ix (show IxR _ (rIxL K) from ix_list) (show PE _ _ (tFld K _ _) from pe_fldD (pv 1)) (pv 5) (fun _ _ => rfl)))
          (pss_one (ps_if (PW.pt (pw_and (pt_cmp (pc_dnotin hu (pv 6) (pv 2))) (pw_and1 (pt_cmpR op_gt (pe_ix (show IxR _ (rIxL K) from ix_list) (show PE _ _ (tFld K _ _) from pe_fldD (pv 0)) (pv 5) (fun _ _ => rfl)) pe_int (nomark _))))) (pss_cons (ps_dput hu (pv 2) (pv 6) (pv 5) rfl)
            (pss_cons (ps_if (PW.pt (pw_and (pt_cmp (pc_din hu (pv 6) (show PE _ _ (tFld K _ _) from pe_fldD (pv 1)))) (pw_and1 (pt_cmp (pc_dnotin hu (pv 6) (show PE _ _ (tFld K _ _) from pe_fldD (pv 0))))))) (pss_one (ps_ret (pv 6))) pss_nil)
            (pss_one (ps_expr (pe_bm PySem.F.plainAttrs_list PySem.F.slot_list_append PySem.F.type_list_append mt_append (pv 3) (pa_cons (pv 6) pa_nil)))))) pss_nil)))))))
      (pss_one (ps_ret pe_non))))))), ?_⟩
    obtain ⟨dxF, fsF, eF, l1, l2, l3, l4, l5, l6, l7⟩ := id hO.ex
    refine ⟨_, rfl, f, _, dxF, fsF, _, rfl, eF, cF, aNet, l1, ?_⟩
    refine ⟨_, rfl, f, _, dxF, fsF, _, rfl, eF, cF, aLot, l2, lo, rfl, ⟨_, hS⟩, fun cm hcm => ?_⟩
    refine dc_tup (K := K) (xs := S.map vN) (fun i H' => Kp [cm] H H' ∧ ∃ L, H' cm = some (.dK (cameD L)) ∧ Tree (netA C) room (srcs S) L ∧ keysT L = srcs (S.take i))
      ⟨(fun b o nb e' => by rw [upd_ne (ne_of_none e' hcm)]; exact e'), [], upd_same, .nil, rfl⟩ (fun i H' _ ⟨k, _⟩ => Same.sqT (kp_same hcm k) hS) ?_ ?_
    · rintro i x H1 hx ⟨k1, L, hL, tr, ek⟩
      obtain ⟨a, ha, rfl⟩ := get_map hx
      have haS := List.mem_of_getElem? ha
      have han := inS a haS
      have tl' := tree_len ok inS tr
      refine ⟨rfl, ?_⟩
      have nk : 2 * a + 1 ∉ keysT L := fun m => by
        rw [ek] at m
        obtain ⟨b, hb, e⟩ := srcs_mem.mp m
        have : a = b := by omega
        subst this
        obtain ⟨j, hj⟩ := List.getElem?_of_mem hb
        rw [List.getElem?_take] at hj
        split at hj
        · rename_i lt
          have iS : i < S.length := (List.getElem?_eq_some_iff.mp ha).1
          have := (List.getElem?_inj (by omega) ndS).mp (hj.trans ha.symm)
          omega
        · cases hj
      refine ⟨_, rfl, a, rfl, by omega, _, (Sum.inl ((2 * a + 1 : Nat) : Int) : Key), rfl, hL, by rw [cameD_len, sizeLine_eq]; omega, kp_put k1, L ++ [(2 * a + 1, none)], ?_, .src tr (srcs_mem.mpr ⟨a, haS, rfl⟩) nk, ?_⟩
      · rw [upd_same, ← cameD_put L _ none nk]
      · rw [keysT_app, ek, take_more ha]
        unfold srcs
        rw [List.map_append]
        rfl
    rintro H1 ⟨k1, L0, hL0, tr0, ek0⟩
    rw [List.length_map, List.take_length] at ek0
    have s1 := kp_same hcm k1
    refine at_name ?_
    dsimp only
    refine at_seq ⟨_, rfl, _, rfl, f, _, dxF, fsF, rfl, s1 _ _ eF, cF, aCame, by omega, ?_⟩
    have hO2 := (hO.same s1).came (s1 _ _ eF) (.ref cm)
    generalize eH2 : upd H1 f _ = H2 at hO2
    have nfc : cm ≠ f := (ne_of_none eF hcm).symm
    have k2 : Kp [f] H1 H2 := by rw [← eH2]; exact kp_lst
    have at2 : ∀ {z : Addr} {o : HO}, z ≠ f → H z = some o → H2 z = some o := fun n e => k2 _ _ (by simpa using n) (s1 _ _ e)
    have hL2 : H2 cm = some (.dK (cameD L0)) := k2 _ _ (by simpa using nfc) hL0
    clear eH2
    have off : ∀ {z : Addr} {o : HO}, H z = some o → (∀ dx fs, o ≠ .ins (ka "Flow") dx fs) → z ≠ f := fun e1 e2 e3 => by
      rw [e3, eF] at e1
      exact e2 _ _ (Option.some.inj e1).symm
    have mt0 := tree_len ok inS tr0
    refine ⟨_, rfl, cm, _, rfl, .inl hL2, fun wt hwt => ?_⟩
    have ekv : ((cameD L0).map fun kv => kV kv.1) = (keysT L0).map vN := by
      unfold cameD keysT
      rw [List.map_map, List.map_map]
      rfl
    rw [ekv]
    generalize eH3 : upd H2 wt _ = H3
    have s3 : Same H2 H3 := by rw [← eH3]; exact same_upd hwt
    have hW3 : H3 wt = some (.lst ((keysT L0).map vN)) := by rw [← eH3]; exact upd_same
    clear eH3
    have hL3 := s3 _ _ hL2
    have hO3 := hO2.same s3
    have ncw : cm ≠ wt := ne_of_none hL2 hwt
    have at3 : ∀ {z : Addr} {o : HO}, z ≠ f → H z = some o → H3 z = some o := fun n e => s3 _ _ (at2 n e)
    have old : ∀ {z : Addr} {o : HO}, z ≠ f → H z = some o → z ∉ [cm, wt] := fun {z o} n e m => by
      simp only [List.mem_cons, List.not_mem_nil, or_false] at m
      rcases m with h | h
      · exact ne_of_none e hcm h
      · exact ne_of_none (at2 n e) hwt h
    have nff : f ∉ [cm, wt] := fun m => by
      simp only [List.mem_cons, List.not_mem_nil, or_false] at m
      obtain ⟨dx2, fs2, e2, _⟩ := hO2.ex
      rcases m with h | h
      · exact nfc h.symm
      · exact ne_of_none e2 hwt h
    have stay : ∀ {H' : Hp}, Kp [cm, wt] H3 H' → ∀ {z : Addr} {o : HO}, z ≠ f → H z = some o → H' z = some o := fun k _ _ n e => k _ _ (old n e) (at3 n e)
    have fin : ∀ {H' : Hp} {v : V} {L : List (Nat × Option Nat)}, Kp [cm, wt] H3 H' → H' cm = some (.dK (cameD L)) → Found C S room Ed v L → Q v H' := fun {H' v L} k h fd =>
      q v cm L H' hcm h (hO3.kp k nff) (fun z o nz ez => stay k (by simpa using nz) ez) fd
    obtain ⟨dxN, fsN, eN, _, lB, lT, _, lFn⟩ := hN.ob
    have lRoom := hRm
    have offL : ∀ {z : Addr} {xs : List V}, H z = some (.lst xs) → z ≠ f := fun e => off e fun _ _ z => nomatch z
    have offD : ∀ {z : Addr} {xs : List (Key × V)}, H z = some (.dK xs) → z ≠ f := fun e => off e fun _ _ z => nomatch z
    have netB : (netA C).length ≤ 300 := by
      have := net_len C
      have := ok.many
      omega
    refine ⟨fun m σ H' => ∃ (L : List (Nat × Option Nat)) (W : List Nat) (v4 v5 v6 v7 : Option V), σ = [some (.ref f), some (.ref nt), some (.ref cm), some (.ref wt), v4, v5, v6, v7] ∧ Kp [cm, wt] H3 H' ∧ H' cm = some (.dK (cameD L)) ∧ H' wt = some (.lst (W.map vN)) ∧ Looking C S room Ed L W (fun _ => False) ∧ W.length ≤ L.length ∧ (2 * C.n - L.length) + W.length = m, ⟨_, L0, keysT L0, _, _, _, _, rfl, Kp.refl _ _, hL3, hW3, ⟨tr0, fun a ha => by rw [ek0]; exact srcs_mem.mpr ⟨a, ha, rfl⟩, fun u hu => hu, fun u hu nu => absurd hu nu, fun w _ hw => ?_⟩, by unfold keysT; rw [List.length_map]; exact Nat.le_refl _, rfl⟩, ?_⟩
    · rw [ek0] at hw
      obtain ⟨a, _, e⟩ := srcs_mem.mp hw
      omega
    rintro m σ H4 ⟨L, W, v4, v5, v6, v7, rfl, k4, hL4, hW4, lk, lw, em⟩
    refine ⟨_, rfl, _, .inl ⟨_, .inl (.inl hW4), rfl⟩, ?_⟩
    by_cases he : W = []
    · subst he
      refine iteF ?_
      exact fin k4 hL4 (.none ⟨lk.tree, lk.src, fun u hu p v g r => lk.done u hu List.not_mem_nil id p v g r, lk.noEnd⟩)
    have hb : (!(W.map vN).isEmpty) = true := by
      cases W with
      | nil => exact absurd rfl he
      | cons a W => rfl
    rw [hb]
    refine iteT ⟨fun σ' H' => ∃ m', m' < m ∧ ∃ (L : List (Nat × Option Nat)) (W : List Nat) (v4 v5 v6 v7 : Option V), σ' = [some (.ref f), some (.ref nt), some (.ref cm), some (.ref wt), v4, v5, v6, v7] ∧ Kp [cm, wt] H3 H' ∧ H' cm = some (.dK (cameD L)) ∧ H' wt = some (.lst (W.map vN)) ∧ Looking C S room Ed L W (fun _ => False) ∧ W.length ≤ L.length ∧ (2 * C.n - L.length) + W.length = m', fun _ _ h => h, ?_⟩
    obtain ⟨W0, x, rfl⟩ : ∃ W0 x, W = W0 ++ [x] := ⟨W.dropLast, W.getLast he, (List.dropLast_concat_getLast he).symm⟩
    rw [List.length_append, List.length_singleton] at lw em
    have hlast : ((W0 ++ [x]).map vN)[((W0 ++ [x]).map vN).length - 1]? = some (vN x) := by simp
    refine ⟨_, rfl, .inl ⟨rfl, _, .inl (.inl hW4)⟩, wt, _, _, rfl, rfl, hW4, hlast, ?_⟩
    have hdl : ((W0 ++ [x]).map vN).dropLast = W0.map vN := by simp
    rw [hdl]
    have hxk : x ∈ keysT L := lk.wait x (by simp)
    have hxn := key_lt ok inS lk.tree x hxk
    obtain ⟨l, hl⟩ : ∃ l, ls[x]? = some l := ⟨_, List.getElem?_eq_getElem (by rw [hN.len]; exact hxn)⟩
    refine at_name ?_
    dsimp only
    generalize eH5 : upd H4 wt _ = H5
    have f5 : ∀ z, z ≠ wt → H5 z = H4 z := fun z nz => by rw [← eH5]; exact upd_ne nz
    have hW5 : H5 wt = some (.lst (W0.map vN)) := by rw [← eH5]; exact upd_same
    clear eH5
    have k5 : Kp [cm, wt] H3 H5 := fun z o nz ez => by
      rw [f5 z (fun y => nz (by rw [y]; simp))]
      exact k4 z o nz ez
    have hL5 : H5 cm = some (.dK (cameD L)) := by rw [f5 cm ncw]; exact hL4
    have goesx : ∀ {p : Nat}, p ∈ bes x 0 (netA C) → ∃ v, Goes (netA C) p x v := fun h => bes_goes.mp h
    have eN5 := stay k5 nN eN
    refine ⟨_, rfl, nt, _, dxN, fsN, _, rfl, eN5, cN, aB, lB, _, rfl, bl, _, _, _, rfl, rfl, .inl (.inl (stay k5 (offL hN.top) hN.top)), atI_nat (v := V.ref l) (by rw [List.getElem?_map, hl]; rfl), l, rfl, ⟨_, .inl (.inl (stay k5 (offL (hN.each x l hl)) (hN.each x l hl)))⟩, for_list (K := K) (xs := (bes x 0 (netA C)).map vN) (fun j σ' H' => ∃ (L : List (Nat × Option Nat)) (W : List Nat) (v5 v6 v7 : Option V), σ' = [some (.ref f), some (.ref nt), some (.ref cm), some (.ref wt), some (vN x), v5, v6, v7] ∧ Kp [cm, wt] H3 H' ∧ H' cm = some (.dK (cameD L)) ∧ H' wt = some (.lst (W.map vN)) ∧ x ∈ keysT L ∧ Looking C S room Ed L W (fun u => u = x) ∧ (∀ p ∈ (bes x 0 (netA C)).take j, ∀ v, Goes (netA C) p x v → 0 < room.getD p 0 → v ∈ keysT L) ∧ W.length ≤ L.length ∧ (2 * C.n - L.length) + W.length + 1 = m) ?_ ?_ ?_ ?_⟩
    · refine ⟨L, W0, _, _, _, rfl, k5, hL5, hW5, hxk, ⟨lk.tree, lk.src, fun u hu => lk.wait u (List.mem_append_left _ hu), fun u hu nu nx p v g r => lk.done u hu (fun m => (List.mem_append.mp m).elim nu fun m => nx (List.mem_singleton.mp m)) id p v g r, lk.noEnd⟩, fun p h => by simp at h, by omega, by omega⟩
    · rintro j σ' H' _ ⟨_, _, _, _, _, _, k, _⟩
      exact .inl (.inl (stay k (offL (hN.each x l hl)) (hN.each x l hl)))
    · rintro j y σ' H6 hy ⟨L, W, v5, v6, v7, rfl, k6, hL6, hW6, hxk, lk, dn, lw, em⟩
      obtain ⟨p, hp, rfl⟩ := get_map hy
      obtain ⟨v, g⟩ := goesx (List.mem_of_getElem? hp)
      have pl := goes_lt g
      have hT6 := stay k6 (offL hN.tow) hN.tow
      have eN6 := stay k6 nN eN
      obtain ⟨dx6, fs6, eF6, _, _, l36, l46, _⟩ := (hO3.kp k6 nff).ex
      have tkj : (bes x 0 (netA C)).take (j + 1) = (bes x 0 (netA C)).take j ++ [p] := take_more hp
      refine at_name ?_
      refine ⟨_, rfl, nt, _, dxN, fsN, _, rfl, eN6, cN, aT, lT, _, rfl, tl, _, _, _, rfl, rfl, .inl (.inl hT6), atI_nat (v := vN v) (by rw [List.getElem?_map, g.1]; rfl), ?_⟩
      refine at_name ?_
      dsimp only
      have pass : (v ∈ keysT L ∨ room.getD p 0 = 0) → ∃ (L : List (Nat × Option Nat)) (W : List Nat) (u5 u6 u7 : Option V), [some (V.ref f), some (.ref nt), some (.ref cm), some (.ref wt), some (vN x), some (vN p), some (vN v), v7] = [some (V.ref f), some (.ref nt), some (.ref cm), some (.ref wt), some (vN x), u5, u6, u7] ∧ Kp [cm, wt] H3 H6 ∧ H6 cm = some (.dK (cameD L)) ∧ H6 wt = some (.lst (W.map vN)) ∧ x ∈ keysT L ∧ Looking C S room Ed L W (fun u => u = x) ∧ (∀ p ∈ (bes x 0 (netA C)).take (j + 1), ∀ v, Goes (netA C) p x v → 0 < room.getD p 0 → v ∈ keysT L) ∧ W.length ≤ L.length ∧ (2 * C.n - L.length) + W.length + 1 = m := fun h => by
        refine ⟨L, W, _, _, _, rfl, k6, hL6, hW6, hxk, lk, fun p' hp' v' g' r' => ?_, lw, em⟩
        rw [tkj] at hp'
        rcases List.mem_append.mp hp' with hp' | hp'
        · exact dn p' hp' v' g' r'
        · have := List.mem_singleton.mp hp'
          subst this
          rw [← (goes_one g g').2]
          rcases h with h | h
          · exact h
          · omega
      refine ⟨_, rfl, _, rfl, cm, _, rfl, DGet.k (k := Sum.inl (v : Int)) hL6, _, rfl, ?_⟩
      rw [cameD_val]
      by_cases hv : v ∈ keysT L
      · rw [decide_eq_true hv]
        exact iteF (pass (.inl hv))
      rw [decide_eq_false hv]
      refine iteT ?_
      have hRm6 := stay k6 (offL hRm) hRm
      have rget : room[p]? = some (room.getD p 0) := by
        rw [List.getD_eq_getElem?_getD, List.getElem?_eq_getElem (by omega)]
        rfl
      refine ⟨_, rfl, f, _, dx6, fs6, _, rfl, eF6, cF, aRoom, l36, _, rfl, rm, _, _, _, rfl, rfl, .inl (.inl hRm6), atI_nat (v := vN (room.getD p 0)) (by rw [List.getElem?_map, rget]; rfl), _, _, rfl, rfl, _, rfl, ite_any (fun hr' => ?_) (fun hr' => pass (.inr ?_))⟩
      · have r0 : 0 < room.getD p 0 := by
          have z : (room.getD p 0 : Int) > 0 := of_decide_eq_true hr'
          omega
        have tr' : Tree (netA C) room (srcs S) (L ++ [(v, some p)]) := .arc lk.tree g hxk r0 hv
        have lt' := tree_len ok inS tr'
        rw [List.length_append, List.length_singleton] at lt'
        refine ⟨_, rfl, _, rfl, _, rfl, cm, _, rfl, DPut.k (k := Sum.inl (v : Int)) hL6 (by rw [cameD_len, sizeLine_eq]; omega), ?_⟩
        have eput := cameD_put L v (some p) hv
        dsimp only at eput
        rw [eput]
        generalize eH7 : upd H6 cm _ = H7
        have f7 : ∀ z, z ≠ cm → H7 z = H6 z := fun z nz => by rw [← eH7]; exact upd_ne nz
        have hL7 : H7 cm = some (.dK (cameD (L ++ [(v, some p)]))) := by rw [← eH7]; exact upd_same
        clear eH7
        have k7 : Kp [cm, wt] H3 H7 := fun z o nz ez => by
          rw [f7 z (fun y => nz (by rw [y]; simp))]
          exact k6 z o nz ez
        have hW7 : H7 wt = some (.lst (W.map vN)) := by rw [f7 wt ncw.symm]; exact hW6
        have kv : v ∈ keysT (L ++ [(v, some p)]) := by rw [keysT_app]; simp
        have up : ∀ u, u ∈ keysT L → u ∈ keysT (L ++ [(v, some p)]) := fun u h => by rw [keysT_app]; exact List.mem_append_left _ h
        have em' : 2 * C.n - (L.length + 1) + (W.length + 1) + 1 = m := by
          clear pass
          omega
        have inv : (∀ w ∈ C.wished, v = 2 * w → w ∈ Ed) → ∃ (L : List (Nat × Option Nat)) (W2 : List Nat) (u5 u6 u7 : Option V), [some (V.ref f), some (.ref nt), some (.ref cm), some (.ref wt), some (vN x), some (vN p), some (vN v), v7] = [some (V.ref f), some (.ref nt), some (.ref cm), some (.ref wt), some (vN x), u5, u6, u7] ∧ Kp [cm, wt] H3 (upd H7 wt (.lst (W.map vN ++ [vN v]))) ∧ (upd H7 wt (.lst (W.map vN ++ [vN v]))) cm = some (.dK (cameD L)) ∧ (upd H7 wt (.lst (W.map vN ++ [vN v]))) wt = some (.lst (W2.map vN)) ∧ x ∈ keysT L ∧ Looking C S room Ed L W2 (fun u => u = x) ∧ (∀ p ∈ (bes x 0 (netA C)).take (j + 1), ∀ v, Goes (netA C) p x v → 0 < room.getD p 0 → v ∈ keysT L) ∧ W2.length ≤ L.length ∧ (2 * C.n - L.length) + W2.length + 1 = m := fun ne => by
          refine ⟨L ++ [(v, some p)], W ++ [v], _, _, _, rfl, fun z o nz ez => ?_, by rw [upd_ne ncw]; exact hL7, by rw [upd_same, List.map_append]; rfl, up x hxk, ⟨tr', fun a ha => up _ (lk.src a ha), fun u hu => ?_, fun u hu nu nx p' v' g' r' => ?_, fun w hw hk => ?_⟩, fun p' hp' v' g' r' => ?_, by rw [List.length_append, List.length_append]; exact Nat.add_le_add_right lw 1, by rw [List.length_append, List.length_append, List.length_singleton, List.length_singleton]; exact em'⟩
          · rw [upd_ne (fun y => nz (by rw [y]; simp))]
            exact k7 z o nz ez
          · rcases List.mem_append.mp hu with hu | hu
            · exact up u (lk.wait u hu)
            · rw [List.mem_singleton.mp hu]
              exact kv
          · rw [keysT_app] at hu
            rcases List.mem_append.mp hu with hu | hu
            · exact up _ (lk.done u hu (fun m => nu (List.mem_append_left _ m)) nx p' v' g' r')
            · exact absurd (List.mem_append_right _ hu) nu
          · rw [keysT_app] at hk
            rcases List.mem_append.mp hk with hk | hk
            · exact lk.noEnd w hw hk
            · exact ne w hw (List.mem_singleton.mp hk).symm
          · rw [tkj] at hp'
            rcases List.mem_append.mp hp' with hp' | hp'
            · exact up _ (dn p' hp' v' g' r')
            · have := List.mem_singleton.mp hp'
              subst this
              rw [← (goes_one g g').2]
              exact kv
        have eN7 := stay k7 nN eN
        have hFn7 := stay k7 (offD hN.fin) hN.fin
        have hEn7 := stay k7 (offD hEn) hEn
        obtain ⟨dx7, fs7, eF7, _, _, _, l47, _⟩ := (hO3.kp k7 nff).ex
        have small : W.length < sizeLine := by rw [sizeLine_eq]; omega
        refine ⟨_, rfl, _, rfl, nt, _, dxN, fsN, _, rfl, eN7, cN, aF, lFn, fl, _, rfl, DGet.k (k := Sum.inl (v : Int)) hFn7, _, rfl, ?_⟩
        rw [keysOf_val]
        by_cases hf : v ∈ twos C.wished
        · rw [if_pos hf]
          refine iteT ?_
          obtain ⟨w, hw, ew⟩ : ∃ w ∈ C.wished, v = 2 * w := by
            unfold twos at hf
            obtain ⟨w, hw, e⟩ := List.mem_map.mp hf
            exact ⟨w, hw, e.symm⟩
          refine ⟨_, rfl, _, rfl, f, _, dx7, fs7, _, rfl, eF7, cF, aEnd, l47, en, _, rfl, DGet.k (k := Sum.inl (v : Int)) hEn7, _, rfl, ?_⟩
          rw [keysOf_val]
          by_cases hE : v ∈ twos Ed
          · rw [if_pos hE]
            refine iteF ?_
            refine ⟨_, rfl, .inl ⟨rfl, _, .inl (.inl hW7)⟩, _, rfl, wt, _, _, rfl, rfl, hW7, by rw [List.length_map]; exact small, inv fun w' _ e => ?_⟩
            rw [e] at hE
            exact twos_mem.mp hE
          · rw [if_neg hE]
            refine iteT ⟨_, rfl, ?_⟩
            rw [ew] at kv hE hL7 tr' ⊢
            exact fin k7 hL7 (.some tr' kv hw fun m => hE (twos_mem.mpr m))
        · rw [if_neg hf]
          refine iteF ?_
          refine ⟨_, rfl, .inl ⟨rfl, _, .inl (.inl hW7)⟩, _, rfl, wt, _, _, rfl, rfl, hW7, by rw [List.length_map]; exact small, inv fun w' hw' e => ?_⟩
          rw [e] at hf
          exact absurd (twos_mem.mpr hw') hf
      · have z := of_decide_eq_false hr'
        have z : ¬ ((room.getD p 0 : Int) > 0) := z
        omega
    · rintro σ' H6 ⟨L, W, v5, v6, v7, rfl, k6, hL6, hW6, hxk, lk, dn, lw, em⟩
      rw [List.length_map, List.take_length] at dn
      refine ⟨_, by omega, L, W, _, _, _, _, rfl, k6, hL6, hW6, ⟨lk.tree, lk.src, lk.wait, fun u hu nu _ p v g r => ?_, lk.noEnd⟩, lw, rfl⟩
      by_cases h : u = x
      · subst h
        exact dn p (bes_goes.mpr ⟨v, g⟩) v g r
      · exact lk.done u hu nu h p v g r
end
end Ft

set_option Elab.async false
set_option linter.all false
set_option maxRecDepth 100000
set_option maxHeartbeats 8000000
namespace Ft
open PySem PySem.Spec PyProof.Rows L2
theorem bitXor_xo : ∀ p : Fin 1024, PySem.Builtin.bitXor ((p.1 : Nat) : Int) 1 = ((xo p.1 : Nat) : Int) := by decide +kernel
theorem xor_at {p : Nat} (h : p < 1024) : PySem.Builtin.bitXor (p : Int) 1 = ((xo p : Nat) : Int) := bitXor_xo ⟨p, h⟩
theorem NetAt.kp {ka : Str → Addr} {ex : List Addr} {H H' : Hp} {p c : Addr} {C : Chart} {bl tl rl fl : Addr} {ls : List Addr} (k : Kp ex H H') (n : ∀ z ∈ p :: bl :: tl :: rl :: fl :: ls, z ∉ ex) (h : NetAt ka H p c C bl tl rl fl ls) : NetAt ka H' p c C bl tl rl fl ls := by
  obtain ⟨dx, fs, e, r⟩ := h.ob
  exact ⟨⟨dx, fs, k _ _ (n _ (by simp)) e, r⟩, k _ _ (n _ (by simp)) h.top, h.len, fun a l q => k _ _ (n _ (by have := List.mem_of_getElem? q; simp [this])) (h.each a l q), k _ _ (n _ (by simp)) h.tow, k _ _ (n _ (by simp)) h.rms, k _ _ (n _ (by simp)) h.fin⟩
/-- a flow's own lists are none of its net's -/
structure ApartN (nt f rm en bl tl rl fl : Addr) (ls : List Addr) : Prop where
  nf : nt ≠ f
  rm : rm ∉ bl :: tl :: rl :: ls
  en : en ≠ fl
theorem ApartN.all {ka : Str → Addr} {H : Hp} {nt f rm en c bl tl rl fl : Addr} {ls : List Addr} {C : Chart} {xs : List V} {kvs : List (Key × V)} (a : ApartN nt f rm en bl tl rl fl ls) (h : NetAt ka H nt c C bl tl rl fl ls) (h1 : H rm = some (.lst xs)) (h2 : H en = some (.dK kvs)) : ∀ z ∈ nt :: bl :: tl :: rl :: fl :: ls, z ∉ [rm, en] := by
  obtain ⟨dx, fs, e, _⟩ := h.ob
  intro z hz m
  simp only [List.mem_cons, List.not_mem_nil, or_false] at m hz
  have noL : ∀ {z : Addr} {ys : List V}, H z = some (.lst ys) → z ≠ en := fun e q => by rw [q, h2] at e; cases e
  rcases m with m | m
  · rcases hz with q | q | q | q | q | q
    · rw [← q, m, h1] at e; cases e
    · exact a.rm (by rw [← m, q]; simp)
    · exact a.rm (by rw [← m, q]; simp)
    · exact a.rm (by rw [← m, q]; simp)
    · have := h.fin
      rw [← q, m, h1] at this
      cases this
    · exact a.rm (by rw [← m]; simp [q])
  · rcases hz with q | q | q | q | q | q
    · rw [← q, m, h2] at e; cases e
    · exact noL h.top (by rw [← q, m])
    · exact noL h.tow (by rw [← q, m])
    · exact noL h.rms (by rw [← q, m])
    · exact a.en (by rw [← q, m])
    · obtain ⟨i, hi⟩ := List.getElem?_of_mem q
      exact noL (h.each i z hi) m
def pathV : List Nat → V
  | [] => .non
  | p :: _ => vN p
theorem back_val {A : List Arc} {L : List (Nat × Option Nat)} (nd : (keysT L).Nodup) {v : Nat} {ps : List Nat} (h : Back A L v ps) : valV (cameD L) (Sum.inl (v : Int) : Key) = some (pathV ps) := by
  cases h with
  | src m => exact cameD_get nd m
  | arc m _ _ => exact cameD_get nd m
theorem set_vN (l : List Nat) (i v : Nat) : (l.map vN).set i (vN v) = (l.set i v).map vN := by rw [List.map_set]
theorem ixN_nat {n i : Nat} (h : i < n) : ixN n (i : Int) = some i := by
  have h1 : atI (List.range n) (i : Int) = some i := atI_nat (by rw [List.getElem?_range h])
  unfold atI at h1
  cases e : ixN (List.range n).length (i : Int) with
  | none => rw [e] at h1; cases h1
  | some j =>
    rw [e] at h1
    have h2 : (List.range n)[j]? = some i := h1
    obtain ⟨hj, e2⟩ := List.getElem?_eq_some_iff.mp h2
    rw [List.getElem_range] at e2
    rw [List.length_range] at e
    rw [e, e2]
section
variable {P : Program} {w : World} {K : PySem.W.Frag} {mg : Str → Option Value} {base : Heap} {ka : Str → Addr}
def sp_Flow__add_way (K : PySem.W.Frag) (ka : Str → Addr) : Sp := fun vs H Q _ => ∃ (f nt lo rm en cm c bl tl rl fl : Addr) (ls : List Addr) (C : Chart) (S room E : List Nat) (L : List (Nat × Option Nat)) (wd : Nat), vs = [.ref f, vN (2 * wd)] ∧ ApartN nt f rm en bl tl rl fl ls ∧ cm ≠ en ∧ FlowOb ka H f nt lo rm en (.ref cm) ∧ NetAt ka H nt c C bl tl rl fl ls ∧ C.Ok ∧
  H rm = some (.lst (room.map vN)) ∧ room.length = 2 * (netA C).length ∧ H en = some (.dK (keysOf (twos E))) ∧ E.length ≤ 100 ∧ H cm = some (.dK (cameD L)) ∧ Tree (netA C) room (srcs S) L ∧ 2 * wd ∈ keysT L ∧ wd ∉ E ∧
  ∀ (ps : List Nat) (H' : Hp), Back (netA C) L (2 * wd) ps → BackOk (netA C) room (keysT L) ps → H' rm = some (.lst ((pushes room ps).map vN)) → H' en = some (.dK (keysOf (twos (E ++ [wd])))) → Kp [rm, en] H H' → Q .non H'
theorem calm_Flow__add_way (T : Txt mg) (D : DefM K ka "Flow" "_add_way" "Flow._add_way" s_Flow__add_way) (k_Net : Kls K mg ka "Net") (q_Net : Attrs K ka "Net" netFs) (k_Flow : Kls K mg ka "Flow") (q_Flow : Attrs K ka "Flow" flowFs) : CalM P w K mg base 1 ka "Flow" "_add_way" (sp_Flow__add_way K ka) := by
  refine calm_of D sc_Flow__add_way (fun _ _ _ _ _ _ us hl => match us, hl with | [_, _], _ => rfl) (fun vs H Q E h => ?_) (fun f cdv A outer s H vs Q E hr h => ?_)
  · obtain ⟨f, nt, lo, rm, en, cm, c, bl, tl, rl, fl, ls, C, S, room, E, L, wd, rfl, _⟩ := h
    rfl
  · obtain ⟨f, nt, lo, rm, en, cm, c, bl, tl, rl, fl, ls, C, S, room, Ed, L, wd, rfl, ap, nce, hO, hN, ok, hRm, lRm, hEn, few, hCm, tr, hk, hnE, q⟩ := h
    have hu := hu_of hr
    have hU := hr.units
    have cN := k_Net.cl
    have cF := k_Flow.cl
    have aNet : NoAttr K (ka "Flow") "net" := q_Flow _ (by decide)
    have aRoom : NoAttr K (ka "Flow") "room" := q_Flow _ (by decide)
    have aEnd : NoAttr K (ka "Flow") "ended" := q_Flow _ (by decide)
    have aCame : NoAttr K (ka "Flow") "came" := q_Flow _ (by decide)
    have aT : NoAttr K (ka "Net") "toward" := q_Net _ (by decide)
    have netB : (netA C).length ≤ 300 := by
      have := net_len C
      have := ok.many
      have := ok.n60
      omega
    obtain ⟨ps, hb, bok, _⟩ := tree_back tr _ hk
    have nd := tr.nd
    have ap2 := ap.all hN hRm hEn
    obtain ⟨dxN, fsN, eN, _, _, lT, _, _⟩ := hN.ob
    obtain ⟨dxF, fsF, eF, l1, l2, l3, l4, l5, l6, l7⟩ := hO.ex
    have nfr : f ∉ [rm, en] := fun m => by
      simp only [List.mem_cons, List.not_mem_nil, or_false] at m
      rcases m with e | e
      · rw [e, hRm] at eF; cases eF
      · rw [e, hEn] at eF; cases eF
    have nre : rm ≠ en := fun e => by rw [e, hEn] at hRm; cases hRm
    have ncr : cm ∉ [rm, en] := fun m => by
      simp only [List.mem_cons, List.not_mem_nil, or_false] at m
      rcases m with e | e
      · rw [e, hRm] at hCm; cases hCm
      · exact nce e
    refine ⟨_, (pss_cons (ps_dput hu (show PE _ _ (tFld K _ _) from pe_fldD (pv 0)) (pv 1) pe_bl rfl)
      (pss_cons (ps_set (i := 2) sc_Flow__add_way.nd rfl (Or.inl rfl) (pe_dget hu (show PE _ _ (tFld K _ _) from pe_fldD (pv 0)) (pv 1) (fun _ _ => rfl)))
      (pss_one (ps_while PassesOwn.never (pt_cmpR op_notN (pv 2) pe_non (nomark _)) (pss_cons (ps_augS (show PE _ _ (tFld K _ _) from pe_fldD (pv 0)) (pv 2) (show PGet _ (rIxL K) from get_listP) pe_int ip_sub set_list)
        (pss_cons (ps_augS (show PE _ _ (tFld K _ _) from pe_fldD (pv 0)) (pe_op op_xor (pv 2) pe_int) (show PGet _ (rIxL K) from get_listP) pe_int ip_add set_list)
        (pss_one (ps_set (i := 2) sc_Flow__add_way.nd rfl (Or.inl rfl) (pe_dget hu (show PE _ _ (tFld K _ _) from pe_fldD (pv 0)) (pe_ix (show IxR _ (rIxL K) from ix_list) (show PE _ _ (tFld K _ _) from pe_fldD (show PE _ _ (tFld K _ _) from pe_fldD (pv 0))) (pe_op op_xor (pv 2) pe_int) (fun _ _ => rfl)) (fun _ _ => rfl)))))))))), ?_⟩
    refine ⟨_, rfl, f, _, dxF, fsF, _, rfl, eF, cF, aEnd, l4, _, rfl, en, _, rfl, DPut.k (k := Sum.inl ((2 * wd : Nat) : Int)) hEn (by rw [keysOf_len]; unfold twos; rw [List.length_map, sizeLine_eq]; omega), ?_⟩
    rw [keysOf_put _ _ (fun m => hnE (twos_mem.mp m)), ← twos_app]
    generalize eH1 : upd H en _ = H1
    have f1 : ∀ z, z ≠ en → H1 z = H z := fun z nz => by rw [← eH1]; exact upd_ne nz
    have hE1 : H1 en = some (.dK (keysOf (twos (Ed ++ [wd])))) := by rw [← eH1]; exact upd_same
    clear eH1
    have hR1 : H1 rm = some (.lst (room.map vN)) := by rw [f1 rm nre]; exact hRm
    have k1 : Kp [rm, en] H H1 := fun z o nz ez => by
      rw [f1 z (fun y => nz (by rw [y]; simp))]
      exact ez
    have eF1 := k1 _ _ nfr eF
    have hC1 := k1 _ _ ncr hCm
    refine ⟨_, rfl, f, _, dxF, fsF, _, rfl, eF1, cF, aCame, l5, _, rfl, cm, _, rfl, by rw [← back_val nd hb]; exact DGet.k (k := Sum.inl ((2 * wd : Nat) : Int)) hC1, ?_⟩
    refine at_name ?_
    refine ⟨fun m σ H' => ∃ (dn rest : List Nat) (u : Nat), σ = [some (.ref f), some (vN (2 * wd)), some (pathV rest)] ∧ ps = dn ++ rest ∧ Back (netA C) L u rest ∧ Kp [rm, en] H1 H' ∧ H' rm = some (.lst ((pushes room dn).map vN)) ∧ H' en = some (.dK (keysOf (twos (Ed ++ [wd])))) ∧ rest.length = m, ⟨_, [], ps, 2 * wd, rfl, rfl, hb, Kp.refl _ _, hR1, hE1, rfl⟩, ?_⟩
    rintro m σ H2 ⟨dn, rest, u, rfl, eps, hbk, k2, hR2, hE2, em⟩
    have k02 := k1.trans k2
    have eF2 := k02 _ _ nfr eF
    cases hbk with
    | src hm =>
      refine ⟨_, rfl, rfl, _, rfl, iteF ?_⟩
      rw [List.append_nil] at eps
      subst eps
      exact q ps H2 hb bok hR2 hE2 k02
    | @arc _ p u2 ps2 hm g hb2 =>
      refine ⟨_, rfl, rfl, _, rfl, iteT ⟨fun σ' H' => ∃ m', m' < m ∧ ∃ (dn rest : List Nat) (u : Nat), σ' = [some (.ref f), some (vN (2 * wd)), some (pathV rest)] ∧ ps = dn ++ rest ∧ Back (netA C) L u rest ∧ Kp [rm, en] H1 H' ∧ H' rm = some (.lst ((pushes room dn).map vN)) ∧ H' en = some (.dK (keysOf (twos (Ed ++ [wd])))) ∧ rest.length = m', fun _ _ h => h, ?_⟩⟩
      have pl := goes_lt g
      have xl := xo_lt pl
      rw [eps] at bok
      have hd : ∀ q ∈ dn, q < 2 * (netA C).length := fun q hq => bok.lt q (List.mem_append_left _ hq)
      have np : p ∉ dn := fun m => (List.nodup_append.mp bok.nd).2.2 p m p List.mem_cons_self rfl
      have c0 : dn.count p = 0 := List.count_eq_zero.mpr np
      have ge := pushes_ge (n := (netA C).length) lRm hd p
      have pp := bok.pos p (List.mem_append_right _ List.mem_cons_self)
      obtain ⟨rr, err⟩ : ∃ rr, pushes room dn = rr := ⟨_, rfl⟩
      have lrr : rr.length = 2 * (netA C).length := by rw [← err, pushes_len]; exact lRm
      rw [err] at hR2 ge
      have get : ∀ q, q < 2 * (netA C).length → rr[q]? = some (rr.getD q 0) := fun q hq => by
        rw [List.getD_eq_getElem?_getD, List.getElem?_eq_getElem (by omega)]
        rfl
      refine ⟨_, rfl, f, _, dxF, fsF, _, rfl, eF2, cF, aRoom, l3, _, rfl, rm, _, _, _, rfl, rfl, .inl (.inl hR2), atI_nat (v := vN (rr.getD p 0)) (by rw [List.getElem?_map, get p pl]; rfl), _, _, rfl, rfl, rm, _, _, _, rfl, rfl, hR2, ixN_nat (by rw [List.length_map]; omega), ?_⟩
      have e1 : V.int ((rr.getD p 0 : Int) - 1) = vN (rr.getD p 0 - 1) := by unfold vN; congr 1; omega
      have e1' : (HO.lst ((rr.map vN).set p (V.int ((rr.getD p 0 : Int) - 1)))) = .lst ((rr.set p (rr.getD p 0 - 1)).map vN) := by rw [e1, set_vN]
      rw [e1']
      generalize eH3 : upd H2 rm _ = H3
      have f3 : ∀ z, z ≠ rm → H3 z = H2 z := fun z nz => by rw [← eH3]; exact upd_ne nz
      have hR3 : H3 rm = some (.lst ((rr.set p (rr.getD p 0 - 1)).map vN)) := by rw [← eH3]; exact upd_same
      clear eH3
      have eF3 : H3 f = some (.ins (ka "Flow") dxF fsF) := by rw [f3 f (fun y => nfr (by rw [y]; simp))]; exact eF2
      have gx : (rr.set p (rr.getD p 0 - 1))[xo p]? = some (rr.getD (xo p) 0) := by
        rw [List.getElem?_set_ne (xo_ne p).symm]
        exact get _ xl
      have p1024 : p < 1024 := by omega
      refine ⟨_, rfl, f, _, dxF, fsF, _, rfl, eF3, cF, aRoom, l3, _, rfl, _, _, rfl, rfl, ?_⟩
      have ex := xor_at p1024
      have ex' : V.int (PySem.Builtin.bitXor (p : Int) 1) = vN (xo p) := by rw [ex]; rfl
      show rIxL K _ (V.int (PySem.Builtin.bitXor (p : Int) 1)) _ _
      rw [ex']
      refine ⟨rm, _, ((xo p : Nat) : Int), _, rfl, rfl, .inl (.inl hR3), atI_nat (v := vN (rr.getD (xo p) 0)) (by rw [List.getElem?_map, gx]; rfl), _, _, rfl, rfl, rm, _, ((xo p : Nat) : Int), xo p, rfl, ex', hR3, ixN_nat (by rw [List.length_map, List.length_set]; omega), ?_⟩
      have e2 : V.int ((rr.getD (xo p) 0 : Int) + 1) = vN (rr.getD (xo p) 0 + 1) := by unfold vN; congr 1
      have e2' : (HO.lst (((rr.set p (rr.getD p 0 - 1)).map vN).set (xo p) (V.int ((rr.getD (xo p) 0 : Int) + 1)))) = .lst ((push rr p).map vN) := by
        rw [e2, set_vN]
        rfl
      rw [e2']
      generalize eH4 : upd H3 rm _ = H4
      have f4 : ∀ z, z ≠ rm → H4 z = H3 z := fun z nz => by rw [← eH4]; exact upd_ne nz
      have hR4 : H4 rm = some (.lst ((push rr p).map vN)) := by rw [← eH4]; exact upd_same
      clear eH4
      have k24 : Kp [rm, en] H2 H4 := fun z o nz ez => by
        rw [f4 z (fun y => nz (by rw [y]; simp)), f3 z (fun y => nz (by rw [y]; simp))]
        exact ez
      have k04 := k02.trans k24
      have eF4 := k04 _ _ nfr eF
      have eN4 := k04 _ _ (ap2 nt (by simp)) eN
      have hT4 := k04 _ _ (ap2 tl (by simp)) hN.tow
      have hC4 := k04 _ _ ncr hCm
      have hE4 : H4 en = some (.dK (keysOf (twos (Ed ++ [wd])))) := by rw [f4 en nre.symm, f3 en nre.symm]; exact hE2
      refine ⟨_, rfl, f, _, dxF, fsF, _, rfl, eF4, cF, aCame, l5, _, rfl, f, _, dxF, fsF, _, rfl, eF4, cF, aNet, l1, nt, _, dxN, fsN, _, rfl, eN4, cN, aT, lT, _, rfl, _, _, rfl, rfl, ?_⟩
      show rIxL K _ (V.int (PySem.Builtin.bitXor (p : Int) 1)) _ _
      rw [ex']
      refine ⟨tl, _, ((xo p : Nat) : Int), _, rfl, rfl, .inl (.inl hT4), atI_nat (v := vN u2) (by rw [List.getElem?_map, g.2]; rfl), cm, _, rfl, by rw [← back_val nd hb2]; exact DGet.k (k := Sum.inl (u2 : Int)) hC4, ?_⟩
      rw [List.length_cons] at em
      refine ⟨ps2.length, by omega, dn ++ [p], ps2, u2, rfl, by rw [eps, List.append_assoc]; rfl, hb2, k2.trans k24, by rw [pushes_snoc, err]; exact hR4, hE4, rfl⟩
end
end Ft

set_option Elab.async false
set_option linter.all false
set_option maxRecDepth 100000
set_option maxHeartbeats 4000000
namespace Ft
open PySem PySem.Spec PyProof.Rows L2
/-- {el for ta in ia if ..}, ints: D the new set -/
def tSet1 (w : World) (wi : TI) (ga : TG) (tca : TT) (te : TE) (all : List Nat) : TE := fun σ H Q => wi σ H fun J Ha => ∀ D, Ha D = none → ∃ W : Nat → Nat → Hp → Prop, (∃ m, W 0 m (upd Ha D (SetO w D (fun _ => false) 0))) ∧ ∀ i m Hb, W i m Hb →
  (J.stop i Hb ∧ Q (.ref D) Hb) ∨ (J.go i Hb ∧ ∃ N : Hp → Prop, (∀ Hc, N Hc → ∃ m', m' < m ∧ W (i + 1) m' Hc) ∧ ∀ x Hc, J.yld i Hb x Hc → ga x (wipe σ all) Hc fun σa Hd => wipe σa all = wipe σ all ∧ tca σa Hd fun z He =>
    if z = true then te σa He fun v Hk => ∃ (c : Int) (S : Int → Bool) (n : Nat), v = .int c ∧ Hk D = some (SetO w D S n) ∧ n + 1 < scanBound ∧ N (upd Hk D (SetO w D (fun j => S j || decide (j = c)) (if S c = true then n else n + 1)))
    else N He)
section
variable {X : Cx}
theorem set1_core {pins : List (Addr × Obj)} {s : Shared} {σ : L2.St} {H : Hp} {Q : VK} {el ta ia : Expr} {ca : List Expr} {sco : Scope} {own : List (Str × Nat)} {at_ at2 : Pos} {wi : TI} {ga : TG} {tca : TT} {te : TE} {use : Option (Value → Sem Unit)} {Qf : Value → Shared → Prop}
    (calm : X.calm = true) (nd : X.N.Nodup) (I : Inv X pins σ H s) (pi : PI X ta ia wi) (ok : BlkOk X.N X.env.scope sco own) (pga : InBlk X sco fun Y => PG Y ta ga) (pta : InBlk X sco fun Y => PTs Y ca tca)
    (pel : InBlk X sco fun Y => PE Y el te) (fa : ∀ x, foldedSetIterable ia X.env x = pure x) (h : tSet1 X.w wi ga tca te (own.map (·.2)) σ H Q)
    (back : ∀ D C t m Ht, Inv X pins σ Ht t → Q (.ref D) Ht → t.heap.Ns C m → FpOk X pins Ht C → compPost (model X.prog X.w) X.A X.xe use Qf (.ref D) C (.ok .next) t) :
    wpAny (model X.prog X.w) X.A (comprehension (.SetComp el [⟨ta, ia, ca, 0⟩] sco at_) sco X.env at2 (newSet (.type "set")) false (eval ia X.env) use) Qf X.xe s := by
  have cells : ∀ y ∈ sco.names, y.2 = .free → ∃ c, X.env.cells.lookup y.1 = some c := fun y hy e => (ok.free y hy e).elim (fun k => I.ok.has _ (.inl k)) (fun k => I.ok.has _ (.inr k))
  refine wpAny_comprehension_free (use := use) rfl fa (closure_ok cells) ok.kind (fun y hy e => by rw [ok.uniq y hy, e]) (thn (pi.run pins s σ H _ I h) fun xv s1 hx => thn hx fun itv s2 h2 => ?_)
  obtain ⟨it, fp, tn, J, Ha, e, Ia, T, sta, fpa, q⟩ := h2
  subst e
  refine PpSet.newSet_ok (newEnv_comp ?_)
  obtain ⟨D, eD⟩ : ∃ D, s2.heap.objs.size = D := ⟨_, rfl⟩
  have free : Ha D = none := Ia.hok.fresh (Nat.le_of_eq eD)
  obtain ⟨W, ⟨m0, w0⟩, turn⟩ := q D free
  obtain ⟨s3, es3⟩ : ∃ s3 : Shared, ({ s2 with heap := s2.heap.push { cls := .type "set", dict := none, data := .set #[] 0 (.fresh 0 0 (!X.w.params.followText "set-order")) } } : Shared) = s3 := ⟨_, rfl⟩
  have I3 : Inv X pins σ (upd Ha D (SetO X.w D (fun _ => false) 0)) s3 := by
    subst es3 eD
    exact Ia.laid (t' := s2.toks) (fun b o e => Heap.get?_push_of_some _ e) (Nat.le_refl _) (setO_new (setR_fresh X.w))
  have push3 : s3.heap = s2.heap.push { cls := .type "set", dict := none, data := .set #[] 0 (.fresh 0 0 (!X.w.params.followText "set-order")) } := by rw [← es3]
  have below : ∀ b ∈ fp, b < s2.heap.objs.size := fun b hb => by
    obtain ⟨_, e, _⟩ := T.obj _ _ sta b hb
    exact Heap.lt_size e
  have fp3 : ∀ b ∈ fp, FpOk X pins (upd Ha D (SetO X.w D (fun _ => false) 0)) b ∧ b < s3.heap.objs.size := fun b hb => by
    have lt := below b hb
    refine ⟨⟨by rw [upd_ne (by rw [← eD]; exact Nat.ne_of_lt lt)]; exact (fpa b hb).1, (fpa b hb).2⟩, ?_⟩
    rw [push3, Heap.size_push]
    exact Nat.lt_succ_of_lt lt
  have st3 : tn 0 s3.heap := T.keep _ _ _ sta fun b _ o e => by rw [push3]; exact Heap.get?_push_of_some _ e
  have I4 := block_start I3 ok nd fp3
  obtain ⟨cl, ecl⟩ : ∃ cl, cellsFrom (s3.heap.objs.size + 1) sco.names (cloFrom X.env.cells sco.names []) = cl := ⟨_, rfl⟩
  rw [ecl] at I4
  have pga := pga s3 (upd Ha D (SetO X.w D (fun _ => false) 0)) s3.heap.objs.size cl fp
  have pta := pta s3 (upd Ha D (SetO X.w D (fun _ => false) 0)) s3.heap.objs.size cl fp
  have pel := pel s3 (upd Ha D (SetO X.w D (fun _ => false) 0)) s3.heap.objs.size cl fp
  have none3 : ∀ b ∈ fp, (upd Ha D (SetO X.w D (fun _ => false) 0)) b = none := fun b hb => (fp3 b hb).1.1
  rw [eD, es3, ecl]
  obtain ⟨ev, eev⟩ : ∃ ev, compEnvC sco cl s3.heap.objs.size X.env = ev := ⟨_, rfl⟩
  have loc : ev.locals = s3.heap.objs.size := by
    subst eev
    rfl
  rw [eev] at I4 pga pta pel
  obtain ⟨H3, eH3⟩ : ∃ H3, upd Ha D (SetO X.w D (fun _ => false) 0) = H3 := ⟨_, rfl⟩
  rw [eH3] at I3 I4 pga pta pel w0 none3 fp3
  obtain ⟨s4, es4⟩ : ∃ s4 : Shared, ({ s3 with heap := pushCells (s3.heap.push { cls := .type "dict", data := .dict #[] }) sco.names } : Shared) = s4 := ⟨_, rfl⟩
  rw [es4] at I4
  have st4 : tn 0 s4.heap := T.keep _ _ _ st3 fun b _ o e => by rw [← es4]; exact pushCells_keeps _ _ _ _ (Heap.get?_push_of_some _ e)
  have calmF : ∀ {σt : L2.St} {Ht : Hp} {t : Shared}, Inv (X.blk s3 H3 sco ev fp) [] σt Ht t → (∀ b ∈ fp, Ht b = none) → ∀ b ∈ fp, FpOk (X.blk s3 H3 sco ev fp) [] Ht b := by
    intro σt Ht t It none b hb
    refine ⟨none b hb, (It.ok.exf b hb).1, It.ok.exfs b hb, .inl hb, (fun x c e => (It.ok.exf b hb).2 x c e), fun p hp => ?_⟩
    have : p ∈ ([] : List (Addr × Obj)) ++ [] := hp
    simp at this
  suffices z : codeAny (model X.prog X.w) X.A (.compStart (.SetComp el [⟨ta, ia, ca, 0⟩] sco at_) 0 (.ref it) (.ref D) ev) (compPost (model X.prog X.w) X.A X.xe use Qf (.ref D) s3.heap.objs.size) s4 by
    rw [← es4, ← eev] at z
    exact z
  obtain ⟨vs, evs⟩ : ∃ vs, own.map (·.2) = vs := ⟨_, rfl⟩
  rw [evs] at turn I4
  have loop : codeAny (model X.prog X.w) X.A (.compLoop (.SetComp el [⟨ta, ia, ca, 0⟩] sco at_) 0 (.ref it) (.ref D) ev) (compPost (model X.prog X.w) X.A X.xe use Qf (.ref D) s3.heap.objs.size) s4 := by
    refine PpSet.compLoopS_any (fun k t => ∃ i Ht, Inv (X.blk s3 H3 sco ev fp) [] (wipe σ vs) Ht t ∧ tn i t.heap ∧ (∀ b ∈ fp, Ht b = none) ∧ W i k Ht) ?_ m0 ⟨0, H3, I4, st4, none3, w0⟩
    rintro k s5 ⟨i, H5, I5, st5, n5, w5⟩
    rcases turn i k H5 w5 with ⟨stop, over⟩ | ⟨go, N, less, step⟩
    · refine thnF (T.done (X.blk s3 H3 sco ev fp) rfl rfl rfl calm i [] s5 _ H5 (fun _ _ => False) I5 (calmF I5 n5) st5 stop) fun r s6 ⟨er, I6⟩ => ?_
      subst er
      have I7 : Inv X pins σ H5 s6 := I3.call' (ch := fp) I6.os I6.base I6.hok I6.bare fun b hb => by
        obtain ⟨⟨_, f1, f2, f3, f4, f5⟩, _⟩ := fp3 b hb
        exact ⟨f3, f1, f4, f5⟩
      have freeC : H5 s3.heap.objs.size = none := by
        rw [← loc]
        exact I6.free
      obtain ⟨m, hm, _⟩ := I6.loc
      have hm : s6.heap.Ns ev.locals m := hm
      rw [loc] at hm
      exact back D s3.heap.objs.size s6 m H5 I7 over hm (I3.fpOk (Nat.le_refl _) freeC)
    · refine thnF (T.item (X.blk s3 H3 sco ev fp) rfl rfl rfl calm i [] s5 _ H5 (fun _ _ => False) I5 (calmF I5 n5) st5 go) fun r s6 ⟨u, er, h6⟩ => ?_
      subst er
      refine thnF h6 fun _ s7 ⟨x, H7, I7, r7, y7, st7, n7⟩ => ?_
      have I7p := I7.pinned (calmF I7 n7) (T.obj _ _ st7)
      refine thnF (pga.run _ s7 _ H7 x u _ I7p r7 (step x H7 y7)) fun _ s8 ⟨σ8, H8, I8, w8, q8⟩ => thnF (pta.run _ s8 σ8 H8 _ I8 q8) fun z s9 ⟨H9, I9, q9⟩ => ?_
      have len8 : (wipe σ vs).length = σ8.length := by rw [← w8, wipe_length]
      have know8 : ∀ (j : Nat) v, (wipe σ vs)[j]? = some (some v) → σ8[j]? = some (some v) := fun j v e => by
        rw [← w8] at e
        exact (wipe_some e).1
      have fin : ∀ {t : Shared} {Ht : Hp}, Inv (X.blk s3 H3 sco ev fp) ([] ++ pinsAt fp s7.heap) σ8 Ht t → N Ht → ∃ m, m < k ∧ ∃ i Hu, Inv (X.blk s3 H3 sco ev fp) [] (wipe σ vs) Hu t ∧ tn i t.heap ∧ (∀ b ∈ fp, Hu b = none) ∧ W i m Hu := by
        intro t Ht It hN
        obtain ⟨m, lt, wm⟩ := less Ht hN
        have pinned : ∀ b ∈ fp, ∀ o, s7.heap.get? b = some o → t.heap.get? b = some o ∧ Ht b = none := fun b hb o e => by
          have z := It.pin (b, o) (List.mem_append_right _ (List.mem_append_right _ (mem_pinsAt hb e)))
          exact ⟨z.1, z.2.1⟩
        refine ⟨m, lt, i + 1, Ht, (It.unpinned (pins := [])).weak len8 know8, T.keep _ _ _ st7 fun b hb o e => (pinned b hb o e).1, fun b hb => ?_, wm⟩
        obtain ⟨o, e, _⟩ := T.obj _ _ st7 b hb
        exact (pinned b hb o e).2
      cases z with
      | false =>
        simp only [Bool.false_eq_true, if_false] at q9 ⊢
        exact fin I9 q9
      | true =>
        simp only [if_true] at q9 ⊢
        refine thnF (pel.run _ s9 σ8 H9 _ I9 q9) fun v s17 ⟨yv, H17, I17, r17, cc, S0, n0, ey, hD17, room, hM⟩ => ?_
        subst ey
        obtain ⟨tk, rfl⟩ := r17
        exact put_ok (X := X.blk s3 H3 sco ev fp) I17 hD17 room fun t It => fin It hM
  exact PpSet.codeAny_compStart_set loop (T.self X.A 0 _ _ _ st4 loop)
theorem pe_set1 {el ta ia : Expr} {ca : List Expr} {sco : Scope} {own : List (Str × Nat)} {at_ : Pos} {wi : TI} {ga : TG} {tca : TT} {te : TE} (calm : X.calm = true) (nd : X.N.Nodup) (pi : PI X ta ia wi) (ok : BlkOk X.N X.env.scope sco own)
    (pga : InBlk X sco fun Y => PG Y ta ga) (pta : InBlk X sco fun Y => PTs Y ca tca) (pel : InBlk X sco fun Y => PE Y el te)
    (fa : ∀ x, foldedSetIterable ia X.env x = pure x := by intro _; rfl) : PE X (.SetComp el [⟨ta, ia, ca, 0⟩] sco at_) (tSet1 X.w wi ga tca te (own.map (·.2))) := by
  refine ⟨fun pins s σ H Q I h => ?_⟩
  rw [PpSet.eval_SetComp]
  refine set1_core calm nd I pi ok pga pta pel fa h fun D C t m Ht It q hm fc => ⟨m, hm, fun h'' sb => ?_⟩
  obtain ⟨f0, f1, _, f3, f4, f5⟩ := fc
  exact ⟨.ref D, Ht, It.turned (t' := t.toks) (fun b o hb e => (sb.2 b hb).trans e) f0 f1 f3 f4 f5, rfl, q⟩
end
end Ft

set_option Elab.async false
set_option linter.all false
set_option maxRecDepth 100000
set_option maxHeartbeats 8000000
namespace Ft
open PySem PySem.Spec PyProof.Rows L2
theorem NetAt.chart {ka : Str → Addr} {H : Hp} {p c : Addr} {C : Chart} {bl tl rl fl : Addr} {ls : List Addr} (h : NetAt ka H p c C bl tl rl fl ls) : ∃ dx fs, H p = some (.ins (ka "Net") dx fs) ∧ fs.lookup ("chart" : Str) = some (.ref c) := by
  obtain ⟨dx, fs, e, l, _⟩ := h.ob
  exact ⟨dx, fs, e, l⟩
/-- what is there while a flow is filled -/
structure Filled (ka : Str → Addr) (K : PySem.W.Frag) (H : Hp) (f nt lo rm en c bl tl rl fl : Addr) (ls : List Addr) (C : Chart) (S F room E : List Nat) : Prop where
  ap : ApartN nt f rm en bl tl rl fl ls
  net : NetAt ka H nt c C bl tl rl fl ls
  lot : SqT K H lo (S.map vN)
  rm : H rm = some (.lst (room.map vN))
  en : H en = some (.dK (keysOf (twos E)))
  fo : FlowOk C S F room E
section
variable {P : Program} {w : World} {K : PySem.W.Frag} {mg : Str → Option Value} {base : Heap} {ka : Str → Addr}
def sp_Flow__fill (K : PySem.W.Frag) (ka : Str → Addr) : Sp := fun vs H Q _ => ∃ (f nt lo rm en c bl tl rl fl : Addr) (ls : List Addr) (C : Chart) (S F room : List Nat) (cv : V) (most : Nat), vs = [.ref f, vN most] ∧ FlowOb ka H f nt lo rm en cv ∧ Filled ka K H f nt lo rm en c bl tl rl fl ls C S F room [] ∧ C.Ok ∧ S.Nodup ∧ LotsOk C S F ∧
  ∀ (room' E : List Nat) (cm : Addr) (L : List (Nat × Option Nat)) (H' : Hp), FlowOb ka H' f nt lo rm en (.ref cm) → Filled ka K H' f nt lo rm en c bl tl rl fl ls C S F room' E → H' cm = some (.dK (cameD L)) → E.length ≤ 60 → (E.length ≤ most ∧ Closed C S room' E L) ∨ E.length = most + 1 → Kp [f, rm, en] H H' → Q .non H'
theorem calm_Flow__fill (T : Txt mg) (D : DefM K ka "Flow" "_fill" "Flow._fill" s_Flow__fill) (k_Flow : Kls K mg ka "Flow") (q_Flow : Attrs K ka "Flow" flowFs) (w_Flow__further_end : CalM P w K mg base 2 ka "Flow" "_further_end" (sp_Flow__further_end K ka)) (w_Flow__add_way : CalM P w K mg base 1 ka "Flow" "_add_way" (sp_Flow__add_way K ka)) :
    CalM P w K mg base 3 ka "Flow" "_fill" (sp_Flow__fill K ka) := by
  refine calm_of D sc_Flow__fill (fun _ _ _ _ _ _ us hl => match us, hl with | [_, _], _ => rfl) (fun vs H Q E h => ?_) (fun f cdv A outer s H vs Q E hr h => ?_)
  · obtain ⟨f, nt, lo, rm, en, c, bl, tl, rl, fl, ls, C, S, F, room, cv, most, rfl, _⟩ := h
    rfl
  · obtain ⟨f, nt, lo, rm, en, c, bl, tl, rl, fl, ls, C, S, F, room, cv, most, rfl, hO, hF, ok, ndS, lo2, q⟩ := h
    have hu := hu_of hr
    have cF := k_Flow.cl
    have aEnd : NoAttr K (ka "Flow") "ended" := q_Flow _ (by decide)
    have wlen := up_len ok.upW ok.inW
    have n60 := ok.n60
    have apart : ∀ {H' : Hp} {xs : List V} {kvs : List (Key × V)} {cv : V}, FlowOb ka H' f nt lo rm en cv → H' rm = some (.lst xs) → H' en = some (.dK kvs) → f ∉ [rm, en] := fun h h1 h2 m => by
      obtain ⟨dx, fs, e, _⟩ := h.ex
      simp only [List.mem_cons, List.not_mem_nil, or_false] at m
      rcases m with z | z
      · rw [z, h1] at e; cases e
      · rw [z, h2] at e; cases e
    have lst3 : ∀ {H' : Hp} {xs : List V} {kvs : List (Key × V)} {cv : V}, FlowOb ka H' f nt lo rm en cv → H' rm = some (.lst xs) → H' en = some (.dK kvs) → Lists [f, rm, en] H' := fun h h1 h2 b hb => by
      obtain ⟨dx, fs, e, _⟩ := h.ex
      simp only [List.mem_cons, List.not_mem_nil, or_false] at hb
      rcases hb with z | z | z
      · rw [z]; exact ⟨_, e, (fun _ z => nomatch z), (fun _ _ z => nomatch z)⟩
      · rw [z]; exact ⟨_, h1, (fun _ z => nomatch z), (fun _ _ z => nomatch z)⟩
      · rw [z]; exact ⟨_, h2, (fun _ z => nomatch z), (fun _ _ z => nomatch z)⟩
    have wide : ∀ {H' H'' : Hp}, Kp [f] H' H'' → Kp [f, rm, en] H' H'' := fun k z o nz ez => k z o (fun m => nz (by rw [List.mem_singleton.mp m]; simp)) ez
    have wide2 : ∀ {H' H'' : Hp}, Kp [rm, en] H' H'' → Kp [f, rm, en] H' H'' := fun k z o nz ez => k z o (fun m => nz (by simp at m ⊢; exact .inr m)) ez
    have look : ∀ {H1 : Hp} {cv1 : V} {room1 E1 : List Nat} {R : VK}, Kp [f, rm, en] H H1 → FlowOb ka H1 f nt lo rm en cv1 → Filled ka K H1 f nt lo rm en c bl tl rl fl ls C S F room1 E1 →
        (∀ (v : V) (cm : Addr) (L : List (Nat × Option Nat)) (H2 : Hp), cm ≠ en → H2 cm = some (.dK (cameD L)) → FlowOb ka H2 f nt lo rm en (.ref cm) → Filled ka K H2 f nt lo rm en c bl tl rl fl ls C S F room1 E1 → Kp [f, rm, en] H H2 → Found C S room1 E1 v L → R v H2) → sp_Flow__further_end K ka [.ref f] H1 R E := by
      intro H1 cv1 room1 E1 R k1 hO1 h1 q1
      refine ⟨f, nt, lo, rm, en, c, bl, tl, rl, fl, ls, cv1, C, S, room1, E1, rfl, h1.ap.nf, hO1, h1.net, ok, h1.lot, ndS, lo2.inS, h1.rm, h1.fo.len, h1.en, fun v cm L H2 n0 hL hO2 k2 fd => ?_⟩
      have nf := apart hO1 h1.rm h1.en
      have nfr : rm ∉ [f] := fun m => nf (by rw [List.mem_singleton.mp m]; simp)
      have nfe : en ∉ [f] := fun m => nf (by rw [List.mem_singleton.mp m]; simp)
      obtain ⟨dx, fs, e, _⟩ := hO1.ex
      have nn : ∀ z ∈ nt :: bl :: tl :: rl :: fl :: ls, z ∉ [f] := fun z hz m => by
        have ez := List.mem_singleton.mp m
        subst ez
        simp only [List.mem_cons, List.not_mem_nil, or_false] at hz
        have noL : ∀ {y : Addr} {ys : List V}, H1 y = some (.lst ys) → z ≠ y := fun e' q => by rw [q, e'] at e; cases e
        rcases hz with h | h | h | h | h | h
        · exact h1.ap.nf h.symm
        · exact noL h1.net.top h
        · exact noL h1.net.tow h
        · exact noL h1.net.rms h
        · have := h1.net.fin
          rw [← h, e] at this
          cases this
        · obtain ⟨i, hi⟩ := List.getElem?_of_mem h
          exact noL (h1.net.each i z hi) rfl
      have l1 : Lists [f] H1 := fun b hb => by
        rw [List.mem_singleton.mp hb]
        exact ⟨_, e, (fun _ z => nomatch z), (fun _ _ z => nomatch z)⟩
      exact q1 v cm L H2 (fun z => by rw [z, h1.en] at n0; cases n0) hL hO2 ⟨h1.ap, h1.net.kp k2 nn, k2.sqT l1 h1.lot, k2 _ _ nfr h1.rm, k2 _ _ nfe h1.en, h1.fo⟩ (k1.trans (wide k2)) fd
    refine ⟨_, (pss_cons (ps_set (i := 2) sc_Flow__fill.nd rfl (Or.inl rfl) (pe_m0 w_Flow__further_end k_Flow hr (by decide) (pv 0)))
      (pss_one (ps_while PassesOwn.never (pt_cmpR op_notN (pv 2) pe_non (nomark _)) (pss_cons (ps_expr (pe_m w_Flow__add_way k_Flow hr (by decide) (pv 0) (pa_cons (pv 2) pa_nil)))
        (pss_one (ps_set (i := 2) sc_Flow__fill.nd rfl (Or.inl rfl) (pe_mid (pe_ifExp (pt_cmpR op_le (pe_callB call_lenD (by rfl) T.len (by decide +kernel) (pa_cons (show PE _ _ (tFld K _ _) from pe_fldD (pv 0)) pa_nil)) (pv 1) (nomark _)) (pe_m0 w_Flow__further_end k_Flow hr (by decide) (pv 0)) pe_non)))))))), ?_⟩
    obtain ⟨dxF, fsF, eF, l1, l2, l3, l4, l5, l6, l7⟩ := id hO.ex
    refine ⟨_, rfl, f, dxF, fsF, rfl, eF, l6 _ (by decide), ?_⟩
    refine look (Kp.refl _ _) hO hF fun v cm L H2 nce hL hO2 h2 k2 fd => ?_
    refine at_name ?_
    refine ⟨fun m σ H' => ∃ (room E : List Nat) (cm : Addr) (L : List (Nat × Option Nat)) (v : V), σ = [some (.ref f), some (vN most), some v] ∧ Kp [f, rm, en] H H' ∧ FlowOb ka H' f nt lo rm en (.ref cm) ∧ Filled ka K H' f nt lo rm en c bl tl rl fl ls C S F room E ∧ H' cm = some (.dK (cameD L)) ∧ cm ≠ en ∧ ((Found C S room E v L ∧ E.length ≤ most) ∨ (v = .non ∧ E.length = most + 1)) ∧ 61 - E.length = m,
      ⟨_, room, [], cm, L, v, rfl, k2, hO2, h2, hL, nce, .inl ⟨fd, Nat.zero_le _⟩, rfl⟩, ?_⟩
    rintro m σ H3 ⟨room3, E3, cm3, L3, v3, rfl, k3, hO3, h3, hL3, nce3, st, em⟩
    have e60 : E3.length ≤ 60 := Nat.le_trans (nodup_len_le h3.fo.nd fun x hx => h3.fo.inE x hx) (by omega)
    rcases st with ⟨fd3, lm⟩ | ⟨rfl, lm⟩
    · cases fd3 with
      | none cl =>
        refine ⟨_, rfl, rfl, _, rfl, iteF ?_⟩
        exact q room3 E3 cm3 L3 H3 hO3 h3 hL3 e60 (.inl ⟨lm, cl⟩) k3
      | @some _ wd tr hk hw hnE =>
        refine ⟨_, rfl, rfl, _, rfl, iteT ⟨fun σ' H' => ∃ m', m' < m ∧ ∃ (room E : List Nat) (cm : Addr) (L : List (Nat × Option Nat)) (v : V), σ' = [some (.ref f), some (vN most), some v] ∧ Kp [f, rm, en] H H' ∧ FlowOb ka H' f nt lo rm en (.ref cm) ∧ Filled ka K H' f nt lo rm en c bl tl rl fl ls C S F room E ∧ H' cm = some (.dK (cameD L)) ∧ cm ≠ en ∧ ((Found C S room E v L ∧ E.length ≤ most) ∨ (v = .non ∧ E.length = most + 1)) ∧ 61 - E.length = m', fun _ _ h => h, ?_⟩⟩
        obtain ⟨dx3, fs3, e3, _, _, _, _, _, l63, _⟩ := id hO3.ex
        have nf3 := apart hO3 h3.rm h3.en
        have ap3 := h3.ap.all h3.net h3.rm h3.en
        refine ⟨_, rfl, f, dx3, fs3, rfl, e3, l63 _ (by decide), _, rfl, f, nt, lo, rm, en, cm3, c, bl, tl, rl, fl, ls, C, S, room3, E3, L3, wd, rfl, h3.ap, nce3, hO3, h3.net, ok, h3.rm, h3.fo.len, h3.en, by omega, hL3, tr, hk, hnE, fun ps H4 hb bok hR4 hE4 k4 => ?_⟩
        have fo4 := h3.fo.more lo2 tr hw hnE hb bok
        have e61 : (E3 ++ [wd]).length ≤ 60 := Nat.le_trans (nodup_len_le fo4.nd fun x hx => fo4.inE x hx) (by omega)
        have l23 : Lists [rm, en] H3 := fun b hb => by
          simp only [List.mem_cons, List.not_mem_nil, or_false] at hb
          rcases hb with z | z
          · rw [z]; exact ⟨_, h3.rm, (fun _ z => nomatch z), (fun _ _ z => nomatch z)⟩
          · rw [z]; exact ⟨_, h3.en, (fun _ z => nomatch z), (fun _ _ z => nomatch z)⟩
        have h4 : Filled ka K H4 f nt lo rm en c bl tl rl fl ls C S F (pushes room3 ps) (E3 ++ [wd]) := ⟨h3.ap, h3.net.kp k4 ap3, k4.sqT l23 h3.lot, hR4, hE4, fo4⟩
        have hO4 := hO3.kp k4 nf3
        have k04 := k3.trans (wide2 k4)
        have ncr : cm3 ∉ [rm, en] := fun m => by
          simp only [List.mem_cons, List.not_mem_nil, or_false] at m
          rcases m with z | z
          · rw [z, h3.rm] at hL3; cases hL3
          · exact nce3 z
        have hL4 := k4 _ _ ncr hL3
        rw [List.length_append, List.length_singleton] at e61
        have less : 61 - (E3 ++ [wd]).length < m := by rw [List.length_append, List.length_singleton]; omega
        have el4 : (keysOf (twos (E3 ++ [wd]))).length = E3.length + 1 := by rw [keysOf_len]; unfold twos; rw [List.length_map, List.length_append]; rfl
        obtain ⟨dx4, fs4, e4, _, _, _, l44, _, l64, _⟩ := id hO4.ex
        refine ⟨fun v H' => ∃ (cm : Addr) (L : List (Nat × Option Nat)), Kp [f, rm, en] H H' ∧ FlowOb ka H' f nt lo rm en (.ref cm) ∧ Filled ka K H' f nt lo rm en c bl tl rl fl ls C S F (pushes room3 ps) (E3 ++ [wd]) ∧ H' cm = some (.dK (cameD L)) ∧ cm ≠ en ∧ ((Found C S (pushes room3 ps) (E3 ++ [wd]) v L ∧ (E3 ++ [wd]).length ≤ most) ∨ (v = .non ∧ (E3 ++ [wd]).length = most + 1)), ?_, ?_⟩
        · refine ⟨_, rfl, f, _, dx4, fs4, _, rfl, e4, cF, aEnd, l44, en, _, rfl, hE4, _, rfl, _, _, rfl, rfl, _, rfl, ite_any (fun hc => ?_) (fun hc => ?_)⟩
          · rw [el4] at hc
            have lm' : E3.length + 1 ≤ most := by
              have z : ((E3.length + 1 : Nat) : Int) ≤ (most : Int) := of_decide_eq_true hc
              omega
            refine ⟨_, rfl, f, dx4, fs4, rfl, e4, l64 _ (by decide), ?_⟩
            refine look k04 hO4 h4 fun v cm L H5 nce hL hO5 h5 k5 fd => ⟨cm, L, k5, hO5, h5, hL, nce, .inl ⟨fd, by rw [List.length_append]; exact lm'⟩⟩
          · rw [el4] at hc
            have lm' : ¬ (E3.length + 1 ≤ most) := by
              have z : ¬ (((E3.length + 1 : Nat) : Int) ≤ (most : Int)) := of_decide_eq_false hc
              omega
            exact ⟨cm3, L3, k04, hO4, h4, hL4, nce3, .inr ⟨rfl, by rw [List.length_append, List.length_singleton]; omega⟩⟩
        · rintro v H5 ⟨cm5, L5, k5, hO5, h5, hL5, nce5, st5⟩
          exact ⟨_, less, pushes room3 ps, E3 ++ [wd], cm5, L5, v, rfl, k5, hO5, h5, hL5, nce5, st5, rfl⟩
    · refine ⟨_, rfl, rfl, _, rfl, iteF ?_⟩
      exact q room3 E3 cm3 L3 H3 hO3 h3 hL3 e60 (.inr lm) k3
end
end Ft

set_option Elab.async false
set_option linter.all false
set_option maxRecDepth 100000
/-! a walk that is told in one of two ways -/
namespace Ft
open PySem PySem.Spec PyProof.Rows L2
theorem pi_or {X : Cx} {tg e : Expr} {w1 w2 : TI} (h1 : PI X tg e w1) (h2 : PI X tg e w2) : PI X tg e (fun σ H R => w1 σ H R ∨ w2 σ H R) :=
  ⟨fun pins s σ H R I h => h.elim (fun h => h1.run pins s σ H R I h) fun h => h2.run pins s σ H R I h⟩
theorem join_at {s rest : TS} {D : Ends} {σ : L2.St} {H : Hp} (M : L2.St → Hp → Prop) (h2 : ∀ σ H, M σ H → rest D σ H) (h1 : (∀ σ H, M σ H → rest D σ H) → s { D with nx := rest D } σ H) : tSeq s rest D σ H := h1 h2
end Ft

set_option Elab.async false
set_option linter.all false
set_option maxRecDepth 100000
set_option maxHeartbeats 8000000
namespace Ft
open PySem PySem.Spec PyProof.Rows L2
/-- a flow, done -/
def FlowAt (ka : Str → Addr) (K : PySem.W.Frag) (H : Hp) (f c : Addr) (C : Chart) (S F : List Nat) (most : Nat) (E : List Nat) : Prop := ∃ (nt lo rm en cm bl tl rl fl : Addr) (ls : List Addr) (room : List Nat) (L : List (Nat × Option Nat)),
  FlowOb ka H f nt lo rm en (.ref cm) ∧ Filled ka K H f nt lo rm en c bl tl rl fl ls C S F room E ∧ H cm = some (.dK (cameD L)) ∧ E.length ≤ 60 ∧ ((E.length ≤ most ∧ Closed C S room E L) ∨ E.length = most + 1)
theorem Filled.same {ka : Str → Addr} {K : PySem.W.Frag} {H H' : Hp} {f nt lo rm en c bl tl rl fl : Addr} {ls : List Addr} {C : Chart} {S F room E : List Nat} (s : Same H H') (h : Filled ka K H f nt lo rm en c bl tl rl fl ls C S F room E) : Filled ka K H' f nt lo rm en c bl tl rl fl ls C S F room E :=
  ⟨h.ap, h.net.same s, Same.sqT s h.lot, s _ _ h.rm, s _ _ h.en, h.fo⟩
theorem FlowAt.same {ka : Str → Addr} {K : PySem.W.Frag} {H H' : Hp} {f c : Addr} {C : Chart} {S F : List Nat} {most : Nat} {E : List Nat} (s : Same H H') (h : FlowAt ka K H f c C S F most E) : FlowAt ka K H' f c C S F most E := by
  obtain ⟨nt, lo, rm, en, cm, bl, tl, rl, fl, ls, room, L, h1, h2, h3, h4⟩ := h
  exact ⟨nt, lo, rm, en, cm, bl, tl, rl, fl, ls, room, L, h1.same s, h2.same s, s _ _ h3, h4⟩
/-- gates set to one number -/
def setG (v : Nat) (r : List Nat) (l : List Nat) : List Nat := l.foldl (fun r a => r.set (2 * a) v) r
theorem setG_len (v : Nat) : ∀ (l r : List Nat), (setG v r l).length = r.length
  | [], r => rfl
  | a :: l, r => by
    show (setG v (r.set (2 * a) v) l).length = _
    rw [setG_len v l, List.length_set]
theorem setG_snoc (v : Nat) (r l : List Nat) (a : Nat) : setG v r (l ++ [a]) = (setG v r l).set (2 * a) v := by
  unfold setG
  rw [List.foldl_append]
  rfl
theorem setG_get {v : Nat} : ∀ {l r : List Nat} {q : Nat}, q < r.length → (setG v r l).getD q 0 = if ∃ a ∈ l, q = 2 * a then v else r.getD q 0
  | [], r, q, h => by
    rw [if_neg (fun ⟨_, m, _⟩ => nomatch m)]
    rfl
  | a :: l, r, q, h => by
    show (setG v (r.set (2 * a) v) l).getD q 0 = _
    rw [setG_get (l := l) (by rw [List.length_set]; exact h), getD_set]
    by_cases h1 : ∃ b ∈ l, q = 2 * b
    · obtain ⟨b, hb, e⟩ := h1
      rw [if_pos ⟨b, hb, e⟩, if_pos ⟨b, List.mem_cons_of_mem _ hb, e⟩]
    · rw [if_neg h1]
      by_cases h2 : 2 * a = q
      · rw [if_pos ⟨h2, by omega⟩, if_pos ⟨a, List.mem_cons_self, h2.symm⟩]
      · rw [if_neg (fun z => h2 z.1), if_neg]
        rintro ⟨b, hb, e⟩
        rcases List.mem_cons.mp hb with x | hb
        · exact h2 (by rw [← x, e])
        · exact h1 ⟨b, hb, e⟩
theorem rms_even : ∀ {A : List Arc} {i : Nat} {a : Arc}, A[i]? = some a → (rms A).getD (2 * i) 0 = a.cap
  | b :: A, 0, a, h => by simp at h; subst h; rfl
  | b :: A, i + 1, a, h => by
    have := rms_even (A := A) (i := i) (a := a) (by simpa using h)
    show (b.cap :: 0 :: rms A).getD (2 * (i + 1)) 0 = _
    rw [show 2 * (i + 1) = 2 * i + 1 + 1 by omega]
    exact this
theorem rms_odd : ∀ {A : List Arc} {i : Nat}, (rms A).getD (2 * i + 1) 0 = 0
  | [], i => by simp [rms]
  | b :: A, 0 => rfl
  | b :: A, i + 1 => by
    have := rms_odd (A := A) (i := i)
    show (b.cap :: 0 :: rms A).getD (2 * (i + 1) + 1) 0 = _
    rw [show 2 * (i + 1) + 1 = 2 * i + 1 + 1 + 1 by omega]
    exact this
theorem start_room {C : Chart} {S F : List Nat} (lo : LotsOk C S F) : FlowOk C S F (setG 0 (setG 61 (rms (netA C)) F) S) [] := by
  have l0 : (setG 61 (rms (netA C)) F).length = 2 * (netA C).length := by rw [setG_len, rms_len]
  refine FlowOk.start (by rw [setG_len]; exact l0) fun i hi => ?_
  have ha : (netA C)[i]? = some (netA C)[i] := List.getElem?_eq_getElem hi
  constructor
  · rw [setG_get (by omega), setG_get (by rw [rms_len]; omega), rms_even ha]
    unfold capOf gateCap
    have sh : ∀ l : List Nat, (∃ a ∈ l, 2 * i = 2 * a) ↔ i ∈ l := fun l => ⟨fun ⟨a, h, e⟩ => by
      have : i = a := by omega
      rw [this]; exact h, fun h => ⟨i, h, rfl⟩⟩
    by_cases hn : i < C.n
    · rw [if_pos hn]
      have g := net_gate (C := C) hn
      rw [ha] at g
      have gc : (netA C)[i].cap = if i ∈ C.wished then 0 else 1 := by rw [Option.some.inj g]
      rw [gc]
      by_cases h1 : i ∈ S
      · rw [if_pos ((sh S).mpr h1), if_pos h1]
      · rw [if_neg (fun z => h1 ((sh S).mp z)), if_neg h1]
        by_cases h2 : i ∈ F
        · rw [if_pos ((sh F).mpr h2), if_pos h2]
        · rw [if_neg (fun z => h2 ((sh F).mp z)), if_neg h2]
    · rw [if_neg hn, if_neg (fun z => hn (lo.inS i ((sh S).mp z))), if_neg (fun z => hn (lo.inF i ((sh F).mp z)).1)]
      have m : (netA C)[i] ∈ roadsA C := by
        unfold netA at ha
        rw [List.getElem?_append_right (by rw [gates_len]; omega)] at ha
        exact List.mem_of_getElem? ha
      unfold roadsA at m
      obtain ⟨p, _, e⟩ := List.mem_map.mp m
      rw [← e]
  · rw [setG_get (by omega), setG_get (by rw [rms_len]; omega), rms_odd]
    rw [if_neg (fun ⟨a, _, e⟩ => by omega), if_neg (fun ⟨a, _, e⟩ => by omega)]
section
variable {P : Program} {w : World} {K : PySem.W.Frag} {mg : Str → Option Value} {base : Heap} {ka : Str → Addr}
def sp_Flow___init__ (K : PySem.W.Frag) (ka : Str → Addr) : Sp := fun vs H Q _ => ∃ (p nt lo fr c bl tl rl fl : Addr) (ls : List Addr) (C : Chart) (S F : List Nat) (most : Nat), vs = [.ref p, .ref nt, .ref lo, .ref fr, vN most] ∧ nt ≠ p ∧ ObjAt H p (ka "Flow") 0 (fun _ => none) ∧ NetAt ka H nt c C bl tl rl fl ls ∧ C.Ok ∧ SqT K H lo (S.map vN) ∧ (SqT K H fr (F.map vN) ∨ H fr = some (.lst (F.map vN))) ∧ S.Nodup ∧ LotsOk C S F ∧ F.length ≤ 60 ∧
  ∀ H' E, FlowAt ka K H' p c C S F most E → Kp [p] H H' → Q .non H'
theorem calm_Flow___init__ (T : Txt mg) (D : DefM K ka "Flow" "__init__" "Flow.__init__" s_Flow___init__) (k_Net : Kls K mg ka "Net") (q_Net : Attrs K ka "Net" netFs) (k_Flow : Kls K mg ka "Flow") (q_Flow : Attrs K ka "Flow" flowFs) (m_MANY : MgI mg "MANY" 61) (c_gate : Cal P w K mg base 1 "gate" sp_gate)
    (w_Flow__fill : CalM P w K mg base 3 ka "Flow" "_fill" (sp_Flow__fill K ka)) : CalM P w K mg base 4 ka "Flow" "__init__" (sp_Flow___init__ K ka) := by
  refine calm_of D sc_Flow___init__ (fun _ _ _ _ _ _ us hl => match us, hl with | [_, _, _, _, _], _ => rfl) (fun vs H Q E h => ?_) (fun f cdv A outer s H vs Q E hr h => ?_)
  · obtain ⟨p, nt, lo, fr, c, bl, tl, rl, fl, ls, C, S, F, most, rfl, _⟩ := h
    rfl
  · obtain ⟨p, nt, lo, fr, c, bl, tl, rl, fl, ls, C, S, F, most, rfl, nnp, hO, hN, ok, hS, hFr, ndS, lo2, few, q⟩ := h
    have hu := hu_of hr
    have n60 := ok.n60
    have cN := k_Net.cl
    have cF := k_Flow.cl
    have aNet : NoAttr K (ka "Flow") "net" := q_Flow _ (by decide)
    have aLot : NoAttr K (ka "Flow") "lot" := q_Flow _ (by decide)
    have aRoom : NoAttr K (ka "Flow") "room" := q_Flow _ (by decide)
    have aEnd : NoAttr K (ka "Flow") "ended" := q_Flow _ (by decide)
    have aCame : NoAttr K (ka "Flow") "came" := q_Flow _ (by decide)
    have aR : NoAttr K (ka "Net") "rooms" := q_Net _ (by decide)
    have netB : (netA C).length ≤ 300 := by
      have := net_len C
      have := ok.many
      omega
    have ndl := len_of_lt S C.n ndS lo2.inS
    refine ⟨_, (pss_cons (ps_fld (pv 0) (pv 1) rfl)
      (pss_cons (ps_fld (pv 0) (pv 2) rfl)
      (pss_cons (ps_fld (pv 0) (pe_callTy (show CallR _ _ (rListOf K) from call_listOf) (by rfl) T.list (by decide +kernel) (pa_cons (show PE _ _ (tFld K _ _) from pe_fldD (pv 1)) pa_nil)) rfl)
      (pss_cons (ps_for PassesOwn.never rfl (pi_or (show PI _ _ _ (iTup K _) from pi_tup (pv 3)) (show PI _ _ _ (iList K _) from pi_list (pv 3))) (pg_name (i := 5) sc_Flow___init__.nd rfl (Or.inl rfl)) (pss_one (ps_asg (pe_globI (n := 61) rfl m_MANY) (pg_sub (show PE _ _ (tFld K _ _) from pe_fldD (pv 0)) (pe_c c_gate hr (by decide) (by rfl) (pa_cons (pv 5) pa_nil)) set_list))))
      (pss_cons (ps_for PassesOwn.never rfl (show PI _ _ _ (iTup K _) from pi_tup (pv 2)) (pg_name (i := 5) sc_Flow___init__.nd rfl (Or.inl rfl)) (pss_one (ps_asg pe_int (pg_sub (show PE _ _ (tFld K _ _) from pe_fldD (pv 0)) (pe_c c_gate hr (by decide) (by rfl) (pa_cons (pv 5) pa_nil)) set_list))))
      (pss_cons (ps_fld (pv 0) pe_dnewK rfl)
      (pss_cons (ps_fld (pv 0) pe_dnewK rfl)
      (pss_one (ps_expr (pe_m w_Flow__fill k_Flow hr (by decide) (pv 0) (pa_cons (pv 4) pa_nil))))))))))), ?_⟩
    have hlp : ∀ {H' : Hp} {n : Nat} {look : Str → Option V}, ObjAt H' p (ka "Flow") n look → Lists [p] H' := fun h b hb => by
      rw [List.mem_singleton.mp hb]
      obtain ⟨dx, fs, e, _⟩ := h.ex
      exact ⟨_, e, (fun _ z => nomatch z), (fun _ _ z => nomatch z)⟩
    have netp : ∀ z ∈ nt :: bl :: tl :: rl :: fl :: ls, z ∉ [p] := fun z hz m => by
      have ez := List.mem_singleton.mp m
      subst ez
      obtain ⟨dx, fs, e, _⟩ := hO.ex
      simp only [List.mem_cons, List.not_mem_nil, or_false] at hz
      have noL : ∀ {y : Addr} {ys : List V}, H y = some (.lst ys) → z ≠ y := fun e' q => by rw [q, e'] at e; cases e
      rcases hz with h | h | h | h | h | h
      · exact nnp h.symm
      · exact noL hN.top h
      · exact noL hN.tow h
      · exact noL hN.rms h
      · have := hN.fin
        rw [← h, e] at this
        cases this
      · obtain ⟨i, hi⟩ := List.getElem?_of_mem h
        exact noL (hN.each i z hi) rfl
    refine ⟨_, rfl, _, rfl, fld_store hO (by decide) cF aNet fun H1 hO1 k1 => ?_⟩
    refine ⟨_, rfl, _, rfl, fld_store hO1 (by decide) cF aLot fun H2 hO2 k2 => ?_⟩
    have k02 := k1.trans k2
    have hN2 := hN.kp k02 netp
    have hS2 := k02.sqT (hlp hO) hS
    have hFr2 : SqT K H2 fr (F.map vN) ∨ H2 fr = some (.lst (F.map vN)) := hFr.imp (k02.sqT (hlp hO)) fun h => k02 _ _ (fun m => by
      obtain ⟨dx, fs, e, _⟩ := hO.ex
      rw [List.mem_singleton.mp m, e] at h
      cases h) h
    obtain ⟨dxN, fsN, eN, _, _, _, lR, _⟩ := hN2.ob
    refine ⟨_, rfl, nt, _, dxN, fsN, _, rfl, eN, cN, aR, lR, rl, _, rfl, .inl (.inl (.inl hN2.rms)), fun rm hrm => ?_⟩
    generalize eH3 : upd H2 rm _ = H3
    have s3 : Same H2 H3 := by rw [← eH3]; exact same_upd hrm
    have hR3 : H3 rm = some (.lst ((rms (netA C)).map vN)) := by rw [← eH3]; exact upd_same
    clear eH3
    obtain ⟨oP, eP⟩ := hO2.there
    have nrp : rm ≠ p := (ne_of_none eP hrm).symm
    refine ⟨_, rfl, fld_store (hO2.same s3) (by decide) cF aRoom fun H4 hO4 k4 => ?_⟩
    have hR4 : H4 rm = some (.lst ((rms (netA C)).map vN)) := k4 _ _ (by simpa using nrp) hR3
    have k24 : Kp [p] H2 H4 := (Kp.of_same s3).trans k4
    have hN4 := hN2.kp k24 netp
    have hS4 := k24.sqT (hlp hO2) hS2
    have hFr4 : SqT K H4 fr (F.map vN) ∨ (H4 fr = some (.lst (F.map vN)) ∧ fr ≠ rm) := hFr2.imp (k24.sqT (hlp hO2)) fun h => ⟨k24 _ _ (fun m => by
      obtain ⟨dx, fs, e, _⟩ := hO2.ex
      rw [List.mem_singleton.mp m, e] at h
      cases h) h, ne_of_none h hrm⟩
    have rmL : rm ∉ bl :: tl :: rl :: ls := fun m => by
      have h : ∃ o, H2 rm = some o := by
        simp only [List.mem_cons] at m
        rcases m with z | z | z | z
        · rw [z]; exact ⟨_, hN2.top⟩
        · rw [z]; exact ⟨_, hN2.tow⟩
        · rw [z]; exact ⟨_, hN2.rms⟩
        · obtain ⟨i, hi⟩ := List.getElem?_of_mem z
          exact ⟨_, hN2.each i rm hi⟩
      obtain ⟨o, h⟩ := h
      rw [hrm] at h
      cases h
    obtain ⟨dx4, fs4, e4, lk4, _⟩ := id hO4.ex
    have lRoom : fs4.lookup ("room" : Str) = some (.ref rm) := by rw [lk4]; exact setA_at
    have npr : p ∉ [rm] := fun m => nrp (List.mem_singleton.mp m).symm
    have room4 := rms_len (netA C)
    dsimp only
    refine join_at (M := fun σ H' => ∃ v5 : Option V, σ = [some (.ref p), some (.ref nt), some (.ref lo), some (.ref fr), some (vN most), v5] ∧ Kp [rm] H4 H' ∧ H' rm = some (.lst ((setG 61 (rms (netA C)) F).map vN))) (fun σ' H5 h5 => ?_) (fun nxt => ?_)
    rotate_left
    · rcases hFr4 with hFr4 | ⟨hFr4, nfr⟩
      · refine .inl ⟨_, rfl, fr, rfl, ⟨_, hFr4⟩, for_tup (K := K) (xs := F.map vN) (fun i σ H' => ∃ v5 : Option V, σ = [some (.ref p), some (.ref nt), some (.ref lo), some (.ref fr), some (vN most), v5] ∧ Kp [rm] H4 H' ∧ H' rm = some (.lst ((setG 61 (rms (netA C)) (F.take i)).map vN))) ⟨_, rfl, Kp.refl _ _, hR4⟩ (fun i σ H' _ ⟨_, _, k, _⟩ => k.sqT (lists_one hR4) hFr4) ?_ (fun σ H5 ⟨v5, e5, k5, hR5⟩ => nxt σ H5 ⟨v5, e5, k5, by rw [List.length_map, List.take_length] at hR5; exact hR5⟩)⟩
        rintro i x σ H5 hx ⟨v5, rfl, k5, hR5⟩
        obtain ⟨a, ha, rfl⟩ := get_map hx
        have hain := (lo2.inF a (List.mem_of_getElem? ha)).1
        refine at_name ?_
        have e5 := k5 _ _ npr e4
        have gl : 2 * a < (setG 61 (rms (netA C)) (F.take i)).length := by
          rw [setG_len, room4]
          have := gates_len C
          unfold netA
          rw [List.length_append]
          omega
        refine ⟨_, rfl, p, _, dx4, fs4, _, rfl, e5, cF, aRoom, lRoom, _, rfl, a, rfl, by omega, rm, _, _, _, rfl, rfl, hR5, ixN_nat (by rw [List.length_map]; exact gl), _, rfl, kp_put k5, ?_⟩
        rw [upd_same, take_more ha, setG_snoc, ← set_vN]
        rfl
      · refine .inr ⟨_, rfl, fr, rfl, ⟨_, .inl (.inl hFr4)⟩, for_list (K := K) (xs := F.map vN) (fun i σ H' => ∃ v5 : Option V, σ = [some (.ref p), some (.ref nt), some (.ref lo), some (.ref fr), some (vN most), v5] ∧ Kp [rm] H4 H' ∧ H' rm = some (.lst ((setG 61 (rms (netA C)) (F.take i)).map vN))) ⟨_, rfl, Kp.refl _ _, hR4⟩ (fun i σ H' _ ⟨_, _, k, _⟩ => .inl (.inl (k _ _ (by simpa using nfr) hFr4))) ?_ (fun σ H5 ⟨v5, e5, k5, hR5⟩ => nxt σ H5 ⟨v5, e5, k5, by rw [List.length_map, List.take_length] at hR5; exact hR5⟩)⟩
        rintro i x σ H5 hx ⟨v5, rfl, k5, hR5⟩
        obtain ⟨a, ha, rfl⟩ := get_map hx
        have hain := (lo2.inF a (List.mem_of_getElem? ha)).1
        refine at_name ?_
        have e5 := k5 _ _ npr e4
        have gl : 2 * a < (setG 61 (rms (netA C)) (F.take i)).length := by
          rw [setG_len, room4]
          have := gates_len C
          unfold netA
          rw [List.length_append]
          omega
        refine ⟨_, rfl, p, _, dx4, fs4, _, rfl, e5, cF, aRoom, lRoom, _, rfl, a, rfl, by omega, rm, _, _, _, rfl, rfl, hR5, ixN_nat (by rw [List.length_map]; exact gl), _, rfl, kp_put k5, ?_⟩
        rw [upd_same, take_more ha, setG_snoc, ← set_vN]
        rfl
    obtain ⟨v5, rfl, k5, hR5⟩ := h5
    have hS5 := k5.sqT (lists_one hR4) hS4
    obtain ⟨r1, er1⟩ : ∃ r1, setG 61 (rms (netA C)) F = r1 := ⟨_, rfl⟩
    rw [er1] at hR5
    have lr1 : r1.length = 2 * (netA C).length := by rw [← er1, setG_len, rms_len]
    refine ⟨_, rfl, lo, rfl, ⟨_, hS5⟩, for_tup (K := K) (xs := S.map vN) (fun i σ H' => ∃ v5 : Option V, σ = [some (.ref p), some (.ref nt), some (.ref lo), some (.ref fr), some (vN most), v5] ∧ Kp [rm] H5 H' ∧ H' rm = some (.lst ((setG 0 r1 (S.take i)).map vN))) ⟨_, rfl, Kp.refl _ _, hR5⟩ (fun i σ H' _ ⟨_, _, k, _⟩ => k.sqT (lists_one hR5) hS5) ?_ ?_⟩
    · rintro i x σ H6 hx ⟨v6, rfl, k6, hR6⟩
      obtain ⟨a, ha, rfl⟩ := get_map hx
      have hain := lo2.inS a (List.mem_of_getElem? ha)
      refine at_name ?_
      have e6 := k6 _ _ npr (k5 _ _ npr e4)
      have gl : 2 * a < (setG 0 r1 (S.take i)).length := by
        rw [setG_len, lr1]
        have := gates_len C
        unfold netA
        rw [List.length_append]
        omega
      refine ⟨_, rfl, p, _, dx4, fs4, _, rfl, e6, cF, aRoom, lRoom, _, rfl, a, rfl, by omega, rm, _, _, _, rfl, rfl, hR6, ixN_nat (by rw [List.length_map]; exact gl), _, rfl, kp_put k6, ?_⟩
      rw [upd_same, take_more ha, setG_snoc, ← set_vN]
      rfl
    rintro σ H6 ⟨v6, rfl, k6, hR6⟩
    rw [List.length_map, List.take_length, ← er1] at hR6
    have k46 := k5.trans k6
    have hN6 : NetAt ka H6 nt c C bl tl rl fl ls := hN4.kp k46 fun z hz m => by
      have ez := List.mem_singleton.mp m
      subst ez
      simp only [List.mem_cons] at hz
      rcases hz with h | h | h | h | h | h
      · obtain ⟨dx, fs, e, _⟩ := hN4.ob
        rw [← h, hR4] at e
        cases e
      · exact rmL (by simp [h])
      · exact rmL (by simp [h])
      · exact rmL (by simp [h])
      · have := hN4.fin
        rw [← h, hR4] at this
        cases this
      · exact rmL (by simp [h])
    have hS6 := k46.sqT (lists_one hR4) hS4
    have hO6 : ObjAt H6 p (ka "Flow") _ _ := hO4.keep k46 npr
    refine fun en hen => ?_
    generalize eH7 : upd H6 en _ = H7
    have s7 : Same H6 H7 := by rw [← eH7]; exact same_upd hen
    have hE7 : H7 en = some (.dK []) := by rw [← eH7]; exact upd_same
    clear eH7
    obtain ⟨oP6, eP6⟩ := hO6.there
    have nep : en ≠ p := (ne_of_none eP6 hen).symm
    refine ⟨_, rfl, fld_store (hO6.same s7) (by decide) cF aEnd fun H8 hO8 k8 => ?_⟩
    refine fun ce hce => ?_
    generalize eH9 : upd H8 ce _ = H9
    have s9 : Same H8 H9 := by rw [← eH9]; exact same_upd hce
    clear eH9
    refine ⟨_, rfl, fld_store (hO8.same s9) (by decide) cF aCame fun H10 hO10 k10 => ?_⟩
    have k610 : Kp [p] H6 H10 := (((Kp.of_same s7).trans k8).trans (Kp.of_same s9)).trans k10
    have hE10 : H10 en = some (.dK (keysOf (twos []))) := k10 _ _ (by simpa using nep) (s9 _ _ (k8 _ _ (by simpa using nep) hE7))
    have hR10 : H10 rm = some (.lst ((setG 0 (setG 61 (rms (netA C)) F) S).map vN)) := k610 _ _ (by simpa using nrp) hR6
    have hN10 := hN6.kp k610 netp
    have hS10 := k610.sqT (hlp hO6) hS6
    obtain ⟨dx, fs, e10, lk, hl⟩ := hO10.ex
    have hOb : FlowOb ka H10 p nt lo rm en (.ref ce) := by
      refine ⟨dx, fs, e10, ?_, ?_, ?_, ?_, ?_, fun m hm => ?_, by omega⟩
      · rw [lk, setA_off (by decide), setA_off (by decide), setA_off (by decide), setA_off (by decide)]; exact setA_at
      · rw [lk, setA_off (by decide), setA_off (by decide), setA_off (by decide)]; exact setA_at
      · rw [lk, setA_off (by decide), setA_off (by decide)]; exact setA_at
      · rw [lk, setA_off (by decide)]; exact setA_at
      · rw [lk]; exact setA_at
      · have nm : m ∉ flowFs := fun z => by
          revert hm z
          simp only [flowMs, flowFs, List.mem_cons, List.not_mem_nil, or_false]
          rintro (h | h | h | h | h | h | h | h | h | h) <;> subst h <;> decide
        simp only [flowFs, List.mem_cons, List.not_mem_nil, or_false, not_or] at nm
        rw [lk, setA_off nm.2.2.2.2, setA_off nm.2.2.2.1, setA_off nm.2.2.1, setA_off nm.2.1, setA_off nm.1]
    have apn : ApartN nt p rm en bl tl rl fl ls := ⟨nnp, rmL, fun z => by
      have := hN6.fin
      rw [← z, hen] at this
      cases this⟩
    have nfill : fs.lookup ("_fill" : Str) = none := by
      rw [lk, setA_off (by decide), setA_off (by decide), setA_off (by decide), setA_off (by decide), setA_off (by decide)]
    refine ⟨_, rfl, p, dx, fs, rfl, e10, nfill, _, rfl, p, nt, lo, rm, en, c, bl, tl, rl, fl, ls, C, S, F, _, .ref ce, most, rfl, hOb, ⟨apn, hN10, hS10, hR10, hE10, start_room lo2⟩, ok, ndS, lo2, fun room' E' cm L H' hO' hF' hL' e60 st k' => ?_⟩
    refine q H' E' ⟨nt, lo, rm, en, cm, bl, tl, rl, fl, ls, room', L, hO', hF', hL', e60, st⟩ fun z o nz ez => ?_
    have ez2 := k02 _ _ nz ez
    have ez4 := k24 _ _ nz ez2
    have n1 : z ≠ rm := ne_of_none ez2 hrm
    have ez6 := k46 _ _ (by simpa using n1) ez4
    have n2 : z ≠ en := ne_of_none ez6 hen
    exact k' _ _ (by simp at nz ⊢; exact ⟨nz, n1, n2⟩) (k610 _ _ nz ez6)
end
end Ft

set_option Elab.async false
set_option linter.all false
set_option maxRecDepth 100000
set_option maxHeartbeats 4000000
namespace Ft
open PySem PySem.Spec PyProof.Rows L2
/-! ### what repr shows of rows of places -/
def encL (l : List Nat) : PyData := .tuple (l.map fun (n : Nat) => .int (n : Int))
theorem small_int : ∀ n : Fin 64, (PyData.int ((n.1 : Nat) : Int)).showable = true ∧ (PyData.int ((n.1 : Nat) : Int)).leavesShort 13 = true ∧ (PyData.int ((n.1 : Nat) : Int)).weight ≤ 7 := by decide +kernel
theorem small_nat {n : Nat} (h : n < 64) : (PyData.int (n : Int)).showable = true ∧ (PyData.int (n : Int)).leavesShort 13 = true ∧ (PyData.int (n : Int)).weight ≤ 7 := small_int ⟨n, h⟩
theorem ints_shown : ∀ l : List Nat, (∀ n ∈ l, n < 64) → PyData.showableAll (l.map fun (n : Nat) => .int (n : Int)) = true ∧ PyData.leavesShortAll 13 (l.map fun (n : Nat) => .int (n : Int)) = true ∧ PyData.weightAll (l.map fun (n : Nat) => .int (n : Int)) ≤ 8 * l.length ∧ PyData.depthAll (l.map fun (n : Nat) => .int (n : Int)) = 0
  | [], _ => by simp [PyData.showableAll, PyData.leavesShortAll, PyData.weightAll, PyData.depthAll]
  | n :: l, h => by
    obtain ⟨a1, a2, a3⟩ := small_nat (h n List.mem_cons_self)
    obtain ⟨b1, b2, b3, b4⟩ := ints_shown l fun m hm => h m (List.mem_cons_of_mem _ hm)
    simp only [List.map_cons, PyData.showableAll, PyData.leavesShortAll, PyData.weightAll, PyData.depthAll, a1, a2, b1, b2, b4, List.length_cons, PyData.depth, Bool.and_self, Nat.max_self, true_and, and_true]
    omega
theorem shows_row {l : List Nat} (h : ∀ n ∈ l, n < 64) (few : l.length ≤ 64) : Shows (encL l) := by
  obtain ⟨b1, b2, b3, b4⟩ := ints_shown l h
  unfold encL
  refine ⟨?_, ?_, ?_, ?_⟩
  · simp only [PyData.showable, b1]
  · simp only [PyData.leavesShort, b2]
  · simp only [PyData.weight]
    omega
  · simp only [PyData.depth, b4]
    omega
theorem rows_shown : ∀ lls : List (List Nat), (∀ l ∈ lls, (∀ n ∈ l, n < 64) ∧ l.length ≤ 64) → PyData.showableAll (lls.map encL) = true ∧ PyData.leavesShortAll 13 (lls.map encL) = true ∧ PyData.weightAll (lls.map encL) ≤ 513 * lls.length ∧ PyData.depthAll (lls.map encL) ≤ 1
  | [], _ => by simp [PyData.showableAll, PyData.leavesShortAll, PyData.weightAll, PyData.depthAll]
  | l :: lls, h => by
    obtain ⟨a1, a2⟩ := h l List.mem_cons_self
    obtain ⟨c1, c2, c3, c4⟩ := ints_shown l a1
    obtain ⟨b1, b2, b3, b4⟩ := rows_shown lls fun m hm => h m (List.mem_cons_of_mem _ hm)
    have e : encL l = .tuple (l.map fun (n : Nat) => .int (n : Int)) := rfl
    simp only [List.map_cons, PyData.showableAll, PyData.leavesShortAll, PyData.weightAll, PyData.depthAll, b1, b2, List.length_cons, e, PyData.showable, PyData.leavesShort, PyData.weight, PyData.depth, c1, c2, c4, Bool.and_self, true_and]
    omega
theorem shows_rows {lls : List (List Nat)} (h : ∀ l ∈ lls, (∀ n ∈ l, n < 64) ∧ l.length ≤ 64) (few : lls.length ≤ 64) : Shows (.tuple (lls.map encL)) := by
  obtain ⟨b1, b2, b3, b4⟩ := rows_shown lls h
  refine ⟨?_, ?_, ?_, ?_⟩
  · simp only [PyData.showable, b1]
  · simp only [PyData.leavesShort, b2]
  · simp only [PyData.weight]
    omega
  · simp only [PyData.depth]
    omega
theorem dp_row {K : PySem.W.Frag} {H : Hp} {t : Addr} {l : List Nat} (h : SqT K H t (l.map vN)) : Dp K H (.ref t) (encL l) := by
  refine .tup h ?_
  have : DpAll K H ((iN l).map V.int) ((iN l).map PyData.int) := dpAll_ints _
  rw [← vN_map] at this
  unfold iN at this
  rw [List.map_map] at this
  exact this
end Ft

set_option Elab.async false
set_option linter.all false
set_option maxRecDepth 100000
set_option maxHeartbeats 4000000
/-! Lambdas that may raise, where the error's context is known to be None. -/
namespace Ft
open PySem PySem.Spec PyProof.Rows L2
open LamX (TabB TabS Tabs ExtN CodeO LamS lamCx lamEnv tLam)
def lamCxN (X : Cx) (A : Around) (outer : List Env) (s : Shared) (H : Hp) (E : XK) (sc : Scope) (f c' : Addr) : Cx :=
  { lamCx X A outer s H E sc f c' with xe := fun e z => wpAny (model X.prog X.w) (A.deeper (lamEnv X sc s.heap.objs.size f c')) (leaving (lamEnv X sc s.heap.objs.size f c') e) (fun _ y => L2N.CX X.prog X.w outer H s E e y) (fun e2 y => L2N.CX X.prog X.w outer H s E e2 y) z }
theorem lamN_inv {X : Cx} {A : Around} {outer : List Env} {s z : Shared} {H G : Hp} {E : XK} {sc : Scope} {f c' : Addr} {pins : List (Addr × Obj)} {σ : L2.St} (J : Inv (lamCx X A outer s H E sc f c') pins σ G z) : Inv (lamCxN X A outer s H E sc f c') pins σ G z := by
  have O := J.ok
  exact ⟨⟨O.mod, O.kind, O.glob, O.blt, O.above, O.inj, O.has, O.cab, O.hd, O.frames, O.stk, O.exf, O.bs, O.bsz, O.noex, O.exfs, O.funs, O.frf⟩, J.os, J.bare, J.base, J.loc, J.cell, J.free, J.freeC, J.pin, J.hok, J.len⟩
def GivesToN (X : Cx) (Ng : List Str) (x : Str) (sg : Scope) (g : Addr) (cdg : Value) (bg : List Stmt) (a : Str) (q : Str) (TT : (XK → Hp → VK → Prop) → Hp → VK → Prop) : Prop :=
  ∀ (f c' : Addr) (s : Shared) (H : Hp) (Q : VK) (tl : XK → Hp → VK → Prop),
    (∀ (W : WX) (pn : List (Addr × Obj)) (xe : Value → Shared → Prop) (E : XK) (p1 p2 : Pos), L2N.Takes ((cxOf L2.CX0 X.prog X.w X.K X.mg X.base Ng x sg g cdg X.A X.stack s H L2.E0).tr pn xe) W → (∀ cls d τ G, E cls d G → W cls d τ G) →
      PE ((cxOf L2.CX0 X.prog X.w X.K X.mg X.base Ng x sg g cdg X.A X.stack s H L2.E0).tr pn xe) (.Call (.Name a p1) [] [] p2) (fun τ G R => τ[0]? = some (some (.ref f)) ∧ G c' = some (CodeO c' q) ∧ tl E G R)) →
    H c' = some (CodeO c' q) → TT tl H Q →
    ∃ t, PSs (cxOf L2.CX0 X.prog X.w X.K X.mg X.base Ng x sg g cdg X.A X.stack s H L2.E0).nox bg t ∧ t { nx := fun _ G => Q .non G, rt := Q } (L2.start Ng [.ref f]) H
section
variable {X : Cx} {pins : List (Addr × Obj)} {σ : L2.St} {H : Hp} {s : Shared}
/-- the lambda called, within the def that got it -/
theorem pe_actN {CXg : CXT} {Eg : XK} {Ng : List Str} {qg : Str} {sg : Scope} {g f c' : Addr} {cdg pm ctv : Value} {params : Arguments} {body : Expr} {sc : Scope} {k i : Nat} {a : Str} {pn : List (Addr × Obj)} {xe : Value → Shared → Prop} {W : WX} {E : XK} {tb : TE} {p1 p2 : Pos}
    (I : Inv X pins σ H s) (L : LamS X.env.scope sc) (isF : s.heap.get? f = some (PySem.W.kla_obj "<lambda>" (X.env.qual ++ "<lambda>") params body sc (cloFrom X.env.cells sc.names []) pm c' ctv)) (noH : H f = none) (noFr : f ∉ frs X.stack)
    (binds : bindArgs (PySem.W.kla_fn "<lambda>" (X.env.qual ++ "<lambda>") params body sc (cloFrom X.env.cells sc.names []) pm (.ref c') ctv) ⟨[], []⟩ = pure [])
    (tk : L2N.Takes ((cxOf CXg X.prog X.w X.K X.mg X.base Ng qg sg g cdg X.A X.stack s H Eg).tr pn xe) W) (hW : ∀ cls d τ G, E cls d G → W cls d τ G) (hr : Room (k + 1) (X.A.deeper (envOfC qg sg s.heap.objs.size g cdg)))
    (hbody : ∀ (A : Around) (outer : List Env) (s : Shared) (H : Hp), Room k (A.deeper (lamEnv X sc s.heap.objs.size f c')) → PE (lamCxN X A outer s H E sc f c') body tb)
    (hN : Ng[i]? = some a) (hv : Vis sg a) (hd : (a == ("__debug__" : Str)) = false := by decide) (hcd : (a == ("__classdict__" : Str)) = false := by decide) :
    PE ((cxOf CXg X.prog X.w X.K X.mg X.base Ng qg sg g cdg X.A X.stack s H Eg).tr pn xe) (.Call (.Name a p1) [] [] p2) (fun τ G R => τ[i]? = some (some (.ref f)) ∧ G c' = some (CodeO c' (X.env.qual ++ "<lambda>")) ∧ tb σ G R) := by
  refine ⟨fun pinsZ z τ G R JZ ⟨slot, code, want⟩ => ?_⟩
  refine wpAny_Call_Name_kw (thn ((pe_var (pos := p1) (i := i) hN hv hd hcd).run pinsZ z τ G (fun v G1 => v = .ref f ∧ G1 = G) JZ ⟨.ref f, slot, rfl, rfl⟩) fun u z1 ⟨v, G1, J1, rel, ev, eG⟩ => ?_)
  subst ev eG
  obtain rfl : u = Value.ref f := rel
  have isF1 := J1.base.keep f _ isF noH noFr (fun m => nomatch (show f ∈ ([] : List Addr) from m))
  have ran : codeAny (model X.prog X.w) (X.A.deeper (envOfC qg sg s.heap.objs.size g cdg)) (.call (.ref f) ⟨[], []⟩) (CR (L2N.CX X.prog X.w) (envOfC qg sg s.heap.objs.size g cdg :: X.stack) X.prog X.w G1 z1 R E) z1 := by
    obtain ⟨⟨oc, vs, t, oAt, oData, oVs⟩, _, _⟩ := J1.hok c' _ code
    refine PySem.W.kla_callFunE hr.depth isF1 rfl L.co L.gen rfl ⟨c', oc, vs, t, rfl, oAt, oData, oVs⟩ ?_
    rw [binds]
    refine wpAny_pure (wpAny_newFunctionEnv (fun y hy => (L.own y hy).2) (fun y hy => absurd hy (by simp)) (fun h1 ns sb => ⟨J1.nolimit.fresh _ sb, ?_⟩) L.kind)
    show codeAny _ _ (.expr body (lamEnv X sc z1.heap.objs.size f c')) _ _
    have start := lamN_inv (LamX.lam_start2 (E := E) (f := f) (c' := c') (A := X.A.deeper (envOfC qg sg s.heap.objs.size g cdg)) (outer := envOfC qg sg s.heap.objs.size g cdg :: X.stack) (tk := z1.toks + ([] : List (Str × Value)).length) I L J1.env0 hr.hd J1.base ns fun b o e => sb.extBut b o (Nat.ne_of_lt (Heap.lt_size e)) (Heap.get?_push_of_some _ e))
    refine PySem.W.kla_codeExpr (wpAny_mono ((hbody _ _ z1 G1 (hr.deeper _)).run [] _ _ G1 R start want) (fun v y got => ?_) fun _ _ gone => gone)
    obtain ⟨v2, G2, J2, rel2, fin⟩ := got
    exact ⟨v2, G2, J2.os, J2.bare, J2.base, J2.hok, rel2, fin⟩
  refine PySem.W.callWith_F0 ⟨_, _, _, _, isF1⟩ (wpAny_call (codeAny_mono ran fun r y ended => ?_))
  rcases r with er | (_ | _ | _ | u)
  · exact L2N.passes_call tk hW pinsZ τ G1 z1 er y J1 ended
  all_goals first | exact False.elim ended | exact J1.after ended
end
/-- x(lambda: body) -/
theorem pe_lamcallN {X : Cx} {T : List (Addr × Str)} {TT : (XK → Hp → VK → Prop) → Hp → VK → Prop} {x a : Str} {g c P : Addr} {k : Nat} {pg : Arguments} {bg : List Stmt} {sg : Scope} {dV kV doc pm cdv ct oc : Value} {an od : Option Addr} {osl : Array (Option Value)} {Ng : List Str}
    {params : Arguments} {body : Expr} {sc : Scope} {t : XK → TE} {p lpos pos : Pos} (hg : Gl X x) (hm : X.mg x = some (.ref g)) (hk : PySem.W.keepIn X.K (.ref g) = true)
    (lk : X.K.lookup g = some ⟨oc, od, .func (PySem.W.fnOf x x pg bg sg dV kV doc pm an cdv ct), osl⟩) (code : PySem.W.codeIn X.K cdv x = true) (binds : L2.Binds X.K (PySem.W.fnOf x x pg bg sg dV kV doc pm an cdv ct) [a] []) (Sg : FnScope Ng [a] sg) (first : Ng[0]? = some a) (hva : Vis sg a)
    (gives : GivesToN X Ng x sg g cdv bg a (X.env.qual ++ "<lambda>") TT)
    (TB : TabB X.base X.mg c P) (mine : X.env.code = .ref c) (inT : (P, X.env.qual ++ "<lambda>") ∈ T) (alone : ∀ p ∈ T, p.1 = P → p.2 = X.env.qual ++ "<lambda>") (hr : Room (k + 2) X.A) (L : LamS X.env.scope sc) (hdef : defaultsOf params X.env = ([], []))
    (hbind : ∀ (q : Str) (cl : List (Str × Addr)) (pm cv ctv : Value), bindArgs (PySem.W.kla_fn "<lambda>" q params body sc cl pm cv ctv) ⟨[], []⟩ = pure [])
    (hbody : ∀ (A : Around) (outer : List Env) (s : Shared) (H : Hp) (E : XK) (f c' : Addr), Room k (A.deeper (lamEnv X sc s.heap.objs.size f c')) → PE (lamCxN X A outer s H E sc f c') body (t E))
    (hdb : (x == ("__debug__" : Str)) = false := by decide) (hd : (a == ("__debug__" : Str)) = false := by decide) (hcd : (a == ("__classdict__" : Str)) = false := by decide) :
    PE X (.Call (.Name x p) [.Lambda params body sc lpos] [] pos) (tLam T TT t) := by
  refine ⟨fun pins s σ H Q I ⟨tabs, want⟩ => wpAny_Call_Name_kw (ld_glob I hg hm (PySem.W.callWith_K (h₀ := X.base) I.ok.mod.kin hk ?_ (by rfl) (by rfl)) hdb)⟩
  show wpAny _ _ (spliced ((false, eval (.Lambda params body sc lpos) X.env) :: backTo pos (starEach [] X.env))) _ _ s
  refine Calls.spliced_cons (LamX.lam_make2 I TB mine inT alone tabs hdef (L.has I.ok) fun f c' pm2 ctv H1 z I1 grown tabs1 isF noH noFr codeAt => Calls.spliced_nil ⟨I1.kIn, ?_⟩)
  have ran : codeAny (model X.prog X.w) X.A (.call (.ref g) ⟨[.ref f], []⟩) (CR L2.CX0 X.stack X.prog X.w H1 z Q L2.E0) z := by
    refine LamX.run_ofS (N := Ng) (ps := [a]) (us := [.ref f]) (vs := [.ref f]) lk code Sg hr I1.env0 (binds z [.ref f] I1.kIn rfl) (.cons rfl .nil) rfl fun room => ?_
    obtain ⟨u, hu, fin⟩ := gives f c' z H1 Q (fun E G R => t E σ G R) (fun W pn xe E p1 p2 tk hW => pe_actN (i := 0) I1 L isF noH noFr (hbind _ _ _ _ _) tk hW room (fun A outer s H r => hbody A outer s H E f c' r) first hva hd hcd) codeAt (want H1 grown tabs1)
    exact ⟨u, hu.nox, fin⟩
  refine wpAny_call (codeAny_mono ran fun r y ended => ?_)
  rcases r with er | (_ | _ | _ | u)
  all_goals first | exact I1.after ended | exact (show False from ended).elim
end Ft

set_option Elab.async false
set_option linter.all false
set_option maxRecDepth 100000
set_option maxHeartbeats 4000000
/-! Lambdas without parameters, handed to a def that calls them; the end of a law whose defs make such. -/
namespace Ft
open PySem PySem.Spec PyProof.Rows L2
open LamX (TabB TabS Tabs ExtN CodeO LamS lamSB lamS_by lamEnv tLam)
/-! ### defs that make lambdas: their code object is known -/
structure DefT (K : PySem.W.Frag) (mg : Str → Option Value) (x : Str) (st : Stmt) (c : Addr) : Prop where
  ex : ∃ (f : Addr) (oc : Value) (od : Option Addr) (kV doc pm : Value) (an : Option Addr) (ct : Value) (osl : Array (Option Value)),
    K.lookup f = some ⟨oc, od, .func (PySem.W.fnOf x x (L2.defArgs st) (L2.defBody st) (L2.defScope st) .none kV doc pm an (.ref c) ct), osl⟩ ∧ PySem.W.codeIn K (.ref c) x = true ∧ PySem.W.keepIn K (.ref f) = true ∧ mg x = some (.ref f)
section
variable {P : Program} {w : World} {K : PySem.W.Frag} {mg : Str → Option Value} {base : Heap}
theorem calG_ofT {x : Str} {st : Stmt} {c : Addr} {N ps : List Str} {k : Nat} {sp : Sp} (D : DefT K mg x st c) (S : FnScope N ps (L2.defScope st))
    (bd : ∀ (kV doc pm : Value) (an : Option Addr) (cdv ct : Value) (us : List Value), us.length = ps.length → bindArgs (PySem.W.fnOf x x (L2.defArgs st) (L2.defBody st) (L2.defScope st) .none kV doc pm an cdv ct) ⟨us, []⟩ = pure (ps.zip us))
    (many : ∀ vs H Q E, sp vs H Q E → vs.length = ps.length)
    (body : ∀ (f : Addr) (A : Around) (out : List Env) (s : Shared) (H : Hp) (vs : List V) (Q : VK) (E : XK), A.guards = some [] → Room k (A.deeper (envOfC x (L2.defScope st) s.heap.objs.size f (.ref c))) → sp vs H Q E →
      ∃ t, PSs (cxOf L2.CX0 P w K mg base N x (L2.defScope st) f (.ref c) A out s H E).nox (L2.defBody st) t ∧ t { nx := fun _ H' => Q .non H', rt := Q } (start N vs) H) : CalG P w K mg base (k + 1) x sp := by
  obtain ⟨f, oc, od, kV, doc, pm, an, ct, osl, lk, hcd, kp, hm⟩ := D.ex
  refine ⟨f, _, ps, ⟨many, ?_⟩, hm, kp, .all (bd kV doc pm an (.ref c) ct)⟩
  intro A out s H args us vs Q E hg hr e0 hb r hsp
  have hin : K.In s.heap := e0.mod.kin.keeps (fun b o q => (e0.bs b o q).1)
  have nolim : s.heap.NoLimit := e0.mod.nolimit.keeps (fun b o q => (e0.bs b o q).1)
  have kinds : ∀ y ∈ ps.zip us, (L2.defScope st).names.lookup y.1 = some .local ∨ ((L2.defScope st).names.lookup y.1 = some .cell ∧ ((cellsFrom (s.heap.objs.size + 1) (L2.defScope st).names []).lookup y.1).isSome = true) := by
    intro y hy
    cases S.par y.1 (List.of_mem_zip (a := y.1) (b := y.2) hy).1 with
    | inl q => exact .inl q
    | inr q => exact .inr ⟨q, PySem.W.cellsFrom_some _ _ _ (.inl q)⟩
  refine codeAny_call_function hr.depth (hin _ _ lk) rfl S.co S.gen rfl (PySem.W.codeRec_of hin hcd) (hb _ _ _ _ ?_)
  refine wpAny_newFunctionEnv_cells S.kind kinds fun env he s1 z => ?_
  subst he
  refine ⟨nolim.keeps z.toInCall.keep, codeAny_func ?_⟩
  obtain ⟨t, ht, hq⟩ := body f A out s H vs Q E hg (hr.deeper _) hsp
  have I := inv_start (CX := L2.CX0) (E := E) (f := f) (cd := .ref c) (qual := x) S hr.hd e0 (many _ _ _ _ hsp) r z
  refine wpAny_mono (ht.nox.run [] s1 (start N vs) H _ I hq) ?_ (fun e s' hs => hs)
  intro fl s' hs
  have ends : ∀ {σ' : L2.St} {H' : Hp} {v : V} {u : Value}, Inv (cxOf L2.CX0 P w K mg base N x (L2.defScope st) f (.ref c) A out s H E) [] σ' H' s' → RelV v u → Q v H' → CE out P w H s Q u s' := by
    intro σ' H' v u J rv q
    exact ⟨v, H', J.os, J.bare, J.base, J.hok, rv, q⟩
  cases fl with
  | ret u => exact let ⟨v, σ', H', J, rv, q⟩ := hs; ends J rv q
  | next => exact let ⟨σ', H', J, q⟩ := hs; ends (v := V.non) (u := Value.none) J rfl q
  | brk => exact let ⟨_, _, _, q⟩ := hs; q.elim
  | cont => exact let ⟨_, _, _, q⟩ := hs; q.elim
end
/-! ### the def that calls what it got -/
/-- x() within a try, x the lambda handed in (slot 0) -/
def tAct (f c' : Addr) (q : Str) (tl : XK → Hp → VK → Prop) (W : WX) : TE := fun σ H Q => ∃ Ech : XK, (∀ cls d σ' H', Ech cls d H' → W cls d σ' H') ∧ σ[0]? = some (some (.ref f)) ∧ H c' = some (CodeO c' q) ∧ tl Ech H Q
theorem pe_actE {Y : Cx} {f c' : Addr} {q : Str} {tl : XK → Hp → VK → Prop} {W : WX} {e : Expr}
    (act : ∀ E : XK, (∀ cls d σ' H', E cls d H' → W cls d σ' H') → PE Y e (fun σZ HZ Q => σZ[0]? = some (some (.ref f)) ∧ HZ c' = some (CodeO c' q) ∧ tl E HZ Q)) : PE Y e (tAct f c' q tl W) :=
  ⟨fun pins s σ H Q I ⟨Ech, hW, h1, h2, h3⟩ => (act Ech hW).run pins s σ H Q I ⟨h1, h2, h3⟩⟩
/-! ### the lambda's body: a call of a def that may raise -/
theorem lam_takes {X : Cx} {A : Around} {outer : List Env} {s : Shared} {H : Hp} {E : XK} {scope : Scope} {f c' : Addr} : L2N.Takes (lamCxN X A outer s H E scope f c') (fun cls d _ H => E cls d H) :=
  L2N.takes_of rfl rfl rfl rfl
/-! ### the end of a law row: tables stand beside the script -/
theorem glawT {P : Program} {w : World} {K : PySem.W.Frag} {mg mb : Str → Option Value} {k : Nat} {fa a : Addr} {fd : FuncData} {x : Str} {sp : Sp} {s₁ : Shared} {vs : List Value} {ns : List Int} (cs : List (Addr × Addr))
    (KX : K.In s₁.heap) (hns : s₁.heap.Ns mainGlobals mg) (hb : s₁.heap.Ns builtinsNs mb) (hbb : ∀ x : Str, x ≠ "__name__" → mb x = bootBuiltins x) (hlim : s₁.heap.NoLimit) (hg : s₁.gens = #[])
    (hT : ∀ p ∈ cs, s₁.heap.get? p.2 = some { cls := .none, data := .fields #[] }) (nT : ∀ p ∈ cs, K.lookup p.2 = none) (hC : ∀ p ∈ cs, PySem.W.CodeHd s₁.heap p.1 p.2)
    (hbm : ∃ (bm : Addr) (ob : Obj), mg "__builtins__" = some (.ref bm) ∧ bm ≠ builtinsNs ∧ s₁.heap.get? bm = some ob ∧ ob.cls = .type "module" ∧ ob.dict = some builtinsNs ∧ ob.data = .plain)
    (ha : s₁.heap.get? a = some { cls := .type "list", data := .seq vs.toArray }) (hi : IntsAre vs ns) (hl : ns.length ≤ sizeLine) (hr : Room k callerA)
    (F : ∀ base : Heap, K.In base → base.Ns mainGlobals mg → (∀ p ∈ cs, TabB base mg p.1 p.2) → FnG P w K mg base k fa fd [x] sp) (hbind : ∀ (s : Shared) (u : Value), BindsTo s fd ⟨[u], []⟩ [(x, u)])
    (hsp : ∀ H : Hp, (∀ p ∈ cs, H p.2 = some (.tbl #[])) → SqL K H a (ns.map V.int) → sp [.ref a] H (fun v _ => v = .bl true) fun _ _ _ => False) :
    codeAny (model P w) callerA (.call (.ref fa) ⟨[.ref a], []⟩) (fun r s' => r = .ok (.ret (.bool true)) ∧ OldK s₁.heap s'.heap ∧ s'.os = s₁.os ∧ AllBare s'.gens) s₁ := by
  have rv := vals_ints hi
  let tabs : List Addr := cs.map (·.2)
  have tabAt : ∀ b ∈ tabs, s₁.heap.get? b = some { cls := .none, data := .fields #[] } := by
    intro b hb'
    obtain ⟨p, hp, rfl⟩ := List.mem_map.mp hb'
    exact hT p hp
  have tabIn : ∀ p ∈ cs, p.2 ∈ tabs := fun p hp => List.mem_map.mpr ⟨p, hp, rfl⟩
  have aOff : a ∉ tabs := by
    intro m
    have e := (tabAt a m).symm.trans ha
    have e2 := congrArg (fun o => (Option.map Obj.data o)) e
    simp at e2
  have heart : ∀ H : Hp, (∀ p ∈ cs, H p.2 = some (.tbl #[])) → (∀ b u, H b = some u → (b ∈ tabs ∧ u = .tbl #[]) ∨ (b = a ∧ ∃ o xs, u = .frz o (.lst xs))) → SqL K H a (ns.map V.int) → HOk P w H s₁.heap → (H a ≠ none → K.lookup a = none) →
      codeAny (model P w) callerA (.call (.ref fa) ⟨[.ref a], []⟩) (fun r s' => r = .ok (.ret (.bool true)) ∧ OldK s₁.heap s'.heap ∧ s'.os = s₁.os ∧ AllBare s'.gens) s₁ := by
    intro H hH hO hS hok hK
    have stays : ∀ {b : Addr} {o : Obj}, s₁.heap.get? b = some o → H b = none → (hidT s₁.heap H).get? b = some o := fun q n => hidT_get q n
    have off : ∀ {b : Addr} {o : Obj}, s₁.heap.get? b = some o → (∀ us n, o.data ≠ .seq us n) → o.data ≠ .fields #[] → H b = none := by
      intro b o q d1 d2
      cases z : H b with
      | none => rfl
      | some u =>
        rcases hO b u z with ⟨m, _⟩ | ⟨e, _⟩
        · have eo := Option.some.inj (q.symm.trans (tabAt b m))
          rw [eo] at d2
          exact absurd rfl d2
        · rw [e] at q
          have eo := Option.some.inj (q.symm.trans ha)
          rw [eo] at d1
          exact absurd rfl (d1 _ _)
    have dictOff : ∀ {b : Addr} {o : Obj} {es : Array DictEntry} {ep : Nat}, s₁.heap.get? b = some o → o.data = .dict es ep → H b = none := fun q d => off q (fun _ _ z => by rw [d] at z; cases z) (fun z => by rw [d] at z; cases z)
    have nsIn : ∀ {b : Addr} {m : Str → Option Value}, s₁.heap.Ns b m → (hidT s₁.heap H).Ns b m := fun ⟨o, es, ep, q, d, r⟩ => ⟨o, es, ep, stays q (dictOff q d), d, r⟩
    have kIn : K.In (hidT s₁.heap H) := by
      intro b o q
      refine stays (KX b o q) ?_
      cases z : H b with
      | none => rfl
      | some u =>
        rcases hO b u z with ⟨m, _⟩ | ⟨e, _⟩
        · obtain ⟨p, hp, ep⟩ := List.mem_map.mp m
          have := nT p hp
          rw [ep, q] at this
          cases this
        · subst e
          have := hK (by rw [z]; exact fun y => nomatch y)
          rw [this] at q
          exact nomatch q
    have hM : Mod K mg (hidT s₁.heap H) := by
      obtain ⟨mc, l1, l2⟩ := hlim
      exact ⟨kIn, nsIn hns, ⟨mb, nsIn hb, hbb⟩, ⟨mc, nsIn l1, l2⟩⟩
    have hTB : ∀ p ∈ cs, TabB (hidT s₁.heap H) mg p.1 p.2 := by
      intro p hp
      have hTp := hT p hp
      refine ⟨?_, ?_, fun z => ?_⟩
      · obtain ⟨o, us, file, tf, flags, tg, inF, text, tt, e1, r1, r2, r3, rest⟩ := hC p hp
        refine ⟨o, us, file, tf, flags, tg, inF, text, tt, stays e1 (off e1 (fun _ _ z => by rw [r2] at z; cases z) (fun z => ?_)), r1, r2, r3, rest⟩
        rw [r2] at z
        cases z
        simp at r3
      · obtain ⟨bm, ob, b1, b2, b3, b4, b5, b6⟩ := hbm
        have nG : bm ≠ mainGlobals := by
          intro q
          obtain ⟨o, es, ep, e, hd, _⟩ := hns
          rw [q, e] at b3
          cases b3
          rw [hd] at b6
          cases b6
        have nP : bm ≠ p.2 := by
          intro q
          rw [q, hTp] at b3
          cases b3
          cases b6
        exact ⟨bm, ob, b1, b2, nG, nP, stays b3 (off b3 (fun _ _ z => by rw [b6] at z; cases z) (fun z => by rw [b6] at z; cases z)), b4, b5, b6⟩
      · obtain ⟨o, es, ep, e, hd, _⟩ := hns
        rw [z, hTp] at e
        cases e
        cases hd
    have e0 : Env0 P w K mg (hidT s₁.heap H) callerA [] s₁ H :=
      ⟨rfl, hM, fun b o q => of_hidT q, Nat.le_of_eq (hidT_size _ _), trivial, fun b hb => absurd (show b ∈ ([] : List Addr) from hb) List.not_mem_nil, hok, .of_eq hg⟩
    refine codeAny_mono ((F _ kIn (nsIn hns) hTB).goes callerA [] s₁ H ⟨[.ref a], []⟩ [.ref a] [.ref a] _ _ rfl hr e0 (hbind s₁ (.ref a)) (.cons rfl .nil) (hsp H hH hS)) ?_
    intro r s' h
    cases r with
    | error e => exact h.elim
    | ok fl =>
      cases fl with
      | next => exact h.elim
      | brk => exact h.elim
      | cont => exact h.elim
      | ret u =>
        obtain ⟨v, H', os, bare, un, hok', rr, q⟩ := h
        have q' : v = V.bl true := q
        subst q'
        have eu : u = Value.bool true := rr
        subst eu
        have grown : ∀ p ∈ cs, ∃ more : Array Value, s'.heap.get? p.2 = some { cls := .none, data := .fields more } := by
          intro p hp
          obtain ⟨more, z⟩ := un.tbls p.2 #[] (hH p hp)
          exact ⟨_, hok' p.2 _ z⟩
        have kept : ∀ b o, b ∉ tabs → s₁.heap.get? b = some o → s'.heap.get? b = some o := by
          intro b o nb q
          cases z : H b with
          | none => exact un.keep b o q z (fun y => absurd (show b ∈ ([] : List Addr) from y) List.not_mem_nil) (fun y => absurd y List.not_mem_nil)
          | some u =>
            rcases hO b u z with ⟨m, _⟩ | ⟨_, ob, xs, y⟩
            · exact absurd m nb
            · subst y
              obtain ⟨e1, _⟩ := hok b _ z
              obtain ⟨e2, _⟩ := hok' b _ (un.frzs b ob _ z)
              have eo := Option.some.inj (q.symm.trans e1)
              rw [eo]
              exact e2
        refine ⟨rfl, ⟨fun b o q => ?_, fun b o q => ?_⟩, os, bare⟩
        · by_cases m : b ∈ tabs
          · obtain ⟨p, hp, ep⟩ := List.mem_map.mp m
            obtain ⟨more, hm⟩ := grown p hp
            rw [← ep] at q ⊢
            rw [hT p hp] at q
            cases q
            exact .inr (.inl ⟨((hC p hp).tab (hT p hp)).isCodeTable, rfl, #[], more, rfl, by rw [Array.empty_append]; exact hm⟩)
          · exact .inl (kept b o m q)
        · by_cases m : b ∈ tabs
          · obtain ⟨p, hp, ep⟩ := List.mem_map.mp m
            obtain ⟨more, hm⟩ := grown p hp
            rw [← ep]
            exact ⟨_, hm⟩
          · exact ⟨o, kept b o m q⟩
  let H0 : Hp := fun b => if b ∈ tabs then some (.tbl #[]) else none
  have H0t : ∀ b ∈ tabs, H0 b = some (.tbl #[]) := fun b m => if_pos m
  have H0n : ∀ b, b ∉ tabs → H0 b = none := fun b m => if_neg m
  cases hk : K.lookup a with
  | some o =>
    have eo := Option.some.inj ((KX a o hk).symm.trans ha)
    subst eo
    refine heart H0 (fun p hp => H0t _ (tabIn p hp)) (fun b u z => ?_) (.inr ⟨_, vs.toArray, _, hk, rfl, rfl, rfl, by rw [List.size_toArray, hi.length]; exact hl, by simpa using rv⟩) (fun b u z => ?_) (fun z => absurd (H0n a aOff) z)
    · by_cases m : b ∈ tabs
      · rw [H0t b m] at z
        cases z
        exact .inl ⟨m, rfl⟩
      · rw [H0n b m] at z
        cases z
    · by_cases m : b ∈ tabs
      · rw [H0t b m] at z
        cases z
        exact tabAt b m
      · rw [H0n b m] at z
        cases z
  | none =>
    let fz : HO := .frz { cls := .type "list", data := .seq vs.toArray } (.lst (ns.map V.int))
    let H1 : Hp := fun b => if b = a then some fz else H0 b
    have H1a : H1 a = some fz := if_pos rfl
    have H1n : ∀ b, b ≠ a → H1 b = H0 b := fun b m => if_neg m
    have ne : ∀ b ∈ tabs, b ≠ a := fun b m z => aOff (by rw [← z]; exact m)
    refine heart H1 (fun p hp => by rw [H1n _ (ne _ (tabIn p hp))]; exact H0t _ (tabIn p hp)) (fun b u z => ?_) (.inl (.inr ⟨{ cls := .type "list", data := .seq vs.toArray }, H1a⟩)) (fun b u z => ?_) (fun _ => hk)
    · by_cases e : b = a
      · rw [e, H1a] at z
        cases z
        exact .inr ⟨e, _, _, rfl⟩
      · rw [H1n b e] at z
        by_cases m : b ∈ tabs
        · rw [H0t b m] at z
          cases z
          exact .inl ⟨m, rfl⟩
        · rw [H0n b m] at z
          cases z
    · by_cases e : b = a
      · rw [e, H1a] at z
        cases z
        rw [e]
        exact ⟨ha, by rw [List.length_map]; exact hl, vs, _, rv, ha⟩
      · rw [H1n b e] at z
        by_cases m : b ∈ tabs
        · rw [H0t b m] at z
          cases z
          exact tabAt b m
        · rw [H0n b m] at z
          cases z
theorem gwalkT {l : PySem.W.OpenLaw} {n k : Nat} {q : Program} {loose : List Str} {XP : (Str → Option Value) → Heap → Prop} {YP : World → Heap → Prop} {d : DefRec} {K : Params → PySem.W.Frag} {x : Str}
    (hn : l.most = some n) (hn2 : n ≤ sizeLine) (hdf : d.params.defaults = []) (hr : Room k callerA) (hY : ∀ (w : World) (h : Heap), YP w h → (K w.params).In h)
    (F : ∀ (w : World) (mg : Str → Option Value) (fa : Addr) (h : Heap), YP w h → (K w.params).In h → h.Ns mainGlobals mg → mg d.name = some (.ref fa) →
      ∃ (fd : FuncData) (cs : List (Addr × Addr)) (sp : Sp), (∀ p ∈ cs, h.get? p.2 = some { cls := .none, data := .fields #[] }) ∧ (∀ p ∈ cs, (K w.params).lookup p.2 = none) ∧ (∀ p ∈ cs, PySem.W.CodeHd h p.1 p.2) ∧ (∀ (s : Shared) (u : Value), BindsTo s fd ⟨[u], []⟩ [(x, u)]) ∧
        (∀ (H : Hp) (a : Addr) (ns : List Int), ns.length ≤ n → (∀ p ∈ cs, H p.2 = some (.tbl #[])) → SqL (K w.params) H a (ns.map V.int) → sp [.ref a] H (fun v _ => v = .bl true) fun _ _ _ => False) ∧
        ∀ base : Heap, (K w.params).In base → base.Ns mainGlobals mg → (∀ p ∈ cs, TabB base mg p.1 p.2) → FnG l.prog w (K w.params) mg base k fa fd [x] sp) :
    PySem.W.WalkO q loose XP YP l.row.toRowW d [] (fun f vs => PySem.call f vs) := by
  refine Att.attach_callB hn hdf fun w s₀ s₁ mg mb fa o pm cd doc a vs ns G Y ho hd hcd hmg hobj hints hlen _ hg => ?_
  have KX := hY w _ Y
  obtain ⟨fd, cs, sp, h1, h2, h3, h4, h5, h6⟩ := F w mg fa _ Y KX G.T.g hmg
  exact glawT cs KX G.T.g G.T.b G.T.builtins G.T.nolimit hg h1 h2 h3 G.T.bmain hobj hints (Nat.le_trans hlen hn2) hr h6 h4 fun H hH hS => h5 H a ns hlen hH hS
/-! ### a def that calls the lambda it gets, by its name -/
structure CalL (P : Program) (w : World) (K : PySem.W.Frag) (mg : Str → Option Value) (base : Heap) (x : Str) (TT : (XK → Hp → VK → Prop) → Hp → VK → Prop) : Prop where
  ex : ∃ (g : Addr) (oc : Value) (od : Option Addr) (kV doc pm : Value) (an : Option Addr) (cdv ct : Value) (osl : Array (Option Value)) (st : Stmt) (Ng : List Str) (a : Str),
    K.lookup g = some ⟨oc, od, .func (PySem.W.fnOf x x (L2.defArgs st) (L2.defBody st) (L2.defScope st) .none kV doc pm an cdv ct), osl⟩ ∧ PySem.W.codeIn K cdv x = true ∧ PySem.W.keepIn K (.ref g) = true ∧ mg x = some (.ref g) ∧
    Binds K (PySem.W.fnOf x x (L2.defArgs st) (L2.defBody st) (L2.defScope st) .none kV doc pm an cdv ct) [a] [] ∧ FnScope Ng [a] (L2.defScope st) ∧ Ng[0]? = some a ∧ Vis (L2.defScope st) a ∧ (a == ("__debug__" : Str)) = false ∧ (a == ("__classdict__" : Str)) = false ∧
    ∀ (X : Cx) (q : Str), X.prog = P → X.w = w → X.K = K → X.mg = mg → X.base = base → GivesToN X Ng x (L2.defScope st) g cdv (L2.defBody st) a q TT
theorem pe_l {X : Cx} {T : List (Addr × Str)} {TT : (XK → Hp → VK → Prop) → Hp → VK → Prop} {x : Str} {c P : Addr} (k : Nat) {j : Nat} {params : Arguments} {body : Expr} {scope : Scope} {t : XK → TE} {p lpos pos : Pos} (cl : CalL X.prog X.w X.K X.mg X.base x TT) (hg : Gl X x)
    (TB : TabB X.base X.mg c P) (hcode : X.env.code = .ref c) (hmT : T = [(P, X.env.qual ++ "<lambda>")]) (hr : Room j X.A) (hk : k + 2 ≤ j) (L : LamS X.env.scope scope) (hdef : defaultsOf params X.env = ([], []))
    (hbind : ∀ (q : Str) (cl : List (Str × Addr)) (pm cv ctv : Value), bindArgs (PySem.W.kla_fn "<lambda>" q params body scope cl pm cv ctv) ⟨[], []⟩ = pure [])
    (hbody : ∀ (A : Around) (outer : List Env) (s : Shared) (H : Hp) (E : XK) (f c' : Addr), Room k (A.deeper (lamEnv X scope s.heap.objs.size f c')) → PE (lamCxN X A outer s H E scope f c') body (t E))
    (hdb : (x == ("__debug__" : Str)) = false := by decide) :
    PE X (.Call (.Name x p) [.Lambda params body scope lpos] [] pos) (tLam T TT t) := by
  obtain ⟨g, oc, od, kV, doc, pm, an, cdv, ct, osl, st, Ng, a, lk, hcd, kp, hm, b, S, h0, hv, hd, hcl, hG⟩ := cl.ex
  subst hmT
  exact pe_lamcallN (k := k) hg hm kp lk hcd b S h0 hv (hG X _ rfl rfl rfl rfl rfl) TB hcode (by simp) (fun p hp _ => by rw [List.mem_singleton.mp hp]) (hr.mono hk) L hdef hbind hbody hdb hd hcl
theorem calL_of {P : Program} {w : World} {K : PySem.W.Frag} {mg : Str → Option Value} {base : Heap} {x a : Str} {st : Stmt} {N : List Str} {TT : (XK → Hp → VK → Prop) → Hp → VK → Prop} (D : Def K mg x st) (S : FnScope N [a] (L2.defScope st)) (h0 : N[0]? = some a) (hv : Vis (L2.defScope st) a)
    (bd : ∀ (kV doc pm : Value) (an : Option Addr) (cdv ct : Value) (us : List Value), us.length = ([a] : List Str).length → bindArgs (PySem.W.fnOf x x (L2.defArgs st) (L2.defBody st) (L2.defScope st) .none kV doc pm an cdv ct) ⟨us, []⟩ = pure (([a] : List Str).zip us))
    (body : ∀ (X : Cx) (q : Str), X.prog = P → X.w = w → X.K = K → X.mg = mg → X.base = base → ∀ (g : Addr) (cdv : Value) (f c' : Addr) (s : Shared) (H : Hp) (Q : VK) (tl : XK → Hp → VK → Prop),
      (∀ (W : WX) (pn : List (Addr × Obj)) (xe : Value → Shared → Prop) (E : XK) (p1 p2 : Pos), L2N.Takes ((cxOf L2.CX0 P w K mg base N x (L2.defScope st) g cdv X.A X.stack s H L2.E0).tr pn xe) W → (∀ cls d σ' H', E cls d H' → W cls d σ' H') →
        PE ((cxOf L2.CX0 P w K mg base N x (L2.defScope st) g cdv X.A X.stack s H L2.E0).tr pn xe) (.Call (.Name a p1) [] [] p2) (fun σZ HZ Q => σZ[0]? = some (some (.ref f)) ∧ HZ c' = some (CodeO c' q) ∧ tl E HZ Q)) →
      H c' = some (CodeO c' q) → TT tl H Q → ∃ t, PSs (cxOf L2.CX0 P w K mg base N x (L2.defScope st) g cdv X.A X.stack s H L2.E0).nox (L2.defBody st) t ∧ t { nx := fun _ H' => Q .non H', rt := Q } (L2.start N [.ref f]) H)
    (hd : (a == ("__debug__" : Str)) = false := by decide) (hcl : (a == ("__classdict__" : Str)) = false := by decide) : CalL P w K mg base x TT := by
  obtain ⟨g, fd, F, hm⟩ := D.ex
  obtain ⟨oc, od, kV, doc, pm, an, cdv, ct, osl, rfl, lk, hcd⟩ := F.ex
  refine ⟨g, oc, od, kV, doc, pm, an, cdv, ct, osl, st, N, a, lk, hcd, F.kp, hm, .all (bd kV doc pm an cdv ct), S, h0, hv, hd, hcl, ?_⟩
  intro X q e1 e2 e3 e4 e5
  subst e1 e2 e3 e4 e5
  intro f c' s H Q tl act hc h
  exact body X q rfl rfl rfl rfl rfl g cdv f c' s H Q tl (fun W pn xe E p1 p2 tk hW => act W pn xe E p1 p2 tk hW) hc h
theorem lam_scope {sc0 sc scope : Scope} (e : sc0 = sc) (h : lamSB sc scope = true) : LamS sc0 scope := by
  rw [e]
  exact lamS_by h
end Ft

set_option Elab.async false
set_option linter.all false
set_option maxRecDepth 100000
set_option maxHeartbeats 4000000
namespace Ft
open PySem PySem.Spec PyProof.Rows L2
open LamX (TabB TabS Tabs ExtN CodeO)
/-! ### data of small numbers and short texts: what repr shows of it -/
def shortS (z : Str) : Bool := decide (z.cps.size ≤ 32) && z.cps.toList.all fun c => decide (c < 16 ^ 8)
mutual
def tame : PyData → Bool
  | .int i => decide (i.natAbs ≤ 1000)
  | .str z => shortS z
  | .list ds => tames ds
  | .tuple ds => tames ds
  | .dict _ => false
  | .none => true
  | .bool _ => true
def tames : List PyData → Bool
  | [] => true
  | d :: ds => tame d && tames ds
end
mutual
def nodes : PyData → Nat
  | .list ds => 1 + nodess ds
  | .tuple ds => 1 + nodess ds
  | _ => 1
def nodess : List PyData → Nat
  | [] => 0
  | d :: ds => nodes d + nodess ds
end
theorem tame_pos : ∀ n : Fin 1001, (PyData.int ((n.1 : Nat) : Int)).showable = true ∧ (PyData.int ((n.1 : Nat) : Int)).leavesShort 13 = true ∧ (PyData.int ((n.1 : Nat) : Int)).weight ≤ 11 := by decide +kernel
theorem tame_neg : ∀ n : Fin 1001, (PyData.int (-((n.1 : Nat) : Int))).showable = true ∧ (PyData.int (-((n.1 : Nat) : Int))).leavesShort 13 = true ∧ (PyData.int (-((n.1 : Nat) : Int))).weight ≤ 11 := by decide +kernel
theorem tame_int {i : Int} (h : i.natAbs ≤ 1000) : (PyData.int i).showable = true ∧ (PyData.int i).leavesShort 13 = true ∧ (PyData.int i).weight ≤ 11 := by
  rcases Int.natAbs_eq i with e | e
  · rw [e]
    exact tame_pos ⟨i.natAbs, by omega⟩
  · rw [e]
    exact tame_neg ⟨i.natAbs, by omega⟩
mutual
theorem tame_facts : ∀ d : PyData, tame d = true → d.showable = true ∧ d.leavesShort 13 = true ∧ d.weight + 1 ≤ 33 * nodes d
  | .none, _ => by simp [PyData.showable, PyData.leavesShort, PyData.weight, nodes]
  | .bool _, _ => by simp [PyData.showable, PyData.leavesShort, PyData.weight, nodes]
  | .int i, h => by
    simp only [tame, decide_eq_true_eq] at h
    obtain ⟨a, b, c⟩ := tame_int h
    refine ⟨a, b, ?_⟩
    simp only [nodes]
    omega
  | .str z, h => by
    simp only [tame, shortS, Bool.and_eq_true, decide_eq_true_eq] at h
    simp only [PyData.showable, PyData.leavesShort, PyData.weight, nodes]
    exact ⟨trivial, h.2, by have := h.1; omega⟩
  | .list ds, h => by
    simp only [tame] at h
    obtain ⟨a, b, c⟩ := tames_facts ds h
    simp only [PyData.showable, PyData.leavesShort, PyData.weight, nodes]
    exact ⟨a, b, by omega⟩
  | .tuple ds, h => by
    simp only [tame] at h
    obtain ⟨a, b, c⟩ := tames_facts ds h
    simp only [PyData.showable, PyData.leavesShort, PyData.weight, nodes]
    exact ⟨a, b, by omega⟩
  | .dict _, h => by simp [tame] at h
theorem tames_facts : ∀ ds : List PyData, tames ds = true → PyData.showableAll ds = true ∧ PyData.leavesShortAll 13 ds = true ∧ PyData.weightAll ds ≤ 33 * nodess ds
  | [], _ => by simp [PyData.showableAll, PyData.leavesShortAll, PyData.weightAll]
  | d :: ds, h => by
    simp only [tames, Bool.and_eq_true] at h
    obtain ⟨a1, b1, c1⟩ := tame_facts d h.1
    obtain ⟨a2, b2, c2⟩ := tames_facts ds h.2
    simp only [PyData.showableAll, PyData.leavesShortAll, PyData.weightAll, nodess, a1, a2, b1, b2]
    exact ⟨rfl, rfl, by omega⟩
end
theorem shows_tame {d : PyData} (h : tame d = true) (few : nodes d ≤ 20000) (dp : d.depth ≤ 60) : Shows d := by
  obtain ⟨a, b, c⟩ := tame_facts d h
  exact ⟨a, b, by omega, dp⟩
/-! ### what stays where all but tables stay -/
theorem ext_sqT {K : PySem.W.Frag} {H H' : Hp} (e : ExtN H H') {a : Addr} {xs : List V} (h : SqT K H a xs) : SqT K H' a xs := by
  rcases h with (h | ⟨o, h⟩) | h
  · exact .inl (.inl (e _ _ h fun ps z => by cases z))
  · exact .inl (.inr ⟨o, e _ _ h fun ps z => by cases z⟩)
  · exact .inr h
theorem ext_sqL {K : PySem.W.Frag} {H H' : Hp} (e : ExtN H H') {a : Addr} {xs : List V} (h : SqL K H a xs) : SqL K H' a xs := by
  rcases h with (h | ⟨o, h⟩) | h
  · exact .inl (.inl (e _ _ h fun ps z => by cases z))
  · exact .inl (.inr ⟨o, e _ _ h fun ps z => by cases z⟩)
  · exact .inr h
mutual
theorem dp_ext {K : PySem.W.Frag} {H H' : Hp} (e : ExtN H H') : ∀ (d : PyData) (v : V), Dp K H v d → Dp K H' v d
  | .none, _, h => by cases h; exact .non
  | .bool _, _, h => by cases h; exact .bl _
  | .int _, _, h => by cases h; exact .int _
  | .str _, _, h => by cases h; exact .str _
  | .list ds, _, h => by
    cases h with
    | lst h a => exact .lst (ext_sqL e h) (dp_exts e ds _ a)
  | .tuple ds, _, h => by
    cases h with
    | tup h a => exact .tup (ext_sqT e h) (dp_exts e ds _ a)
  | .dict _, _, h => by cases h
theorem dp_exts {K : PySem.W.Frag} {H H' : Hp} (e : ExtN H H') : ∀ (ds : List PyData) (vs : List V), DpAll K H vs ds → DpAll K H' vs ds
  | [], _, h => by cases h; exact .nil
  | d :: ds, _, h => by
    cases h with
    | cons h1 h2 => exact .cons (dp_ext e d _ h1) (dp_exts e ds _ h2)
end
theorem ext_same {H H' : Hp} (s : Same H H') : ExtN H H' := ExtN.of fun b o h => s b o h
theorem ext_chart {K : PySem.W.Frag} {H H' : Hp} (e : ExtN H H') {c : Addr} {C : Chart} (h : IsChart K H c C) : IsChart K H' c C := by
  obtain ⟨c2, e2, h2⟩ := chart_dp (dp_ext e _ _ (dp_chart h))
  cases e2
  exact h2
theorem tabs_same {T : List (Addr × Str)} {H H' : Hp} (t : Tabs T H) (s : Same H H') : Tabs T H' := t.ext fun b o h => s b o h
/-- lists change, tables don't -/
theorem tabs_kp {T : List (Addr × Str)} {H H' : Hp} {ex : List Addr} (t : Tabs T H) (k : Kp ex H H') (l : ∀ b ∈ ex, ∃ xs, H b = some (.lst xs)) : Tabs T H' := by
  intro p hp
  obtain ⟨ps, h1, h2, h3⟩ := t p hp
  have n1 : p.1 ∉ ex := fun m => by
    obtain ⟨xs, e⟩ := l _ m
    rw [h1] at e
    cases e
  refine ⟨ps, k _ _ n1 h1, h2, fun pos cv hc => ?_⟩
  obtain ⟨c, e1, e2⟩ := h3 pos cv hc
  have n2 : c ∉ ex := fun m => by
    obtain ⟨xs, e⟩ := l _ m
    rw [e2] at e
    unfold LamX.CodeO at e
    cases e
  exact ⟨c, e1, k _ _ n2 e2⟩
/-! ### tuples joined and cut -/
theorem catA_of {K : PySem.W.Frag} {a b : Addr} {xs ys : List V} {H : Hp} {Q : VK} (hx : SqT K H a xs) (hy : SqT K H b ys) (hl : xs.length + ys.length ≤ 1000) (q : ∀ p H', Same H H' → SqT K H' p (xs ++ ys) → Q (.ref p) H') : rCatA K (.ref a) (.ref b) H Q := by
  have big : (1000 : Nat) ≤ sizeLine := by decide
  refine ⟨a, b, xs, ys, rfl, rfl, hx, hy, by omega, fun e => ?_, fun _ e => ?_, fun _ _ p hp => ?_⟩
  · subst e
    exact q b H (fun _ _ h => h) hy
  · subst e
    exact q a H (fun _ _ h => h) (by rw [List.append_nil]; exact hx)
  · exact q p _ (same_upd hp) (.inl (.inl upd_same))
def cutG {α : Type} (l : List α) (lo hi : Option Int) : List α := (l.drop (HT.sIx l.length 0 lo)).take (HT.sIx l.length l.length hi - HT.sIx l.length 0 lo)
theorem slA_of {K : PySem.W.Frag} {a : Addr} {xs : List V} {lo hi : Option Int} {H : Hp} {Q : VK} (h : SqT K H a xs) (q : ∀ p H', Same H H' → SqT K H' p (cutG xs lo hi) → Q (.ref p) H') : rSlA K (.ref a) lo hi H Q := by
  refine ⟨a, xs, rfl, h, fun ⟨e1, e2⟩ => ?_, fun _ p hp => q p _ (same_upd hp) (.inl (.inl upd_same))⟩
  refine q a H (fun _ _ h => h) ?_
  have : cutG xs lo hi = xs := by
    unfold cutG
    rw [e1, e2]
    simp
  rw [this]
  exact h
theorem no_part {σ : L2.St} {H : Hp} {k : Option Int → Hp → Prop} (h : k none H) : tNoPart σ H k := h
theorem cutG_take {α : Type} {l : List α} {k : Nat} : cutG l none (some (k : Int)) = l.take k := by
  unfold cutG
  rw [HT.sIx_none, HT.sIx_nat]
  simp only [List.drop_zero, Nat.sub_zero]
  rcases Nat.le_total k l.length with h | h
  · rw [Nat.min_eq_left h]
  · rw [Nat.min_eq_right h, List.take_of_length_le (Nat.le_refl _), List.take_of_length_le h]
theorem cutG_drop {α : Type} {l : List α} {k : Nat} : cutG l (some (k : Int)) none = l.drop k := by
  unfold cutG
  rw [HT.sIx_none, HT.sIx_nat]
  rcases Nat.le_total k l.length with h | h
  · rw [Nat.min_eq_left h, List.take_of_length_le (by rw [List.length_drop]; exact Nat.le_refl _)]
  · rw [Nat.min_eq_right h, List.drop_eq_nil_of_le (Nat.le_refl _), List.drop_eq_nil_of_le h]
    simp
theorem cutG_init {α : Type} {l : List α} : cutG l none (some (-1)) = l.take (l.length - 1) := by
  unfold cutG
  rw [HT.sIx_none]
  have e : HT.sIx l.length l.length (some (-1)) = l.length - 1 := by
    show (if (-1 : Int) < 0 then ((-1 : Int) + (l.length : Int)).toNat else min (-1 : Int).toNat l.length) = l.length - 1
    rw [if_pos (by omega)]
    omega
  rw [e]
  simp
theorem dpAll_app {K : PySem.W.Frag} {H : Hp} : ∀ {xs ys : List V} {ds es : List PyData}, DpAll K H xs ds → DpAll K H ys es → DpAll K H (xs ++ ys) (ds ++ es)
  | _, _, _, _, .nil, h => h
  | _, _, _, _, .cons a t, h => .cons a (dpAll_app t h)
theorem dpAll_take {K : PySem.W.Frag} {H : Hp} : ∀ {k : Nat} {xs : List V} {ds : List PyData}, DpAll K H xs ds → DpAll K H (xs.take k) (ds.take k)
  | 0, _, _, _ => by simp only [List.take_zero]; exact .nil
  | _ + 1, _, _, .nil => .nil
  | k + 1, _, _, .cons a t => .cons a (dpAll_take t)
theorem dpAll_drop {K : PySem.W.Frag} {H : Hp} : ∀ {k : Nat} {xs : List V} {ds : List PyData}, DpAll K H xs ds → DpAll K H (xs.drop k) (ds.drop k)
  | 0, _, _, h => h
  | _ + 1, _, _, .nil => .nil
  | k + 1, _, _, .cons a t => dpAll_drop (k := k) t
end Ft

set_option Elab.async false
set_option linter.all false
set_option maxRecDepth 100000
set_option maxHeartbeats 8000000
namespace Ft
open PySem PySem.Spec PyProof.Rows L2
/-! tuple * int, once or more often -/
theorem tuple_mul1 (l : Addr) (items : Array Value) (n : Nat) (dd : Option Addr) (sl : Array (Option Value)) (u : Tok) :
    Meets (Builtin.«tuple.__mul__» ⟨[.ref l, .int 1 u], []⟩) (fun _ R s => s.heap.get? l = some { cls := .type "tuple", dict := dd, data := .seq items n, slots := sl } ∧ R (.ok (.ret (Value.ref l))) { s with heap := s.heap, toks := s.toks }) :=
  .of_wp fun prog w A R s h => by
    obtain ⟨hp, g, d, tk, os⟩ := s
    obtain ⟨hl, h⟩ := h
    have f1 := AutoSeq1.idx_int
    have c0 : (decide ((1 : Int) < -(2 ^ 63)) || decide ((1 : Int) ≥ 2 ^ 63)) = false := by decide
    have c1 : (items.isEmpty || (1 : Int) == 1) = true := by simp
    wp_walk using wpAny_loadPart' hl
    repeat (first
      | (refine wpAny_ite_false (decide_eq_false (by rw [c0]; exact Bool.false_ne_true)) ?_; wp_walk using wpAny_loadPart' hl)
      | (refine wpAny_ite_true (decide_eq_true (by rw [c1])) ?_; wp_walk using wpAny_loadPart' hl))
    exact ⟨_, rfl, h⟩
def rRep1 (K : PySem.W.Frag) : R2 := fun x y H Q => ∃ l xs, x = .ref l ∧ y = .int 1 ∧ SqT K H l xs ∧ Q (.ref l) H
theorem op_rep1 {X : Cx} : OpR X (binaryOp .Mult) (rRep1 X.K) := by
  intro pins s σ H x y v u Q I rx ry h
  obtain ⟨l, xs, rfl, rfl, hT, q⟩ := h
  have rx' := rx
  cases rx
  obtain ⟨t, rfl⟩ := ry
  obtain ⟨its, r, ⟨⟨cls, dd, data, sl⟩, ho, hc, n, hd⟩, hs⟩ := I.tuple hT
  simp only at hc hd
  subst hc hd
  refine wpAny_binaryOp_repeat_ref (T := "tuple") (U := "int") (by decide) ⟨_, ho, rfl⟩ (fun s' => typeIs_int s' 1 t) noFill_tuple_mul F.fills_int_mul F.slot_int_rmul repeat_tuple F.slot_int_index.lookup
    (call_meets F.slot_int_rmul (typeIs_int s 1 t) F.entry_int_rmul (F.args_int_rmul_2 _ _) (int_rmul_tuple 1 t l its.toArray n dd sl)
      ⟨ho, rfl, ⟨_, ho, rfl⟩, call_meets F.slot_tuple_mul ⟨_, ho, rfl⟩ F.entry_tuple_mul (F.args_tuple_mul_2 _ _) (tuple_mul1 l its.toArray n dd sl t) ⟨ho, ?_⟩⟩)
  exact ⟨.ref l, H, I.tok _, rfl, q⟩
def rRepA (K : PySem.W.Frag) : R2 := fun x y H Q => ∃ l k xs, x = .ref l ∧ y = .int k ∧ SqT K H l xs ∧ xs ≠ [] ∧ 1 ≤ k ∧ k ≤ 1000 ∧ xs.length ≤ 1000 ∧ ∀ p H', Same H H' → SqT K H' p (List.replicate k.toNat xs).flatten → Q (.ref p) H'
theorem op_repA {X : Cx} : OpR X (binaryOp .Mult) (rRepA X.K) := by
  intro pins s σ H x y v u Q I rx ry h
  obtain ⟨l, k, xs, rfl, rfl, hT, ne, k1, k2, few, q⟩ := h
  by_cases e : k = 1
  · subst e
    refine op_rep1 pins s σ H _ _ _ _ Q I rx ry ⟨l, xs, rfl, rfl, hT, q l H (fun _ _ h => h) ?_⟩
    show SqT X.K H l (List.replicate 1 xs).flatten
    simpa using hT
  · exact op_repT pins s σ H _ _ _ _ Q I rx ry ⟨l, k, xs, rfl, rfl, hT, ne, by omega, k2, few, fun p hp => q p _ (same_upd hp) (.inl (.inl upd_same))⟩
open RZ in
theorem walk_zipT {K : PySem.W.Frag} {a b : Addr} {xs ys : List V} {n : Nat} (hn : n = min xs.length ys.length) : Walk (ItzT K a b) n (fun H => SqT K H a xs ∧ SqT K H b ys) (YPair (fun i => xs[i]?) (fun i => ys[i]?)) := by
  subst hn
  refine ⟨fun i _ hi q => ?_, fun _ q => ⟨xs, ys, q.1, q.2, by omega⟩, fun i H v H' _ q y => ?_⟩
  · have h1 : i < xs.length := by omega
    have h2 : i < ys.length := by omega
    exact ⟨xs, ys, xs[i], ys[i], q.1, q.2, by simp [h1], by simp [h2]⟩
  · obtain ⟨T, x, z, h1, h2, h3, h4, h5⟩ := y
    exact ⟨T, x, z, h1, h2, h3, h4 xs q.1, h5 ys q.2⟩
end Ft

set_option Elab.async false
set_option linter.all false
set_option maxRecDepth 100000
set_option maxHeartbeats 8000000
namespace Ft
open PySem PySem.Spec PyProof.Rows L2
open RZ
/-! ### later standings -/
/-- the places at which a thread of this place is in later standings -/
noncomputable def laterL (C : Chart) (a : Nat) : List Nat := pieceOf C a ++ metU C [a]
/-- their least places -/
noncomputable def firstsOf (C : Chart) (a : Nat) : List Nat := those C.n fun f => ∃ b ∈ laterL C a, leastOf C b = f
/-- each row with each of these behind it -/
def grow (rows : List (List Nat)) (fs : List Nat) : List (List Nat) := rows.flatMap fun r => fs.map fun f => r ++ [f]
noncomputable def laterRows (C : Chart) (S : List Nat) : List (List Nat) := S.foldl (fun rows a => grow rows (firstsOf C a)) [[]]
noncomputable def singleOf (C : Chart) : Nat := (piecesL C).length + C.wished.length
theorem later_lt {C : Chart} {a b : Nat} (ha : a < C.n) (h : b ∈ laterL C a) : b < C.n := by
  rcases List.mem_append.mp h with h | h
  · exact piece_lt' ha h
  · exact (those_mem.mp h).1
theorem later_len {C : Chart} {a : Nat} (ok : C.Ok) (ha : a < C.n) : (laterL C a).length ≤ 120 := by
  have n60 := ok.n60
  have h1 := up_len (piece_up C a) fun b hb => piece_lt' ha hb
  have h2 := those_len C.n fun b => b ∉ C.wished ∧ ∃ x ∈ [a], Reach C.roads C.wished x b
  unfold laterL metU
  rw [List.length_append]
  omega
theorem firsts_lt {C : Chart} {a f : Nat} (h : f ∈ firstsOf C a) : f < C.n := (those_mem.mp h).1
theorem firsts_len {C : Chart} {a : Nat} : (firstsOf C a).length ≤ C.n := those_len _ _
theorem single_le {C : Chart} (ok : C.Ok) : singleOf C ≤ 120 := by
  have n60 := ok.n60
  have hw := up_len ok.upW ok.inW
  have h1 : (piecesL C).length ≤ C.n := by
    unfold piecesL
    rw [List.length_map]
    exact Nat.le_trans (List.length_filter_le ..) (unw_len C)
  unfold singleOf
  omega
section
variable {P : Program} {w : World} {K : PySem.W.Frag} {mg : Str → Option Value} {base : Heap} {ca : Str → Addr}
/-! ### later_places -/
def sp_later_places (K : PySem.W.Frag) : Sp := fun vs H Q _ => ∃ (c tb : Addr) (C : Chart) (rows : List Addr) (a : Nat), vs = [.ref c, .ref tb, vN a] ∧ IsChart K H c C ∧ C.Ok ∧ a < C.n ∧ H tb = some (.lst (rows.map V.ref)) ∧ PiecesAt K H C rows ∧ ∀ q H', Same H H' → H q = none → H' q = some (.lst ((laterL C a).map vN)) → Q (.ref q) H'
/-! ### check_size -/
def spX_check_size (K : PySem.W.Frag) (ca : Str → Addr) : Sp := fun vs H Q E => ∃ (c tb : Addr) (C : Chart) (rows : List Addr) (m : Nat), vs = [.ref c, .ref tb, vN m] ∧ IsChart K H c C ∧ C.Ok ∧ H tb = some (.lst (rows.map V.ref)) ∧ PiecesAt K H C rows ∧ m ≤ 3 ∧
  (400 < singleOf C ^ m → Raised K ca H E ("TooMany", nD (singleOf C ^ m))) ∧ (singleOf C ^ m ≤ 400 → ∀ H', Same H H' → Q .non H')
end
end Ft

set_option Elab.async false
set_option linter.all false
set_option maxRecDepth 100000
set_option maxHeartbeats 8000000
namespace Ft
open PySem PySem.Spec PyProof.Rows L2
open RZ
theorem grow_len {rows : List (List Nat)} {fs : List Nat} : (grow rows fs).length = rows.length * fs.length := by
  induction rows with
  | nil => show 0 = 0 * fs.length; rw [Nat.zero_mul]
  | cons r rows ih =>
    show ((fs.map fun f => r ++ [f]) ++ grow rows fs).length = (rows.length + 1) * fs.length
    rw [List.length_append, List.length_map, ih, Nat.succ_mul, Nat.add_comm]
theorem grow_take {rows : List (List Nat)} {fs : List Nat} {j : Nat} {r : List Nat} (h : rows[j]? = some r) : grow (rows.take (j + 1)) fs = grow (rows.take j) fs ++ fs.map fun f => r ++ [f] := by
  rw [take_more h]
  unfold grow
  rw [List.flatMap_append]
  simp
theorem grow_each {rows : List (List Nat)} {fs : List Nat} {n : Nat} (h : ∀ r ∈ rows, r.length = n) : ∀ r ∈ grow rows fs, r.length = n + 1 := by
  intro r hr
  obtain ⟨x, hx, h2⟩ := List.mem_flatMap.mp hr
  obtain ⟨f, hf, rfl⟩ := List.mem_map.mp h2
  rw [List.length_append, h x hx]
  rfl
theorem foldl_take {C : Chart} {S : List Nat} {i a : Nat} (h : S[i]? = some a) : laterRows C (S.take (i + 1)) = grow (laterRows C (S.take i)) (firstsOf C a) := by
  unfold laterRows
  rw [take_more h, List.foldl_append]
  rfl
theorem laterFold_each {C : Chart} : ∀ (S : List Nat) (rows : List (List Nat)) (n : Nat), (∀ r ∈ rows, r.length = n) → ∀ r ∈ S.foldl (fun rows a => grow rows (firstsOf C a)) rows, r.length = n + S.length
  | [], rows, n, h => h
  | a :: S, rows, n, h => fun r hr => by
    have := laterFold_each S (grow rows (firstsOf C a)) (n + 1) (grow_each h) r hr
    rw [List.length_cons]
    omega
theorem laterRows_each {C : Chart} {S : List Nat} : ∀ r ∈ laterRows C S, r.length = S.length := fun r hr => by
  have := laterFold_each S [[]] 0 (fun r h => by rw [List.mem_singleton.mp h]; rfl) r hr
  omega
theorem rows_few {C : Chart} (ok : C.Ok) : ∀ (S : List Nat) (rows : List (List Nat)) (m : Nat), rows.length ≤ m → (S.foldl (fun rows a => grow rows (firstsOf C a)) rows).length ≤ m * 60 ^ S.length
  | [], rows, m, h => by
    show rows.length ≤ m * 1
    omega
  | a :: S, rows, m, h => by
    have n60 := ok.n60
    have hf : (firstsOf C a).length ≤ C.n := firsts_len
    have h1 : (grow rows (firstsOf C a)).length ≤ m * 60 := by
      rw [grow_len]
      exact Nat.mul_le_mul h (by omega)
    have := rows_few ok S (grow rows (firstsOf C a)) (m * 60) h1
    show _ ≤ m * 60 ^ (S.length + 1)
    rw [Nat.pow_succ, Nat.mul_comm (60 ^ S.length) 60, ← Nat.mul_assoc]
    exact this
theorem laterRows_few {C : Chart} (ok : C.Ok) {S : List Nat} (h : S.length ≤ 3) : (laterRows C S).length ≤ 216000 := by
  have h1 := rows_few ok S [[]] 1 (Nat.le_refl _)
  have h2 : 60 ^ S.length ≤ 60 ^ 3 := Nat.pow_le_pow_right (by omega) h
  have h3 : (60 : Nat) ^ 3 = 216000 := by decide
  unfold laterRows
  omega
theorem rowsAt_upd {K : PySem.W.Frag} {H : Hp} {d : Addr} {xs ys : List V} (hd : H d = some (.lst xs)) {ts : List Addr} {lls : List (List Nat)} (h : RowsAt K H ts lls) : RowsAt K (upd H d (.lst ys)) ts lls := by
  refine paired_imp (fun t l q => ?_) h
  refine Kp.sqT (ex := [d]) (fun b' o nb eb => ?_) (fun b' m => ?_) q
  · rw [upd_ne (fun z => nb (by rw [z]; simp))]
    exact eb
  · rw [List.mem_singleton.mp m]
    exact ⟨_, hd, (fun _ z => nomatch z), (fun _ _ z => nomatch z)⟩
theorem sqT_upd {K : PySem.W.Frag} {H : Hp} {d t : Addr} {xs ys zs : List V} (hd : H d = some (.lst xs)) (q : SqT K H t zs) : SqT K (upd H d (.lst ys)) t zs := by
  refine Kp.sqT (ex := [d]) (fun b' o nb eb => ?_) (fun b' m => ?_) q
  · rw [upd_ne (fun z => nb (by rw [z]; simp))]
    exact eb
  · rw [List.mem_singleton.mp m]
    exact ⟨_, hd, (fun _ z => nomatch z), (fun _ _ z => nomatch z)⟩
section
variable {P : Program} {w : World} {K : PySem.W.Frag} {mg : Str → Option Value} {base : Heap} {ca : Str → Addr}
/-! ### later_rows -/
def spX_later_rows (K : PySem.W.Frag) (ca : Str → Addr) : Sp := fun vs H Q E => ∃ (vc vt : V) (dc ds : PyData), vs = [vc, vt] ∧ Dp K H vc dc ∧ Dp K H vt ds ∧ DueS K ca H E dc ds fun C S =>
  (400 < singleOf C ^ S.length → Raised K ca H E ("TooMany", nD (singleOf C ^ S.length))) ∧ (singleOf C ^ S.length ≤ 400 → ∀ q ts H', Same H H' → SqT K H' q (ts.map V.ref) → RowsAt K H' ts (laterRows C S) → Q (.ref q) H')
end
end Ft

set_option Elab.async false
set_option linter.all false
set_option maxRecDepth 100000
set_option maxHeartbeats 8000000
namespace Ft
open PySem PySem.Spec PyProof.Rows L2
section
variable {P : Program} {w : World} {K : PySem.W.Frag} {mg : Str → Option Value} {base : Heap} {ka : Str → Addr}
/-! ### places_next -/
def sp_places_next (K : PySem.W.Frag) : Sp := fun vs H Q _ => ∃ (c lo : Addr) (C : Chart) (X : List Nat), vs = [.ref c, .ref lo] ∧ IsChart K H c C ∧ C.Ok ∧ (SqL K H lo (X.map vN) ∨ SqT K H lo (X.map vN)) ∧ X.length ≤ 1000 ∧
  ∀ t H', Same H H' → SqT K H' t ((nextL C X).map vN) → Q (.ref t) H'
theorem cal_places_next (T : Txt mg) (D : Def K mg "places_next" s_places_next) : Cal P w K mg base 1 "places_next" (sp_places_next K) := by
  refine cal_of D sc_places_next (fun _ _ _ _ _ _ us hl => match us, hl with | [_, _], _ => rfl) (fun vs H Q E h => ?_) (fun f cdv A outer s H vs Q E hr h => ?_)
  · obtain ⟨c, lo, C, X, rfl, _⟩ := h
    rfl
  · obtain ⟨c, lo, C, X, rfl, ⟨r, wd, ts, hC⟩, ok, hX, few, q⟩ := h
    have n60 := ok.n60
    have wlen := up_len ok.upW ok.inW
    refine ⟨_, (pss_cons (ps_set (i := 2) sc_places_next.nd rfl (Or.inr rfl) (pe_callTy (show CallR _ _ (rSetI K w) from cr_setI rfl) (by rfl) T.set (by decide +kernel) (pa_cons (pv 1) pa_nil)))
      (pss_cons (ps_set (i := 3) sc_places_next.nd rfl (Or.inr rfl) (pe_callTy (show CallR _ _ (rSetI K w) from cr_setI rfl) (by rfl) T.set (by decide +kernel) (pa_cons (pe_ix (show IxR _ (rIxT K) from ix_tup) (pv 0) pe_int (fun _ _ => rfl)) pa_nil)))
      (pss_one (ps_ret (pe_callTy (show CallR _ _ (rTupleOf K) from call_tupleOf) (by rfl) T.tuple (by decide +kernel) (pa_cons (pe_callB (show CallR _ _ (rSortedSet w) from cr_sortedSet rfl) (by rfl) T.sorted (by decide +kernel) (pa_cons (pe_set1 (own := [("a", 4), ("b", 5)]) rfl sc_places_next.nd (show PI _ _ _ (iTup K _) from pi_tup (pe_ix (show IxR _ (rIxT K) from ix_tup) (pv 0) pe_int (fun _ _ => rfl))) (blkOk_by (N := ["chart", "lot", "inside", "wished", "a", "b"]) (sc := L2.defScope s_places_next) (by decide +kernel)) (fun _ _ _ _ _ => (show PG _ _ (gTup K 2 _) from pg_tup (by rfl) (pgs_cons (pg_name (i := 4) sc_places_next.nd rfl (Or.inl rfl)) (pgs_cons (pg_name (i := 5) sc_places_next.nd rfl (Or.inl rfl)) pgs_nil)))) (fun _ _ _ _ _ => pts_one (PW.pt (pw_and (pt_cmpR (show OpR _ _ (rSIn w) from or_sin) (pv 4) (pv 2) (by rfl)) (pw_and1 (PW.pt (pw_or (pt_cmpR (show OpR _ _ (rSIn w) from or_sin) (pv 5) (pv 3) (by rfl)) (pw_or1 (pt_cmpR (show OpR _ _ (rSNotIn w) from or_snotin) (pv 5) (pv 2) (by rfl))))))))) (fun _ _ _ _ _ => (pv 5))) pa_nil)) pa_nil)))))), ?_⟩
    have inN : ∀ (l : List Nat) (b : Nat), decide ((b : Int) ∈ iN l) = decide (b ∈ l) := fun l b => decide_eq_decide.mpr iN_mem
    refine ⟨_, rfl, lo, iN X, rfl, by rw [← vN_map]; exact hX, by rw [iN_length]; exact few, fun s1 m1 hs1 _ => ?_⟩
    generalize eH1 : upd H s1 _ = H1
    have sm1 : Same H H1 := by rw [← eH1]; exact same_upd hs1
    have hI1 : H1 s1 = some (SetO w s1 (fun j => decide (j ∈ iN X)) m1) := by rw [← eH1]; exact upd_same
    clear eH1
    have hC1 := hC.same sm1
    refine ⟨_, rfl, _, _, _, _, rfl, rfl, hC1.top, rfl, wd, iN C.wished, rfl, .inr (by rw [← vN_map]; exact hC1.wis), by rw [iN_length]; omega, fun s2 m2 hs2 _ => ?_⟩
    generalize eH2 : upd H1 s2 _ = H2
    have sm2 : Same H1 H2 := by rw [← eH2]; exact same_upd hs2
    have hW2 : H2 s2 = some (SetO w s2 (fun j => decide (j ∈ iN C.wished)) m2) := by rw [← eH2]; exact upd_same
    clear eH2
    have hI2 := sm2 _ _ hI1
    have hC2 := hC1.same sm2
    refine ⟨_, rfl, _, _, _, _, rfl, rfl, hC2.top, rfl, r, rfl, ⟨_, hC2.row⟩, fun D hD => ?_⟩
    have keep : ∀ {H' : Hp}, Kp [D] H2 H' → Same H2 H' := fun k => kp_same hD k
    refine by_turns (walk_tup (K := K) (a := r) (xs := ts.map V.ref)) (fun i H' => ∃ (Z : Int → Bool) (l : List Nat), Kp [D] H2 H' ∧ H' D = some (SetO w D Z l.length) ∧ l.Nodup ∧ (∀ x ∈ l, x < C.n) ∧ (∀ j, Z j = true ↔ j ∈ iN l) ∧ (∀ b, b ∈ l ↔ ∃ p ∈ C.roads.take i, p.2 = b ∧ p.1 ∈ X ∧ (b ∈ C.wished ∨ b ∉ X)))
      ⟨_, [], (fun b o x e' => by rw [upd_ne (ne_of_none e' hD)]; exact e'), upd_same, List.nodup_nil, (fun _ h => nomatch h), (fun j => by simp [iN]), (fun b => by simp)⟩ (fun i H' _ ⟨_, _, k, _⟩ => Same.sqT (keep k) hC2.row) ?_ ?_
    · rintro j y Hy H3 hj ⟨Z, l, k3, hZ, nd, lt, memZ, meml⟩ ⟨rfl, hy⟩
      obtain ⟨t, ht, rfl⟩ := get_map hy
      obtain ⟨q0, hq0, pt⟩ := paired_getL hC2.prs ht
      have s3 := keep k3
      have pt3 := Same.sqT s3 pt
      have inq := ok.inR q0 (List.mem_of_getElem? hq0)
      have l60 := len_of_lt' l C.n nd lt
      refine ⟨t, _, rfl, pt3, rfl, _, _, rfl, _, _, rfl, rfl, rfl, ?_⟩
      have skip : ¬ (q0.1 ∈ X ∧ (q0.2 ∈ C.wished ∨ q0.2 ∉ X)) → ∃ (Z : Int → Bool) (l : List Nat), Kp [D] H2 H3 ∧ H3 D = some (SetO w D Z l.length) ∧ l.Nodup ∧ (∀ x ∈ l, x < C.n) ∧ (∀ j, Z j = true ↔ j ∈ iN l) ∧ (∀ b, b ∈ l ↔ ∃ p ∈ C.roads.take (j + 1), p.2 = b ∧ p.1 ∈ X ∧ (b ∈ C.wished ∨ b ∉ X)) := fun no => by
        refine ⟨Z, l, k3, hZ, nd, lt, memZ, fun b => ?_⟩
        rw [meml b, take_more hq0]
        constructor
        · rintro ⟨p, h1, h2⟩
          exact ⟨p, List.mem_append_left _ h1, h2⟩
        · rintro ⟨p, h1, h2, h3⟩
          rcases List.mem_append.mp h1 with h1 | h1
          · exact ⟨p, h1, h2, h3⟩
          · rw [List.mem_singleton.mp h1] at h2 h3
            rw [← h2] at h3
            exact absurd h3 no
      have add : (q0.1 ∈ X ∧ (q0.2 ∈ C.wished ∨ q0.2 ∉ X)) → ∃ (c : Int) (S : Int → Bool) (n : Nat), vN q0.2 = .int c ∧ H3 D = some (SetO w D S n) ∧ n + 1 < scanBound ∧ ∃ (Z : Int → Bool) (l : List Nat), Kp [D] H2 (upd H3 D (SetO w D (fun j => S j || decide (j = c)) (if S c = true then n else n + 1))) ∧ (upd H3 D (SetO w D (fun j => S j || decide (j = c)) (if S c = true then n else n + 1))) D = some (SetO w D Z l.length) ∧ l.Nodup ∧ (∀ x ∈ l, x < C.n) ∧ (∀ j, Z j = true ↔ j ∈ iN l) ∧ (∀ b, b ∈ l ↔ ∃ p ∈ C.roads.take (j + 1), p.2 = b ∧ p.1 ∈ X ∧ (b ∈ C.wished ∨ b ∉ X)) := fun yes => by
        have room : l.length + 1 < scanBound := by
          have : (1000 : Nat) < scanBound := by decide
          omega
        refine ⟨(q0.2 : Int), Z, l.length, rfl, hZ, room, ?_⟩
        by_cases hbl : q0.2 ∈ l
        · have hz : Z (q0.2 : Int) = true := (memZ _).mpr (iN_mem.mpr hbl)
          refine ⟨fun j => Z j || decide (j = (q0.2 : Int)), l, kp_put k3, by rw [upd_same, hz, if_pos rfl], nd, lt, fun j' => ?_, fun b' => ?_⟩
          · rw [Bool.or_eq_true, memZ, decide_eq_true_eq]
            exact ⟨fun h => h.elim id fun e => by rw [e]; exact iN_mem.mpr hbl, .inl⟩
          · rw [meml b', take_more hq0]
            constructor
            · rintro ⟨p, h1, h2⟩
              exact ⟨p, List.mem_append_left _ h1, h2⟩
            · rintro ⟨p, h1, h2, h3⟩
              rcases List.mem_append.mp h1 with h1 | h1
              · exact ⟨p, h1, h2, h3⟩
              · rw [List.mem_singleton.mp h1] at h2
                rw [← h2]
                exact (meml _).mp hbl
        · have hz : Z (q0.2 : Int) = false := by
            cases e : Z (q0.2 : Int) with
            | false => rfl
            | true => exact absurd (iN_mem.mp ((memZ _).mp e)) hbl
          refine ⟨fun j => Z j || decide (j = (q0.2 : Int)), l ++ [q0.2], kp_put k3, by rw [upd_same, hz, if_neg Bool.false_ne_true, List.length_append]; rfl, ?_, ?_, fun j' => ?_, fun b' => ?_⟩
          · rw [List.nodup_append]
            exact ⟨nd, by simp, fun x hx y hy z => hbl (by rw [← List.mem_singleton.mp hy, ← z]; exact hx)⟩
          · intro x hx
            rcases List.mem_append.mp hx with hx | hx
            · exact lt x hx
            · rw [List.mem_singleton.mp hx]
              exact inq.2
          · rw [Bool.or_eq_true, memZ, decide_eq_true_eq]
            unfold iN
            rw [List.map_append, List.mem_append]
            constructor
            · rintro (h | h)
              · exact .inl h
              · exact .inr (by rw [h]; simp)
            · rintro (h | h)
              · exact .inl h
              · simp at h
                exact .inr h
          · rw [List.mem_append, List.mem_singleton, meml b', take_more hq0]
            constructor
            · rintro (⟨p, h1, h2⟩ | h)
              · exact ⟨p, List.mem_append_left _ h1, h2⟩
              · exact ⟨q0, List.mem_append_right _ (List.mem_singleton.mpr rfl), h.symm, by rw [h]; exact yes⟩
            · rintro ⟨p, h1, h2, h3⟩
              rcases List.mem_append.mp h1 with h1 | h1
              · exact .inl ⟨p, h1, h2, h3⟩
              · rw [List.mem_singleton.mp h1] at h2
                exact .inr h2.symm
      have hI3 := s3 _ _ hI2
      have hW3 := s3 _ _ hW2
      refine ⟨_, rfl, _, rfl, _, _, _, _, rfl, rfl, hI3, _, rfl, ?_⟩
      rw [inN]
      by_cases h1 : q0.1 ∈ X
      · rw [decide_eq_true h1]
        refine iteT ⟨_, rfl, _, rfl, _, _, _, _, rfl, rfl, hW3, _, rfl, ?_⟩
        rw [inN]
        by_cases h2 : q0.2 ∈ C.wished
        · rw [decide_eq_true h2]
          exact iteT (iteT ⟨_, rfl, add ⟨h1, .inl h2⟩⟩)
        · rw [decide_eq_false h2]
          refine iteF ⟨_, rfl, _, rfl, _, _, _, _, rfl, rfl, hI3, _, rfl, ?_⟩
          rw [inN]
          by_cases h3 : q0.2 ∈ X
          · rw [decide_eq_true h3]
            exact iteF (skip fun z => z.2.elim h2 fun n => n h3)
          · rw [decide_eq_false h3]
            exact iteT ⟨_, rfl, add ⟨h1, .inr h3⟩⟩
      · rw [decide_eq_false h1]
        exact iteF (skip fun z => h1 z.1)
    rintro H3 ⟨Z, l, k3, hZ, nd, lt, memZ, meml⟩
    have el : (ts.map V.ref).length = C.roads.length := by rw [List.length_map]; exact hC2.prs.length
    rw [el, List.take_length] at meml
    have l60 := len_of_lt' l C.n nd lt
    have s3 := keep k3
    refine ⟨D, Z, l.length, rfl, hZ, by omega, fun gs fu up mem _ hfu => ?_⟩
    obtain ⟨wl, rfl, upw, memw⟩ : ∃ wl : List Nat, gs = iN wl ∧ wl.Pairwise (· < ·) ∧ ∀ x, x ∈ wl ↔ x ∈ l := set_nat up (fun j => by rw [mem j, memZ j, decide_eq_true_eq])
    have ew : wl = nextL C X := those_is upw fun x => by
      rw [memw x, meml x]
      constructor
      · rintro ⟨p, h1, h2, h3, h4⟩
        subst h2
        exact ⟨(ok.inR p h1).2, ⟨p.1, h3, h1⟩, h4⟩
      · rintro ⟨_, ⟨a, h3, h1⟩, h4⟩
        exact ⟨(a, x), h1, rfl, h3, h4⟩
    subst ew
    generalize eH4 : upd H3 fu _ = H4
    have s4 : Same H3 H4 := by rw [← eH4]; exact same_upd hfu
    have hF4 : H4 fu = some (.lst ((nextL C X).map vN)) := by rw [← eH4, vN_map]; exact upd_same
    clear eH4
    refine ⟨fu, _, rfl, .inl ⟨.inl (.inl hF4), fun t ht => ?_⟩⟩
    exact q t _ (((sm1.trans sm2).trans (s3.trans s4)).trans (same_upd ht)) (.inl (.inl upd_same))
end
end Ft

set_option Elab.async false
set_option linter.all false
set_option maxRecDepth 100000
set_option maxHeartbeats 4000000
/-! data that can be held against each other, and not too many -/
namespace Ft
open PySem PySem.Spec PyProof.Rows L2
theorem can_all : ∀ {ds : List PyData}, PyData.canLayAll0 ds = true ↔ ∀ e ∈ ds, PyData.canLay0 e = true
  | [] => ⟨fun _ _ h => (nomatch h), fun _ => by simp [PyData.canLayAll0]⟩
  | d :: ds => by
    simp only [PyData.canLayAll0, Bool.and_eq_true, can_all (ds := ds), List.mem_cons]
    exact ⟨fun h e he => he.elim (fun x => x ▸ h.1) (h.2 e), fun h => ⟨h _ (.inl rfl), fun e he => h e (.inr he)⟩⟩
theorem depth_mem : ∀ {ds : List PyData} {e : PyData}, e ∈ ds → e.depth ≤ PyData.depthAll ds
  | d :: ds, e, h => by
    simp only [PyData.depthAll]
    rcases List.mem_cons.mp h with rfl | h
    · omega
    · have := depth_mem h
      omega
theorem depth_all {n : Nat} : ∀ {ds : List PyData}, (∀ e ∈ ds, e.depth ≤ n) → PyData.depthAll ds ≤ n
  | [], _ => by simp only [PyData.depthAll]; omega
  | d :: ds, h => by
    simp only [PyData.depthAll]
    have h1 := h d List.mem_cons_self
    have h2 := depth_all fun e he => h e (List.mem_cons_of_mem _ he)
    omega
theorem nodes_pos : ∀ d : PyData, 1 ≤ nodes d := fun d => by cases d <;> simp only [nodes] <;> omega
theorem nodes_len : ∀ ds : List PyData, ds.length ≤ nodess ds
  | [] => by simp only [nodess]; exact Nat.le_refl _
  | d :: ds => by
    simp only [nodess, List.length_cons]
    have := nodes_pos d
    have := nodes_len ds
    omega
theorem nodes_mem : ∀ {ds : List PyData} {e : PyData}, e ∈ ds → nodes e ≤ nodess ds
  | d :: ds, e, h => by
    simp only [nodess]
    rcases List.mem_cons.mp h with rfl | h
    · omega
    · have := nodes_mem h
      omega
structure Fine (d : PyData) : Prop where
  sh : SeqAt.shaped d = true
  nd : nodes d ≤ 995
theorem shaped_iff {d : PyData} : SeqAt.shaped d = true ↔ d.canLay0 = true ∧ d.depth ≤ 64 := by
  unfold SeqAt.shaped
  rw [Bool.and_eq_true, decide_eq_true_eq]
theorem Fine.mem {ds : List PyData} {e : PyData} (h : Fine (.tuple ds)) (m : e ∈ ds) : Fine e := by
  obtain ⟨h1, h2⟩ := shaped_iff.mp h.sh
  have h3 := h.nd
  simp only [PyData.canLay0] at h1
  simp only [PyData.depth] at h2
  simp only [nodes] at h3
  have := depth_mem m
  have := nodes_mem m
  exact ⟨shaped_iff.mpr ⟨can_all.mp h1 e m, by omega⟩, by omega⟩
theorem Fine.len {ds : List PyData} (h : Fine (.tuple ds)) : ds.length ≤ 2000 := by
  have h3 := h.nd
  simp only [nodes] at h3
  have := nodes_len ds
  omega
theorem Fine.sub {ds es : List PyData} (h : Fine (.tuple ds)) (m : ∀ e ∈ es, e ∈ ds) : SeqAt.shaped (.list es) = true := by
  obtain ⟨h1, h2⟩ := shaped_iff.mp h.sh
  simp only [PyData.canLay0] at h1
  simp only [PyData.depth] at h2
  have h5 : PyData.depthAll es ≤ PyData.depthAll ds := depth_all fun e he => depth_mem (m e he)
  refine shaped_iff.mpr ⟨?_, ?_⟩
  · simp only [PyData.canLay0]
    exact can_all.mpr fun e he => can_all.mp h1 e (m e he)
  · simp only [PyData.depth]
    omega
/-- a list against the empty one -/
theorem eqv_nil {es : List PyData} : PyData.eqv (.list es) (.list []) = es.isEmpty := by
  cases es with
  | nil => rfl
  | cons e es => rfl
/-- the places of a tuple of places -/
def natsL : List PyData → Option (List Nat)
  | [] => some []
  | .int i :: r => if 0 ≤ i then (natsL r).map (i.toNat :: ·) else none
  | _ :: _ => none
theorem natsL_map : ∀ (l : List Nat), natsL (l.map nD) = some l
  | [] => rfl
  | a :: l => by
    show (if (0 : Int) ≤ (a : Int) then (natsL (l.map nD)).map (((a : Int)).toNat :: ·) else none) = _
    rw [if_pos (by omega), natsL_map l]
    rfl
theorem natsL_some : ∀ {ds : List PyData} {l : List Nat}, natsL ds = some l → ds = l.map nD
  | [], l, h => by cases h; rfl
  | d :: ds, l, h => by
    cases d with
    | int i =>
      simp only [natsL] at h
      split at h
      · rename_i h0
        cases e : natsL ds with
        | none => rw [e] at h; cases h
        | some m =>
          rw [e] at h
          cases h
          rw [List.map_cons, ← natsL_some e]
          congr 1
          show PyData.int i = .int (i.toNat : Int)
          rw [Int.toNat_of_nonneg h0]
      · cases h
    | _ => cases h
theorem natsL_none {ds : List PyData} (h : ∀ l : List Nat, ds ≠ l.map nD) : natsL ds = none := by
  cases e : natsL ds with
  | none => rfl
  | some l => exact absurd (natsL_some e) (h l)
end Ft

set_option Elab.async false
set_option linter.all false
set_option maxRecDepth 100000
set_option maxHeartbeats 4000000
/-! x in t, t a set of tuples of ints -/
namespace Ft
open PySem PySem.Spec PyProof.Rows L2
/-- where the search for the hash g stands at its c-th step -/
def prb (m : Nat) (g : Int) (c : Nat) : SetTable.Probe := nth m (runAt m (SetTable.bits g % (m + 1)) (SetTable.bits g)) c
theorem no_dummy (m : Nat) : ∀ (c : Nat) (p : SetTable.Probe), p.dummy = none → (nth m p c).dummy = none
  | 0, _, h => h
  | c + 1, p, h => no_dummy m c (adv m p) (by unfold adv; split <;> exact h)
theorem prb_add {m : Nat} {g : Int} (c q : Nat) : nth m (prb m g c) q = prb m g (c + q) := (nth_add m c _ q).symm
section
variable {P : Program} {w : World} {A : Around} {E : Value → Shared → Prop} {s : Shared} {a : Addr} {L : List (Addr × List Int)} {es : Array (Int × Value)} {ep : Nat} {t : SetTable}
theorem look_from (R : SetTR P w s.heap a L es ep t) {x : Addr} {k : List Int} (hx : IsT P w s.heap k x) (room : A.units < cLine) {g : Int} (eg : thash P w k = g) {K : Nat} (few : K < 10 * SetTable.turns t.mask)
    (gap : way t.mask g K ∉ t.place.toList) (full : ∀ c, c < K → way t.mask g c ∈ t.place.toList) {Q : SetFound → Shared → Prop} (yes : ∀ i, k ∈ L.map (·.2) → Q (.there (some i)) s) (no : ∀ j, k ∉ L.map (·.2) → Q (.free j false) s) :
    ∀ (f c : Nat) (now : Option SetTable.Probe), now.getD (t.probeStart g) = prb t.mask g c → c ≤ K → K < c + f →
      (∀ (i : Nat) q, L[i]? = some q → q.2 = k → ∃ d, c ≤ d ∧ d < K ∧ t.place.toList[i]? = some (way t.mask g d)) → wpAny (model P w) A (setSearchFrom a (.ref x) g false f now) Q E s
  | 0, c, _, _, h1, h2, _ => absurd h2 (by omega)
  | f + 1, c, now, e0, h1, h2, ahead => by
    obtain ⟨ob, gob, _, dat⟩ := R.ob
    rw [setSearchFrom_succ]
    refine wpAny_bind (wpAny_setState_of gob dat R.fits ?_)
    dsimp only
    rw [if_neg R.gw]
    try refine wpAny_bind (wpAny_pure ?_)
    have hashes : ∀ (i : Nat) q, L[i]? = some q → (es[i]?.map (·.1)).getD 0 = thash P w q.2 := fun i q hq => by rw [R.entry hq]; rfl
    have places : ∀ q, (nth t.mask (prb t.mask g c) q).j = way t.mask g (c + q) := fun q => congrArg SetTable.Probe.j (prb_add c q)
    rcases go_spec t R.tab.ris R.tab.dm (fun i => (es[i]?.map (·.1)).getD 0) g (10 * SetTable.turns t.mask) (K - c) (prb t.mask g c) (no_dummy _ c _ rfl) (by omega) (fun q hq => by rw [places]; exact full _ (by omega))
      (by rw [places, Nat.add_sub_cancel' h1]; exact gap) with ⟨q, i, lq, pi, _, before, told⟩ | ⟨before, told⟩
    · have told' : t.probe (fun i => (es[i]?.map (·.1)).getD 0) g (now.getD (t.probeStart g)) = some (.candidate (way t.mask g (c + q)) i (prb t.mask g (c + (q + 1)))) := by
        rw [e0, ← places, ← prb_add]
        exact told
      rw [told']
      dsimp only
      rw [places] at pi
      have inL : i < L.length := by
        have u1 := (List.getElem?_eq_some_iff.mp pi).1
        have u2 := R.tab.sz
        rw [List.length_map] at u2
        rw [Array.length_toList] at u1
        omega
      obtain ⟨r, hr⟩ : ∃ r, L[i]? = some r := ⟨_, List.getElem?_eq_getElem inL⟩
      have mr := List.mem_of_getElem? hr
      have slot := slot_live R.tab.ris pi
      have after : wpAny (model P w) A (searchRest a (.ref x) g false f es t (way t.mask g (c + q)) i (prb t.mask g (c + (q + 1)))) Q E s := by
        unfold searchRest
        rw [R.entry hr]
        refine wpAny_bind (wpAny_holding (wpAny_eqBool_tuple room (R.tup r mr) hx ?_))
        refine wpAny_bind (wpAny_setState_of gob dat R.fits ?_)
        simp only [Bool.false_and, Bool.false_eq_true, if_false]
        try refine wpAny_bind (wpAny_pure ?_)
        rw [sameMem]
        simp only [if_true, slot, R.entry hr]
        refine wpAny_bind (wpAny_isSame_ref_self (wpAny_bind (wpAny_pure ?_)))
        simp only [if_true]
        by_cases same : r.2 = k
        · rw [if_pos (decide_eq_true same)]
          exact wpAny_pure (yes i (List.mem_map.mpr ⟨r, mr, same⟩))
        · rw [if_neg (by simp [same])]
          refine look_from R hx room eg few gap full yes no f (c + (q + 1)) _ rfl (by omega) (by omega) fun i' q' hq' ek => ?_
          obtain ⟨d, d1, d2, d3⟩ := ahead i' q' hq' ek
          refine ⟨d, ?_, d2, d3⟩
          rcases Nat.lt_trichotomy d (c + q) with lt | e | gt
          · exact absurd ((hashes i' q' hq').trans ((congrArg (thash P w) ek).trans eg)) (before (d - c) i' (by omega) (by rw [places, Nat.add_sub_cancel' d1]; exact d3))
          · rw [e] at d3
            have two := slot_live R.tab.ris d3
            rw [slot] at two
            injection two with two
            rw [← two, hr] at hq'
            exact absurd ((congrArg Prod.snd (Option.some.inj hq')).trans ek) same
          · omega
      by_cases led : t.led = true
      · rw [if_neg (by simp [led])]
        try refine wpAny_bind (wpAny_pure ?_)
        exact after
      · rw [if_pos (by simp [led])]
        refine wpAny_bind (seen_tup hx (fun y hy => ?_) ?_)
        · obtain ⟨en, hen, rfl⟩ := List.mem_map.mp hy
          have inE : en ∈ es.toList := by
            have : en ∈ es ∧ en.1 = g := by simpa using hen
            simpa using this.1
          rw [R.rows] at inE
          obtain ⟨q2, hq2, rfl⟩ := List.mem_map.mp inE
          exact ⟨q2.2, q2.1, rfl, R.tup q2 hq2⟩
        · rw [if_neg (by decide)]
          try refine wpAny_bind (wpAny_pure ?_)
          exact after
    · have told' : t.probe (fun i => (es[i]?.map (·.1)).getD 0) g (now.getD (t.probeStart g)) = some (.empty (way t.mask g K) none) := by
        have eK : way t.mask g K = (nth t.mask (prb t.mask g c) (K - c)).j := by rw [places, Nat.add_sub_cancel' h1]
        rw [e0, eK]
        exact told
      rw [told']
      refine wpAny_pure (no _ fun hk => ?_)
      obtain ⟨q', mq, ek⟩ := List.mem_map.mp hk
      obtain ⟨i', hq'⟩ := List.getElem?_of_mem mq
      obtain ⟨d, d1, d2, d3⟩ := ahead i' q' hq' ek
      exact before (d - c) i' (by omega) (by rw [places, Nat.add_sub_cancel' d1]; exact d3) ((hashes i' q' hq').trans ((congrArg (thash P w) ek).trans eg))
theorem look_at (R : SetTR P w s.heap a L es ep t) {x : Addr} {k : List Int} (hx : IsT P w s.heap k x) (room : A.units < cLine) {Q : SetFound → Shared → Prop} (yes : ∀ i, k ∈ L.map (·.2) → Q (.there (some i)) s) (no : ∀ j, k ∉ L.map (·.2) → Q (.free j false) s) :
    wpAny (model P w) A (setSearch a (.ref x) (thash P w k)) Q E s := by
  have rm := R.room
  obtain ⟨K, few, gap, full⟩ := R.tab.first (by rw [List.length_map]; omega) (thash P w k)
  have turns : 10 * SetTable.turns t.mask ≤ 1420 := by
    unfold SetTable.turns
    rcases R.tab.mok with e | e | e <;> rw [e] <;> decide
  unfold setSearch
  refine look_from R hx room rfl few gap full yes no 100000 0 none rfl (Nat.zero_le _) (by omega) fun i q hq ek => ?_
  have sz := R.tab.sz
  rw [List.length_map] at sz
  have inL := (List.getElem?_eq_some_iff.mp hq).1
  obtain ⟨j, hj⟩ : ∃ j, t.place.toList[i]? = some j := ⟨_, List.getElem?_eq_getElem (by rw [Array.length_toList]; omega)⟩
  obtain ⟨d, hd, e⟩ := R.tab.before gap (by rw [List.getElem?_map, hq, ← ek]; rfl) hj
  exact ⟨d, Nat.zero_le _, hd, by rw [hj, e]⟩
theorem find_at (R : SetTR P w s.heap a L es ep t) {x : Addr} {k : List Int} (hx : IsT P w s.heap k x) (room : A.units < cLine) {Q : Option Nat → Shared → Prop} (h : ∀ r : Option Nat, r.isSome = decide (k ∈ L.map (·.2)) → Q r s) :
    wpAny (model P w) A (setFind a (.ref x) (thash P w k)) Q E s := by
  obtain ⟨ob, gob, _, dat⟩ := R.ob
  show wpAny _ _ (setFindIn a (.ref x) (thash P w k) (99999 + 1)) Q E s
  unfold setFindIn
  refine wpAny_bind (wpAny_setState_of gob dat R.fits ?_)
  dsimp only
  rw [if_neg (by simp [byScan, Value.scannable])]
  try refine wpAny_bind (wpAny_pure ?_)
  refine wpAny_bind (look_at R hx room (fun i m => ?_) fun j m => ?_)
  · exact wpAny_pure (h _ (by rw [decide_eq_true m]; rfl))
  · exact wpAny_pure (h _ (by rw [decide_eq_false m]; rfl))
theorem has_at (R : SetTR P w s.heap a L es ep t) {x : Addr} {k : List Int} (hx : IsT P w s.heap k x) (room : A.units + 64 < cLine) {Q : Bool → Shared → Prop} (h : ∀ tk, Q (decide (k ∈ L.map (·.2))) { s with toks := tk }) :
    wpAny (model P w) A (contains (.ref a) (.ref x)) Q E s := by
  have isSet : s.TypeIs (.ref a) "set" := by
    obtain ⟨ob, gob, ex, _⟩ := R.ob
    exact ⟨ob, gob, ex.1⟩
  have in1 : A.in1.units < cLine := by
    have e : A.in1.units ≤ A.units + 1 := by simp only [Around.in1_units]; omega
    omega
  have ne : ¬ ((some (Value.builtin "set.__contains__") == some Value.none) = true) := by rw [beq_builtin_none]; simp
  unfold contains; try with_reducible refine wpAny_holding ?_
  refine wpAny_bind (wpAny_specialOf isSet F.slot_set_contains.lookup ?_); refine wp_if_neg ne ?_
  refine wpAny_bind (wpAny_callSpecialUnlessNone?_slot (name := Str.ofString "__contains__") isSet F.slot_set_contains (wpAny_call_entry F.slot_set_contains isSet entry_set_contains ?_ (F.args_set_contains_2 _ _)))
  unfold Builtin.«frozenset.__contains__» Builtin.Frozenset.oneOther Builtin.Frozenset.addrOf Builtin.Frozenset.withSetAsKey setContains
  simp only [bind_assoc, List.isEmpty_nil]
  refine wpAny_bind (wpAny_pure ?_); try dsimp only
  refine wpAny_bind (wpAny_pure ?_); try dsimp only
  refine wpAny_bind (wpAny_tryCatch (wpAny_holding ?_))
  refine wpAny_bind (wpAny_pyHash_tuple in1 hx ?_)
  refine wpAny_bind (find_at (s := { s with toks := s.toks + (k.length + 1) }) R hx in1 fun r er => ?_)
  refine wpAny_pure ?_
  show wpAny _ _ (ret (Value.bool r.isSome)) _ _ _
  rw [er]
  exact wpAny_pure ⟨_, rfl, wpAny_truthy_bool (h _)⟩
end
/-- the rows of a set of tuples, all of them tuples still -/
def rTIn (K : PySem.W.Frag) (P : Program) (w : World) (neg : Bool) : R2 := fun x y H Q => ∃ (b a : Addr) (k : List Int) (L : List (Addr × List Int)), x = .ref b ∧ y = .ref a ∧ SqT K H b (k.map V.int) ∧ H a = some (SetTO P w a L) ∧ (∀ p ∈ L, SqT K H p.1 (p.2.map V.int)) ∧ Q (.bl (xor neg (decide (k ∈ L.map (·.2))))) H
theorem setT_get {X : Cx} {pins : List (Addr × Obj)} {σ : L2.St} {H : Hp} {s : Shared} {a : Addr} {L : List (Addr × List Int)} (I : Inv X pins σ H s) (h : H a = some (SetTO X.prog X.w a L)) (all : ∀ p ∈ L, SqT X.K H p.1 (p.2.map V.int)) : ∃ es ep t, SetTR X.prog X.w s.heap a L es ep t := by
  have o : ObjOk X.prog X.w H s.heap a (SetTO X.prog X.w a L) := I.hok a _ h
  exact SetT0.full o.1 fun p hp => I.isT (all p hp)
theorem or_tin {X : Cx} (room : X.A.units + 64 < cLine) : OpR X (compareOp .In) (rTIn X.K X.prog X.w false) := by
  intro pins s σ H x y v u Q I rx ry h
  obtain ⟨b, a, k, L, rfl, rfl, hb, ha, all, q⟩ := h
  cases rx; cases ry
  obtain ⟨es, ep, t, R⟩ := setT_get I ha all
  show wpAny _ _ (do return Value.bool (← contains (.ref a) (.ref b))) _ _ s
  refine wpAny_bind (has_at R (I.isT hb) room fun tk => wpAny_pure ⟨V.bl (decide (k ∈ L.map fun p : Addr × List Int => p.2)), H, I.tok _, rfl, ?_⟩)
  rw [Bool.false_xor] at q
  exact q
theorem or_tnotin {X : Cx} (room : X.A.units + 64 < cLine) : OpR X (compareOp .NotIn) (rTIn X.K X.prog X.w true) := by
  intro pins s σ H x y v u Q I rx ry h
  obtain ⟨b, a, k, L, rfl, rfl, hb, ha, all, q⟩ := h
  cases rx; cases ry
  obtain ⟨es, ep, t, R⟩ := setT_get I ha all
  show wpAny _ _ (do return Value.bool (!(← contains (.ref a) (.ref b)))) _ _ s
  refine wpAny_bind (has_at R (I.isT hb) room fun tk => wpAny_pure ⟨V.bl (!decide (k ∈ L.map fun p : Addr × List Int => p.2)), H, I.tok _, rfl, ?_⟩)
  rw [Bool.true_xor] at q
  exact q
end Ft

set_option Elab.async false
set_option linter.all false
set_option maxRecDepth 100000
set_option maxHeartbeats 8000000
/-! set(t), t a tuple of tuples of ints -/
namespace Ft
open PySem PySem.Spec PyProof.Rows L2
abbrev setO0 (w : World) : Obj := { cls := .type "set", dict := none, data := .set #[] 0 (.fresh 0 0 (!w.params.followText "set-order")) }
theorem get_none {h : Heap} {b : Addr} (le : h.objs.size ≤ b) : h.get? b = none := by
  cases e : h.get? b with
  | none => rfl
  | some o => exact absurd (Nat.lt_of_lt_of_le (Heap.lt_size e) le) (Nat.lt_irrefl _)
section
variable {P : Program} {w : World} {A : Around} {E : Value → Shared → Prop} {s : Shared}
theorem set_of_tups {l : Addr} {items : Array Value} (ks : List (Addr × List Int)) {Q : Value → Shared → Prop} (calm : A.handled = none) (hl : s.heap.IsTuple l items) (its : items.toList = ks.map fun p => Value.ref p.1)
    (hk : ∀ p ∈ ks, IsT P w s.heap p.2 p.1) (few : ks.length < 64) (room : A.units + 3 < cLine)
    (h : ∀ (h' : Heap) (tk : Nat) L es ep t, SetTR P w h' s.heap.objs.size L es ep t → Got ks ks.length L → (∀ b o, s.heap.get? b = some o → h'.get? b = some o) → Q (.ref s.heap.objs.size) { s with heap := h', toks := tk }) :
    wpAny (model P w) A (call (.type "set") [.ref l]) Q E s := by
  have size : items.size = ks.length := by rw [← Array.length_toList, its, List.length_map]
  obtain ⟨c0, tl0, mro⟩ := F.called_set.mro
  have made := F.called_set.made; have sub := F.called_set.sub
  refine wpAny_call (codeAny_of_tree (show wpAny _ _ (callAny (.type "set") _) _ _ _ from ?_))
  refine wpAny_pure ⟨Code.quiet_builtin _ (by decide +kernel), codeAny_builtin F.entry_type_call ?_⟩
  rw [Around.under_plain (weight_type_call_type "set" [.ref l] []) rfl]
  have f1 := F.called_set.notType; have f2 := F.called_set.canCreate; have f3 := F.typeCall_set_1 (.ref l)
  repeat (any_goals (first | assumption | wp_step))
  refine codeAny_mono (code_set_led1 (.ref l) (E := E) (Q₁ := fun v s₁ => v = .ref s.heap.objs.size ∧ s₁ = { s with heap := s.heap.push (setO0 w) }) ⟨rfl, rfl⟩) fun r s₁ hr => ?_
  cases r with
  | error e => exact hr
  | ok fl =>
    cases fl with
    | ret v =>
      obtain ⟨rfl, rfl⟩ := hr
      have gS : (s.heap.push (setO0 w)).get? s.heap.objs.size = some (setO0 w) := Heap.get?_push_size _ rfl
      have tS : Shared.TypeIs { s with heap := s.heap.push (setO0 w) } (.ref s.heap.objs.size) "set" := ⟨_, gS, rfl⟩
      have f4 := F.called_set.init.lookup; have f5 := F.called_set.init.bind (.ref s.heap.objs.size)
      repeat (any_goals (first | assumption | wp_step))
      refine codeAny_mono (codeAny_call_builtin (R := wants (fun r s₂ => r = .none ∧ ∃ h' tk L es ep t, s₂ = { s with heap := h', toks := tk } ∧ SetTR P w h' s.heap.objs.size L es ep t ∧ Got ks ks.length L ∧ (∀ b o, s.heap.get? b = some o → h'.get? b = some o)) E) F.called_set.init.plain F.entry_set_init (check_set_init_1 tS ?_)) fun r₂ s₂ hr₂ => ?_
      · obtain ⟨ol, gl, cl, nl, dl⟩ := hl
        obtain ⟨ocls, odict, odata, oslots⟩ := ol
        simp only at cl dl; subst cl; subst dl
        have gl' : (s.heap.push (setO0 w)).get? l = some { cls := .type "tuple", dict := odict, data := .seq items nl, slots := oslots } := Heap.get?_push_of_some _ gl
        have f6 := F.sub_tuple_set; have f7 := F.sub_tuple_frozenset
        have f8 : (Value.type "tuple" == Value.type "dict") = false := by decide
        have isT : (s.heap.push (setO0 w)).IsTuple l items := ⟨_, gl', rfl, nl, rfl⟩
        unfold Builtin.«set.__init__» noKeywords; unfold Builtin.Frozenset.updateFrom; generalize ePI : pyIter = PI
        wp_walk
        subst ePI
        refine wpAny_pyIter_tuple isT (wpAny_bind (wpAny_runValue ?_))
        have ls : l < s.heap.objs.size := Heap.lt_size gl
        have sz : (s.heap.push (setO0 w)).objs.size = s.heap.objs.size + 1 := Heap.size_push ..
        refine set_update_tups ((Walks.tuple (by simp [calm]) _ l (by rw [sz]; exact Nat.ne_of_lt (Nat.lt_succ_of_lt ls)) items).toS) s.heap.objs.size (by rw [sz]; simp only [List.mem_cons, List.not_mem_nil, or_false, not_or]; exact ⟨Nat.ne_of_lt (Nat.lt_succ_self _), Nat.ne_of_gt ls⟩) ks size few (fun i v hv => ?_) s.heap hk (get_none (Nat.le_refl _)) (fun b hb => get_none (by rw [List.mem_singleton.mp hb, sz]; omega)) (by simp only [Around.in1_units]; omega) (items.size - 0) 0 _ (by omega) (Nat.zero_le _) ⟨⟨_, Heap.get?_push_size _ rfl, rfl, rfl⟩, (isT.push _)⟩ (fun b o e => Heap.get?_push_of_some _ (Heap.get?_push_of_some _ e)) ⟨[], #[], 0, _, setTR_fresh (Heap.get?_push_of_some _ gS), Got.zero ks⟩ fun s' L es ep t mv R' g' kp => ?_
        · have e : items.toList[i]? = some v := by rw [Array.getElem?_toList]; exact hv
          rw [its, List.getElem?_map] at e
          cases ek : ks[i]? with
          | none => rw [ek] at e; cases e
          | some p => rw [ek] at e; exact ⟨p, rfl, (Option.some.inj e).symm⟩
        · obtain ⟨h', g2, d', tk', os'⟩ := s'
          have e1 : g2 = s.gens := mv.gens
          have e2 : d' = s.drawn := mv.drawn
          have e3 : os' = s.os := mv.os
          subst e1 e2 e3
          rw [size] at g'
          exact wpAny_pure (wpAny_pure ⟨rfl, h', tk', L, es, ep, t, rfl, R', g', kp⟩)
      · cases r₂ with
        | error e => exact hr₂
        | ok fl₂ =>
          cases fl₂ with
          | ret r =>
            obtain ⟨rfl, h', tk, L, es, ep, t, rfl, R', g', kp⟩ := hr₂
            repeat (any_goals (first | assumption | wp_step))
            exact h _ _ _ _ _ _ R' g' kp
          | _ => exact hr₂.elim
    | _ => exact hr.elim
end
/-- set(t), t a tuple of tuples of ints -/
def rSetTT (K : PySem.W.Frag) (P : Program) (w : World) : List V → Hp → VK → Prop := fun xs H Q => ∃ (l : Addr) (ks : List (Addr × List Int)), xs = [V.ref l] ∧ SqT K H l (ks.map fun p => V.ref p.1) ∧ (∀ p ∈ ks, SqT K H p.1 (p.2.map V.int)) ∧ ks.length < 64 ∧
  ∀ a L, H a = none → (∀ p ∈ L, p ∈ ks) → (∀ p ∈ ks, p.2 ∈ L.map (·.2)) → Q (.ref a) (upd H a (SetTO P w a L))
theorem cr_setTT {X : Cx} (hc : X.calm = true) (room : X.A.units + 64 < cLine) : CallR X (.type "set") (rSetTT X.K X.prog X.w) := by
  intro pins s σ H xs us Q I r h
  obtain ⟨l, ks, rfl, hl, hk, few, q⟩ := h
  rw [Vals.ref1 r]
  obtain ⟨its, rv, pt, _⟩ := I.tuple hl
  have new : H s.heap.objs.size = none := I.hok.fresh (Nat.le_refl _)
  refine set_of_tups (P := X.prog) (w := X.w) ks (I.ok.hd hc) (show s.heap.IsTuple l its.toArray from pt) (by simpa using refs_of_vals rv) (fun p hp => I.isT (hk p hp)) few (by omega) fun h' tk L es ep t R g kp => ?_
  exact ⟨.ref s.heap.objs.size, upd H s.heap.objs.size (SetTO X.prog X.w s.heap.objs.size L), I.laid (t' := tk) kp (Nat.le_refl _) (setTO_new R.t0), rfl, q _ L new (fun p hp => List.mem_of_mem_take (g.sub p hp)) fun p hp => g.all p (by rw [List.take_length]; exact hp)⟩
end Ft

set_option Elab.async false
set_option linter.all false
set_option maxRecDepth 100000
set_option maxHeartbeats 8000000
/-! for x in zip(t, u), x one name, t and u tuples: the pair that was given out last is held still. -/
namespace Ft
open PySem PySem.Spec PyProof.Rows L2 RZ
section
variable {prog : Program} {w : World} {A : Around} {E : Value → Shared → Prop} {s : Shared} {z TI TO T i1 i2 l1 l2 : Addr} {f : Bool} {oT : Obj} {k1 k2 : Nat} {xs ys : Array Value}
theorem zipN_item {x y : Value} {Q : Value → Shared → Prop} (D : ZipApart z TI TO i1 i2 l1 l2) (hz : IsZipHeld s.heap z TI TO T f) (hT : s.heap.get? T = some oT) (hTI : IsPair s.heap TI (.ref i1) (.ref i2))
    (t1 : s.heap.IsTupleIter i1 l1 k1) (t2 : s.heap.IsTupleIter i2 l2 k2) (hl1 : s.heap.IsTuple l1 xs) (hl2 : s.heap.IsTuple l2 ys) (hx : xs[k1]? = some x) (hy : ys[k2]? = some y)
    (q : ∀ h', IsZipHeld h' z TI TO T true → h'.IsTupleIter i1 l1 (k1 + 1) → h'.IsTupleIter i2 l2 (k2 + 1) → IsPair h' s.heap.objs.size x y → (∀ c o, c ≠ z → c ≠ i1 → c ≠ i2 → s.heap.get? c = some o → h'.get? c = some o) → Q (.ref s.heap.objs.size) { s with heap := h' }) :
    wpAny (model prog w) A (Builtin.«zip.__next__» ⟨[.ref z], []⟩) (fun fin s' => ∃ v, fin = .done (.ret v) ∧ Q v s') E s := by
  show wpAny _ _ (field (.ref z) 2 >>= _) _ _ _
  refine wpAny_bind (wpAny_field hz rfl (x := .bool false) rfl (show wpAny _ _ (field (.ref z) 3 >>= _) _ _ _ from wpAny_bind (wpAny_field hz rfl (x := .ref TI) rfl (wpAny_bind (wpAny_seqItems hTI rfl ?_)))))
  refine (show wpAny _ _ (Builtin.SmallTypes.ownedTupleIsFree (.ref z) >>= _) _ _ _ from wpAny_bind (wpAny_tupleHeld_zip hz hT fun g1 z1 b1 => ?_))
  simp only [Bool.false_eq_true, if_false]; refine wpAny_bind ?_; rw [← Array.forIn_toList]
  simp only [List.forIn_cons, List.forIn_nil]; refine wpAny_bind (wpAny_bind (wpAny_holding ?_))
  refine (show wpAny _ _ (Builtin.SmallTypes.nextOf (.ref i1) >>= _) _ _ _ from wpAny_bind (nextOf_tuple_item (s := { s with heap := g1 }) (t1.extBut b1.extBut D.i1z) (hl1.extBut b1.extBut D.l1z) hx fun g2 u1 b2 => wpAny_pure (wpAny_pure ?_)))
  refine wpAny_bind (wpAny_bind (wpAny_holding (show wpAny _ _ (Builtin.SmallTypes.nextOf (.ref i2) >>= _) _ _ _ from ?_)))
  refine wpAny_bind (nextOf_tuple_item (s := { s with heap := g2 }) ((t2.extBut b1.extBut D.i2z).extBut b2.extBut D.i12.symm) ((hl2.extBut b1.extBut D.l2z).extBut b2.extBut D.l2i1) hy fun g3 u2 b3 => wpAny_pure (wpAny_pure (wpAny_pure ?_)))
  refine (show wpAny _ _ (newTuple [x, y] >>= _) _ _ _ from wpAny_bind (wpAny_newTuple ?_))
  have sz : g3.objs.size = s.heap.objs.size := b3.1.trans (b2.1.trans b1.1)
  have z3 : IsZipHeld g3 z TI TO T true := b3.extBut _ _ D.i2z.symm (b2.extBut _ _ D.i1z.symm z1)
  have kp : ∀ c o, c ≠ z → c ≠ i1 → c ≠ i2 → s.heap.get? c = some o → g3.get? c = some o := fun c o n1 n2 n3 e => b3.extBut _ _ n3 (b2.extBut _ _ n2 (b1.extBut _ _ n1 e))
  have pr : IsPair (g3.push { cls := .type "tuple", data := .seq #[x, y] }) g3.objs.size x y := Heap.get?_push_size _ rfl
  refine wpAny_pure ⟨_, rfl, (show Q (.ref g3.objs.size) _ from ?_)⟩
  rw [sz] at pr ⊢
  exact q _ (Heap.get?_push_of_some _ z3) ((u1.extBut b3.extBut D.i12).at fun o e => Heap.get?_push_of_some _ e) (u2.at fun o e => Heap.get?_push_of_some _ e) pr fun c o n1 n2 n3 e => Heap.get?_push_of_some _ (kp c o n1 n2 n3 e)
theorem zipN_end {Q : Fin → Shared → Prop} (calm : A.handled = none) (D : ZipApart z TI TO i1 i2 l1 l2) (hz : IsZipHeld s.heap z TI TO T f) (hT : s.heap.get? T = some oT) (hTI : IsPair s.heap TI (.ref i1) (.ref i2))
    (t1 : s.heap.IsTupleIter i1 l1 k1) (t2 : s.heap.IsTupleIter i2 l2 k2) (hl1 : s.heap.IsTuple l1 xs) (hl2 : s.heap.IsTuple l2 ys) (fin : xs[k1]? = none ∨ ys[k2]? = none)
    (q : ∀ h' e, (∀ c o, c ≠ z → c ≠ i1 → c ≠ i2 → s.heap.get? c = some o → h'.get? c = some o) → (∃ o, h'.get? e = some o ∧ o.cls = .type "StopIteration") → E (.ref e) { s with heap := h' }) : wpAny (model prog w) A (Builtin.«zip.__next__» ⟨[.ref z], []⟩) Q E s := by
  show wpAny _ _ (field (.ref z) 2 >>= _) _ _ _
  refine wpAny_bind (wpAny_field hz rfl (x := .bool false) rfl (show wpAny _ _ (field (.ref z) 3 >>= _) _ _ _ from wpAny_bind (wpAny_field hz rfl (x := .ref TI) rfl (wpAny_bind (wpAny_seqItems hTI rfl ?_)))))
  refine (show wpAny _ _ (Builtin.SmallTypes.ownedTupleIsFree (.ref z) >>= _) _ _ _ from wpAny_bind (wpAny_tupleHeld_zip hz hT fun g1 z1 b1 => ?_))
  simp only [Bool.false_eq_true, if_false]; refine wpAny_bind ?_; rw [← Array.forIn_toList]
  simp only [List.forIn_cons, List.forIn_nil]; refine wpAny_bind (wpAny_bind (wpAny_holding ?_))
  refine (show wpAny _ _ (Builtin.SmallTypes.nextOf (.ref i1) >>= _) _ _ _ from ?_)
  cases hx : xs[k1]? with
  | none => exact wpAny_bind (nextOf_tuple_end (s := { s with heap := g1 }) calm (t1.extBut b1.extBut D.i1z) (hl1.extBut b1.extBut D.l1z) hx fun g2 e b2 he => q g2 e (fun c o n1 n2 _ v => b2 _ _ n2 (b1.extBut _ _ n1 v)) he)
  | some x =>
    have hy : ys[k2]? = none := fin.elim (fun v => by rw [hx] at v; cases v) id
    refine wpAny_bind (nextOf_tuple_item (s := { s with heap := g1 }) (t1.extBut b1.extBut D.i1z) (hl1.extBut b1.extBut D.l1z) hx fun g2 u1 b2 => wpAny_pure (wpAny_pure ?_))
    refine wpAny_bind (wpAny_bind (wpAny_holding (show wpAny _ _ (Builtin.SmallTypes.nextOf (.ref i2) >>= _) _ _ _ from ?_)))
    exact wpAny_bind (nextOf_tuple_end (s := { s with heap := g2 }) calm ((t2.extBut b1.extBut D.i2z).extBut b2.extBut D.i12.symm) ((hl2.extBut b1.extBut D.l2z).extBut b2.extBut D.l2i1) hy fun g3 e b3 he => q g3 e (fun c o n1 n2 n3 v => b3 _ _ n3 (b2.extBut _ _ n2 (b1.extBut _ _ n1 v))) he)
theorem nextN_item {x y : Value} {Q : Option Value → Shared → Prop} (D : ZipApart z TI TO i1 i2 l1 l2) (hz : IsZipHeld s.heap z TI TO T f) (hT : s.heap.get? T = some oT) (hTI : IsPair s.heap TI (.ref i1) (.ref i2))
    (t1 : s.heap.IsTupleIter i1 l1 k1) (t2 : s.heap.IsTupleIter i2 l2 k2) (hl1 : s.heap.IsTuple l1 xs) (hl2 : s.heap.IsTuple l2 ys) (hx : xs[k1]? = some x) (hy : ys[k2]? = some y)
    (q : ∀ h', IsZipHeld h' z TI TO T true → h'.IsTupleIter i1 l1 (k1 + 1) → h'.IsTupleIter i2 l2 (k2 + 1) → IsPair h' s.heap.objs.size x y → (∀ c o, c ≠ z → c ≠ i1 → c ≠ i2 → s.heap.get? c = some o → h'.get? c = some o) → Q (some (.ref s.heap.objs.size)) { s with heap := h' }) :
    wpAny (model prog w) A (pyNext (.ref z)) Q E s := by
  have ty : s.TypeIs (.ref z) "zip" := ⟨_, hz, rfl⟩
  unfold pyNext; refine wpAny_bind (wpAny_attempt (wpAny_callSpecial?_slot (name := Str.ofString "__next__") ty F.slot_zip_next ?_))
  exact wpAny_call_entry F.slot_zip_next ty F.entry_zip_next (zipN_item D hz hT hTI t1 t2 hl1 hl2 hx hy fun h' a b c d e => wpAny_pure (q h' a b c d e)) (F.args_zip_next_1 _)
theorem nextN_end {Q : Option Value → Shared → Prop} (calm : A.handled = none) (D : ZipApart z TI TO i1 i2 l1 l2) (hz : IsZipHeld s.heap z TI TO T f) (hT : s.heap.get? T = some oT) (hTI : IsPair s.heap TI (.ref i1) (.ref i2))
    (t1 : s.heap.IsTupleIter i1 l1 k1) (t2 : s.heap.IsTupleIter i2 l2 k2) (hl1 : s.heap.IsTuple l1 xs) (hl2 : s.heap.IsTuple l2 ys) (fin : xs[k1]? = none ∨ ys[k2]? = none)
    (q : ∀ h', (∀ c o, c ≠ z → c ≠ i1 → c ≠ i2 → s.heap.get? c = some o → h'.get? c = some o) → Q none { s with heap := h' }) : wpAny (model prog w) A (pyNext (.ref z)) Q E s := by
  have ty : s.TypeIs (.ref z) "zip" := ⟨_, hz, rfl⟩
  unfold pyNext; refine wpAny_bind (wpAny_attempt (wpAny_callSpecial?_slot (name := Str.ofString "__next__") ty F.slot_zip_next ?_))
  refine wpAny_call_entry F.slot_zip_next ty F.entry_zip_next (zipN_end calm D hz hT hTI t1 t2 hl1 hl2 fin fun h' e kp he => ?_) (F.args_zip_next_1 _)
  obtain ⟨o, ho, hc⟩ := he
  exact wpAny_bind (wpAny_isInstance (T := "StopIteration") (b := true) ⟨o, ho, hc⟩ isSubtype_stop (wpAny_pure (q _ kp)))
end
end Ft

set_option Elab.async false
set_option linter.all false
set_option maxRecDepth 100000
set_option maxHeartbeats 8000000
/-! [e for x in zip(t, u)], x one name, t and u tuples -/
namespace Ft
open PySem PySem.Spec PyProof.Rows L2 RZ
/-- the items in pairs of their own; W by the turns that are done -/
def tLcZ (K : PySem.W.Frag) (ta : TA) (i : Nat) (te : TE) (vs : List Nat) : TE := fun σ H Q => ta σ H fun as H1 => ∃ (a b : Addr) (xs ys : List V), as = [.ref a, .ref b] ∧ SqT K H1 a xs ∧ SqT K H1 b ys ∧ ∀ D, H1 D = none → ∃ W : Nat → Hp → Prop, W 0 (upd H1 D (.lst [])) ∧
  (∀ j H, W j H → SqT K H a xs ∧ SqT K H b ys) ∧ (∀ j x y H T, W j H → xs[j]? = some x → ys[j]? = some y → H T = none → gName i (.ref T) (wipe σ vs) (upd H T (.tup [x, y])) fun σ2 H2 => wipe σ2 vs = wipe σ vs ∧ te σ2 H2 fun v H3 => ∃ acc, H3 D = some (.lst acc) ∧ acc.length < sizeLine ∧ (∀ c ps, upd H T (.tup [x, y]) c = some (.tup ps) → H3 c = some (.tup ps)) ∧ W (j + 1) (upd H3 D (.lst (acc ++ [v])))) ∧
  ∀ H, W (min xs.length ys.length) H → Q (.ref D) H
/-- the zip as it stands between two turns: nothing given out yet, or a pair that is tracked -/
def ZAt (h : Heap) (H : Hp) (z TI TO i1 i2 a b : Addr) (j : Nat) : Prop := IsPair h TI (.ref i1) (.ref i2) ∧ h.IsTupleIter i1 a j ∧ h.IsTupleIter i2 b j ∧ (∃ x y, IsPair h TO x y) ∧ (IsZip h z TI TO .none ∨ ∃ (T : Addr) (f : Bool) (ps : List V), IsZipHeld h z TI TO T f ∧ H T = some (.tup ps))
theorem ZAt.keep {h h' : Heap} {H H' : Hp} {z TI TO i1 i2 a b : Addr} {j : Nat} (q : ZAt h H z TI TO i1 i2 a b j) (k : ∀ c ∈ [z, TI, TO, i1, i2], ∀ o, h.get? c = some o → h'.get? c = some o) (t : ∀ c ps, H c = some (.tup ps) → H' c = some (.tup ps)) : ZAt h' H' z TI TO i1 i2 a b j := by
  obtain ⟨q1, q2, q3, ⟨x, y, q4⟩, q5⟩ := q
  refine ⟨k _ (by simp) _ q1, q2.at fun o e => k _ (by simp) o e, q3.at fun o e => k _ (by simp) o e, ⟨x, y, k _ (by simp) _ q4⟩, ?_⟩
  rcases q5 with q5 | ⟨T, f, ps, q5, q6⟩
  · exact .inl (k _ (by simp) _ q5)
  · exact .inr ⟨T, f, ps, k _ (by simp) _ q5, t _ _ q6⟩
theorem ZAt.lt {h : Heap} {H : Hp} {z TI TO i1 i2 a b : Addr} {j : Nat} (q : ZAt h H z TI TO i1 i2 a b j) : ∀ c ∈ [z, TI, TO, i1, i2], ∃ o, h.get? c = some o ∧ ∀ v, o.data ≠ .cell v := by
  obtain ⟨q1, ⟨o1, e1, _, d1⟩, ⟨o2, e2, _, d2⟩, ⟨x, y, q4⟩, q5⟩ := q
  intro c hc
  have hc' : c = z ∨ c = TI ∨ c = TO ∨ c = i1 ∨ c = i2 := by simpa using hc
  rcases hc' with rfl | rfl | rfl | rfl | rfl
  · rcases q5 with q5 | ⟨T, f, ps, q5, _⟩
    · exact ⟨_, q5, fun v q => nomatch q⟩
    · exact ⟨_, q5, fun v q => nomatch q⟩
  · exact ⟨_, q1, fun v q => nomatch q⟩
  · exact ⟨_, q4, fun v q => nomatch q⟩
  · exact ⟨o1, e1, fun v q => by rw [d1] at q; cases q⟩
  · exact ⟨o2, e2, fun v q => by rw [d2] at q; cases q⟩
section
variable {X : Cx}
/-- the next pair -/
theorem zNext {pins : List (Addr × Obj)} {σ : L2.St} {H : Hp} {s : Shared} {z TI TO i1 i2 a b : Addr} {j : Nat} {xs ys : List V} {x y : V} {E : Value → Shared → Prop} {Q : Option Value → Shared → Prop} (D : ZipApart z TI TO i1 i2 a b) (I : Inv X pins σ H s) (fp : ∀ c ∈ [z, TI, TO, i1, i2], FpOk X pins H c) (q : ZAt s.heap H z TI TO i1 i2 a b j)
    (ha : SqT X.K H a xs) (hb : SqT X.K H b ys) (hx : xs[j]? = some x) (hy : ys[j]? = some y)
    (h : ∀ s' T, H T = none → Inv X pins σ (upd H T (.tup [x, y])) s' → ZAt s'.heap (upd H T (.tup [x, y])) z TI TO i1 i2 a b (j + 1) → (∀ c ∈ [z, TI, TO, i1, i2], upd H T (.tup [x, y]) c = none) → Q (some (.ref T)) s') : wpAny (model X.prog X.w) X.A (pyNext (.ref z)) Q E s := by
  have there := q.lt
  obtain ⟨qTI, q1, q2, ⟨x0, y0, qTO⟩, q5⟩ := q
  obtain ⟨its, rv, p1, _⟩ := I.tuple ha
  obtain ⟨its2, rv2, p2, _⟩ := I.tuple hb
  obtain ⟨u, hu, ru⟩ := rv.get hx
  obtain ⟨u2, hu2, ru2⟩ := rv2.get hy
  have new : H s.heap.objs.size = none := I.hok.fresh (Nat.le_refl _)
  have out : ∀ c ∈ [z, TI, TO, i1, i2], upd H s.heap.objs.size (.tup [x, y]) c = none := fun c hc => by
    obtain ⟨o, e, _⟩ := there c hc
    rw [upd_ne (Nat.ne_of_lt (Heap.lt_size e))]
    exact (fp c hc).1
  have go : ∀ h', IsPair h' s.heap.objs.size u u2 → (∀ c o, c ≠ z → c ≠ TO → c ≠ i1 → c ≠ i2 → s.heap.get? c = some o → h'.get? c = some o) → (∃ v w, IsPair h' TO v w) → h'.IsTupleIter i1 a (j + 1) → h'.IsTupleIter i2 b (j + 1) →
      (∃ T f ps, IsZipHeld h' z TI TO T f ∧ upd H s.heap.objs.size (.tup [x, y]) T = some (.tup ps)) → Q (some (.ref s.heap.objs.size)) { s with heap := h' } := fun h' pr kp to' a1 a2 held => by
    have ob : ObjOk X.prog X.w (upd H s.heap.objs.size (.tup [x, y])) h' s.heap.objs.size (.tup [x, y]) := ⟨by show 2 ≤ sizeLine; decide, [u, u2], .cons ru (.cons ru2 .nil), ⟨_, pr, rfl, _, rfl⟩⟩
    refine h _ _ new (I.turnedNew (t' := s.toks) (ch := [z, TI, TO, i1, i2]) (fun c o hc e => kp c o (fun n => hc (by simp [n])) (fun n => hc (by simp [n])) (fun n => hc (by simp [n])) (fun n => hc (by simp [n])) e) fp (Nat.le_refl _) ob) ⟨kp _ _ D.TIz D.TITO D.TIi1 D.TIi2 qTI, a1, a2, to', .inr held⟩ out
  rcases q5 with qz | ⟨T, f, ps, qz, hT⟩
  · refine pyNext_zipT_item D qz qTI qTO q1 q2 p1 p2 (x := u) (y := u2) (by simpa using hu) (by simpa using hu2) fun h' z' to' a1 a2 pr _ kp => ?_
    exact go h' pr kp ⟨_, _, to'⟩ a1 a2 ⟨_, false, _, z', upd_same⟩
  · obtain ⟨_, _, _, ⟨oT, gT, _⟩⟩ : ObjOk X.prog X.w H s.heap T (.tup ps) := I.hok T _ hT
    refine nextN_item D qz gT qTI q1 q2 p1 p2 (x := u) (y := u2) (by simpa using hu) (by simpa using hu2) fun h' z' a1 a2 pr kp => ?_
    refine go h' pr (fun c o n1 _ n3 n4 e => kp c o n1 n3 n4 e) ⟨_, _, kp _ _ D.TOz D.TOi1 D.TOi2 qTO⟩ a1 a2 ⟨T, true, ps, z', ?_⟩
    rw [upd_ne (fun e => by rw [e, new] at hT; cases hT)]
    exact hT
/-- the end -/
theorem zDone {pins : List (Addr × Obj)} {σ : L2.St} {H : Hp} {s : Shared} {z TI TO i1 i2 a b : Addr} {j : Nat} {xs ys : List V} {E : Value → Shared → Prop} {Q : Option Value → Shared → Prop} (hc : X.calm = true) (D : ZipApart z TI TO i1 i2 a b) (I : Inv X pins σ H s) (fp : ∀ c ∈ [z, TI, TO, i1, i2], FpOk X pins H c) (q : ZAt s.heap H z TI TO i1 i2 a b j)
    (ha : SqT X.K H a xs) (hb : SqT X.K H b ys) (fin : xs.length ≤ j ∨ ys.length ≤ j) (h : ∀ s', Inv X pins σ H s' → Q none s') : wpAny (model X.prog X.w) X.A (pyNext (.ref z)) Q E s := by
  obtain ⟨qTI, q1, q2, ⟨x0, y0, qTO⟩, q5⟩ := q
  obtain ⟨its, rv, p1, _⟩ := I.tuple ha
  obtain ⟨its2, rv2, p2, _⟩ := I.tuple hb
  have n1 := rv.length
  have n2 := rv2.length
  have no : its.toArray[j]? = none ∨ its2.toArray[j]? = none := fin.elim (fun e => .inl (by simp; omega)) fun e => .inr (by simp; omega)
  have go : ∀ h', (∀ c o, c ≠ z → c ≠ TO → c ≠ i1 → c ≠ i2 → s.heap.get? c = some o → h'.get? c = some o) → Q none { s with heap := h' } := fun h' kp => h _ (I.turnedL (t' := s.toks) (ch := [z, TI, TO, i1, i2]) (fun c o hc e => kp c o (fun n => hc (by simp [n])) (fun n => hc (by simp [n])) (fun n => hc (by simp [n])) (fun n => hc (by simp [n])) e) fp)
  rcases q5 with qz | ⟨T, f, ps, qz, hT⟩
  · exact pyNext_zipT_end (I.ok.hd hc) D qz qTI qTO q1 q2 p1 p2 no go
  · obtain ⟨_, _, _, ⟨oT, gT, _⟩⟩ : ObjOk X.prog X.w H s.heap T (.tup ps) := I.hok T _ hT
    exact nextN_end (I.ok.hd hc) D qz gT qTI q1 q2 p1 p2 no fun h' kp => go h' fun c o m1 _ m3 m4 e => kp c o m1 m3 m4 e
theorem pe_lcZ {elt e1 e2 : Expr} {nx : Str} {px pz cpos pos : Pos} {scope : Scope} {own : List (Str × Nat)} {i : Nat} {ta : TA} {te : TE} (hc : X.calm = true) (hN : X.N.Nodup) (hg : Gl X "zip") (hm : X.mg "zip" = none) (ha : PA X [e1, e2] ta) (ok : BlkOk X.N X.env.scope scope own)
    (pg : ∀ (s : Shared) (H : Hp) (C : Addr) (cl : List (Str × Addr)) (fp : List Addr), PG (X.blk s H scope (compEnvC scope cl C X.env) fp) (.Name nx px) (gName i)) (he : ∀ (s : Shared) (H : Hp) (C : Addr) (cl : List (Str × Addr)) (fp : List Addr), PE (X.blk s H scope (compEnvC scope cl C X.env) fp) elt te)
    (st : starEach [e1, e2] X.env = (false, eval e1 X.env) :: starEach [e2] X.env := by rfl) (pl : (backTo cpos (starEach [e2] X.env)).any (·.1) = false := by rfl) (fs : ∀ x, foldedSetIterable (.Call (.Name "zip" pz) [e1, e2] [] cpos) X.env x = pure x := by intro _; rfl) :
    PE X (.ListComp elt [⟨.Name nx px, .Call (.Name "zip" pz) [e1, e2] [] cpos, [], 0⟩] scope pos) (tLcZ X.K ta i te (own.map (·.2))) := by
  refine ⟨fun pins s σ H Q I h => ?_⟩
  rw [eval_ListComp]
  have free : ∀ y ∈ scope.names, y.2 = .free → ∃ c, X.env.cells.lookup y.1 = some c := fun y hy e => (ok.free y hy e).elim (fun k => I.ok.has _ (.inl k)) fun k => I.ok.has _ (.inr k)
  refine wpAny_comprehension_free (use := none) rfl fs (closure_ok free) ok.kind (fun y hy e => by rw [ok.uniq y hy, e]) ?_
  refine Call_ (ld_blt I hg hm PyProof.Rows.boot_zip (PyProof.Rows.callWith_type1 (thn (ha.run cpos pins s σ H _ I h) fun us s1 ⟨vs, H1, I1, r1, q1⟩ => ?_) st pl))
  obtain ⟨a, b, xs, ys, rfl, hx, hy, q⟩ := q1
  cases r1 with
  | cons r rr => cases rr with
    | cons r' rr =>
      cases rr; cases r; cases r'
      obtain ⟨its, rv, p1, _⟩ := I1.tuple hx
      obtain ⟨its2, rv2, p2, _⟩ := I1.tuple hy
      obtain ⟨o1, g1, _⟩ := id p1
      obtain ⟨o2, g2, _⟩ := id p2
      refine call_zipT (show s1.heap.IsTuple a its.toArray from p1) (show s1.heap.IsTuple b its2.toArray from p2) fun h' hz hTI hTO t1 t2 sz1 kp1 => wpAny_pyIter_zip hz ?_
      have D := PySem.W.ktu_apart s1.heap.objs.size a b (Heap.lt_size g1) (Heap.lt_size g2)
      generalize ez : s1.heap.objs.size + 4 = z at hz D
      generalize eTI : s1.heap.objs.size + 2 = TI at hz hTI D
      generalize eTO : s1.heap.objs.size + 3 = TO at hz hTO D
      generalize ei2 : s1.heap.objs.size + 1 = i2 at hTI t2 D
      generalize ei1 : s1.heap.objs.size = i1 at hTI t1 D ez eTI eTO ei2
      have I2 : Inv X pins σ H1 { s1 with heap := h' } := I1.kept (t' := s1.toks) kp1
      have low : ∀ c ∈ [z, TI, TO, i1, i2], s1.heap.objs.size ≤ c ∧ c < h'.objs.size := by
        intro c hc
        simp only [List.mem_cons, List.not_mem_nil, or_false] at hc
        rcases hc with e | e | e | e | e <;> rw [e, sz1] <;> omega
      have ok1 : ∀ c ∈ [z, TI, TO, i1, i2], FpOk X pins H1 c := fun c hc => I1.fpOk (low c hc).1 (I1.hok.fresh (low c hc).1)
      have zt : ZAt h' H1 z TI TO i1 i2 a b 0 := ⟨hTI, t1, t2, ⟨_, _, hTO⟩, .inl hz⟩
      refine wpAny_newObj_type (newEnv_comp ?_) (by show 0 ≤ sizeLine; decide)
      generalize eL : ({ s1 with heap := h' } : Shared).heap.objs.size = L
      have nL : H1 L = none := I2.hok.fresh (Nat.le_of_eq eL)
      obtain ⟨W, w0, keepW, turn, last⟩ := q L nL
      generalize es3 : ({ s1 with heap := h'.push { cls := .type "list", data := .seq ([] : List Value).toArray } } : Shared) = s3
      have h3 : s3.heap = h'.push { cls := .type "list", data := .seq ([] : List Value).toArray } := by rw [← es3]
      have I3 : Inv X pins σ (upd H1 L (.lst [])) s3 := by
        rw [← es3]
        refine I2.laid (t' := s1.toks) (fun c o e => Heap.get?_push_of_some _ e) (Nat.le_of_eq eL) ⟨Nat.zero_le _, [], 0, .nil, ?_⟩
        rw [← eL]
        exact Heap.get?_push_size _ rfl
      have eL' : h'.objs.size = L := eL
      have ok3 : ∀ c ∈ [z, TI, TO, i1, i2], FpOk X pins (upd H1 L (.lst [])) c ∧ c < s3.heap.objs.size := fun c hc => by
        refine ⟨⟨?_, (ok1 c hc).2⟩, by rw [h3, Heap.size_push]; exact Nat.lt_succ_of_lt (low c hc).2⟩
        rw [upd_ne (by rw [← eL']; exact Nat.ne_of_lt (low c hc).2)]
        exact (ok1 c hc).1
      have I4 := block_start I3 ok hN ok3
      have pg4 := pg s3 (upd H1 L (.lst [])) s3.heap.objs.size (cellsFrom (s3.heap.objs.size + 1) scope.names (cloFrom X.env.cells scope.names [])) [z, TI, TO, i1, i2]
      have pe4 := he s3 (upd H1 L (.lst [])) s3.heap.objs.size (cellsFrom (s3.heap.objs.size + 1) scope.names (cloFrom X.env.cells scope.names [])) [z, TI, TO, i1, i2]
      show codeAny _ _ (.compStart (.ListComp elt [⟨.Name nx px, .Call (.Name "zip" pz) [e1, e2] [] cpos, [], 0⟩] scope pos) 0 (.ref z) (.ref L) (compEnvC scope (cellsFrom (s3.heap.objs.size + 1) scope.names (cloFrom X.env.cells scope.names [])) s3.heap.objs.size X.env)) (compPost (model X.prog X.w) X.A X.xe none (EP X pins σ Q) (.ref L) s3.heap.objs.size) { s3 with heap := pushCells (s3.heap.push { cls := .type "dict", data := .dict #[] }) scope.names }
      have nfp : ∀ c ∈ [z, TI, TO, i1, i2], (upd H1 L (.lst [])) c = none := fun c hc => (ok3 c hc).1.1
      have tups : ∀ c ps, H1 c = some (.tup ps) → upd H1 L (.lst []) c = some (.tup ps) := fun c ps e => by rw [upd_ne (fun n => by rw [n, nL] at e; cases e)]; exact e
      generalize ece : compEnvC scope (cellsFrom (s3.heap.objs.size + 1) scope.names (cloFrom X.env.cells scope.names [])) s3.heap.objs.size X.env = ce at I4 pg4 pe4 ⊢
      have cL : ce.locals = s3.heap.objs.size := by rw [← ece]; rfl
      generalize upd H1 L (.lst []) = H3 at I3 I4 pg4 pe4 w0 nfp ok3 tups
      generalize es4 : ({ s3 with heap := pushCells (s3.heap.push { cls := .type "dict", data := .dict #[] }) scope.names } : Shared) = s4 at I4 ⊢
      have k4 : ∀ c o, h'.get? c = some o → s4.heap.get? c = some o := fun c o e => by rw [← es4]; exact pushCells_keeps _ _ _ _ (Heap.get?_push_of_some _ (by rw [h3]; exact Heap.get?_push_of_some _ e))
      have z4 : ZAt s4.heap H3 z TI TO i1 i2 a b 0 := zt.keep (fun c _ o e => k4 c o e) tups
      have stat : ∀ {σ' : L2.St} {H' : Hp} {s' : Shared}, Inv (X.blk s3 H3 scope ce [z, TI, TO, i1, i2]) [] σ' H' s' → (∀ c ∈ [z, TI, TO, i1, i2], H' c = none) → ∀ c ∈ [z, TI, TO, i1, i2], FpOk (X.blk s3 H3 scope ce [z, TI, TO, i1, i2]) [] H' c := fun {σ' H' s'} J hn c hc =>
        ⟨hn c hc, (J.ok.exf c hc).1, J.ok.exfs c hc, .inl hc, fun x d e => (J.ok.exf c hc).2 x d e, fun p hp => absurd (show p ∈ ([] : List (Addr × Obj)) ++ [] from hp) (by simp)⟩
      have loop : codeAny (model X.prog X.w) X.A (.compLoop (.ListComp elt [⟨.Name nx px, .Call (.Name "zip" pz) [e1, e2] [] cpos, [], 0⟩] scope pos) 0 (.ref z) (.ref L) ce) (compPost (model X.prog X.w) X.A X.xe none (EP X pins σ Q) (.ref L) s3.heap.objs.size) s4 := by
        refine compLoop_any (fun n s' => ∃ j H', n + j = min xs.length ys.length ∧ Inv (X.blk s3 H3 scope ce [z, TI, TO, i1, i2]) [] (wipe σ (own.map (·.2))) H' s' ∧ ZAt s'.heap H' z TI TO i1 i2 a b j ∧ (∀ c ∈ [z, TI, TO, i1, i2], H' c = none) ∧ W j H') ?_ _ ⟨0, H3, rfl, I4, z4, nfp, w0⟩
        rintro n s5 ⟨j, H5, ej, I5, z5, n5, w5⟩
        obtain ⟨x5, y5⟩ := keepW j H5 w5
        by_cases e : n = 0
        · refine zDone (X := X.blk s3 H3 scope ce [z, TI, TO, i1, i2]) hc D I5 (stat I5 n5) z5 x5 y5 (by omega) fun s6 I6 => ?_
          have I7 : Inv X pins σ H5 s6 := I3.call' (ch := [z, TI, TO, i1, i2]) I6.os I6.base I6.hok I6.bare fun c hc => ⟨(ok3 c hc).1.2.2.2.1, (ok3 c hc).1.2.1, (ok3 c hc).1.2.2.2.2.1, (ok3 c hc).1.2.2.2.2.2⟩
          have nC : H5 s3.heap.objs.size = none := by rw [← cL]; exact I6.free
          obtain ⟨m, hn, _⟩ := I6.loc
          have hn : s6.heap.Ns ce.locals m := hn
          rw [cL] at hn
          obtain ⟨f0, f1, f2, f3, f4, f5⟩ := I3.fpOk (Nat.le_refl _) nC
          have jm : j = min xs.length ys.length := by omega
          rw [jm] at w5
          exact ⟨m, hn, fun h'' sb => ⟨.ref L, H5, I7.turned (t' := s6.toks) (fun c o hc e => (sb.2 c hc).trans e) f0 f1 f3 f4 f5, rfl, last H5 w5⟩⟩
        · have jx : j < xs.length := by omega
          have jy : j < ys.length := by omega
          refine zNext (X := X.blk s3 H3 scope ce [z, TI, TO, i1, i2]) D I5 (stat I5 n5) z5 x5 y5 (List.getElem?_eq_getElem jx) (List.getElem?_eq_getElem jy) fun s6 T nT I6 z6 n6 => ?_
          have J6 := I6.pinned (stat I6 n6) z6.lt
          refine wpAny_pure ?_
          refine thnF (pg4.run _ s6 _ _ (.ref T) (.ref T) _ J6 rfl (turn j _ _ H5 T w5 (List.getElem?_eq_getElem jx) (List.getElem?_eq_getElem jy) nT)) fun _ s8 ⟨σ8, H8, I8, hw8, q8⟩ => ?_
          refine thnF ((pts_nil (X := X.blk s3 H3 scope ce [z, TI, TO, i1, i2])).run _ s8 σ8 H8 (fun b H' => b = true ∧ H' = H8) I8 ⟨rfl, rfl⟩) fun bb s9 ⟨H9, I9, eb, eH⟩ => ?_
          subst eb eH
          simp only [if_true]
          refine thnF (pe4.run _ s9 σ8 _ _ I9 q8) fun v s10 ⟨yv, H10, I10, r10, acc, hA, hz10, ht10, w'⟩ => ?_
          refine app_ok (X := X.blk s3 H3 scope ce [z, TI, TO, i1, i2]) I10 hA hz10 r10 fun s11 I11 => ?_
          have pin' : ∀ c ∈ [z, TI, TO, i1, i2], ∀ o, s6.heap.get? c = some o → s11.heap.get? c = some o ∧ upd H10 L (.lst (acc ++ [yv])) c = none := fun c hc o e =>
            let u := I11.pin (c, o) (List.mem_append_right _ (List.mem_append_right _ (mem_pinsAt hc e)))
            ⟨u.1, u.2.1⟩
          have hl : (wipe σ (own.map (·.2))).length = σ8.length := by rw [← hw8, wipe_length]
          refine ⟨n - 1, by omega, j + 1, _, by omega, (I11.unpinned (pins := [])).weak hl (fun u v e => ?_), z6.keep (fun c hc o e => (pin' c hc o e).1) (fun c ps e => ?_), fun c hc => ?_, w'⟩
          · rw [← hw8] at e
            exact (wipe_some e).1
          · have e' := ht10 c ps e
            rw [upd_ne (fun n => by rw [n, hA] at e'; cases e')]
            exact e'
          · obtain ⟨o, e, _⟩ := z6.lt c hc
            exact (pin' c hc o e).2
      exact codeAny_compStart_list loop (wpAny_pyIter_zip (k4 _ _ hz) loop)
end
end Ft

set_option Elab.async false
set_option linter.all false
set_option maxRecDepth 100000
set_option maxHeartbeats 8000000
namespace Ft
open PySem PySem.Spec PyProof.Rows L2
theorem atI_end {α : Type} {xs : List α} {v : α} (h : xs[xs.length - 1]? = some v) : atI xs (-1) = some v := by
  have hj := (List.getElem?_eq_some_iff.mp h).1
  obtain ⟨l, z, rfl⟩ : ∃ l z, xs = l ++ [z] := ⟨xs.dropLast, xs.getLast (by intro e; rw [e] at hj; simp at hj), (List.dropLast_concat_getLast _).symm⟩
  have e : v = z := by simpa using h.symm
  rw [e]
  exact atI_last l z
theorem cutG_inner {α : Type} {l : List α} : cutG l (some 1) (some (-1)) = (l.drop 1).take (l.length - 2) := by
  unfold cutG
  have e1 : HT.sIx l.length 0 (some 1) = min 1 l.length := HT.sIx_nat _ _ 1
  have e2 : HT.sIx l.length l.length (some (-1)) = l.length - 1 := by
    show (if (-1 : Int) < 0 then ((-1 : Int) + (l.length : Int)).toNat else min (-1 : Int).toNat l.length) = l.length - 1
    rw [if_pos (by omega)]
    omega
  rw [e1, e2]
  cases l with
  | nil => rfl
  | cons a l =>
    have e3 : min 1 (a :: l).length = 1 := by rw [List.length_cons]; omega
    rw [e3]
    rfl
theorem cutG_map {α β : Type} (f : α → β) (l : List α) (lo hi : Option Int) : cutG (l.map f) lo hi = (cutG l lo hi).map f := by
  unfold cutG
  rw [List.length_map, List.map_take, List.map_drop]
theorem getD_at {l : List Nat} {i : Nat} (h : i < l.length) : l[i]? = some (l.getD i 0) := by
  rw [List.getD_eq_getElem?_getD, List.getElem?_eq_getElem h]
  rfl
/-! ### ways, of data -/
def stepB (rs : List (Nat × Nat)) (l : List Nat) (i : Nat) : Bool := decide ((l.getD i 0, l.getD (i + 1) 0) ∈ rs)
def wayLB (C : Chart) (S l : List Nat) : Bool := decide (2 ≤ l.length) && (decide (l.getD 0 0 ∈ S) && (decide (l.getD (l.length - 1) 0 ∈ C.wished) && (!((l.drop 1).take (l.length - 2)).any (fun p => decide (p ∈ C.wished)) && (List.range (l.length - 1)).all (stepB C.roads l))))
def wayD (C : Chart) (S : List Nat) : PyData → Bool
  | .tuple ds => match natsL ds with
    | some l => wayLB C S l
    | none => false
  | _ => false
theorem wayLB_lt {C : Chart} (ok : C.Ok) {S l : List Nat} (h : wayLB C S l = true) : ∀ x ∈ l, x < C.n := by
  unfold wayLB at h
  simp only [Bool.and_eq_true, decide_eq_true_eq, List.all_eq_true, List.mem_range] at h
  obtain ⟨h2, _, _, _, hs⟩ := h
  intro x hx
  obtain ⟨i, hi⟩ := List.getElem?_of_mem hx
  have il := (List.getElem?_eq_some_iff.mp hi).1
  have ex : l.getD i 0 = x := by rw [List.getD_eq_getElem?_getD, hi]; rfl
  by_cases e : i + 1 < l.length
  · have := hs i (by omega)
    unfold stepB at this
    have := (ok.inR _ (of_decide_eq_true this)).1
    rw [← ex]
    exact this
  · have := hs (i - 1) (by omega)
    unfold stepB at this
    have := (ok.inR _ (of_decide_eq_true this)).2
    rw [show i - 1 + 1 = i by omega] at this
    rw [← ex]
    exact this
/-- the roads of a map as rows of two numbers -/
theorem pairs_ks {K : PySem.W.Frag} {H : Hp} : ∀ {ts : List Addr} {ps : List (Nat × Nat)}, PairsAt K H ts ps → ∃ ks : List (Addr × List Int), ks.map (fun p => V.ref p.1) = ts.map V.ref ∧ ks.map (·.2) = ps.map two ∧ ∀ p ∈ ks, SqT K H p.1 (p.2.map V.int)
  | _, _, .nil => ⟨[], rfl, rfl, fun _ h => nomatch h⟩
  | t :: _, p :: _, .cons r rest => by
    obtain ⟨ks, e1, e2, all⟩ := pairs_ks rest
    refine ⟨(t, two p) :: ks, by rw [List.map_cons, e1]; rfl, by rw [List.map_cons, e2]; rfl, fun q hq => ?_⟩
    rcases List.mem_cons.mp hq with rfl | hq
    · exact r
    · exact all q hq
section
variable {P : Program} {w : World} {K : PySem.W.Frag} {mg : Str → Option Value} {base : Heap} {ca : Str → Addr}
/-! ### is_map -/
def sp_is_map (K : PySem.W.Frag) : Sp := fun vs H Q _ => ∃ (vc : V) (dc : PyData), vs = [vc] ∧ Dp K H vc dc ∧ ∀ H', Same H H' → Q (.bl (mapErr dc).isNone) H'
/-! ### free_fits -/
def freeD (C : Chart) : PyData → Bool
  | .tuple ds => match natsL ds with
    | some l => lotOk C.n (.tuple ds) && !l.any (fun p => decide (p ∈ C.wished))
    | none => false
  | _ => false
def sp_free_fits (K : PySem.W.Frag) : Sp := fun vs H Q _ => ∃ (c : Addr) (C : Chart) (v : V) (d : PyData), vs = [.ref c, v] ∧ IsChart K H c C ∧ C.Ok ∧ Dp K H v d ∧ ∀ H', Same H H' → Q (.bl (freeD C d)) H'
/-! ### way_fits -/
theorem ways_no {C : Chart} {S : List Nat} {d : PyData} (h : isTup d = false) : wayD C S d = false := by
  cases d <;> first | rfl | cases h
theorem places_all {n : Nat} : ∀ {ds : List PyData}, (ds.map (rngD n)).all id = true → ∃ l : List Nat, ds = l.map nD ∧ ∀ x ∈ l, x < n
  | [], _ => ⟨[], rfl, fun _ h => nomatch h⟩
  | d :: ds, h => by
    rw [List.map_cons, List.all_cons, Bool.and_eq_true] at h
    obtain ⟨i, rfl, hi⟩ := rngD_is (show rngD n d = true from h.1)
    obtain ⟨l, rfl, hl⟩ := places_all h.2
    exact ⟨i :: l, rfl, fun x hx => (List.mem_cons.mp hx).elim (fun e => e ▸ hi) (hl x)⟩
theorem places_map {n : Nat} {l : List Nat} (h : ∀ x ∈ l, x < n) : ((l.map nD).map (rngD n)).all id = true := by
  rw [List.all_map, List.all_map, List.all_eq_true]
  intro x hx
  exact rngD_nat (h x hx)
theorem way_short {C : Chart} {S : List Nat} {ds : List PyData} (h : ds.length < 2) : wayD C S (.tuple ds) = false := by
  unfold wayD
  simp only
  cases e : natsL ds with
  | none => rfl
  | some l =>
    have el := natsL_some e
    rw [el, List.length_map] at h
    simp only
    unfold wayLB
    rw [decide_eq_false (by omega)]
    rfl
theorem way_off {C : Chart} (ok : C.Ok) {S : List Nat} {ds : List PyData} (h : (ds.map (rngD C.n)).all id = false) : wayD C S (.tuple ds) = false := by
  unfold wayD
  simp only
  cases e : natsL ds with
  | none => rfl
  | some l =>
    have el := natsL_some e
    simp only
    cases e2 : wayLB C S l with
    | false => rfl
    | true =>
      rw [el, places_map (wayLB_lt ok e2)] at h
      cases h
theorem way_nats {C : Chart} {S l : List Nat} : wayD C S (.tuple (l.map nD)) = wayLB C S l := by
  unfold wayD
  simp only
  rw [natsL_map]
def sp_way_fits (K : PySem.W.Frag) : Sp := fun vs H Q _ => ∃ (c lo : Addr) (C : Chart) (S : List Nat) (v : V) (d : PyData), vs = [.ref c, .ref lo, v] ∧ IsChart K H c C ∧ C.Ok ∧ C.roads.length < 64 ∧ SqT K H lo (S.map vN) ∧ Dp K H v d ∧ Fine d ∧ ∀ H', Same H H' → Q (.bl (wayD C S d)) H'
end
end Ft

set_option Elab.async false
set_option linter.all false
set_option maxRecDepth 100000
set_option maxHeartbeats 8000000
namespace Ft
open PySem PySem.Spec PyProof.Rows L2
/-- the unwished places to which places of a lot come -/
noncomputable def innerL (C : Chart) (S : List Nat) : List Nat := those C.n fun b => b ∉ C.wished ∧ ComesS C S b
theorem innerL_mem {C : Chart} {S : List Nat} {b : Nat} : b ∈ innerL C S ↔ b < C.n ∧ b ∉ C.wished ∧ ComesS C S b := those_mem
/-- what was met -/
structure MetOk (C : Chart) (S M : List Nat) : Prop where
  nd : M.Nodup
  mem : ∀ b ∈ M, b < C.n ∧ b ∉ C.wished ∧ ComesS C S b
/-- what is left to be looked at -/
structure LeftOk (C : Chart) (S M L : List Nat) : Prop where
  of : ∀ x ∈ L, x ∈ S ∨ x ∈ M
  done : ∀ x, (x ∈ S ∨ x ∈ M) → x ∈ L ∨ ∀ b, (x, b) ∈ C.roads → b ∉ C.wished → b ∈ M
theorem left_end {C : Chart} {S M : List Nat} (ok : C.Ok) (h : MetOk C S M) (d : LeftOk C S M []) : ∀ x, x ∈ M ↔ x < C.n ∧ x ∉ C.wished ∧ ComesS C S x := fun x => by
  refine ⟨h.mem x, fun ⟨_, nw, a, ha, r⟩ => ?_⟩
  have all : ∀ y, (y ∈ S ∨ y ∈ M) → ∀ b, (y, b) ∈ C.roads → b ∈ C.wished ∨ b ∈ M := fun y hy b hb => by
    rcases d.done y hy with z | z
    · exact absurd z List.not_mem_nil
    · by_cases w : b ∈ C.wished
      · exact .inl w
      · exact .inr (z b hb w)
  rcases r.within (S := fun z => z ∈ C.wished ∨ z ∈ M) (fun y hy => all a (.inl ha) y hy) fun y z hy hw hz => all y (.inr (hy.resolve_left hw)) z hz with z | z
  · exact absurd z nw
  · exact z
section
variable {P : Program} {w : World} {K : PySem.W.Frag} {mg : Str → Option Value} {base : Heap}
/-! ### _law_way_inner -/
def sp_law_way_inner (K : PySem.W.Frag) : Sp := fun vs H Q _ => ∃ (c lo : Addr) (C : Chart) (S : List Nat), vs = [.ref c, .ref lo] ∧ IsChart K H c C ∧ C.Ok ∧ SqT K H lo (S.map vN) ∧ (∀ x ∈ S, x < C.n) ∧ S.length ≤ 60 ∧ ∀ t H', Same H H' → H t = none → H' t = some (.lst ((innerL C S).map vN)) → Q (.ref t) H'
/-! ### _law_way_next -/
def sp_law_way_next (K : PySem.W.Frag) : Sp := fun vs H Q _ => ∃ (c lo : Addr) (C : Chart) (X : List Nat), vs = [.ref c, .ref lo] ∧ IsChart K H c C ∧ C.Ok ∧ C.roads.length ≤ 63 ∧ (SqL K H lo (X.map vN) ∨ SqT K H lo (X.map vN)) ∧
  ∀ t H', Same H H' → SqT K H' t ((nextL C X).map vN) → Q (.ref t) H'
end
end Ft

set_option Elab.async false
set_option linter.all false
set_option maxRecDepth 100000
set_option maxHeartbeats 4000000
/-! Plain mathematics: the farthest least wall. -/
namespace Ft
/-- a side from which there is room to an end where no way ends -/
inductive ToEnd (C : Chart) (room E : List Nat) : Nat → Prop
  | stop {w : Nat} : w ∈ C.wished → w ∉ E → ToEnd C room E (2 * w)
  | step {p u v : Nat} : Goes (netA C) p u v → 0 < room.getD p 0 → ToEnd C room E v → ToEnd C room E u
/-- the farthest of the least walls that use no free place, of m places -/
structure FarSpec (C : Chart) (S F : List Nat) (m : Nat) (X : List Nat) : Prop where
  lt : ∀ a ∈ X, a < C.n
  sub : ∀ a ∈ S, a ∈ X
  inn : ∀ a ∈ X, a ∈ S ∨ (a ∉ C.wished ∧ ComesS C S a)
  free : ∀ b ∈ nextL C X, b ∉ F
  many : (nextL C X).length = m
  most : ∀ Y, (∀ a ∈ S, a ∈ Y) → (∀ a ∈ Y, a ∈ S ∨ (a ∉ C.wished ∧ ComesS C S a)) → (∀ b ∈ nextL C Y, b ∉ F) → m ≤ (nextL C Y).length ∧ ((nextL C Y).length = m → ∀ a ∈ Y, a ∈ X)
section
variable {C : Chart} {S F room E : List Nat} {L : List (Nat × Option Nat)}
theorem toEnd_off (cl : Closed C S room E L) {v : Nat} (h : ToEnd C room E v) : v ∉ keysT L := by
  induction h with
  | stop hw hn => exact fun m => hn (cl.noEnd _ hw m)
  | step g r _ ih => exact fun m => ih (cl.done _ m _ _ g r)
theorem far_spec (ok : C.Ok) (lo : LotsOk C S F) (fo : FlowOk C S F room E) (few : E.length ≤ 60) (cl : Closed C S room E L) {X : List Nat} (mX : ∀ a, a ∈ X ↔ a ∈ S ∨ (a < C.n ∧ a ∉ C.wished ∧ ComesS C S a ∧ ¬ ToEnd C room E (2 * a + 1))) : FarSpec C S F E.length X := by
  have srcN : ∀ a ∈ S, ¬ ToEnd C room E (2 * a + 1) := fun a ha h => toEnd_off cl h (cl.src a ha)
  have inX : ∀ a ∈ X, ¬ ToEnd C room E (2 * a + 1) := fun a ha => ((mX a).mp ha).elim (srcN a) fun h => h.2.2.2
  have lt : ∀ a ∈ X, a < C.n := fun a ha => ((mX a).mp ha).elim (lo.inS a) fun h => h.1
  have sub : ∀ a ∈ S, a ∈ X := fun a ha => (mX a).mpr (.inl ha)
  have inn : ∀ a ∈ X, a ∈ S ∨ (a ∉ C.wished ∧ ComesS C S a) := fun a ha => ((mX a).mp ha).imp_right fun h => ⟨h.2.1, h.2.2.1⟩
  have rgX : Region C S X := ⟨sub, fun a ha => (inn a ha).imp_right fun h => h.1⟩
  obtain ⟨R, hR⟩ : ∃ R : Nat → Bool, ∀ v, R v = true ↔ ¬ ToEnd C room E v :=
    ⟨fun v => @decide _ (Classical.propDecidable _), fun v => @decide_eq_true_iff _ (Classical.propDecidable _)⟩
  have hF : ∀ v, ¬ R v = true → ToEnd C room E v := fun v h => Classical.byContradiction fun n => h ((hR v).mpr n)
  have bd := fo.border ok R fun a ha => (hR _).mpr (srcN a ha)
  rw [out_sum R fo.len] at bd
  have road_in : ∀ {x y : Nat}, (x, y) ∈ C.roads → (x ≠ y ∨ y ∈ C.wished) → R (2 * x + 1) = true → R (2 * y) = true := fun {x y} hr k h => by
    obtain ⟨i, hi, ha⟩ := net_road hr k
    have hl : i < (netA C).length := (List.getElem?_eq_some_iff.mp ha).1
    have s := fo.sum i hl
    unfold capOf at s
    rw [if_neg (by omega)] at s
    have := fo.small i
    exact (hR _).mpr fun t => (hR _).mp h (.step (goes_fwd ha) (by omega) t)
  have comes : ∀ {x y : Nat}, x ∈ X → (x, y) ∈ C.roads → ComesS C S y := fun {x y} hx hr => by
    rcases inn x hx with h | ⟨nw, a, ha, r⟩
    · exact ⟨x, h, .one hr⟩
    · exact ⟨a, ha, .more r nw hr⟩
  have next_in : ∀ b ∈ nextL C X, R (2 * b) = true := fun b hb => by
    obtain ⟨_, ⟨a, ha, hr⟩, h3⟩ := nextL_mem.mp hb
    refine road_in hr ?_ ((hR _).mpr (inX a ha))
    rcases h3 with h | h
    · exact .inr h
    · exact .inl fun e => h (e ▸ ha)
  have next_out : ∀ b ∈ nextL C X, b ∉ C.wished → ¬ R (2 * b + 1) = true := fun b hb nw h => by
    obtain ⟨h1, ⟨a, ha, hr⟩, h3⟩ := nextL_mem.mp hb
    exact (h3.resolve_left nw) ((mX b).mpr (.inr ⟨h1, nw, comes ha hr, (hR _).mp h⟩))
  have gate : ∀ {i : Nat}, i < C.n → R (2 * i) = true → ¬ R (2 * i + 1) = true → room.getD (2 * i) 0 = 0 ∧ room.getD (2 * i + 1) 0 = gateCap C S F i ∧ i ∉ S ∧ i ∉ F := fun {i} hi h1 h2 => by
    have ha := net_gate hi
    have hl : i < (netA C).length := (List.getElem?_eq_some_iff.mp ha).1
    have z : room.getD (2 * i) 0 = 0 := by
      rcases Nat.eq_zero_or_pos (room.getD (2 * i) 0) with z | z
      · exact z
      · exact absurd (.step (goes_fwd ha) z (hF _ h2)) ((hR _).mp h1)
    have s := fo.sum i hl
    unfold capOf at s
    rw [if_pos hi] at s
    have sm := fo.small i
    have nS : i ∉ S := fun m => h2 ((hR _).mpr (srcN i m))
    refine ⟨z, by omega, nS, fun m => ?_⟩
    unfold gateCap at s
    rw [if_neg nS, if_pos m] at s
    omega
  have free : ∀ b ∈ nextL C X, b ∉ F := fun b hb m => by
    by_cases hw : b ∈ C.wished
    · exact (lo.inF b m).2 hw
    · exact (gate (nextL_mem.mp hb).1 (next_in b hb) (next_out b hb hw)).2.2.2 m
  have part : ∀ i ∈ List.range (netA C).length, tmA (netA C) room R i = if (fun i => decide (i < C.n ∧ R (2 * i) = true ∧ ¬ R (2 * i + 1) = true ∧ i ∉ C.wished)) i = true then (1 : Int) else 0 := fun i hi => by
    rw [List.mem_range] at hi
    have ha : (netA C)[i]? = some (netA C)[i] := List.getElem?_eq_getElem hi
    unfold tmA
    rw [ha]
    show _ = if decide (i < C.n ∧ R (2 * i) = true ∧ ¬ R (2 * i + 1) = true ∧ i ∉ C.wished) = true then (1 : Int) else 0
    simp only
    have no : (¬ (i < C.n ∧ R (2 * i) = true ∧ ¬ R (2 * i + 1) = true ∧ i ∉ C.wished)) → (if decide (i < C.n ∧ R (2 * i) = true ∧ ¬ R (2 * i + 1) = true ∧ i ∉ C.wished) = true then (1 : Int) else 0) = 0 := fun n => if_neg fun h => n (of_decide_eq_true h)
    have yes : (i < C.n ∧ R (2 * i) = true ∧ ¬ R (2 * i + 1) = true ∧ i ∉ C.wished) → (if decide (i < C.n ∧ R (2 * i) = true ∧ ¬ R (2 * i + 1) = true ∧ i ∉ C.wished) = true then (1 : Int) else 0) = 1 := fun n => if_pos (decide_eq_true n)
    rcases net_is ha with ⟨h, e1, e2⟩ | ⟨h, x, y, hr, k, e1, e2⟩
    · rw [e1, e2]
      by_cases t : R (2 * i) = true
      · by_cases d : R (2 * i + 1) = true
        · rw [if_pos t, if_pos d, no fun z => z.2.2.1 d]
          omega
        · obtain ⟨_, g, nS, nF⟩ := gate h t d
          rw [if_pos t, if_neg d, g]
          unfold gateCap
          rw [if_neg nS, if_neg nF]
          by_cases hw : i ∈ C.wished
          · rw [if_pos hw, no fun z => z.2.2.2 hw]
            rfl
          · rw [if_neg hw, yes ⟨h, t, d, hw⟩]
            rfl
      · rw [if_neg t, no fun z => t z.2.1]
        by_cases d : R (2 * i + 1) = true
        · rw [if_pos d]
          rcases Nat.eq_zero_or_pos (room.getD (2 * i + 1) 0) with z | z
          · omega
          · exfalso
            have g := goes_back ha
            rw [e1, e2] at g
            exact (hR _).mp d (.step g z (hF _ t))
        · rw [if_neg d]
          omega
    · rw [e1, e2, no fun z => by omega]
      by_cases t : R (2 * x + 1) = true
      · rw [if_pos t, if_pos (road_in hr k t)]
        omega
      · rw [if_neg t]
        by_cases d : R (2 * y) = true
        · rw [if_pos d]
          rcases Nat.eq_zero_or_pos (room.getD (2 * i + 1) 0) with z | z
          · omega
          · exfalso
            have g := goes_back ha
            rw [e1, e2] at g
            exact (hR _).mp d (.step g z (hF _ t))
        · rw [if_neg d]
          omega
  rw [sumOn_congr part, sumOn_count] at bd
  have nxN : (nextL C X).Nodup := up_nodup (those_up C.n fun b => (∃ a ∈ X, (a, b) ∈ C.roads) ∧ (b ∈ C.wished ∨ b ∉ X))
  have spE := filt_split (fun w => !R (2 * w)) E
  have spN := filt_split (fun b => decide (b ∈ C.wished)) (nextL C X)
  have glen : C.n ≤ (netA C).length := by
    unfold netA
    rw [List.length_append, gates_len]
    omega
  have c1 : ((nextL C X).filter fun b => !decide (b ∈ C.wished)).length ≤ ((List.range (netA C).length).filter fun i => decide (i < C.n ∧ R (2 * i) = true ∧ ¬ R (2 * i + 1) = true ∧ i ∉ C.wished)).length := by
    refine nodup_len_le (nxN.filter _) fun b hb => ?_
    rw [List.mem_filter, Bool.not_eq_true', decide_eq_false_iff_not] at hb
    have hn := (nextL_mem.mp hb.1).1
    exact List.mem_filter.mpr ⟨List.mem_range.mpr (by omega), decide_eq_true ⟨hn, next_in b hb.1, next_out b hb.1 hb.2, hb.2⟩⟩
  have c2 : ((nextL C X).filter fun b => decide (b ∈ C.wished)).length ≤ (E.filter fun w => !(!R (2 * w))).length := by
    refine nodup_len_le (nxN.filter _) fun b hb => ?_
    rw [List.mem_filter, decide_eq_true_eq] at hb
    have hr := next_in b hb.1
    refine List.mem_filter.mpr ⟨Classical.byContradiction fun n => (hR _).mp hr (.stop hb.2 n), by rw [hr]; rfl⟩
  have low := (region_out ok lo fo rgX free).1
  refine ⟨lt, sub, inn, free, by omega, fun Y subY innY frY => ?_⟩
  have rgY : Region C S Y := ⟨subY, fun a ha => (innY a ha).imp_right fun h => h.1⟩
  obtain ⟨h1, h2⟩ := region_tight ok lo fo rgY frY
  refine ⟨h1, fun e a ha => ?_⟩
  obtain ⟨RY, hRY, clY, endY⟩ := h2 e
  have offY : ∀ {v : Nat}, ToEnd C room E v → ¬ RY v = true := fun {v} t => by
    induction t with
    | @stop w hw hn =>
      intro h
      rcases (hRY _).mp h with ⟨a, _, e⟩ | ⟨b, e, h⟩
      · omega
      · have : w = b := by omega
        subst this
        rcases h with h | h
        · exact h.2 hw
        · exact hn (endY _ hw h)
    | step g r _ ih => exact fun h => ih (clY _ _ _ g r h)
  rw [mX]
  rcases innY a ha with h | h
  · exact .inl h
  · by_cases s : a ∈ S
    · exact .inl s
    · refine .inr ⟨?_, h.1, h.2, fun t => offY t ((hRY _).mpr (.inl ⟨a, ha, rfl⟩))⟩
      obtain ⟨b, _, r⟩ := h.2
      cases r with
      | one hr => exact (ok.inR _ hr).2
      | more _ _ hr => exact (ok.inR _ hr).2
end
end Ft

set_option Elab.async false
set_option linter.all false
set_option maxRecDepth 100000
set_option maxHeartbeats 4000000
/-! Plain mathematics: rounds, in which places go from where k traps are too few. -/
namespace Ft
/-- past no k places that are not free can the place be cut -/
def Gone1 (C : Chart) (k : Nat) (F : List Nat) (a : Nat) : Prop := ∀ Y, Region C [a] Y → (∀ b ∈ nextL C Y, b ∉ F) → k < (nextL C Y).length
noncomputable def unwL (C : Chart) (G : List Nat) : List Nat := those C.n fun x => x ∉ C.wished ∧ x ∈ G
theorem unwL_mem {C : Chart} {G : List Nat} {x : Nat} : x ∈ unwL C G ↔ x < C.n ∧ x ∉ C.wished ∧ x ∈ G := those_mem
theorem gone_congr {C : Chart} {k a : Nat} {F F' : List Nat} (e : ∀ x, x ∈ F ↔ x ∈ F') : Gone1 C k F a ↔ Gone1 C k F' a :=
  ⟨fun h Y r f => h Y r fun b hb m => f b hb ((e b).mp m), fun h Y r f => h Y r fun b hb m => f b hb ((e b).mpr m)⟩
/-- the places that have gone after so many rounds -/
noncomputable def goneL (C : Chart) (k : Nat) : Nat → List Nat
  | 0 => []
  | t + 1 => those C.n fun a => a ∈ goneL C k t ∨ Gone1 C k (unwL C (goneL C k t)) a
theorem goneL_lt {C : Chart} {k : Nat} : ∀ {t a : Nat}, a ∈ goneL C k t → a < C.n
  | 0, _, h => nomatch h
  | t + 1, a, h => (those_mem.mp h).1
theorem goneL_up (C : Chart) (k : Nat) : ∀ t, (goneL C k t).Pairwise (· < ·)
  | 0 => .nil
  | t + 1 => those_up _ _
theorem goneL_more {C : Chart} {k t a : Nat} : a ∈ goneL C k (t + 1) ↔ a < C.n ∧ (a ∈ goneL C k t ∨ Gone1 C k (unwL C (goneL C k t)) a) := those_mem
theorem goneL_sub {C : Chart} {k t a : Nat} (h : a ∈ goneL C k t) : a ∈ goneL C k (t + 1) := goneL_more.mpr ⟨goneL_lt h, .inl h⟩
theorem goneL_le {C : Chart} {k a t : Nat} (h : a ∈ goneL C k t) : ∀ d, a ∈ goneL C k (t + d)
  | 0 => h
  | d + 1 => goneL_sub (goneL_le h d)
theorem goneL_le' {C : Chart} {k a t u : Nat} (h : a ∈ goneL C k t) (l : t ≤ u) : a ∈ goneL C k u := by
  have := goneL_le h (u - t)
  rwa [show t + (u - t) = u by omega] at this
/-- once none goes, none goes any more -/
theorem goneL_stop {C : Chart} {k t : Nat} (h : ∀ a, a ∈ goneL C k (t + 1) → a ∈ goneL C k t) : ∀ d a, a ∈ goneL C k (t + d) → a ∈ goneL C k t
  | 0, _, m => m
  | d + 1, a, m => by
    have ih := goneL_stop h d
    obtain ⟨h1, h2⟩ := goneL_more.mp m
    rcases h2 with h2 | h2
    · exact ih a h2
    · refine h a (goneL_more.mpr ⟨h1, .inr ((gone_congr fun x => ?_).mp h2)⟩)
      rw [unwL_mem, unwL_mem]
      exact ⟨fun z => ⟨z.1, z.2.1, ih x z.2.2⟩, fun z => ⟨z.1, z.2.1, goneL_le z.2.2 d⟩⟩
/-- the list of the rounds, after so many of them -/
structure RanksAt (C : Chart) (k t : Nat) (R : List Nat) : Prop where
  len : R.length = C.n
  zero : ∀ a, a < C.n → (R.getD a 0 = 0 ↔ a ∉ goneL C k t)
  pos : ∀ a, a < C.n → ∀ s, R.getD a 0 = s + 1 → s < t ∧ a ∈ goneL C k (s + 1) ∧ a ∉ goneL C k s
/-- the list of the rounds of all places -/
structure Ranks (C : Chart) (k : Nat) (R : List Nat) : Prop where
  len : R.length = C.n
  zero : ∀ a, a < C.n → (R.getD a 0 = 0 ↔ ∀ t, a ∉ goneL C k t)
  pos : ∀ a, a < C.n → ∀ s, R.getD a 0 = s + 1 → a ∈ goneL C k (s + 1) ∧ a ∉ goneL C k s
  most : ∀ a, a < C.n → R.getD a 0 ≤ C.n + 1
theorem ranks_end {C : Chart} {k t : Nat} {R : List Nat} (h : RanksAt C k t R) (tn : t ≤ C.n) (stop : ∀ a, a < C.n → a ∉ goneL C k t → ¬ Gone1 C k (unwL C (goneL C k t)) a) : Ranks C k R := by
  have st : ∀ a, a ∈ goneL C k (t + 1) → a ∈ goneL C k t := fun a m => by
    obtain ⟨h1, h2⟩ := goneL_more.mp m
    exact Classical.byContradiction fun no => h2.elim no (stop a h1 no)
  refine ⟨h.len, fun a ha => ?_, fun a ha s e => (h.pos a ha s e).2, fun a ha => ?_⟩
  · rw [h.zero a ha]
    refine ⟨fun no u m => no ?_, fun no => no t⟩
    rcases Nat.le_total u t with l | l
    · exact goneL_le' m l
    · refine goneL_stop st (u - t) a ?_
      rw [show t + (u - t) = u by omega]
      exact m
  · rcases e : R.getD a 0 with _ | s
    · omega
    · have := (h.pos a ha s e).1
      omega
end Ft

set_option Elab.async false
set_option linter.all false
set_option maxRecDepth 100000
set_option maxHeartbeats 4000000
/-! Plain mathematics: all regions of a lot. -/
namespace Ft
def growR (R : List (List Nat)) (p : Nat) : List (List Nat) := R ++ R.map fun X => X ++ [p]
def regsF (S ps : List Nat) : List (List Nat) := ps.foldl growR [S]
theorem regs_gen : ∀ (ps : List Nat) (R : List (List Nat)) (Y : List Nat), Y ∈ ps.foldl growR R ↔ ∃ X ∈ R, ∃ Z, Z.Sublist ps ∧ Y = X ++ Z
  | [], R, Y => by
    constructor
    · exact fun h => ⟨Y, h, [], .slnil, (List.append_nil _).symm⟩
    · rintro ⟨X, h, Z, s, e⟩
      cases s
      rw [e, List.append_nil]
      exact h
  | p :: ps, R, Y => by
    rw [List.foldl_cons, regs_gen ps]
    constructor
    · rintro ⟨X, hX, Z, s, e⟩
      rcases List.mem_append.mp hX with h | h
      · exact ⟨X, h, Z, .cons _ s, e⟩
      · obtain ⟨X', h', rfl⟩ := List.mem_map.mp h
        exact ⟨X', h', p :: Z, .cons_cons _ s, by rw [e, List.append_assoc]; rfl⟩
    · rintro ⟨X, hX, Z, s, e⟩
      cases s with
      | cons _ s => exact ⟨X, List.mem_append_left _ hX, Z, s, e⟩
      | cons_cons _ s =>
        rename_i Z'
        exact ⟨X ++ [p], List.mem_append_right _ (List.mem_map.mpr ⟨X, hX, rfl⟩), Z', s, by rw [e, List.append_assoc]; rfl⟩
theorem regs_mem {S ps Y : List Nat} : Y ∈ regsF S ps ↔ ∃ Z, Z.Sublist ps ∧ Y = S ++ Z := by
  unfold regsF
  rw [regs_gen]
  constructor
  · rintro ⟨X, h, Z, s, e⟩
    rw [List.mem_singleton.mp h] at e
    exact ⟨Z, s, e⟩
  · rintro ⟨Z, s, e⟩
    exact ⟨S, List.mem_singleton.mpr rfl, Z, s, e⟩
theorem regs_more {S ps : List Nat} {i p : Nat} (h : ps[i]? = some p) : regsF S (ps.take (i + 1)) = growR (regsF S (ps.take i)) p := by
  unfold regsF
  rw [List.take_add_one, h, List.foldl_append]
  rfl
theorem regs_len (S : List Nat) : ∀ ps : List Nat, (regsF S ps).length = 2 ^ ps.length := fun ps => by
  have gen : ∀ (ps : List Nat) (R : List (List Nat)), (ps.foldl growR R).length = R.length * 2 ^ ps.length := by
    intro ps
    induction ps with
    | nil => intro R; simp
    | cons p ps ih =>
      intro R
      rw [List.foldl_cons, ih]
      unfold growR
      rw [List.length_append, List.length_map, List.length_cons, Nat.pow_succ]
      rw [← Nat.two_mul, Nat.mul_comm (2 ^ ps.length) 2, ← Nat.mul_assoc, Nat.mul_comm 2 R.length]
  unfold regsF
  rw [gen]
  simp
/-- the places beside a lot that a region may hold -/
noncomputable def besideL (C : Chart) (S : List Nat) : List Nat := (those C.n fun b => b ∉ C.wished ∧ ComesS C S b).filter fun b => !decide (b ∈ S)
theorem beside_mem {C : Chart} {S : List Nat} {b : Nat} : b ∈ besideL C S ↔ (b < C.n ∧ b ∉ C.wished ∧ ComesS C S b) ∧ b ∉ S := by
  unfold besideL
  rw [List.mem_filter, those_mem]
  simp
theorem beside_nd (C : Chart) (S : List Nat) : (besideL C S).Nodup := (up_nodup (those_up _ _)).filter _
theorem region_of {C : Chart} {S Y : List Nat} (h : Y ∈ regsF S (besideL C S)) : Region C S Y := by
  obtain ⟨Z, s, rfl⟩ := regs_mem.mp h
  refine ⟨fun a ha => List.mem_append_left _ ha, fun a ha => ?_⟩
  rcases List.mem_append.mp ha with h | h
  · exact .inl h
  · exact .inr (beside_mem.mp (s.subset h)).1.2.1
theorem region_nd {C : Chart} {S Y : List Nat} (nd : S.Nodup) (h : Y ∈ regsF S (besideL C S)) : Y.Nodup := by
  obtain ⟨Z, s, rfl⟩ := regs_mem.mp h
  rw [List.nodup_append]
  refine ⟨nd, (beside_nd C S).sublist s, fun a ha b hb e => ?_⟩
  subst e
  exact (beside_mem.mp (s.subset hb)).2 ha
theorem region_lt {C : Chart} {S Y : List Nat} (lt : ∀ a ∈ S, a < C.n) (h : Y ∈ regsF S (besideL C S)) : ∀ a ∈ Y, a < C.n := fun a ha => by
  obtain ⟨Z, s, rfl⟩ := regs_mem.mp h
  rcases List.mem_append.mp ha with h | h
  · exact lt a h
  · exact (beside_mem.mp (s.subset h)).1.1
theorem next_congr {C : Chart} {X Y : List Nat} (h : ∀ a, a ∈ X ↔ a ∈ Y) : nextL C X = nextL C Y := by
  refine those_is (those_up _ _) fun b => ?_
  rw [nextL_mem, h b]
  constructor
  · rintro ⟨h1, ⟨a, ha, hr⟩, h3⟩
    exact ⟨h1, ⟨a, (h a).mp ha, hr⟩, h3⟩
  · rintro ⟨h1, ⟨a, ha, hr⟩, h3⟩
    exact ⟨h1, ⟨a, (h a).mpr ha, hr⟩, h3⟩
/-- one of the regions has the same places -/
theorem region_is {C : Chart} {S F X : List Nat} {m : Nat} (sp : NearSpec C S F m X) : ∃ Y ∈ regsF S (besideL C S), ∀ a, a ∈ X ↔ a ∈ Y := by
  refine ⟨S ++ (besideL C S).filter fun a => decide (a ∈ X), regs_mem.mpr ⟨_, List.filter_sublist, rfl⟩, fun a => ?_⟩
  rw [List.mem_append, List.mem_filter, beside_mem, decide_eq_true_eq]
  constructor
  · intro h
    by_cases s : a ∈ S
    · exact .inl s
    · exact .inr ⟨⟨⟨sp.lt a h, (sp.inn a h).resolve_left s⟩, s⟩, h⟩
  · rintro (h | h)
    · exact sp.sub a h
    · exact h.2
/-- the least region of those with fewest places next to them is the nearest one -/
theorem nearest_is {C : Chart} {S F X Y : List Nat} {m : Nat} (nd : S.Nodup) (sp : NearSpec C S F m X) (hY : Y ∈ regsF S (besideL C S)) (fr : ∀ b ∈ nextL C Y, b ∉ F)
    (few : ∀ Z ∈ regsF S (besideL C S), (∀ b ∈ nextL C Z, b ∉ F) → (nextL C Y).length ≤ (nextL C Z).length) (least : ∀ Z ∈ regsF S (besideL C S), (∀ b ∈ nextL C Z, b ∉ F) → (nextL C Z).length = (nextL C Y).length → Y.length ≤ Z.length) :
    nextL C X = nextL C Y := by
  obtain ⟨Z, hZ, e⟩ := region_is sp
  have eN := next_congr (C := C) e
  have fZ : ∀ b ∈ nextL C Z, b ∉ F := by rw [← eN]; exact sp.free
  have h1 := few Z hZ fZ
  obtain ⟨h2, h3⟩ := sp.least Y (region_of hY) fr
  have e1 : (nextL C Y).length = m := by rw [← eN, sp.many] at h1; omega
  have h4 := least Z hZ fZ (by rw [← eN, sp.many, e1])
  have sub := h3 e1
  have lXZ : X.length = Z.length := nodup_len_eq (up_nodup sp.up) (region_nd nd hZ) e
  have eq : ∀ a, a ∈ X ↔ a ∈ Y := fun a => by
    refine ⟨sub a, fun ha => Classical.byContradiction fun no => ?_⟩
    have : (a :: X).length ≤ Y.length := nodup_len_le (List.nodup_cons.mpr ⟨no, up_nodup sp.up⟩) fun x hx => by
      rcases List.mem_cons.mp hx with h | h
      · rw [h]; exact ha
      · exact sub x h
    rw [List.length_cons] at this
    omega
  exact next_congr eq
/-- a region with no free place next to it -/
theorem region_free {C : Chart} {S F : List Nat} (ok : C.Ok) (ff : ∀ a ∈ F, a ∉ C.wished) : ∃ Y ∈ regsF S (besideL C S), ∀ b ∈ nextL C Y, b ∉ F := by
  refine ⟨S ++ besideL C S, regs_mem.mpr ⟨_, List.Sublist.refl _, rfl⟩, fun b hb hF => ?_⟩
  obtain ⟨h1, ⟨a, ha, hr⟩, h3⟩ := nextL_mem.mp hb
  have nw := ff b hF
  refine (h3.resolve_left nw) ?_
  by_cases s : b ∈ S
  · exact List.mem_append_left _ s
  · refine List.mem_append_right _ (beside_mem.mpr ⟨⟨h1, nw, ?_⟩, s⟩)
    rcases List.mem_append.mp ha with h | h
    · exact ⟨a, h, .one hr⟩
    · obtain ⟨⟨_, aw, s0, hs0, r⟩, _⟩ := beside_mem.mp h
      exact ⟨s0, hs0, .more r aw hr⟩
end Ft

set_option Elab.async false
set_option linter.all false
set_option maxRecDepth 100000
set_option maxHeartbeats 4000000
/-! Plain mathematics: the farthest least wall among all regions. -/
namespace Ft
theorem region_inn {C : Chart} {S Y : List Nat} (h : Y ∈ regsF S (besideL C S)) : ∀ a ∈ Y, a ∈ S ∨ (a ∉ C.wished ∧ ComesS C S a) := fun a ha => by
  obtain ⟨Z, s, rfl⟩ := regs_mem.mp h
  rcases List.mem_append.mp ha with h | h
  · exact .inl h
  · exact .inr ⟨(beside_mem.mp (s.subset h)).1.2.1, (beside_mem.mp (s.subset h)).1.2.2⟩
theorem region_far {C : Chart} {S F X : List Nat} {m : Nat} (sp : FarSpec C S F m X) : ∃ Y ∈ regsF S (besideL C S), ∀ a, a ∈ X ↔ a ∈ Y := by
  refine ⟨S ++ (besideL C S).filter fun a => decide (a ∈ X), regs_mem.mpr ⟨_, List.filter_sublist, rfl⟩, fun a => ?_⟩
  rw [List.mem_append, List.mem_filter, beside_mem, decide_eq_true_eq]
  constructor
  · intro h
    by_cases s : a ∈ S
    · exact .inl s
    · exact .inr ⟨⟨⟨sp.lt a h, (sp.inn a h).resolve_left s⟩, s⟩, h⟩
  · rintro (h | h)
    · exact sp.sub a h
    · exact h.2
/-- the greatest region of those with fewest places next to them is the farthest one -/
theorem farthest_is {C : Chart} {S F X Y : List Nat} {m : Nat} (nd : S.Nodup) (sp : FarSpec C S F m X) (hY : Y ∈ regsF S (besideL C S)) (fr : ∀ b ∈ nextL C Y, b ∉ F)
    (few : ∀ Z ∈ regsF S (besideL C S), (∀ b ∈ nextL C Z, b ∉ F) → (nextL C Y).length ≤ (nextL C Z).length) (most : ∀ Z ∈ regsF S (besideL C S), (∀ b ∈ nextL C Z, b ∉ F) → (nextL C Z).length = (nextL C Y).length → Z.length ≤ Y.length) :
    nextL C X = nextL C Y := by
  obtain ⟨Z, hZ, e⟩ := region_far sp
  have eN := next_congr (C := C) e
  have fZ : ∀ b ∈ nextL C Z, b ∉ F := by rw [← eN]; exact sp.free
  have h1 := few Z hZ fZ
  obtain ⟨h2, h3⟩ := sp.most Y (region_of hY).sub (region_inn hY) fr
  have e1 : (nextL C Y).length = m := by rw [← eN, sp.many] at h1; omega
  have h4 := most Z hZ fZ (by rw [← eN, sp.many, e1])
  have sub : ∀ a ∈ Y, a ∈ Z := fun a ha => (e a).mp (h3 e1 a ha)
  have sub2 := sub_full (region_nd nd hY) sub h4
  exact next_congr fun a => ⟨fun h => sub2 a ((e a).mp h), fun h => (e a).mpr (sub a h)⟩
end Ft

set_option Elab.async false
set_option linter.all false
set_option maxRecDepth 100000
set_option maxHeartbeats 4000000
/-! Plain mathematics: meeting places past traps, from several places -/
namespace Ft
/-- the roads that lead to no trap -/
def past (rs : List (Nat × Nat)) (T : List Nat) : List (Nat × Nat) := rs.filter fun p => !decide (p.2 ∈ T)
theorem past_mem {rs : List (Nat × Nat)} {T : List Nat} {a b : Nat} : (a, b) ∈ past rs T ↔ (a, b) ∈ rs ∧ b ∉ T := by
  unfold past
  rw [List.mem_filter]
  simp
structure LayS (n : Nat) (rs : List (Nat × Nat)) (ws S F W : List Nat) : Prop where
  nd : F.Nodup
  lt : ∀ b ∈ F, b < n
  fair : ∀ b ∈ F, ∃ a ∈ S, Reach rs ws a b
  wait : ∀ x ∈ W, x ∈ S ∨ (x ∈ F ∧ x ∉ ws)
  ok : ∀ x, (x ∈ S ∨ (x ∈ F ∧ x ∉ ws)) → x ∈ W ∨ ∀ b, (x, b) ∈ rs → b ∈ F
theorem LayS.start {n : Nat} {rs : List (Nat × Nat)} {ws S : List Nat} : LayS n rs ws S [] S :=
  ⟨List.nodup_nil, fun _ h => absurd h List.not_mem_nil, fun _ h => absurd h List.not_mem_nil, fun _ h => .inl h, fun x h => h.elim .inl fun h => absurd h.1 List.not_mem_nil⟩
/-- within a turn: i roads are looked at, G is met, A lies ahead -/
structure Turn (n : Nat) (rs : List (Nat × Nat)) (T ws S F W : List Nat) (i : Nat) (G A : List Nat) : Prop where
  nd : G.Nodup
  lt : ∀ b ∈ G, b < n
  fair : ∀ b ∈ G, ∃ a ∈ S, Reach (past rs T) ws a b
  old : ∀ b ∈ F, b ∈ G
  new : ∀ b ∈ G, b ∈ F ∨ b ∈ ws ∨ b ∈ A
  ahead : ∀ b ∈ A, b ∈ G ∧ b ∉ ws
  took : ∀ a b, (a, b) ∈ rs.take i → a ∈ W → b ∉ T → b ∈ G
  more : F.length + A.length ≤ G.length
theorem Turn.start {n : Nat} {rs : List (Nat × Nat)} {T ws S F W : List Nat} (h : LayS n (past rs T) ws S F W) : Turn n rs T ws S F W 0 F [] :=
  ⟨h.nd, h.lt, h.fair, fun _ h => h, fun _ h => .inl h, fun _ h => absurd h List.not_mem_nil, fun a b h => by simp at h, Nat.le_refl _⟩
theorem Turn.pass {n : Nat} {rs : List (Nat × Nat)} {T ws S F W G A : List Nat} {i : Nat} {p : Nat × Nat} (h : Turn n rs T ws S F W i G A) (hp : rs[i]? = some p) (no : p.1 ∈ W → p.2 ∉ T → p.2 ∈ G) : Turn n rs T ws S F W (i + 1) G A := by
  refine ⟨h.nd, h.lt, h.fair, h.old, h.new, h.ahead, fun a b hab ha hb => ?_, h.more⟩
  rw [List.take_add_one, hp] at hab
  rcases List.mem_append.mp hab with hab | hab
  · exact h.took a b hab ha hb
  · have e : (a, b) = p := by simpa using hab
    rw [← e] at no
    exact no ha hb
theorem Turn.add {n : Nat} {rs : List (Nat × Nat)} {T ws S F W G A : List Nat} {i : Nat} {p : Nat × Nat} (l : LayS n (past rs T) ws S F W) (h : Turn n rs T ws S F W i G A) (inR : ∀ p ∈ rs, p.1 < n ∧ p.2 < n) (hp : rs[i]? = some p) (h1 : p.1 ∈ W) (h2 : p.2 ∉ T) (h3 : p.2 ∉ G) :
    Turn n rs T ws S F W (i + 1) (G ++ [p.2]) (if p.2 ∈ ws then A else A ++ [p.2]) := by
  have hm := List.mem_of_getElem? hp
  have hmT : (p.1, p.2) ∈ past rs T := past_mem.mpr ⟨hm, h2⟩
  refine ⟨?_, ?_, ?_, fun b hb => List.mem_append_left _ (h.old b hb), ?_, ?_, fun a b hab ha hb => ?_, ?_⟩
  · rw [List.nodup_append]
    exact ⟨h.nd, by simp, fun x hx y hy z => h3 (by rw [← List.mem_singleton.mp hy, ← z]; exact hx)⟩
  · intro b hb
    rcases List.mem_append.mp hb with hb | hb
    · exact h.lt b hb
    · rw [List.mem_singleton.mp hb]
      exact (inR p hm).2
  · intro b hb
    rcases List.mem_append.mp hb with hb | hb
    · exact h.fair b hb
    · rw [List.mem_singleton.mp hb]
      rcases l.wait p.1 h1 with e | ⟨e1, e2⟩
      · exact ⟨p.1, e, .one hmT⟩
      · obtain ⟨a, ha, ra⟩ := l.fair p.1 e1
        exact ⟨a, ha, .more ra e2 hmT⟩
  · intro b hb
    rcases List.mem_append.mp hb with hb | hb
    · rcases h.new b hb with e | e | e
      · exact .inl e
      · exact .inr (.inl e)
      · refine .inr (.inr ?_)
        by_cases hw : p.2 ∈ ws
        · rw [if_pos hw]; exact e
        · rw [if_neg hw]; exact List.mem_append_left _ e
    · rw [List.mem_singleton.mp hb]
      by_cases hw : p.2 ∈ ws
      · exact .inr (.inl hw)
      · rw [if_neg hw]
        exact .inr (.inr (List.mem_append_right _ (List.mem_singleton.mpr rfl)))
  · intro b hb
    by_cases hw : p.2 ∈ ws
    · rw [if_pos hw] at hb
      exact ⟨List.mem_append_left _ (h.ahead b hb).1, (h.ahead b hb).2⟩
    · rw [if_neg hw] at hb
      rcases List.mem_append.mp hb with hb | hb
      · exact ⟨List.mem_append_left _ (h.ahead b hb).1, (h.ahead b hb).2⟩
      · rw [List.mem_singleton.mp hb]
        exact ⟨List.mem_append_right _ (List.mem_singleton.mpr rfl), hw⟩
  · rw [List.take_add_one, hp] at hab
    rcases List.mem_append.mp hab with hab | hab
    · exact List.mem_append_left _ (h.took a b hab ha hb)
    · have e : (a, b) = p := by simpa using hab
      rw [← e]
      exact List.mem_append_right _ (List.mem_singleton.mpr rfl)
  · have := h.more
    by_cases hw : p.2 ∈ ws
    · rw [if_pos hw, List.length_append]
      omega
    · rw [if_neg hw, List.length_append, List.length_append]
      show F.length + (A.length + 1) ≤ G.length + 1
      omega
theorem Turn.done {n : Nat} {rs : List (Nat × Nat)} {T ws S F W G A : List Nat} (l : LayS n (past rs T) ws S F W) (h : Turn n rs T ws S F W rs.length G A) : LayS n (past rs T) ws S G A := by
  refine ⟨h.nd, h.lt, h.fair, fun x hx => .inr (h.ahead x hx), fun x hx => ?_⟩
  have old : (x ∈ S ∨ (x ∈ F ∧ x ∉ ws)) → x ∈ A ∨ ∀ b, (x, b) ∈ past rs T → b ∈ G := fun q => by
    refine .inr fun b hb => ?_
    rcases l.ok x q with hw | hw
    · have := past_mem.mp hb
      exact h.took x b (by rw [List.take_length]; exact this.1) hw this.2
    · exact h.old b (hw b hb)
  rcases hx with hx | ⟨h1, h2⟩
  · exact old (.inl hx)
  · rcases h.new x h1 with e | e | e
    · exact old (.inr ⟨e, h2⟩)
    · exact absurd e h2
    · exact .inl e
theorem LayS.ends {n : Nat} {rs : List (Nat × Nat)} {ws S F : List Nat} (l : LayS n rs ws S F []) (x : Nat) : x ∈ F ↔ x < n ∧ ∃ a ∈ S, Reach rs ws a x := by
  constructor
  · intro h
    exact ⟨l.lt x h, l.fair x h⟩
  · rintro ⟨_, a, ha, r⟩
    refine r.within (S := (· ∈ F)) (fun y hy => ?_) fun y z hy hw hz => ?_
    · exact (l.ok a (.inl ha)).elim (fun h => absurd h List.not_mem_nil) fun h => h y hy
    · exact (l.ok y (.inr ⟨hy, hw⟩)).elim (fun h => absurd h List.not_mem_nil) fun h => h z hz
/-- what roads_left says, in the words of the law -/
theorem Left.starts {n : Nat} {rs : List (Nat × Nat)} {ws T S : List Nat} {L : List (Nat × Nat)} (h : Left n rs ws T L) : (∃ a ∈ S, ∃ b k, (a, b) ∈ rs ∧ (b, k) ∈ L) ↔ ∃ a ∈ S, ∃ p ∈ ws, Reach (past rs T) ws a p := by
  have down : ∀ k b, (b, k) ∈ L → ∃ p ∈ ws, b = p ∨ (b ∉ ws ∧ Reach (past rs T) ws b p) := by
    intro k
    induction k with
    | zero => exact fun b hb => ⟨b, ((h.zero b).mp hb).1, .inl rfl⟩
    | succ k ih =>
      intro b hb
      obtain ⟨hw, c, hr, hc⟩ := h.succ b k hb
      have hcT := (h.lt _ hc).2
      obtain ⟨p, hp, e⟩ := ih c hc
      refine ⟨p, hp, .inr ⟨hw, ?_⟩⟩
      rcases e with e | ⟨e1, e2⟩
      · rw [← e]
        exact .one (past_mem.mpr ⟨hr, hcT⟩)
      · exact Reach.cons (past_mem.mpr ⟨hr, hcT⟩) e1 e2
  constructor
  · rintro ⟨a, ha, b, k, hr, hk⟩
    have hbT := (h.lt _ hk).2
    obtain ⟨p, hp, e⟩ := down k b hk
    refine ⟨a, ha, p, hp, ?_⟩
    rcases e with e | ⟨e1, e2⟩
    · rw [← e]
      exact .one (past_mem.mpr ⟨hr, hbT⟩)
    · exact Reach.cons (past_mem.mpr ⟨hr, hbT⟩) e1 e2
  · rintro ⟨a, ha, p, hp, r⟩
    have off : ∀ {b}, Reach (past rs T) ws a b → b ∉ T := fun r => by
      cases r with
      | one e => exact (past_mem.mp e).2
      | more _ _ e => exact (past_mem.mp e).2
    have up : ∀ {b}, Reach (past rs T) ws a b → (∃ k, (b, k) ∈ L) → ∃ b k, (a, b) ∈ rs ∧ (b, k) ∈ L := by
      intro b r
      induction r with
      | one e => exact fun ⟨k, hk⟩ => ⟨_, k, (past_mem.mp e).1, hk⟩
      | @more b c q hb e ih =>
        rintro ⟨k, hk⟩
        obtain ⟨j, _, hj⟩ := h.near b c k (past_mem.mp e).1 hb (off q) hk
        exact ih ⟨j, hj⟩
    obtain ⟨b, k, h1, h2⟩ := up r ⟨0, (h.zero p).mpr ⟨hp, off r⟩⟩
    exact ⟨a, ha, b, k, h1, h2⟩
/-- traps on unwished starts change nothing -/
theorem traps_inner {rs : List (Nat × Nat)} {ws S I T1 T2 : List Nat} (sub : ∀ x ∈ I, x ∈ S) (unw : ∀ x ∈ I, x ∉ ws) (same : ∀ x, x ∉ I → (x ∈ T2 → x ∈ T1)) (h : ∃ a ∈ S, ∃ p ∈ ws, Reach (past rs T1) ws a p) : ∃ a ∈ S, ∃ p ∈ ws, Reach (past rs T2) ws a p := by
  obtain ⟨a, ha, p, hp, r⟩ := h
  have all : ∀ {b}, Reach (past rs T1) ws a b → b ∈ I ∨ ∃ a' ∈ S, Reach (past rs T2) ws a' b := by
    intro b r
    induction r with
    | @one b e =>
      by_cases hi : b ∈ I
      · exact .inl hi
      · exact .inr ⟨a, ha, .one (past_mem.mpr ⟨(past_mem.mp e).1, fun h => (past_mem.mp e).2 (same b hi h)⟩)⟩
    | @more b c _ hb e ih =>
      by_cases hi : c ∈ I
      · exact .inl hi
      · have ec : (b, c) ∈ past rs T2 := past_mem.mpr ⟨(past_mem.mp e).1, fun h => (past_mem.mp e).2 (same c hi h)⟩
        rcases ih with h | ⟨a', ha', r'⟩
        · exact .inr ⟨b, sub b h, .one ec⟩
        · exact .inr ⟨a', ha', .more r' hb ec⟩
  rcases all r with h | ⟨a', ha', r'⟩
  · exact absurd hp (unw p h)
  · exact ⟨a', ha', p, hp, r'⟩
end Ft

set_option Elab.async false
set_option linter.all false
set_option maxRecDepth 100000
set_option maxHeartbeats 4000000
/-! Plain mathematics: what is reached past a wall; the nearest within the farthest one. -/
namespace Ft
section
variable {C : Chart} {S S' F X Y : List Nat} {m m' : Nat}
/-- walks past what lies next to a region stay in it -/
theorem stay_in (ok : C.Ok) {a x : Nat} (ha : a ∈ X) (r : Reach (past C.roads (nextL C X)) C.wished a x) : x ∈ X ∧ x ∉ C.wished := by
  have go : ∀ u v, u ∈ X → (u, v) ∈ past C.roads (nextL C X) → v ∈ X ∧ v ∉ C.wished := fun u v hu h => by
    obtain ⟨hr, no⟩ := past_mem.mp h
    have hn := (ok.inR _ hr).2
    have w : v ∉ C.wished := fun w => no (nextL_mem.mpr ⟨hn, ⟨u, hu, hr⟩, .inl w⟩)
    exact ⟨Classical.byContradiction fun nx => no (nextL_mem.mpr ⟨hn, ⟨u, hu, hr⟩, .inr nx⟩), w⟩
  exact r.within (S := fun z => z ∈ X ∧ z ∉ C.wished) (fun y h => go a y ha h) fun y z hy _ h => go y z hy.1 h
theorem stay_cut (ok : C.Ok) (sub : ∀ a ∈ S, a ∈ X) : ¬ ∃ a ∈ S, ∃ p ∈ C.wished, Reach (past C.roads (nextL C X)) C.wished a p := fun ⟨a, ha, p, hp, r⟩ => (stay_in ok (sub a ha) r).2 hp
theorem reach_past {rs : List (Nat × Nat)} {ws U : List Nat} {a x : Nat} (r : Reach (past rs U) ws a x) : Reach rs ws a x := by
  induction r with
  | one h => exact .one (past_mem.mp h).1
  | more _ w h ih => exact .more ih w (past_mem.mp h).1
theorem next_off (sub : ∀ a ∈ S, a ∈ X) : ∀ p ∈ nextL C X, p ∈ S → p ∈ C.wished := fun p hp hs => by
  obtain ⟨_, _, h⟩ := nextL_mem.mp hp
  exact h.elim id fun n => absurd (sub p hs) n
theorem near_near (sp : NearSpec C S F m X) (sq : NearSpec C S F m' Y) : m = m' := by
  have h1 := (sp.least Y ⟨sq.sub, fun a ha => (sq.inn a ha).imp id fun h => h.1⟩ sq.free).1
  have h2 := (sq.least X ⟨sp.sub, fun a ha => (sp.inn a ha).imp id fun h => h.1⟩ sp.free).1
  rw [sp.many] at h2
  rw [sq.many] at h1
  omega
theorem near_in_far (sp : NearSpec C S F m X) (sq : FarSpec C S F m' Y) : m = m' ∧ ∀ a ∈ X, a ∈ Y := by
  have h1 := (sp.least Y ⟨sq.sub, fun a ha => (sq.inn a ha).imp id fun h => h.1⟩ sq.free).1
  obtain ⟨h2, h3⟩ := sq.most X sp.sub sp.inn sp.free
  rw [sq.many] at h1
  have e := sp.many
  exact ⟨by omega, h3 (by omega)⟩
/-- the greatest region past which the farthest wall cuts -/
theorem far_greatest (ok : C.Ok) (inS : ∀ a ∈ S, a < C.n) (sq : FarSpec C S [] m Y) : ∀ a, a ∈ Y ↔ a ∈ S ∨ ((a < C.n ∧ a ∉ C.wished ∧ ComesS C S a) ∧ a ∉ nextL C Y ∧ ¬ ∃ p ∈ C.wished, Reach (past C.roads (nextL C Y)) C.wished a p) := fun a => by
  constructor
  · intro ha
    rcases sq.inn a ha with h | ⟨nw, cm⟩
    · exact .inl h
    · refine .inr ⟨⟨sq.lt a ha, nw, cm⟩, fun m => ?_, fun ⟨p, hp, r⟩ => (stay_in ok ha r).2 hp⟩
      obtain ⟨_, _, h⟩ := nextL_mem.mp m
      exact h.elim nw fun n => n ha
  · rintro (h | ⟨⟨hn, nw, cm⟩, no, cut⟩)
    · exact sq.sub a h
    · -- the region with what is reached from a
      let Z := those C.n fun z => z ∈ Y ∨ z = a ∨ (z ∉ C.wished ∧ Reach (past C.roads (nextL C Y)) C.wished a z)
      have mZ : ∀ z, z ∈ Z ↔ z < C.n ∧ (z ∈ Y ∨ z = a ∨ (z ∉ C.wished ∧ Reach (past C.roads (nextL C Y)) C.wished a z)) := fun z => those_mem
      have subZ : ∀ z ∈ Y, z ∈ Z := fun z hz => (mZ z).mpr ⟨sq.lt z hz, .inl hz⟩
      have comes : ∀ z, Reach (past C.roads (nextL C Y)) C.wished a z → ComesS C S z := fun z r => by
        obtain ⟨s, hs, rs⟩ := cm
        exact ⟨s, hs, rs.trans nw (reach_past r)⟩
      have innZ : ∀ z ∈ Z, z ∈ S ∨ (z ∉ C.wished ∧ ComesS C S z) := fun z hz => by
        rcases ((mZ z).mp hz).2 with h | h | ⟨h1, h2⟩
        · exact sq.inn z h
        · rw [h]; exact .inr ⟨nw, cm⟩
        · exact .inr ⟨h1, comes z h2⟩
      have nextZ : ∀ b ∈ nextL C Z, b ∈ nextL C Y := fun b hb => by
        obtain ⟨hbn, ⟨z, hz, hr⟩, h3⟩ := nextL_mem.mp hb
        refine Classical.byContradiction fun nb => ?_
        have h4 : b ∈ C.wished ∨ b ∉ Y := h3.imp id fun n hy => n (subZ b hy)
        have step : (z, b) ∈ past C.roads (nextL C Y) := past_mem.mpr ⟨hr, nb⟩
        rcases ((mZ z).mp hz).2 with h | h | ⟨h1, h2⟩
        · exact nb (nextL_mem.mpr ⟨hbn, ⟨z, h, hr⟩, h4⟩)
        · subst h
          by_cases w : b ∈ C.wished
          · exact cut ⟨b, w, .one step⟩
          · exact h3.elim w fun n => n ((mZ b).mpr ⟨hbn, .inr (.inr ⟨w, .one step⟩)⟩)
        · by_cases w : b ∈ C.wished
          · exact cut ⟨b, w, .more h2 h1 step⟩
          · exact h3.elim w fun n => n ((mZ b).mpr ⟨hbn, .inr (.inr ⟨w, .more h2 h1 step⟩)⟩)
      obtain ⟨h1, h2⟩ := sq.most Z (fun z hz => subZ z (sq.sub z hz)) innZ fun _ _ => List.not_mem_nil
      have h3 := nodup_len_le (l := nextL C Z) (m := nextL C Y) (up_nodup (those_up _ _)) nextZ
      rw [sq.many] at h3
      exact h2 (by omega) a ((mZ a).mpr ⟨hn, .inr (.inl rfl)⟩)
/-- one place more in the lot: the same wall just within the farthest one -/
theorem wall_more {p m2 : Nat} {X2 : List Nat} (ok : C.Ok) (pn : p < C.n) (pw : p ∉ C.wished) (pc : ComesS C S p) (sp : NearSpec C S [] m X) (sq : FarSpec C S [] m' Y) (mS : ∀ a, a ∈ S' ↔ a ∈ S ∨ a = p) (s2 : NearSpec C S' [] m2 X2) : m2 = m ↔ p ∈ Y := by
  have e := (near_in_far sp sq).1
  have comes : ∀ a, ComesS C S' a → ComesS C S a := fun a ⟨s, hs, r⟩ => by
    rcases (mS s).mp hs with h | h
    · exact ⟨s, h, r⟩
    · subst h
      obtain ⟨t, ht, rt⟩ := pc
      exact ⟨t, ht, rt.trans pw r⟩
  have inn2 : ∀ a ∈ X2, a ∈ S ∨ (a ∉ C.wished ∧ ComesS C S a) := fun a ha => by
    rcases s2.inn a ha with h | ⟨h1, h2⟩
    · rcases (mS a).mp h with h | h
      · exact .inl h
      · rw [h]; exact .inr ⟨pw, pc⟩
    · exact .inr ⟨h1, comes a h2⟩
  have sub2 : ∀ a ∈ S, a ∈ X2 := fun a ha => s2.sub a ((mS a).mpr (.inl ha))
  have low := (sp.least X2 ⟨sub2, fun a ha => (inn2 a ha).imp id fun h => h.1⟩ fun _ _ => List.not_mem_nil).1
  rw [s2.many] at low
  constructor
  · intro h
    exact (sq.most X2 sub2 inn2 fun _ _ => List.not_mem_nil).2 (by rw [s2.many]; omega) p (s2.sub p ((mS p).mpr (.inr rfl)))
  · intro h
    have up := (s2.least Y ⟨fun a ha => ((mS a).mp ha).elim (sq.sub a) fun e => e ▸ h, fun a ha => (sq.inn a ha).imp (fun h => (mS a).mpr (.inl h)) fun h => h.1⟩ fun _ _ => List.not_mem_nil).1
    rw [sq.many] at up
    omega
end
end Ft

set_option Elab.async false
set_option linter.all false
set_option maxRecDepth 100000
set_option maxHeartbeats 4000000
/-! Plain mathematics: what is reached from places, where some places are shut. -/
namespace Ft
theorem set_up {n : Nat} {L : List Nat} (lt : ∀ x ∈ L, x < n) {k : Nat} (up : ∀ D : List Int, (∀ x ∈ iN L, x ∈ D) → k ≤ D.length) : k ≤ n := by
  have := up (iN (List.range n)) fun x hx => by
    obtain ⟨y, hy, rfl⟩ := List.mem_map.mp hx
    exact iN_mem.mpr (List.mem_range.mpr (lt y hy))
  rwa [iN_length, List.length_range] at this
noncomputable def movedL (C : Chart) (T A : List Nat) : List Nat := those C.n fun x => x ∉ C.wished ∧ ∃ a ∈ A, Reach (past C.roads T) C.wished a x
def FromS (C : Chart) (T A : List Nat) (x : Nat) : Prop := x ∈ A ∨ x ∈ movedL C T A
noncomputable def stopsL (C : Chart) (T A : List Nat) : List Nat := those C.n fun b => b ∉ C.wished ∧ b ∈ T ∧ ∃ x, FromS C T A x ∧ (x, b) ∈ C.roads
def MissP (C : Chart) (T A : List Nat) : Prop := ∃ x, FromS C T A x ∧ ∃ b, b ∈ C.wished ∧ b ∉ T ∧ (x, b) ∈ C.roads
theorem moved_mem {C : Chart} {T A : List Nat} {x : Nat} : x ∈ movedL C T A ↔ x < C.n ∧ x ∉ C.wished ∧ ∃ a ∈ A, Reach (past C.roads T) C.wished a x := those_mem
theorem stops_mem {C : Chart} {T A : List Nat} {b : Nat} : b ∈ stopsL C T A ↔ b < C.n ∧ b ∉ C.wished ∧ b ∈ T ∧ ∃ x, FromS C T A x ∧ (x, b) ∈ C.roads := those_mem
theorem moved_more {C : Chart} (ok : C.Ok) {T A : List Nat} {x z : Nat} (f : FromS C T A x) (e : (x, z) ∈ C.roads) (zw : z ∉ C.wished) (zt : z ∉ T) : z ∈ movedL C T A := by
  have h : (x, z) ∈ past C.roads T := past_mem.mpr ⟨e, zt⟩
  refine moved_mem.mpr ⟨(ok.inR _ e).2, zw, ?_⟩
  rcases f with f | f
  · exact ⟨x, f, .one h⟩
  · obtain ⟨_, xw, a, ha, r⟩ := moved_mem.mp f
    exact ⟨a, ha, .more r xw h⟩
/-- a road's end is told -/
structure TookS (C : Chart) (T F St : List Nat) (m : Bool) (z : Nat) : Prop where
  mv : z ∉ C.wished → z ∉ T → z ∈ F
  st : z ∉ C.wished → z ∈ T → z ∈ St
  ms : z ∈ C.wished → z ∉ T → m = true
theorem TookS.mono {C : Chart} {T F St F' St' : List Nat} {m m' : Bool} {z : Nat} (h : TookS C T F St m z) (hF : ∀ x ∈ F, x ∈ F') (hS : ∀ x ∈ St, x ∈ St') (hm : m = true → m' = true) : TookS C T F' St' m' z :=
  ⟨fun a b => hF z (h.mv a b), fun a b => hS z (h.st a b), fun a b => hm (h.ms a b)⟩
/-- the walk under way -/
structure Sing (C : Chart) (T A F St L : List Nat) (m : Bool) (X : Nat → Prop) : Prop where
  nd : F.Nodup
  inF : ∀ x ∈ F, x ∈ movedL C T A
  wait : ∀ x ∈ L, x ∈ A ∨ x ∈ F
  inS : ∀ b ∈ St, b ∈ stopsL C T A
  miss : m = true → MissP C T A
  dn : ∀ x, x ∈ A ∨ x ∈ F → x ∈ L ∨ X x ∨ ∀ z, (x, z) ∈ C.roads → TookS C T F St m z
theorem Sing.start (C : Chart) (T A : List Nat) : Sing C T A [] [] A false fun _ => False :=
  ⟨List.nodup_nil, (fun _ h => nomatch h), fun x h => .inl h, (fun _ h => nomatch h), (fun h => nomatch h), fun x h => .inl (h.resolve_right List.not_mem_nil)⟩
theorem Sing.pop {C : Chart} {T A F St L : List Nat} {m : Bool} {x : Nat} (h : Sing C T A F St (L ++ [x]) m fun _ => False) : Sing C T A F St L m (· = x) :=
  ⟨h.nd, h.inF, fun y hy => h.wait y (List.mem_append_left _ hy), h.inS, h.miss, fun y hy => by
    rcases h.dn y hy with e | e | e
    · rcases List.mem_append.mp e with e | e
      · exact .inl e
      · exact .inr (.inl (List.mem_singleton.mp e))
    · exact e.elim
    · exact .inr (.inr e)⟩
theorem Sing.shut {C : Chart} {T A F St L : List Nat} {m : Bool} {x : Nat} (h : Sing C T A F St L m (· = x)) (t : ∀ z, (x, z) ∈ C.roads → TookS C T F St m z) : Sing C T A F St L m fun _ => False :=
  ⟨h.nd, h.inF, h.wait, h.inS, h.miss, fun y hy => by
    rcases h.dn y hy with e | e | e
    · exact .inl e
    · exact .inr (.inr (by rw [e]; exact t))
    · exact .inr (.inr e)⟩
variable {C : Chart} {T A F St L : List Nat} {m : Bool} {X : Nat → Prop} {x z : Nat}
theorem Sing.from (h : Sing C T A F St L m X) (hx : x ∈ A ∨ x ∈ F) : FromS C T A x := hx.imp id (h.inF x)
theorem Sing.miss' (h : Sing C T A F St L m X) (fx : FromS C T A x) (e : (x, z) ∈ C.roads) (zw : z ∈ C.wished) : Sing C T A F St L (m || !decide (z ∈ T)) X :=
  ⟨h.nd, h.inF, h.wait, h.inS, fun y => by
    rcases Bool.or_eq_true _ _ ▸ y with y | y
    · exact h.miss y
    · exact ⟨x, fx, z, zw, by simpa using y, e⟩, fun y hy => (h.dn y hy).imp id fun g => g.imp id fun g w hw => (g w hw).mono (fun _ h => h) (fun _ h => h) fun h => by rw [h]; rfl⟩
theorem Sing.stop (ok : C.Ok) (h : Sing C T A F St L m X) (fx : FromS C T A x) (e : (x, z) ∈ C.roads) (zw : z ∉ C.wished) (zt : z ∈ T) : Sing C T A F (St ++ [z]) L m X :=
  ⟨h.nd, h.inF, h.wait, fun b hb => by
    rcases List.mem_append.mp hb with hb | hb
    · exact h.inS b hb
    · rw [List.mem_singleton.mp hb]
      exact stops_mem.mpr ⟨(ok.inR _ e).2, zw, zt, x, fx, e⟩, h.miss, fun y hy => (h.dn y hy).imp id fun g => g.imp id fun g w hw => (g w hw).mono (fun _ h => h) (fun _ h => List.mem_append_left _ h) fun h => h⟩
theorem Sing.move (ok : C.Ok) (h : Sing C T A F St L m X) (fx : FromS C T A x) (e : (x, z) ∈ C.roads) (zw : z ∉ C.wished) (zt : z ∉ T) (zf : z ∉ F) : Sing C T A (F ++ [z]) St (L ++ [z]) m X :=
  ⟨by
    rw [List.nodup_append]
    exact ⟨h.nd, by simp, fun a ha b hb e => zf (by rw [← List.mem_singleton.mp hb, ← e]; exact ha)⟩, fun y hy => by
    rcases List.mem_append.mp hy with hy | hy
    · exact h.inF y hy
    · rw [List.mem_singleton.mp hy]
      exact moved_more ok fx e zw zt, fun y hy => by
    rcases List.mem_append.mp hy with hy | hy
    · exact (h.wait y hy).imp id fun g => List.mem_append_left _ g
    · exact .inr (List.mem_append_right _ hy), h.inS, h.miss, fun y hy => by
    have old : ∀ y, y ∈ A ∨ y ∈ F → y ∈ L ++ [z] ∨ X y ∨ ∀ w, (y, w) ∈ C.roads → TookS C T (F ++ [z]) St m w := fun y hy =>
      (h.dn y hy).imp (fun g => List.mem_append_left _ g) fun g => g.imp id fun g w hw => (g w hw).mono (fun _ h => List.mem_append_left _ h) (fun _ h => h) fun h => h
    rcases hy with hy | hy
    · exact old y (.inl hy)
    · rcases List.mem_append.mp hy with hy | hy
      · exact old y (.inr hy)
      · exact .inl (List.mem_append_right _ hy)⟩
theorem Sing.took (h : Sing C T A F St [] m fun _ => False) (hx : x ∈ A ∨ x ∈ F) (e : (x, z) ∈ C.roads) : TookS C T F St m z := by
  rcases h.dn x hx with g | g | g
  · cases g
  · exact g.elim
  · exact g z e
theorem Sing.moved (h : Sing C T A F St [] m fun _ => False) : x ∈ F ↔ x ∈ movedL C T A := by
  refine ⟨h.inF x, fun hx => ?_⟩
  obtain ⟨xl, xw, a, ha, r⟩ := moved_mem.mp hx
  clear hx xl
  induction r with
  | one e =>
    obtain ⟨e1, e2⟩ := past_mem.mp e
    exact (h.took (.inl ha) e1).mv xw e2
  | more _ bw e ih =>
    obtain ⟨e1, e2⟩ := past_mem.mp e
    exact (h.took (.inr (ih bw)) e1).mv xw e2
theorem Sing.from' (h : Sing C T A F St [] m fun _ => False) (f : FromS C T A x) : x ∈ A ∨ x ∈ F := f.imp id h.moved.mpr
theorem Sing.stops (h : Sing C T A F St [] m fun _ => False) : z ∈ St ↔ z ∈ stopsL C T A := by
  refine ⟨h.inS z, fun hz => ?_⟩
  obtain ⟨_, zw, zt, x, fx, e⟩ := stops_mem.mp hz
  exact (h.took (h.from' fx) e).st zw zt
theorem Sing.missed (h : Sing C T A F St [] m fun _ => False) : m = true ↔ MissP C T A := by
  refine ⟨h.miss, ?_⟩
  rintro ⟨x, fx, b, bw, bt, e⟩
  exact (h.took (h.from' fx) e).ms bw bt
theorem Sing.few (h : Sing C T A F St L m X) : F.length ≤ C.n := by
  have z := nodup_sub_len F (List.range C.n) h.nd fun x hx => List.mem_range.mpr (moved_mem.mp (h.inF x hx)).1
  rwa [List.length_range] at z
/-- all lots of no more than so many places -/
def lotsF (k : Nat) : Nat → List (List Nat)
  | 0 => [[]]
  | n + 1 => lotsF k n ++ ((lotsF k n).filter fun l => decide (l.length < k)).map fun l => l ++ [n]
theorem lotsF_len (k : Nat) : ∀ n, (lotsF k n).length ≤ 2 ^ n
  | 0 => Nat.le_refl _
  | n + 1 => by
    have ih := lotsF_len k n
    show (lotsF k n ++ _).length ≤ _
    rw [List.length_append, List.length_map, Nat.pow_succ]
    have := List.length_filter_le (fun l : List Nat => decide (l.length < k)) (lotsF k n)
    omega
theorem up_last {l : List Nat} {n : Nat} (up : (l ++ [n]).Pairwise (· < ·)) : ∀ x ∈ l, x < n := fun x hx => (List.pairwise_append.mp up).2.2 x hx n (List.mem_singleton.mpr rfl)
theorem lotsF_mem {k : Nat} : ∀ {n : Nat} {l : List Nat}, l ∈ lotsF k n ↔ l.Pairwise (· < ·) ∧ (∀ x ∈ l, x < n) ∧ l.length ≤ k
  | 0, l => by
    show l ∈ [[]] ↔ _
    rw [List.mem_singleton]
    refine ⟨fun e => by rw [e]; exact ⟨.nil, (fun _ h => nomatch h), Nat.zero_le _⟩, fun h => ?_⟩
    cases l with
    | nil => rfl
    | cons a l => exact absurd (h.2.1 a List.mem_cons_self) (Nat.not_lt_zero _)
  | n + 1, l => by
    show l ∈ lotsF k n ++ _ ↔ _
    rw [List.mem_append, lotsF_mem, List.mem_map]
    constructor
    · rintro (⟨h1, h2, h3⟩ | ⟨l0, h, rfl⟩)
      · exact ⟨h1, fun x hx => Nat.lt_succ_of_lt (h2 x hx), h3⟩
      · rw [List.mem_filter, decide_eq_true_eq, lotsF_mem] at h
        obtain ⟨⟨h1, h2, h3⟩, h4⟩ := h
        refine ⟨List.pairwise_append.mpr ⟨h1, .cons (fun _ z => nomatch z) .nil, fun x hx y hy => by rw [List.mem_singleton.mp hy]; exact h2 x hx⟩, fun x hx => ?_, by rw [List.length_append]; exact h4⟩
        rcases List.mem_append.mp hx with hx | hx
        · exact Nat.lt_succ_of_lt (h2 x hx)
        · rw [List.mem_singleton.mp hx]
          exact Nat.lt_succ_self _
    · rintro ⟨h1, h2, h3⟩
      by_cases hn : n ∈ l
      · have ne : l ≠ [] := fun e => by rw [e] at hn; cases hn
        obtain ⟨l0, y, rfl⟩ : ∃ l0 y, l = l0 ++ [y] := ⟨l.dropLast, l.getLast ne, (List.dropLast_concat_getLast ne).symm⟩
        have hy := up_last h1
        have e : y = n := by
          rcases List.mem_append.mp hn with h | h
          · have := hy n h
            have := h2 y (by simp)
            omega
          · exact (List.mem_singleton.mp h).symm
        subst e
        rw [List.length_append, List.length_singleton] at h3
        exact .inr ⟨l0, List.mem_filter.mpr ⟨lotsF_mem.mpr ⟨(List.pairwise_append.mp h1).1, hy, by omega⟩, decide_eq_true (by omega)⟩, rfl⟩
      · refine .inl ⟨h1, fun x hx => ?_, h3⟩
        have := h2 x hx
        have : x ≠ n := fun e => hn (e ▸ hx)
        omega
/-- a region whose ways out hold no place that has gone meets no wished place, and stops at none that has gone -/
theorem laid_ok {C : Chart} (ok : C.Ok) {a : Nat} {Y G : List Nat} (rg : Region C [a] Y) (fr : ∀ b ∈ nextL C Y, b ∉ unwL C G) : ¬ MissP C (nextL C Y) [a] ∧ ∀ w ∈ stopsL C (nextL C Y) [a], w ∉ G := by
  have inY : ∀ x, FromS C (nextL C Y) [a] x → x ∈ Y := by
    rintro x (h | h)
    · exact rg.sub x h
    · obtain ⟨_, _, b, hb, r⟩ := moved_mem.mp h
      exact (stay_in ok (rg.sub b hb) r).1
  constructor
  · rintro ⟨x, fx, b, bw, bt, e⟩
    exact bt (nextL_mem.mpr ⟨(ok.inR _ e).2, ⟨x, inY x fx, e⟩, .inl bw⟩)
  · intro w hw hg
    obtain ⟨h1, h2, h3, _⟩ := stops_mem.mp hw
    exact fr w h3 (unwL_mem.mpr ⟨h1, h2, hg⟩)
/-- a place goes when each lot of few places is missed, or stopped at a place that has gone -/
theorem gone_lots {C : Chart} (ok : C.Ok) {k a : Nat} {G : List Nat} : Gone1 C k (unwL C G) a ↔ ∀ T ∈ lotsF k C.n, MissP C T [a] ∨ ∃ w ∈ stopsL C T [a], w ∈ G := by
  constructor
  · intro h T hT
    refine Classical.byContradiction fun no => ?_
    rw [not_or] at no
    obtain ⟨no1, no2⟩ := no
    obtain ⟨_, _, hk⟩ := lotsF_mem.mp hT
    have rg : Region C [a] (a :: movedL C T [a]) := ⟨fun x hx => by rw [List.mem_singleton.mp hx]; exact List.mem_cons_self, fun x hx => by
      rcases List.mem_cons.mp hx with e | e
      · exact .inl (List.mem_singleton.mpr e)
      · exact .inr (moved_mem.mp e).2.1⟩
    have fr : ∀ x ∈ a :: movedL C T [a], FromS C T [a] x := fun x hx => (List.mem_cons.mp hx).imp List.mem_singleton.mpr id
    have sub : ∀ b ∈ nextL C (a :: movedL C T [a]), b ∈ T := fun b hb => by
      obtain ⟨_, ⟨x, hx, e⟩, hor⟩ := nextL_mem.mp hb
      refine Classical.byContradiction fun nt => ?_
      by_cases bw : b ∈ C.wished
      · exact no1 ⟨x, fr x hx, b, bw, nt, e⟩
      · exact hor.elim bw fun nb => nb (List.mem_cons_of_mem _ (moved_more ok (fr x hx) e bw nt))
    have := h _ rg fun b hb hf => by
      obtain ⟨bn, bw, bg⟩ := unwL_mem.mp hf
      obtain ⟨_, ⟨x, hx, e⟩, _⟩ := nextL_mem.mp hb
      exact no2 ⟨b, stops_mem.mpr ⟨bn, bw, sub b hb, x, fr x hx, e⟩, bg⟩
    have := nodup_sub_len (nextL C (a :: movedL C T [a])) T (up_nodup (those_up _ _)) sub
    omega
  · intro h Y rg fr
    refine Classical.byContradiction fun no => ?_
    obtain ⟨m, s⟩ := laid_ok ok rg fr
    rcases h (nextL C Y) (lotsF_mem.mpr ⟨those_up _ _, fun x hx => (nextL_mem.mp hx).1, by omega⟩) with g | ⟨w, hw, hg⟩
    · exact m g
    · exact s w hw hg
/-- the list of all that have gone -/
structure Lost (C : Chart) (k : Nat) (G : List Nat) : Prop where
  nd : G.Nodup
  mem : ∀ x, x ∈ G ↔ ∃ t, x ∈ goneL C k t
  stay : ∀ a, a < C.n → a ∉ G → ¬ Gone1 C k (unwL C G) a
theorem lost_end {C : Chart} {k t : Nat} {G : List Nat} (nd : G.Nodup) (mem : ∀ x, x ∈ G ↔ x ∈ goneL C k t) (stay : ∀ a, a < C.n → a ∉ G → ¬ Gone1 C k (unwL C G) a) : Lost C k G := by
  refine ⟨nd, fun x => ⟨fun h => ⟨t, (mem x).mp h⟩, ?_⟩, stay⟩
  rintro ⟨u, hu⟩
  rw [mem x]
  have st : ∀ a, a ∈ goneL C k (t + 1) → a ∈ goneL C k t := fun a m => by
    obtain ⟨h1, h2⟩ := goneL_more.mp m
    rcases h2 with h2 | h2
    · exact h2
    · refine Classical.byContradiction fun no => stay a h1 (fun h => no ((mem a).mp h)) ((gone_congr fun y => ?_).mp h2)
      rw [unwL_mem, unwL_mem, mem y]
  rcases Nat.le_total u t with l | l
  · exact goneL_le' hu l
  · refine goneL_stop st (u - t) x ?_
    rw [show t + (u - t) = u by omega]
    exact hu
theorem Lost.near {C : Chart} {k a m : Nat} {G F X : List Nat} (h : Lost C k G) (ok : C.Ok) (ha : a < C.n) (ng : ∀ t, a ∉ goneL C k t) (hF : ∀ x, x ∈ F ↔ x < C.n ∧ x ∉ C.wished ∧ ∃ t, x ∈ goneL C k t) (sp : NearSpec C [a] F m X) : (nextL C X).length ≤ k ∧ ¬ MissP C (nextL C X) [a] ∧ ∀ w ∈ stopsL C (nextL C X) [a], w ∉ G := by
  have eF : ∀ x, x ∈ unwL C G ↔ x ∈ F := fun x => by rw [unwL_mem, hF, h.mem]
  refine ⟨?_, laid_ok ok ⟨sp.sub, fun x hx => (sp.inn x hx).imp id fun g => g.1⟩ fun b hb m => sp.free b hb ((eF b).mp m)⟩
  have ng' := h.stay a ha fun m => (h.mem a).mp m |>.elim ng
  refine Classical.byContradiction fun no => ng' fun Y rg fr => ?_
  have := (sp.least Y rg fun b hb m => fr b hb ((eF b).mpr m)).1
  rw [← sp.many] at this
  omega
end Ft

set_option Elab.async false
set_option linter.all false
set_option maxRecDepth 100000
set_option maxHeartbeats 8000000
namespace Ft
open PySem PySem.Spec PyProof.Rows L2
/-- what one start tells: whether a wished place is met, the stops, the places moved to -/
structure OneAt (H : Hp) (z s m : Addr) (b : Bool) (S M : List Nat) : Prop where
  top : H z = some (.lst [.bl b, .ref s, .ref m])
  st : H s = some (.lst (S.map vN))
  mv : H m = some (.lst (M.map vN))
theorem OneAt.same {H H' : Hp} (e : Same H H') {z s m : Addr} {b : Bool} {S M : List Nat} (h : OneAt H z s m b S M) : OneAt H' z s m b S M := ⟨e _ _ h.top, e _ _ h.st, e _ _ h.mv⟩
def leftM (n : Nat) (m l : Addr) (H : Hp) : Nat := match H m, H l with
  | some (.lst F), some (.lst L) => 2 * (n - F.length) + L.length
  | _, _ => 0
theorem leftM_is {n : Nat} {m l : Addr} {H : Hp} {F L : List V} (h1 : H m = some (.lst F)) (h2 : H l = some (.lst L)) : leftM n m l H = 2 * (n - F.length) + L.length := by
  unfold leftM
  rw [h1, h2]
section
variable {P : Program} {w : World} {K : PySem.W.Frag} {mg : Str → Option Value} {base : Heap}
/-! ### _law_bound_single -/
def sp_law_bound_single (K : PySem.W.Frag) : Sp := fun vs H Q _ => ∃ (c g tr st : Addr) (C : Chart) (hd cm fs lt : Addr) (hs cs ts : List Addr) (T A : List Nat), vs = [.ref c, .ref g, .ref tr, .ref st] ∧ IsChart K H c C ∧ C.Ok ∧ Ground K H C g hd cm fs lt hs cs ts ∧ SqT K H tr (T.map vN) ∧
  SqL K H st (A.map vN) ∧ (∀ a ∈ A, a < C.n) ∧ A.length ≤ 60 ∧ (A.length + C.n) * C.roads.length ≤ 1000 ∧
  ∀ (z s m : Addr) (b : Bool) (H' : Hp), Same H H' → H z = none → H s = none → H m = none → (b = true ↔ MissP C T A) → OneAt H' z s m b (stopsL C T A) (movedL C T A) → Q (.ref z) H'
theorem cal_law_bound_single (T : Txt mg) (D : Def K mg "_law_bound_single" s_law_bound_single) : Cal P w K mg base 1 "_law_bound_single" (sp_law_bound_single K) := by
  refine cal_of D sc_law_bound_single (fun _ _ _ _ _ _ us hl => match us, hl with | [_, _, _, _], _ => rfl) (fun vs H Q E h => ?_) (fun f cdv A0 outer s H vs Q E hr h => ?_)
  · obtain ⟨c, g, tr, st, C, hd, cm, fs, lt, hs, cs, ts, T, A, rfl, _⟩ := h
    rfl
  · obtain ⟨c, g, tr, st, C, hd, cm, fs, lt, hs, cs, ts, Tr, A, rfl, hCC, ok, hG, hT, hA, inA, lA, many, q⟩ := h
    have n60 := ok.n60
    have hU := hr.units
    obtain ⟨r, wd, ts0, hC⟩ := id hCC
    refine ⟨_, (pss_cons (ps_asg (pe_tup (pa_cons pe_bl (pa_cons (pe_lst pa_nil) (pa_cons (pe_lst pa_nil) (pa_cons (pe_callTy (show CallR _ _ (rListOf K) from call_listOf) (by rfl) T.list (by decide +kernel) (pa_cons (pv 3) pa_nil)) pa_nil))))) (show PG _ _ (gTup K 4 _) from pg_tup (by rfl) (pgs_cons (pg_name (i := 4) sc_law_bound_single.nd rfl (Or.inl rfl)) (pgs_cons (pg_name (i := 5) sc_law_bound_single.nd rfl (Or.inl rfl)) (pgs_cons (pg_name (i := 6) sc_law_bound_single.nd rfl (Or.inl rfl)) (pgs_cons (pg_name (i := 7) sc_law_bound_single.nd rfl (Or.inl rfl)) pgs_nil))))))
      (pss_cons (ps_while PassesOwn.never (pt_cmpR (show OpR _ _ (rNeD K) from op_neD hU) (pv 7) (pe_lst pa_nil) (nomark _)) (pss_one (ps_for PassesOwn.never rfl (show PI _ _ _ (iList K _) from pi_list (pe_ix (show IxR _ (rIxL K) from ix_list) (pe_ix (show IxR _ (rIxL K) from ix_list) (pv 1) pe_int (fun _ _ => rfl)) (pe_bm0 PySem.F.plainAttrs_list PySem.F.slot_list_pop PySem.F.type_list_pop mt_pop (pv 7)) (fun _ _ => rfl))) (pg_name (i := 8) sc_law_bound_single.nd rfl (Or.inl rfl)) (pss_one (ps_if (pt_cmpR (show OpR _ _ (rIn K false) from op_in_seq) (pv 8) (pe_ix (show IxR _ (rIxT K) from ix_tup) (pv 0) pe_int (fun _ _ => rfl)) (by rfl)) (pss_one (ps_set (i := 4) sc_law_bound_single.nd rfl (Or.inl rfl) (pe_mid (pe_or (pv 4) (pe_one (pe_cmpR (show OpR _ _ (rIn K true) from op_notIn_seq) (pv 8) (pv 2) (by rfl))))))) (pss_one (ps_if (pt_cmpR (show OpR _ _ (rIn K false) from op_in_seq) (pv 8) (pv 2) (by rfl)) (pss_one (ps_expr (pe_bm PySem.F.plainAttrs_list PySem.F.slot_list_append PySem.F.type_list_append mt_append (pv 5) (pa_cons (pv 8) pa_nil)))) (pss_one (ps_if (pt_cmpR (show OpR _ _ (rIn K true) from op_notIn_seq) (pv 8) (pv 6) (by rfl)) (pss_cons (ps_expr (pe_bm PySem.F.plainAttrs_list PySem.F.slot_list_append PySem.F.type_list_append mt_append (pv 6) (pa_cons (pv 8) pa_nil)))
                (pss_one (ps_expr (pe_bm PySem.F.plainAttrs_list PySem.F.slot_list_append PySem.F.type_list_append mt_append (pv 7) (pa_cons (pv 8) pa_nil))))) pss_nil)))))))))
      (pss_one (ps_ret (pe_lst (pa_cons (pv 4) (pa_cons (pe_callB (show CallR _ _ (rSortedSet w) from cr_sortedSet rfl) (by rfl) T.sorted (by decide +kernel) (pa_cons (pe_callTy (show CallR _ _ (rSetN K w) from cr_setN rfl) (by rfl) T.set (by decide +kernel) (pa_cons (pv 5) pa_nil)) pa_nil)) (pa_cons (pe_callB (show CallR _ _ (rSortedI K) from cr_sortedI) (by rfl) T.sorted (by decide +kernel) (pa_cons (pv 6) pa_nil)) pa_nil)))))))), ?_⟩
    refine ⟨Nat.zero_le _, fun d hd0 => ⟨Nat.zero_le _, fun m hm0 => ⟨_, rfl, st, A.map vN, rfl, .inl ?_, fun l hl0 => ?_⟩⟩⟩
    · exact Same.sqL ((same_upd hd0).trans (same_upd hm0)) hA
    generalize eH1 : upd H d _ = H1 at hm0 hl0 ⊢
    have s1 : Same H H1 := by rw [← eH1]; exact same_upd hd0
    have hD1 : H1 d = some (.lst (([] : List Nat).map vN)) := by rw [← eH1]; exact upd_same
    clear eH1
    generalize eH2 : upd H1 m _ = H2 at hl0 ⊢
    have s2 : Same H1 H2 := by rw [← eH2]; exact same_upd hm0
    have hM2 : H2 m = some (.lst (([] : List Nat).map vN)) := by rw [← eH2]; exact upd_same
    clear eH2
    generalize eH3 : upd H2 l _ = H3
    have s3 : Same H2 H3 := by rw [← eH3]; exact same_upd hl0
    have hL3 : H3 l = some (.lst (A.map vN)) := by rw [← eH3]; exact upd_same
    clear eH3
    have hD3 := s3 _ _ (s2 _ _ hD1)
    have hM3 := s3 _ _ hM2
    have ndm : d ≠ m := ne_of_none hD1 hm0
    have nml : m ≠ l := ne_of_none hM2 hl0
    have ndl : d ≠ l := ne_of_none (s2 _ _ hD1) hl0
    have s03 := (s1.trans s2).trans s3
    have m0 : H m = none := s1.free hm0
    have l0 : H l = none := s1.free (s2.free hl0)
    have off : ∀ {b : Addr} {o : HO}, H b = some o → b ∉ [d, m, l] := fun {b o} e mm => by
      simp only [List.mem_cons, List.not_mem_nil, or_false] at mm
      rcases mm with z | z | z
      · rw [z, hd0] at e; cases e
      · rw [z, m0] at e; cases e
      · rw [z, l0] at e; cases e
    have kS : ∀ {H' : Hp}, Kp [d, m, l] H3 H' → Same H H' := fun {H'} k b o e => k b o (off e) (s03 _ _ e)
    refine ⟨by show 4 ≤ sizeLine; decide, fun tp tp0 => ?_⟩
    have sp := same_upd (o := .tup [.bl false, .ref d, .ref m, .ref l]) tp0
    refine ⟨tp, _, rfl, .inl (.inl upd_same), rfl, _, _, rfl, _, _, rfl, _, _, rfl, _, _, rfl, rfl, ?_⟩
    generalize upd H3 tp _ = H3' at sp ⊢
    have k0 : Kp [d, m, l] H3 H3' := Same.kp sp
    replace hD3 := sp _ _ hD3
    replace hM3 := sp _ _ hM3
    replace hL3 := sp _ _ hL3
    refine at_seq ?_
    refine while_by (fun σ H' => ∃ (F St L : List Nat) (mi : Bool) (v8 : Option V), σ = [some (.ref c), some (.ref g), some (.ref tr), some (.ref st), some (.bl mi), some (.ref d), some (.ref m), some (.ref l), v8] ∧ Kp [d, m, l] H3 H' ∧ H' d = some (.lst (St.map vN)) ∧ H' m = some (.lst (F.map vN)) ∧ H' l = some (.lst (L.map vN)) ∧
        Sing C Tr A F St L mi (fun _ => False) ∧ St.length + L.length * C.roads.length ≤ (A.length + F.length) * C.roads.length ∧ L.length ≤ A.length + F.length) (fun _ H' => leftM C.n m l H') ?_ ?_ ?_
    · exact ⟨[], [], A, false, _, rfl, k0, hD3, hM3, hL3, Sing.start C Tr A, by simp, by omega⟩
    · rintro σ H4 ⟨F, St, L, mi, v8, rfl, k4, hD4, hM4, hL4, sg, cnt, cap⟩
      have lF := sg.few
      have cF : (A.length + F.length) * C.roads.length ≤ 1000 := Nat.le_trans (Nat.mul_le_mul_right _ (by omega)) many
      have lSt : St.length ≤ 1000 := by omega
      refine ⟨_, rfl, Nat.zero_le _, fun z hz => ?_⟩
      have sz : Same H4 (upd H4 z (.lst [])) := same_upd hz
      refine ⟨.list ((iN L).map .int), .list [], .lst (.inl (.inl (sz _ _ hL4))) (by rw [vN_map]; exact dpAll_ints _), .lst (.inl (.inl upd_same)) .nil, ints_shaped _, rfl, _, rfl, ?_⟩
      generalize upd H4 z (.lst []) = H5 at sz
      have k5 : Kp [d, m, l] H3 H5 := fun b o nb e => sz _ _ (k4 b o nb e)
      have hD5 := sz _ _ hD4
      have hM5 := sz _ _ hM4
      have hL5 := sz _ _ hL4
      by_cases he : L = []
      · subst he
        refine iteF ?_
        have s5 := kS k5
        have ltS : ∀ x ∈ St, x < C.n := fun x hx => (stops_mem.mp (sg.inS x hx)).1
        refine ⟨_, rfl, _, rfl, d, iN St, rfl, .inl (.inl (.inl (by rw [← vN_map]; exact hD5))), by rw [iN_length]; omega, fun p n0 hp hn0 => ?_⟩
        generalize eH6 : upd H5 p _ = H6
        have s6 : Same H5 H6 := by rw [← eH6]; exact same_upd hp
        have hP6 : H6 p = some (SetO w p (fun j => decide (j ∈ iN St)) n0) := by rw [← eH6]; exact upd_same
        clear eH6
        have ln := set_up ltS hn0
        refine ⟨p, _, n0, rfl, hP6, by omega, fun gs fu up mem _ hfu => ?_⟩
        obtain ⟨wl, rfl, upw, memw⟩ : ∃ wl : List Nat, gs = iN wl ∧ wl.Pairwise (· < ·) ∧ ∀ x, x ∈ wl ↔ x ∈ St := set_nat up mem
        generalize eH7 : upd H6 fu _ = H7
        have s7 : Same H6 H7 := by rw [← eH7]; exact same_upd hfu
        have hF7 : H7 fu = some (.lst (wl.map vN)) := by rw [← eH7, vN_map]; exact upd_same
        clear eH7
        have hM7 := s7 _ _ (s6 _ _ hM5)
        refine ⟨_, rfl, m, iN F, rfl, .inl (.inl (by rw [← vN_map]; exact hM7)), fun ys q0 pm up hq0 => ?_⟩
        obtain ⟨ml, rfl, upl, mem2⟩ := sorted_iN sg.nd pm up
        generalize eH8 : upd H7 q0 _ = H8
        have s8 : Same H7 H8 := by rw [← eH8]; exact same_upd hq0
        have hQ8 : H8 q0 = some (.lst (ml.map vN)) := by rw [← eH8, vN_map]; exact upd_same
        clear eH8
        have s57 := (s5.trans s6).trans s7
        refine ⟨by show 3 ≤ sizeLine; decide, fun zz hzz => ?_⟩
        have s9 : Same H8 (upd H8 zz (.lst [.bl mi, .ref fu, .ref q0])) := same_upd hzz
        have e1 : wl = stopsL C Tr A := those_is upw fun x => (memw x).trans (sg.stops.trans stops_mem)
        have e2 : ml = movedL C Tr A := those_is upl fun x => (mem2 x).trans (sg.moved.trans moved_mem)
        refine q zz fu q0 mi _ ((s57.trans s8).trans s9) (s57.free (s8.free hzz)) (s5.free (s6.free hfu)) (s57.free hq0) sg.missed ⟨upd_same, ?_, ?_⟩
        · rw [← e1]
          exact s9 _ _ (s8 _ _ hF7)
        · rw [← e2]
          exact s9 _ _ hQ8
      · have hb : (!PyData.eqv (.list ((iN L).map .int)) (.list [])) = true := by
          cases L with
          | nil => exact absurd rfl he
          | cons a L => rfl
        rw [hb]
        refine iteT ?_
        obtain ⟨W0, x, rfl⟩ : ∃ W0 x, L = W0 ++ [x] := ⟨L.dropLast, L.getLast he, (List.dropLast_concat_getLast he).symm⟩
        rw [List.length_append, List.length_singleton] at cap
        rw [List.length_append, List.length_singleton, Nat.add_mul, Nat.one_mul] at cnt
        have fx : x ∈ A ∨ x ∈ F := sg.wait x (by simp)
        have hx : x < C.n := fx.elim (inA x) fun h => (moved_mem.mp (sg.inF x h)).1
        have fs' := sg.from fx
        have hlast : ((W0 ++ [x]).map vN)[((W0 ++ [x]).map vN).length - 1]? = some (vN x) := by simp
        have hdl : ((W0 ++ [x]).map vN).dropLast = W0.map vN := by simp
        obtain ⟨lx, hlx⟩ : ∃ l, hs[x]? = some l := ⟨_, List.getElem?_eq_getElem (by rw [hG.hlen]; exact hx)⟩
        have s5 := kS k5
        have k6 : Kp [d, m, l] H3 (upd H5 l (.lst (W0.map vN))) := fun b o nb e => by
          rw [upd_ne (fun z => nb (by rw [z]; simp))]
          exact k5 b o nb e
        have mu0 : leftM C.n m l H4 = 2 * (C.n - F.length) + (W0.length + 1) := by
          rw [leftM_is hM4 hL4]
          simp
        have kG : ∀ {H' : Hp}, Kp [d, m, l] H3 H' → Ground K H' C g hd cm fs lt hs cs ts := fun k => hG.same (kS k)
        refine ⟨_, rfl, _, _, _, _, rfl, rfl, .inl (.inl (kG k5).top), rfl, _, rfl, .inl ⟨rfl, _, .inl (.inl hL5)⟩, l, _, _, rfl, rfl, hL5, hlast, ?_⟩
        rw [hdl]
        refine ⟨_, _, _, _, rfl, rfl, .inl (.inl (kG k6).heads.top), atI_nat (v := V.ref lx) (by rw [List.getElem?_map, hlx]; rfl), lx, rfl, ⟨_, .inl (.inl ((kG k6).heads.each x lx hlx))⟩, ?_⟩
        have eH : (headsL C x).length ≤ C.roads.length := by
          unfold headsL
          rw [List.length_map]
          exact List.length_filter_le _ _
        refine for_list (K := K) (xs := (headsL C x).map vN) (fun i σ H' => ∃ (F1 St1 W1 : List Nat) (m1 : Bool) (v8 : Option V), σ = [some (.ref c), some (.ref g), some (.ref tr), some (.ref st), some (.bl m1), some (.ref d), some (.ref m), some (.ref l), v8] ∧ Kp [d, m, l] H3 H' ∧ H' d = some (.lst (St1.map vN)) ∧ H' m = some (.lst (F1.map vN)) ∧ H' l = some (.lst (W1.map vN)) ∧
            Sing C Tr A F1 St1 W1 m1 (· = x) ∧ (∀ b ∈ (headsL C x).take i, TookS C Tr F1 St1 m1 b) ∧ (∀ y ∈ F, y ∈ F1) ∧ St1.length ≤ St.length + i ∧ W1.length + F.length = W0.length + F1.length) ?_ (fun i σ H' _ ⟨_, _, _, _, _, _, k, _⟩ => .inl (.inl ((kG k).heads.each x lx hlx))) ?_ ?_
        · exact ⟨F, St, W0, mi, _, rfl, k6, by rw [upd_ne ndl]; exact hD5, by rw [upd_ne nml]; exact hM5, upd_same, sg.pop, fun b hb => by rw [List.take_zero] at hb; exact absurd hb List.not_mem_nil, fun y h => h, Nat.le_refl _, rfl⟩
        · rintro i y σ H7 hy ⟨F1, St1, W1, m1, v8', rfl, k7, hD7, hM7, hL7, sg1, took, subF, lSt1, lW1⟩
          obtain ⟨b, hb, rfl⟩ := get_map hy
          have hi := (List.getElem?_eq_some_iff.mp hb).1
          have hbr : (x, b) ∈ C.roads := headsL_mem.mp (List.mem_of_getElem? hb)
          have hC7 := hC.same (kS k7)
          have hT7 := Same.sqT (kS k7) hT
          have lF1 := sg1.few
          have fin : ∀ {F2 St2 : List Nat} {m2 : Bool}, (∀ y ∈ F1, y ∈ F2) → (∀ y ∈ St1, y ∈ St2) → (m1 = true → m2 = true) → TookS C Tr F2 St2 m2 b → ∀ z ∈ (headsL C x).take (i + 1), TookS C Tr F2 St2 m2 z := fun h1 h2 h3 h4 z hz => by
            rw [take_more hb] at hz
            rcases List.mem_append.mp hz with hz | hz
            · exact (took z hz).mono h1 h2 h3
            · rw [List.mem_singleton.mp hz]
              exact h4
          refine ⟨_, rfl, _, rfl, _, _, _, _, rfl, rfl, hC7.top, rfl, wd, _, rfl, .inr hC7.wis, rfl, all_vN C.wished, _, rfl, ?_⟩
          show if inV (vN b) (C.wished.map vN) = true then _ else _
          rw [in_vN]
          by_cases h1 : b ∈ C.wished
          · rw [decide_eq_true h1]
            refine iteT ⟨fun v H' => v = .bl (m1 || !decide (b ∈ Tr)) ∧ H' = H7, ⟨_, rfl, m1, rfl, ?_⟩, ?_⟩
            · cases m1 with
              | true => exact iteT ⟨rfl, rfl⟩
              | false =>
                refine iteF ⟨_, rfl, _, rfl, tr, _, rfl, .inr hT7, rfl, all_vN Tr, ?_⟩
                rw [in_vN]
                exact ⟨rfl, rfl⟩
            · rintro v H' ⟨rfl, rfl⟩
              refine ⟨F1, St1, W1, _, _, rfl, k7, hD7, hM7, hL7, sg1.miss' fs' hbr h1, fin (fun _ h => h) (fun _ h => h) (fun h => by rw [h]; rfl) ⟨fun h => absurd h1 h, fun h => absurd h1 h, fun _ h => by rw [decide_eq_false h]; exact Bool.or_true _⟩, subF, by omega, lW1⟩
          · rw [decide_eq_false h1]
            refine iteF ⟨_, rfl, _, rfl, tr, _, rfl, .inr hT7, rfl, all_vN Tr, _, rfl, ?_⟩
            show if inV (vN b) (Tr.map vN) = true then _ else _
            rw [in_vN]
            by_cases h2 : b ∈ Tr
            · rw [decide_eq_true h2]
              refine iteT ⟨_, rfl, .inl ⟨rfl, _, .inl (.inl hD7)⟩, _, rfl, d, _, _, rfl, rfl, hD7, ?_, F1, St1 ++ [b], W1, m1, _, rfl, fun a o na ea => ?_, by rw [upd_same, List.map_append]; rfl, by rw [upd_ne ndm.symm]; exact hM7, by rw [upd_ne ndl.symm]; exact hL7, sg1.stop ok fs' hbr h1 h2, fin (fun _ h => h) (fun _ h => List.mem_append_left _ h) id ⟨fun _ h => absurd h2 h, fun _ _ => List.mem_append_right _ (List.mem_singleton.mpr rfl), fun h => absurd h h1⟩, subF, by rw [List.length_append, List.length_singleton]; omega, lW1⟩
              · rw [List.length_map, sizeLine_eq]
                omega
              · rw [upd_ne (fun z => na (by rw [z]; simp))]
                exact k7 a o na ea
            · rw [decide_eq_false h2]
              refine iteF ⟨_, rfl, _, rfl, m, _, rfl, .inl (.inl (.inl hM7)), rfl, all_vN F1, _, rfl, ?_⟩
              show if (!inV (vN b) (F1.map vN)) = true then _ else _
              rw [in_vN]
              by_cases h3 : b ∈ F1
              · rw [decide_eq_true h3]
                exact iteF ⟨F1, St1, W1, m1, _, rfl, k7, hD7, hM7, hL7, sg1, fin (fun _ h => h) (fun _ h => h) id ⟨fun _ _ => h3, fun _ h => absurd h h2, fun h => absurd h h1⟩, subF, by omega, lW1⟩
              · rw [decide_eq_false h3]
                have hL8 : (upd H7 m (.lst (F1.map vN ++ [vN b]))) l = some (.lst (W1.map vN)) := by rw [upd_ne nml.symm]; exact hL7
                refine iteT ⟨_, rfl, .inl ⟨rfl, _, .inl (.inl hM7)⟩, _, rfl, m, _, _, rfl, rfl, hM7, ?_, _, rfl, .inl ⟨rfl, _, .inl (.inl hL8)⟩, _, rfl, l, _, _, rfl, rfl, hL8, ?_, F1 ++ [b], St1, W1 ++ [b], m1, _, rfl, fun a o na ea => ?_, ?_, ?_, by rw [upd_same, List.map_append]; rfl, sg1.move ok fs' hbr h1 h2 h3, fin (fun _ h => List.mem_append_left _ h) (fun _ h => h) id ⟨fun _ _ => List.mem_append_right _ (List.mem_singleton.mpr rfl), fun _ h => absurd h h2, fun h => absurd h h1⟩, fun y hy => List.mem_append_left _ (subF y hy), by omega, by rw [List.length_append, List.length_append, List.length_singleton]; omega⟩
                · rw [List.length_map]
                  exact small1000 (by omega)
                · rw [List.length_map]
                  exact small1000 (by omega)
                · rw [upd_ne (fun z => na (by rw [z]; simp)), upd_ne (fun z => na (by rw [z]; simp))]
                  exact k7 a o na ea
                · rw [upd_ne ndl, upd_ne ndm]
                  exact hD7
                · rw [upd_ne nml, upd_same, List.map_append]
                  rfl
        · rintro σ H7 ⟨F1, St1, W1, m1, v8', rfl, k7, hD7, hM7, hL7, sg1, took, subF, lSt1, lW1⟩
          rw [List.length_map] at took lSt1
          rw [List.take_length] at took
          have lFF : F.length ≤ F1.length := nodup_sub_len F F1 sg.nd subF
          have lF1 := sg1.few
          refine ⟨⟨F1, St1, W1, m1, _, rfl, k7, hD7, hM7, hL7, sg1.shut fun z hz => took z (headsL_mem.mpr hz), ?_, by omega⟩, ?_⟩
          · have e2 : W1.length = W0.length + (F1.length - F.length) := by omega
            have e3 : A.length + F1.length = (A.length + F.length) + (F1.length - F.length) := by omega
            rw [e2, e3, Nat.add_mul W0.length, Nat.add_mul (A.length + F.length)]
            omega
          · show leftM C.n m l H7 < leftM C.n m l H4
            rw [mu0, leftM_is hM7 hL7, List.length_map, List.length_map]
            omega
    · rintro σ H' Q1 Q2 hQ ⟨v, e, hz, h⟩
      refine ⟨v, e, hz, fun z hz => ?_⟩
      obtain ⟨a, b, c1, c2, c3, c4, k, e2, h2⟩ := h z hz
      exact ⟨a, b, c1, c2, c3, c4, k, e2, hQ _ _ h2⟩
end
end Ft

set_option Elab.async false
set_option linter.all false
set_option maxRecDepth 100000
set_option maxHeartbeats 8000000
namespace Ft
open PySem PySem.Spec PyProof.Rows L2
/-- a list of lots -/
structure LotsLs (K : PySem.W.Frag) (H : Hp) (la : Addr) (L : List (Addr × List Nat)) : Prop where
  top : H la = some (.lst (L.map fun p => V.ref p.1))
  each : ∀ p ∈ L, SqT K H p.1 (p.2.map vN)
theorem LotsLs.same {K : PySem.W.Frag} {H H' : Hp} (s : Same H H') {la : Addr} {L : List (Addr × List Nat)} (h : LotsLs K H la L) : LotsLs K H' la L := ⟨s _ _ h.top, fun p hp => Same.sqT s (h.each p hp)⟩
section
variable {P : Program} {w : World} {K : PySem.W.Frag} {mg : Str → Option Value} {base : Heap}
/-! ### _law_bound_lots -/
def sp_law_bound_lots (K : PySem.W.Frag) : Sp := fun vs H Q _ => ∃ n k : Nat, vs = [vN n, vN k] ∧ n ≤ 9 ∧ k ≤ 60 ∧ ∀ (la : Addr) (L : List (Addr × List Nat)) (H' : Hp), Same H H' → H la = none → LotsLs K H' la L → L.map (·.2) = lotsF k n → Q (.ref la) H'
theorem cal_law_bound_lots (T : Txt mg) (D : Def K mg "_law_bound_lots" s_law_bound_lots) : Cal P w K mg base 1 "_law_bound_lots" (sp_law_bound_lots K) := by
  refine cal_of D sc_law_bound_lots (fun _ _ _ _ _ _ us hl => match us, hl with | [_, _], _ => rfl) (fun vs H Q E h => ?_) (fun f cdv A outer s H vs Q E hr h => ?_)
  · obtain ⟨n, k, rfl, _⟩ := h
    rfl
  · obtain ⟨n, k, rfl, n9, k60, q⟩ := h
    refine ⟨_, (pss_cons (ps_set (i := 2) sc_law_bound_lots.nd rfl (Or.inl rfl) (pe_lst (pa_cons (pe_tup pa_nil) pa_nil)))
      (pss_cons (ps_for PassesOwn.never rfl (pi_range1 (by rfl) T.range (pa_cons (pv 0) pa_nil)) (pg_name (i := 3) sc_law_bound_lots.nd rfl (Or.inr rfl)) (pss_one (ps_set (i := 2) sc_law_bound_lots.nd rfl (Or.inl rfl) (pe_op op_cat (pv 2) (pe_lc (own := [("lot", 4)]) rfl sc_law_bound_lots.nd (show PI _ _ _ (iList K _) from pi_list (pv 2)) (blkOk_by (N := ["places", "most", "found", "a", "lot"]) (sc := L2.defScope s_law_bound_lots) (by decide +kernel)) (fun _ _ _ _ _ => (pg_name (i := 4) sc_law_bound_lots.nd rfl (Or.inl rfl))) (fun _ _ _ _ _ => pts_one (pt_cmpR op_lt (pe_callB (show CallR _ _ (rLenS K) from call_lenS) (by rfl) T.len (by decide +kernel) (pa_cons (pv 4) pa_nil)) (pv 1) (nomark _))) (fun _ _ _ _ _ => (pe_op (show OpR _ _ (rCatA K) from op_catA) (pv 4) (pe_tup (pa_cons (pv 3) pa_nil)))))))))
      (pss_one (ps_ret (pv 2))))), ?_⟩
    refine ⟨Nat.zero_le _, fun t0 ht0 => ⟨by show 1 ≤ sizeLine; decide, fun la0 hla0 => ?_⟩⟩
    generalize eH1 : upd H t0 _ = H1 at hla0 ⊢
    have s1 : Same H H1 := by rw [← eH1]; exact same_upd ht0
    have hT1 : SqT K H1 t0 (([] : List Nat).map vN) := by rw [← eH1]; exact .inl (.inl upd_same)
    clear eH1
    have sA := same_upd (o := .lst [.ref t0]) hla0
    refine ⟨_, rfl, _, rfl, by omega, by omega, for_range (lo := 0) (n := n) (fun i σ H' => ∃ (la : Addr) (L : List (Addr × List Nat)) (v3 : Option V), σ = [some (vN n), some (vN k), some (.ref la), v3, none] ∧ Same H H' ∧ H la = none ∧ LotsLs K H' la L ∧ L.map (·.2) = lotsF k i)
      ⟨la0, [(t0, [])], _, rfl, s1.trans sA, s1.free hla0, ⟨upd_same, fun p hp => by rw [List.mem_singleton.mp hp]; exact Same.sqT sA hT1⟩, rfl⟩ ?_ ?_⟩
    · rintro i σ H2 hi ⟨la, L, v3, rfl, s2, hla, hL, eL⟩
      have e0 : (0 : Int) + (i : Nat) = (i : Nat) := by omega
      have lL : L.length ≤ 512 := by
        have h1 : L.length = (lotsF k i).length := by rw [← eL, List.length_map]
        have h2 := lotsF_len k i
        have h3 : 2 ^ i ≤ 2 ^ 9 := Nat.pow_le_pow_right (by decide) (by omega)
        omega
      refine ⟨_, rfl, _, rfl, la, rfl, ⟨_, .inl (.inl hL.top)⟩, fun D hD => ?_⟩
      refine lc_list (K := K) (xs := L.map fun p => V.ref p.1) (fun j H' => ∃ M : List (Addr × List Nat), Kp [D] H2 H' ∧ H' D = some (.lst (M.map fun p => V.ref p.1)) ∧ (∀ p ∈ M, SqT K H' p.1 (p.2.map vN)) ∧ M.length ≤ j ∧ M.map (·.2) = ((((L.map (·.2)).take j).filter fun l => decide (l.length < k)).map fun l => l ++ [i]))
        ⟨[], (fun b o x e' => by rw [upd_ne (ne_of_none e' hD)]; exact e'), upd_same, (fun _ h => nomatch h), Nat.le_refl _, by simp⟩ (fun j H' _ ⟨_, k', _⟩ => .inl (.inl (kp_same hD k' _ _ hL.top))) ?_ ?_
      · rintro j x H3 hx ⟨M, k3, hD3, hM, lM, eM⟩
        obtain ⟨p, hp, rfl⟩ := get_map hx
        have jl := (List.getElem?_eq_some_iff.mp hp).1
        have hp2 : (L.map (·.2))[j]? = some p.2 := by rw [List.getElem?_map, hp]; rfl
        have s3 := kp_same hD k3
        have hP := Same.sqT s3 (hL.each p (List.mem_of_getElem? hp))
        have lp : p.2.length ≤ k := (lotsF_mem.mp (by rw [← eL]; exact List.mem_of_getElem? hp2)).2.2
        refine ⟨rfl, ?_⟩
        refine ⟨_, rfl, p.1, _, rfl, .inr hP, _, rfl, _, _, rfl, rfl, _, rfl, ?_⟩
        have eLt : decide (((p.2.map vN).length : Int) < (k : Nat)) = decide (p.2.length < k) := by
          rw [List.length_map]
          exact decide_eq_decide.mpr (by omega)
        rw [eLt]
        by_cases h : p.2.length < k
        · rw [decide_eq_true h]
          refine iteT ⟨_, rfl, _, rfl, by show 1 ≤ sizeLine; decide, fun t1 ht1 => ?_⟩
          generalize eH4 : upd H3 t1 _ = H4
          have s4 : Same H3 H4 := by rw [← eH4]; exact same_upd ht1
          have hT4 : SqT K H4 t1 ([i].map vN) := by rw [← eH4, e0]; exact .inl (.inl upd_same)
          clear eH4
          refine catA_of (Same.sqT s4 hP) hT4 (by rw [List.length_map]; show p.2.length + 1 ≤ 1000; omega) fun t2 H5 s5 hT5 => ?_
          rw [← List.map_append] at hT5
          have s35 := s4.trans s5
          have hD5 := s35 _ _ hD3
          refine ⟨_, hD5, by rw [List.length_map, sizeLine_eq]; omega, M ++ [(t2, p.2 ++ [i])], kp_put (k3.trans (Same.kp s35)), by rw [upd_same, List.map_append]; rfl, fun r hr' => ?_, by rw [List.length_append]; exact Nat.succ_le_succ lM, ?_⟩
          · refine kp_lst.sqT (lists_one hD5) ?_
            rcases List.mem_append.mp hr' with h | h
            · exact Same.sqT s35 (hM r h)
            · rw [List.mem_singleton.mp h]
              exact hT5
          · rw [take_more hp2, List.filter_append, List.filter_cons, decide_eq_true h, if_pos rfl, List.filter_nil, List.map_append, List.map_append, eM]
            rfl
        · rw [decide_eq_false h]
          refine iteF ⟨M, k3, hD3, hM, by omega, ?_⟩
          rw [take_more hp2, List.filter_append, List.filter_cons, decide_eq_false h, if_neg (by simp), List.filter_nil, List.append_nil, eM]
      rintro H3 ⟨M, k3, hD3, hM, lM, eM⟩
      rw [List.length_map] at lM eM
      rw [List.take_of_length_le (by rw [List.length_map]; exact Nat.le_refl _), eL] at eM
      have s3 := kp_same hD k3
      refine ⟨la, D, _, _, rfl, rfl, s3 _ _ hL.top, hD3, by rw [List.length_map, List.length_map, sizeLine_eq]; omega, fun lb hlb => ?_⟩
      have s4 := same_upd (o := .lst ((L.map fun p => V.ref p.1) ++ (M.map fun p => V.ref p.1))) hlb
      refine ⟨lb, L ++ M, _, rfl, (s2.trans s3).trans s4, (s2.trans s3).free hlb, ⟨by rw [upd_same, List.map_append], fun p hp => ?_⟩, by rw [List.map_append, eL, eM]; rfl⟩
      rcases List.mem_append.mp hp with h | h
      · exact Same.sqT (s3.trans s4) (hL.each p h)
      · exact Same.sqT s4 (hM p h)
    · rintro σ H2 ⟨la, L, v3, rfl, s2, hla, hL, eL⟩
      exact ⟨_, rfl, q la L H2 s2 hla hL eL⟩
end
end Ft

set_option Elab.async false
set_option linter.all false
set_option maxRecDepth 100000
set_option maxHeartbeats 8000000
namespace Ft
open PySem PySem.Spec PyProof.Rows L2
theorem ones_dp {K : PySem.W.Frag} {H : Hp} : ∀ {Z : List Addr}, (∀ z ∈ Z, ∃ s m b S M, OneAt H z s m b S M) → ∃ ds : List PyData, DpAll K H (Z.map V.ref) ds ∧ (∀ d ∈ ds, d.canLay0 = true ∧ d.depth ≤ 2)
  | [], _ => ⟨[], .nil, fun _ h => nomatch h⟩
  | z :: Z, h => by
    obtain ⟨ds, h1, h2⟩ := ones_dp (K := K) fun y hy => h y (List.mem_cons_of_mem _ hy)
    obtain ⟨s, m, b, S, M, o⟩ := h z List.mem_cons_self
    refine ⟨.list [.bool b, .list (S.map nD), .list (M.map nD)] :: ds, .cons (.lst (.inl (.inl o.top)) (.cons (.bl b) (.cons (.lst (.inl (.inl o.st)) (dp_nats S)) (.cons (.lst (.inl (.inl o.mv)) (dp_nats M)) .nil)))) h1, fun d hd => ?_⟩
    rcases List.mem_cons.mp hd with rfl | hd
    · have c : ∀ A : List Nat, (PyData.list (A.map nD)).canLay0 = true := fun A => by
        simp only [PyData.canLay0]
        refine can_all.mpr fun e he => ?_
        obtain ⟨x, _, rfl⟩ := List.mem_map.mp he
        rfl
      have dd : ∀ A : List Nat, (PyData.list (A.map nD)).depth ≤ 1 := fun A => by
        simp only [PyData.depth]
        have := depth_all (n := 0) (ds := A.map nD) fun e he => by
          obtain ⟨x, _, rfl⟩ := List.mem_map.mp he
          exact Nat.le_refl _
        omega
      constructor
      · show PyData.canLay0 (.list [.bool b, .list (S.map nD), .list (M.map nD)]) = true
        rw [PyData.canLay0]
        refine can_all.mpr fun e he => ?_
        simp only [List.mem_cons, List.not_mem_nil, or_false] at he
        rcases he with rfl | rfl | rfl
        · rfl
        · exact c S
        · exact c M
      · show PyData.depth (.list [.bool b, .list (S.map nD), .list (M.map nD)]) ≤ 2
        rw [PyData.depth]
        have := depth_all (n := 1) (ds := [.bool b, .list (S.map nD), .list (M.map nD)]) fun e he => by
          simp only [List.mem_cons, List.not_mem_nil, or_false] at he
          rcases he with rfl | rfl | rfl
          · exact Nat.zero_le _
          · exact dd S
          · exact dd M
        omega
    · exact h2 d hd
theorem natsV_shaped (F : List Nat) : SeqAt.shaped (.list (F.map nD)) = true := by
  have : F.map nD = (iN F).map .int := by unfold iN; rw [List.map_map]; rfl
  rw [this]
  exact ints_shaped _
theorem ones_shaped {ds : List PyData} (h : ∀ d ∈ ds, d.canLay0 = true ∧ d.depth ≤ 2) : SeqAt.shaped (.list ds) = true := by
  refine shaped_iff.mpr ⟨?_, ?_⟩
  · rw [PyData.canLay0]
    exact can_all.mpr fun e he => (h e he).1
  · rw [PyData.depth]
    have := depth_all (n := 2) (ds := ds) fun e he => (h e he).2
    omega
/-- what one start tells past one lot, off some addresses -/
def OneX (C : Chart) (H : Hp) (ex : List Addr) (z : Addr) (T : List Nat) (a : Nat) : Prop := ∃ s m b, OneAt H z s m b (stopsL C T [a]) (movedL C T [a]) ∧ (b = true ↔ MissP C T [a]) ∧ z ∉ ex ∧ s ∉ ex ∧ m ∉ ex
theorem OneX.kp {C : Chart} {H H' : Hp} {ex : List Addr} (k : Kp ex H H') {z : Addr} {T : List Nat} {a : Nat} : OneX C H ex z T a → OneX C H' ex z T a
  | ⟨s, m, b, o, i, h1, h2, h3⟩ => ⟨s, m, b, ⟨k _ _ h1 o.top, k _ _ h2 o.st, k _ _ h3 o.mv⟩, i, h1, h2, h3⟩
theorem OneX.same {C : Chart} {H H' : Hp} {ex : List Addr} (k : Same H H') {z : Addr} {T : List Nat} {a : Nat} : OneX C H ex z T a → OneX C H' ex z T a
  | ⟨s, m, b, o, i, h⟩ => ⟨s, m, b, o.same k, i, h⟩
theorem OneX.less {C : Chart} {H : Hp} {ex ex' : List Addr} (sub : ∀ x ∈ ex', x ∈ ex) {z : Addr} {T : List Nat} {a : Nat} : OneX C H ex z T a → OneX C H ex' z T a
  | ⟨s, m, b, o, i, h1, h2, h3⟩ => ⟨s, m, b, o, i, fun h => h1 (sub _ h), fun h => h2 (sub _ h), fun h => h3 (sub _ h)⟩
/-- what one start tells past all lots -/
def RowX (C : Chart) (H : Hp) (ex : List Addr) (l : Addr) (Ts : List (List Nat)) (a : Nat) : Prop := l ∉ ex ∧ ∃ zs : List Addr, H l = some (.lst (zs.map V.ref)) ∧ zs.length = Ts.length ∧ ∀ (i : Nat) (z : Addr) (T : List Nat), zs[i]? = some z → Ts[i]? = some T → OneX C H ex z T a
theorem RowX.kp {C : Chart} {H H' : Hp} {ex : List Addr} (k : Kp ex H H') {l : Addr} {Ts : List (List Nat)} {a : Nat} : RowX C H ex l Ts a → RowX C H' ex l Ts a
  | ⟨n, zs, h1, h2, h3⟩ => ⟨n, zs, k _ _ n h1, h2, fun i z T e1 e2 => (h3 i z T e1 e2).kp k⟩
theorem RowX.same {C : Chart} {H H' : Hp} {ex : List Addr} (k : Same H H') {l : Addr} {Ts : List (List Nat)} {a : Nat} : RowX C H ex l Ts a → RowX C H' ex l Ts a
  | ⟨n, zs, h1, h2, h3⟩ => ⟨n, zs, k _ _ h1, h2, fun i z T e1 e2 => (h3 i z T e1 e2).same k⟩
/-- those of a row that hold -/
def KeptAt (C : Chart) (k : Nat) (G : List Nat) (j : Nat) (zs : List Addr) (H7 H' : Hp) (kp : Addr) (y : Nat) : Prop := Kp [kp] H7 H' ∧ ∃ Z : List Addr, H' kp = some (.lst (Z.map V.ref)) ∧ Z.length ≤ y ∧ (∀ z ∈ Z, z ∈ zs) ∧
  (Z = [] ↔ ∀ (x : Nat) (T : List Nat), x < y → (lotsF k C.n)[x]? = some T → MissP C T [j] ∨ ∃ w ∈ stopsL C T [j], w ∈ G)
structure SinglesAt (C : Chart) (H : Hp) (sg : Addr) (rows : List Addr) (Ts : List (List Nat)) : Prop where
  top : H sg = some (.lst (rows.map V.ref))
  len : rows.length = C.n
  each : ∀ a l, rows[a]? = some l → RowX C H [] l Ts a
theorem SinglesAt.same {C : Chart} {H H' : Hp} (k : Same H H') {sg : Addr} {rows : List Addr} {Ts : List (List Nat)} (h : SinglesAt C H sg rows Ts) : SinglesAt C H' sg rows Ts := ⟨k _ _ h.top, h.len, fun a l e => (h.each a l e).same k⟩
section
variable {P : Program} {w : World} {K : PySem.W.Frag} {mg : Str → Option Value} {base : Heap}
/-! ### _law_game_lost -/
def sp_law_game_lost (K : PySem.W.Frag) : Sp := fun vs H Q _ => ∃ (c g : Addr) (C : Chart) (k : Nat) (hd cm fs lt : Addr) (hs cs ts : List Addr), vs = [.ref c, .ref g, vN k] ∧ IsChart K H c C ∧ C.Ok ∧ C.n ≤ 9 ∧ k ≤ 60 ∧ (1 + C.n) * C.roads.length ≤ 1000 ∧ Ground K H C g hd cm fs lt hs cs ts ∧
  ∀ (ls : Addr) (G : List Nat) (H' : Hp), Same H H' → H ls = none → H' ls = some (.lst (G.map vN)) → Lost C k G → Q (.ref ls) H'
theorem cal_law_game_lost (T : Txt mg) (D : Def K mg "_law_game_lost" s_law_game_lost) (c_law_bound_lots : Cal P w K mg base 1 "_law_bound_lots" (sp_law_bound_lots K)) (c_law_bound_single : Cal P w K mg base 1 "_law_bound_single" (sp_law_bound_single K)) : Cal P w K mg base 2 "_law_game_lost" (sp_law_game_lost K) := by
  refine cal_of D sc_law_game_lost (fun _ _ _ _ _ _ us hl => match us, hl with | [_, _, _], _ => rfl) (fun vs H Q E h => ?_) (fun f cdv A outer s H vs Q E hr h => ?_)
  · obtain ⟨c, g, C, k, hd, cm, fs, lt, hs, cs, ts, rfl, _⟩ := h
    rfl
  · obtain ⟨c, g, C, k, hd, cm, fs, lt, hs, cs, ts, rfl, hCC, ok, n9, k60, many, hG, q⟩ := h
    have hU := hr.units
    obtain ⟨r, wd, ts0, hC⟩ := id hCC
    refine ⟨_, (pss_cons (ps_asg (pe_tup (pa_cons (pe_c c_law_bound_lots hr (by decide) (by rfl) (pa_cons (pe_ix (show IxR _ (rIxT K) from ix_tup) (pv 0) pe_int (fun _ _ => rfl)) (pa_cons (pv 2) pa_nil))) (pa_cons (pe_lst pa_nil) pa_nil))) (show PG _ _ (gTup K 2 _) from pg_tup (by rfl) (pgs_cons (pg_name (i := 3) sc_law_game_lost.nd rfl (Or.inr rfl)) (pgs_cons (pg_name (i := 4) sc_law_game_lost.nd rfl (Or.inr rfl)) pgs_nil))))
      (pss_cons (ps_setLc (i := 5) (own := [("a", 8)]) rfl sc_law_game_lost.nd rfl rfl (sw_true rfl rfl rfl (by decide +kernel)) (pi_range1 (by rfl) T.range (pa_cons (pe_ix (show IxR _ (rIxT K) from ix_tup) (pv 0) pe_int (fun _ _ => rfl)) pa_nil)) (blkOk_by (N := ["chart", "ground", "k", "lots", "lost", "single", "turn", "fresh", "a", "kept", "traps", "one", "w"]) (sc := L2.defScope s_law_game_lost) (by decide +kernel)) (fun _ _ _ _ _ => (pg_name (i := 8) sc_law_game_lost.nd rfl (Or.inr rfl))) (fun _ _ _ _ _ => pts_nil) (fun _ _ _ _ _ => (pe_lc (own := [("traps", 10)]) rfl sc_law_game_lost.nd (show PI _ _ _ (iList K _) from pi_list (pv 3)) (blkIn (N := ["chart", "ground", "k", "lots", "lost", "single", "turn", "fresh", "a", "kept", "traps", "one", "w"]) (sc := L2.defScope s_law_game_lost) rfl (by decide +kernel)) (fun _ _ _ _ _ => (pg_name (i := 10) sc_law_game_lost.nd rfl (Or.inl rfl))) (fun _ _ _ _ _ => pts_nil) (fun _ _ _ _ _ => (pe_c c_law_bound_single hr (by decide) (by rfl) (pa_cons (pv 0) (pa_cons (pv 1) (pa_cons (pv 10) (pa_cons (pe_lst (pa_cons (pv 8) pa_nil)) pa_nil)))))))))
      (pss_cons (ps_for PassesOwn.never rfl (pi_range1 (by rfl) T.range (pa_cons (pe_op op_add (pe_ix (show IxR _ (rIxT K) from ix_tup) (pv 0) pe_int (fun _ _ => rfl)) pe_int) pa_nil)) (pg_name (i := 6) sc_law_game_lost.nd rfl (Or.inl rfl)) (pss_cons (ps_set (i := 7) sc_law_game_lost.nd rfl (Or.inl rfl) (pe_lst pa_nil))
        (pss_cons (ps_for PassesOwn.never rfl (pi_range1 (by rfl) T.range (pa_cons (pe_ix (show IxR _ (rIxT K) from ix_tup) (pv 0) pe_int (fun _ _ => rfl)) pa_nil)) (pg_name (i := 8) sc_law_game_lost.nd rfl (Or.inl rfl)) (pss_cons (ps_setLc (i := 9) (own := [("one", 11)]) rfl sc_law_game_lost.nd rfl rfl (sw_true rfl rfl rfl (by decide +kernel)) (show PI _ _ _ (iList K _) from pi_list (pe_ix (show IxR _ (rIxL K) from ix_list) (pv 5) (pv 8) (fun _ _ => rfl))) (blkOk_by (N := ["chart", "ground", "k", "lots", "lost", "single", "turn", "fresh", "a", "kept", "traps", "one", "w"]) (sc := L2.defScope s_law_game_lost) (by decide +kernel)) (fun _ _ _ _ _ => (pg_name (i := 11) sc_law_game_lost.nd rfl (Or.inl rfl))) (fun _ _ _ _ _ => pts_one (PW.pt (pw_and (pt_not (pt_val (pe_ix (show IxR _ (rIxL K) from ix_list) (pv 11) pe_int (fun _ _ => rfl)))) (pw_and1 (pt_cmpR (show OpR _ _ (rEqD K) from op_eqD hU) (pe_lc (own := [("w", 12)]) rfl sc_law_game_lost.nd (show PI _ _ _ (iList K _) from pi_list (pe_ix (show IxR _ (rIxL K) from ix_list) (pv 11) pe_int (fun _ _ => rfl))) (blkIn (N := ["chart", "ground", "k", "lots", "lost", "single", "turn", "fresh", "a", "kept", "traps", "one", "w"]) (sc := L2.defScope s_law_game_lost) rfl (by decide +kernel)) (fun _ _ _ _ _ => (pg_name (i := 12) sc_law_game_lost.nd rfl (Or.inl rfl))) (fun _ _ _ _ _ => pts_one (pt_cmpR (show OpR _ _ (rIn K false) from op_in_seq) (pv 12) (pv 4) (by rfl))) (fun _ _ _ _ _ => (pv 12))) (pe_lst pa_nil) (nomark _)))))) (fun _ _ _ _ _ => (pv 11)))
          (pss_one (ps_if (PW.pt (pw_and (pt_cmpR (show OpR _ _ (rEqD K) from op_eqD hU) (pv 9) (pe_lst pa_nil) (nomark _)) (pw_and1 (pt_cmpR (show OpR _ _ (rIn K true) from op_notIn_seq) (pv 8) (pv 4) (by rfl))))) (pss_one (ps_expr (pe_bm PySem.F.plainAttrs_list PySem.F.slot_list_append PySem.F.type_list_append mt_append (pv 7) (pa_cons (pv 8) pa_nil)))) pss_nil))))
        (pss_cons (ps_if (pt_cmpR (show OpR _ _ (rEqD K) from op_eqD hU) (pv 7) (pe_lst pa_nil) (nomark _)) (pss_one ps_break) pss_nil)
        (pss_one (ps_set (i := 4) sc_law_game_lost.nd rfl (Or.inr rfl) (pe_op op_cat (pv 4) (pv 7))))))))
      (pss_one (ps_ret (pv 4)))))), ?_⟩
    have e0 : ∀ i : Nat, (0 : Int) + (i : Nat) = (i : Nat) := fun i => by omega
    refine ⟨_, rfl, _, _, _, _, rfl, rfl, hC.top, rfl, _, rfl, C.n, k, rfl, n9, k60, fun la L H1 s1 hla0 hL eL => ⟨Nat.zero_le _, fun lo hlo => ?_⟩⟩
    generalize eH2 : upd H1 lo _ = H2
    have s2 : Same H1 H2 := by rw [← eH2]; exact same_upd hlo
    have hLo2 : H2 lo = some (.lst (([] : List Nat).map vN)) := by rw [← eH2]; exact upd_same
    clear eH2
    refine ⟨by show 2 ≤ sizeLine; decide, fun tp htp => ⟨tp, _, rfl, .inl (.inl upd_same), rfl, _, _, rfl, _, _, rfl, rfl, ?_⟩⟩
    generalize eH3 : upd H2 tp _ = H3
    have s3 : Same H2 H3 := by rw [← eH3]; exact same_upd htp
    clear eH3
    have s03 := (s1.trans s2).trans s3
    have hLo3 := s3 _ _ hLo2
    have hL3 := (hL.same s2).same s3
    have hC3 := hC.same s03
    have lL : L.length ≤ 512 := by
      have h1 : L.length = (lotsF k C.n).length := by rw [← eL, List.length_map]
      have h2 := lotsF_len k C.n
      have h3 : 2 ^ C.n ≤ 2 ^ 9 := Nat.pow_le_pow_right (by decide) n9
      omega
    refine ⟨_, rfl, _, _, _, _, rfl, rfl, hC3.top, rfl, _, rfl, by omega, by omega, fun sg sg0 => ?_⟩
    refine lc_range (lo := 0) (n := C.n) (fun j H' => Kp [sg] H3 H' ∧ ∃ rows : List Addr, H' sg = some (.lst (rows.map V.ref)) ∧ rows.length = j ∧ ∀ a l, rows[a]? = some l → RowX C H' [sg] l (lotsF k C.n) a)
      ⟨(fun b o x e' => by rw [upd_ne (ne_of_none e' sg0)]; exact e'), [], upd_same, rfl, fun a l h => by simp at h⟩ ?_ ?_
    · rintro j H4 hj ⟨k4, rows, hS4, len, each⟩
      have s4 := kp_same sg0 k4
      have s04 := s03.trans s4
      have hL4 := hL3.same s4
      refine ⟨rfl, ?_⟩
      rw [e0]
      refine ⟨_, rfl, la, rfl, ⟨_, .inl (.inl hL4.top)⟩, fun D hD => ?_⟩
      have nsD : sg ≠ D := ne_of_none hS4 hD
      refine lc_list (K := K) (xs := L.map fun p => V.ref p.1) (fun i H' => Kp [D] H4 H' ∧ ∃ zs : List Addr, H' D = some (.lst (zs.map V.ref)) ∧ zs.length = i ∧ ∀ (x : Nat) (z : Addr) (T : List Nat), zs[x]? = some z → (lotsF k C.n)[x]? = some T → OneX C H' [sg, D] z T j)
        ⟨(fun b o x e' => by rw [upd_ne (ne_of_none e' hD)]; exact e'), [], upd_same, rfl, fun x z T h => by simp at h⟩ (fun i H' _ ⟨k', _⟩ => .inl (.inl (kp_same hD k' _ _ hL4.top))) ?_ ?_
      · rintro i x H5 hx ⟨k5, zs, hD5, lz, each5⟩
        obtain ⟨p, hp, rfl⟩ := get_map hx
        have il := (List.getElem?_eq_some_iff.mp hp).1
        have hp2 : (lotsF k C.n)[i]? = some p.2 := by rw [← eL, List.getElem?_map, hp]; rfl
        have s5 := kp_same hD k5
        have s05 := s04.trans s5
        have hP5 := Same.sqT s5 (hL4.each p (List.mem_of_getElem? hp))
        refine ⟨rfl, ?_⟩
        refine ⟨_, rfl, _, rfl, _, rfl, _, rfl, by show 1 ≤ sizeLine; decide, fun t1 ht1 => ?_⟩
        generalize eH6 : upd H5 t1 _ = H6
        have s6 : Same H5 H6 := by rw [← eH6]; exact same_upd ht1
        have hT6 : SqL K H6 t1 ([j].map vN) := by rw [← eH6]; exact .inl (.inl upd_same)
        clear eH6
        have s06 := s05.trans s6
        refine ⟨c, g, p.1, t1, C, hd, cm, fs, lt, hs, cs, ts, p.2, [j], rfl, hCC.same s06, ok, hG.same s06, Same.sqT s6 hP5, hT6, fun a ha => by rw [List.mem_singleton.mp ha]; exact hj, by show 1 ≤ 60; decide, many, fun z s m b H7 s7 z0 m0 n0 mi one => ?_⟩
        have s57 := s6.trans s7
        have hD7 := s57 _ _ hD5
        have hS7 := s57 _ _ (s5 _ _ hS4)
        have al : ∀ {y : Addr}, H6 y = none → y ∉ [sg, D] := fun {y} hy m => by
          simp only [List.mem_cons, List.not_mem_nil, or_false] at m
          rcases m with rfl | rfl
          · rw [s6 _ _ (s5 _ _ hS4)] at hy; cases hy
          · rw [s6 _ _ hD5] at hy; cases hy
        have k8 : ∀ o : HO, Kp [sg, D] H7 (upd H7 D o) := fun o b x nb e => by
          rw [upd_ne (fun z => nb (by rw [z]; simp))]
          exact e
        refine ⟨_, hD7, by rw [List.length_map, sizeLine_eq, lz]; omega, kp_put (k5.trans (Same.kp s57)), zs ++ [z], by rw [upd_same, List.map_append]; rfl, by rw [List.length_append, lz]; rfl, fun x z' T hz hT => ?_⟩
        rcases get_snoc hz with h | ⟨e1, e2⟩
        · exact ((each5 x z' T h hT).same s57).kp (k8 _)
        · rw [e1, lz, hp2] at hT
          cases hT
          rw [← e2]
          exact OneX.kp (k8 _) ⟨s, m, b, one, mi, al z0, al m0, al n0⟩
      rintro H5 ⟨k5, zs, hD5, lz, each5⟩
      rw [List.length_map] at lz
      have s5 := kp_same hD k5
      have hS5 := s5 _ _ hS4
      have k8 : ∀ o : HO, Kp [sg] H5 (upd H5 sg o) := fun o b x nb e => by
        rw [upd_ne (fun z => nb (by rw [z]; simp))]
        exact e
      refine ⟨_, hS5, by rw [List.length_map, len]; exact small1000 (by omega), kp_put (k4.trans (Same.kp s5)), rows ++ [D], by rw [upd_same, List.map_append]; rfl, by rw [List.length_append, len]; rfl, fun a l hl => ?_⟩
      rcases get_snoc hl with h | ⟨e1, e2⟩
      · exact ((each a l h).same s5).kp (k8 _)
      · rw [← e2, e1, len]
        exact RowX.kp (k8 _) ⟨by simp [nsD.symm], zs, hD5, by rw [lz, ← eL, List.length_map], fun i z T h1 h2 => (each5 i z T h1 h2).less (by simp)⟩
    rintro H4 ⟨k4, rows, hS4, len, each4⟩
    have s4 := kp_same sg0 k4
    have hSg : SinglesAt C H4 sg rows (lotsF k C.n) := ⟨hS4, len, fun a l e => by
      obtain ⟨_, zs, h1, h2, h3⟩ := each4 a l e
      exact ⟨List.not_mem_nil, zs, h1, h2, fun i z T e1 e2 => (h3 i z T e1 e2).less (by simp)⟩⟩
    have s04 := s03.trans s4
    have hLo4 := s4 _ _ hLo3
    have hC4 := hC.same s04
    refine at_name ?_
    dsimp only
    refine at_seq ⟨_, rfl, _, _, _, _, rfl, rfl, hC4.top, rfl, _, _, rfl, rfl, _, rfl, by omega, by omega, for_range (lo := 0) (n := C.n + 1) (fun i σ H' => ∃ (ll : Addr) (G : List Nat) (v6 v7 v8 v9 : Option V), σ = [some (.ref c), some (.ref g), some (vN k), some (.ref la), some (.ref ll), some (.ref sg), v6, v7, v8, v9, none, none, none] ∧ Same H4 H' ∧ H ll = none ∧ H' ll = some (.lst (G.map vN)) ∧ G.Nodup ∧ (∀ x, x ∈ G ↔ x ∈ goneL C k i) ∧ i ≤ G.length)
      ⟨lo, [], _, _, _, _, rfl, (fun _ _ e => e), s1.free hlo, hLo4, List.nodup_nil, fun x => Iff.rfl, Nat.le_refl _⟩ ?_ ?_⟩
    · rintro i σ H5 hi ⟨ll, G, v6, v7, v8, v9, rfl, s5, ll0, hLL5, nd, mem, iG⟩
      have ltG : ∀ x ∈ G, x < C.n := fun x hx => goneL_lt ((mem x).mp hx)
      have lG : G.length ≤ C.n := by
        have z := nodup_sub_len G (List.range C.n) nd fun x hx => List.mem_range.mpr (ltG x hx)
        rwa [List.length_range] at z
      refine ⟨Nat.zero_le _, fun fr hfr => ?_⟩
      generalize eH6 : upd H5 fr _ = H6
      have s56 : Same H5 H6 := by rw [← eH6]; exact same_upd hfr
      have hF6 : H6 fr = some (.lst (([] : List Nat).map vN)) := by rw [← eH6]; exact upd_same
      clear eH6
      have hC6 := hC.same ((s04.trans s5).trans s56)
      have keepF : ∀ {H' : Hp}, Kp [fr] H6 H' → Same H5 H' := fun {H'} kk b o e => kk b o (fun m => by rw [List.mem_singleton.mp m, hfr] at e; cases e) (s56 _ _ e)
      refine at_name ?_
      dsimp only
      refine at_seq ⟨_, rfl, _, _, _, _, rfl, rfl, hC6.top, rfl, _, rfl, by omega, by omega, for_range (lo := 0) (n := C.n) (fun j σ H' => ∃ (Fr : List Nat) (v8 v9 : Option V), σ = [some (.ref c), some (.ref g), some (vN k), some (.ref la), some (.ref ll), some (.ref sg), some (.int (0 + (i : Nat))), some (.ref fr), v8, v9, none, none, none] ∧ Kp [fr] H6 H' ∧ H' fr = some (.lst (Fr.map vN)) ∧ Fr.Nodup ∧ Fr.length ≤ j ∧ ∀ x, x ∈ Fr ↔ x < j ∧ x ∉ G ∧ Gone1 C k (unwL C G) x)
        ⟨[], _, _, rfl, (fun b o _ e => e), hF6, List.nodup_nil, Nat.le_refl _, fun x => by simp⟩ ?_ ?_⟩
      · rintro j σ H7 hj ⟨Fr, v8', v9', rfl, k7, hF7, ndF, lF, mF⟩
        have s57 := keepF k7
        have s47 := s5.trans s57
        have hSg7 := hSg.same s47
        have hLL7 := s57 _ _ hLL5
        obtain ⟨l, hl⟩ : ∃ l, rows[j]? = some l := ⟨_, List.getElem?_eq_getElem (by rw [len]; exact hj)⟩
        obtain ⟨_, zs, hZ7, lZ, eachZ⟩ := hSg7.each j l hl
        rw [e0]
        refine ⟨_, rfl, _, rfl, sg, _, _, _, rfl, rfl, .inl (.inl hSg7.top), atI_nat (v := V.ref l) (by rw [List.getElem?_map, hl]; rfl), l, rfl, ⟨_, .inl (.inl hZ7)⟩, fun kp hkp => ?_⟩
        refine lc_list (K := K) (xs := zs.map V.ref) (fun y H' => KeptAt C k G j zs H7 H' kp y)
          ⟨(fun b o x e' => by rw [upd_ne (ne_of_none e' hkp)]; exact e'), [], upd_same, Nat.le_refl _, (fun _ h => nomatch h), ⟨fun _ x T h => absurd h (Nat.not_lt_zero _), fun _ => rfl⟩⟩ (fun y H' _ ⟨k', _⟩ => .inl (.inl (kp_same hkp k' _ _ hZ7))) ?_ ?_
        · rintro y x H8 hx ⟨k8, Z, hK8, lZ', subZ, iff⟩
          obtain ⟨z, hz, rfl⟩ := get_map hx
          have yl := (List.getElem?_eq_some_iff.mp hz).1
          have lz5 : zs.length ≤ 512 := by rw [lZ, ← eL, List.length_map]; exact lL
          obtain ⟨T, hT⟩ : ∃ T, (lotsF k C.n)[y]? = some T := ⟨_, List.getElem?_eq_getElem (by rw [← lZ]; exact yl)⟩
          have s78 := kp_same hkp k8
          obtain ⟨s, m, b, one, mi, _⟩ := (eachZ y z T hz hT).same s78
          have hLL8 := s78 _ _ hLL7
          have no : ∀ {H' : Hp}, Kp [kp] H7 H' → H' kp = some (.lst (Z.map V.ref)) → (MissP C T [j] ∨ ∃ w ∈ stopsL C T [j], w ∈ G) → KeptAt C k G j zs H7 H' kp (y + 1) := fun {H'} kk hK h => by
            refine ⟨kk, Z, hK, by omega, subZ, iff.trans ⟨fun g x T' hx hT' => ?_, fun g x T' hx hT' => g x T' (by omega) hT'⟩⟩
            by_cases e : x = y
            · rw [e, hT] at hT'
              cases hT'
              exact h
            · exact g x T' (by omega) hT'
          have yes : ∀ {H' : Hp}, Kp [kp] H7 H' → H' kp = some (.lst (Z.map V.ref)) → ¬ (MissP C T [j] ∨ ∃ w ∈ stopsL C T [j], w ∈ G) → KeptAt C k G j zs H7 (upd H' kp (.lst (Z.map V.ref ++ [V.ref z]))) kp (y + 1) := fun {H'} kk hK h => by
            refine ⟨kp_put kk, Z ++ [z], by rw [upd_same, List.map_append]; rfl, by rw [List.length_append]; exact Nat.succ_le_succ lZ', fun u hu => ?_, ⟨fun e => ?_, fun g => absurd (g y T (Nat.lt_succ_self _) hT) h⟩⟩
            · rcases List.mem_append.mp hu with hu | hu
              · exact subZ u hu
              · rw [List.mem_singleton.mp hu]
                exact List.mem_of_getElem? hz
            · exact absurd e (by simp)
          refine ⟨rfl, ?_⟩
          refine ⟨_, rfl, _, _, _, _, rfl, rfl, .inl (.inl one.top), rfl, b, rfl, ?_⟩
          cases b with
          | true => exact iteF (no k8 hK8 (.inl (mi.mp rfl)))
          | false =>
            have nm : ¬ MissP C T [j] := fun h => nomatch mi.mpr h
            refine iteT ⟨_, rfl, _, _, _, _, rfl, rfl, .inl (.inl one.top), rfl, s, rfl, ⟨_, .inl (.inl one.st)⟩, fun g2 hg2 => ?_⟩
            have lS : (stopsL C T [j]).length ≤ C.n := those_len _ _
            refine lc_list (K := K) (xs := (stopsL C T [j]).map vN) (fun u H' => Kp [g2] H8 H' ∧ H' g2 = some (.lst ((((stopsL C T [j]).take u).filter fun w => decide (w ∈ G)).map vN)))
              ⟨(fun b o nb e' => by rw [upd_ne (ne_of_none e' hg2)]; exact e'), upd_same⟩ (fun u H' _ ⟨k', _⟩ => .inl (.inl (kp_same hg2 k' _ _ one.st))) ?_ ?_
            · rintro u x H9 hx ⟨k9, hG9⟩
              obtain ⟨w0, hw, rfl⟩ := get_map hx
              have ul := (List.getElem?_eq_some_iff.mp hw).1
              have s89 := kp_same hg2 k9
              have hLL9 := s89 _ _ hLL8
              have lf := List.length_filter_le (fun w => decide (w ∈ G)) ((stopsL C T [j]).take u)
              rw [List.length_take] at lf
              refine ⟨rfl, ?_⟩
              refine ⟨_, rfl, _, rfl, ll, _, rfl, .inl (.inl (.inl hLL9)), rfl, all_vN G, _, rfl, ?_⟩
              show if inV (vN w0) (G.map vN) = true then _ else _
              rw [in_vN]
              by_cases h1 : w0 ∈ G
              · rw [decide_eq_true h1]
                refine iteT ⟨_, rfl, _, hG9, by rw [List.length_map, sizeLine_eq]; omega, kp_put k9, ?_⟩
                rw [upd_same, take_filter hw, decide_eq_true h1, if_pos rfl, List.map_append]
                rfl
              · rw [decide_eq_false h1]
                refine iteF ⟨k9, ?_⟩
                rw [take_filter hw, decide_eq_false h1, if_neg (by simp), List.append_nil]
                exact hG9
            rintro H9 ⟨k9, hG9⟩
            rw [List.length_map, List.take_length] at hG9
            have s89 := kp_same hg2 k9
            refine ⟨Nat.zero_le _, fun z0 hz0 => ?_⟩
            have s910 := same_upd (o := .lst []) hz0
            refine ⟨.list (((stopsL C T [j]).filter fun w => decide (w ∈ G)).map nD), .list [], .lst (.inl (.inl (s910 _ _ hG9))) (dp_nats _), .lst (.inl (.inl upd_same)) .nil, natsV_shaped _, rfl, _, rfl, ?_⟩
            rw [eqv_nil]
            have s810 := s89.trans s910
            have k10 := k8.trans (Same.kp (ex := [kp]) s810)
            have hK10 := s810 _ _ hK8
            generalize upd H9 z0 (.lst []) = H10 at k10 hK10
            have memF : ∀ w, w ∈ ((stopsL C T [j]).filter fun w => decide (w ∈ G)) ↔ w ∈ stopsL C T [j] ∧ w ∈ G := fun w => by
              rw [List.mem_filter, decide_eq_true_eq]
            cases e : ((stopsL C T [j]).filter fun w => decide (w ∈ G)) with
            | nil =>
              rw [e] at memF
              exact iteT ⟨_, rfl, _, hK10, by rw [List.length_map, sizeLine_eq]; omega, yes k10 hK10 fun h => h.elim nm fun ⟨w, h1, h2⟩ => nomatch (memF w).mpr ⟨h1, h2⟩⟩
            | cons w0 F0 =>
              rw [e] at memF
              obtain ⟨h1, h2⟩ := (memF w0).mp List.mem_cons_self
              exact iteF (no k10 hK10 (.inr ⟨w0, h1, h2⟩))
        rintro H8 ⟨k8, Z, hK8, lZ', subZ, iff⟩
        rw [List.length_map, lZ] at iff
        have s78 := kp_same hkp k8
        have gone : Z = [] ↔ Gone1 C k (unwL C G) j := by
          rw [iff, gone_lots ok]
          constructor
          · intro h T hT
            obtain ⟨x, hx⟩ := List.mem_iff_getElem?.mp hT
            exact h x T (List.getElem?_eq_some_iff.mp hx).1 hx
          · exact fun h x T _ hT => h T (List.mem_of_getElem? hT)
        obtain ⟨ds, dp, fine⟩ := ones_dp (K := K) (H := H8) (Z := Z) fun z hz => by
          obtain ⟨x, hx⟩ := List.mem_iff_getElem?.mp (subZ z hz)
          have xl := (List.getElem?_eq_some_iff.mp hx).1
          obtain ⟨T, hT⟩ : ∃ T, (lotsF k C.n)[x]? = some T := ⟨_, List.getElem?_eq_getElem (by rw [← lZ]; exact xl)⟩
          obtain ⟨s, m, b, one, _⟩ := (eachZ x z T hx hT).same s78
          exact ⟨s, m, b, _, _, one⟩
        refine at_name ?_
        dsimp only
        refine ⟨_, rfl, Nat.zero_le _, fun z0 hz0 => ?_⟩
        have s89 := same_upd (o := .lst []) hz0
        refine ⟨.list ds, .list [], .lst (.inl (.inl (s89 _ _ hK8))) (DpAll.same s89 dp), .lst (.inl (.inl upd_same)) .nil, ones_shaped fine, rfl, _, rfl, ?_⟩
        rw [eqv_nil]
        have s79 := s78.trans s89
        generalize upd H8 z0 (.lst []) = H9 at s79
        have eZ : ds.isEmpty = decide (Z = []) := by
          have := dpAll_length dp
          rw [List.length_map] at this
          cases Z with
          | nil =>
            cases ds with
            | nil => rfl
            | cons d ds => cases this
          | cons z Z =>
            cases ds with
            | nil => cases this
            | cons d ds => rfl
        rw [eZ]
        have hF9 := s79 _ _ hF7
        have hLL9 := s79 _ _ hLL7
        have k9 : Kp [fr] H6 H9 := k7.trans (Same.kp s79)
        have skip : ¬ (j ∉ G ∧ Gone1 C k (unwL C G) j) → ∃ (Fr : List Nat) (v8 v9 : Option V), [some (V.ref c), some (.ref g), some (vN k), some (.ref la), some (.ref ll), some (.ref sg), some (.int (0 + (i : Nat))), some (.ref fr), some (.int (j : Nat)), some (.ref kp), none, none, none] = [some (V.ref c), some (.ref g), some (vN k), some (.ref la), some (.ref ll), some (.ref sg), some (.int (0 + (i : Nat))), some (.ref fr), v8, v9, none, none, none] ∧ Kp [fr] H6 H9 ∧ H9 fr = some (.lst (Fr.map vN)) ∧ Fr.Nodup ∧ Fr.length ≤ j + 1 ∧ ∀ x, x ∈ Fr ↔ x < j + 1 ∧ x ∉ G ∧ Gone1 C k (unwL C G) x := fun h => by
          refine ⟨Fr, _, _, rfl, k9, hF9, ndF, by omega, fun x => (mF x).trans ⟨fun g => ⟨by omega, g.2⟩, fun g => ⟨?_, g.2⟩⟩⟩
          have : x ≠ j := fun e => h (e ▸ g.2)
          omega
        by_cases hz : Z = []
        · rw [decide_eq_true hz]
          refine iteT ⟨_, rfl, _, rfl, ll, _, rfl, .inl (.inl (.inl hLL9)), rfl, all_vN G, _, rfl, ?_⟩
          show if (!inV (vN j) (G.map vN)) = true then _ else _
          rw [in_vN]
          by_cases hg : j ∈ G
          · rw [decide_eq_true hg]
            exact iteF (skip fun h => h.1 hg)
          · rw [decide_eq_false hg]
            refine iteT ⟨_, rfl, .inl ⟨rfl, _, .inl (.inl hF9)⟩, _, rfl, fr, _, _, rfl, rfl, hF9, by rw [List.length_map]; exact small1000 (by omega), Fr ++ [j], _, _, rfl, kp_put k9, by rw [upd_same, List.map_append]; rfl, ?_, by rw [List.length_append]; exact Nat.succ_le_succ lF, fun x => ?_⟩
            · rw [List.nodup_append]
              refine ⟨ndF, by simp, fun a ha b hb e => ?_⟩
              have h1 := ((mF a).mp ha).1
              rw [List.mem_singleton.mp hb] at e
              omega
            · rw [List.mem_append, List.mem_singleton, mF x]
              constructor
              · rintro (h | h)
                · exact ⟨by omega, h.2⟩
                · rw [h]
                  exact ⟨Nat.lt_succ_self _, hg, gone.mp hz⟩
              · rintro ⟨h1, h2⟩
                by_cases e : x = j
                · exact .inr e
                · exact .inl ⟨by omega, h2⟩
        · rw [decide_eq_false hz]
          exact iteF (skip fun h => hz (gone.mpr h.2))
      rintro σ H7 ⟨Fr, v8', v9', rfl, k7, hF7, ndF, lF, mF⟩
      have s57 := keepF k7
      have hLL7 := s57 _ _ hLL5
      refine ⟨_, rfl, Nat.zero_le _, fun z0 hz0 => ?_⟩
      have s78 := same_upd (o := .lst []) hz0
      refine ⟨.list (Fr.map nD), .list [], .lst (.inl (.inl (s78 _ _ hF7))) (dp_nats _), .lst (.inl (.inl upd_same)) .nil, natsV_shaped _, rfl, _, rfl, ?_⟩
      rw [eqv_nil]
      have s48 := (s5.trans s57).trans s78
      have hLL8 := s78 _ _ hLL7
      have hF8 := s78 _ _ hF7
      generalize upd H7 z0 (.lst []) = H8 at s48 hLL8 hF8
      cases Fr with
      | nil =>
        refine iteT ?_
        exact ⟨_, rfl, q ll G H8 (s04.trans s48) ll0 hLL8 (lost_end nd mem fun a ha hg hn => nomatch (mF a).mpr ⟨ha, hg, hn⟩)⟩
      | cons f0 Fr =>
        refine iteF ⟨_, rfl, _, rfl, ll, fr, _, _, rfl, rfl, hLL8, hF8, by rw [List.length_map, List.length_map, sizeLine_eq]; omega, fun lb hlb => ?_⟩
        refine ⟨lb, G ++ f0 :: Fr, _, _, _, _, rfl, s48.trans (same_upd hlb), (s04.trans s48).free hlb, by rw [upd_same, List.map_append], ?_, fun x => ?_, by rw [List.length_append, List.length_cons]; omega⟩
        · rw [List.nodup_append]
          exact ⟨nd, ndF, fun a ha b hb e => ((mF b).mp hb).2.1 (e ▸ ha)⟩
        · rw [List.mem_append, mF x, goneL_more, mem x]
          have cg : Gone1 C k (unwL C G) x ↔ Gone1 C k (unwL C (goneL C k i)) x := gone_congr fun y => by rw [unwL_mem, unwL_mem, mem y]
          rw [cg]
          constructor
          · rintro (h | ⟨h1, _, h2⟩)
            · exact ⟨goneL_lt h, .inl h⟩
            · exact ⟨h1, .inr h2⟩
          · rintro ⟨h1, h2⟩
            by_cases h : x ∈ goneL C k i
            · exact .inl h
            · exact .inr ⟨h1, h, h2.resolve_left h⟩
    · rintro σ H5 ⟨ll, G, v6, v7, v8, v9, rfl, s5, ll0, hLL5, nd, mem, iG⟩
      have z := nodup_sub_len G (List.range C.n) nd fun x hx => List.mem_range.mpr (goneL_lt ((mem x).mp hx))
      rw [List.length_range] at z
      omega
end
end Ft

set_option Elab.async false
set_option linter.all false
set_option maxRecDepth 100000
set_option maxHeartbeats 8000000
namespace Ft
open PySem PySem.Spec PyProof.Rows L2
section
variable {P : Program} {w : World} {K : PySem.W.Frag} {mg : Str → Option Value} {base : Heap} {ka ca : Str → Addr}
/-! ### many, near -/
def sp_Flow_many (K : PySem.W.Frag) (ka : Str → Addr) : Sp := fun vs H Q _ => ∃ (f c : Addr) (C : Chart) (S F E : List Nat) (most : Nat), vs = [.ref f] ∧ FlowAt ka K H f c C S F most E ∧ Q (vN E.length) H
theorem calm_Flow_many (T : Txt mg) (D : DefM K ka "Flow" "many" "Flow.many" s_Flow_many) (k_Flow : Kls K mg ka "Flow") (q_Flow : Attrs K ka "Flow" flowFs) : CalM P w K mg base 1 ka "Flow" "many" (sp_Flow_many K ka) := by
  refine calm_of D sc_Flow_many (fun _ _ _ _ _ _ us hl => match us, hl with | [_], _ => rfl) (fun vs H Q E h => ?_) (fun f cdv A outer s H vs Q E hr h => ?_)
  · obtain ⟨f, c, C, S, F, E, most, rfl, _⟩ := h
    rfl
  · obtain ⟨f, c, C, S, F, Ed, most, rfl, ⟨nt, lo, rm, en, cm, bl, tl, rl, fl, ls, room, L, hO, hF, _⟩, q⟩ := h
    have aEnd : NoAttr K (ka "Flow") "ended" := q_Flow _ (by decide)
    refine ⟨_, (pss_one (ps_ret (pe_callB call_lenD (by rfl) T.len (by decide +kernel) (pa_cons (show PE _ _ (tFld K _ _) from pe_fldD (pv 0)) pa_nil)))), ?_⟩
    obtain ⟨dxF, fsF, eF, l1, l2, l3, l4, l5, l6, l7⟩ := hO.ex
    refine ⟨_, rfl, f, _, dxF, fsF, _, rfl, eF, k_Flow.cl, aEnd, l4, en, _, rfl, hF.en, ?_⟩
    have e : V.int (((keysOf (twos Ed)).length : Nat) : Int) = vN Ed.length := by rw [keysOf_len]; unfold twos; rw [List.length_map]; rfl
    show Q (V.int (((keysOf (twos Ed)).length : Nat) : Int)) H
    rw [e]
    exact q
def sp_Flow_near (K : PySem.W.Frag) (ka : Str → Addr) : Sp := fun vs H Q _ => ∃ (f c : Addr) (C : Chart) (S F E : List Nat) (most : Nat), vs = [.ref f] ∧ FlowAt ka K H f c C S F most E ∧ E.length ≤ most ∧ IsChart K H c C ∧ C.Ok ∧ LotsOk C S F ∧
  ∀ t X H', Same H H' → NearSpec C S F E.length X → SqT K H' t ((nextL C X).map vN) → Q (.ref t) H'
theorem calm_Flow_near (T : Txt mg) (D : DefM K ka "Flow" "near" "Flow.near" s_Flow_near) (k_Net : Kls K mg ka "Net") (q_Net : Attrs K ka "Net" netFs) (k_Flow : Kls K mg ka "Flow") (q_Flow : Attrs K ka "Flow" flowFs) (c_leaving : Cal P w K mg base 1 "leaving" sp_leaving) (c_places_next : Cal P w K mg base 1 "places_next" (sp_places_next K)) :
    CalM P w K mg base 2 ka "Flow" "near" (sp_Flow_near K ka) := by
  refine calm_of D sc_Flow_near (fun _ _ _ _ _ _ us hl => match us, hl with | [_], _ => rfl) (fun vs H Q E h => ?_) (fun f cdv A outer s H vs Q E hr h => ?_)
  · obtain ⟨f, c, C, S, F, E, most, rfl, _⟩ := h
    rfl
  · obtain ⟨f, c, C, S, F, Ed, most, rfl, ⟨nt, lo, rm, en, cm, bl, tl, rl, fl, ls, room, L, hO, hF, hL, e60, st⟩, few, hCC, ok, lo2, q⟩ := h
    have hu := hu_of hr
    have n60 := ok.n60
    have aNet : NoAttr K (ka "Flow") "net" := q_Flow _ (by decide)
    have aCame : NoAttr K (ka "Flow") "came" := q_Flow _ (by decide)
    have aCh : NoAttr K (ka "Net") "chart" := q_Net _ (by decide)
    have cl : Closed C S room Ed L := by
      rcases st with ⟨_, h⟩ | h
      · exact h
      · omega
    have spec := near_spec ok lo2 hF.fo e60 cl
    refine ⟨_, (pss_cons (ps_set (i := 1) sc_Flow_near.nd rfl (Or.inl rfl) (show PE _ _ (tFld K _ _) from pe_fldD (show PE _ _ (tFld K _ _) from pe_fldD (pv 0))))
      (pss_one (ps_ret (pe_c c_places_next hr (by decide) (by rfl) (pa_cons (pv 1) (pa_cons (pe_lc (own := [("place", 2)]) rfl sc_Flow_near.nd (pi_range1 (by rfl) T.range (pa_cons (pe_ix (show IxR _ (rIxT K) from ix_tup) (pv 1) pe_int (fun _ _ => rfl)) pa_nil)) (blkOk_by (N := ["self", "chart", "place"]) (sc := L2.defScope s_Flow_near) (by decide +kernel)) (fun _ _ _ _ _ => (pg_name (i := 2) sc_Flow_near.nd rfl (Or.inl rfl))) (fun _ _ _ _ _ => pts_one (pt_cmp (pc_din hu (pe_c c_leaving hr (by decide) (by rfl) (pa_cons (pv 2) pa_nil)) (show PE _ _ (tFld K _ _) from pe_fldD (pv 0))))) (fun _ _ _ _ _ => (pv 2))) pa_nil)))))), ?_⟩
    obtain ⟨dxF, fsF, eF, l1, l2, l3, l4, l5, l6, l7⟩ := hO.ex
    obtain ⟨dxN, fsN, eN, lC⟩ := hF.net.chart
    obtain ⟨r, wd, ts, hC⟩ := id hCC
    refine ⟨_, rfl, f, _, dxF, fsF, _, rfl, eF, k_Flow.cl, aNet, l1, nt, _, dxN, fsN, _, rfl, eN, k_Net.cl, aCh, lC, ?_⟩
    refine at_name ?_
    dsimp only
    refine ⟨_, rfl, _, rfl, _, _, _, _, rfl, rfl, hC.top, rfl, _, rfl, by omega, by omega, fun D hD => ?_⟩
    refine lc_range (lo := 0) (n := C.n) (fun i H' => Kp [D] H H' ∧ H' D = some (.lst (((List.range i).filter fun a => decide (2 * a + 1 ∈ keysT L)).map vN))) ⟨(fun b o nb e' => by rw [upd_ne (ne_of_none e' hD)]; exact e'), upd_same⟩ ?_ ?_
    · rintro i H1 hi ⟨k1, hD1⟩
      have s1 := kp_same hD k1
      have ei : ([V.int (0 + (i : Int))] : List V) = [vN i] := by rw [Int.zero_add]; rfl
      refine ⟨rfl, ?_⟩
      refine ⟨_, rfl, i, ei, by omega, _, rfl, f, _, dxF, fsF, _, rfl, s1 _ _ eF, k_Flow.cl, aCame, l5, cm, _, rfl, DGet.k (k := Sum.inl ((2 * i + 1 : Nat) : Int)) (s1 _ _ hL), _, rfl, ?_⟩
      rw [cameD_val]
      by_cases h : 2 * i + 1 ∈ keysT L
      · rw [decide_eq_true h]
        refine iteT ⟨_, rfl, _, hD1, ?_, kp_put k1, ?_⟩
        · rw [List.length_map, sizeLine_eq]
          have := List.length_filter_le (fun a => decide (2 * a + 1 ∈ keysT L)) (List.range i)
          rw [List.length_range] at this
          omega
        · rw [upd_same, List.range_succ, List.filter_append, List.filter_cons, if_pos (decide_eq_true h), List.filter_nil, List.map_append, Int.zero_add]
          rfl
      · rw [decide_eq_false h]
        refine iteF ⟨k1, ?_⟩
        rw [List.range_succ, List.filter_append, List.filter_cons, if_neg (by rw [decide_eq_false h]; simp), List.filter_nil, List.append_nil]
        exact hD1
    rintro H1 ⟨k1, hD1⟩
    have s1 := kp_same hD k1
    have eX : ((List.range C.n).filter fun a => decide (2 * a + 1 ∈ keysT L)) = those C.n fun a => 2 * a + 1 ∈ keysT L := by
      unfold those
      refine List.filter_congr fun a _ => ?_
      by_cases h : 2 * a + 1 ∈ keysT L
      · rw [decide_eq_true h]
        exact (@decide_eq_true _ (Classical.propDecidable _) h).symm
      · rw [decide_eq_false h]
        exact (@decide_eq_false _ (Classical.propDecidable _) h).symm
    rw [eX] at hD1
    have lX : (those C.n fun a => 2 * a + 1 ∈ keysT L).length ≤ 1000 := by
      have := up_len spec.up spec.lt
      omega
    exact ⟨c, D, C, _, rfl, hCC.same s1, ok, .inl (.inl (.inl hD1)), lX, fun t H2 s2 ht => q t _ H2 (s1.trans s2) spec ht⟩
/-! ### flow_of -/
def sp_flow_of (K : PySem.W.Frag) (ka : Str → Addr) : Sp := fun vs H Q _ => ∃ (c lo fr : Addr) (C : Chart) (S F : List Nat), vs = [.ref c, .ref lo, .ref fr] ∧ IsChart K H c C ∧ C.Ok ∧ SqT K H lo (S.map vN) ∧ SqT K H fr (F.map vN) ∧ S.Nodup ∧ LotsOk C S F ∧ F.length ≤ 60 ∧
  ∀ f H' E, Same H H' → FlowAt ka K H' f c C S F 61 E → E.length ≤ 60 → Q (.ref f) H'
theorem kp_new {H H1 H2 : Hp} {x : Addr} (nx : H x = none) (s : Same H H1) (k : Kp [x] H1 H2) : Same H H2 := same_kp nx s k
/-! ### check_free -/
def spX_check_free (K : PySem.W.Frag) (ca : Str → Addr) : Sp := fun vs H Q E => ∃ (c : Addr) (C : Chart) (v : V) (d : PyData), vs = [.ref c, v] ∧ IsChart K H c C ∧ C.Ok ∧ Dp K H v d ∧ (freeD C d = true → ∀ H', Same H H' → Q .non H') ∧ (freeD C d = false → Raised K ca H E ("BadFree", .int (-1)))
/-! ### pinch -/
/-- what a function of a map, a lot and free places owes -/
def DueLF (K : PySem.W.Frag) (ca : Str → Addr) (H : Hp) (E : XK) (dc dl df : PyData) (ok : Chart → List Nat → List Nat → Prop) : Prop :=
  (∀ x i, mapErr dc = some (x, i) → Raised K ca H E (x, .int i)) ∧ ∀ C, dc = chartD C → C.Ok → (lotOk C.n dl = false → Raised K ca H E ("BadLot", .int (-1))) ∧ (lotOk C.n dl = true → freeD C df = false → Raised K ca H E ("BadFree", .int (-1))) ∧
    ∀ S F, dl = lotD S → df = lotD F → S.Pairwise (· < ·) → F.Pairwise (· < ·) → LotsOk C S F → ok C S F
theorem freeD_lot {C : Chart} {d : PyData} (h : freeD C d = true) : ∃ F, d = lotD F ∧ F.Pairwise (· < ·) ∧ ∀ a ∈ F, a < C.n ∧ a ∉ C.wished := by
  unfold freeD at h
  split at h
  · rename_i ds
    split at h
    · rename_i l hl
      rw [Bool.and_eq_true] at h
      obtain ⟨F, e, up, lt⟩ := lotOk_is h.1
      have e2 := natsL_some hl
      have : F = l := lotD_inj (by rw [← e, e2]; rfl)
      subst this
      refine ⟨F, e, up, fun a ha => ⟨lt a ha, fun m => ?_⟩⟩
      have z := h.2
      rw [Bool.not_eq_true', List.any_eq_false] at z
      exact z a ha (decide_eq_true m)
    · cases h
  · cases h
theorem freeD_of {C : Chart} {F : List Nat} (up : F.Pairwise (· < ·)) (lt : ∀ a ∈ F, a < C.n ∧ a ∉ C.wished) : freeD C (lotD F) = true := by
  unfold freeD lotD
  simp only [natsL_map]
  rw [Bool.and_eq_true]
  refine ⟨lotOk_lot up fun a ha => (lt a ha).1, ?_⟩
  rw [Bool.not_eq_true', List.any_eq_false]
  exact fun a ha h => (lt a ha).2 (of_decide_eq_true h)
def spX_pinch (K : PySem.W.Frag) (ca : Str → Addr) : Sp := fun vs H Q E => ∃ (vc vl vf : V) (dc dl df : PyData), vs = [vc, vl, vf] ∧ Dp K H vc dc ∧ Dp K H vl dl ∧ Dp K H vf df ∧ DueLF K ca H E dc dl df fun C S F =>
  ∀ t X m H', Same H H' → NearSpec C S F m X → SqT K H' t ((nextL C X).map vN) → Q (.ref t) H'
theorem DueLF.valid {H : Hp} {E : XK} {C : Chart} {S F : List Nat} {ok : Chart → List Nat → List Nat → Prop} (o : C.Ok) (inS : ∀ x ∈ S, x < C.n) (upS : S.Pairwise (· < ·)) (inF : ∀ x ∈ F, x < C.n ∧ x ∉ C.wished) (upF : F.Pairwise (· < ·)) (q : ok C S F) : DueLF K ca H E (chartD C) (lotD S) (lotD F) ok := by
  refine ⟨fun x i h => ?_, fun C' ec o' => ?_⟩
  · rw [mapErr_chart o] at h
    cases h
  · have := chartD_inj ec
    subst this
    refine ⟨fun h => ?_, fun _ h => ?_, fun S' F' e1 e2 _ _ _ => ?_⟩
    · rw [lotOk_lot upS inS] at h
      cases h
    · rw [freeD_of upF inF] at h
      cases h
    · rw [← lotD_inj e1, ← lotD_inj e2]
      exact q
def sp_pinch (K : PySem.W.Frag) : Sp := fun vs H Q _ => ∃ (c lo fr : Addr) (C : Chart) (S F : List Nat), vs = [.ref c, .ref lo, .ref fr] ∧ IsChart K H c C ∧ C.Ok ∧ SqT K H lo (S.map vN) ∧ (∀ x ∈ S, x < C.n) ∧ S.Pairwise (· < ·) ∧ SqT K H fr (F.map vN) ∧ (∀ x ∈ F, x < C.n ∧ x ∉ C.wished) ∧ F.Pairwise (· < ·) ∧
  ∀ t X m H', Same H H' → NearSpec C S F m X → SqT K H' t ((nextL C X).map vN) → Q (.ref t) H'
theorem calv_pinch (c_pinch : CalX P w K mg base 7 "pinch" (spX_pinch K ca)) : Cal P w K mg base 7 "pinch" (sp_pinch K) :=
  c_pinch.valid fun vs H Q E ⟨c, lo, fr, C, S, F, e, isC, ok, hS, inS, upS, hF, inF, upF, q⟩ => ⟨_, _, _, _, _, _, e, dp_chart isC, dp_lot hS, dp_lot hF, .valid ok inS upS inF upF q⟩
end
end Ft

set_option Elab.async false
set_option linter.all false
set_option maxRecDepth 100000
set_option maxHeartbeats 8000000
namespace Ft
open PySem PySem.Spec PyProof.Rows L2
theorem many_gone {C : Chart} {F room E : List Nat} {L : List (Nat × Option Nat)} {a k : Nat} (ok : C.Ok) (lo : LotsOk C [a] F) (fo : FlowOk C [a] F room E) (few : E.length ≤ 60) (st : (E.length ≤ k ∧ Closed C [a] room E L) ∨ E.length = k + 1) : k < E.length ↔ Gone1 C k F a := by
  constructor
  · intro h Y rg fr
    have := (region_out ok lo fo rg fr).1
    omega
  · intro h
    rcases st with ⟨le, cl⟩ | e
    · have sp := near_spec ok lo fo few cl
      have := h _ ⟨sp.sub, fun x hx => (sp.inn x hx).imp id fun z => z.1⟩ sp.free
      rw [sp.many] at this
      exact this
    · omega
section
variable {P : Program} {w : World} {K : PySem.W.Frag} {mg : Str → Option Value} {base : Heap} {ka ca : Str → Addr}
/-! ### numbers of traps -/
def sp_traps_number_fits (K : PySem.W.Frag) : Sp := fun vs H Q _ => ∃ (v : V) (d : PyData), vs = [v] ∧ Dp K H v d ∧ Q (.bl (numIn 0 8 d)) H
theorem cal_traps_number_fits (T : Txt mg) (D : Def K mg "traps_number_fits" s_traps_number_fits) (m_MOST_TRAPS : MgI mg "MOST_TRAPS" 8) (c_number_within : Cal P w K mg base 2 "number_within" (sp_number_within K)) : Cal P w K mg base 3 "traps_number_fits" (sp_traps_number_fits K) := by
  refine cal_of D sc_traps_number_fits (fun _ _ _ _ _ _ us hl => match us, hl with | [_], _ => rfl) (fun vs H Q E h => ?_) (fun f cdv A outer s H vs Q E hr h => ?_)
  · obtain ⟨v, d, rfl, _⟩ := h
    rfl
  · obtain ⟨v, d, rfl, hd, q⟩ := h
    refine ⟨_, (pss_one (ps_ret (pe_c c_number_within hr (by decide) (by rfl) (pa_cons (pv 0) (pa_cons pe_int (pa_cons (pe_globI (n := 8) rfl m_MOST_TRAPS) pa_nil)))))), ?_⟩
    exact ⟨_, rfl, v, d, 0, 8, rfl, hd, q⟩
def spX_check_traps_number (K : PySem.W.Frag) (ca : Str → Addr) : Sp := fun vs H Q E => ∃ (v : V) (d : PyData), vs = [v] ∧ Dp K H v d ∧ (numIn 0 8 d = true → Q .non H) ∧ (numIn 0 8 d = false → Raised K ca H E ("BadNumber", d))
theorem cal_check_traps_number (T : Txt mg) (D : Def K mg "check_traps_number" s_check_traps_number) (e_BadNumber : Er P w K mg base ca "BadNumber") (c_traps_number_fits : Cal P w K mg base 3 "traps_number_fits" (sp_traps_number_fits K)) : CalX P w K mg base 4 "check_traps_number" (spX_check_traps_number K ca) := by
  refine calx_of D sc_check_traps_number (fun _ _ _ _ _ _ us hl => match us, hl with | [_], _ => rfl) (fun vs H Q E h => ?_) (fun f cdv A outer s H vs Q E hr h => ?_)
  · obtain ⟨v, d, rfl, _⟩ := h
    rfl
  · obtain ⟨v, d, rfl, hd, q1, q2⟩ := h
    refine ⟨_, (pss_one (ps_if (pt_not (pt_val (pe_c c_traps_number_fits hr (by decide) (by rfl) (pa_cons (pv 0) pa_nil)))) (pss_one (ps_raiseE rfl e_BadNumber hr (by decide) (L2N.takes_of rfl rfl rfl rfl) (by rfl) (pa_cons (pv 0) pa_nil))) pss_nil)), ?_⟩
    refine ⟨_, rfl, v, d, rfl, hd, _, rfl, ?_⟩
    cases e : numIn 0 8 d with
    | true => exact iteF (q1 e)
    | false => exact iteT ⟨_, rfl, _, rfl, fun dd hdd => q2 e dd _ _ (same_upd hdd) upd_same (Dp.same (same_upd hdd) hd)⟩
/-! ### places_going -/
def sp_places_going (K : PySem.W.Frag) (ka : Str → Addr) : Sp := fun vs H Q _ => ∃ (nt g c bl tl rl fl : Addr) (ls : List Addr) (C : Chart) (k : Nat) (R G : List Nat), vs = [.ref nt, vN k, .ref g] ∧ NetAt ka H nt c C bl tl rl fl ls ∧ IsChart K H c C ∧ C.Ok ∧ H g = some (.lst (R.map vN)) ∧ R.length = C.n ∧ (∀ a, a < C.n → (R.getD a 0 = 0 ↔ a ∉ G)) ∧
  ∀ (q : Addr) (U : List Nat) (H' : Hp), Same H H' → H q = none → H' q = some (.lst (U.map vN)) → U.Pairwise (· < ·) → (∀ a, a ∈ U ↔ a < C.n ∧ a ∉ G ∧ Gone1 C k (unwL C G) a) → Q (.ref q) H'
theorem cal_places_going (T : Txt mg) (D : Def K mg "places_going" s_places_going) (k_Net : Kls K mg ka "Net") (q_Net : Attrs K ka "Net" netFs) (k_Flow : Kls K mg ka "Flow") (c_unwished_of : Cal P w K mg base 2 "unwished_of" (sp_unwished_of K)) (w_Flow___init__ : CalM P w K mg base 4 ka "Flow" "__init__" (sp_Flow___init__ K ka)) (w_Flow_many : CalM P w K mg base 1 ka "Flow" "many" (sp_Flow_many K ka)) :
    Cal P w K mg base 6 "places_going" (sp_places_going K ka) := by
  refine cal_of D sc_places_going (fun _ _ _ _ _ _ us hl => match us, hl with | [_, _, _], _ => rfl) (fun vs H Q E h => ?_) (fun f cdv A outer s H vs Q E hr h => ?_)
  · obtain ⟨nt, g, c, bl, tl, rl, fl, ls, C, k, R, G, rfl, _⟩ := h
    rfl
  · obtain ⟨nt, g, c, bl, tl, rl, fl, ls, C, k, R, G, rfl, hN, hCC, ok, hG, lR, zero, q⟩ := h
    have n60 := ok.n60
    have hu := hu_of hr
    have aCh : NoAttr K (ka "Net") "chart" := q_Net _ (by decide)
    refine ⟨_, (pss_cons (ps_set (i := 3) sc_places_going.nd rfl (Or.inr rfl) (pe_lc (own := [("place", 5)]) rfl sc_places_going.nd (show PI _ _ _ (iList K _) from pi_list (pe_c c_unwished_of hr (by decide) (by rfl) (pa_cons (show PE _ _ (tFld K _ _) from pe_fldD (pv 0)) pa_nil))) (blkOk_by (N := ["net", "k", "gone", "free", "here", "place"]) (sc := L2.defScope s_places_going) (by decide +kernel)) (fun _ _ _ _ _ => (pg_name (i := 5) sc_places_going.nd rfl (Or.inl rfl))) (fun _ _ _ _ _ => pts_one (pt_cmpR op_gt (pe_ix (show IxR _ (rIxL K) from ix_list) (pv 2) (pv 5) (fun _ _ => rfl)) pe_int (nomark _))) (fun _ _ _ _ _ => (pv 5))))
      (pss_cons (ps_setLc (i := 4) (own := [("place", 5)]) rfl sc_places_going.nd rfl rfl (sw_true rfl rfl rfl (by decide +kernel)) (pi_range1 (by rfl) T.range (pa_cons (pe_ix (show IxR _ (rIxT K) from ix_tup) (show PE _ _ (tFld K _ _) from pe_fldD (pv 0)) pe_int (fun _ _ => rfl)) pa_nil)) (blkOk_by (N := ["net", "k", "gone", "free", "here", "place"]) (sc := L2.defScope s_places_going) (by decide +kernel)) (fun _ _ _ _ _ => (pg_name (i := 5) sc_places_going.nd rfl (Or.inl rfl))) (fun _ _ _ _ _ => pts_one (pt_cmpR op_eq (pe_ix (show IxR _ (rIxL K) from ix_list) (pv 2) (pv 5) (fun _ _ => rfl)) pe_int (nomark _))) (fun _ _ _ _ _ => (pv 5)))
      (pss_one (ps_ret (pe_lc (own := [("place", 5)]) rfl sc_places_going.nd (show PI _ _ _ (iList K _) from pi_list (pv 4)) (blkOk_by (N := ["net", "k", "gone", "free", "here", "place"]) (sc := L2.defScope s_places_going) (by decide +kernel)) (fun _ _ _ _ _ => (pg_name (i := 5) sc_places_going.nd rfl (Or.inl rfl))) (fun _ _ _ _ _ => pts_one (pt_cmpR op_gt (pe_m0 w_Flow_many k_Flow hr (by decide) (pe_k w_Flow___init__ k_Flow hr (by decide) (by rfl) (pa_cons (pv 0) (pa_cons (pe_tup (pa_cons (pv 5) pa_nil)) (pa_cons (pv 3) (pa_cons (pv 1) pa_nil)))))) (pv 1) (nomark _))) (fun _ _ _ _ _ => (pv 5))))))), ?_⟩
    obtain ⟨dxN, fsN, eN, lC⟩ := hN.chart
    obtain ⟨r, wd, ts, hC⟩ := id hCC
    have rget : ∀ a, a < C.n → (R.map vN)[a]? = some (vN (R.getD a 0)) := fun a ha => by
      rw [List.getElem?_map, List.getD_eq_getElem?_getD, List.getElem?_eq_getElem (by omega)]
      rfl
    refine ⟨_, rfl, nt, _, dxN, fsN, _, rfl, eN, k_Net.cl, aCh, lC, c, C, rfl, hCC, ok, fun uq H1 s1 _ hU1 => ?_⟩
    have lU := up_len (those_up C.n fun x => x ∉ C.wished) fun a h => (those_mem.mp h).1
    have eu : unw C = unw C := rfl
    refine ⟨uq, rfl, ⟨_, .inl (.inl hU1)⟩, fun D1 hD1 => ?_⟩
    have ul : ∀ a ∈ unw C, a < C.n ∧ a ∉ C.wished := fun a ha => by
      unfold unw at ha
      simp only [List.mem_filter, List.mem_range, Bool.not_eq_true', decide_eq_false_iff_not] at ha
      exact ha
    have ulen : (unw C).length ≤ 60 := by
      unfold unw
      exact Nat.le_trans (List.length_filter_le _ _) (by rw [List.length_range]; omega)
    refine lc_list (K := K) (xs := (unw C).map vN) (fun i H' => Kp [D1] H1 H' ∧ H' D1 = some (.lst ((((unw C).take i).filter fun a => !decide (R.getD a 0 = 0)).map vN)))
      ⟨(fun b o nb e' => by rw [upd_ne (ne_of_none e' hD1)]; exact e'), upd_same⟩ (fun i H' _ ⟨k, _⟩ => .inl (.inl (kp_same hD1 k _ _ hU1))) ?_ ?_
    · rintro i x H2 hx ⟨k2, hD2⟩
      obtain ⟨b, hb, rfl⟩ := get_map hx
      have hbn := (ul b (List.mem_of_getElem? hb)).1
      have ib := (List.getElem?_eq_some_iff.mp hb).1
      have lf := List.length_filter_le (fun a => !decide (R.getD a 0 = 0)) ((unw C).take i)
      rw [List.length_take] at lf
      refine ⟨rfl, ?_⟩
      refine ⟨_, rfl, _, rfl, g, _, _, _, rfl, rfl, .inl (.inl (kp_same hD1 k2 _ _ (s1 _ _ hG))), atI_nat (v := vN (R.getD b 0)) (rget b hbn), _, _, rfl, rfl, _, rfl, ite_any (fun hc => ?_) (fun hc => ?_)⟩
      · have ne : R.getD b 0 ≠ 0 := by
          have z : (R.getD b 0 : Int) > 0 := of_decide_eq_true hc
          omega
        refine ⟨_, rfl, _, hD2, by rw [List.length_map, sizeLine_eq]; omega, kp_put k2, ?_⟩
        rw [upd_same, take_filter hb, decide_eq_false ne, if_pos (by simp), List.map_append]
        rfl
      · have e : R.getD b 0 = 0 := by
          have z : ¬ ((R.getD b 0 : Int) > 0) := of_decide_eq_false hc
          omega
        refine ⟨k2, ?_⟩
        rw [take_filter hb, decide_eq_true e, if_neg (by simp), List.append_nil]
        exact hD2
    rintro H2 ⟨k2, hD2⟩
    rw [List.length_map, List.take_length] at hD2
    obtain ⟨F, eF⟩ : ∃ F, ((unw C).filter fun a => !decide (R.getD a 0 = 0)) = F := ⟨_, rfl⟩
    rw [eF] at hD2
    have memF : ∀ x, x ∈ F ↔ x ∈ unwL C G := fun x => by
      rw [← eF, List.mem_filter, unwL_mem]
      unfold unw
      simp only [List.mem_filter, List.mem_range, Bool.not_eq_true', decide_eq_false_iff_not]
      constructor
      · rintro ⟨⟨h1, h2⟩, h3⟩
        exact ⟨h1, h2, Classical.byContradiction fun no => h3 ((zero x h1).mpr no)⟩
      · rintro ⟨h1, h2, h3⟩
        exact ⟨⟨h1, h2⟩, fun e => (zero x h1).mp e h3⟩
    have lF : F.length ≤ 60 := by rw [← eF]; exact Nat.le_trans (List.length_filter_le _ _) ulen
    have inF : ∀ a ∈ F, a < C.n ∧ a ∉ C.wished := fun a ha => by
      rw [← eF, List.mem_filter] at ha
      exact ul a ha.1
    have s2 := s1.trans (kp_same hD1 k2)
    refine at_name ?_
    dsimp only
    refine at_seq ⟨_, rfl, nt, _, dxN, fsN, _, rfl, s2 _ _ eN, k_Net.cl, aCh, lC, _, _, _, _, rfl, rfl, (hC.same s2).top, rfl, _, rfl, by omega, by omega, fun D3 hD3 => ?_⟩
    refine lc_range (lo := 0) (n := C.n) (fun i H' => Kp [D3] H2 H' ∧ H' D3 = some (.lst (((List.range i).filter fun a => decide (R.getD a 0 = 0)).map vN)))
      ⟨(fun b o nb e' => by rw [upd_ne (ne_of_none e' hD3)]; exact e'), upd_same⟩ ?_ ?_
    · rintro i H3 hi ⟨k3, hD3'⟩
      have e0 : (0 : Int) + (i : Nat) = (i : Nat) := by omega
      have lf := List.length_filter_le (fun a => decide (R.getD a 0 = 0)) (List.range i)
      rw [List.length_range] at lf
      refine ⟨rfl, ?_⟩
      rw [e0]
      refine ⟨_, rfl, _, rfl, g, _, _, _, rfl, rfl, .inl (.inl (kp_same hD3 k3 _ _ (s2 _ _ hG))), atI_nat (v := vN (R.getD i 0)) (rget i hi), rfl, _, rfl, ite_any (fun hc => ?_) (fun hc => ?_)⟩
      · have e : R.getD i 0 = 0 := by
          have z : V.int (R.getD i 0 : Int) = V.int 0 := of_decide_eq_true hc
          have := V.int.inj z
          omega
        refine ⟨_, rfl, _, hD3', by rw [List.length_map, sizeLine_eq]; omega, kp_put k3, ?_⟩
        rw [upd_same, List.range_succ, List.filter_append, List.filter_cons, decide_eq_true e, if_pos rfl, List.map_append]
        rfl
      · have ne : R.getD i 0 ≠ 0 := fun e => by
          rw [e] at hc
          exact (of_decide_eq_false hc) rfl
        refine ⟨k3, ?_⟩
        rw [List.range_succ, List.filter_append, List.filter_cons, decide_eq_false ne, if_neg (by simp), List.filter_nil, List.append_nil]
        exact hD3'
    rintro H3 ⟨k3, hD3'⟩
    obtain ⟨Z, eZ⟩ : ∃ Z, ((List.range C.n).filter fun a => decide (R.getD a 0 = 0)) = Z := ⟨_, rfl⟩
    rw [eZ] at hD3'
    have upZ : Z.Pairwise (· < ·) := by rw [← eZ]; exact (range_up C.n).filter _
    have memZ : ∀ a, a ∈ Z ↔ a < C.n ∧ a ∉ G := fun a => by
      rw [← eZ, List.mem_filter, List.mem_range, decide_eq_true_eq]
      exact ⟨fun h => ⟨h.1, (zero a h.1).mp h.2⟩, fun h => ⟨h.1, (zero a h.1).mpr h.2⟩⟩
    have lZ := up_len upZ fun a h => ((memZ a).mp h).1
    have s3 := s2.trans (kp_same hD3 k3)
    have hF3 := (kp_same hD3 k3) _ _ hD2
    refine at_name ?_
    dsimp only
    refine ⟨_, rfl, D3, rfl, ⟨_, .inl (.inl hD3')⟩, fun D4 hD4 => ?_⟩
    refine lc_list (K := K) (xs := Z.map vN) (fun i H' => Kp [D4] H3 H' ∧ ∃ U : List Nat, H' D4 = some (.lst (U.map vN)) ∧ U.length ≤ i ∧ U.Sublist (Z.take i) ∧ ∀ a ∈ Z.take i, (a ∈ U ↔ Gone1 C k (unwL C G) a))
      ⟨(fun b o nb e' => by rw [upd_ne (ne_of_none e' hD4)]; exact e'), [], upd_same, Nat.le_refl _, by simp, fun a h => by simp at h⟩ (fun i H' _ ⟨k, _⟩ => .inl (.inl (kp_same hD4 k _ _ hD3'))) ?_ ?_
    · rintro i x H4 hx ⟨k4, U, hD4', lU4, sub4, mem4⟩
      obtain ⟨b, hb, rfl⟩ := get_map hx
      have ib := (List.getElem?_eq_some_iff.mp hb).1
      have hbm := (memZ b).mp (List.mem_of_getElem? hb)
      have s4 := kp_same hD4 k4
      have s04 := s3.trans s4
      have nbi : b ∉ Z.take i := fun m => by
        obtain ⟨j, hj⟩ := List.getElem?_of_mem m
        rw [List.getElem?_take] at hj
        split at hj
        · rename_i lt
          have := (List.getElem?_inj (by omega) (up_nodup upZ)).mp (hj.trans hb.symm)
          omega
        · cases hj
      refine ⟨rfl, ?_⟩
      refine ⟨_, rfl, _, rfl, by show 1 ≤ sizeLine; decide, fun t1 ht1 => ?_⟩
      generalize eH5 : upd H4 t1 _ = H5
      have s5 : Same H4 H5 := by rw [← eH5]; exact same_upd ht1
      have hT5 : SqT K H5 t1 ([b].map vN) := by rw [← eH5]; exact .inl (.inl upd_same)
      clear eH5
      have s05 := s04.trans s5
      have lo2 : LotsOk C [b] F := ⟨fun a ha => by rw [List.mem_singleton.mp ha]; exact hbm.1, inF⟩
      refine ⟨_, rfl, _, rfl, fun y dy ny ndy ney => ?_⟩
      obtain ⟨hO6, s6⟩ := obj_new (C := ka "Flow") ny ndy ney
      have s06 := s05.trans s6
      have nny : nt ≠ y := ne_of_none (s05 _ _ eN) ny
      refine ⟨y, nt, t1, D1, c, bl, tl, rl, fl, ls, C, [b], F, k, rfl, nny, hO6, hN.same s06, ok, Same.sqT s6 hT5, .inr (s6 _ _ (s5 _ _ (s4 _ _ hF3))), by simp, lo2, lF, fun H7 Ed hFl k7 => ⟨rfl, ?_⟩⟩
      have s7 := kp_new ny s6 k7
      obtain ⟨nt', lo', rm, en, cm, bl', tl', rl', fl', ls', room, L, hO, hFi, _, e60, st⟩ := id hFl
      obtain ⟨dxF, fsF, eFl, _, _, _, _, _, l6, _⟩ := hO.ex
      have mg1 := many_gone ok lo2 hFi.fo e60 st
      refine ⟨y, dxF, fsF, rfl, eFl, l6 _ (by decide), y, c, C, [b], F, Ed, k, rfl, hFl, ?_⟩
      have s57 := s5.trans s7
      have k47 : Kp [D4] H3 H7 := fun z o nz ez => s57 _ _ (k4 z o nz ez)
      have hD7 := s57 _ _ hD4'
      have gc := gone_congr (C := C) (k := k) (a := b) memF
      refine ⟨_, rfl, _, _, rfl, rfl, _, rfl, ite_any (fun hc => ?_) (fun hc => ?_)⟩
      · have gt : k < Ed.length := by
          have z : (Ed.length : Int) > (k : Int) := of_decide_eq_true hc
          omega
        have gone := gc.mp (mg1.mp gt)
        refine ⟨_, rfl, _, hD7, by rw [List.length_map, sizeLine_eq]; omega, kp_put k47, U ++ [b], by rw [upd_same, List.map_append]; rfl, by rw [List.length_append]; exact Nat.succ_le_succ lU4, by rw [take_more hb]; exact sub4.append (List.Sublist.refl _), fun a ha => ?_⟩
        rw [take_more hb] at ha
        rw [List.mem_append, List.mem_singleton]
        rcases List.mem_append.mp ha with h | h
        · have ne : a ≠ b := fun e => nbi (e ▸ h)
          exact ⟨fun z => (mem4 a h).mp (z.resolve_right ne), fun z => .inl ((mem4 a h).mpr z)⟩
        · rw [List.mem_singleton.mp h]
          exact ⟨fun _ => gone, fun _ => .inr rfl⟩
      · have ng : ¬ Gone1 C k (unwL C G) b := fun gone => by
          have := mg1.mpr (gc.mpr gone)
          have z : ¬ ((Ed.length : Int) > (k : Int)) := of_decide_eq_false hc
          omega
        refine ⟨k47, U, hD7, by omega, by rw [take_more hb]; exact sub4.trans (List.sublist_append_left _ _), fun a ha => ?_⟩
        rw [take_more hb] at ha
        rcases List.mem_append.mp ha with h | h
        · exact mem4 a h
        · rw [List.mem_singleton.mp h]
          exact ⟨fun m => absurd (sub4.subset m) nbi, fun z => absurd z ng⟩
    rintro H4 ⟨k4, U, hD4', lU4, sub4, mem4⟩
    rw [List.length_map, List.take_length] at sub4 mem4
    have s4 := kp_same hD4 k4
    refine q D4 U H4 (s3.trans s4) (s3.free hD4) hD4' (upZ.sublist sub4) fun a => ?_
    constructor
    · intro h
      have z := sub4.subset h
      exact ⟨((memZ a).mp z).1, ((memZ a).mp z).2, (mem4 a z).mp h⟩
    · rintro ⟨h1, h2, h3⟩
      exact (mem4 a ((memZ a).mpr ⟨h1, h2⟩)).mpr h3
end
end Ft

set_option Elab.async false
set_option linter.all false
set_option maxRecDepth 100000
set_option maxHeartbeats 8000000
namespace Ft
open PySem PySem.Spec PyProof.Rows L2
theorem numIn_traps {d : PyData} (h : numIn 0 8 d = true) : ∃ k : Nat, d = nD k ∧ k ≤ 8 := by
  obtain ⟨i, rfl, h1, h2⟩ := numIn_is h
  obtain ⟨k, rfl⟩ := Int.eq_ofNat_of_zero_le h1
  exact ⟨k, rfl, by omega⟩
theorem nD_inj {a b : Nat} (h : nD a = nD b) : a = b := by
  unfold nD at h
  injection h with h
  omega
theorem dp_nD {K : PySem.W.Frag} {H : Hp} {v : V} {a : Nat} (h : Dp K H v (nD a)) : v = vN a := dp_int h
theorem goneL_grow {C : Chart} {k : Nat} : ∀ {t : Nat}, (∀ s, s < t → ∃ a, a ∈ goneL C k (s + 1) ∧ a ∉ goneL C k s) → t ≤ (goneL C k t).length
  | 0, _ => Nat.zero_le _
  | t + 1, h => by
    have ih := goneL_grow (t := t) fun s hs => h s (by omega)
    obtain ⟨a, h1, h2⟩ := h t (by omega)
    have := nodup_len_le (l := a :: goneL C k t) (m := goneL C k (t + 1)) (List.nodup_cons.mpr ⟨h2, up_nodup (goneL_up C k t)⟩) fun x hx => (List.mem_cons.mp hx).elim (fun e => e ▸ h1) goneL_sub
    rw [List.length_cons] at this
    omega
section
variable {P : Program} {w : World} {K : PySem.W.Frag} {mg : Str → Option Value} {base : Heap} {ka ca : Str → Addr}
/-! ### rounds_of -/
def sp_rounds_of (K : PySem.W.Frag) (ka : Str → Addr) : Sp := fun vs H Q _ => ∃ (nt c bl tl rl fl : Addr) (ls : List Addr) (C : Chart) (k : Nat), vs = [.ref nt, vN k] ∧ NetAt ka H nt c C bl tl rl fl ls ∧ IsChart K H c C ∧ C.Ok ∧
  ∀ (g : Addr) (R : List Nat) (H' : Hp), Same H H' → H g = none → H' g = some (.lst (R.map vN)) → Ranks C k R → Q (.ref g) H'
theorem cal_rounds_of (T : Txt mg) (D : Def K mg "rounds_of" s_rounds_of) (k_Net : Kls K mg ka "Net") (q_Net : Attrs K ka "Net" netFs) (c_places_going : Cal P w K mg base 6 "places_going" (sp_places_going K ka)) : Cal P w K mg base 7 "rounds_of" (sp_rounds_of K ka) := by
  refine cal_of D sc_rounds_of (fun _ _ _ _ _ _ us hl => match us, hl with | [_, _], _ => rfl) (fun vs H Q E h => ?_) (fun f cdv A outer s H vs Q E hr h => ?_)
  · obtain ⟨nt, c, bl, tl, rl, fl, ls, C, k, rfl, _⟩ := h
    rfl
  · obtain ⟨nt, c, bl, tl, rl, fl, ls, C, k, rfl, hN, hCC, ok, q⟩ := h
    have n60 := ok.n60
    have aCh : NoAttr K (ka "Net") "chart" := q_Net _ (by decide)
    refine ⟨_, (pss_cons (ps_set (i := 2) sc_rounds_of.nd rfl (Or.inl rfl) (pe_op op_rep (pe_lst (pa_cons pe_int pa_nil)) (pe_ix (show IxR _ (rIxT K) from ix_tup) (show PE _ _ (tFld K _ _) from pe_fldD (pv 0)) pe_int (fun _ _ => rfl))))
      (pss_cons (ps_set (i := 3) sc_rounds_of.nd rfl (Or.inl rfl) pe_int)
      (pss_cons (ps_set (i := 4) sc_rounds_of.nd rfl (Or.inl rfl) (pe_c c_places_going hr (by decide) (by rfl) (pa_cons (pv 0) (pa_cons (pv 1) (pa_cons (pv 2) pa_nil)))))
      (pss_cons (ps_while PassesOwn.never (pt_truth (pv 4) (by intro _; rfl)) (pss_cons (ps_for PassesOwn.never rfl (show PI _ _ _ (iList K _) from pi_list (pv 4)) (pg_name (i := 5) sc_rounds_of.nd rfl (Or.inl rfl)) (pss_one (ps_asg (pv 3) (pg_sub (pv 2) (pv 5) set_list))))
        (pss_cons (ps_set (i := 3) sc_rounds_of.nd rfl (Or.inl rfl) (pe_op op_add (pv 3) pe_int))
        (pss_one (ps_set (i := 4) sc_rounds_of.nd rfl (Or.inl rfl) (pe_c c_places_going hr (by decide) (by rfl) (pa_cons (pv 0) (pa_cons (pv 1) (pa_cons (pv 2) pa_nil)))))))))
      (pss_one (ps_ret (pv 2))))))), ?_⟩
    obtain ⟨dxN, fsN, eN, lC⟩ := hN.chart
    obtain ⟨r, wd, ts, hC⟩ := id hCC
    refine ⟨by show 1 ≤ sizeLine; decide, fun l0 hl0 => ?_⟩
    generalize eH1 : upd H l0 _ = H1
    have s1 : Same H H1 := by rw [← eH1]; exact same_upd hl0
    have hL1 : H1 l0 = some (.lst [.int 0]) := by rw [← eH1]; exact upd_same
    clear eH1
    refine ⟨_, rfl, nt, _, dxN, fsN, _, rfl, s1 _ _ eN, k_Net.cl, aCh, lC, _, _, _, _, rfl, rfl, (hC.same s1).top, rfl, l0, _, _, rfl, rfl, hL1, by omega, by omega, by rw [Int.toNat_natCast, sizeLine_eq]; show 1 * C.n ≤ _; omega, fun g hg => ?_⟩
    generalize eH2 : upd H1 g _ = H2
    have s2 : Same H1 H2 := by rw [← eH2]; exact same_upd hg
    have er : (List.replicate (C.n : Int).toNat [V.int 0]).flatten = (List.replicate C.n 0).map vN := by
      rw [Int.toNat_natCast, List.map_replicate]
      generalize C.n = n
      induction n with
      | zero => rfl
      | succ n ih => rw [List.replicate_succ, List.flatten_cons, ih, List.replicate_succ]; rfl
    have hG2 : H2 g = some (.lst ((List.replicate C.n 0).map vN)) := by rw [← eH2, ← er]; exact upd_same
    clear eH2
    have s02 := s1.trans s2
    have g0 : H g = none := s1.free hg
    refine at_name ?_
    dsimp only
    refine at_seq ?_
    refine at_name ?_
    dsimp only
    have zget : ∀ a, (List.replicate C.n 0).getD a 0 = 0 := fun a => by
      rw [List.getD_eq_getElem?_getD, List.getElem?_replicate]
      split <;> rfl
    refine at_seq ⟨_, rfl, _, rfl, _, rfl, nt, g, c, bl, tl, rl, fl, ls, C, k, _, goneL C k 0, rfl, hN.same s02, hCC.same s02, ok, hG2, by rw [List.length_replicate], fun a ha => ⟨fun _ => List.not_mem_nil, fun _ => zget a⟩, fun qg U H3 s3 qg0 hQ3 upU mU => ?_⟩
    have g2ne : qg ≠ g := (ne_of_none hG2 qg0).symm
    refine at_name ?_
    dsimp only
    refine ⟨fun m σ H' => ∃ (t : Nat) (R U : List Nat) (qg : Addr) (v5 : Option V), σ = [some (.ref nt), some (vN k), some (.ref g), some (vN (t + 1)), some (.ref qg), v5] ∧ Kp [g] H2 H' ∧ H' g = some (.lst (R.map vN)) ∧ RanksAt C k t R ∧ qg ≠ g ∧ H' qg = some (.lst (U.map vN)) ∧ U.Pairwise (· < ·) ∧ (∀ a, a ∈ U ↔ a < C.n ∧ a ∉ goneL C k t ∧ Gone1 C k (unwL C (goneL C k t)) a) ∧ (∀ s, s < t → ∃ a, a ∈ goneL C k (s + 1) ∧ a ∉ goneL C k s) ∧ C.n + 1 - t = m,
      ⟨_, 0, _, U, qg, _, rfl, Same.kp s3, s3 _ _ hG2, ⟨by rw [List.length_replicate], fun a ha => ⟨fun _ => List.not_mem_nil, fun _ => zget a⟩, fun a ha s e => by rw [zget] at e; omega⟩, g2ne, hQ3, upU, mU, fun s hs => by omega, rfl⟩, ?_⟩
    clear upU mU hQ3 g2ne qg0
    rintro m σ H4 ⟨t, R, U, qg, v5, rfl, k4, hG4, rk, nqg, hQ4, upU, mU, grow, em⟩
    have tn : t ≤ C.n := Nat.le_trans (goneL_grow grow) (up_len (goneL_up C k t) fun a h => goneL_lt h)
    refine ⟨_, rfl, _, .inl ⟨_, .inl (.inl hQ4), rfl⟩, ?_⟩
    cases U with
    | nil =>
      refine iteF ⟨_, rfl, ?_⟩
      exact q g R H4 (fun b o e => k4 b o (by simpa using ne_of_none e g0) (s02 _ _ e)) g0 hG4 (ranks_end rk tn fun a ha no g1 => nomatch (mU a).mpr ⟨ha, no, g1⟩)
    | cons u U =>
      refine iteT ⟨fun σ' H' => ∃ m', m' < m ∧ ∃ (t : Nat) (R U : List Nat) (qg : Addr) (v5 : Option V), σ' = [some (.ref nt), some (vN k), some (.ref g), some (vN (t + 1)), some (.ref qg), v5] ∧ Kp [g] H2 H' ∧ H' g = some (.lst (R.map vN)) ∧ RanksAt C k t R ∧ qg ≠ g ∧ H' qg = some (.lst (U.map vN)) ∧ U.Pairwise (· < ·) ∧ (∀ a, a ∈ U ↔ a < C.n ∧ a ∉ goneL C k t ∧ Gone1 C k (unwL C (goneL C k t)) a) ∧ (∀ s, s < t → ∃ a, a ∈ goneL C k (s + 1) ∧ a ∉ goneL C k s) ∧ C.n + 1 - t = m', fun _ _ h => h, ?_⟩
      obtain ⟨W, eW⟩ : ∃ W, u :: U = W := ⟨_, rfl⟩
      have uW : u ∈ W := by rw [← eW]; exact List.mem_cons_self
      rw [eW] at hQ4 upU mU
      have grow' : ∀ s, s < t + 1 → ∃ a, a ∈ goneL C k (s + 1) ∧ a ∉ goneL C k s := fun s hs => by
        by_cases h : s < t
        · exact grow s h
        · have : s = t := by omega
          subst this
          obtain ⟨h1, h2, h3⟩ := (mU u).mp uW
          exact ⟨u, goneL_more.mpr ⟨h1, .inr h3⟩, h2⟩
      have tn1 : t + 1 ≤ C.n := Nat.le_trans (goneL_grow grow') (up_len (goneL_up C k (t + 1)) fun a h => goneL_lt h)
      refine ⟨_, rfl, qg, rfl, ⟨_, .inl (.inl hQ4)⟩, for_list (K := K) (xs := W.map vN) (fun i σ H' => ∃ (R' : List Nat) (v5 : Option V), σ = [some (.ref nt), some (vN k), some (.ref g), some (vN (t + 1)), some (.ref qg), v5] ∧ Kp [g] H4 H' ∧ H' g = some (.lst (R'.map vN)) ∧ R'.length = C.n ∧ ∀ a, a < C.n → R'.getD a 0 = if a ∈ W.take i then t + 1 else R.getD a 0)
        ⟨R, _, rfl, Kp.refl _ _, hG4, rk.len, fun a ha => by simp⟩ (fun i σ H' _ ⟨_, _, _, k, _⟩ => .inl (.inl (k _ _ (by simpa using nqg) hQ4))) ?_ ?_⟩
      · rintro i x σ H5 hx ⟨R', v5, rfl, k5, hG5, lR', rel⟩
        obtain ⟨b, hb, rfl⟩ := get_map hx
        have hbn := ((mU b).mp (List.mem_of_getElem? hb)).1
        refine at_name ?_
        refine ⟨_, rfl, _, rfl, _, rfl, g, _, _, b, rfl, rfl, hG5, ixN_nat (by rw [List.length_map]; omega), ?_⟩
        refine ⟨R'.set b (t + 1), _, rfl, kp_put k5, ?_, by rw [List.length_set]; exact lR', fun a ha => ?_⟩
        · rw [upd_same, ← set_vN]
        · rw [getD_set, rel a ha, take_more hb]
          by_cases e : b = a
          · subst e
            rw [if_pos ⟨rfl, by omega⟩, if_pos (by simp)]
          · rw [if_neg (fun z => e z.1)]
            by_cases h : a ∈ W.take i
            · rw [if_pos h, if_pos (List.mem_append_left _ h)]
            · rw [if_neg h, if_neg (fun m => (List.mem_append.mp m).elim h fun z => e (List.mem_singleton.mp z).symm)]
      · rintro σ H5 ⟨R', v5, rfl, k5, hG5, lR', rel⟩
        rw [List.length_map, List.take_length] at rel
        have rk' : RanksAt C k (t + 1) R' := by
          refine ⟨lR', fun a ha => ?_, fun a ha s e => ?_⟩
          · rw [rel a ha, goneL_more]
            by_cases h : a ∈ W
            · obtain ⟨h1, h2, h3⟩ := (mU a).mp h
              rw [if_pos h]
              exact ⟨fun z => by omega, fun z => absurd ⟨h1, .inr h3⟩ z⟩
            · rw [if_neg h, rk.zero a ha]
              refine ⟨fun no z => ?_, fun no z => no ⟨ha, .inl z⟩⟩
              rcases z.2 with y | y
              · exact no y
              · exact h ((mU a).mpr ⟨ha, no, y⟩)
          · rw [rel a ha] at e
            by_cases h : a ∈ W
            · rw [if_pos h] at e
              have : s = t := by omega
              subst this
              obtain ⟨h1, h2, h3⟩ := (mU a).mp h
              exact ⟨by omega, goneL_more.mpr ⟨h1, .inr h3⟩, h2⟩
            · rw [if_neg h] at e
              obtain ⟨h1, h2⟩ := rk.pos a ha s e
              exact ⟨by omega, h2⟩
        have k25 := k4.trans k5
        refine ⟨_, rfl, _, _, rfl, rfl, ?_⟩
        have e1 : V.int (((t + 1 : Nat) : Int) + 1) = vN (t + 1 + 1) := by unfold vN; congr 1
        refine at_name ?_
        dsimp only
        have lg2 : Lists [g] H2 := lists_one hG2
        have ngN : ∀ z ∈ nt :: bl :: tl :: rl :: fl :: ls, z ∉ [g] := fun z hz m => by
          have ez := List.mem_singleton.mp m
          subst ez
          simp only [List.mem_cons] at hz
          have no : ∀ {y : Addr} {o : HO}, H y = some o → z ≠ y := fun e q => by rw [q, e] at g0; cases g0
          rcases hz with h | h | h | h | h | h
          · exact no eN h
          · exact no hN.top h
          · exact no hN.tow h
          · exact no hN.rms h
          · exact no hN.fin h
          · obtain ⟨i, hi⟩ := List.getElem?_of_mem h
            exact no (hN.each i z hi) rfl
        have hN5 : NetAt ka H5 nt c C bl tl rl fl ls := (hN.same s02).kp k25 ngN
        have hC5 : IsChart K H5 c C := (hCC.same s02).keep k25 lg2
        refine ⟨_, rfl, _, rfl, _, rfl, nt, g, c, bl, tl, rl, fl, ls, C, k, R', goneL C k (t + 1), rfl, hN5, hC5, ok, hG5, lR', rk'.zero, fun qn U' H6 s6 qn0 hQ6 upU' mU' => ?_⟩
        refine ⟨C.n + 1 - (t + 1), by omega, t + 1, R', U', qn, v5, ?_, k25.trans (Same.kp s6), s6 _ _ hG5, rk', (ne_of_none hG5 qn0).symm, hQ6, upU', mU', grow', rfl⟩
        rw [← e1]
        rfl
/-! ### checked_rounds, rounds, safe -/
/-- what a function of a map, a number of traps and a place owes -/
def DueKA (K : PySem.W.Frag) (ca : Str → Addr) (H : Hp) (E : XK) (dc dk da : PyData) (ok : Chart → Nat → Nat → Prop) : Prop :=
  (∀ x i, mapErr dc = some (x, i) → Raised K ca H E (x, .int i)) ∧ ∀ C, dc = chartD C → C.Ok → (numIn 0 8 dk = false → Raised K ca H E ("BadNumber", dk)) ∧ (numIn 0 8 dk = true → rngD C.n da = false → Raised K ca H E ("BadPlace", da)) ∧
    ∀ k a, dk = nD k → k ≤ 8 → da = nD a → a < C.n → ok C k a
def DueK (K : PySem.W.Frag) (ca : Str → Addr) (H : Hp) (E : XK) (dc dk : PyData) (ok : Chart → Nat → Prop) : Prop :=
  (∀ x i, mapErr dc = some (x, i) → Raised K ca H E (x, .int i)) ∧ ∀ C, dc = chartD C → C.Ok → (numIn 0 8 dk = false → Raised K ca H E ("BadNumber", dk)) ∧ ∀ k, dk = nD k → k ≤ 8 → ok C k
theorem DueKA.valid {H : Hp} {E : XK} {C : Chart} {k a : Nat} {ok : Chart → Nat → Nat → Prop} (o : C.Ok) (hk : k ≤ 8) (ha : a < C.n) (q : ok C k a) : DueKA K ca H E (chartD C) (nD k) (nD a) ok := by
  refine ⟨fun x i h => ?_, fun C' ec o' => ?_⟩
  · rw [mapErr_chart o] at h
    cases h
  · have := chartD_inj ec
    subst this
    refine ⟨fun h => ?_, fun _ h => ?_, fun k' a' e1 _ e2 _ => ?_⟩
    · rw [numIn_nat.mpr ⟨by omega, by omega⟩] at h
      cases h
    · rw [rngD_nat ha] at h
      cases h
    · rw [← nD_inj e1, ← nD_inj e2]
      exact q
theorem DueK.valid {H : Hp} {E : XK} {C : Chart} {k : Nat} {ok : Chart → Nat → Prop} (o : C.Ok) (hk : k ≤ 8) (q : ok C k) : DueK K ca H E (chartD C) (nD k) ok := by
  refine ⟨fun x i h => ?_, fun C' ec o' => ?_⟩
  · rw [mapErr_chart o] at h
    cases h
  · have := chartD_inj ec
    subst this
    refine ⟨fun h => ?_, fun k' e1 _ => ?_⟩
    · rw [numIn_nat.mpr ⟨by omega, by omega⟩] at h
      cases h
    · rw [← nD_inj e1]
      exact q
def spX_checked_rounds (K : PySem.W.Frag) (ca : Str → Addr) : Sp := fun vs H Q E => ∃ (vc vk va : V) (dc dk da : PyData), vs = [vc, vk, va] ∧ Dp K H vc dc ∧ Dp K H vk dk ∧ Dp K H va da ∧ DueKA K ca H E dc dk da fun C k a =>
  ∀ (g : Addr) (R : List Nat) (H' : Hp), Same H H' → H g = none → H' g = some (.lst (R.map vN)) → Ranks C k R → Q (.ref g) H'
theorem cal_checked_rounds (T : Txt mg) (D : Def K mg "checked_rounds" s_checked_rounds) (k_Net : Kls K mg ka "Net") (c_made_map : CalX P w K mg base 5 "made_map" (spX_made_map K ca)) (c_check_traps_number : CalX P w K mg base 4 "check_traps_number" (spX_check_traps_number K ca)) (c_check_place : CalX P w K mg base 4 "check_place" (spX_check_place K ca)) (c_rounds_of : Cal P w K mg base 7 "rounds_of" (sp_rounds_of K ka))
    (w_Net___init__ : CalM P w K mg base 2 ka "Net" "__init__" (sp_Net___init__ K ka)) : CalX P w K mg base 8 "checked_rounds" (spX_checked_rounds K ca) := by
  refine calx_of D sc_checked_rounds (fun _ _ _ _ _ _ us hl => match us, hl with | [_, _, _], _ => rfl) (fun vs H Q E h => ?_) (fun f cdv A outer s H vs Q E hr h => ?_)
  · obtain ⟨vc, vk, va, dc, dk, da, rfl, _⟩ := h
    rfl
  · obtain ⟨vc, vk, va, dc, dk, da, rfl, hdc, hdk, hda, q1, q2⟩ := h
    refine ⟨_, (pss_cons (ps_expr (pe_x (L2N.takes_of rfl rfl rfl rfl) c_made_map hr (by decide) (by rfl) (pa_cons (pv 0) pa_nil)))
      (pss_cons (ps_expr (pe_x (L2N.takes_of rfl rfl rfl rfl) c_check_traps_number hr (by decide) (by rfl) (pa_cons (pv 1) pa_nil)))
      (pss_cons (ps_expr (pe_x (L2N.takes_of rfl rfl rfl rfl) c_check_place hr (by decide) (by rfl) (pa_cons (pv 0) (pa_cons (pv 2) pa_nil))))
      (pss_one (ps_ret (pe_c c_rounds_of hr (by decide) (by rfl) (pa_cons (pe_k w_Net___init__ k_Net hr (by decide) (by rfl) (pa_cons (pv 0) pa_nil)) (pa_cons (pv 1) pa_nil)))))))), ?_⟩
    refine ⟨_, rfl, vc, dc, rfl, hdc, fun em c C c' H1 ev ec ok s1 _ => ?_, fun x i em => q1 x i em⟩
    subst ev ec
    obtain ⟨qk, qa, qo⟩ := q2 C rfl ok
    obtain ⟨c0, e0, hCC⟩ := chart_dp hdc
    cases e0
    obtain ⟨r, wd, ts, hC⟩ := id hCC
    refine ⟨_, rfl, vk, dk, rfl, Dp.same s1 hdk, fun okK => ?_, fun bad => Raised.same (qk bad) s1⟩
    refine ⟨_, rfl, _, rfl, c, C.n, va, da, r, wd, rfl, (hC.same s1).top, Dp.same s1 hda, fun okA => ?_, fun bad => Raised.same (qa okK bad) s1⟩
    obtain ⟨k, rfl, k8⟩ := numIn_traps okK
    obtain ⟨a, rfl, an⟩ := rngD_is okA
    have ek := dp_nD hdk
    subst ek
    refine ⟨_, rfl, fun x dx nx ndx nex => ?_⟩
    obtain ⟨hO2, s2⟩ := obj_new (C := ka "Net") nx ndx nex
    have s02 := s1.trans s2
    refine ⟨x, c, C, rfl, hO2, hCC.same s02, ok, fun H3 bl tl rl fl ls hN k3 => ⟨rfl, ?_⟩⟩
    have s03 := s1.trans (kp_new nx s2 k3)
    exact ⟨_, rfl, x, c, bl, tl, rl, fl, ls, C, k, rfl, hN, hCC.same s03, ok, fun g R H4 s4 g0 hg rk => qo k a rfl k8 rfl an g R H4 (s03.trans s4) (s03.free g0) hg rk⟩
def spX_rounds (K : PySem.W.Frag) (ca : Str → Addr) : Sp := fun vs H Q E => ∃ (vc vk : V) (dc dk : PyData), vs = [vc, vk] ∧ Dp K H vc dc ∧ Dp K H vk dk ∧ DueK K ca H E dc dk fun C k =>
  ∀ (t : Addr) (R : List Nat) (H' : Hp), Same H H' → SqT K H' t (R.map vN) → Ranks C k R → Q (.ref t) H'
def spX_safe (K : PySem.W.Frag) (ca : Str → Addr) : Sp := fun vs H Q E => ∃ (vc vk va : V) (dc dk da : PyData), vs = [vc, vk, va] ∧ Dp K H vc dc ∧ Dp K H vk dk ∧ Dp K H va da ∧ DueKA K ca H E dc dk da fun C k a =>
  ∀ (b : Bool) (H' : Hp), Same H H' → (b = true ↔ ∀ t, a ∉ goneL C k t) → Q (.bl b) H'
theorem cal_safe (T : Txt mg) (D : Def K mg "safe" s_safe) (c_checked_rounds : CalX P w K mg base 8 "checked_rounds" (spX_checked_rounds K ca)) : CalX P w K mg base 9 "safe" (spX_safe K ca) := by
  refine calx_of D sc_safe (fun _ _ _ _ _ _ us hl => match us, hl with | [_, _, _], _ => rfl) (fun vs H Q E h => ?_) (fun f cdv A outer s H vs Q E hr h => ?_)
  · obtain ⟨vc, vk, va, dc, dk, da, rfl, _⟩ := h
    rfl
  · obtain ⟨vc, vk, va, dc, dk, da, rfl, hdc, hdk, hda, q1, q2⟩ := h
    refine ⟨_, (pss_one (ps_ret (pe_cmpR op_eq (pe_ix (show IxR _ (rIxL K) from ix_list) (pe_x (L2N.takes_of rfl rfl rfl rfl) c_checked_rounds hr (by decide) (by rfl) (pa_cons (pv 0) (pa_cons (pv 1) (pa_cons (pv 2) pa_nil)))) (pv 2) (fun _ _ => rfl)) pe_int (nomark _)))), ?_⟩
    refine ⟨_, rfl, _, rfl, _, rfl, vc, vk, va, dc, dk, da, rfl, hdc, hdk, hda, q1, fun C ec ok => ?_⟩
    obtain ⟨qk, qa, qo⟩ := q2 C ec ok
    refine ⟨qk, qa, fun k a e1 k8 e2 an g R H1 s1 g0 hg rk => ?_⟩
    subst e2
    have ea := dp_nD hda
    subst ea
    have lR := rk.len
    have rget : (R.map vN)[a]? = some (vN (R.getD a 0)) := by
      rw [List.getElem?_map, List.getD_eq_getElem?_getD, List.getElem?_eq_getElem (by omega)]
      rfl
    refine ⟨_, rfl, g, _, _, _, rfl, rfl, .inl (.inl hg), atI_nat rget, rfl, ?_⟩
    refine qo k a e1 k8 rfl an _ H1 s1 ?_
    rw [decide_eq_true_eq, ← rk.zero a an]
    constructor
    · intro h
      have := V.int.inj h
      omega
    · intro h
      rw [h]
      rfl
def sp_safe (K : PySem.W.Frag) : Sp := fun vs H Q _ => ∃ (c : Addr) (C : Chart) (k a : Nat), vs = [.ref c, vN k, vN a] ∧ IsChart K H c C ∧ C.Ok ∧ k ≤ 8 ∧ a < C.n ∧ ∀ (b : Bool) (H' : Hp), Same H H' → (b = true ↔ ∀ t, a ∉ goneL C k t) → Q (.bl b) H'
theorem calv_safe (c_safe : CalX P w K mg base 9 "safe" (spX_safe K ca)) : Cal P w K mg base 9 "safe" (sp_safe K) :=
  c_safe.valid fun vs H Q E ⟨c, C, k, a, e, isC, ok, hk, ha, q⟩ => ⟨_, _, _, _, _, _, e, dp_chart isC, dp_nat k, dp_nat a, .valid ok hk ha q⟩
def sp_rounds (K : PySem.W.Frag) : Sp := fun vs H Q _ => ∃ (c : Addr) (C : Chart) (k : Nat), vs = [.ref c, vN k] ∧ IsChart K H c C ∧ C.Ok ∧ k ≤ 8 ∧ ∀ (t : Addr) (R : List Nat) (H' : Hp), Same H H' → SqT K H' t (R.map vN) → Ranks C k R → Q (.ref t) H'
/-! ### safe_lay -/
def spX_safe_lay (K : PySem.W.Frag) (ca : Str → Addr) : Sp := fun vs H Q E => ∃ (vc vk va : V) (dc dk da : PyData), vs = [vc, vk, va] ∧ Dp K H vc dc ∧ Dp K H vk dk ∧ Dp K H va da ∧ DueKA K ca H E dc dk da fun C k a =>
  ((∃ t, a ∈ goneL C k t) → ∀ H', Same H H' → Q .non H') ∧ ((∀ t, a ∉ goneL C k t) → ∀ (t : Addr) (F X : List Nat) (m : Nat) (H' : Hp), Same H H' → (∀ x, x ∈ F ↔ x < C.n ∧ x ∉ C.wished ∧ ∃ t, x ∈ goneL C k t) → NearSpec C [a] F m X → SqT K H' t ((nextL C X).map vN) → Q (.ref t) H')
theorem cal_safe_lay (T : Txt mg) (D : Def K mg "safe_lay" s_safe_lay) (k_Net : Kls K mg ka "Net") (k_Flow : Kls K mg ka "Flow") (m_MANY : MgI mg "MANY" 61) (c_unwished_of : Cal P w K mg base 2 "unwished_of" (sp_unwished_of K)) (c_checked_rounds : CalX P w K mg base 8 "checked_rounds" (spX_checked_rounds K ca))
    (w_Net___init__ : CalM P w K mg base 2 ka "Net" "__init__" (sp_Net___init__ K ka)) (w_Flow___init__ : CalM P w K mg base 4 ka "Flow" "__init__" (sp_Flow___init__ K ka)) (w_Flow_near : CalM P w K mg base 2 ka "Flow" "near" (sp_Flow_near K ka)) : CalX P w K mg base 9 "safe_lay" (spX_safe_lay K ca) := by
  refine calx_of D sc_safe_lay (fun _ _ _ _ _ _ us hl => match us, hl with | [_, _, _], _ => rfl) (fun vs H Q E h => ?_) (fun f cdv A outer s H vs Q E hr h => ?_)
  · obtain ⟨vc, vk, va, dc, dk, da, rfl, _⟩ := h
    rfl
  · obtain ⟨vc, vk, va, dc, dk, da, rfl, hdc, hdk, hda, q1, q2⟩ := h
    refine ⟨_, (pss_cons (ps_set (i := 3) sc_safe_lay.nd rfl (Or.inr rfl) (pe_x (L2N.takes_of rfl rfl rfl rfl) c_checked_rounds hr (by decide) (by rfl) (pa_cons (pv 0) (pa_cons (pv 1) (pa_cons (pv 2) pa_nil)))))
      (pss_cons (ps_if (pt_cmpR op_gt (pe_ix (show IxR _ (rIxL K) from ix_list) (pv 3) (pv 2) (fun _ _ => rfl)) pe_int (nomark _)) (pss_one (ps_ret pe_non)) pss_nil)
      (pss_cons (ps_setLc (i := 4) (own := [("place", 5)]) rfl sc_safe_lay.nd rfl rfl (sw_true rfl rfl rfl (by decide +kernel)) (show PI _ _ _ (iList K _) from pi_list (pe_c c_unwished_of hr (by decide) (by rfl) (pa_cons (pv 0) pa_nil))) (blkOk_by (N := ["chart", "k", "a", "gone", "free", "place"]) (sc := L2.defScope s_safe_lay) (by decide +kernel)) (fun _ _ _ _ _ => (pg_name (i := 5) sc_safe_lay.nd rfl (Or.inl rfl))) (fun _ _ _ _ _ => pts_one (pt_cmpR op_gt (pe_ix (show IxR _ (rIxL K) from ix_list) (pv 3) (pv 5) (fun _ _ => rfl)) pe_int (nomark _))) (fun _ _ _ _ _ => (pv 5)))
      (pss_one (ps_ret (pe_m0 w_Flow_near k_Flow hr (by decide) (pe_k w_Flow___init__ k_Flow hr (by decide) (by rfl) (pa_cons (pe_k w_Net___init__ k_Net hr (by decide) (by rfl) (pa_cons (pv 0) pa_nil)) (pa_cons (pe_tup (pa_cons (pv 2) pa_nil)) (pa_cons (pv 4) (pa_cons (pe_globI (n := 61) rfl m_MANY) pa_nil))))))))))), ?_⟩
    refine ⟨_, rfl, _, rfl, _, rfl, vc, vk, va, dc, dk, da, rfl, hdc, hdk, hda, q1, fun C ec ok => ?_⟩
    obtain ⟨qk, qa, qo⟩ := q2 C ec ok
    refine ⟨qk, qa, fun k a e1 k8 e2 an g R H1 s1 g0 hg rk => ?_⟩
    subst e2 ec
    have ea := dp_nD hda
    subst ea
    obtain ⟨c, rfl, hCC⟩ := chart_dp hdc
    obtain ⟨qn, qt⟩ := qo k a e1 k8 rfl an
    have n60 := ok.n60
    have lR := rk.len
    have rget : ∀ b, b < C.n → (R.map vN)[b]? = some (vN (R.getD b 0)) := fun b hb => by
      rw [List.getElem?_map, List.getD_eq_getElem?_getD, List.getElem?_eq_getElem (by omega)]
      rfl
    refine at_name ?_
    dsimp only
    refine at_seq ⟨_, rfl, _, rfl, g, _, _, _, rfl, rfl, .inl (.inl hg), atI_nat (rget a an), _, _, rfl, rfl, _, rfl, ite_any (fun hc => ?_) (fun hc => ?_)⟩
    · refine qn (Classical.byContradiction fun no => ?_) H1 s1
      have := (rk.zero a an).mpr fun t m => no ⟨t, m⟩
      have z : (R.getD a 0 : Int) > 0 := of_decide_eq_true hc
      omega
    have safeA : ∀ t, a ∉ goneL C k t := by
      have z : ¬ ((R.getD a 0 : Int) > 0) := of_decide_eq_false hc
      exact (rk.zero a an).mp (by omega)
    refine ⟨_, rfl, c, C, rfl, hCC.same s1, ok, fun uq H2 s2 _ hU2 => ?_⟩
    refine ⟨uq, rfl, ⟨_, .inl (.inl hU2)⟩, fun D1 hD1 => ?_⟩
    have ul : ∀ a ∈ unw C, a < C.n ∧ a ∉ C.wished := fun a ha => by
      unfold unw at ha
      simp only [List.mem_filter, List.mem_range, Bool.not_eq_true', decide_eq_false_iff_not] at ha
      exact ha
    have ulen : (unw C).length ≤ 60 := by
      unfold unw
      exact Nat.le_trans (List.length_filter_le _ _) (by rw [List.length_range]; omega)
    refine lc_list (K := K) (xs := (unw C).map vN) (fun i H' => Kp [D1] H2 H' ∧ H' D1 = some (.lst ((((unw C).take i).filter fun a => !decide (R.getD a 0 = 0)).map vN)))
      ⟨(fun b o nb e' => by rw [upd_ne (ne_of_none e' hD1)]; exact e'), upd_same⟩ (fun i H' _ ⟨k, _⟩ => .inl (.inl (kp_same hD1 k _ _ hU2))) ?_ ?_
    · rintro i x H3 hx ⟨k3, hD3⟩
      obtain ⟨b, hb, rfl⟩ := get_map hx
      have hbn := (ul b (List.mem_of_getElem? hb)).1
      have ib := (List.getElem?_eq_some_iff.mp hb).1
      have lf := List.length_filter_le (fun a => !decide (R.getD a 0 = 0)) ((unw C).take i)
      rw [List.length_take] at lf
      refine ⟨rfl, ?_⟩
      refine ⟨_, rfl, _, rfl, g, _, _, _, rfl, rfl, .inl (.inl (kp_same hD1 k3 _ _ (s2 _ _ hg))), atI_nat (v := vN (R.getD b 0)) (rget b hbn), _, _, rfl, rfl, _, rfl, ite_any (fun hc => ?_) (fun hc => ?_)⟩
      · have ne : R.getD b 0 ≠ 0 := by
          have z : (R.getD b 0 : Int) > 0 := of_decide_eq_true hc
          omega
        refine ⟨_, rfl, _, hD3, by rw [List.length_map, sizeLine_eq]; omega, kp_put k3, ?_⟩
        rw [upd_same, take_filter hb, decide_eq_false ne, if_pos (by simp), List.map_append]
        rfl
      · have e : R.getD b 0 = 0 := by
          have z : ¬ ((R.getD b 0 : Int) > 0) := of_decide_eq_false hc
          omega
        refine ⟨k3, ?_⟩
        rw [take_filter hb, decide_eq_true e, if_neg (by simp), List.append_nil]
        exact hD3
    rintro H3 ⟨k3, hD3⟩
    rw [List.length_map, List.take_length] at hD3
    obtain ⟨F, eF⟩ : ∃ F, ((unw C).filter fun a => !decide (R.getD a 0 = 0)) = F := ⟨_, rfl⟩
    rw [eF] at hD3
    have memF : ∀ x, x ∈ F ↔ x < C.n ∧ x ∉ C.wished ∧ ∃ t, x ∈ goneL C k t := fun x => by
      rw [← eF, List.mem_filter]
      unfold unw
      simp only [List.mem_filter, List.mem_range, Bool.not_eq_true', decide_eq_false_iff_not]
      constructor
      · rintro ⟨⟨h1, h2⟩, h3⟩
        exact ⟨h1, h2, Classical.byContradiction fun no => h3 ((rk.zero x h1).mpr fun t m => no ⟨t, m⟩)⟩
      · rintro ⟨h1, h2, t, h3⟩
        exact ⟨⟨h1, h2⟩, fun e => (rk.zero x h1).mp e t h3⟩
    have lF : F.length ≤ 60 := by rw [← eF]; exact Nat.le_trans (List.length_filter_le _ _) ulen
    have inF : ∀ a ∈ F, a < C.n ∧ a ∉ C.wished := fun a ha => by
      rw [← eF, List.mem_filter] at ha
      exact ul a ha.1
    have s3 := (s1.trans s2).trans (kp_same hD1 k3)
    refine at_name ?_
    dsimp only
    refine ⟨_, rfl, fun x dx nx ndx nex => ?_⟩
    obtain ⟨hO4, s4⟩ := obj_new (C := ka "Net") nx ndx nex
    have s04 := s3.trans s4
    refine ⟨x, c, C, rfl, hO4, hCC.same s04, ok, fun H5 bl tl rl fl ls hN k5 => ⟨rfl, ?_⟩⟩
    have s35 := kp_new nx s4 k5
    have s05 := s3.trans s35
    refine ⟨_, rfl, by show 1 ≤ sizeLine; decide, fun t1 ht1 => ?_⟩
    generalize eH6 : upd H5 t1 _ = H6
    have s6 : Same H5 H6 := by rw [← eH6]; exact same_upd ht1
    have hT6 : SqT K H6 t1 ([a].map vN) := by rw [← eH6]; exact .inl (.inl upd_same)
    clear eH6
    have s06 := s05.trans s6
    have lo2 : LotsOk C [a] F := ⟨fun b hb => by rw [List.mem_singleton.mp hb]; exact an, inF⟩
    refine ⟨_, rfl, fun y dy ny ndy ney => ?_⟩
    obtain ⟨hO7, s7⟩ := obj_new (C := ka "Flow") ny ndy ney
    have s07 := s06.trans s7
    have nny : x ≠ y := by
      obtain ⟨dx', fs', e, _⟩ := hN.ob
      exact ne_of_none (s6 _ _ e) ny
    refine ⟨y, x, t1, D1, c, bl, tl, rl, fl, ls, C, [a], F, 61, rfl, nny, hO7, (hN.same s6).same s7, ok, Same.sqT s7 hT6, .inr (s7 _ _ (s6 _ _ (s35 _ _ hD3))), by simp, lo2, lF, fun H8 Ed hFl k8 => ⟨rfl, ?_⟩⟩
    have s08 := s06.trans (kp_new ny s7 k8)
    obtain ⟨nt', lo', rm, en, cm, bl', tl', rl', fl', ls', room, L, hO, hFi, _, e60, st⟩ := id hFl
    obtain ⟨dxF, fsF, eFl, _, _, _, _, _, l6, _⟩ := hO.ex
    exact ⟨y, dxF, fsF, rfl, eFl, l6 _ (by decide), y, c, C, [a], F, Ed, 61, rfl, hFl, by omega, hCC.same s08, ok, lo2, fun t X H9 s9 sp ht => qt safeA t F X _ H9 (s08.trans s9) memF sp ht⟩
def sp_safe_lay (K : PySem.W.Frag) : Sp := fun vs H Q _ => ∃ (c : Addr) (C : Chart) (k a : Nat), vs = [.ref c, vN k, vN a] ∧ IsChart K H c C ∧ C.Ok ∧ k ≤ 8 ∧ a < C.n ∧
  ((∃ t, a ∈ goneL C k t) → ∀ H', Same H H' → Q .non H') ∧ ((∀ t, a ∉ goneL C k t) → ∀ (t : Addr) (F X : List Nat) (m : Nat) (H' : Hp), Same H H' → (∀ x, x ∈ F ↔ x < C.n ∧ x ∉ C.wished ∧ ∃ t, x ∈ goneL C k t) → NearSpec C [a] F m X → SqT K H' t ((nextL C X).map vN) → Q (.ref t) H')
theorem calv_safe_lay (c_safe_lay : CalX P w K mg base 9 "safe_lay" (spX_safe_lay K ca)) : Cal P w K mg base 9 "safe_lay" (sp_safe_lay K) :=
  c_safe_lay.valid fun vs H Q E ⟨c, C, k, a, e, isC, ok, hk, ha, q⟩ => ⟨_, _, _, _, _, _, e, dp_chart isC, dp_nat k, dp_nat a, .valid ok hk ha q⟩
end
end Ft

set_option Elab.async false
set_option linter.all false
set_option maxRecDepth 100000
set_option maxHeartbeats 8000000
namespace Ft
open PySem PySem.Spec PyProof.Rows L2
section
variable {P : Program} {w : World} {K : PySem.W.Frag} {mg : Str → Option Value} {base : Heap} {t1 t2 : Tok}
/-! ### _law_map_lot -/
def sp_law_map_lot (K : PySem.W.Frag) : Sp := fun vs H Q _ => ∃ (p l c : Addr) (C : Chart), vs = [.ref p, .ref c] ∧ PoolAt H p l ∧ IsChart K H c C ∧ C.Ok ∧ ∀ (t : Addr) (U : List Nat) (H' : Hp), SqT K H' t (U.map vN) → Upto U C.n → PoolAt H' p l → Kp [p, l] H H' → Q (.ref t) H'
/-! ### _law_map_standing -/
def sp_law_map_standing (K : PySem.W.Frag) : Sp := fun vs H Q _ => ∃ (p l c : Addr) (C : Chart) (most : Nat), vs = [.ref p, .ref c, vN most] ∧ PoolAt H p l ∧ IsChart K H c C ∧ C.Ok ∧ 0 < C.n ∧ 0 < most ∧ most ≤ 9 ∧ ∀ (t : Addr) (S : List Nat) (H' : Hp), SqT K H' t (S.map vN) → (∀ x ∈ S, x < C.n) → 1 ≤ S.length → S.length ≤ most → PoolAt H' p l → Kp [p, l] H H' → Q (.ref t) H'
end
end Ft

set_option Elab.async false
set_option linter.all false
set_option maxRecDepth 100000
set_option maxHeartbeats 8000000
namespace Ft
open PySem PySem.Spec PyProof.Rows L2
theorem piece_up' (C : Chart) (a : Nat) : (pieceOf C a).Pairwise (· < ·) := by
  unfold pieceOf
  by_cases hw : a ∈ C.wished
  · rw [if_pos hw]
    exact List.pairwise_singleton _ _
  · rw [if_neg hw]
    exact those_up _ _
section
variable {P : Program} {w : World} {K : PySem.W.Frag} {mg : Str → Option Value} {base : Heap} {t1 t2 : Tok}
/-! ### _law_map_next -/
def sp_law_map_next (K : PySem.W.Frag) : Sp := fun vs H Q _ => ∃ (c lo : Addr) (C : Chart) (S : List Nat), vs = [.ref c, .ref lo] ∧ IsChart K H c C ∧ C.Ok ∧ SqT K H lo (S.map vN) ∧ ∀ (t : Addr) (N : List Nat) (H' : Hp), Same H H' → SqT K H' t (N.map vN) → Upto N C.n → Q (.ref t) H'
/-! ### _law_map_members -/
def sp_law_map_members (K : PySem.W.Frag) : Sp := fun vs H Q _ => ∃ (c tb st : Addr) (C : Chart) (rows : List Addr) (S : List Nat), vs = [.ref c, .ref tb, .ref st] ∧ IsChart K H c C ∧ C.Ok ∧ TabAt H C tb rows ∧ SqT K H st (S.map vN) ∧ (∀ x ∈ S, x < C.n) ∧ S.length ≤ 9 ∧ ∀ q H', Same H H' → SqT K H' q ((membersOf C S).map vN) → Q (.ref q) H'
end
end Ft

set_option Elab.async false
set_option linter.all false
set_option maxRecDepth 100000
set_option maxHeartbeats 8000000
namespace Ft
open PySem PySem.Spec PyProof.Rows L2
/-- the roads of a planted map, before its places are named anew -/
structure Plant (rg wy n : Nat) (prs : List (Nat × Nat)) : Prop where
  kind : ∀ q ∈ prs, (q.1 < rg ∧ q.2 = (q.1 + 1) % rg) ∨ (q.1 < rg ∧ rg ≤ q.2 ∧ q.2 < rg + wy) ∨ (rg ≤ q.1 ∧ q.1 < rg + wy ∧ rg + wy ≤ q.2 ∧ q.2 < n)
  ring : ∀ a, a < rg → (a, (a + 1) % rg) ∈ prs
/-- what a planted map is -/
structure Planted (C : Chart) (rg wy : Nat) (ring wts : List Nat) : Prop where
  to : ∃ (n : Nat) (prs : List (Nat × Nat)) (ws perm : List Nat), perm.Perm (List.range n) ∧ rg + wy ≤ n ∧ Plant rg wy n prs ∧ (∀ a, a ∈ ws ↔ rg + wy ≤ a ∧ a < n) ∧ Named n prs ws perm C ∧ ring.Pairwise (· < ·) ∧ (∀ x, x ∈ ring ↔ ∃ a, a < rg ∧ x = nm perm a) ∧ wts = (List.range wy).map fun k => nm perm (rg + k)
def LotsL (H : Hp) (as : List Addr) (ls : List (List Nat)) : Prop := Paired (fun (a : Addr) (l : List Nat) => H a = some (.lst (l.map vN))) as ls
theorem LotsL.imp {H H' : Hp} : ∀ {as : List Addr} {ls : List (List Nat)}, (∀ a ∈ as, ∀ o, H a = some o → H' a = some o) → LotsL H as ls → LotsL H' as ls
  | _, _, _, .nil => .nil
  | a :: as, _ :: _, h, .cons r t => .cons (h a List.mem_cons_self _ r) (LotsL.imp (fun b hb => h b (List.mem_cons_of_mem _ hb)) t)
theorem LotsL.has {H : Hp} : ∀ {as : List Addr} {ls : List (List Nat)}, LotsL H as ls → ∀ a ∈ as, ∃ l : List Nat, l ∈ ls ∧ H a = some (.lst (l.map vN))
  | _, _, .nil, _, m => nomatch m
  | a :: as, l :: _, .cons r t, b, m => by
    rcases List.mem_cons.mp m with e | m
    · exact ⟨l, List.mem_cons_self, e ▸ r⟩
    · obtain ⟨l', h1, h2⟩ := LotsL.has t b m
      exact ⟨l', List.mem_cons_of_mem _ h1, h2⟩
theorem PoolAt.keep {ex : List Addr} {H H' : Hp} {p l : Addr} (k : Kp ex H H') (n1 : p ∉ ex) (n2 : l ∉ ex) (h : PoolAt H p l) : PoolAt H' p l := by
  obtain ⟨a, b, cs, h1, h2, h3⟩ := h
  exact ⟨a, b, cs, k _ _ n1 h1, k _ _ n2 h2, h3⟩
theorem off2 {p l d z : Addr} (h1 : d ∉ [p, l]) (h2 : z ∉ [p, l]) : p ∉ [d, z] ∧ l ∉ [d, z] := by
  simp only [List.mem_cons, List.not_mem_nil, or_false, not_or] at h1 h2 ⊢
  exact ⟨⟨fun e => h1.1 e.symm, fun e => h2.1 e.symm⟩, ⟨fun e => h1.2 e.symm, fun e => h2.2 e.symm⟩⟩
theorem kp_old {ex0 ex : List Addr} {H H1 H2 : Hp} (k : Kp ex0 H H1) (he : ∀ e ∈ ex, H e = none) (k2 : Kp ex H1 H2) : Kp ex0 H H2 := fun b o nb eb => k2 b o (fun m => by rw [he b m] at eb; cases eb) (k b o nb eb)
theorem nm_inj {perm : List Nat} {n : Nat} (pm : perm.Perm (List.range n)) {a b : Nat} (ha : a < n) (hb : b < n) (e : nm perm a = nm perm b) : a = b := by
  have len : perm.length = n := by rw [pm.length_eq, List.length_range]
  have nd : perm.Nodup := pm.nodup_iff.mpr List.nodup_range
  refine (List.getElem?_inj (by rw [len]; exact ha) nd).mp ?_
  rw [nm_get (by rw [len]; exact ha), nm_get (by rw [len]; exact hb), e]
section
variable {P : Program} {w : World} {K : PySem.W.Frag} {mg : Str → Option Value} {base : Heap} {t1 t2 : Tok}
/-! ### _law_map_planted -/
def sp_law_map_planted (K : PySem.W.Frag) : Sp := fun vs H Q _ => ∃ (p l : Addr) (rg wy bh : Nat), vs = [.ref p, vN rg, vN wy, vN bh] ∧ PoolAt H p l ∧ 0 < rg ∧ rg ≤ 24 ∧ wy ≤ 3 ∧ 0 < bh ∧ bh ≤ 8 ∧
  ∀ (q c ri wa tl : Addr) (C : Chart) (ring wts : List Nat) (H' : Hp), H' q = some (.lst [.ref c, .ref ri, .ref wa, .ref tl]) → IsChart K H' c C → C.Ok → H' ri = some (.lst (ring.map vN)) → H' wa = some (.lst (wts.map vN)) → ring.length = rg → wts.length = wy → ri ∉ [p, l] → wa ∉ [p, l] → Planted C rg wy ring wts → PoolAt H' p l → Kp [p, l] H H' → Q (.ref q) H'
end
end Ft

set_option Elab.async false
set_option linter.all false
set_option maxRecDepth 100000
set_option maxHeartbeats 8000000
namespace Ft
open PySem PySem.Spec PyProof.Rows L2
open LamX (TabB TabS Tabs ExtN CodeO)
section
variable {P : Program} {w : World} {K : PySem.W.Frag} {mg : Str → Option Value} {base : Heap} {ca : Str → Addr}
/-! ### _law_is_whole -/
def sp_law_is_whole (K : PySem.W.Frag) : Sp := fun vs H Q _ => ∃ (v : V) (d : PyData), vs = [v] ∧ Dp K H v d ∧ Q (.bl (isNum d)) H
theorem cal_law_is_whole (T : Txt mg) (D : Def K mg "_law_is_whole" s_law_is_whole) : Cal P w K mg base 1 "_law_is_whole" (sp_law_is_whole K) := by
  refine cal_of D sc_law_is_whole (fun _ _ _ _ _ _ us hl => match us, hl with | [_], _ => rfl) (fun vs H Q E h => ?_) (fun f cdv A outer s H vs Q E hr h => ?_)
  · obtain ⟨v, d, rfl, _⟩ := h
    rfl
  · obtain ⟨v, d, rfl, hd, q⟩ := h
    refine ⟨_, (pss_one (ps_ret (pe_and (pe_callB (show CallR _ _ (rIsi K) from call_isi) (by rfl) T.isinstance (by decide +kernel) (pa_cons (pv 0) (pa_cons (pe_bltn (v := .ty "int") (u := .type "int") (by rfl) T.int (by decide +kernel) rfl) pa_nil))) (pe_one (pe_not (pe_callB (show CallR _ _ (rIsi K) from call_isi) (by rfl) T.isinstance (by decide +kernel) (pa_cons (pv 0) (pa_cons (pe_bltn (v := .ty "bool") (u := .type "bool") (by rfl) T.bool (by decide +kernel) rfl) pa_nil)))))))), ?_⟩
    refine ⟨_, rfl, _, _, _, _, isIntB d, rfl, .ty "int", isi_dp hd, kit_int d, isIntB d, rfl, ?_⟩
    cases e : isIntB d with
    | false =>
      have : isNum d = false := by cases d <;> first | rfl | cases e
      rw [this] at q
      exact iteF q
    | true =>
      refine iteT ?_
      refine ⟨_, rfl, _, _, _, _, isBl d, rfl, .ty "bool", isi_dp hd, kit_bool d, isBl d, rfl, ?_⟩
      have : isNum d = !isBl d := by cases d <;> first | rfl | cases e
      rw [this] at q
      exact q
/-! ### _law_map_row -/
def sp_law_map_row (K : PySem.W.Frag) : Sp := fun vs H Q _ => ∃ (c tb st : Addr) (C : Chart) (rows : List Addr) (S : List Nat), vs = [.ref c, .ref tb, .ref st] ∧ IsChart K H c C ∧ C.Ok ∧ TabAt H C tb rows ∧ SqT K H st (S.map vN) ∧ (∀ x ∈ S, x < C.n) ∧ S.length ≤ 9 ∧ ∀ q H', Same H H' → SqT K H' q ((rowOf C S).map vN) → Q (.ref q) H'
/-! ### _law_stand_wrong -/
def optI' : Option Int → V
  | none => .non
  | some i => .int i
def sp_law_stand_wrong (K : PySem.W.Frag) : Sp := fun vs H Q _ => ∃ (c : Addr) (C : Chart) (v : V) (d : PyData), vs = [.ref c, v] ∧ IsChart K H c C ∧ C.Ok ∧ Dp K H v d ∧ ∀ H', Same H H' → Q (optI' (standErr C.n d)) H'
end
end Ft

set_option Elab.async false
set_option linter.all false
set_option maxRecDepth 100000
set_option maxHeartbeats 8000000
namespace Ft
open PySem PySem.Spec PyProof.Rows L2
section
variable {P : Program} {w : World} {K : PySem.W.Frag} {mg : Str → Option Value} {base : Heap} {ca : Str → Addr}

/-! ### _law_game_laid -/
def sp_law_game_laid (K : PySem.W.Frag) : Sp := fun vs H Q _ => ∃ (c g ls : Addr) (C : Chart) (k a : Nat) (hd cm fs lt : Addr) (hs cs ts : List Addr) (G : List Nat), vs = [.ref c, .ref g, vN k, .ref ls, vN a] ∧ IsChart K H c C ∧ C.Ok ∧ C.n ≤ 9 ∧ k ≤ 8 ∧ (1 + C.n) * C.roads.length ≤ 1000 ∧ Ground K H C g hd cm fs lt hs cs ts ∧
  H ls = some (.lst (G.map vN)) ∧ Lost C k G ∧ a < C.n ∧ ∀ H' : Hp, Same H H' → Q (.bl true) H'
theorem cal_law_game_laid (T : Txt mg) (D : Def K mg "_law_game_laid" s_law_game_laid) (v_safe_lay : Cal P w K mg base 9 "safe_lay" (sp_safe_lay K)) (c_law_is_whole : Cal P w K mg base 1 "_law_is_whole" (sp_law_is_whole K)) (c_law_bound_single : Cal P w K mg base 1 "_law_bound_single" (sp_law_bound_single K)) : Cal P w K mg base 10 "_law_game_laid" (sp_law_game_laid K) := by
  refine cal_of D sc_law_game_laid (fun _ _ _ _ _ _ us hl => match us, hl with | [_, _, _, _, _], _ => rfl) (fun vs H Q E h => ?_) (fun f cdv A outer s H vs Q E hr h => ?_)
  · obtain ⟨c, g, ls, C, k, a, hd, cm, fs, lt, hs, cs, ts, G, rfl, _⟩ := h
    rfl
  · obtain ⟨c, g, ls, C, k, a, hd, cm, fs, lt, hs, cs, ts, G, rfl, hCC, ok, n9, k8, many, hG, hLs, lost, ha, q⟩ := h
    have hU := hr.units
    refine ⟨_, (pss_cons (ps_set (i := 5) sc_law_game_laid.nd rfl (Or.inl rfl) (pe_c v_safe_lay hr (by decide) (by rfl) (pa_cons (pv 0) (pa_cons (pv 2) (pa_cons (pv 4) pa_nil)))))
      (pss_cons (ps_if (pt_cmpR (show OpR _ _ (rIn K false) from op_in_seq) (pv 4) (pv 3) (by rfl)) (pss_one (ps_ret (pe_cmpR op_isN (pv 5) pe_non (nomark _)))) pss_nil)
      (pss_cons (ps_if (PW.pt (pw_or (pt_not (pt_val (pe_callB (show CallR _ _ (rIsi K) from call_isi) (by rfl) T.isinstance (by decide +kernel) (pa_cons (pv 5) (pa_cons (pe_bltn (v := .ty "tuple") (u := .type "tuple") (by rfl) T.tuple (by decide +kernel) rfl) pa_nil))))) (pw_or1 (pt_cmpR op_gt (pe_callB (show CallR _ _ (rLenS K) from call_lenS) (by rfl) T.len (by decide +kernel) (pa_cons (pv 5) pa_nil)) (pv 2) (nomark _))))) (pss_one (ps_ret pe_bl)) pss_nil)
      (pss_cons (ps_if (PW.pt (pw_or (pt_cmpR (show OpR _ _ (rNeD K) from op_neD hU) (pe_lc (own := [("b", 7)]) rfl sc_law_game_laid.nd (show PI _ _ _ (iTup K _) from pi_tup (pv 5)) (blkOk_by (N := ["chart", "ground", "k", "lost", "a", "traps", "one", "b", "w"]) (sc := L2.defScope s_law_game_laid) (by decide +kernel)) (fun _ _ _ _ _ => (pg_name (i := 7) sc_law_game_laid.nd rfl (Or.inl rfl))) (fun _ _ _ _ _ => pts_one (PW.pt (pw_or (pt_not (pt_val (pe_c c_law_is_whole hr (by decide) (by rfl) (pa_cons (pv 7) pa_nil)))) (pw_or1 (pt_not (pt_chain op_le op_lt pe_int (pv 7) (pe_ix (show IxR _ (rIxT K) from ix_tup) (pv 0) pe_int (fun _ _ => rfl)))))))) (fun _ _ _ _ _ => (pv 7))) (pe_lst pa_nil) (nomark _)) (pw_or1 (pt_cmpR (show OpR _ _ (rNeD K) from op_neD hU) (pe_callTy (show CallR _ _ (rListOf K) from call_listOf) (by rfl) T.list (by decide +kernel) (pa_cons (pv 5) pa_nil)) (pe_callB (show CallR _ _ (rSortedSet w) from cr_sortedSet rfl) (by rfl) T.sorted (by decide +kernel) (pa_cons (pe_callTy (show CallR _ _ (rSetN K w) from cr_setN rfl) (by rfl) T.set (by decide +kernel) (pa_cons (pv 5) pa_nil)) pa_nil)) (nomark _))))) (pss_one (ps_ret pe_bl)) pss_nil)
      (pss_cons (ps_set (i := 6) sc_law_game_laid.nd rfl (Or.inl rfl) (pe_c c_law_bound_single hr (by decide) (by rfl) (pa_cons (pv 0) (pa_cons (pv 1) (pa_cons (pv 5) (pa_cons (pe_lst (pa_cons (pv 4) pa_nil)) pa_nil))))))
      (pss_one (ps_ret (pe_and (pe_not (pe_ix (show IxR _ (rIxL K) from ix_list) (pv 6) pe_int (fun _ _ => rfl))) (pe_one (pe_cmpR (show OpR _ _ (rEqD K) from op_eqD hU) (pe_lc (own := [("w", 8)]) rfl sc_law_game_laid.nd (show PI _ _ _ (iList K _) from pi_list (pe_ix (show IxR _ (rIxL K) from ix_list) (pv 6) pe_int (fun _ _ => rfl))) (blkOk_by (N := ["chart", "ground", "k", "lost", "a", "traps", "one", "b", "w"]) (sc := L2.defScope s_law_game_laid) (by decide +kernel)) (fun _ _ _ _ _ => (pg_name (i := 8) sc_law_game_laid.nd rfl (Or.inl rfl))) (fun _ _ _ _ _ => pts_one (pt_cmpR (show OpR _ _ (rIn K false) from op_in_seq) (pv 8) (pv 3) (by rfl))) (fun _ _ _ _ _ => (pv 8))) (pe_lst pa_nil) (nomark _))))))))))), ?_⟩
    refine ⟨_, rfl, _, rfl, _, rfl, c, C, k, a, rfl, hCC, ok, k8, ha, ?_⟩
    by_cases hg : a ∈ G
    · refine ⟨fun _ H1 s1 => ?_, fun no => absurd ((lost.mem a).mp hg) fun ⟨t, h⟩ => no t h⟩
      refine ⟨_, rfl, _, rfl, ls, _, rfl, .inl (.inl (.inl (s1 _ _ hLs))), rfl, all_vN G, _, rfl, ?_⟩
      show if inV (vN a) (G.map vN) = true then _ else _
      rw [in_vN, decide_eq_true hg]
      exact iteT ⟨_, rfl, rfl, q _ s1⟩
    · have ng : ∀ t, a ∉ goneL C k t := fun t h => hg ((lost.mem a).mpr ⟨t, h⟩)
      refine ⟨fun ⟨t, h⟩ => absurd h (ng t), fun _ tr F X m H1 s1 hF near hT => ?_⟩
      obtain ⟨lenT, noMiss, noStop⟩ := lost.near ok ha ng hF near
      refine ⟨_, rfl, _, rfl, ls, _, rfl, .inl (.inl (.inl (s1 _ _ hLs))), rfl, all_vN G, _, rfl, ?_⟩
      show if inV (vN a) (G.map vN) = true then _ else _
      rw [in_vN, decide_eq_false hg]
      refine iteF ?_
      have eX : nextL C X = nextL C X := rfl
      have ltT : ∀ x ∈ nextL C X, x < C.n := fun x hx => (nextL_mem.mp hx).1
      have upT : (nextL C X).Pairwise (· < ·) := those_up _ _
      have memT : ∀ x, x ∈ nextL C X ↔ _ := fun x => nextL_mem
      have lT := up_len upT ltT
      generalize eT : nextL C X = U at hT lenT noMiss noStop ltT upT lT
      refine ⟨_, rfl, _, _, _, _, true, rfl, .ty "tuple", isi_dp (dp_lot hT), kit_tup (lotD U), true, rfl, iteF ?_⟩
      refine ⟨_, rfl, tr, _, rfl, .inr hT, _, rfl, _, _, rfl, rfl, _, rfl, ite_any (fun hc => ?_) (fun _ => ?_)⟩
      · have := of_decide_eq_true hc
        rw [List.length_map] at this
        omega
      refine ⟨_, rfl, tr, rfl, ⟨_, hT⟩, fun g1 hg1 => ?_⟩
      refine lc_tup (K := K) (a := tr) (xs := U.map vN) (fun j H' => Kp [g1] H1 H' ∧ H' g1 = some (.lst [])) ⟨(fun b o x e' => by rw [upd_ne (ne_of_none e' hg1)]; exact e'), upd_same⟩ (fun j H' _ ⟨k, _⟩ => Same.sqT (kp_same hg1 k) hT) ?_ ?_
      · rintro j x H2 hx ⟨k2, hG2⟩
        obtain ⟨b, hb, rfl⟩ := get_map hx
        have hbn := ltT b (List.mem_of_getElem? hb)
        obtain ⟨r, wd, ts0, hC2⟩ := (hCC.same s1).same (kp_same hg1 k2)
        refine ⟨rfl, ?_⟩
        refine ⟨_, rfl, _, nD b, rfl, dp_nat b, true, rfl, iteF ?_⟩
        exact ⟨_, rfl, _, _, rfl, rfl, true, congrArg V.bl (decide_eq_true (by omega)), iteT ⟨_, rfl, _, _, _, _, rfl, rfl, hC2.top, rfl, _, _, rfl, rfl, true, congrArg V.bl (decide_eq_true (by omega)), iteF ⟨k2, hG2⟩⟩⟩
      rintro H2 ⟨k2, hG2⟩
      have s2 := kp_same hg1 k2
      refine ⟨Nat.zero_le _, fun g2 hg2 => ?_⟩
      generalize eH3 : upd H2 g2 _ = H3
      have s3 : Same H2 H3 := by rw [← eH3]; exact same_upd hg2
      have hG4 : H3 g2 = some (.lst []) := by rw [← eH3]; exact upd_same
      clear eH3
      refine ⟨.list [], .list [], .lst (.inl (.inl (s3 _ _ hG2))) .nil, .lst (.inl (.inl hG4)) .nil, rfl, rfl, _, rfl, iteF ?_⟩
      have s13 := s2.trans s3
      have hT3 := Same.sqT s13 hT
      refine ⟨_, rfl, tr, _, rfl, .inr hT3, fun l1 hl1 => ?_⟩
      generalize eH4 : upd H3 l1 _ = H4
      have s4 : Same H3 H4 := by rw [← eH4]; exact same_upd hl1
      have hL4 : H4 l1 = some (.lst (U.map vN)) := by rw [← eH4]; exact upd_same
      clear eH4
      refine ⟨_, rfl, tr, iN U, rfl, .inr (by rw [← vN_map]; exact Same.sqT s4 hT3), by rw [iN_length]; omega, fun p n0 hp hn0 => ?_⟩
      generalize eH5 : upd H4 p _ = H5
      have s5 : Same H4 H5 := by rw [← eH5]; exact same_upd hp
      have hP5 : H5 p = some (SetO w p (fun j => decide (j ∈ iN U)) n0) := by rw [← eH5]; exact upd_same
      clear eH5
      have ln := set_up ltT hn0
      refine ⟨p, _, n0, rfl, hP5, by omega, fun gs fu up mem _ hfu => ?_⟩
      obtain ⟨wl, rfl, upw, memw⟩ : ∃ wl : List Nat, gs = iN wl ∧ wl.Pairwise (· < ·) ∧ ∀ x, x ∈ wl ↔ x ∈ U := set_nat up mem
      have ew : wl = U := by
        rw [← eT] at memw ⊢
        exact those_is upw fun x => (memw x).trans nextL_mem
      subst ew
      generalize eH6 : upd H5 fu _ = H6
      have s6 : Same H5 H6 := by rw [← eH6]; exact same_upd hfu
      have hF6 : H6 fu = some (.lst (wl.map vN)) := by rw [← eH6, vN_map]; exact upd_same
      clear eH6
      refine ⟨.list (wl.map nD), .list (wl.map nD), .lst (.inl (.inl (s6 _ _ (s5 _ _ hL4)))) (dp_nats _), .lst (.inl (.inl hF6)) (dp_nats _), natsV_shaped _, natsV_shaped _, _, rfl, ?_⟩
      rw [SeqAt.eqv_refl _ (shaped_iff.mp (natsV_shaped wl)).1]
      refine iteF ?_
      have s16 := s13.trans ((s4.trans s5).trans s6)
      have s06 := s1.trans s16
      refine ⟨_, rfl, _, rfl, _, rfl, _, rfl, by show 1 ≤ sizeLine; decide, fun t1 ht1 => ?_⟩
      generalize eH7 : upd H6 t1 _ = H7
      have s7 : Same H6 H7 := by rw [← eH7]; exact same_upd ht1
      have hT7 : SqL K H7 t1 ([a].map vN) := by rw [← eH7]; exact .inl (.inl upd_same)
      clear eH7
      have s07 := s06.trans s7
      refine ⟨c, g, tr, t1, C, hd, cm, fs, lt, hs, cs, ts, wl, [a], rfl, hCC.same s07, ok, hG.same s07, Same.sqT (s16.trans s7) hT, hT7, fun x hx => by rw [List.mem_singleton.mp hx]; exact ha, by show 1 ≤ 60; decide, many, fun z s m' b H8 s8 _ _ _ mi one => ?_⟩
      have s08 := s07.trans s8
      have hb : b = false := by
        cases b with
        | false => rfl
        | true => exact absurd (mi.mp rfl) noMiss
      subst hb
      refine ⟨_, rfl, _, _, _, _, rfl, rfl, .inl (.inl one.top), rfl, false, rfl, true, rfl, iteT ?_⟩
      refine ⟨_, rfl, _, _, _, _, rfl, rfl, .inl (.inl one.top), rfl, s, rfl, ⟨_, .inl (.inl one.st)⟩, fun g3 hg3 => ?_⟩
      refine lc_list (K := K) (xs := (stopsL C wl [a]).map vN) (fun u H' => Kp [g3] H8 H' ∧ H' g3 = some (.lst []))
        ⟨(fun b o nb e' => by rw [upd_ne (ne_of_none e' hg3)]; exact e'), upd_same⟩ (fun u H' _ ⟨k', _⟩ => .inl (.inl (kp_same hg3 k' _ _ one.st))) ?_ ?_
      · rintro u x H9 hx ⟨k9, hG9⟩
        obtain ⟨w0, hw, rfl⟩ := get_map hx
        have hLs9 := kp_same hg3 k9 _ _ (s08 _ _ hLs)
        refine ⟨rfl, ?_⟩
        refine ⟨_, rfl, _, rfl, ls, _, rfl, .inl (.inl (.inl hLs9)), rfl, all_vN G, _, rfl, ?_⟩
        show if inV (vN w0) (G.map vN) = true then _ else _
        rw [in_vN, decide_eq_false (noStop w0 (List.mem_of_getElem? hw))]
        exact iteF ⟨k9, hG9⟩
      rintro H9 ⟨k9, hG9⟩
      have s89 := kp_same hg3 k9
      refine ⟨Nat.zero_le _, fun z0 hz0 => ?_⟩
      have s910 := same_upd (o := .lst []) hz0
      exact ⟨.list [], .list [], .lst (.inl (.inl (s910 _ _ hG9))) .nil, .lst (.inl (.inl upd_same)) .nil, rfl, rfl, q _ ((s08.trans s89).trans s910)⟩
end
end Ft

set_option Elab.async false
set_option linter.all false
set_option maxRecDepth 100000
set_option maxHeartbeats 4000000
namespace Ft
open PySem PySem.Spec PyProof.Rows L2
/-! ### the least of tuples of ints -/
theorem rows_alikeD (L : List Row) : PySem.W.AlikeAll (L.map encR) := by
  refine ⟨fun x hx y hy => ?_, fun x hx => ?_⟩
  · obtain ⟨b, _, rfl⟩ := List.mem_map.mp hx
    obtain ⟨b', _, rfl⟩ := List.mem_map.mp hy
    show PySem.W.alike (.tuple (b.2.map .int)) (.tuple (b'.2.map .int)) = true
    simp only [PySem.W.alike]
    exact PySem.W.alike_ints _ _
  · obtain ⟨b, _, rfl⟩ := List.mem_map.mp hx
    exact fun e => nomatch e
theorem lt_rows (p q : Row) : PySem.W.dataLt (encR q) (encR p) = decide (q.2 < p.2) := by
  show PySem.W.dataLt (.tuple (q.2.map .int)) (.tuple (p.2.map .int)) = _
  rw [PySem.W.dataLt_tuple]
  have e := PySem.W.dataLt_ints q.2 p.2
  unfold PySem.W.rowLt at e
  exact e
theorem minD_rows : ∀ (L : List Row) (p : Row), ∃ r, r ∈ p :: L ∧ PySem.W.minD (encR p) (L.map encR) = encR r ∧ ∀ q ∈ p :: L, r.2 ≤ q.2
  | [], p => ⟨p, List.mem_cons_self, rfl, fun q hq => by rw [List.mem_singleton.mp hq]; exact List.le_refl _⟩
  | x :: L, p => by
    have e : PySem.W.minD (encR p) ((x :: L).map encR) = PySem.W.minD (if PySem.W.dataLt (encR x) (encR p) then encR x else encR p) (L.map encR) := rfl
    rw [e, lt_rows]
    by_cases h : x.2 < p.2
    · rw [if_pos (decide_eq_true h)]
      obtain ⟨r, h1, h2, h3⟩ := minD_rows L x
      refine ⟨r, List.mem_cons_of_mem _ h1, h2, fun q hq => ?_⟩
      rcases List.mem_cons.mp hq with e | hq
      · rw [e]
        exact List.le_trans (h3 x List.mem_cons_self) (List.le_of_lt h)
      · exact h3 q hq
    · rw [if_neg (by simpa using h)]
      obtain ⟨r, h1, h2, h3⟩ := minD_rows L p
      refine ⟨r, ?_, h2, fun q hq => ?_⟩
      · rcases List.mem_cons.mp h1 with e | h1
        · exact e ▸ List.mem_cons_self
        · exact List.mem_cons_of_mem _ (List.mem_cons_of_mem _ h1)
      · rcases List.mem_cons.mp hq with e | hq
        · exact h3 q (e ▸ List.mem_cons_self)
        · rcases List.mem_cons.mp hq with e | hq
          · rw [e]
            exact List.le_trans (h3 p List.mem_cons_self) (List.not_lt.mp h)
          · exact h3 q (List.mem_cons_of_mem _ hq)
theorem encR_inj {p q : Row} (h : encR p = encR q) : p.2 = q.2 := by
  unfold encR at h
  injection h with h
  have : ∀ (l1 l2 : List Int), l1.map PyData.int = l2.map PyData.int → l1 = l2 := by
    intro l1
    induction l1 with
    | nil =>
      intro l2 e
      cases l2 with
      | nil => rfl
      | cons b l2 => simp at e
    | cons a l1 ih =>
      intro l2 e
      cases l2 with
      | nil => simp at e
      | cons b l2 =>
        rw [List.map_cons, List.map_cons] at e
        injection e with e1 e2
        injection e1 with e1
        rw [e1, ih l2 e2]
  exact this _ _ h
def rMinR (K : PySem.W.Frag) : List V → Hp → VK → Prop := fun vs H Q => ∃ (a : Addr) (L : List Row), vs = [V.ref a] ∧ SqL K H a (L.map fun p => V.ref p.1) ∧ (∀ p ∈ L, SqT K H p.1 (p.2.map V.int)) ∧ L ≠ [] ∧
  ∀ r ∈ L, (∀ q ∈ L, r.2 ≤ q.2) → Q (.ref r.1) H
theorem rows_dp {K : PySem.W.Frag} {H : Hp} : ∀ {L : List Row}, (∀ p ∈ L, SqT K H p.1 (p.2.map V.int)) → DpAll K H (L.map fun p => V.ref p.1) (L.map encR)
  | [], _ => .nil
  | p :: L, h => .cons (.tup (h p List.mem_cons_self) (dpAll_ints p.2)) (rows_dp fun q hq => h q (List.mem_cons_of_mem _ hq))
theorem rows_depth (L : List Row) : PyData.depthAll (L.map encR) ≤ 1 := by
  induction L with
  | nil => simp [PyData.depthAll]
  | cons p L ih =>
    have e : (encR p).depth = 1 := by
      show PyData.depth (.tuple (p.2.map .int)) = 1
      simp only [PyData.depth, PySem.W.depth_ints]
    rw [List.map_cons]
    simp only [PyData.depthAll, e]
    omega
theorem cr_minR {X : Cx} (hc : X.calm = true) (hu : X.A.units + 64 < cLine) : CallR X (.builtin "min") (rMinR X.K) := by
  intro pins s σ H xs us Q I r h
  obtain ⟨a, L, rfl, hl, hk, hne, q⟩ := h
  rw [Vals.ref1 r]
  obtain ⟨its, rv, pl, hz⟩ := I.list hl
  obtain ⟨as, rd⟩ := Dp.readsAll I _ _ its (rows_dp hk) rv
  have ei : its = L.map fun p => Value.ref p.1 := refs_of_vals rv
  obtain ⟨p, L0, rfl⟩ : ∃ p L0, L = p :: L0 := by
    cases L with
    | nil => exact absurd rfl hne
    | cons p L0 => exact ⟨p, L0, rfl⟩
  obtain ⟨rb, hb1, hb2, hb3⟩ := minD_rows L0 p
  have dd := rows_depth (p :: L0)
  refine PySem.W.min_list_data (vs := its.toArray) (x := encR p) (xs := L0.map encR) (as := as) (I.ok.hd hc) pl.isList (by simpa using rd) (rows_alikeD (p :: L0)) (by
    have : PyData.depthAll (encR p :: L0.map encR) ≤ 1 := dd
    omega) fun i v h' tk bs hv rm hold => ?_
  have hv' : its[i]? = some v := by simpa using hv
  rw [ei, List.getElem?_map] at hv'
  cases eg : (p :: L0)[i]? with
  | none =>
    rw [eg] at hv'
    cases hv'
  | some rr =>
    rw [eg] at hv'
    have ev : v = Value.ref rr.1 := (Option.some.inj hv').symm
    have hm : rr ∈ p :: L0 := List.mem_of_getElem? eg
    obtain ⟨as', rd'⟩ := Dp.reads I (encR rr) (.ref rr.1) (.ref rr.1) (.tup (hk rr hm) (dpAll_ints rr.2)) rfl
    rw [ev] at rm
    have e := (reads_det (fun b o e _ => hold b o e) rd' rm).1
    rw [hb2] at e
    have e2 := encR_inj e
    subst ev
    exact ⟨.ref rr.1, H, I.kept hold, rfl, q rr hm fun q' hq' => by rw [← e2]; exact hb3 q' hq'⟩
end Ft

set_option Elab.async false
set_option linter.all false
set_option maxRecDepth 100000
set_option maxHeartbeats 8000000
namespace Ft
open PySem PySem.Spec PyProof.Rows L2
/-- some place of S has a road to a place that is numbered -/
def Starts (rs : List (Nat × Nat)) (S : List Nat) (L : List (Nat × Nat)) : Prop := ∃ a ∈ S, ∃ b k, (a, b) ∈ rs ∧ (b, k) ∈ L
def countOf (σ : L2.St) : Nat := match σ[6]? with
  | some (some (V.int i)) => (i + 1).toNat
  | _ => 0
theorem dget_lv {H : Hp} {d : Addr} {L : List (Nat × Nat)} (hD : H d = some (.dK (lvOf L))) (b : Nat) : DGet H d (vN b) (valV (lvOf L) (Sum.inl (b : Int) : Key)) := DGet.k (k := Sum.inl (b : Int)) hD
/-- from p on, k roads left behind the next one: at each step the least place with that number -/
inductive Leads (rs L : List (Nat × Nat)) : Nat → Int → List Nat → Prop
  | stop (p : Nat) : Leads rs L p (-1) []
  | go {p k x : Nat} {l : List Nat} : (p, x) ∈ rs → (x, k) ∈ L → (∀ y, (p, y) ∈ rs → (y, k) ∈ L → x ≤ y) → Leads rs L x ((k : Int) - 1) l → Leads rs L p k (x :: l)
/-- the walk that missed tells -/
def Best (rs : List (Nat × Nat)) (S : List Nat) (L : List (Nat × Nat)) (wk : List Nat) : Prop := ∃ k a l, wk = a :: l ∧ a ∈ S ∧ (∃ b, (a, b) ∈ rs ∧ (b, k) ∈ L) ∧ (∀ a' b' k', a' ∈ S → (a', b') ∈ rs → (b', k') ∈ L → k < k' ∨ (k = k' ∧ a ≤ a')) ∧ Leads rs L a (k : Int) l
theorem le_two {k a k' a' : Nat} (h : iN [k, a] ≤ iN [k', a']) : k < k' ∨ (k = k' ∧ a ≤ a') := by
  have h2 : ([(k : Int), (a : Int)] : List Int) ≤ [(k' : Int), (a' : Int)] := h
  rw [List.cons_le_cons_iff, List.cons_le_cons_iff] at h2
  omega
/-- what a function of a map and two lots owes -/
def DueLL (K : PySem.W.Frag) (ca : Str → Addr) (H : Hp) (E : XK) (dc dt dl : PyData) (ok : Chart → List Nat → List Nat → Prop) : Prop :=
  (∀ x i, mapErr dc = some (x, i) → Raised K ca H E (x, .int i)) ∧ ∀ C, dc = chartD C → C.Ok → (lotOk C.n dt = false ∨ lotOk C.n dl = false → Raised K ca H E ("BadLot", .int (-1))) ∧
    ∀ U S, dt = lotD U → dl = lotD S → (∀ x ∈ U, x < C.n) → U.Pairwise (· < ·) → (∀ x ∈ S, x < C.n) → S.Pairwise (· < ·) → ok C U S
section
variable {P : Program} {w : World} {K : PySem.W.Frag} {mg : Str → Option Value} {base : Heap} {ca : Str → Addr}
/-! ### missed -/
def spX_missed (K : PySem.W.Frag) (ca : Str → Addr) : Sp := fun vs H Q E => ∃ (vc vt vl : V) (dc dt dl : PyData), vs = [vc, vt, vl] ∧ Dp K H vc dc ∧ Dp K H vt dt ∧ Dp K H vl dl ∧ DueLL K ca H E dc dt dl fun C U S =>
  ∀ v L H', Same H H' → Left C.n C.roads C.wished U L → (¬ Starts C.roads S L → v = .non) → (Starts C.roads S L → ∃ t wk, v = .ref t ∧ SqT K H' t (wk.map vN) ∧ Best C.roads S L wk) → Q v H'
theorem DueLL.valid {K : PySem.W.Frag} {ca : Str → Addr} {H : Hp} {E : XK} {C : Chart} {U S : List Nat} {ok : Chart → List Nat → List Nat → Prop} (o : C.Ok) (inU : ∀ x ∈ U, x < C.n) (upU : U.Pairwise (· < ·)) (inS : ∀ x ∈ S, x < C.n) (upS : S.Pairwise (· < ·)) (q : ok C U S) : DueLL K ca H E (chartD C) (lotD U) (lotD S) ok := by
  refine ⟨fun x i h => ?_, fun C' e _ => ⟨fun h => ?_, fun U' S' e1 e2 _ _ _ _ => ?_⟩⟩
  · rw [mapErr_chart o] at h
    cases h
  · rw [← chartD_inj e, lotOk_lot upU inU, lotOk_lot upS inS] at h
    rcases h with h | h <;> cases h
  · rw [← chartD_inj e, ← lotD_inj e1, ← lotD_inj e2]
    exact q
def sp_missed (K : PySem.W.Frag) : Sp := fun vs H Q _ => ∃ (c tr lo : Addr) (C : Chart) (U S : List Nat), vs = [.ref c, .ref tr, .ref lo] ∧ IsChart K H c C ∧ C.Ok ∧ SqT K H tr (U.map vN) ∧ (∀ x ∈ U, x < C.n) ∧ U.Pairwise (· < ·) ∧ SqT K H lo (S.map vN) ∧ (∀ x ∈ S, x < C.n) ∧ S.Pairwise (· < ·) ∧
  ∀ v L H', Same H H' → Left C.n C.roads C.wished U L → (¬ Starts C.roads S L → v = .non) → (Starts C.roads S L → ∃ t wk, v = .ref t ∧ SqT K H' t (wk.map vN) ∧ Best C.roads S L wk) → Q v H'
theorem calv_missed (c_missed : CalX P w K mg base 6 "missed" (spX_missed K ca)) : Cal P w K mg base 6 "missed" (sp_missed K) :=
  c_missed.valid fun vs H Q E ⟨c, tr, lo, C, U, S, e, isC, ok, hT, inU, upU, hS, inS, upS, q⟩ => ⟨_, _, _, _, _, _, e, dp_chart isC, dp_lot hT, dp_lot hS, .valid ok inU upU inS upS q⟩
end
end Ft

set_option Elab.async false
set_option linter.all false
set_option maxRecDepth 100000
set_option maxHeartbeats 8000000
namespace Ft
open PySem PySem.Spec PyProof.Rows L2
section
variable {P : Program} {w : World} {K : PySem.W.Frag} {mg : Str → Option Value} {base : Heap} {ca : Str → Addr}
/-! ### cuts -/
def spX_cuts (K : PySem.W.Frag) (ca : Str → Addr) : Sp := fun vs H Q E => ∃ (vc vt vl : V) (dc dt dl : PyData), vs = [vc, vt, vl] ∧ Dp K H vc dc ∧ Dp K H vt dt ∧ Dp K H vl dl ∧ DueLL K ca H E dc dt dl fun C U S =>
  ∀ (b : Bool) L H', Same H H' → Left C.n C.roads C.wished U L → (b = true ↔ ¬ Starts C.roads S L) → Q (.bl b) H'
def sp_cuts (K : PySem.W.Frag) : Sp := fun vs H Q _ => ∃ (c tr lo : Addr) (C : Chart) (U S : List Nat), vs = [.ref c, .ref tr, .ref lo] ∧ IsChart K H c C ∧ C.Ok ∧ SqT K H tr (U.map vN) ∧ (∀ x ∈ U, x < C.n) ∧ U.Pairwise (· < ·) ∧ SqT K H lo (S.map vN) ∧ (∀ x ∈ S, x < C.n) ∧ S.Pairwise (· < ·) ∧
  ∀ (b : Bool) L H', Same H H' → Left C.n C.roads C.wished U L → (b = true ↔ ¬ Starts C.roads S L) → Q (.bl b) H'
theorem calv_cuts (c_cuts : CalX P w K mg base 7 "cuts" (spX_cuts K ca)) : Cal P w K mg base 7 "cuts" (sp_cuts K) :=
  c_cuts.valid fun vs H Q E ⟨c, tr, lo, C, U, S, e, isC, ok, hT, inU, upU, hS, inS, upS, q⟩ => ⟨_, _, _, _, _, _, e, dp_chart isC, dp_lot hT, dp_lot hS, .valid ok inU upU inS upS q⟩
end
end Ft

set_option Elab.async false
set_option linter.all false
set_option maxRecDepth 100000
set_option maxHeartbeats 8000000
namespace Ft
open PySem PySem.Spec PyProof.Rows L2
section
variable {P : Program} {w : World} {K : PySem.W.Frag} {mg : Str → Option Value} {base : Heap} {t1 t2 : Tok}
/-! ### _law_way_reached -/
def sp_law_way_reached (K : PySem.W.Frag) : Sp := fun vs H Q _ => ∃ (c tr lo : Addr) (C : Chart) (U S : List Nat), vs = [.ref c, .ref tr, .ref lo] ∧ IsChart K H c C ∧ C.Ok ∧ SqT K H tr (U.map vN) ∧ SqT K H lo (S.map vN) ∧ S.length ≤ 60 ∧
  ∀ (q : Addr) (F : List Nat) (H' : Hp), Same H H' → H' q = some (.lst (F.map vN)) → F.length ≤ 60 → (∀ x, x ∈ F ↔ x < C.n ∧ ∃ a ∈ S, Reach (past C.roads U) C.wished a x) → Q (.ref q) H'
/-! ### _law_way_cut -/
def sp_law_way_cut (K : PySem.W.Frag) : Sp := fun vs H Q _ => ∃ (c tr lo : Addr) (C : Chart) (U S : List Nat), vs = [.ref c, .ref tr, .ref lo] ∧ IsChart K H c C ∧ C.Ok ∧ SqT K H tr (U.map vN) ∧ SqT K H lo (S.map vN) ∧ S.length ≤ 60 ∧
  ∀ (b : Bool) H', Same H H' → (b = true ↔ ¬ ∃ a ∈ S, ∃ p ∈ C.wished, Reach (past C.roads U) C.wished a p) → Q (.bl b) H'
end
end Ft

set_option Elab.async false
set_option linter.all false
set_option maxRecDepth 100000
set_option maxHeartbeats 8000000
namespace Ft
open PySem PySem.Spec PyProof.Rows L2
section
variable {P : Program} {w : World} {K : PySem.W.Frag} {mg : Str → Option Value} {base : Heap} {t1 t2 : Tok}
/-! ### _law_bound_tree -/
def sp_law_bound_tree (K : PySem.W.Frag) : Sp := fun vs H Q _ => ∃ (p l : Addr) (most : Nat), vs = [.ref p, vN most] ∧ PoolAt H p l ∧ 0 < most ∧ most ≤ 20 ∧ ∀ (c : Addr) (C : Chart) (H' : Hp), IsChart K H' c C → C.Ok → C.n ≤ most → C.roads.length < 64 → PoolAt H' p l → Kp [p, l] H H' → Q (.ref c) H'
theorem cal_law_bound_tree (T : Txt mg) (D : Def K mg "_law_bound_tree" s_law_bound_tree) (c_law_draw : Cal P w K mg base 2 "_law_draw" sp_law_draw) (c_law_map_named : Cal P w K mg base 4 "_law_map_named" (sp_law_map_named K)) : Cal P w K mg base 5 "_law_bound_tree" (sp_law_bound_tree K) := by
  refine cal_of D sc_law_bound_tree (fun _ _ _ _ _ _ us hl => match us, hl with | [_, _], _ => rfl) (fun vs H Q E h => ?_) (fun f cdv A outer s H vs Q E hr h => ?_)
  · obtain ⟨p, l, most, rfl, _⟩ := h
    rfl
  · obtain ⟨p, l, most, rfl, hP, m0, m20, q⟩ := h
    have hU := hr.units
    refine ⟨_, (pss_cons (ps_par3 (i := 2) (j := 3) (l := 4) (by rfl) sc_law_bound_tree.nd rfl rfl rfl (by decide) (by decide) (by decide) rfl rfl rfl (pa_cons (pe_lst pa_nil) (pa_cons pe_int (pa_cons (pe_lst pa_nil) pa_nil))) (by rfl))
      (pss_cons (ps_for PassesOwn.never rfl (pi_range1 (by rfl) T.range (pa_cons (pv 1) pa_nil)) (pg_name (i := 5) sc_law_bound_tree.nd rfl (Or.inr rfl)) (pss_one (ps_if (pt_cmpR op_lt (pv 5) (pv 3) (nomark _)) (pss_one (ps_for PassesOwn.never rfl (pi_range1 (by rfl) T.range (pa_cons (pe_callB (call_min2 rfl) (by rfl) T.min (by decide +kernel) (pa_cons (pe_op op_add pe_int (pe_c c_law_draw hr (by decide) (by rfl) (pa_cons (pv 0) (pa_cons pe_int pa_nil)))) (pa_cons (pe_op op_sub (pv 1) (pv 3)) pa_nil))) pa_nil)) (pg_name (i := 6) sc_law_bound_tree.nd rfl (Or.inl rfl)) (pss_cons (ps_expr (pe_bm PySem.F.plainAttrs_list PySem.F.slot_list_append PySem.F.type_list_append mt_append (pv 2) (pa_cons (pe_tup (pa_cons (pv 5) (pa_cons (pv 3) pa_nil))) pa_nil)))
            (pss_one (ps_set (i := 3) sc_law_bound_tree.nd rfl (Or.inl rfl) (pe_op op_add (pv 3) pe_int)))))) pss_nil)))
      (pss_cons (ps_for PassesOwn.never rfl (pi_range1 (by rfl) T.range (pa_cons (pv 3) pa_nil)) (pg_name (i := 5) sc_law_bound_tree.nd rfl (Or.inr rfl)) (pss_cons (ps_set (i := 7) sc_law_bound_tree.nd rfl (Or.inl rfl) (pe_c c_law_draw hr (by decide) (by rfl) (pa_cons (pv 0) (pa_cons pe_int pa_nil))))
        (pss_one (ps_if (PW.pt (pw_or (pt_cmpR (show OpR _ _ (rEqD K) from op_eqD hU) (pe_lc (own := [("road", 8)]) rfl sc_law_bound_tree.nd (show PI _ _ _ (iList K _) from pi_list (pv 2)) (blkOk_by (N := ["pool", "most", "roads", "places", "wished", "a", "turn", "way", "road"]) (sc := L2.defScope s_law_bound_tree) (by decide +kernel)) (fun _ _ _ _ _ => (pg_name (i := 8) sc_law_bound_tree.nd rfl (Or.inl rfl))) (fun _ _ _ _ _ => pts_one (pt_cmpR op_eq (pe_ix (show IxR _ (rIxT K) from ix_tup) (pv 8) pe_int (fun _ _ => rfl)) (pv 5) (nomark _))) (fun _ _ _ _ _ => (pv 8))) (pe_lst pa_nil) (nomark _)) (pw_or1 (pt_cmpR op_eq (pv 7) pe_int (nomark _))))) (pss_one (ps_expr (pe_bm PySem.F.plainAttrs_list PySem.F.slot_list_append PySem.F.type_list_append mt_append (pv 4) (pa_cons (pv 5) pa_nil)))) (pss_one (ps_if (pt_cmpR op_lt (pv 7) pe_int (nomark _)) (pss_one (ps_expr (pe_bm PySem.F.plainAttrs_list PySem.F.slot_list_append PySem.F.type_list_append mt_append (pv 2) (pa_cons (pe_tup (pa_cons (pv 5) (pa_cons (pv 5) pa_nil))) pa_nil)))) (pss_one (ps_if (pt_cmpR op_eq (pv 7) pe_int (nomark _)) (pss_one (ps_expr (pe_bm PySem.F.plainAttrs_list PySem.F.slot_list_append PySem.F.type_list_append mt_append (pv 2) (pa_cons (pe_tup (pa_cons (pv 5) (pa_cons (pe_c c_law_draw hr (by decide) (by rfl) (pa_cons (pv 0) (pa_cons (pe_op op_add (pv 5) pe_int) pa_nil))) pa_nil))) pa_nil)))) pss_nil))))))))
      (pss_one (ps_ret (pe_ix (show IxR _ (rIxL K) from ix_list) (pe_c c_law_map_named hr (by decide) (by rfl) (pa_cons (pv 0) (pa_cons (pv 3) (pa_cons (pv 2) (pa_cons (pv 4) pa_nil))))) pe_int (fun _ _ => rfl))))))), ?_⟩
    refine ⟨Nat.zero_le _, fun d hd => ?_⟩
    have s1 : Same H (upd H d (.lst [])) := same_upd hd
    have hD1 : (upd H d (.lst [])) d = some (.lst []) := upd_same
    have dpl : d ∉ [p, l] := hP.free hd
    generalize upd H d (.lst []) = H1 at s1 hD1
    refine ⟨Nat.zero_le _, fun e he => ?_⟩
    have s2 : Same H1 (upd H1 e (.lst [])) := same_upd he
    have hE2 : (upd H1 e (.lst [])) e = some (.lst []) := upd_same
    have he0 : H e = none := s1.free he
    have nde : d ≠ e := ne_of_none hD1 he
    have epl : e ∉ [p, l] := (hP.same s1).free he
    have hD2 := s2 _ _ hD1
    have hP2 := (hP.same s1).same s2
    have k2 : Kp [p, l] H (upd H1 e (.lst [])) := Same.kp (s1.trans s2)
    generalize upd H1 e (.lst []) = H2 at s2 hE2 hD2 hP2 k2
    refine ⟨_, _, _, rfl, ?_⟩
    have kset : ∀ {H' : Hp} {o : HO} {z : Addr}, H z = none → Kp [p, l] H H' → Kp [p, l] H (upd H' z o) := fun {H' o z} hz k b x nb eb => by
      rw [upd_ne (ne_of_none eb hz)]
      exact k b x nb eb
    refine ⟨_, rfl, _, rfl, by omega, by omega, for_range (lo := 0) (n := most) (fun i σ H' => ∃ (n : Nat) (L : List (Addr × (Nat × Nat))) (v5 v6 : Option V), σ = [some (.ref p), some (vN most), some (.ref d), some (vN n), some (.ref e), v5, v6, none, none] ∧ PoolAt H' p l ∧ Kp [p, l] H H' ∧
      H' d = some (.lst (L.map fun r => V.ref r.1)) ∧ TupsAt H' L ∧ H' e = some (.lst []) ∧ 0 < n ∧ n ≤ most ∧ L.length + 1 = n ∧ ∀ r ∈ L, r.2.1 < n ∧ r.2.2 < n)
      ⟨1, [], _, _, rfl, hP2, k2, hD2, (fun _ h => nomatch h), hE2, by decide, m0, rfl, (fun _ h => nomatch h)⟩ ?_ ?_⟩
    · rintro i σ H3 hi ⟨n, L, v5, v6, rfl, hP3, k3, hD3, hL3, hE3, n0, nm, lL, inL⟩
      refine ⟨_, rfl, _, rfl, _, _, rfl, rfl, _, rfl, ite_any (fun hin => ?_) (fun _ => ⟨n, L, _, _, rfl, hP3, k3, hD3, hL3, hE3, n0, nm, lL, inL⟩)⟩
      have hin' := of_decide_eq_true hin
      have hin2 : i < n := by omega
      refine ⟨_, rfl, p, l, 3, rfl, hP3, by decide, by decide, fun x H4 hx hP4 k4 => ?_⟩
      have hD4 := k4 _ _ dpl hD3
      have hE4 := k4 _ _ epl hE3
      have hL4 : TupsAt H4 L := hL3.keep k4 hP3.lists
      have k34 := k3.trans k4
      refine ⟨_, _, rfl, rfl, _, rfl, _, rfl, _, _, rfl, rfl, _, _, rfl, ?_⟩
      obtain ⟨z, ez, zle⟩ : ∃ z : Nat, (if (most : Int) - (n : Int) < 1 + (x : Int) then (most : Int) - (n : Int) else 1 + (x : Int)) = (z : Int) ∧ n + z ≤ most := by
        by_cases h : (most : Int) - (n : Int) < 1 + (x : Int)
        · exact ⟨most - n, by rw [if_pos h]; omega, by omega⟩
        · exact ⟨1 + x, by rw [if_neg h]; omega, by omega⟩
      refine ⟨_, rfl, ?_⟩
      show -2 ^ 62 ≤ (if (most : Int) - (n : Int) < 1 + (x : Int) then (most : Int) - (n : Int) else 1 + (x : Int)) ∧ _
      rw [ez]
      refine ⟨by omega, by omega, for_range (lo := 0) (n := z) (fun j σ H' => ∃ (L' : List (Addr × (Nat × Nat))) (v6 : Option V), σ = [some (.ref p), some (vN most), some (.ref d), some (vN (n + j)), some (.ref e), some (.int (0 + (i : Nat))), v6, none, none] ∧ PoolAt H' p l ∧ Kp [p, l] H H' ∧
        H' d = some (.lst (L'.map fun r => V.ref r.1)) ∧ TupsAt H' L' ∧ H' e = some (.lst []) ∧ L'.length + 1 = n + j ∧ ∀ r ∈ L', r.2.1 < n + j ∧ r.2.2 < n + j)
        ⟨L, _, rfl, hP4, k34, hD4, hL4, hE4, lL, inL⟩ ?_ ?_⟩
      · rintro j σ H5 hj ⟨L5, v6', rfl, hP5, k5, hD5, hL5, hE5, l5, in5⟩
        refine ⟨_, rfl, .inl ⟨rfl, _, .inl (.inl hD5)⟩, _, rfl, _, rfl, by show 2 ≤ sizeLine; decide, fun t ht => ?_⟩
        have s6 : Same H5 (upd H5 t (.tup [.int (0 + (i : Nat)), vN (n + j)])) := same_upd ht
        have hT6 : (upd H5 t (.tup [.int (0 + (i : Nat)), vN (n + j)])) t = some (.tup [vN i, vN (n + j)]) := by
          rw [upd_same]
          have : (0 : Int) + (i : Nat) = (i : Nat) := by omega
          rw [this]
          rfl
        have hD6 := s6 _ _ hD5
        refine ⟨d, _, _, rfl, rfl, hD6, by rw [List.length_map]; exact small1000 (by omega), ?_⟩
        refine ⟨_, rfl, _, _, rfl, rfl, L5 ++ [(t, (i, n + j))], _, rfl, (hP5.same s6).set dpl, kset hd (k5.trans (Same.kp s6)), by rw [upd_same, List.map_append]; rfl, ((hL5.same s6).add hT6).set hD6, by rw [upd_ne nde.symm]; exact s6 _ _ hE5, by rw [List.length_append, List.length_singleton]; omega, ?_⟩
        intro r hr'
        rcases List.mem_append.mp hr' with hr' | hr'
        · have := in5 r hr'
          omega
        · rw [List.mem_singleton.mp hr']
          exact ⟨by show i < n + (j + 1); omega, by show n + j < n + (j + 1); omega⟩
      · rintro σ H5 ⟨L5, v6', rfl, hP5, k5, hD5, hL5, hE5, l5, in5⟩
        exact ⟨n + z, L5, _, _, rfl, hP5, k5, hD5, hL5, hE5, by omega, zle, l5, in5⟩
    rintro σ H3 ⟨n, L, v5, v6, rfl, hP3, k3, hD3, hL3, hE3, n0, nm, lL, inL⟩
    refine ⟨_, rfl, _, rfl, by omega, by omega, for_range (lo := 0) (n := n) (fun i σ H' => ∃ (L' : List (Addr × (Nat × Nat))) (W : List Nat) (v5 v7 : Option V), σ = [some (.ref p), some (vN most), some (.ref d), some (vN n), some (.ref e), v5, v6, v7, none] ∧ PoolAt H' p l ∧ Kp [p, l] H H' ∧
      H' d = some (.lst (L'.map fun r => V.ref r.1)) ∧ TupsAt H' L' ∧ H' e = some (.lst (W.map vN)) ∧ L'.length ≤ n + i ∧ (∀ r ∈ L', r.2.1 < n ∧ r.2.2 < n) ∧ Upto W i)
      ⟨L, [], _, _, rfl, hP3, k3, hD3, hL3, hE3, by omega, inL, Upto.nil 0⟩ ?_ ?_⟩
    · rintro i σ H4 hi ⟨L4, W, v5', v7, rfl, hP4, k4, hD4, hL4, hE4, l4, in4, hW⟩
      have e0 : (0 : Int) + (i : Nat) = (i : Nat) := by omega
      refine ⟨_, rfl, p, l, 9, rfl, hP4, by decide, by decide, fun way H5 hway hP5 k5 => ?_⟩
      have hD5 := k5 _ _ dpl hD4
      have hE5 := k5 _ _ epl hE4
      have hL5 : TupsAt H5 L4 := hL4.keep k5 hP4.lists
      have k45 := k4.trans k5
      refine ⟨_, rfl, d, rfl, ⟨_, .inl (.inl hD5)⟩, fun g hg => ?_⟩
      have keep5 : ∀ {H' : Hp}, Kp [g] H5 H' → Same H5 H' := fun {H'} k b o e' => k b o (fun m => by rw [List.mem_singleton.mp m, hg] at e'; cases e') e'
      refine lc_list (K := K) (xs := L4.map fun r => V.ref r.1) (fun j H' => ∃ M : List (Addr × (Nat × Nat)), Kp [g] H5 H' ∧ H' g = some (.lst (M.map fun r => V.ref r.1)) ∧ M.length ≤ j ∧ ∀ r ∈ M, SqT K H5 r.1 [vN r.2.1, vN r.2.2])
        ⟨[], (fun b o x e' => by rw [upd_ne (ne_of_none e' hg)]; exact e'), upd_same, Nat.le_refl _, fun _ h => nomatch h⟩ (fun j H' _ ⟨_, k, _⟩ => .inl (.inl (keep5 k _ _ hD5))) ?_ ?_
      · rintro j x H6 hx ⟨M, k6, hG, lM, inM⟩
        obtain ⟨r0, hr0, rfl⟩ := get_map hx
        have jl : j < L4.length := (List.getElem?_eq_some_iff.mp hr0).1
        have pt5 : SqT K H5 r0.1 [vN r0.2.1, vN r0.2.2] := .inl (.inl (hL5 r0 (List.mem_of_getElem? hr0)))
        refine ⟨rfl, ?_⟩
        refine ⟨_, rfl, r0.1, _, _, _, rfl, rfl, Same.sqT (keep5 k6) pt5, rfl, _, rfl, rfl, _, rfl, ite_any (fun _ => ?_) (fun _ => ⟨M, k6, hG, by omega, inM⟩)⟩
        refine ⟨_, rfl, _, hG, by rw [List.length_map]; exact small1000 (by omega), M ++ [r0], ?_, by rw [upd_same, List.map_append]; rfl, by rw [List.length_append]; exact Nat.succ_le_succ lM, ?_⟩
        · intro b o nb eb
          rw [upd_ne (fun z => nb (by rw [z]; simp))]
          exact k6 b o nb eb
        · intro r hr'
          rcases List.mem_append.mp hr' with hr' | hr'
          · exact inM r hr'
          · rw [List.mem_singleton.mp hr']
            exact pt5
      rintro H6 ⟨M, k6, hG, lM, inM⟩
      refine ⟨Nat.zero_le _, fun z hz => ?_⟩
      have s7 : Same H6 (upd H6 z (.lst [])) := same_upd hz
      have s57 := (keep5 k6).trans s7
      have hZ7 : (upd H6 z (.lst [])) z = some (.lst []) := upd_same
      have hG7 := s7 _ _ hG
      generalize upd H6 z (.lst []) = H7 at s7 s57 hZ7 hG7
      have hD7 := s57 _ _ hD5
      have hE7 := s57 _ _ hE5
      have hL7 := hL5.same s57
      have hP7 := hP5.same s57
      have k7 := k45.trans (Same.kp s57)
      refine ⟨.list (M.map fun r => encP r.2), .list [], .lst (.inl (.inl hG7)) (dpAll_pairs M fun r hr' => Same.sqT s57 (inM r hr')), .lst (.inl (.inl hZ7)) .nil, by have z := pairs_shaped (M.map (·.2)); rw [List.map_map] at z; exact z, rfl, _, rfl, ?_⟩
      have wishI : ∃ (L' : List (Addr × (Nat × Nat))) (W' : List Nat), True := ⟨[], [], trivial⟩
      have addW : (upd H7 e (.lst (W.map vN ++ [.int (0 + (i : Nat))]))) e = some (.lst ((W ++ [i]).map vN)) := by
        rw [upd_same, List.map_append, e0]
        rfl
      have wish : ∀ v5' v7', ∃ (L' : List (Addr × (Nat × Nat))) (W' : List Nat) (v5 v7 : Option V), [some (.ref p), some (vN most), some (.ref d), some (vN n), some (.ref e), v5', v6, v7', none] = [some (.ref p), some (vN most), some (.ref d), some (vN n), some (.ref e), v5, v6, v7, none] ∧ PoolAt (upd H7 e (.lst (W.map vN ++ [.int (0 + (i : Nat))]))) p l ∧ Kp [p, l] H (upd H7 e (.lst (W.map vN ++ [.int (0 + (i : Nat))]))) ∧
          (upd H7 e (.lst (W.map vN ++ [.int (0 + (i : Nat))]))) d = some (.lst (L'.map fun r => V.ref r.1)) ∧ TupsAt (upd H7 e (.lst (W.map vN ++ [.int (0 + (i : Nat))]))) L' ∧ (upd H7 e (.lst (W.map vN ++ [.int (0 + (i : Nat))]))) e = some (.lst (W'.map vN)) ∧ L'.length ≤ n + (i + 1) ∧ (∀ r ∈ L', r.2.1 < n ∧ r.2.2 < n) ∧ Upto W' (i + 1) := fun v5' v7' =>
        ⟨L4, W ++ [i], v5', v7', rfl, hP7.set epl, kset he0 k7, by rw [upd_ne nde]; exact hD7, hL7.set hE7, addW, by omega, in4, hW.more⟩
      have Wl := hW.len
      have smallW : (W.map vN).length < sizeLine := by rw [List.length_map]; exact small1000 (by omega)
      have road : ∀ (y : Nat) (H8 : Hp) (t : Addr) v5' v7', y < n → PoolAt H8 p l → Kp [p, l] H7 H8 → H8 t = none → ∃ (L' : List (Addr × (Nat × Nat))) (W' : List Nat) (v5 v7 : Option V), [some (.ref p), some (vN most), some (.ref d), some (vN n), some (.ref e), v5', v6, v7', none] = [some (.ref p), some (vN most), some (.ref d), some (vN n), some (.ref e), v5, v6, v7, none] ∧ PoolAt (upd (upd H8 t (.tup [.int (0 + (i : Nat)), vN y])) d (.lst ((L4.map fun r => V.ref r.1) ++ [.ref t]))) p l ∧ Kp [p, l] H (upd (upd H8 t (.tup [.int (0 + (i : Nat)), vN y])) d (.lst ((L4.map fun r => V.ref r.1) ++ [.ref t]))) ∧
          (upd (upd H8 t (.tup [.int (0 + (i : Nat)), vN y])) d (.lst ((L4.map fun r => V.ref r.1) ++ [.ref t]))) d = some (.lst (L'.map fun r => V.ref r.1)) ∧ TupsAt (upd (upd H8 t (.tup [.int (0 + (i : Nat)), vN y])) d (.lst ((L4.map fun r => V.ref r.1) ++ [.ref t]))) L' ∧ (upd (upd H8 t (.tup [.int (0 + (i : Nat)), vN y])) d (.lst ((L4.map fun r => V.ref r.1) ++ [.ref t]))) e = some (.lst (W'.map vN)) ∧ L'.length ≤ n + (i + 1) ∧ (∀ r ∈ L', r.2.1 < n ∧ r.2.2 < n) ∧ Upto W' (i + 1) := by
        intro y H8 t v5' v7' hy hP8 k8 ht
        have s9 : Same H8 (upd H8 t (.tup [.int (0 + (i : Nat)), vN y])) := same_upd ht
        have hT9 : (upd H8 t (.tup [.int (0 + (i : Nat)), vN y])) t = some (.tup [vN i, vN y]) := by
          rw [upd_same, e0]
          rfl
        have hD9 := s9 _ _ (k8 _ _ dpl hD7)
        have hL8 : TupsAt H8 L4 := hL7.keep k8 hP7.lists
        refine ⟨L4 ++ [(t, (i, y))], W, v5', v7', rfl, (hP8.same s9).set dpl, kset hd ((k7.trans k8).trans (Same.kp s9)), by rw [upd_same, List.map_append]; rfl, ((hL8.same s9).add hT9).set hD9, by rw [upd_ne nde.symm]; exact s9 _ _ (k8 _ _ epl hE7), by rw [List.length_append, List.length_singleton]; omega, ?_, hW.wider⟩
        intro r hr'
        rcases List.mem_append.mp hr' with hr' | hr'
        · exact in4 r hr'
        · rw [List.mem_singleton.mp hr']
          exact ⟨hi, hy⟩
      have smallL : (L4.map fun r => V.ref r.1).length < sizeLine := by rw [List.length_map]; exact small1000 (by omega)
      refine ite_any (fun _ => ?_) (fun _ => ?_)
      · exact ⟨_, rfl, .inl ⟨rfl, _, .inl (.inl hE7)⟩, _, rfl, e, _, _, rfl, rfl, hE7, smallW, wish _ _⟩
      · refine ⟨_, rfl, rfl, _, rfl, ite_any (fun _ => ?_) (fun _ => ?_)⟩
        · exact ⟨_, rfl, .inl ⟨rfl, _, .inl (.inl hE7)⟩, _, rfl, e, _, _, rfl, rfl, hE7, smallW, wish _ _⟩
        · refine ⟨_, rfl, _, _, rfl, rfl, _, rfl, ite_any (fun _ => ?_) (fun _ => ?_)⟩
          · refine ⟨_, rfl, .inl ⟨rfl, _, .inl (.inl hD7)⟩, _, rfl, _, rfl, by show 2 ≤ sizeLine; decide, fun t ht => ?_⟩
            have ei : V.int (0 + (i : Nat)) = vN i := by rw [e0]; rfl
            have h9 : (upd H7 t (.tup [.int (0 + (i : Nat)), .int (0 + (i : Nat))])) d = some (.lst (L4.map fun r => V.ref r.1)) := (same_upd ht) _ _ hD7
            refine ⟨d, _, _, rfl, rfl, h9, smallL, ?_⟩
            have := road i H7 t (some (.int (0 + (i : Nat)))) (some (vN way)) hi hP7 (Kp.refl _ _) ht
            rw [← ei] at this
            exact this
          · refine ⟨_, rfl, rfl, _, rfl, ite_any (fun _ => ?_) (fun _ => ?_)⟩
            · refine ⟨_, rfl, .inl ⟨rfl, _, .inl (.inl hD7)⟩, _, rfl, _, rfl, _, rfl, _, _, rfl, rfl, p, l, i + 1, ?_, hP7, by omega, by omega, fun y H8 hy hP8 k8 => ?_⟩
              · have : (0 : Int) + (i : Nat) + 1 = ((i + 1 : Nat) : Int) := by omega
                show [V.ref p, V.int (0 + (i : Nat) + 1)] = [V.ref p, V.int ((i + 1 : Nat) : Int)]
                rw [this]
              · refine ⟨by show 2 ≤ sizeLine; decide, fun t ht => ?_⟩
                have h9 : (upd H8 t (.tup [.int (0 + (i : Nat)), vN y])) d = some (.lst (L4.map fun r => V.ref r.1)) := (same_upd ht) _ _ (k8 _ _ dpl hD7)
                exact ⟨d, _, _, rfl, rfl, h9, smallL, road y H8 t _ _ (by omega) hP8 k8 ht⟩
            · exact ⟨L4, W, _, _, rfl, hP7, k7, hD7, hL7, hE7, by omega, in4, hW.wider⟩
    · rintro σ H4 ⟨L4, W, v5', v7, rfl, hP4, k4, hD4, hL4, hE4, l4, in4, hW⟩
      have ePr : (L4.map fun r => V.ref r.1) = (L4.map (·.1)).map V.ref := by rw [List.map_map]; rfl
      rw [ePr] at hD4
      have Wl := hW.len
      refine ⟨_, rfl, _, rfl, _, rfl, _, rfl, p, l, d, e, n, L4.map (·.1), L4.map (·.2), W, rfl, hP4, by omega, hD4, dpl, hL4.pairs, by rw [List.length_map]; omega, ?_, hE4, epl, by omega, hW.lt, fun q' c na perm C H8 pm _ _ hQ hC _ nmd hP8 k8 => ?_⟩
      · intro r hr'
        obtain ⟨z, hz, rfl⟩ := List.mem_map.mp hr'
        exact in4 z hz
      · exact ⟨q', _, _, _, rfl, rfl, .inl (.inl hQ), rfl, q c C H8 hC nmd.ok (by rw [nmd.n]; omega) (Nat.lt_of_le_of_lt nmd.few (by rw [List.length_map]; omega)) hP8 (k4.trans k8)⟩
end
end Ft

set_option Elab.async false
set_option linter.all false
set_option maxRecDepth 100000
set_option maxHeartbeats 8000000
namespace Ft
open PySem PySem.Spec PyProof.Rows L2
section
variable {P : Program} {w : World} {K : PySem.W.Frag} {mg : Str → Option Value} {base : Heap} {ca : Str → Addr}
/-! ### _law_game_chart -/
def sp_law_game_chart (K : PySem.W.Frag) : Sp := fun vs H Q _ => ∃ (p l : Addr), vs = [.ref p] ∧ PoolAt H p l ∧ ∀ (c : Addr) (C : Chart) (H' : Hp), IsChart K H' c C → C.Ok → 0 < C.n → C.n ≤ 5 → C.roads.length < 64 → PoolAt H' p l → Kp [p, l] H H' → Q (.ref c) H'
theorem cal_law_game_chart (T : Txt mg) (D : Def K mg "_law_game_chart" s_law_game_chart) (c_law_draw : Cal P w K mg base 2 "_law_draw" sp_law_draw) (c_law_map_drawn : Cal P w K mg base 5 "_law_map_drawn" (sp_law_map_drawn K)) (c_law_bound_tree : Cal P w K mg base 5 "_law_bound_tree" (sp_law_bound_tree K)) (c_law_map_named : Cal P w K mg base 4 "_law_map_named" (sp_law_map_named K)) : Cal P w K mg base 6 "_law_game_chart" (sp_law_game_chart K) := by
  refine cal_of D sc_law_game_chart (fun _ _ _ _ _ _ us hl => match us, hl with | [_], _ => rfl) (fun vs H Q E h => ?_) (fun f cdv A outer s H vs Q E hr h => ?_)
  · obtain ⟨p, l, rfl, _⟩ := h
    rfl
  · obtain ⟨p, l, rfl, hP, q⟩ := h
    have hU := hr.units
    refine ⟨_, (pss_cons (ps_if (pt_cmpR op_eq (pe_c c_law_draw hr (by decide) (by rfl) (pa_cons (pv 0) (pa_cons pe_int pa_nil))) pe_int (nomark _)) (pss_cons (ps_set (i := 1) sc_law_game_chart.nd rfl (Or.inl rfl) (pe_mid (pe_ifExp (pt_cmpR op_eq (pe_c c_law_draw hr (by decide) (by rfl) (pa_cons (pv 0) (pa_cons pe_int pa_nil))) pe_int (nomark _)) (pe_c c_law_map_drawn hr (by decide) (by rfl) (pa_cons (pv 0) (pa_cons pe_int pa_nil))) (pe_c c_law_bound_tree hr (by decide) (by rfl) (pa_cons (pv 0) (pa_cons (pe_op op_add pe_int (pe_c c_law_draw hr (by decide) (by rfl) (pa_cons (pv 0) (pa_cons pe_int pa_nil)))) pa_nil))))))
        (pss_one (ps_ret (pe_ifExp (pt_cmpR op_gt (pe_ix (show IxR _ (rIxT K) from ix_tup) (pv 1) pe_int (fun _ _ => rfl)) pe_int (nomark _)) (pv 1) (pe_tup (pa_cons pe_int (pa_cons (pe_tup (pa_cons (pe_tup (pa_cons pe_int (pa_cons pe_int pa_nil))) pa_nil)) (pa_cons (pe_tup pa_nil) pa_nil)))))))) pss_nil)
      (pss_cons (ps_set (i := 2) sc_law_game_chart.nd rfl (Or.inr rfl) (pe_op op_add pe_int (pe_c c_law_draw hr (by decide) (by rfl) (pa_cons (pv 0) (pa_cons pe_int pa_nil)))))
      (pss_cons (ps_set (i := 3) sc_law_game_chart.nd rfl (Or.inl rfl) (pe_callB (call_min2 rfl) (by rfl) T.min (by decide +kernel) (pa_cons pe_int (pa_cons (pe_op op_add (pe_op op_add (pv 2) pe_int) (pe_c c_law_draw hr (by decide) (by rfl) (pa_cons (pv 0) (pa_cons pe_int pa_nil)))) pa_nil))))
      (pss_cons (ps_set (i := 4) sc_law_game_chart.nd rfl (Or.inl rfl) (pe_op op_cat (pe_lc (own := [("a", 6)]) rfl sc_law_game_chart.nd (pi_range1 (by rfl) T.range (pa_cons (pv 2) pa_nil)) (blkOk_by (N := ["pool", "chart", "many", "places", "roads", "turn", "a", "b"]) (sc := L2.defScope s_law_game_chart) (by decide +kernel)) (fun _ _ _ _ _ => (pg_name (i := 6) sc_law_game_chart.nd rfl (Or.inl rfl))) (fun _ _ _ _ _ => pts_nil) (fun _ _ _ _ _ => (pe_tup (pa_cons (pv 6) (pa_cons (pe_op op_add (pv 6) pe_int) pa_nil))))) (pe_lc (own := [("b", 7)]) rfl sc_law_game_chart.nd (pi_range2 (by rfl) T.range (pa_cons (pv 2) (pa_cons (pv 3) pa_nil))) (blkOk_by (N := ["pool", "chart", "many", "places", "roads", "turn", "a", "b"]) (sc := L2.defScope s_law_game_chart) (by decide +kernel)) (fun _ _ _ _ _ => (pg_name (i := 7) sc_law_game_chart.nd rfl (Or.inl rfl))) (fun _ _ _ _ _ => pts_nil) (fun _ _ _ _ _ => (pe_tup (pa_cons (pe_op op_sub (pv 2) pe_int) (pa_cons (pv 7) pa_nil)))))))
      (pss_cons (ps_for PassesOwn.never rfl (pi_range1 (by rfl) T.range (pa_cons (pe_c c_law_draw hr (by decide) (by rfl) (pa_cons (pv 0) (pa_cons pe_int pa_nil))) pa_nil)) (pg_name (i := 5) sc_law_game_chart.nd rfl (Or.inl rfl)) (pss_one (ps_expr (pe_bm PySem.F.plainAttrs_list PySem.F.slot_list_append PySem.F.type_list_append mt_append (pv 4) (pa_cons (pe_tup (pa_cons (pe_c c_law_draw hr (by decide) (by rfl) (pa_cons (pv 0) (pa_cons (pv 3) pa_nil))) (pa_cons (pe_c c_law_draw hr (by decide) (by rfl) (pa_cons (pv 0) (pa_cons (pv 3) pa_nil))) pa_nil))) pa_nil)))))
      (pss_one (ps_ret (pe_ix (show IxR _ (rIxL K) from ix_list) (pe_c c_law_map_named hr (by decide) (by rfl) (pa_cons (pv 0) (pa_cons (pv 3) (pa_cons (pv 4) (pa_cons (pe_listRg rfl (by rfl) T.list (prg_2 (by rfl) T.range (pv 2) (pv 3))) pa_nil))))) pe_int (fun _ _ => rfl))))))))), ?_⟩
    refine ⟨_, rfl, p, l, 2, rfl, hP, by decide, by decide, fun x H1 hx hP1 k1 => ⟨rfl, _, rfl, ite_any (fun _ => ?_) (fun _ => ?_)⟩⟩
    · refine ⟨fun v H' => ∃ (c : Addr) (C : Chart), v = .ref c ∧ IsChart K H' c C ∧ C.Ok ∧ C.n ≤ 5 ∧ C.roads.length < 64 ∧ PoolAt H' p l ∧ Kp [p, l] H1 H', ?_, ?_⟩
      · refine ⟨_, rfl, p, l, 2, rfl, hP1, by decide, by decide, fun y H2 hy hP2 k2 => ⟨rfl, _, rfl, ite_any (fun _ => ?_) (fun _ => ?_)⟩⟩
        · exact ⟨_, rfl, p, l, 5, rfl, hP2, by decide, fun c C H3 isC ok n5 few hP3 k3 => ⟨c, C, rfl, isC, ok, n5, few, hP3, k2.trans k3⟩⟩
        · refine ⟨_, rfl, _, rfl, p, l, 3, rfl, hP2, by decide, by decide, fun r H3 hr3 hP3 k3 => ⟨_, _, rfl, rfl, ?_⟩⟩
          have e : (3 : Int) + (r : Nat) = ((3 + r : Nat) : Int) := by omega
          refine ⟨p, l, 3 + r, by show [V.ref p, V.int ((3 : Int) + (r : Nat))] = [V.ref p, V.int ((3 + r : Nat) : Int)]; rw [e], hP3, by omega, by omega, fun c C H4 isC ok n5 few hP4 k4 => ⟨c, C, rfl, isC, ok, by omega, few, hP4, (k2.trans k3).trans k4⟩⟩
      · rintro v H2 ⟨c, C, rfl, isC, ok, n5, few, hP2, k2⟩
        have k12 := k1.trans k2
        obtain ⟨r, wd, ts0, hC⟩ := id isC
        refine ⟨_, rfl, _, _, _, _, rfl, rfl, hC.top, rfl, _, _, rfl, rfl, _, rfl, ite_any (fun h => ?_) (fun _ => ?_)⟩
        · have := of_decide_eq_true h
          exact ⟨_, rfl, q c C H2 isC ok (by omega) n5 few hP2 k12⟩
        · refine ⟨by show 2 ≤ sizeLine; decide, fun t1 ht1 => ?_⟩
          generalize eH3 : upd H2 t1 _ = H3
          have s3 : Same H2 H3 := by rw [← eH3]; exact same_upd ht1
          have h3 : SqT K H3 t1 [vN 0, vN 0] := by rw [← eH3]; exact .inl (.inl upd_same)
          clear eH3
          refine ⟨by show 1 ≤ sizeLine; decide, fun t2 ht2 => ?_⟩
          generalize eH4 : upd H3 t2 _ = H4
          have s4 : Same H3 H4 := by rw [← eH4]; exact same_upd ht2
          have h4 : SqT K H4 t2 ([t1].map V.ref) := by rw [← eH4]; exact .inl (.inl upd_same)
          clear eH4
          refine ⟨Nat.zero_le _, fun t3 ht3 => ?_⟩
          generalize eH5 : upd H4 t3 _ = H5
          have s5 : Same H4 H5 := by rw [← eH5]; exact same_upd ht3
          have h5 : SqT K H5 t3 (([] : List Nat).map vN) := by rw [← eH5]; exact .inl (.inl upd_same)
          clear eH5
          refine ⟨by show 3 ≤ sizeLine; decide, fun t4 ht4 => ?_⟩
          have s6 := same_upd (o := .tup [.int 1, .ref t2, .ref t3]) ht4
          have s26 := ((s3.trans s4).trans s5).trans s6
          exact q t4 ⟨1, [(0, 0)], []⟩ _ ⟨t2, t3, [t1], .inl (.inl upd_same), Same.sqT (s5.trans s6) h4, .cons (Same.sqT ((s4.trans s5).trans s6) h3) .nil, Same.sqT s6 h5⟩
            ⟨by decide, by decide, (fun q hq => by rw [List.mem_singleton.mp hq]; exact ⟨by decide, by decide⟩), .cons (fun _ h => nomatch h) .nil, (fun _ h => nomatch h), .nil⟩ (by decide) (by decide) (by show 1 < 64; decide) (hP2.same s26) (k12.trans (Same.kp s26))
    · -- many, places
      refine ⟨_, rfl, p, l, 3, rfl, hP1, by decide, by decide, fun r1 H2 hr1 hP2 k2 => ⟨_, _, rfl, rfl, ?_⟩⟩
      have e1 : (1 : Int) + (r1 : Nat) = ((1 + r1 : Nat) : Int) := by omega
      refine at_name ?_
      dsimp only
      rw [e1]
      obtain ⟨many, em⟩ : ∃ m : Nat, m = 1 + r1 := ⟨_, rfl⟩
      rw [← em]
      refine ⟨_, rfl, _, _, rfl, rfl, _, rfl, p, l, 2, rfl, hP2, by decide, by decide, fun r2 H3 hr2 hP3 k3 => ⟨_, _, rfl, rfl, _, _, rfl, ?_⟩⟩
      obtain ⟨n, en, mn, n5⟩ : ∃ n : Nat, (if ((many : Nat) : Int) + 2 + (r2 : Nat) < 5 then ((many : Nat) : Int) + 2 + (r2 : Nat) else 5) = (n : Int) ∧ many < n ∧ n ≤ 5 := by
        by_cases h : ((many : Nat) : Int) + 2 + (r2 : Nat) < 5
        · exact ⟨many + 2 + r2, by rw [if_pos h]; omega, by omega, by omega⟩
        · exact ⟨5, by rw [if_neg h]; rfl, by omega, by omega⟩
      refine at_name ?_
      dsimp only
      rw [en]
      have k03 := (k1.trans k2).trans k3
      have e0 : ∀ i : Nat, (0 : Int) + (i : Nat) = (i : Nat) := fun i => by omega
      refine ⟨_, rfl, _, rfl, by omega, by omega, fun g1 hg1 => ?_⟩
      refine lc_range (lo := 0) (n := many) (fun i H' => Kp [g1] H3 H' ∧ ∃ L : List (Addr × (Nat × Nat)), H' g1 = some (.lst (L.map fun r => V.ref r.1)) ∧ TupsAt H' L ∧ L.length = i ∧ ∀ r ∈ L, r.2.1 < n ∧ r.2.2 < n)
        ⟨(fun b o x e' => by rw [upd_ne (ne_of_none e' hg1)]; exact e'), [], upd_same, (fun _ h => nomatch h), rfl, (fun _ h => nomatch h)⟩ ?_ ?_
      · rintro i H4 hi ⟨k4, L, hG4, hL4, lL, inL⟩
        refine ⟨rfl, ?_⟩
        rw [e0]
        refine ⟨_, rfl, _, rfl, _, _, rfl, rfl, by show 2 ≤ sizeLine; decide, fun t ht => ?_⟩
        have ei : (i : Int) + 1 = ((i + 1 : Nat) : Int) := by omega
        generalize eH5 : upd H4 t _ = H5
        have s5 : Same H4 H5 := by rw [← eH5]; exact same_upd ht
        have hT5 : H5 t = some (.tup [vN i, vN (i + 1)]) := by
          rw [← eH5, upd_same]
          show some (HO.tup [V.int (i : Nat), V.int ((i : Int) + 1)]) = _
          rw [ei]
          rfl
        clear eH5
        have hG5 := s5 _ _ hG4
        refine ⟨_, hG5, by rw [List.length_map]; exact small1000 (by omega), kp_put (k4.trans (Same.kp s5)), L ++ [(t, (i, i + 1))], by rw [upd_same, List.map_append]; rfl, (TupsAt.add (hL4.same s5) hT5).set hG5, by rw [List.length_append, lL]; rfl, fun r hr' => ?_⟩
        rcases List.mem_append.mp hr' with h | h
        · exact inL r h
        · rw [List.mem_singleton.mp h]
          exact ⟨by show i < n; omega, by show i + 1 < n; omega⟩
      rintro H4 ⟨k4, L, hG4, hL4, lL, inL⟩
      have s4 := kp_same hg1 k4
      have em1 : ((n : Int) - (many : Nat)).toNat = n - many := by omega
      refine ⟨_, rfl, _, rfl, _, _, rfl, ⟨by omega, by omega, by omega, by omega⟩, fun g2 hg2 => ?_⟩
      rw [em1]
      refine lc_range (lo := (many : Int)) (n := n - many) (fun i H' => Kp [g2] H4 H' ∧ ∃ L : List (Addr × (Nat × Nat)), H' g2 = some (.lst (L.map fun r => V.ref r.1)) ∧ TupsAt H' L ∧ L.length = i ∧ ∀ r ∈ L, r.2.1 < n ∧ r.2.2 < n)
        ⟨(fun b o x e' => by rw [upd_ne (ne_of_none e' hg2)]; exact e'), [], upd_same, (fun _ h => nomatch h), rfl, (fun _ h => nomatch h)⟩ ?_ ?_
      · rintro i H5 hi ⟨k5, L2, hG5, hL5, lL2, inL2⟩
        refine ⟨rfl, ?_⟩
        refine ⟨_, rfl, _, _, rfl, rfl, _, rfl, by show 2 ≤ sizeLine; decide, fun t ht => ?_⟩
        have ei : (many : Int) - 1 = ((many - 1 : Nat) : Int) := by omega
        have ej : (many : Int) + (i : Nat) = ((many + i : Nat) : Int) := by omega
        generalize eH6 : upd H5 t _ = H6
        have s6 : Same H5 H6 := by rw [← eH6]; exact same_upd ht
        have hT6 : H6 t = some (.tup [vN (many - 1), vN (many + i)]) := by
          rw [← eH6, upd_same]
          show some (HO.tup [V.int ((many : Int) - 1), V.int ((many : Int) + (i : Nat))]) = _
          rw [ei, ej]
          rfl
        clear eH6
        have hG6 := s6 _ _ hG5
        refine ⟨_, hG6, by rw [List.length_map]; exact small1000 (by omega), kp_put (k5.trans (Same.kp s6)), L2 ++ [(t, (many - 1, many + i))], by rw [upd_same, List.map_append]; rfl, (TupsAt.add (hL5.same s6) hT6).set hG6, by rw [List.length_append, lL2]; rfl, fun r hr' => ?_⟩
        rcases List.mem_append.mp hr' with h | h
        · exact inL2 r h
        · rw [List.mem_singleton.mp h]
          exact ⟨by show many - 1 < n; omega, by show many + i < n; omega⟩
      rintro H5 ⟨k5, L2, hG5, hL5, lL2, inL2⟩
      have s5 := kp_same hg2 k5
      refine ⟨g1, g2, _, _, rfl, rfl, s5 _ _ hG4, hG5, by rw [List.length_map, List.length_map, sizeLine_eq]; omega, fun d hd => ?_⟩
      have s6 := same_upd (o := .lst ((L.map fun r => V.ref r.1) ++ (L2.map fun r => V.ref r.1))) hd
      have hD6 : (upd H5 d (.lst ((L.map fun r => V.ref r.1) ++ (L2.map fun r => V.ref r.1)))) d = some (.lst ((L ++ L2).map fun r => V.ref r.1)) := by rw [upd_same, List.map_append]
      have hL6 : TupsAt (upd H5 d (.lst ((L.map fun r => V.ref r.1) ++ (L2.map fun r => V.ref r.1)))) (L ++ L2) := fun r hr' => (List.mem_append.mp hr').elim (hL4.same (s5.trans s6) r) (hL5.same s6 r)
      have inL6 : ∀ r ∈ L ++ L2, r.2.1 < n ∧ r.2.2 < n := fun r hr' => (List.mem_append.mp hr').elim (inL r) (inL2 r)
      have l6 : (L ++ L2).length = n := by rw [List.length_append]; omega
      have s36 := (s4.trans s5).trans s6
      have hP6 := hP3.same s36
      have k6 := k03.trans (Same.kp (ex := [p, l]) s36)
      have d0 : H d = none := kp_free k03 (fun m => (hP3.same (s4.trans s5)).free hd m) (s4.free (s5.free hd))
      have dpl : d ∉ [p, l] := (hP3.same (s4.trans s5)).free hd
      generalize upd H5 d (.lst ((L.map fun r => V.ref r.1) ++ (L2.map fun r => V.ref r.1))) = H6 at s6 hD6 hL6 hP6 k6 s36 ⊢
      generalize L ++ L2 = L0 at hD6 hL6 inL6 l6
      have kset : ∀ {H' : Hp} {o : HO}, Kp [p, l] H H' → Kp [p, l] H (upd H' d o) := fun {H' o} k b x nb e => by
        rw [upd_ne (ne_of_none e d0)]
        exact k b x nb e
      refine at_name ?_
      dsimp only
      refine at_seq ⟨_, rfl, p, l, 3, rfl, hP6, by decide, by decide, fun rr H7 hrr hP7 k7 => ⟨_, rfl, by omega, by omega, for_range (lo := 0) (n := rr) (fun i σ H' => ∃ (L : List (Addr × (Nat × Nat))) (v5 : Option V), σ = [some (.ref p), none, some (vN many), some (vN n), some (.ref d), v5, none, none] ∧ PoolAt H' p l ∧ Kp [p, l] H H' ∧ H' d = some (.lst (L.map fun r => V.ref r.1)) ∧ TupsAt H' L ∧ (∀ r ∈ L, r.2.1 < n ∧ r.2.2 < n) ∧ L.length = n + i)
        ⟨L0, _, rfl, hP7, k6.trans k7, k7 _ _ dpl hD6, hL6.keep k7 hP6.lists, inL6, l6⟩ ?_ ?_⟩⟩
      · rintro i σ H8 hi ⟨L8, v5, rfl, hP8, k8, hD8, hL8, inL8, l8⟩
        refine ⟨_, rfl, .inl ⟨rfl, _, .inl (.inl hD8)⟩, _, rfl, _, rfl, p, l, n, rfl, hP8, by omega, by omega, fun a H9 ha hP9 k9 => ⟨_, rfl, _, rfl, p, l, n, rfl, hP9, by omega, by omega, fun b H10 hb hP10 k10 => ⟨by show 2 ≤ sizeLine; decide, fun t ht => ?_⟩⟩⟩
        have k910 := k9.trans k10
        have hD10 := k910 _ _ dpl hD8
        have hL10 : TupsAt H10 L8 := hL8.keep k910 hP8.lists
        generalize eH11 : upd H10 t _ = H11
        have s11 : Same H10 H11 := by rw [← eH11]; exact same_upd ht
        have hT11 : H11 t = some (.tup [vN a, vN b]) := by rw [← eH11]; exact upd_same
        clear eH11
        have hD11 := s11 _ _ hD10
        refine ⟨d, _, _, rfl, rfl, hD11, by rw [List.length_map]; exact small1000 (by omega), L8 ++ [(t, (a, b))], _, rfl, (hP10.same s11).set dpl, kset ((k8.trans k910).trans (Same.kp s11)), by rw [upd_same, List.map_append]; rfl, (TupsAt.add (hL10.same s11) hT11).set hD11, fun r hr' => ?_, by rw [List.length_append, l8]; rfl⟩
        rcases List.mem_append.mp hr' with h | h
        · exact inL8 r h
        · rw [List.mem_singleton.mp h]
          exact ⟨ha, hb⟩
      rintro σ H8 ⟨L8, v5, rfl, hP8, k8, hD8, hL8, inL8, l8⟩
      have ePr : (L8.map fun r => V.ref r.1) = (L8.map (·.1)).map V.ref := by rw [List.map_map]; rfl
      rw [ePr] at hD8
      have eR : rgV (many : Int) (n : Int) = ((List.range (n - many)).map fun i => many + i).map vN := by
        unfold rgV
        rw [em1, List.map_map]
        refine List.map_congr_left fun i _ => ?_
        show V.int ((many : Int) + (i : Nat)) = V.int ((many + i : Nat) : Int)
        congr 1
      refine ⟨_, rfl, _, rfl, _, rfl, _, rfl, _, rfl, _, _, rfl, rfl, .of_le (by omega) (by omega) (by omega) (by omega), fun wi hwi => ?_⟩
      have s9 := same_upd (o := .lst (rgV (many : Int) (n : Int))) hwi
      have hW9 : (upd H8 wi (.lst (rgV (many : Int) (n : Int)))) wi = some (.lst (((List.range (n - many)).map fun i => many + i).map vN)) := by rw [upd_same, eR]
      have wpl : wi ∉ [p, l] := hP8.free hwi
      refine ⟨p, l, d, wi, n, L8.map (·.1), L8.map (·.2), (List.range (n - many)).map fun i => many + i, rfl, hP8.same s9, by omega, s9 _ _ hD8, dpl, (hL8.same s9).pairs, by rw [List.length_map]; omega, fun r hr' => ?_, hW9, wpl, by rw [List.length_map, List.length_range]; omega, fun a ha => ?_, fun q' c na perm C H9 pm _ _ hQ hC _ nmd hP9 k9 => ?_⟩
      · obtain ⟨z, hz, rfl⟩ := List.mem_map.mp hr'
        exact inL8 z hz
      · obtain ⟨z, hz, rfl⟩ := List.mem_map.mp ha
        have := List.mem_range.mp hz
        omega
      · exact ⟨q', _, _, _, rfl, rfl, .inl (.inl hQ), rfl, q c C H9 hC nmd.ok (by rw [nmd.n]; omega) (by rw [nmd.n]; exact n5) (Nat.lt_of_le_of_lt nmd.few (by rw [List.length_map]; omega)) hP9 (k8.trans ((Same.kp s9).trans k9))⟩
end
end Ft

set_option Elab.async false
set_option linter.all false
set_option maxRecDepth 100000
set_option maxHeartbeats 8000000
namespace Ft
open PySem PySem.Spec PyProof.Rows L2
section
variable {P : Program} {w : World} {K : PySem.W.Frag} {mg : Str → Option Value} {base : Heap} {ca : Str → Addr}
theorem shows_bl (b : Bool) : Shows (.bool b) := shows_tame (by cases b <;> decide) (by cases b <;> decide) (by cases b <;> decide)
def sp_law (K : PySem.W.Frag) : Sp := fun vs H Q _ => ∃ (a : Addr) (ns : List Int), vs = [.ref a] ∧ SqL K H a (ns.map V.int) ∧ ∀ H', Q (.bl true) H'
theorem fn_law {f : Addr} {fd : FuncData} (T : Txt mg) (F : L2.Fun K "law" "law" s_law f fd) (c_law_pool : Cal P w K mg base 2 "_law_pool" (sp_law_pool K)) (c_law_draw : Cal P w K mg base 2 "_law_draw" sp_law_draw) (c_law_game_chart : Cal P w K mg base 6 "_law_game_chart" (sp_law_game_chart K)) (c_law_map_table : Cal P w K mg base 3 "_law_map_table" (sp_law_map_table K))
    (c_law_bound_ground : Cal P w K mg base 3 "_law_bound_ground" (sp_law_bound_ground K)) (c_law_game_lost : Cal P w K mg base 2 "_law_game_lost" (sp_law_game_lost K)) (v_safe : Cal P w K mg base 9 "safe" (sp_safe K)) (c_law_game_laid : Cal P w K mg base 10 "_law_game_laid" (sp_law_game_laid K)) : FnG P w K mg base 21 f fd ["script"] (sp_law K) := by
  refine gfun F sc_law (fun vs H Q E h => ?_) (fun cdv A outer s H vs Q E hg hr h => ?_)
  · obtain ⟨a, ns, rfl, _⟩ := h
    rfl
  · obtain ⟨sa, ns, rfl, hS0, q⟩ := h
    have hU := hr.units
    have hG := hg
    refine ⟨_, (pss_cons (ps_set (i := 1) sc_law.nd rfl (Or.inl rfl) (pe_c c_law_pool hr (by decide) (by rfl) (pa_cons (pv 0) pa_nil)))
      (pss_cons (ps_asg (pe_tup (pa_cons (pe_c c_law_draw hr (by decide) (by rfl) (pa_cons (pv 1) (pa_cons pe_int pa_nil))) (pa_cons (pe_c c_law_game_chart hr (by decide) (by rfl) (pa_cons (pv 1) pa_nil)) pa_nil))) (show PG _ _ (gTup K 2 _) from pg_tup (by rfl) (pgs_cons (pg_name (i := 2) sc_law.nd rfl (Or.inr rfl)) (pgs_cons (pg_name (i := 3) sc_law.nd rfl (Or.inr rfl)) pgs_nil))))
      (ps_cut (ps_if (pt_cmpR op_eq (pe_c c_law_draw hr (by decide) (by rfl) (pa_cons (pv 1) (pa_cons pe_int pa_nil))) pe_int (nomark _)) (pss_one (ps_set (i := 2) sc_law.nd rfl (Or.inr rfl) (pe_callB (call_min2 rfl) (by rfl) T.min (by decide +kernel) (pa_cons (pv 2) (pa_cons pe_int pa_nil))))) pss_nil)
      (pss_cons (ps_set (i := 4) sc_law.nd rfl (Or.inl rfl) (pe_c c_law_bound_ground hr (by decide) (by rfl) (pa_cons (pv 3) (pa_cons (pe_c c_law_map_table hr (by decide) (by rfl) (pa_cons (pv 3) pa_nil)) pa_nil))))
      (pss_cons (ps_set (i := 5) sc_law.nd rfl (Or.inr rfl) (pe_c c_law_game_lost hr (by decide) (by rfl) (pa_cons (pv 3) (pa_cons (pv 4) (pa_cons (pv 2) pa_nil)))))
      (pss_cons (ps_if (pt_cmpR (show OpR _ _ (rNeD K) from op_neD hU) (pe_lc (own := [("a", 6)]) rfl sc_law.nd (pi_range1 (by rfl) T.range (pa_cons (pe_ix (show IxR _ (rIxT K) from ix_tup) (pv 3) pe_int (fun _ _ => rfl)) pa_nil)) (blkOk_by (N := ["script", "pool", "k", "chart", "ground", "lost", "a"]) (sc := L2.defScope s_law) (by decide +kernel)) (fun _ _ _ _ _ => (pg_name (i := 6) sc_law.nd rfl (Or.inl rfl))) (fun _ _ _ _ _ => pts_one (pt_cmpR op_ne (pe_callB (show CallR _ _ (rRepr K) from cr_repr hG hU) (by rfl) T.repr (by decide +kernel) (pa_cons (pe_c v_safe hr (by decide) (by rfl) (pa_cons (pv 3) (pa_cons (pv 2) (pa_cons (pv 6) pa_nil)))) pa_nil)) (pe_callB (show CallR _ _ (rRepr K) from cr_repr hG hU) (by rfl) T.repr (by decide +kernel) (pa_cons (pe_cmpR (show OpR _ _ (rIn K true) from op_notIn_seq) (pv 6) (pv 5) (by rfl)) pa_nil)) (nomark _))) (fun _ _ _ _ _ => (pv 6))) (pe_lst pa_nil) (nomark _)) (pss_one (ps_ret pe_bl)) pss_nil)
      (pss_one (ps_ret (pe_c c_law_game_laid hr (by decide) (by rfl) (pa_cons (pv 3) (pa_cons (pv 4) (pa_cons (pv 2) (pa_cons (pv 5) (pa_cons (pe_c c_law_draw hr (by decide) (by rfl) (pa_cons (pv 1) (pa_cons (pe_ix (show IxR _ (rIxT K) from ix_tup) (pv 3) pe_int (fun _ _ => rfl)) pa_nil))) pa_nil)))))))))))))), ?_⟩
    refine ⟨_, rfl, sa, ns, rfl, hS0, fun p l H1 s1 _ _ hP1 => ?_⟩
    refine ⟨_, rfl, p, l, 5, rfl, hP1, by decide, by decide, fun k0 H2 hk0 hP2 k2 => ⟨_, rfl, p, l, rfl, hP2, fun c C H3 isC ok n0 n5 r64 hP3 k3 => ⟨by show 2 ≤ sizeLine; decide, fun tp htp => ⟨tp, _, rfl, .inl (.inl upd_same), rfl, _, _, rfl, _, _, rfl, rfl, ?_⟩⟩⟩⟩
    have s34 := same_upd (o := .tup [vN k0, .ref c]) htp
    have isC4 := isC.same s34
    have hP4 := hP3.same s34
    generalize upd H3 tp _ = H4 at isC4 hP4 ⊢
    refine ⟨fun σ H' => ∃ k : Nat, k ≤ 4 ∧ σ = [some (.ref sa), some (.ref p), some (vN k), some (.ref c), none, none, none] ∧ IsChart K H' c C ∧ PoolAt H' p l, ?_, ?_⟩
    · refine ⟨_, rfl, p, l, 2, rfl, hP4, by decide, by decide, fun x H5 hx hP5 k5 => ⟨rfl, _, rfl, ite_any (fun _ => ?_) (fun _ => ⟨k0, by omega, rfl, isC4.keep k5 hP4.lists, hP5⟩)⟩⟩
      refine ⟨_, rfl, _, _, rfl, ?_⟩
      obtain ⟨k, ek, hk⟩ : ∃ k : Nat, (if (2 : Int) < (k0 : Nat) then (2 : Int) else (k0 : Nat)) = (k : Int) ∧ k ≤ 4 := by
        by_cases h : (2 : Int) < (k0 : Nat)
        · exact ⟨2, by rw [if_pos h]; rfl, by decide⟩
        · exact ⟨k0, by rw [if_neg h], by omega⟩
      refine ⟨k, hk, ?_, isC4.keep k5 hP4.lists, hP5⟩
      show [some (V.ref sa), some (.ref p), some (.int (if (2 : Int) < (k0 : Nat) then (2 : Int) else (k0 : Nat))), some (.ref c), none, none, none] = _
      rw [ek]
      rfl
    · rintro σ H5 ⟨k, hk, rfl, isC5, hP5⟩
      have many : (1 + C.n) * C.roads.length ≤ 1000 := Nat.le_trans (Nat.mul_le_mul (show 1 + C.n ≤ 6 by omega) (show C.roads.length ≤ 63 by omega)) (by decide)
      refine ⟨_, rfl, _, rfl, c, C, rfl, isC5, ok, fun tb rows H6 s6 htb new hT => ⟨c, tb, C, rows, rfl, isC5.same s6, ok, hT, fun g hd cm fs lt hs cs ts H7 s7 new7 hGr => ?_⟩⟩
      have s57 := s6.trans s7
      refine ⟨_, rfl, _, rfl, _, rfl, c, g, C, k, hd, cm, fs, lt, hs, cs, ts, rfl, isC5.same s57, ok, by omega, by omega, many, hGr, fun ls G H8 s8 ls0 hLs lost => ?_⟩
      have s58 := s57.trans s8
      have isC8 := isC5.same s58
      have hP8 := hP5.same s58
      obtain ⟨r, wd, ts0, hC8⟩ := id isC8
      refine at_name ?_
      dsimp only
      refine ⟨_, rfl, _, _, _, _, rfl, rfl, hC8.top, rfl, _, rfl, by omega, by omega, fun D hD => ?_⟩
      refine lc_range (lo := 0) (n := C.n) (fun i H' => Kp [D] H8 H' ∧ H' D = some (.lst [])) ⟨(fun b o x e' => by rw [upd_ne (ne_of_none e' hD)]; exact e'), upd_same⟩ ?_ ?_
      · rintro i H9 hi ⟨k9, hD9⟩
        have s89 := kp_same hD k9
        have e0 : (0 : Int) + (i : Nat) = (i : Nat) := by omega
        refine ⟨rfl, ?_⟩
        rw [e0]
        refine ⟨_, rfl, _, rfl, _, rfl, c, C, k, i, rfl, isC8.same s89, ok, by omega, hi, fun b H10 s10 hb => ⟨_, .bool b, rfl, .bl b, shows_bl b, ?_⟩⟩
        have s810 := s89.trans s10
        refine ⟨_, rfl, _, rfl, ls, _, rfl, .inl (.inl (.inl (s810 _ _ hLs))), rfl, all_vN G, ?_⟩
        have ei : inV (V.int (i : Nat)) (G.map vN) = decide (i ∈ G) := in_vN
        rw [if_pos rfl, ei]
        have eb : b = !decide (i ∈ G) := by
          have : b = true ↔ i ∉ G := hb.trans ⟨fun h m => ((lost.mem i).mp m).elim h, fun h t m => h ((lost.mem i).mpr ⟨t, m⟩)⟩
          by_cases h : i ∈ G
          · rw [decide_eq_true h]
            cases b with
            | false => rfl
            | true => exact absurd h (this.mp rfl)
          · rw [decide_eq_false h]
            exact this.mpr h
        subst eb
        refine ⟨_, .bool _, rfl, .bl _, shows_bl _, ⟨rfl, _, rfl, ite_any (fun h => absurd h (by simp)) (fun _ => ⟨?_, s10 _ _ hD9⟩)⟩⟩
        exact k9.trans (Same.kp s10)
      rintro H9 ⟨k9, hD9⟩
      have s89 := kp_same hD k9
      refine ⟨Nat.zero_le _, fun g2 hg2 => ?_⟩
      have s910 := same_upd (o := .lst []) hg2
      refine ⟨.list [], .list [], .lst (.inl (.inl (s910 _ _ hD9))) .nil, .lst (.inl (.inl upd_same)) .nil, rfl, rfl, _, rfl, iteF ?_⟩
      have s810 := s89.trans s910
      generalize upd H9 g2 (.lst []) = H10 at s810
      have hC10 := hC8.same s810
      have hP10 := hP8.same s810
      have l10 := hP10.lists
      have hGr10 := (hGr.same s8).same s810
      have off : ∀ {z : Addr}, H5 z = none → z ∉ [p, l] := fun h => hP5.free h
      refine ⟨_, rfl, _, rfl, _, rfl, _, rfl, _, rfl, _, rfl, _, _, _, _, rfl, rfl, hC10.top, rfl, p, l, C.n, rfl, hP10, n0, by omega, fun a H11 ha hP11 k11 => ?_⟩
      refine ⟨c, g, ls, C, k, a, hd, cm, fs, lt, hs, cs, ts, G, rfl, (isC8.same s810).keep k11 l10, ok, by omega, by omega, many, hGr10.kp k11 l10 (fun z hz => off (s6.free (new7 z hz))), k11 _ _ (off (s57.free ls0)) (s810 _ _ hLs), lost, ha, fun H12 s12 => ?_⟩
      exact q _
end
end Ft

set_option Elab.async false
set_option linter.all false
set_option maxRecDepth 100000
set_option maxHeartbeats 8000000
namespace Ft
open PySem PySem.Spec PyProof.Rows L2
/-! ### all together -/
theorem def_mk {K : PySem.W.Frag} {h : Heap} {mg : Str → Option Value} {x : Str} {st : Stmt} {f : Addr} {oc : Value} {od an : Option Addr} {osl : Array (Option Value)} {kV doc pm cdv ct : Value} (X : K.In h) (G : h.Ns mainGlobals mg) (a : PySem.W.nsIn K mainGlobals x = some (some (.ref f)))
    (l : K.lookup f = some ⟨oc, od, .func (PySem.W.fnOf x x (L2.defArgs st) (L2.defBody st) (L2.defScope st) .none kV doc pm an cdv ct), osl⟩) (c : PySem.W.codeIn K cdv x = true) (k : PySem.W.keepIn K (.ref f) = true) : Def K mg x st :=
  ⟨f, _, fun_mk l c k, PySem.W.mg_of X G a⟩
theorem txt_mk {K : PySem.W.Frag} {h : Heap} {mg : Str → Option Value} (X : K.In h) (G : h.Ns mainGlobals mg) (z0 : PySem.W.nsIn K mainGlobals "isinstance" = some none) (z1 : PySem.W.nsIn K mainGlobals "len" = some none) (z2 : PySem.W.nsIn K mainGlobals "tuple" = some none) (z3 : PySem.W.nsIn K mainGlobals "int" = some none) (z4 : PySem.W.nsIn K mainGlobals "bool" = some none) (z5 : PySem.W.nsIn K mainGlobals "enumerate" = some none) (z6 : PySem.W.nsIn K mainGlobals "range" = some none) (z7 : PySem.W.nsIn K mainGlobals "set" = some none) (z8 : PySem.W.nsIn K mainGlobals "list" = some none) (z9 : PySem.W.nsIn K mainGlobals "sorted" = some none) (z10 : PySem.W.nsIn K mainGlobals "min" = some none) (z11 : PySem.W.nsIn K mainGlobals "max" = some none) (z12 : PySem.W.nsIn K mainGlobals "repr" = some none) (z13 : PySem.W.nsIn K mainGlobals "dict" = some none) (z14 : PySem.W.nsIn K mainGlobals "str" = some none) (z15 : PySem.W.nsIn K mainGlobals "any" = some none) (z16 : PySem.W.nsIn K mainGlobals "all" = some none) (z17 : PySem.W.nsIn K mainGlobals "sum" = some none) (z18 : PySem.W.nsIn K mainGlobals "zip" = some none) : Txt mg :=
  ⟨PySem.W.mg_none_of X G z0, PySem.W.mg_none_of X G z1, PySem.W.mg_none_of X G z2, PySem.W.mg_none_of X G z3, PySem.W.mg_none_of X G z4, PySem.W.mg_none_of X G z5, PySem.W.mg_none_of X G z6, PySem.W.mg_none_of X G z7, PySem.W.mg_none_of X G z8, PySem.W.mg_none_of X G z9, PySem.W.mg_none_of X G z10, PySem.W.mg_none_of X G z11, PySem.W.mg_none_of X G z12, PySem.W.mg_none_of X G z13, PySem.W.mg_none_of X G z14, PySem.W.mg_none_of X G z15, PySem.W.mg_none_of X G z16, PySem.W.mg_none_of X G z17, PySem.W.mg_none_of X G z18⟩
theorem mgI_mk {K : PySem.W.Frag} {h : Heap} {mg : Str → Option Value} {x : Str} {n : Int} {t : Tok} (X : K.In h) (G : h.Ns mainGlobals mg) (a : PySem.W.nsIn K mainGlobals x = some (some (.int n t))) : MgI mg x n := ⟨t, PySem.W.mg_of X G a⟩
theorem ok_init {P : Program} {w : World} {K : PySem.W.Frag} {mg : Str → Option Value} {base : Heap} {fI : Addr} {fd : FuncData} (F : L2.Fun K "__init__" "Refused.__init__" s_init fI fd) : FnOk P w K mg base L2.CX0 1 fI fd ["self", "what"] (spInit K) := by
  refine F.ok sc_init (fun vs H Q E h => ?_) (fun cdv A outer s H vs Q E hr h => ?_)
  · obtain ⟨a, C, v, rfl, _⟩ := h
    rfl
  · obtain ⟨a, C, v, rfl, oe, no, ha, q⟩ := h
    refine ⟨_, (pss_one (ps_ost (pv 0) (pv 1))), ?_⟩
    exact ⟨_, rfl, _, rfl, a, C, rfl, oe, no, .inl ⟨ha, fun dx n ne => q dx n ne⟩⟩
/-- what the head tells of a class of errors -/
structure ErrH (K : PySem.W.Frag) (C fI : Addr) (x : Str) : Prop where
  a : PySem.W.nsIn K mainGlobals x = some (some (.ref C))
  cl : ∃ nm q N bs bm sn sub ab col dd k0 k1 k2 k3 k5, K.lookup C = some (excClassObj nm q C N bs bm true sn sub ab col dd k0 k1 k2 k3 k5 "ValueError.__new__") ∧ PySem.HandSPX.refsVE bm = true
  sa : PySem.W.findIn K (.ref C) "__setattr__" = some (some (.builtin "object.__setattr__"))
  ga : PySem.W.findIn K (.ref C) "__getattribute__" = some (some (.builtin "BaseException.__getattribute__"))
  gg : PySem.W.findIn K (.ref C) "__getattr__" = some none
  nw : PySem.W.findIn K (.ref C) "what" = some none
  ii : PySem.W.findIn K (.ref C) "__init__" = some (some (.ref fI))
  ex : PySem.W.subIn K (.ref C) (.type "BaseException") = some true
  ty : PySem.W.typeIn K (.ref C) = some (.type "type")
  kp : PySem.W.keepIn K (.ref C) = true
  hd : PySem.W.hasDictIn K C = true
  ic : PySem.W.isClsIn K C = true
theorem errH_mk {K : PySem.W.Frag} {C fI : Addr} {x : Str} {nm q : Str} {N : Addr} {bs bm : List Value} {sn : List Str} {sub : List Value} {ab : Bool} {col : Option Bool} {dd : Option Addr} {k0 k1 k2 k3 k5 : Option Value}
    (a : PySem.W.nsIn K mainGlobals x = some (some (.ref C))) (cl : K.lookup C = some (excClassObj nm q C N bs bm true sn sub ab col dd k0 k1 k2 k3 k5 "ValueError.__new__")) (r : PySem.HandSPX.refsVE bm = true)
    (sa : PySem.W.findIn K (.ref C) "__setattr__" = some (some (.builtin "object.__setattr__"))) (ga : PySem.W.findIn K (.ref C) "__getattribute__" = some (some (.builtin "BaseException.__getattribute__"))) (gg : PySem.W.findIn K (.ref C) "__getattr__" = some none) (nw : PySem.W.findIn K (.ref C) "what" = some none)
    (ii : PySem.W.findIn K (.ref C) "__init__" = some (some (.ref fI))) (ex : PySem.W.subIn K (.ref C) (.type "BaseException") = some true) (ty : PySem.W.typeIn K (.ref C) = some (.type "type")) (kp : PySem.W.keepIn K (.ref C) = true) (hd : PySem.W.hasDictIn K C = true) (ic : PySem.W.isClsIn K C = true) : ErrH K C fI x :=
  ⟨a, ⟨nm, q, N, bs, bm, sn, sub, ab, col, dd, k0, k1, k2, k3, k5, cl, r⟩, sa, ga, gg, nw, ii, ex, ty, kp, hd, ic⟩
theorem er_mk {P : Program} {w : World} {K : PySem.W.Frag} {h : Heap} {mg : Str → Option Value} {base : Heap} {ca : Str → Addr} {x : Str} {C fI : Addr} {fd : FuncData} (X : K.In h) (G : h.Ns mainGlobals mg) (e : ErrH K C fI x) (tI : PySem.W.typeIn K (.ref fI) = some (.type "function")) (F : L2.Fun K "__init__" "Refused.__init__" s_init fI fd)
    (b : Binds K fd ["self", "what"] []) (hc : ca x = C) : Er P w K mg base ca x := by
  subst hc
  exact ⟨fI, fd, ⟨PySem.W.mg_of X G e.a, ⟨e.cl, e.sa, e.ex, e.ty, e.kp⟩, e.ii, tI, e.nw, ⟨e.ga, e.gg, e.ex, e.hd⟩⟩, ok_init F, b⟩
theorem exm_mk {K : PySem.W.Frag} {ca : Str → Addr} {x y : Str} {C D fI fJ : Addr} {b : Bool} (e : ErrH K D fJ y) (h : PySem.W.subIn K (.ref C) (.ref D) = some b) (hc : ca x = C) (hd : ca y = D) : Exm K ca x y b := by
  subst hc hd
  unfold Exm
  have h1 : (PySem.W.subIn K (.ref (ca y)) (.type "BaseException") == some true) = true := by rw [e.ex]; rfl
  have h2 : ((PySem.W.clsIn K (ca y)).isSome && PySem.W.typeIn K (.ref (ca y)) == some (.type "type")) = true := by
    have z : (PySem.W.clsIn K (ca y)).isSome = true := e.ic
    rw [z, e.ty]
    rfl
  show (if (PySem.W.subIn K (.ref (ca y)) (.type "BaseException") == some true) = true then (if ((PySem.W.clsIn K (ca y)).isSome && PySem.W.typeIn K (.ref (ca y)) == some (.type "type")) = true then PySem.W.subIn K (.ref (ca x)) (.ref (ca y)) else none) else none) = some b
  rw [if_pos h1, if_pos h2]
  exact h
def caOf (l : List (Str × Addr)) (x : Str) : Addr := (l.lookup x).getD 0
/-- what the head tells of a class -/
structure ClsH (K : PySem.W.Frag) (C : Addr) (x : Str) : Prop where
  a : PySem.W.nsIn K mainGlobals x = some (some (.ref C))
  pg : PySem.W.plainGet K C Str.empty = true
  hd : PySem.W.hasDictIn K C = true
  po : PySem.W.plainOver K C = true
  sa : PySem.W.findIn K (.ref C) "__setattr__" = some (some (.builtin "object.__setattr__"))
  mks : PySem.W.makesIn K C = true
  kp : PySem.W.keepIn K (.ref C) = true
theorem kls_mk {K : PySem.W.Frag} {h : Heap} {mg : Str → Option Value} {ka : Str → Addr} {x : Str} {C : Addr} (X : K.In h) (G : h.Ns mainGlobals mg) (e : ClsH K C x) (hc : ka x = C) : Kls K mg ka x := by
  subst hc
  exact ⟨⟨e.pg, e.hd, e.po, e.sa⟩, e.mks, e.kp, PySem.W.mg_of X G e.a⟩
theorem dm_mk {K : PySem.W.Frag} {C f : Addr} {m qual : Str} {st : Stmt} {oc : Value} {od an : Option Addr} {osl : Array (Option Value)} {kV doc pm cdv ct : Value} (a : PySem.W.findIn K (.ref C) m = some (some (.ref f))) (i : PySem.W.isFn K (.ref f) = true)
    (l : K.lookup f = some ⟨oc, od, .func (PySem.W.fnOf m qual (L2.defArgs st) (L2.defBody st) (L2.defScope st) .none kV doc pm an cdv ct), osl⟩) (c : PySem.W.codeIn K cdv qual = true) (k : PySem.W.keepIn K (.ref f) = true) : ∃ f fd, L2.Fun K m qual st f fd ∧ Meth K C m f :=
  ⟨f, _, L2.fun_mk l c k, a, i, k⟩
theorem all_mk {l : PySem.W.OpenLaw} {w : World} {K : PySem.W.Frag} {h : Heap} {mg : Str → Option Value} {fa f : Addr} {oc : Value} {od an : Option Addr} {osl : Array (Option Value)} {kV doc pm cdv ct : Value} {fI : Addr} {fdI : FuncData} {C_BadMap : Addr} {C_BadNumber : Addr} {C_BadPlace : Addr} {C_BadWish : Addr} {A_Flow : Addr} {A_Net : Addr} (X : K.In h) (G : h.Ns mainGlobals mg) (hfa : mg "law" = some (.ref fa)) (T : Txt mg)
    (D_law_pool : Def K mg "_law_pool" s_law_pool) (D_law_draw : Def K mg "_law_draw" s_law_draw) (D_law_turned : Def K mg "_law_turned" s_law_turned) (D_law_map_named : Def K mg "_law_map_named" s_law_map_named) (D_law_map_some_wished : Def K mg "_law_map_some_wished" s_law_map_some_wished) (D_law_map_drawn : Def K mg "_law_map_drawn" s_law_map_drawn) (D_law_bound_tree : Def K mg "_law_bound_tree" s_law_bound_tree) (D_law_game_chart : Def K mg "_law_game_chart" s_law_game_chart) (D_law_map_met : Def K mg "_law_map_met" s_law_map_met) (D_law_map_table : Def K mg "_law_map_table" s_law_map_table) (D_law_map_piece : Def K mg "_law_map_piece" s_law_map_piece) (D_law_bound_ground : Def K mg "_law_bound_ground" s_law_bound_ground) (D_law_bound_lots : Def K mg "_law_bound_lots" s_law_bound_lots) (D_law_bound_single : Def K mg "_law_bound_single" s_law_bound_single) (D_law_game_lost : Def K mg "_law_game_lost" s_law_game_lost) (D_is_number : Def K mg "is_number" s_is_number) (D_number_within : Def K mg "number_within" s_number_within) (D_road_fits : Def K mg "road_fits" s_road_fits) (D_check_roads : Def K mg "check_roads" s_check_roads) (D_first_bad_place : Def K mg "first_bad_place" s_first_bad_place) (D_made_map : Def K mg "made_map" s_made_map) (D_traps_number_fits : Def K mg "traps_number_fits" s_traps_number_fits) (D_check_traps_number : Def K mg "check_traps_number" s_check_traps_number) (D_place_fits : Def K mg "place_fits" s_place_fits) (D_check_place : Def K mg "check_place" s_check_place) (D_unwished_of : Def K mg "unwished_of" s_unwished_of) (D_gate : Def K mg "gate" s_gate) (D_leaving : Def K mg "leaving" s_leaving) (D_places_going : Def K mg "places_going" s_places_going) (D_rounds_of : Def K mg "rounds_of" s_rounds_of) (D_arriving : Def K mg "arriving" s_arriving) (D_checked_rounds : Def K mg "checked_rounds" s_checked_rounds) (D_safe : Def K mg "safe" s_safe) (D_places_next : Def K mg "places_next" s_places_next) (D_safe_lay : Def K mg "safe_lay" s_safe_lay) (D_law_is_whole : Def K mg "_law_is_whole" s_law_is_whole) (D_law_game_laid : Def K mg "_law_game_laid" s_law_game_laid)
    (m_MANY : MgI mg "MANY" 61) (m_MOST_PLACES : MgI mg "MOST_PLACES" 60) (m_MOST_ROADS : MgI mg "MOST_ROADS" 240) (m_MOST_TRAPS : MgI mg "MOST_TRAPS" 8) (E_BadMap : ErrH K C_BadMap fI "BadMap") (E_BadNumber : ErrH K C_BadNumber fI "BadNumber") (E_BadPlace : ErrH K C_BadPlace fI "BadPlace") (E_BadWish : ErrH K C_BadWish fI "BadWish") (tI : PySem.W.typeIn K (.ref fI) = some (.type "function")) (FI : L2.Fun K "__init__" "Refused.__init__" s_init fI fdI) (bI : Binds K fdI ["self", "what"] [])  (KH_Flow : ClsH K A_Flow "Flow") (KH_Net : ClsH K A_Net "Net") (QH_Flow_net : PySem.W.findIn K (.ref A_Flow) "net" = some none) (QH_Flow_lot : PySem.W.findIn K (.ref A_Flow) "lot" = some none) (QH_Flow_room : PySem.W.findIn K (.ref A_Flow) "room" = some none) (QH_Flow_ended : PySem.W.findIn K (.ref A_Flow) "ended" = some none) (QH_Flow_came : PySem.W.findIn K (.ref A_Flow) "came" = some none) (QH_Net_chart : PySem.W.findIn K (.ref A_Net) "chart" = some none) (QH_Net_beside : PySem.W.findIn K (.ref A_Net) "beside" = some none) (QH_Net_toward : PySem.W.findIn K (.ref A_Net) "toward" = some none) (QH_Net_rooms : PySem.W.findIn K (.ref A_Net) "rooms" = some none) (QH_Net_finish : PySem.W.findIn K (.ref A_Net) "finish" = some none) (DM_Flow__further_end : ∃ f fd, L2.Fun K "_further_end" "Flow._further_end" s_Flow__further_end f fd ∧ Meth K A_Flow "_further_end" f) (DM_Flow__add_way : ∃ f fd, L2.Fun K "_add_way" "Flow._add_way" s_Flow__add_way f fd ∧ Meth K A_Flow "_add_way" f) (DM_Flow__fill : ∃ f fd, L2.Fun K "_fill" "Flow._fill" s_Flow__fill f fd ∧ Meth K A_Flow "_fill" f) (DM_Flow___init__ : ∃ f fd, L2.Fun K "__init__" "Flow.__init__" s_Flow___init__ f fd ∧ Meth K A_Flow "__init__" f) (DM_Flow_many : ∃ f fd, L2.Fun K "many" "Flow.many" s_Flow_many f fd ∧ Meth K A_Flow "many" f) (DM_Net__join : ∃ f fd, L2.Fun K "_join" "Net._join" s_Net__join f fd ∧ Meth K A_Net "_join" f) (DM_Net___init__ : ∃ f fd, L2.Fun K "__init__" "Net.__init__" s_Net___init__ f fd ∧ Meth K A_Net "__init__" f) (DM_Flow_near : ∃ f fd, L2.Fun K "near" "Flow.near" s_Flow_near f fd ∧ Meth K A_Flow "near" f) 
    (a : PySem.W.nsIn K mainGlobals "law" = some (some (.ref f))) (lk : K.lookup f = some ⟨oc, od, .func (PySem.W.fnOf "law" "law" (L2.defArgs s_law) (L2.defBody s_law) (L2.defScope s_law) .none kV doc pm an cdv ct), osl⟩) (c : PySem.W.codeIn K cdv "law" = true) (k : PySem.W.keepIn K (.ref f) = true) :
    ∃ fd : FuncData, (∀ (s : Shared) (v : Value), BindsTo s fd ⟨[v], []⟩ [("script", v)]) ∧ ∀ base : Heap, K.In base → base.Ns mainGlobals mg → FnG l.prog w K mg base 21 fa fd ["script"] (sp_law K) := by
  have e := hfa.symm.trans (PySem.W.mg_of X G a)
  cases e
  have F := fun_mk (st := s_law) lk c k
  refine ⟨PySem.W.fnOf "law" "law" (L2.defArgs s_law) (L2.defBody s_law) (L2.defScope s_law) .none kV doc pm an cdv ct, fun s v => .of_eq rfl, fun base _ _ => ?_⟩
  let ca : Str → Addr := caOf [("BadMap", C_BadMap), ("BadNumber", C_BadNumber), ("BadPlace", C_BadPlace), ("BadWish", C_BadWish)]
  have h_BadMap : ca "BadMap" = C_BadMap := by rfl
  have h_BadNumber : ca "BadNumber" = C_BadNumber := by rfl
  have h_BadPlace : ca "BadPlace" = C_BadPlace := by rfl
  have h_BadWish : ca "BadWish" = C_BadWish := by rfl
  have e_BadMap : Er l.prog w K mg base ca "BadMap" := er_mk X G E_BadMap tI FI bI h_BadMap
  have e_BadNumber : Er l.prog w K mg base ca "BadNumber" := er_mk X G E_BadNumber tI FI bI h_BadNumber
  have e_BadPlace : Er l.prog w K mg base ca "BadPlace" := er_mk X G E_BadPlace tI FI bI h_BadPlace
  have e_BadWish : Er l.prog w K mg base ca "BadWish" := er_mk X G E_BadWish tI FI bI h_BadWish
  let ka : Str → Addr := caOf [("Flow", A_Flow), ("Net", A_Net)]
  have hk_Flow : ka "Flow" = A_Flow := by rfl
  have k_Flow : Kls K mg ka "Flow" := kls_mk X G KH_Flow hk_Flow
  have q_Flow : Attrs K ka "Flow" flowFs := fun f hf => by
    rw [hk_Flow]
    simp only [flowFs, List.mem_cons, List.not_mem_nil, or_false] at hf
    rcases hf with rfl | rfl | rfl | rfl | rfl
    · exact QH_Flow_net
    · exact QH_Flow_lot
    · exact QH_Flow_room
    · exact QH_Flow_ended
    · exact QH_Flow_came
  have hk_Net : ka "Net" = A_Net := by rfl
  have k_Net : Kls K mg ka "Net" := kls_mk X G KH_Net hk_Net
  have q_Net : Attrs K ka "Net" netFs := fun f hf => by
    rw [hk_Net]
    simp only [netFs, List.mem_cons, List.not_mem_nil, or_false] at hf
    rcases hf with rfl | rfl | rfl | rfl | rfl
    · exact QH_Net_chart
    · exact QH_Net_beside
    · exact QH_Net_toward
    · exact QH_Net_rooms
    · exact QH_Net_finish
  have D_Flow__further_end : DefM K ka "Flow" "_further_end" "Flow._further_end" s_Flow__further_end := ⟨by rw [hk_Flow]; exact DM_Flow__further_end⟩
  have D_Flow__add_way : DefM K ka "Flow" "_add_way" "Flow._add_way" s_Flow__add_way := ⟨by rw [hk_Flow]; exact DM_Flow__add_way⟩
  have D_Flow__fill : DefM K ka "Flow" "_fill" "Flow._fill" s_Flow__fill := ⟨by rw [hk_Flow]; exact DM_Flow__fill⟩
  have D_Flow___init__ : DefM K ka "Flow" "__init__" "Flow.__init__" s_Flow___init__ := ⟨by rw [hk_Flow]; exact DM_Flow___init__⟩
  have D_Flow_many : DefM K ka "Flow" "many" "Flow.many" s_Flow_many := ⟨by rw [hk_Flow]; exact DM_Flow_many⟩
  have D_Net__join : DefM K ka "Net" "_join" "Net._join" s_Net__join := ⟨by rw [hk_Net]; exact DM_Net__join⟩
  have D_Net___init__ : DefM K ka "Net" "__init__" "Net.__init__" s_Net___init__ := ⟨by rw [hk_Net]; exact DM_Net___init__⟩
  have D_Flow_near : DefM K ka "Flow" "near" "Flow.near" s_Flow_near := ⟨by rw [hk_Flow]; exact DM_Flow_near⟩
  have c_law_pool := cal_law_pool (P := l.prog) (w := w) (base := base) T D_law_pool 
  have c_law_draw := cal_law_draw (P := l.prog) (w := w) (base := base) T D_law_draw 
  have c_law_turned := cal_law_turned (P := l.prog) (w := w) (base := base) T D_law_turned c_law_draw
  have c_law_map_named := cal_law_map_named (P := l.prog) (w := w) (base := base) T D_law_map_named c_law_turned
  have c_law_map_some_wished := cal_law_map_some_wished (P := l.prog) (w := w) (base := base) T D_law_map_some_wished c_law_draw
  have c_law_map_drawn := cal_law_map_drawn (P := l.prog) (w := w) (base := base) T D_law_map_drawn c_law_draw c_law_map_named c_law_map_some_wished
  have c_law_bound_tree := cal_law_bound_tree (P := l.prog) (w := w) (base := base) T D_law_bound_tree c_law_draw c_law_map_named
  have c_law_game_chart := cal_law_game_chart (P := l.prog) (w := w) (base := base) T D_law_game_chart c_law_draw c_law_map_drawn c_law_bound_tree c_law_map_named
  have c_law_map_met := cal_law_map_met (P := l.prog) (w := w) (base := base) T D_law_map_met 
  have c_law_map_table := cal_law_map_table (P := l.prog) (w := w) (base := base) T D_law_map_table c_law_map_met
  have c_law_map_piece := cal_law_map_piece (P := l.prog) (w := w) (base := base) T D_law_map_piece 
  have c_law_bound_ground := cal_law_bound_ground (P := l.prog) (w := w) (base := base) T D_law_bound_ground c_law_map_piece
  have c_law_bound_lots := cal_law_bound_lots (P := l.prog) (w := w) (base := base) T D_law_bound_lots 
  have c_law_bound_single := cal_law_bound_single (P := l.prog) (w := w) (base := base) T D_law_bound_single 
  have c_law_game_lost := cal_law_game_lost (P := l.prog) (w := w) (base := base) T D_law_game_lost c_law_bound_lots c_law_bound_single
  have c_is_number := cal_is_number (P := l.prog) (w := w) (base := base) T D_is_number 
  have c_number_within := cal_number_within (P := l.prog) (w := w) (base := base) T D_number_within c_is_number
  have c_road_fits := cal_road_fits (P := l.prog) (w := w) (base := base) T D_road_fits c_number_within
  have c_check_roads := cal_check_roads (P := l.prog) (w := w) (base := base) T D_check_roads m_MOST_ROADS e_BadMap c_road_fits
  have c_first_bad_place := cal_first_bad_place (P := l.prog) (w := w) (base := base) T D_first_bad_place c_number_within
  have c_made_map := cal_made_map (P := l.prog) (w := w) (base := base) T D_made_map m_MOST_PLACES e_BadMap e_BadWish c_number_within c_check_roads c_first_bad_place
  have c_traps_number_fits := cal_traps_number_fits (P := l.prog) (w := w) (base := base) T D_traps_number_fits m_MOST_TRAPS c_number_within
  have c_check_traps_number := cal_check_traps_number (P := l.prog) (w := w) (base := base) T D_check_traps_number e_BadNumber c_traps_number_fits
  have c_place_fits := cal_place_fits (P := l.prog) (w := w) (base := base) T D_place_fits c_number_within
  have c_check_place := cal_check_place (P := l.prog) (w := w) (base := base) T D_check_place e_BadPlace c_place_fits
  have c_unwished_of := cal_unwished_of (P := l.prog) (w := w) (base := base) T D_unwished_of 
  have c_gate := cal_gate (P := l.prog) (w := w) (base := base) T D_gate 
  have c_leaving := cal_leaving (P := l.prog) (w := w) (base := base) T D_leaving 
  have w_Flow__further_end := calm_Flow__further_end (P := l.prog) (w := w) (base := base) T D_Flow__further_end k_Net q_Net k_Flow q_Flow c_leaving
  have w_Flow__add_way := calm_Flow__add_way (P := l.prog) (w := w) (base := base) T D_Flow__add_way k_Net q_Net k_Flow q_Flow
  have w_Flow__fill := calm_Flow__fill (P := l.prog) (w := w) (base := base) T D_Flow__fill k_Flow q_Flow w_Flow__further_end w_Flow__add_way
  have w_Flow___init__ := calm_Flow___init__ (P := l.prog) (w := w) (base := base) T D_Flow___init__ k_Net q_Net k_Flow q_Flow m_MANY c_gate w_Flow__fill
  have w_Flow_many := calm_Flow_many (P := l.prog) (w := w) (base := base) T D_Flow_many k_Flow q_Flow
  have c_places_going := cal_places_going (P := l.prog) (w := w) (base := base) T D_places_going k_Net q_Net k_Flow c_unwished_of w_Flow___init__ w_Flow_many
  have c_rounds_of := cal_rounds_of (P := l.prog) (w := w) (base := base) T D_rounds_of k_Net q_Net c_places_going
  have c_arriving := cal_arriving (P := l.prog) (w := w) (base := base) T D_arriving 
  have w_Net__join := calm_Net__join (P := l.prog) (w := w) (base := base) T D_Net__join k_Net q_Net
  have w_Net___init__ := calm_Net___init__ (P := l.prog) (w := w) (base := base) T D_Net___init__ k_Net q_Net c_arriving c_leaving m_MANY w_Net__join
  have c_checked_rounds := cal_checked_rounds (P := l.prog) (w := w) (base := base) T D_checked_rounds k_Net c_made_map c_check_traps_number c_check_place c_rounds_of w_Net___init__
  have c_safe := cal_safe (P := l.prog) (w := w) (base := base) T D_safe c_checked_rounds
  have v_safe := calv_safe (P := l.prog) (w := w) (base := base) c_safe
  have c_places_next := cal_places_next (P := l.prog) (w := w) (base := base) T D_places_next 
  have w_Flow_near := calm_Flow_near (P := l.prog) (w := w) (base := base) T D_Flow_near k_Net q_Net k_Flow q_Flow c_leaving c_places_next
  have c_safe_lay := cal_safe_lay (P := l.prog) (w := w) (base := base) T D_safe_lay k_Net k_Flow m_MANY c_unwished_of c_checked_rounds w_Net___init__ w_Flow___init__ w_Flow_near
  have v_safe_lay := calv_safe_lay (P := l.prog) (w := w) (base := base) c_safe_lay
  have c_law_is_whole := cal_law_is_whole (P := l.prog) (w := w) (base := base) T D_law_is_whole 
  have c_law_game_laid := cal_law_game_laid (P := l.prog) (w := w) (base := base) T D_law_game_laid v_safe_lay c_law_is_whole c_law_bound_single
  exact fn_law T F c_law_pool c_law_draw c_law_game_chart c_law_map_table c_law_bound_ground c_law_game_lost v_safe c_law_game_laid
theorem walk {l : PySem.W.OpenLaw} {q : Program} {loose : List Str} {XP : (Str → Option Value) → Heap → Prop} {YP : World → Heap → Prop} {d : DefRec} {K : Params → PySem.W.Frag} (hn : l.most = some 63) (hdf : d.params.defaults = [])
    (hY : ∀ (w : World) (h : Heap), YP w h → (K w.params).In h)
    (F : ∀ (w : World) (mg : Str → Option Value) (fa : Addr) (h : Heap), (K w.params).In h → h.Ns mainGlobals mg → mg d.name = some (.ref fa) →
      ∃ fd : FuncData, (∀ (s : Shared) (u : Value), BindsTo s fd ⟨[u], []⟩ [("script", u)]) ∧ ∀ base : Heap, (K w.params).In base → base.Ns mainGlobals mg → FnG l.prog w (K w.params) mg base 21 fa fd ["script"] (sp_law (K w.params))) :
    PySem.W.WalkO q loose XP YP l.row.toRowW d [] (fun f vs => PySem.call f vs) :=
  gwalk (n := 63) (k := 21) (x := "script") (sp := fun w => sp_law (K w.params)) hn (by decide) hdf ⟨rfl, by decide, by decide⟩ hY F (fun _ _ a ns _ _ hS => ⟨a, ns, rfl, hS, fun _ => rfl⟩)
end Ft

open PySem PySem.W PyProof.Rows
set_option maxRecDepth 100000 in
set_option maxHeartbeats 0 in
theorem PySem.Challenge.cw_fewtraps_k62_safe_beside_the_game_holds : PySem.Challenge.rw_fewtraps_k62_safe_beside_the_game.Holds := by
  w_on; o_law; k_head; (case hw => w_witness2)
  k_fill
  refine Ft.walk (l := PySem.Challenge.rw_fewtraps_k62_safe_beside_the_game) rfl rfl (fun w h Y => PySem.W.kIn_of Y) ?F
  case F =>
    intro w mg fa h KX G hmg
    refine' Ft.all_mk KX G hmg (Ft.txt_mk KX G ?z0 ?z1 ?z2 ?z3 ?z4 ?z5 ?z6 ?z7 ?z8 ?z9 ?z10 ?z11 ?z12 ?z13 ?z14 ?z15 ?z16 ?z17 ?z18) (Ft.def_mk KX G ?a_law_pool ?l_law_pool ?c_law_pool ?k_law_pool) (Ft.def_mk KX G ?a_law_draw ?l_law_draw ?c_law_draw ?k_law_draw) (Ft.def_mk KX G ?a_law_turned ?l_law_turned ?c_law_turned ?k_law_turned) (Ft.def_mk KX G ?a_law_map_named ?l_law_map_named ?c_law_map_named ?k_law_map_named) (Ft.def_mk KX G ?a_law_map_some_wished ?l_law_map_some_wished ?c_law_map_some_wished ?k_law_map_some_wished) (Ft.def_mk KX G ?a_law_map_drawn ?l_law_map_drawn ?c_law_map_drawn ?k_law_map_drawn) (Ft.def_mk KX G ?a_law_bound_tree ?l_law_bound_tree ?c_law_bound_tree ?k_law_bound_tree) (Ft.def_mk KX G ?a_law_game_chart ?l_law_game_chart ?c_law_game_chart ?k_law_game_chart) (Ft.def_mk KX G ?a_law_map_met ?l_law_map_met ?c_law_map_met ?k_law_map_met) (Ft.def_mk KX G ?a_law_map_table ?l_law_map_table ?c_law_map_table ?k_law_map_table) (Ft.def_mk KX G ?a_law_map_piece ?l_law_map_piece ?c_law_map_piece ?k_law_map_piece) (Ft.def_mk KX G ?a_law_bound_ground ?l_law_bound_ground ?c_law_bound_ground ?k_law_bound_ground) (Ft.def_mk KX G ?a_law_bound_lots ?l_law_bound_lots ?c_law_bound_lots ?k_law_bound_lots) (Ft.def_mk KX G ?a_law_bound_single ?l_law_bound_single ?c_law_bound_single ?k_law_bound_single) (Ft.def_mk KX G ?a_law_game_lost ?l_law_game_lost ?c_law_game_lost ?k_law_game_lost) (Ft.def_mk KX G ?a_is_number ?l_is_number ?c_is_number ?k_is_number) (Ft.def_mk KX G ?a_number_within ?l_number_within ?c_number_within ?k_number_within) (Ft.def_mk KX G ?a_road_fits ?l_road_fits ?c_road_fits ?k_road_fits) (Ft.def_mk KX G ?a_check_roads ?l_check_roads ?c_check_roads ?k_check_roads) (Ft.def_mk KX G ?a_first_bad_place ?l_first_bad_place ?c_first_bad_place ?k_first_bad_place) (Ft.def_mk KX G ?a_made_map ?l_made_map ?c_made_map ?k_made_map) (Ft.def_mk KX G ?a_traps_number_fits ?l_traps_number_fits ?c_traps_number_fits ?k_traps_number_fits) (Ft.def_mk KX G ?a_check_traps_number ?l_check_traps_number ?c_check_traps_number ?k_check_traps_number) (Ft.def_mk KX G ?a_place_fits ?l_place_fits ?c_place_fits ?k_place_fits) (Ft.def_mk KX G ?a_check_place ?l_check_place ?c_check_place ?k_check_place) (Ft.def_mk KX G ?a_unwished_of ?l_unwished_of ?c_unwished_of ?k_unwished_of) (Ft.def_mk KX G ?a_gate ?l_gate ?c_gate ?k_gate) (Ft.def_mk KX G ?a_leaving ?l_leaving ?c_leaving ?k_leaving) (Ft.def_mk KX G ?a_places_going ?l_places_going ?c_places_going ?k_places_going) (Ft.def_mk KX G ?a_rounds_of ?l_rounds_of ?c_rounds_of ?k_rounds_of) (Ft.def_mk KX G ?a_arriving ?l_arriving ?c_arriving ?k_arriving) (Ft.def_mk KX G ?a_checked_rounds ?l_checked_rounds ?c_checked_rounds ?k_checked_rounds) (Ft.def_mk KX G ?a_safe ?l_safe ?c_safe ?k_safe) (Ft.def_mk KX G ?a_places_next ?l_places_next ?c_places_next ?k_places_next) (Ft.def_mk KX G ?a_safe_lay ?l_safe_lay ?c_safe_lay ?k_safe_lay) (Ft.def_mk KX G ?a_law_is_whole ?l_law_is_whole ?c_law_is_whole ?k_law_is_whole) (Ft.def_mk KX G ?a_law_game_laid ?l_law_game_laid ?c_law_game_laid ?k_law_game_laid) (Ft.mgI_mk KX G ?m_MANY) (Ft.mgI_mk KX G ?m_MOST_PLACES) (Ft.mgI_mk KX G ?m_MOST_ROADS) (Ft.mgI_mk KX G ?m_MOST_TRAPS) (Ft.errH_mk ?ea_BadMap ?ecl_BadMap ?r_BadMap ?esa_BadMap ?ega_BadMap ?egg_BadMap ?enw_BadMap ?eii_BadMap ?eex_BadMap ?ety_BadMap ?ekp_BadMap ?ehd_BadMap ?eic_BadMap) (Ft.errH_mk ?ea_BadNumber ?ecl_BadNumber ?r_BadNumber ?esa_BadNumber ?ega_BadNumber ?egg_BadNumber ?enw_BadNumber ?eii_BadNumber ?eex_BadNumber ?ety_BadNumber ?ekp_BadNumber ?ehd_BadNumber ?eic_BadNumber) (Ft.errH_mk ?ea_BadPlace ?ecl_BadPlace ?r_BadPlace ?esa_BadPlace ?ega_BadPlace ?egg_BadPlace ?enw_BadPlace ?eii_BadPlace ?eex_BadPlace ?ety_BadPlace ?ekp_BadPlace ?ehd_BadPlace ?eic_BadPlace) (Ft.errH_mk ?ea_BadWish ?ecl_BadWish ?r_BadWish ?esa_BadWish ?ega_BadWish ?egg_BadWish ?enw_BadWish ?eii_BadWish ?eex_BadWish ?ety_BadWish ?ekp_BadWish ?ehd_BadWish ?eic_BadWish) ?tI (L2.fun_mk ?lI ?cI ?kI) (L2.Fun.binds (st := Ft.s_init) (L2.fun_mk ?lI ?cI ?kI) fun _ _ _ _ _ _ us hl => match us, hl with | [_, _], _ => rfl) ⟨?Ka_Flow, ?Kpg_Flow, ?Khd_Flow, ?Kpo_Flow, ?Ksa_Flow, ?Kmk_Flow, ?Kkp_Flow⟩ ⟨?Ka_Net, ?Kpg_Net, ?Khd_Net, ?Kpo_Net, ?Ksa_Net, ?Kmk_Net, ?Kkp_Net⟩ ?Q_Flow_net ?Q_Flow_lot ?Q_Flow_room ?Q_Flow_ended ?Q_Flow_came ?Q_Net_chart ?Q_Net_beside ?Q_Net_toward ?Q_Net_rooms ?Q_Net_finish (Ft.dm_mk ?Wa_Flow__further_end ?Wi_Flow__further_end ?Wl_Flow__further_end ?Wc_Flow__further_end ?Wk_Flow__further_end) (Ft.dm_mk ?Wa_Flow__add_way ?Wi_Flow__add_way ?Wl_Flow__add_way ?Wc_Flow__add_way ?Wk_Flow__add_way) (Ft.dm_mk ?Wa_Flow__fill ?Wi_Flow__fill ?Wl_Flow__fill ?Wc_Flow__fill ?Wk_Flow__fill) (Ft.dm_mk ?Wa_Flow___init__ ?Wi_Flow___init__ ?Wl_Flow___init__ ?Wc_Flow___init__ ?Wk_Flow___init__) (Ft.dm_mk ?Wa_Flow_many ?Wi_Flow_many ?Wl_Flow_many ?Wc_Flow_many ?Wk_Flow_many) (Ft.dm_mk ?Wa_Net__join ?Wi_Net__join ?Wl_Net__join ?Wc_Net__join ?Wk_Net__join) (Ft.dm_mk ?Wa_Net___init__ ?Wi_Net___init__ ?Wl_Net___init__ ?Wc_Net___init__ ?Wk_Net___init__) (Ft.dm_mk ?Wa_Flow_near ?Wi_Flow_near ?Wl_Flow_near ?Wc_Flow_near ?Wk_Flow_near) ?a ?l ?c ?k
    (case a_law_pool => k_is); (case l_law_pool => k_is); (case c_law_pool => k_is); (case k_law_pool => k_is)
    (case a_law_draw => k_is); (case l_law_draw => k_is); (case c_law_draw => k_is); (case k_law_draw => k_is)
    (case a_law_turned => k_is); (case l_law_turned => k_is); (case c_law_turned => k_is); (case k_law_turned => k_is)
    (case a_law_map_named => k_is); (case l_law_map_named => k_is); (case c_law_map_named => k_is); (case k_law_map_named => k_is)
    (case a_law_map_some_wished => k_is); (case l_law_map_some_wished => k_is); (case c_law_map_some_wished => k_is); (case k_law_map_some_wished => k_is)
    (case a_law_map_drawn => k_is); (case l_law_map_drawn => k_is); (case c_law_map_drawn => k_is); (case k_law_map_drawn => k_is)
    (case a_law_bound_tree => k_is); (case l_law_bound_tree => k_is); (case c_law_bound_tree => k_is); (case k_law_bound_tree => k_is)
    (case a_law_game_chart => k_is); (case l_law_game_chart => k_is); (case c_law_game_chart => k_is); (case k_law_game_chart => k_is)
    (case a_law_map_met => k_is); (case l_law_map_met => k_is); (case c_law_map_met => k_is); (case k_law_map_met => k_is)
    (case a_law_map_table => k_is); (case l_law_map_table => k_is); (case c_law_map_table => k_is); (case k_law_map_table => k_is)
    (case a_law_map_piece => k_is); (case l_law_map_piece => k_is); (case c_law_map_piece => k_is); (case k_law_map_piece => k_is)
    (case a_law_bound_ground => k_is); (case l_law_bound_ground => k_is); (case c_law_bound_ground => k_is); (case k_law_bound_ground => k_is)
    (case a_law_bound_lots => k_is); (case l_law_bound_lots => k_is); (case c_law_bound_lots => k_is); (case k_law_bound_lots => k_is)
    (case a_law_bound_single => k_is); (case l_law_bound_single => k_is); (case c_law_bound_single => k_is); (case k_law_bound_single => k_is)
    (case a_law_game_lost => k_is); (case l_law_game_lost => k_is); (case c_law_game_lost => k_is); (case k_law_game_lost => k_is)
    (case a_is_number => k_is); (case l_is_number => k_is); (case c_is_number => k_is); (case k_is_number => k_is)
    (case a_number_within => k_is); (case l_number_within => k_is); (case c_number_within => k_is); (case k_number_within => k_is)
    (case a_road_fits => k_is); (case l_road_fits => k_is); (case c_road_fits => k_is); (case k_road_fits => k_is)
    (case a_check_roads => k_is); (case l_check_roads => k_is); (case c_check_roads => k_is); (case k_check_roads => k_is)
    (case a_first_bad_place => k_is); (case l_first_bad_place => k_is); (case c_first_bad_place => k_is); (case k_first_bad_place => k_is)
    (case a_made_map => k_is); (case l_made_map => k_is); (case c_made_map => k_is); (case k_made_map => k_is)
    (case a_traps_number_fits => k_is); (case l_traps_number_fits => k_is); (case c_traps_number_fits => k_is); (case k_traps_number_fits => k_is)
    (case a_check_traps_number => k_is); (case l_check_traps_number => k_is); (case c_check_traps_number => k_is); (case k_check_traps_number => k_is)
    (case a_place_fits => k_is); (case l_place_fits => k_is); (case c_place_fits => k_is); (case k_place_fits => k_is)
    (case a_check_place => k_is); (case l_check_place => k_is); (case c_check_place => k_is); (case k_check_place => k_is)
    (case a_unwished_of => k_is); (case l_unwished_of => k_is); (case c_unwished_of => k_is); (case k_unwished_of => k_is)
    (case a_gate => k_is); (case l_gate => k_is); (case c_gate => k_is); (case k_gate => k_is)
    (case a_leaving => k_is); (case l_leaving => k_is); (case c_leaving => k_is); (case k_leaving => k_is)
    (case a_places_going => k_is); (case l_places_going => k_is); (case c_places_going => k_is); (case k_places_going => k_is)
    (case a_rounds_of => k_is); (case l_rounds_of => k_is); (case c_rounds_of => k_is); (case k_rounds_of => k_is)
    (case a_arriving => k_is); (case l_arriving => k_is); (case c_arriving => k_is); (case k_arriving => k_is)
    (case a_checked_rounds => k_is); (case l_checked_rounds => k_is); (case c_checked_rounds => k_is); (case k_checked_rounds => k_is)
    (case a_safe => k_is); (case l_safe => k_is); (case c_safe => k_is); (case k_safe => k_is)
    (case a_places_next => k_is); (case l_places_next => k_is); (case c_places_next => k_is); (case k_places_next => k_is)
    (case a_safe_lay => k_is); (case l_safe_lay => k_is); (case c_safe_lay => k_is); (case k_safe_lay => k_is)
    (case a_law_is_whole => k_is); (case l_law_is_whole => k_is); (case c_law_is_whole => k_is); (case k_law_is_whole => k_is)
    (case a_law_game_laid => k_is); (case l_law_game_laid => k_is); (case c_law_game_laid => k_is); (case k_law_game_laid => k_is)
    (case m_MANY => k_is)
    (case m_MOST_PLACES => k_is)
    (case m_MOST_ROADS => k_is)
    (case m_MOST_TRAPS => k_is)
    (case ea_BadMap => k_is); (case ecl_BadMap => k_is); (case esa_BadMap => k_is); (case ega_BadMap => k_is); (case egg_BadMap => k_is); (case enw_BadMap => k_is); (case eii_BadMap => k_is); (case eex_BadMap => k_is); (case ety_BadMap => k_is); (case ekp_BadMap => k_is); (case ehd_BadMap => k_is); (case eic_BadMap => k_is); (case r_BadMap => decide +kernel)
    (case ea_BadNumber => k_is); (case ecl_BadNumber => k_is); (case esa_BadNumber => k_is); (case ega_BadNumber => k_is); (case egg_BadNumber => k_is); (case enw_BadNumber => k_is); (case eii_BadNumber => k_is); (case eex_BadNumber => k_is); (case ety_BadNumber => k_is); (case ekp_BadNumber => k_is); (case ehd_BadNumber => k_is); (case eic_BadNumber => k_is); (case r_BadNumber => decide +kernel)
    (case ea_BadPlace => k_is); (case ecl_BadPlace => k_is); (case esa_BadPlace => k_is); (case ega_BadPlace => k_is); (case egg_BadPlace => k_is); (case enw_BadPlace => k_is); (case eii_BadPlace => k_is); (case eex_BadPlace => k_is); (case ety_BadPlace => k_is); (case ekp_BadPlace => k_is); (case ehd_BadPlace => k_is); (case eic_BadPlace => k_is); (case r_BadPlace => decide +kernel)
    (case ea_BadWish => k_is); (case ecl_BadWish => k_is); (case esa_BadWish => k_is); (case ega_BadWish => k_is); (case egg_BadWish => k_is); (case enw_BadWish => k_is); (case eii_BadWish => k_is); (case eex_BadWish => k_is); (case ety_BadWish => k_is); (case ekp_BadWish => k_is); (case ehd_BadWish => k_is); (case eic_BadWish => k_is); (case r_BadWish => decide +kernel)
    (case tI => k_is); (case lI => k_is); (case cI => k_is); (case kI => k_is)
    (case Ka_Flow => k_is); (case Kpg_Flow => k_is); (case Khd_Flow => k_is); (case Kpo_Flow => k_is); (case Ksa_Flow => k_is); (case Kmk_Flow => k_is); (case Kkp_Flow => k_is)
    (case Ka_Net => k_is); (case Kpg_Net => k_is); (case Khd_Net => k_is); (case Kpo_Net => k_is); (case Ksa_Net => k_is); (case Kmk_Net => k_is); (case Kkp_Net => k_is)
    (case Q_Flow_net => k_is)
    (case Q_Flow_lot => k_is)
    (case Q_Flow_room => k_is)
    (case Q_Flow_ended => k_is)
    (case Q_Flow_came => k_is)
    (case Q_Net_chart => k_is)
    (case Q_Net_beside => k_is)
    (case Q_Net_toward => k_is)
    (case Q_Net_rooms => k_is)
    (case Q_Net_finish => k_is)
    (case Wa_Flow__further_end => k_is); (case Wi_Flow__further_end => k_is); (case Wl_Flow__further_end => k_is); (case Wc_Flow__further_end => k_is); (case Wk_Flow__further_end => k_is)
    (case Wa_Flow__add_way => k_is); (case Wi_Flow__add_way => k_is); (case Wl_Flow__add_way => k_is); (case Wc_Flow__add_way => k_is); (case Wk_Flow__add_way => k_is)
    (case Wa_Flow__fill => k_is); (case Wi_Flow__fill => k_is); (case Wl_Flow__fill => k_is); (case Wc_Flow__fill => k_is); (case Wk_Flow__fill => k_is)
    (case Wa_Flow___init__ => k_is); (case Wi_Flow___init__ => k_is); (case Wl_Flow___init__ => k_is); (case Wc_Flow___init__ => k_is); (case Wk_Flow___init__ => k_is)
    (case Wa_Flow_many => k_is); (case Wi_Flow_many => k_is); (case Wl_Flow_many => k_is); (case Wc_Flow_many => k_is); (case Wk_Flow_many => k_is)
    (case Wa_Net__join => k_is); (case Wi_Net__join => k_is); (case Wl_Net__join => k_is); (case Wc_Net__join => k_is); (case Wk_Net__join => k_is)
    (case Wa_Net___init__ => k_is); (case Wi_Net___init__ => k_is); (case Wl_Net___init__ => k_is); (case Wc_Net___init__ => k_is); (case Wk_Net___init__ => k_is)
    (case Wa_Flow_near => k_is); (case Wi_Flow_near => k_is); (case Wl_Flow_near => k_is); (case Wc_Flow_near => k_is); (case Wk_Flow_near => k_is)
    (case z0 => k_is)
    (case z1 => k_is)
    (case z2 => k_is)
    (case z3 => k_is)
    (case z4 => k_is)
    (case z5 => k_is)
    (case z6 => k_is)
    (case z7 => k_is)
    (case z8 => k_is)
    (case z9 => k_is)
    (case z10 => k_is)
    (case z11 => k_is)
    (case z12 => k_is)
    (case z13 => k_is)
    (case z14 => k_is)
    (case z15 => k_is)
    (case z16 => k_is)
    (case z17 => k_is)
    (case z18 => k_is)
    (case a => k_is); (case l => k_is); (case c => k_is); (case k => k_is)
