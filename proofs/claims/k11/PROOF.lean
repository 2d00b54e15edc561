import PyProof.Rows.All
import Wide.All
import OpenK.AllK
import Wide.FinOn
import HandS.ForMost
import HandS.Strs
import HandS.TupSets
import HandS.SortInts
import HandS.IsInst
import HandS.TupLe
import HandS.TupAny
import HandS.DictComp
import HandS.Style
import HandS.Walk
import HandS.Conv
import KE.SortData
import KE.GoesMore
import HandS.Exc
import HandS.ExcOwn
import HandS.ExcInit
import HandS.ExcField
import HandS.TryOnly
import HandS.TryMany
import HandS.WordsExc
import HandS.SetBool
import HandS.Lambda
import HandS.EndTab
import KE.KNestM
import HandS.TupMul
import HandS.Zip
import KE.KExcIs
import HandS.ExcIs
import HandS.Deep
import PySem.Challenge.RW_fewtraps_k11_later_standings
set_option Elab.async false
set_option linter.all false
set_option maxRecDepth 100000
set_option maxHeartbeats 4000000
/-! The layer's additions: repr of data, calls of defs that ask for it, sets of ints, a dict comprehension given to a name. -/
namespace Ft
open PySem PySem.Spec PyProof.Rows L2

/-! ### repr of data -/
mutual
theorem dp_plain {K : PySem.W.Frag} {H : Hp} : ∀ (d : PyData) (v : V), Dp K H v d → d.hasDict = false
  | .none, _, _ => by simp only [PyData.hasDict]
  | .bool _, _, _ => by simp only [PyData.hasDict]
  | .int _, _, _ => by simp only [PyData.hasDict]
  | .str _, _, _ => by simp only [PyData.hasDict]
  | .list ds, _, h => by
    cases h with
    | lst _ a => simp only [PyData.hasDict]; exact dp_plains ds _ a
  | .tuple ds, _, h => by
    cases h with
    | tup _ a => simp only [PyData.hasDict]; exact dp_plains ds _ a
  | .dict _, _, h => by cases h
theorem dp_plains {K : PySem.W.Frag} {H : Hp} : ∀ (ds : List PyData) (vs : List V), DpAll K H vs ds → PyData.hasDictAll ds = false
  | [], _, _ => by simp only [PyData.hasDictAll]
  | d :: ds, _, h => by
    cases h with
    | cons h1 h2 => simp only [PyData.hasDictAll, dp_plain d _ h1, dp_plains ds _ h2, Bool.or_self]
end

/-- data that repr shows without meeting a bound -/
structure Shows (d : PyData) : Prop where
  sh : d.showable = true
  lv : d.leavesShort 13 = true
  wt : d.weight ≤ 2 ^ 20
  dp : d.depth ≤ 60

def rRepr (K : PySem.W.Frag) : List V → Hp → VK → Prop := fun xs H Q => ∃ x d, xs = [x] ∧ Dp K H x d ∧ Shows d ∧ Q (.str d.shown) H
theorem cr_repr {X : Cx} (hg : X.A.guards = some []) (hu : X.A.units + 64 < cLine) : CallR X (.builtin "repr") (rRepr X.K) := by
  intro pins s σ H xs us Q I r h
  obtain ⟨x, d, rfl, hd, S, q⟩ := h
  obtain ⟨u, rfl, rx⟩ := vals1 r
  have fits := PyData.shown_fits (by decide) (by decide) S.lv S.wt
  cases hd with
  | non =>
    cases rx
    simp only [PyData.shown] at q
    exact PySem.P.repr_of_none ⟨.str _, H, I.tok _, ⟨_, rfl⟩, q⟩
  | bl b =>
    cases rx
    simp only [PyData.shown] at q
    exact PySem.P.repr_of_bool ⟨.str _, H, I.tok _, ⟨_, rfl⟩, q⟩
  | int i =>
    obtain ⟨t, rfl⟩ := rx
    have hs := S.sh
    simp only [PyData.showable, decide_eq_true_eq] at hs
    simp only [PyData.shown] at q
    exact PySem.P.repr_of_int hs ⟨.str _, H, I.tok _, ⟨_, rfl⟩, q⟩
  | str z =>
    obtain ⟨t, rfl⟩ := rx
    simp only [PyData.shown] at q fits
    exact PySem.P.repr_of_str ⟨.str _, H, I.tok _, ⟨_, rfl⟩, q⟩ fits
  | lst h1 h2 =>
    obtain ⟨as, rd⟩ := Dp.reads I _ _ u (.lst h1 h2) rx
    cases rx
    exact repr_of_reads' rd S.sh (PyData.noDict_hsm (dp_plain _ _ (Dp.lst h1 h2))) hg (by have := S.dp; omega) (fun _ _ e => e) (fun h' v tk k => ⟨.str _, H, I.kept k, ⟨_, rfl⟩, q⟩) fits
  | tup h1 h2 =>
    obtain ⟨as, rd⟩ := Dp.reads I _ _ u (.tup h1 h2) rx
    cases rx
    exact repr_of_reads' rd S.sh (PyData.noDict_hsm (dp_plain _ _ (Dp.tup h1 h2))) hg (by have := S.dp; omega) (fun _ _ e => e) (fun h' v tk k => ⟨.str _, H, I.kept k, ⟨_, rfl⟩, q⟩) fits
end Ft

set_option Elab.async false
set_option linter.all false
set_option maxRecDepth 100000
set_option maxHeartbeats 4000000
namespace Ft
open PySem PySem.Spec PyProof.Rows L2
/-! ### defs that are called where no repr is under way -/
structure FnG (P : Program) (w : World) (K : PySem.W.Frag) (mg : Str → Option Value) (base : Heap) (k : Nat) (f : Addr) (fd : FuncData) (ps : List Str) (sp : Sp) : Prop where
  many : ∀ vs H Q E, sp vs H Q E → vs.length = ps.length
  goes : ∀ (A : Around) (out : List Env) (s : Shared) (H : Hp) (args : Args) (us : List Value) (vs : List V) (Q : VK) (E : XK), A.guards = some [] → Room k A → Env0 P w K mg base A out s H →
    BindsTo s fd args (ps.zip us) → Vals vs us → sp vs H Q E → codeAny (model P w) A (.call (.ref f) args) (CR CX0 out P w H s Q E) s
section
variable {P : Program} {w : World} {K : PySem.W.Frag} {mg : Str → Option Value} {base : Heap}
/-- by its body -/
theorem gfun {x : Str} {st : Stmt} {f : Addr} {fd : FuncData} {N ps : List Str} {k : Nat} {sp : Sp} (F : L2.Fun K x x st f fd) (S : FnScope N ps (L2.defScope st)) (many : ∀ vs H Q E, sp vs H Q E → vs.length = ps.length)
    (body : ∀ (cdv : Value) (A : Around) (out : List Env) (s : Shared) (H : Hp) (vs : List V) (Q : VK) (E : XK), A.guards = some [] → Room k (A.deeper (envOfC x (L2.defScope st) s.heap.objs.size f cdv)) → sp vs H Q E →
      ∃ t, PSs (cxOf L2.CX0 P w K mg base N x (L2.defScope st) f cdv A out s H E).nox (L2.defBody st) t ∧ t { nx := fun _ H' => Q .non H', rt := Q } (start N vs) H) :
    FnG P w K mg base (k + 1) f fd ps sp := by
  obtain ⟨oc, od, kV, doc, pm, an, cdv, ct, osl, rfl, lk, hcd⟩ := F.ex
  refine ⟨many, ?_⟩
  intro A out s H args us vs Q E hg hr e0 hb r hsp
  have hin : K.In s.heap := e0.mod.kin.keeps (fun b o q => (e0.bs b o q).1)
  have nolim : s.heap.NoLimit := e0.mod.nolimit.keeps (fun b o q => (e0.bs b o q).1)
  have kinds : ∀ y ∈ ps.zip us, (L2.defScope st).names.lookup y.1 = some .local ∨ ((L2.defScope st).names.lookup y.1 = some .cell ∧ ((cellsFrom (s.heap.objs.size + 1) (L2.defScope st).names []).lookup y.1).isSome = true) := by
    intro y hy
    cases S.par y.1 (List.of_mem_zip (a := y.1) (b := y.2) hy).1 with
    | inl q => exact .inl q
    | inr q => exact .inr ⟨q, PySem.W.cellsFrom_some _ _ _ (.inl q)⟩
  refine codeAny_call_function hr.depth (hin _ _ lk) rfl S.co S.gen rfl (PySem.W.codeRec_of hin hcd) (hb _ _ _ _ ?_)
  refine wpAny_newFunctionEnv_cells S.kind kinds fun env he s1 z => ?_
  subst he
  refine ⟨nolim.keeps z.toInCall.keep, codeAny_func ?_⟩
  obtain ⟨t, ht, hq⟩ := body cdv A out s H vs Q E hg (hr.deeper _) hsp
  have I := inv_start (CX := L2.CX0) (E := E) (f := f) (cd := cdv) (qual := x) S hr.hd e0 (many _ _ _ _ hsp) r z
  refine wpAny_mono (ht.nox.run [] s1 (start N vs) H _ I hq) ?_ (fun e s' hs => hs)
  intro fl s' hs
  have ends : ∀ {σ' : L2.St} {H' : Hp} {v : V} {u : Value}, Inv (cxOf L2.CX0 P w K mg base N x (L2.defScope st) f cdv A out s H E) [] σ' H' s' → RelV v u → Q v H' → CE out P w H s Q u s' := by
    intro σ' H' v u J rv q
    exact ⟨v, H', J.os, J.bare, J.base, J.hok, rv, q⟩
  cases fl with
  | ret u => exact let ⟨v, σ', H', J, rv, q⟩ := hs; ends J rv q
  | next => exact let ⟨σ', H', J, q⟩ := hs; ends (v := V.non) (u := Value.none) J rfl q
  | brk => exact let ⟨_, _, _, q⟩ := hs; q.elim
  | cont => exact let ⟨_, _, _, q⟩ := hs; q.elim
end
/-- called by its name -/
structure CalG (P : Program) (w : World) (K : PySem.W.Frag) (mg : Str → Option Value) (base : Heap) (k : Nat) (x : Str) (sp : Sp) : Prop where
  ex : ∃ (f : Addr) (fd : FuncData) (ps : List Str), FnG P w K mg base k f fd ps sp ∧ mg x = some (.ref f) ∧ PySem.W.keepIn K (.ref f) = true ∧ Binds K fd ps []
section
variable {X : Cx} {k j : Nat} {x : Str} {sp : Sp} {p pos : Pos} {e : Expr} {es : List Expr} {t : TA}
theorem pe_g (c : CalG X.prog X.w X.K X.mg X.base k x sp) (hgd : X.A.guards = some []) (hr : Room j X.A) (hk : k ≤ j) (hg : Gl X x) (ha : PA X (e :: es) t)
    (hdb : (x == ("__debug__" : Str)) = false := by decide) (he : starEach (e :: es) X.env = (false, eval e X.env) :: starEach es X.env := by rfl) (hpl : (backTo pos (starEach es X.env)).any (·.1) = false := by rfl) :
    PE X (.Call (.Name x p) (e :: es) [] pos) (tCall sp [] L2.E0 t) := by
  obtain ⟨f, fd, ps, F, hm, kp, b⟩ := c.ex
  refine ⟨fun pins s σ H Q I h => ?_⟩
  refine wpAny_Call_Name_kw (ld_glob I hg hm ?_ hdb)
  refine PySem.W.callWith_K (h₀ := X.base) I.ok.mod.kin kp (thn (ha.run pos pins s σ H _ I h) fun us s1 ⟨vs, H1, I1, r, q⟩ => ⟨I1.kIn, ?_⟩) he hpl
  have q2 : sp vs H1 Q L2.E0 := by
    have z : sp (vs ++ []) H1 Q L2.E0 := q
    rw [List.append_nil] at z
    exact z
  have hl : (us ++ []).length = ps.length := by rw [List.append_nil, ← r.length]; exact F.many _ _ _ _ q2
  have hb := b s1 us I1.kIn hl
  rw [List.append_nil] at hb
  refine wpAny_call (codeAny_mono (F.goes X.A X.stack s1 H1 ⟨us, []⟩ us vs Q L2.E0 hgd (hr.mono hk) I1.env0 hb r q2) ?_)
  intro o s' hq
  cases o with
  | error e => exact hq.elim
  | ok fl =>
    cases fl with
    | ret u => exact I1.after hq
    | next => exact hq.elim
    | brk => exact hq.elim
    | cont => exact hq.elim
end
/-! ### the end of a law row whose def asks for repr -/
theorem glaw {P : Program} {w : World} {K : PySem.W.Frag} {mg mb : Str → Option Value} {k : Nat} {fa a : Addr} {fd : FuncData} {x : Str} {sp : Sp} {s₁ : Shared} {vs : List Value} {ns : List Int}
    (KX : K.In s₁.heap) (hns : s₁.heap.Ns mainGlobals mg) (hb : s₁.heap.Ns builtinsNs mb) (hbb : ∀ x : Str, x ≠ "__name__" → mb x = bootBuiltins x) (hlim : s₁.heap.NoLimit) (hg : s₁.gens = #[])
    (ha : s₁.heap.get? a = some { cls := .type "list", data := .seq vs.toArray }) (hi : IntsAre vs ns) (hl : ns.length ≤ sizeLine) (hr : Room k callerA)
    (F : ∀ base : Heap, K.In base → base.Ns mainGlobals mg → FnG P w K mg base k fa fd [x] sp) (hbind : ∀ (s : Shared) (u : Value), BindsTo s fd ⟨[u], []⟩ [(x, u)])
    (hsp : ∀ H : Hp, Only H → SqL K H a (ns.map V.int) → sp [.ref a] H (fun v _ => v = .bl true) fun _ _ _ => False) :
    codeAny (model P w) callerA (.call (.ref fa) ⟨[.ref a], []⟩) (fun r s' => r = .ok (.ret (.bool true)) ∧ OldK s₁.heap s'.heap ∧ s'.os = s₁.os ∧ AllBare s'.gens) s₁ := by
  have rv := vals_ints hi
  have heart : ∀ H : Hp, Only H → SqL K H a (ns.map V.int) → HOk P w H s₁.heap → (∀ b, H b ≠ none → b = a) → (H a ≠ none → K.lookup a = none) →
      codeAny (model P w) callerA (.call (.ref fa) ⟨[.ref a], []⟩) (fun r s' => r = .ok (.ret (.bool true)) ∧ OldK s₁.heap s'.heap ∧ s'.os = s₁.os ∧ AllBare s'.gens) s₁ := by
    intro H only hS hok hA hK
    have same : ∀ {b : Addr} {u : HO}, H b = some u → b = a := fun {b u} q => hA b (by rw [q]; exact fun z => nomatch z)
    have stays : ∀ {b : Addr} {o : Obj}, s₁.heap.get? b = some o → H b = none → (hidT s₁.heap H).get? b = some o := fun q n => hidT_get q n
    have dictOff : ∀ {b : Addr} {o : Obj} {es : Array DictEntry} {ep : Nat}, s₁.heap.get? b = some o → o.data = .dict es ep → H b = none := by
      intro b o es ep q d
      cases z : H b with
      | none => rfl
      | some u =>
        have hba := same z
        subst hba
        have eo := Option.some.inj (ha.symm.trans q)
        rw [← eo] at d
        exact nomatch d
    have nsIn : ∀ {b : Addr} {m : Str → Option Value}, s₁.heap.Ns b m → (hidT s₁.heap H).Ns b m := fun ⟨o, es, ep, q, d, r⟩ => ⟨o, es, ep, stays q (dictOff q d), d, r⟩
    have kIn : K.In (hidT s₁.heap H) := by
      intro b o q
      refine stays (KX b o q) ?_
      cases z : H b with
      | none => rfl
      | some u =>
        have hba := same z
        subst hba
        have := hK (by rw [z]; exact fun y => nomatch y)
        rw [this] at q
        exact nomatch q
    have hM : Mod K mg (hidT s₁.heap H) := by
      obtain ⟨mc, l1, l2⟩ := hlim
      exact ⟨kIn, nsIn hns, ⟨mb, nsIn hb, hbb⟩, ⟨mc, nsIn l1, l2⟩⟩
    have e0 : Env0 P w K mg (hidT s₁.heap H) callerA [] s₁ H :=
      ⟨rfl, hM, fun b o q => of_hidT q, Nat.le_of_eq (hidT_size _ _), trivial, fun b hb => absurd (show b ∈ ([] : List Addr) from hb) List.not_mem_nil, hok, .of_eq hg⟩
    refine codeAny_mono ((F _ kIn (nsIn hns)).goes callerA [] s₁ H ⟨[.ref a], []⟩ [.ref a] [.ref a] _ _ rfl hr e0 (hbind s₁ (.ref a)) (.cons rfl .nil) (hsp H only hS)) ?_
    intro r s' h
    cases r with
    | error e => exact h.elim
    | ok fl =>
      cases fl with
      | next => exact h.elim
      | brk => exact h.elim
      | cont => exact h.elim
      | ret u =>
        obtain ⟨v, H', os, bare, un, hok', rr, q⟩ := h
        have q' : v = V.bl true := q
        subst q'
        have eu : u = Value.bool true := rr
        subst eu
        refine ⟨rfl, OldK.of_keep ?_, os, bare⟩
        intro b o q
        cases z : H b with
        | none => exact un.keep b o q z (fun y => absurd (show b ∈ ([] : List Addr) from y) List.not_mem_nil) (fun y => absurd y List.not_mem_nil)
        | some u =>
          rcases only b with y | ⟨ob, xs, y⟩
          · exact nomatch (z.symm.trans y)
          · obtain ⟨e1, _⟩ := hok b _ y
            obtain ⟨e2, _⟩ := hok' b _ (un.frzs b ob _ y)
            have eo := Option.some.inj (q.symm.trans e1)
            rw [eo]
            exact e2
  cases hk : K.lookup a with
  | some o =>
    have eo := Option.some.inj ((KX a o hk).symm.trans ha)
    subst eo
    exact heart (fun _ => none) (fun _ => .inl rfl) (.inr ⟨_, vs.toArray, _, hk, rfl, rfl, rfl, by rw [List.size_toArray, hi.length]; exact hl, by simpa using rv⟩) (fun b u z => nomatch (show (none : Option HO) = some u from z)) (fun b z => absurd rfl z) (fun z => absurd rfl z)
  | none =>
    have there : ∀ b u, (if b = a then some (HO.frz { cls := .type "list", data := .seq vs.toArray } (.lst (ns.map V.int))) else none) = some u → b = a ∧ u = HO.frz { cls := .type "list", data := .seq vs.toArray } (.lst (ns.map V.int)) := by
      intro b u z
      by_cases hba : b = a
      · rw [if_pos hba] at z
        exact ⟨hba, (Option.some.inj z).symm⟩
      · rw [if_neg hba] at z
        exact nomatch z
    refine heart (fun b => if b = a then some (.frz { cls := .type "list", data := .seq vs.toArray } (.lst (ns.map V.int))) else none) ?_ (.inl (.inr ⟨{ cls := .type "list", data := .seq vs.toArray }, if_pos rfl⟩)) ?_ ?_ (fun _ => hk)
    · intro b
      by_cases hba : b = a
      · exact .inr ⟨_, _, if_pos hba⟩
      · exact .inl (if_neg hba)
    · intro b u z
      obtain ⟨e1, e2⟩ := there b u z
      subst e1
      subst e2
      exact ⟨ha, by rw [List.length_map]; exact hl, vs, _, rv, ha⟩
    · intro b z
      by_cases hba : b = a
      · exact hba
      · exact absurd (if_neg hba) z
theorem gwalk {l : PySem.W.OpenLaw} {n k : Nat} {q : Program} {loose : List Str} {XP : (Str → Option Value) → Heap → Prop} {YP : World → Heap → Prop} {d : DefRec} {K : Params → PySem.W.Frag} {sp : World → Sp} {x : Str}
    (hn : l.most = some n) (hn2 : n ≤ sizeLine) (hdf : d.params.defaults = []) (hr : Room k callerA) (hY : ∀ (w : World) (h : Heap), YP w h → (K w.params).In h)
    (F : ∀ (w : World) (mg : Str → Option Value) (fa : Addr) (h : Heap), (K w.params).In h → h.Ns mainGlobals mg → mg d.name = some (.ref fa) →
      ∃ fd : FuncData, (∀ (s : Shared) (u : Value), BindsTo s fd ⟨[u], []⟩ [(x, u)]) ∧ ∀ base : Heap, (K w.params).In base → base.Ns mainGlobals mg → FnG l.prog w (K w.params) mg base k fa fd [x] (sp w))
    (hsp : ∀ (w : World) (H : Hp) (a : Addr) (ns : List Int), ns.length ≤ n → Only H → SqL (K w.params) H a (ns.map V.int) → sp w [.ref a] H (fun v _ => v = .bl true) fun _ _ _ => False) :
    PySem.W.WalkO q loose XP YP l.row.toRowW d [] (fun f vs => PySem.call f vs) := by
  refine Att.attach_call hn hdf ?_
  intro w s₀ s₁ mg mb fa o pm cd doc a vs ns G Y ho hd hcd hmg hobj hints hlen hg
  have KX := hY w _ Y
  obtain ⟨fd, hb, hF⟩ := F w mg fa _ KX G.T.g hmg
  exact glaw KX G.T.g G.T.b G.T.builtins G.T.nolimit hg hobj hints (Nat.le_trans hlen hn2) hr hF hb (fun H only hS => hsp w H a ns hlen only hS)
end Ft

set_option Elab.async false
set_option linter.all false
set_option maxRecDepth 100000
set_option maxHeartbeats 4000000
namespace Ft
open PySem PySem.Spec PyProof.Rows L2
/-! ### set(xs), xs a list of ints -/
/-- an empty set, as it is made -/
abbrev bareSet (w : World) : Obj := { cls := .type "set", dict := none, data := .set #[] 0 (.fresh 0 0 (!w.params.followText "set-order")) }
section
variable {P : Program} {w : World} {A : Around} {E : Value → Shared → Prop} {s : Shared}
set_option maxRecDepth 100000 in
theorem set_of_list {l : Addr} {its : Array Value} (ns : List Int) {Q : Value → Shared → Prop} (calm : A.handled = none) (isl : s.heap.IsList l its) (pIs : IntsAre its.toList ns) (few : ns.length + 1 < scanBound)
    (done : ∀ (h' : Heap) (tk c : Nat), SetR w h' s.heap.objs.size (fun j => decide (j ∈ ns)) c → c ≤ ns.length → (∀ b o, s.heap.get? b = some o → h'.get? b = some o) → Q (.ref s.heap.objs.size) { s with heap := h', toks := tk }) :
    wpAny (model P w) A (call (.type "set") [.ref l]) Q E s := by
  have size : its.size = ns.length := by rw [← IntsAre.length pIs, Array.length_toList]
  obtain ⟨c, tl, way⟩ := F.called_set.mro
  have made := F.called_set.made
  have under := F.called_set.sub
  refine wpAny_call (codeAny_of_tree ?_)
  show wpAny _ _ (callAny (.type "set") _) _ _ _
  refine wpAny_pure (And.intro (Code.quiet_builtin _ (by decide +kernel)) (codeAny_builtin F.entry_type_call ?_))
  rw [Around.under_plain (weight_type_call_type "set" [Value.ref l] []) rfl]
  have k1 := F.called_set.notType
  have k2 := F.called_set.canCreate
  have k3 := F.typeCall_set_1 (Value.ref l)
  repeat (any_goals (first | assumption | wp_step))
  refine codeAny_mono (code_set_led1 (.ref l) (E := E) (Q₁ := fun obj t => obj = .ref s.heap.objs.size ∧ t = { s with heap := s.heap.push (bareSet w) }) ⟨rfl, rfl⟩) fun r t ht => ?_
  match r, ht with
  | .error e, ht => exact ht
  | .ok .next, ht => exact ht
  | .ok .brk, ht => exact ht
  | .ok .cont, ht => exact ht
  | .ok (.ret obj), ht =>
    obtain ⟨e1, e2⟩ := ht
    subst e1 e2
    have atS : (s.heap.push (bareSet w)).get? s.heap.objs.size = some (bareSet w) := Heap.get?_push_size _ rfl
    have tyS : Shared.TypeIs { s with heap := s.heap.push (bareSet w) } (.ref s.heap.objs.size) "set" := ⟨_, atS, rfl⟩
    have look := F.called_set.init.lookup
    have binds := F.called_set.init.bind (.ref s.heap.objs.size)
    repeat (any_goals (first | assumption | wp_step))
    refine codeAny_mono (codeAny_call_builtin (R := wants (fun r u => r = .none ∧ ∃ h' tk c, u = { s with heap := h', toks := tk } ∧ SetR w h' s.heap.objs.size (fun j => decide (j ∈ ns)) c ∧ c ≤ ns.length ∧ (∀ b o, s.heap.get? b = some o → h'.get? b = some o)) E)
      F.called_set.init.plain F.entry_set_init (check_set_init_1 tyS ?_)) fun r2 u hu => ?_
    · obtain ⟨⟨oc, od, dat, osl⟩, hol, hcl, nl, hdl⟩ := isl
      simp only at hcl hdl
      subst hcl hdl
      have atL : (s.heap.push (bareSet w)).get? l = some { cls := .type "list", dict := od, data := .seq its nl, slots := osl } := Heap.get?_push_of_some _ hol
      have q1 := F.sub_list_set
      have q2 := F.sub_list_frozenset
      have q3 : (Value.type "list" == Value.type "dict") = false := by decide
      have isl1 : (s.heap.push (bareSet w)).IsList l its := ⟨_, atL, rfl, nl, rfl⟩
      unfold Builtin.«set.__init__» noKeywords Builtin.Frozenset.updateFrom
      generalize hit : pyIter = it
      wp_walk
      subst hit
      refine wpAny_pyIter_list isl1 ?_
      refine wpAny_bind (wpAny_runValue ?_)
      have below : l < s.heap.objs.size := Heap.lt_size hol
      have calm3 : A.in1.in1.in1.handled = none := by simp [calm]
      have apart : l ≠ (s.heap.push (bareSet w)).objs.size := by
        rw [Heap.size_push]
        exact Nat.ne_of_lt (Nat.lt_succ_of_lt below)
      have apartS : s.heap.objs.size ∉ [(s.heap.push (bareSet w)).objs.size, l] := by
        rw [Heap.size_push]
        simp only [List.mem_cons, List.mem_singleton, List.not_mem_nil, or_false, not_or]
        exact And.intro (Nat.ne_of_lt (Nat.lt_succ_self _)) (Nat.ne_of_gt below)
      have vals : ∀ (i : Nat) (v : Value), its[i]? = some v → ∃ k t, ns[i]? = some k ∧ v = .int k t := by
        intro i v hv
        have hi : i < ns.length := by
          rw [← size]
          exact (Array.getElem?_eq_some_iff.mp hv).1
        obtain ⟨t, e⟩ := PyProof.Rows.IntsAre.int_at pIs i v (by rw [Array.getElem?_toList]; exact hv)
        refine ⟨ns[i], t, List.getElem?_eq_getElem hi, ?_⟩
        rw [e, List.getD_eq_getElem?_getD, List.getElem?_eq_getElem hi]
        rfl
      refine set_update_ints ((Walks.list calm3 _ l apart its).toS) s.heap.objs.size apartS ns size few vals (its.size - 0) 0 _ (by omega) (Nat.zero_le _) ⟨⟨_, Heap.get?_push_size _ rfl, rfl, rfl⟩, isl1.push _⟩ ?start ?ends
      case start =>
        exact ⟨0, Nat.le_refl 0, setR_new_at (Heap.get?_push_of_some _ atS)⟩
      case ends =>
        intro v c' hm hc' hS'
        obtain ⟨h', g2, d', tk', os'⟩ := v
        have eg : g2 = s.gens := hm.gens
        have ed : d' = s.drawn := hm.drawn
        have eo : os' = s.os := hm.os
        subst eg ed eo
        show wpAny _ _ _ _ _ _
        refine wpAny_pure ?_
        show wpAny _ _ (ret Value.none) _ _ _
        rw [size] at hc'
        refine wpAny_pure ⟨rfl, h', tk', c', rfl, hS', hc', ?_⟩
        intro b o e
        have hb0 : b < s.heap.objs.size := Heap.lt_size e
        refine hm.heap b o ?_ (Heap.get?_push_of_some _ (Heap.get?_push_of_some _ e))
        rw [Heap.size_push]
        simp only [List.mem_cons, List.mem_singleton, List.not_mem_nil, or_false, not_or]
        exact And.intro (Nat.ne_of_lt hb0) (Nat.ne_of_lt (Nat.lt_succ_of_lt hb0))
    · match r2, hu with
      | .error e, hu => exact hu
      | .ok .next, hu => exact hu
      | .ok .brk, hu => exact hu
      | .ok .cont, hu => exact hu
      | .ok (.ret u0), hu =>
        obtain ⟨e1, h', tk, c2, e2, hS, hc2, hk⟩ := hu
        subst e1 e2
        repeat (any_goals (first | assumption | wp_step))
        exact done h' tk c2 hS hc2 hk
/-- set(xs) over the layer: a list or a tuple of ints -/
def rSetI (K : PySem.W.Frag) (w : World) : List V → Hp → VK → Prop := fun xs H Q => ∃ (l : Addr) (ns : List Int), xs = [V.ref l] ∧ (SqL K H l (ns.map V.int) ∨ SqT K H l (ns.map V.int)) ∧ ns.length ≤ 1000 ∧
  ∀ (p : Addr) (n : Nat), H p = none → n ≤ ns.length → Q (.ref p) (upd H p (SetO w p (fun j => decide (j ∈ ns)) n))
theorem cr_setI {X : Cx} (hc : X.calm = true) : CallR X (.type "set") (rSetI X.K X.w) := by
  intro pins s σ H xs us Q I r h
  obtain ⟨l, ns, rfl, hl, few, q⟩ := h
  have few1 : ns.length + 1 < scanBound := Nat.lt_of_le_of_lt (Nat.succ_le_succ few) (by decide)
  have free : H s.heap.objs.size = none := I.hok.fresh (Nat.le_refl _)
  rw [Vals.ref1 r]
  rcases hl with hl | hl
  · obtain ⟨its, rv, pl, hz⟩ := I.list hl
    refine set_of_list ns (I.ok.hd hc) pl.isList (by simpa using rv.ints) few1 fun h' tk c hS hc2 hk => ?_
    exact ⟨.ref _, upd H s.heap.objs.size (SetO X.w s.heap.objs.size (fun j => decide (j ∈ ns)) c), I.laid (t' := tk) hk (Nat.le_refl _) (setO_new hS), rfl, q _ _ free hc2⟩
  · obtain ⟨its, rv, pt, hz⟩ := I.tuple hl
    have pt2 : s.heap.IsTuple l its.toArray := pt
    refine call_set_tupI ns (I.ok.hd hc) pt2 (by simpa using ints_of_vals rv) few1 fun h' tk c hS hc2 hk => ?_
    exact ⟨.ref _, upd H s.heap.objs.size (SetO X.w s.heap.objs.size (fun j => decide (j ∈ ns)) c), I.laid (t' := tk) hk (Nat.le_refl _) (setO_new hS), rfl, q _ _ free hc2⟩
end
end Ft

set_option Elab.async false
set_option linter.all false
set_option maxRecDepth 100000
set_option maxHeartbeats 4000000
namespace Ft
open PySem PySem.Spec PyProof.Rows L2
/-! ### sorted of tuples of ints, whatever their lengths -/
abbrev Row := Addr × List Int
def leR (p q : Row) : Bool := decide (p.2 ≤ q.2)
def encR (p : Row) : PyData := .tuple (p.2.map .int)
theorem leR_is : PySem.W.dataLe false encR = leR := by
  funext p q
  show (!PySem.W.dataLt (.tuple (q.2.map .int)) (.tuple (p.2.map .int))) = decide (p.2 ≤ q.2)
  rw [PySem.W.dataLt_tuple]
  have e := PySem.W.dataLt_ints q.2 p.2
  unfold PySem.W.rowLt at e
  rw [e]
  by_cases h : q.2 < p.2
  · have h' : ¬ p.2 ≤ q.2 := fun r => List.not_lt.mpr r h
    simp [h, h']
  · have h' : p.2 ≤ q.2 := List.not_lt.mp h
    simp [h, h']
theorem leR_trans (a b c : Row) (h1 : leR a b = true) (h2 : leR b c = true) : leR a c = true :=
  decide_eq_true (List.le_trans (of_decide_eq_true h1) (of_decide_eq_true h2))
theorem leR_total (a b : Row) : (leR a b || leR b a) = true := by
  rcases List.le_total a.2 b.2 with h | h
  · simp [leR, h]
  · simp [leR, h]
theorem rows_alike (L : List Row) : PySem.W.AllAlike (L.map encR) :=
  PySem.W.AllAlike.of fun b b' => by
    show PySem.W.alike (.tuple (b.2.map .int)) (.tuple (b'.2.map .int)) = true
    simp only [PySem.W.alike]
    exact PySem.W.alike_ints _ _
theorem rows_sortable {L : List Row} (h : ∀ p ∈ L, p.2 ≠ []) : PySem.W.Sortable (L.map encR) := .inl fun d hd => by
  obtain ⟨b, hb, rfl⟩ := List.mem_map.mp hd
  have := h b hb
  show ∃ x r, PyData.tuple (b.2.map .int) = .tuple (x :: r)
  cases e : b.2 with
  | nil => exact absurd e this
  | cons x r => exact ⟨.int x, r.map .int, rfl⟩
theorem rows_deep {A : Around} {k : Nat} {L : List Row} (hu : A.units + k + 1 < cLine) : ∀ b, b ∈ L → A.units + k + (encR b).depth < cLine := by
  intro b _
  have e : (encR b).depth = 1 := by
    show PyData.depth (.tuple (b.2.map .int)) = 1
    simp only [PyData.depth, PySem.W.depth_ints]
  rw [e]
  exact hu
theorem rows_each : ∀ (L : List Row), PySem.W.EachIs (fun v (p : Row) => v = Value.ref p.1) (L.map fun p => Value.ref p.1) L
  | [] => .nil
  | p :: L => .cons rfl (rows_each L)
theorem rows_back : ∀ {vs : List Value} {L : List Row}, PySem.W.EachIs (fun v (p : Row) => v = Value.ref p.1) vs L → vs = L.map fun p => Value.ref p.1
  | _, _, .nil => rfl
  | _, _, .cons h t => by rw [h, rows_back t]; rfl
section
variable {X : Cx} {pins : List (Addr × Obj)} {σ : L2.St} {H : Hp} {s : Shared}
theorem dpAll_ints {K : PySem.W.Frag} {H : Hp} : ∀ ns : List Int, DpAll K H (ns.map V.int) (ns.map PyData.int)
  | [] => .nil
  | n :: ns => .cons (.int n) (dpAll_ints ns)
theorem rows_read (I : Inv X pins σ H s) : ∀ (L : List Row), (∀ p ∈ L, SqT X.K H p.1 (p.2.map V.int)) → PySem.W.EachIs (fun v b => ∃ as, Reads s.heap v (encR b) as) (L.map fun p => Value.ref p.1) L
  | [], _ => .nil
  | p :: L, h => .cons (Dp.reads I (encR p) (.ref p.1) (.ref p.1) (.tup (h p List.mem_cons_self) (dpAll_ints p.2)) rfl) (rows_read I L fun q hq => h q (List.mem_cons_of_mem _ hq))
end
/-- sorted(xs), xs a list of tuples of ints -/
def rSortedR (K : PySem.W.Frag) : List V → Hp → VK → Prop := fun vs H Q => ∃ (a : Addr) (L : List Row), vs = [V.ref a] ∧ SqL K H a (L.map fun p => V.ref p.1) ∧ (∀ p ∈ L, SqT K H p.1 (p.2.map V.int)) ∧ (∀ p ∈ L, p.2 ≠ []) ∧
  ∀ p, H p = none → Q (.ref p) (upd H p (.lst ((L.mergeSort leR).map fun p => V.ref p.1)))
theorem cr_sortedR {X : Cx} (hu : X.A.units + 64 < cLine) : CallR X (.builtin "sorted") (rSortedR X.K) := by
  intro pins s σ H xs us Q I r h
  obtain ⟨a, L, rfl, hl, hk, hne, q⟩ := h
  rw [Vals.ref1 r]
  obtain ⟨its, rv, pl, hz⟩ := I.list hl
  have ei : its = L.map fun p => Value.ref p.1 := refs_of_vals rv
  subst ei
  have hz2 : L.length ≤ sizeLine := by simpa using hz
  refine PySem.W.sorted_data (bs := L) (enc := encR) pl.isList (rows_each L) (rows_read I L hk) (rows_alike L) (rows_sortable hne) hz2 (rows_deep (k := 2) (by omega)) fun out hlen he => ?_
  rw [leR_is] at he
  have eo := rows_back he
  subst eo
  obtain ⟨ep, ho⟩ := PyProof.Rows.sortedAll_at s.heap (L.map fun p => Value.ref p.1) ((L.mergeSort leR).map fun p => Value.ref p.1).toArray
  refine ⟨.ref _, upd H (s.heap.objs.size + 1) (.lst ((L.mergeSort leR).map fun p => V.ref p.1)), I.laid (t' := s.toks) (fun _ _ => PyProof.Rows.sortedAll_old) (Nat.le_succ _) ⟨?_, _, ep, vals_of_refs _, ho⟩, rfl, q _ (I.hok.fresh (Nat.le_succ _))⟩
  rw [List.length_map, List.length_mergeSort]
  exact hz2
/-- sorted of a set of tuples of ints -/
theorem rows_order {L : List Row} : ∀ {vs : List Value}, (∀ v ∈ vs, ∃ q ∈ L, v = Value.ref q.1) → ∃ L1 : List Row, vs = L1.map (fun q => Value.ref q.1) ∧ ∀ q ∈ L1, q ∈ L
  | [], _ => ⟨[], rfl, fun q hq => nomatch hq⟩
  | v :: vs, h => by
    obtain ⟨q, hq, e⟩ := h v List.mem_cons_self
    obtain ⟨L1, e1, h1⟩ := rows_order (vs := vs) fun u hu => h u (List.mem_cons_of_mem _ hu)
    refine ⟨q :: L1, by rw [e, e1]; rfl, fun r hr => ?_⟩
    cases hr with
    | head => exact hq
    | tail _ z => exact h1 r z
section
variable {P : Program} {w : World} {A : Around} {E : Value → Shared → Prop} {s : Shared}
theorem nodup_back {α β : Type} {f : α → β} : ∀ {l : List α}, (l.map f).Nodup → l.Nodup
  | [], _ => List.nodup_nil
  | a :: l, h => by
    obtain ⟨h1, h2⟩ := List.nodup_cons.mp h
    exact List.nodup_cons.mpr ⟨fun z => h1 (List.mem_map.mpr ⟨a, z, rfl⟩), nodup_back h2⟩
theorem sorted_rows {a : Addr} {L : List Row} {es : Array (Int × Value)} {ep : Nat} {t : SetTable} {Q : Value → Shared → Prop} (R : SetTR P w s.heap a L es ep t) (hh : A.handled = none) (hu : A.units + 64 < cLine) (hne : ∀ p ∈ L, p.2 ≠ [])
    (rd : ∀ p ∈ L, ∃ as, Reads s.heap (.ref p.1) (encR p) as)
    (done : ∀ s' p (c : Nat) (L' : List Row), (∀ b o, s.heap.get? b = some o → s'.heap.get? b = some o) → s'.gens = s.gens → s'.os = s.os → s.heap.objs.size ≤ p →
      s'.heap.get? p = some (seqObj "list" (L'.map fun q => Value.ref q.1).toArray c) → L'.Perm L → L'.Pairwise (fun q r => q.2 ≤ r.2) → Q (.ref p) s') :
    wpAny (model P w) A (call (.builtin "sorted") [.ref a]) Q E s := by
  obtain ⟨o, ho, hex, hd⟩ := R.ob
  have size := R.size
  have few := R.few
  refine Calls.call_function_entry kind_sorted plain_sorted entry_sorted (args_sorted1 _) ?_
  unfold Builtin.«sorted»
  refine wpAny_bind (m := checkCount "sorted" 1 1 _) (wpAny_pure ?_)
  refine wpAny_bind (collect_set (A := A.in1) hh ⟨o, ho, hex.1, hd⟩ R.fits (by rw [size]; exact Nat.lt_trans few (by decide)) R.tab.ris R.led fun s1 vs k1 hz g1 o1 pm => ?_)
  have rows : es.toList.map (·.2) = L.map fun q => Value.ref q.1 := by
    rw [R.rows]
    unfold rowsOf
    rw [List.map_map]
    rfl
  rw [rows] at pm
  obtain ⟨L1, e1, sub1⟩ := rows_order (L := L) (vs := vs) fun v hv => by
    obtain ⟨q, hq, e⟩ := List.mem_map.mp (pm.mem_iff.mp hv)
    exact ⟨q, hq, e.symm⟩
  have apart : ∀ q ∈ L, ∀ r ∈ L, q.1 = r.1 → q = r := by
    intro q hq r hr e
    have t1 := R.tup q hq
    have t2 := R.tup r hr
    rw [e] at t1
    exact Prod.ext e (t1.inj t2)
  have pm1 : L1.Perm L := by
    have nL : L.Nodup := nodup_back R.nd
    have nR : (L.map fun q => Value.ref q.1).Nodup := by
      refine List.pairwise_map.mpr (List.Pairwise.imp_of_mem (fun {q r} hq hr hn e => ?_) nL)
      injection e with e
      exact hn (apart q hq r hr e)
    rw [e1] at pm
    refine (List.perm_ext_iff_of_nodup (nodup_back (pm.nodup_iff.mpr nR)) nL).mpr fun q => ⟨sub1 q, fun hq => ?_⟩
    obtain ⟨r, hr, e⟩ := List.mem_map.mp (pm.mem_iff.mpr (List.mem_map.mpr ⟨q, hq, rfl⟩))
    injection e with e
    rw [← apart r (sub1 r hr) q hq e]
    exact hr
  subst e1
  have len1 : L1.length < 64 := by rw [pm1.length_eq]; exact few
  have line1 : L1.length ≤ sizeLine := by rw [sizeLine_eq]; omega
  refine wpAny_bind (wpAny_newList ?_ (by simpa using line1))
  have hoL : (s1.heap.push (seqObj "list" (L1.map fun q => Value.ref q.1).toArray 0)).get? s1.heap.objs.size = some (seqObj "list" (L1.map fun q => Value.ref q.1).toArray 0) := Heap.get?_push_size _ rfl
  have er : ∀ (M : List Row), (∀ q ∈ M, q ∈ L) → PySem.W.EachIs (fun v b => ∃ as, Reads (s1.heap.push (seqObj "list" (L1.map fun q => Value.ref q.1).toArray 0)) v (encR b) as ∧ s1.heap.objs.size ∉ as) (M.map fun p => Value.ref p.1) M := by
    intro M
    induction M with
    | nil => intro _; exact .nil
    | cons p M ih =>
      intro hM
      obtain ⟨as, r0⟩ := rd p (hM p List.mem_cons_self)
      have r1 := PyProof.Rows.Reads.keeps (h' := s1.heap.push (seqObj "list" (L1.map fun q => Value.ref q.1).toArray 0)) (fun b u e => Heap.get?_push_of_some _ (k1 b u e)) r0
      refine .cons ⟨as, r1, ?_⟩ (ih fun q hq => hM q (List.mem_cons_of_mem _ hq))
      have flat : ∀ {h : Heap} {ns : List Int} {us : List Value} {bs : List Addr}, ReadsAll h us (ns.map PyData.int) bs → bs = [] := by
        intro h ns
        induction ns with
        | nil => intro us bs z; cases z; rfl
        | cons n ns ih2 =>
          intro us bs z
          cases z with
          | cons z1 z2 =>
            cases z1
            rw [ih2 z2]
            rfl
      have e0 : as = [] := by
        cases r0 with
        | tuple _ _ _ z => exact flat z
      rw [e0]
      exact List.not_mem_nil
  refine wpAny_bind (wpAny_holding (PySem.W.list_sort_data (s := { s1 with heap := s1.heap.push (seqObj "list" (L1.map fun q => Value.ref q.1).toArray 0) }) (R := fun v (p : Row) => v = Value.ref p.1) (bs := L1) (enc := encR) hoL (rows_each L1) (er L1 sub1) (rows_alike L1)
    (rows_sortable fun p hp => hne p (sub1 p hp)) line1 (rows_deep (k := 1) (by show A.units + 1 + 1 + 1 < cLine; omega)) fun out hlen he => ?_))
  rw [leR_is] at he
  have eo := rows_back he
  subst eo
  obtain ⟨c, hc⟩ := sortedHeap_at (vs := L1.map fun q => Value.ref q.1) (out := ((L1.mergeSort leR).map fun q => Value.ref q.1).toArray) hoL
  refine wpAny_pure ⟨_, rfl, done _ s1.heap.objs.size c (L1.mergeSort leR) (fun b u e => ?_) g1 o1 hz hc ((List.mergeSort_perm L1 leR).trans pm1) ?_⟩
  · have q := k1 b u e
    have hlt := Heap.lt_size q
    show (sortedHeap (s1.heap.push (seqObj "list" (L1.map fun q => Value.ref q.1).toArray 0)) s1.heap.objs.size (L1.map fun q => Value.ref q.1) _).get? b = some u
    rw [sortedHeap_old (Nat.ne_of_lt hlt) (by rw [size_push']; exact Nat.lt_succ_of_lt hlt)]
    exact Heap.get?_push_of_some _ q
  · exact (List.pairwise_mergeSort leR_trans leR_total L1).imp fun h => of_decide_eq_true h
end
/-- sorted(set), any tuples of ints -/
def rSortedS (K : PySem.W.Frag) (P : Program) (w : World) : List V → Hp → VK → Prop := fun vs H Q => ∃ (a : Addr) (L : List Row), vs = [V.ref a] ∧ H a = some (SetTO P w a L) ∧ (∀ p ∈ L, SqT K H p.1 (p.2.map V.int)) ∧ (∀ p ∈ L, p.2 ≠ []) ∧
  ∀ (L' : List Row) (p : Addr), L'.Perm L → (L'.map (·.2)).Nodup → L'.length < 64 → L'.Pairwise (fun q r => q.2 ≤ r.2) → H p = none → Q (.ref p) (upd H p (.lst (L'.map fun q => V.ref q.1)))
theorem cr_sortedSR {X : Cx} (hc : X.calm = true) (hu : X.A.units + 64 < cLine) : CallR X (.builtin "sorted") (rSortedS X.K X.prog X.w) := by
  intro pins s σ H xs us Q I r h
  obtain ⟨a, L, rfl, ha, hk, hne, q⟩ := h
  obtain ⟨es, ep, t, R⟩ := SetT0.full (I.hok a _ ha).1 fun p hp => I.isT (hk p hp)
  rw [Vals.ref1 r]
  refine sorted_rows R (I.ok.hd hc) hu hne (fun p hp => Dp.reads I (encR p) (.ref p.1) (.ref p.1) (.tup (hk p hp) (dpAll_ints p.2)) rfl) fun s' p c L' k g o hp hg pm pw => ?_
  have few : L'.length < 64 := by rw [pm.length_eq]; exact R.few
  have line : (L'.map fun q => V.ref q.1).length ≤ sizeLine := by rw [List.length_map, sizeLine_eq]; omega
  have free : H p = none := I.hok.fresh hp
  have J : Inv X pins σ (upd H p (.lst (L'.map fun q => V.ref q.1))) s' := I.call' (s' := s') (ch := []) o (Un.laid k hp free) (I.hok.laid k hp ⟨line, _, c, vals_of_refs L', hg⟩) (by rw [g]; exact I.bare) (fun _ z => nomatch z)
  exact ⟨.ref p, _, J, rfl, q L' p pm ((pm.map (·.2)).nodup_iff.mpr R.nd) few pw free⟩
end Ft

set_option Elab.async false
set_option linter.all false
set_option maxRecDepth 100000
set_option maxHeartbeats 4000000
namespace Ft
open PySem PySem.Spec PyProof.Rows L2
/-! ### a def that may be called by its name -/
structure Cal (P : Program) (w : World) (K : PySem.W.Frag) (mg : Str → Option Value) (base : Heap) (k : Nat) (x : Str) (sp : Sp) : Prop where
  ex : ∃ (f : Addr) (fd : FuncData) (ps : List Str), FnOk P w K mg base L2.CX0 k f fd ps sp ∧ mg x = some (.ref f) ∧ PySem.W.keepIn K (.ref f) = true ∧ Binds K fd ps []
theorem pe_c {X : Cx} {k j : Nat} {x : Str} {sp : Sp} {p pos : Pos} {e : Expr} {es : List Expr} {t : TA} (c : Cal X.prog X.w X.K X.mg X.base k x sp) (hr : Room j X.A) (hk : k ≤ j) (hg : Gl X x) (ha : PA X (e :: es) t)
    (hdb : (x == ("__debug__" : Str)) = false := by decide) (he : starEach (e :: es) X.env = (false, eval e X.env) :: starEach es X.env := by rfl) (hpl : (backTo pos (starEach es X.env)).any (·.1) = false := by rfl) :
    PE X (.Call (.Name x p) (e :: es) [] pos) (tCall sp [] L2.E0 t) := by
  obtain ⟨f, fd, ps, F, hm, kp, b⟩ := c.ex
  exact pe_call F (hr.mono hk) hg hm kp b .nil L2.pass0 ha hdb he hpl
/-- a def of the module as it stands behind the top, under its name -/
structure Def (K : PySem.W.Frag) (mg : Str → Option Value) (x : Str) (st : Stmt) : Prop where
  ex : ∃ (f : Addr) (fd : FuncData), L2.Fun K x x st f fd ∧ mg x = some (.ref f)
theorem cal_of {P : Program} {w : World} {K : PySem.W.Frag} {mg : Str → Option Value} {base : Heap} {x : Str} {st : Stmt} {N ps : List Str} {k : Nat} {sp : Sp} (D : Def K mg x st) (S : FnScope N ps (L2.defScope st))
    (bd : ∀ (kV doc pm : Value) (an : Option Addr) (cdv ct : Value) (us : List Value), us.length = ps.length → bindArgs (PySem.W.fnOf x x (L2.defArgs st) (L2.defBody st) (L2.defScope st) .none kV doc pm an cdv ct) ⟨us, []⟩ = pure (ps.zip us))
    (len : ∀ vs H Q E, sp vs H Q E → vs.length = ps.length)
    (body : ∀ (f : Addr) (cdv : Value) (A : Around) (outer : List Env) (s : Shared) (H : Hp) (vs : List V) (Q : VK) (E : XK), Room k (A.deeper (envOfC x (L2.defScope st) s.heap.objs.size f cdv)) → sp vs H Q E →
      ∃ t, PSs (cxOf L2.CX0 P w K mg base N x (L2.defScope st) f cdv A outer s H E).nox (L2.defBody st) t ∧ t { nx := fun _ H' => Q .non H', rt := Q } (start N vs) H) : Cal P w K mg base (k + 1) x sp := by
  obtain ⟨f, fd, F, hm⟩ := D.ex
  exact ⟨f, fd, ps, F.ok S len (body f), hm, F.kp, F.binds bd⟩
theorem calG_of {P : Program} {w : World} {K : PySem.W.Frag} {mg : Str → Option Value} {base : Heap} {x : Str} {st : Stmt} {N ps : List Str} {k : Nat} {sp : Sp} (D : Def K mg x st) (S : FnScope N ps (L2.defScope st))
    (bd : ∀ (kV doc pm : Value) (an : Option Addr) (cdv ct : Value) (us : List Value), us.length = ps.length → bindArgs (PySem.W.fnOf x x (L2.defArgs st) (L2.defBody st) (L2.defScope st) .none kV doc pm an cdv ct) ⟨us, []⟩ = pure (ps.zip us))
    (len : ∀ vs H Q E, sp vs H Q E → vs.length = ps.length)
    (body : ∀ (f : Addr) (cdv : Value) (A : Around) (out : List Env) (s : Shared) (H : Hp) (vs : List V) (Q : VK) (E : XK), A.guards = some [] → Room k (A.deeper (envOfC x (L2.defScope st) s.heap.objs.size f cdv)) → sp vs H Q E →
      ∃ t, PSs (cxOf L2.CX0 P w K mg base N x (L2.defScope st) f cdv A out s H E).nox (L2.defBody st) t ∧ t { nx := fun _ H' => Q .non H', rt := Q } (start N vs) H) : CalG P w K mg base (k + 1) x sp := by
  obtain ⟨f, fd, F, hm⟩ := D.ex
  exact ⟨f, fd, ps, gfun F S len (body f), hm, F.kp, F.binds bd⟩

/-! ### enumerate(tuple) -/
theorem enum_newT (l : Addr) (items : Array Value) (n : Nat) (dct : Option Addr) (sl : Array (Option Value)) :
    Meets (Builtin.«enumerate.__new__» ⟨[.type "enumerate", .ref l], []⟩) (fun _ R s => s.heap.get? l = some { cls := .type "tuple", dict := dct, data := .seq items n, slots := sl } ∧
      R (.ok (.ret (.ref (s.heap.push { cls := .type "tuple_iterator", data := .fields #[.ref l, .int 0 0] }).objs.size)))
        { s with heap := (s.heap.push { cls := .type "tuple_iterator", data := .fields #[.ref l, .int 0 0] }).push { cls := .type "enumerate", data := .fields #[.none, .bool false, .ref s.heap.objs.size, rawInt 0, .none, .none] } }) :=
  .of_wp fun prog w A R s h => by
    obtain ⟨hp, g, d, tk, os⟩ := s
    obtain ⟨hl, h⟩ := h
    have sub := sub_enumerate
    have tup : Heap.IsTuple (Shared.heap ⟨hp, g, d, tk, os⟩) l items := ⟨_, hl, rfl, n, rfl⟩
    wp_walk using PySem.AutoSeq1.wpAny_loadPart' hl
    refine wpAny_stack_any fun st => wpAny_pure ?_
    split
    · rename_i c _ _ _ _ _
      cases (c == Value.type "enumerate")
      · wp_walk using PySem.AutoSeq1.wpAny_loadPart' hl, wpAny_pyIter_tuple tup
        exact ⟨_, rfl, h⟩
      · wp_walk using PySem.AutoSeq1.wpAny_loadPart' hl, wpAny_pyIter_tuple tup
        exact ⟨_, rfl, h⟩
    · wp_walk using PySem.AutoSeq1.wpAny_loadPart' hl, wpAny_pyIter_tuple tup
      exact ⟨_, rfl, h⟩
theorem enum_tuple {prog : Program} {w : World} {A : Around} {E : Value → Shared → Prop} {s : Shared} {l : Addr} {items : Array Value} {Q : Value → Shared → Prop} (hL : s.heap.IsTuple l items)
    (h : ∀ h', IsEnum h' (s.heap.objs.size + 1) s.heap.objs.size 0 .none → h'.IsTupleIter s.heap.objs.size l 0 → h'.objs.size = s.heap.objs.size + 2 → (∀ b o, s.heap.get? b = some o → h'.get? b = some o) → Q (.ref (s.heap.objs.size + 1)) { s with heap := h' }) :
    wpAny (model prog w) A (call (.type "enumerate") [.ref l]) Q E s := by
  obtain ⟨⟨c, dct, dt, sl⟩, hl, hc, n, hd⟩ := hL
  replace hc : c = .type "tuple" := hc
  replace hd : dt = .seq items n := hd
  subst hc hd
  refine callType_new F.called_enumerate (by decide) (F.typeCall_enumerate_1 _) (F.newCall_enumerate_1 _) (fun obj => F.args_object_init_2 obj _) F.entry_enumerate_new (enum_newT l items n dct sl) ⟨hl, ?_⟩
  have hz : (s.heap.push { cls := .type "tuple_iterator", data := .fields #[.ref l, .int 0 0] }).objs.size = s.heap.objs.size + 1 := Heap.size_push ..
  show _ ∧ _
  rw [hz]
  have he : IsEnum ((s.heap.push { cls := .type "tuple_iterator", data := .fields #[.ref l, .int 0 0] }).push { cls := .type "enumerate", data := .fields #[.none, .bool false, .ref s.heap.objs.size, rawInt 0, .none, .none] }) (s.heap.objs.size + 1) s.heap.objs.size 0 .none := by
    have q := Heap.get?_push_size (s.heap.push { cls := .type "tuple_iterator", data := .fields #[.ref l, .int 0 0] }) (o := { cls := .type "enumerate", data := .fields #[.none, .bool false, .ref s.heap.objs.size, rawInt 0, .none, .none] }) rfl
    rw [hz] at q
    exact q
  exact ⟨⟨_, he, rfl⟩, h _ he ⟨_, Heap.get?_push_of_some _ (Heap.get?_push_size _ rfl), rfl, rfl⟩ (by rw [Heap.size_push, hz]) fun b o x => Heap.get?_push_of_some _ (Heap.get?_push_of_some _ x)⟩
def IteT (K : PySem.W.Frag) (a : Addr) : It :=
  ⟨fun i H => ∃ (xs : List V) (x : V), SqT K H a xs ∧ xs[i]? = some x, fun i H v H' => ∃ T x, v = .ref T ∧ H T = none ∧ H' = upd H T (.tup [.int (i : Nat), x]) ∧ ∀ xs, SqT K H a xs → xs[i]? = some x, fun i H => ∃ xs : List V, SqT K H a xs ∧ xs.length = i⟩
theorem turn_enumT {P : Program} {w : World} {K : PySem.W.Frag} {elts : List Expr} {kk : Nat} {tpos : Pos} (a e it : Addr) :
    Turn P w K (.Tuple elts kk tpos) (IteT K a) [e, it] e (fun i h => (∃ old, IsEnum h e it ((i : Nat) : Int) old) ∧ h.IsTupleIter it a i ∧ e ≠ it ∧ a ≠ it ∧ e ≠ a) where
  mem := by simp
  obj := fun i h st b hb => by
    obtain ⟨⟨old, he⟩, ⟨o, ho, hc, hd⟩, _⟩ := st
    have e' : b = e ∨ b = it := by simpa using hb
    rcases e' with z | z
    · rw [z]; exact ⟨_, he, fun v q => nomatch q⟩
    · rw [z]; exact ⟨o, ho, fun v q => by rw [hd] at q; cases q⟩
  keep := fun i h h' st k => let ⟨⟨old, he⟩, hi, hne⟩ := st; ⟨⟨old, k e (by simp) _ he⟩, hi.at fun o q => k it (by simp) o q, hne⟩
  item := by
    intro X hP hw hK hc i pins s σ H E I hf st hg
    subst hP hw hK
    obtain ⟨⟨old, he⟩, hit, hne, hai, hea⟩ := st
    obtain ⟨xs, x, hq, hx⟩ := hg
    obtain ⟨its, rv, p, hz⟩ := I.tuple hq
    have pt : s.heap.IsTuple a its.toArray := p
    obtain ⟨u, hu, ru⟩ := rv.get hx
    have hel : e < s.heap.objs.size := Heap.lt_size he
    have hil : it < s.heap.objs.size := by obtain ⟨_, q, _⟩ := hit; exact Heap.lt_size q
    have hlt : i < its.toArray.size := by
      have := (List.getElem?_eq_some_iff.mp hu).1
      simpa using this
    refine wpAny_pyNext_enum_itemD (Draws.tuple (A := X.A.in1) (by simpa using I.ok.hd hc) it a hai its.toArray) he ⟨hit, pt⟩ hlt hne (by simp [hne, hea]) fun y h' tk hy ho hit' hT hsz hk => ?_
    have eu : y = u := by
      have z : its[i]? = some y := by simpa using hy
      exact Option.some.inj (z.symm.trans hu)
    subst eu
    refine ⟨_, rfl, wpAny_letOwnedTupleGo_enum (s := { s with heap := h', toks := tk + 1 }) ho fun h'' he' sb => ?_⟩
    have hT2 : h''.get? s.heap.objs.size = some { cls := .type "tuple", data := .seq #[.int i tk, y] } := (sb.2 _ (Nat.ne_of_gt hel)).trans hT
    have new : ObjOk X.prog X.w (upd H s.heap.objs.size (.tup [.int (i : Nat), x])) h'' s.heap.objs.size (.tup [.int (i : Nat), x]) :=
      ⟨by show 2 ≤ sizeLine; decide, [.int i tk, y], .cons ⟨_, rfl⟩ (.cons ru .nil), ⟨_, hT2, rfl, _, rfl⟩⟩
    have I1 : Inv X pins σ (upd H s.heap.objs.size (.tup [.int (i : Nat), x])) { s with heap := h'', toks := tk + 1 } :=
      I.turnedNew (ch := [e, it]) (fun b ob hb q => (sb.2 b (fun z => hb (by simp [z]))).trans (hk b ob (fun z => hb (by simp [z])) (fun z => hb (by simp [z])) q)) hf (Nat.le_refl _) new
    refine ⟨.ref s.heap.objs.size, _, I1, rfl, ⟨_, x, rfl, I.hok.fresh (Nat.le_refl _), rfl, fun ys hy => by rw [I.tuple_inj hy hq]; exact hx⟩, ⟨⟨y, ?_⟩, hit'.1.at fun o q => (sb.2 it (Ne.symm hne)).trans q, hne, hai, hea⟩, fun b hb => ?_⟩
    · have e1 : ((i + 1 : Nat) : Int) = (i : Int) + 1 := by omega
      rw [e1]; exact he'
    · have e' : b = e ∨ b = it := by simpa using hb
      have hb' : b < s.heap.objs.size := by
        rcases e' with z | z
        · rw [z]; exact hel
        · rw [z]; exact hil
      rw [upd_ne (Nat.ne_of_lt hb')]
      exact (hf b hb).1
  done := by
    intro X hP hw hK hc i pins s σ H E I hf st hg
    subst hP hw hK
    obtain ⟨⟨old, he⟩, hit, hne, hai, hea⟩ := st
    obtain ⟨xs, hq, hx⟩ := hg
    obtain ⟨its, rv, p, hz⟩ := I.tuple hq
    have pt : s.heap.IsTuple a its.toArray := p
    obtain ⟨f0, f1, f2, f3, f4, f5⟩ := hf it (by simp)
    have hl : its.toArray.size = i := by
      rw [← hx, rv.length]
      simp
    refine wpAny_pyNext_enum_endD (Draws.tuple (A := X.A.in1) (by simpa using I.ok.hd hc) it a hai its.toArray) he ⟨by rw [hl]; exact hit, pt⟩ fun h' eb => ⟨rfl, I.turned (t' := s.toks) (fun b o hb q => eb b o hb q) f0 f1 f3 f4 f5⟩
  self := fun A i s Q E st h => let ⟨⟨_, he⟩, _⟩ := st; wpAny_pyIter_enum he h
def iEnumT (K : PySem.W.Frag) (ta : TA) : TI := fun σ H R => ta σ H fun vs H1 => ∃ a xs, vs = [.ref a] ∧ SqT K H1 a xs ∧ R (IteT K a) H1
theorem pi_enumT {X : Cx} {e : Expr} {ta : TA} {p pos tpos : Pos} {elts : List Expr} {kk : Nat} (hg : Gl X "enumerate") (hm : X.mg "enumerate" = none) (ha : PA X [e] ta) (hs : starEach [e] X.env = [(false, eval e X.env)] := by rfl) :
    PI X (.Tuple elts kk tpos) (.Call (.Name "enumerate" p) [e] [] pos) (iEnumT X.K ta) := by
  refine ⟨fun pins s σ H R I h => ?_⟩
  refine Call_ (ld_blt I hg hm boot_enumerate (PyProof.Rows.callWith_type1 (thn (ha.run pos pins s σ H _ I h) fun us s1 ⟨vs, H1, I1, r1, q1⟩ => ?_) hs rfl))
  obtain ⟨a, xs, ex, hq, q⟩ := q1
  subst ex
  cases r1 with
  | cons r rr =>
    cases rr
    cases r
    obtain ⟨its, rv, p', hz⟩ := I1.tuple hq
    have pt : s1.heap.IsTuple a its.toArray := p'
    have below : a < s1.heap.objs.size := by obtain ⟨_, q, _⟩ := pt; exact Heap.lt_size q
    refine enum_tuple pt fun h' he hit hsz hk => wpAny_pyIter_enum he ?_
    have I2 : Inv X pins σ H1 { s1 with heap := h' } := I1.kept (t' := s1.toks) hk
    refine ⟨s1.heap.objs.size + 1, [s1.heap.objs.size + 1, s1.heap.objs.size], _, _, H1, rfl, I2, turn_enumT a (s1.heap.objs.size + 1) s1.heap.objs.size, ⟨⟨.none, he⟩, hit, Nat.succ_ne_self _, Nat.ne_of_lt below, Nat.ne_of_gt (Nat.lt_succ_of_lt below)⟩, fun b hb => ?_, q⟩
    have e' : b = s1.heap.objs.size + 1 ∨ b = s1.heap.objs.size := by simpa using hb
    have hle : s1.heap.objs.size ≤ b := by
      rcases e' with z | z
      · rw [z]; exact Nat.le_add_right _ _
      · rw [z]; exact Nat.le_refl _
    exact I1.fpOk hle (I1.hok.fresh hle)
theorem walk_enumT {K : PySem.W.Frag} {a : Addr} {xs : List V} : L2.Walk (IteT K a) xs.length (fun H => SqT K H a xs) (YPair (fun i => some (.int (i : Nat))) (fun i => xs[i]?)) :=
  ⟨fun i H hi q => ⟨xs, xs[i], q, by simp [hi]⟩, fun H q => ⟨xs, q, rfl⟩, fun i H x H' hi q ⟨T, y, e1, e2, e3, e4⟩ => ⟨T, _, y, e1, e2, e3, rfl, e4 xs q⟩⟩

/-! ### a dict comprehension over any walk -/
theorem dc_it {J : It} {n : Nat} {G : Hp → Prop} {Y : Nat → Hp → V → Hp → Prop} (w : L2.Walk J n G Y) {g : TG} {tt : TT} {tk tv : TE} {vs : List Nat} {σ : L2.St} {H1 : Hp} {D : Addr} {Qd : Hp → Prop} (Pv : Nat → Hp → Prop) (h0 : Pv 0 (upd H1 D (.dK []))) (hG : ∀ i H, i ≤ n → Pv i H → G H)
    (hs : ∀ i x H H', i < n → Pv i H → Y i H x H' → g x (wipe σ vs) H' fun σ2 H2 => wipe σ2 vs = wipe σ vs ∧ tt σ2 H2 fun b H3 =>
      if b = true then tk σ2 H3 fun y H4 => tv σ2 H4 fun z H5 => ∃ kvs k, y = kV k ∧ H5 D = some (.dK kvs) ∧ kvs.length < sizeLine ∧ Pv (i + 1) (upd H5 D (.dK (putK kvs k z))) else Pv (i + 1) H3) (hd : ∀ H, Pv n H → Qd H) :
    ∃ W : Nat → Nat → Hp → Prop, (∃ m, W 0 m (upd H1 D (.dK []))) ∧ ∀ i m H, W i m H →
      (J.stop i H ∧ Qd H) ∨ (J.go i H ∧ ∃ Nx : Hp → Prop, (∀ H', Nx H' → ∃ m', m' < m ∧ W (i + 1) m' H') ∧ ∀ x H', J.yld i H x H' → g x (wipe σ vs) H' fun σ2 H2 => wipe σ2 vs = wipe σ vs ∧ tt σ2 H2 fun b H3 =>
        if b = true then tk σ2 H3 fun y H4 => tv σ2 H4 fun z H5 => ∃ kvs k, y = kV k ∧ H5 D = some (.dK kvs) ∧ kvs.length < sizeLine ∧ Nx (upd H5 D (.dK (putK kvs k z))) else Nx H3) := by
  refine ⟨fun i m H => m = n - i ∧ i ≤ n ∧ Pv i H, ⟨n, rfl, Nat.zero_le _, h0⟩, fun i m H ⟨em, hi, p⟩ => ?_⟩
  subst em
  have q := hG i H hi p
  rcases Nat.lt_or_eq_of_le hi with hlt | e
  · exact .inr ⟨w.goes i H hlt q, Pv (i + 1), fun H' p' => ⟨n - (i + 1), by omega, rfl, hlt, p'⟩, fun x H' y => hs i x H H' hlt p (w.yields i H x H' hlt q y)⟩
  · subst e
    exact .inl ⟨w.stops H q, hd H p⟩

/-! ### isinstance, one class -/
theorem isi_tuple {K : PySem.W.Frag} {H : Hp} {a : Addr} {xs : List V} (h : SqT K H a xs) : TyX K H (.ref a) (.type "tuple") := by
  rcases h with (h | ⟨o, h⟩) | ⟨o, _, _, e, c, _⟩
  · exact .base (.tup h)
  · exact .fTuple h
  · exact .kTuple e c
end Ft
namespace Ft
open PySem PySem.Spec PyProof.Rows L2
/-- a block within a block -/
theorem blkIn {N : List Str} {env : Env} {cl : List (Str × Addr)} {C : Addr} {scope inner sc : Scope} {own : List (Str × Nat)} (he : env.scope = sc) (h : blkC N (relS scope sc) inner own = true) : BlkOk N (compEnvC scope cl C env).scope inner own := by
  subst he
  exact blkOk_by h
end Ft
namespace Ft
open PySem PySem.Spec PyProof.Rows L2
/-! ### the layer's rules whose reading names the written part, under names of their own -/
def rLenS (K : PySem.W.Frag) : List V → Hp → VK → Prop := fun xs H Q => ∃ p ys, xs = [.ref p] ∧ (SqL K H p ys ∨ SqT K H p ys) ∧ Q (.int ys.length) H
theorem call_lenS {X : Cx} : CallR X (.builtin "len") (rLenS X.K) := call_len_seq
def rListOf (K : PySem.W.Frag) : List V → Hp → VK → Prop := fun xs H Q => ∃ p ys, xs = [.ref p] ∧ (SqL K H p ys ∨ SqT K H p ys) ∧ ∀ l, H l = none → Q (.ref l) (upd H l (.lst ys))
theorem call_listOf {X : Cx} : CallR X (.type "list") (rListOf X.K) := call_list_of
def rTupleOf (K : PySem.W.Frag) : List V → Hp → VK → Prop := fun xs H Q => ∃ p ys, xs = [.ref p] ∧ ((SqL K H p ys ∧ ∀ l, H l = none → Q (.ref l) (upd H l (.tup ys))) ∨ (SqT K H p ys ∧ Q (.ref p) H))
theorem call_tupleOf {X : Cx} : CallR X (.type "tuple") (rTupleOf X.K) := call_tuple_of
end Ft
namespace Ft
open PySem PySem.Spec PyProof.Rows L2
theorem at_name {i : Nat} {v : V} {σ : L2.St} {H : Hp} {Q : L2.St → Hp → Prop} (h : Q (σ.set i (some v)) H) : gName i v σ H Q := h
theorem at_seq {a b : TS} {D : Ends} {σ : L2.St} {H : Hp} (h : a { D with nx := b D } σ H) : tSeq a b D σ H := h
end Ft
namespace Ft
open PySem PySem.Spec PyProof.Rows L2
/-! ### a word between two statements, and behind an expression -/
def tCut (t u : TS) : TS := fun D σ H => ∃ M : L2.St → Hp → Prop, t { D with nx := M } σ H ∧ ∀ σ' H', M σ' H' → u D σ' H'
theorem ps_cut {X : Cx} {st : Stmt} {rest : List Stmt} {t u : TS} (h1 : PS X st t) (h2 : PSs X rest u) : PSs X (st :: rest) (tCut t u) := by
  refine ⟨fun pins s σ H D I h => ?_⟩
  obtain ⟨M, hm, hu⟩ := h
  refine wpAny_execs_cons (thn (h1.run pins s σ H { D with nx := M } I hm) ?_)
  intro f s1 q
  match f, q with
  | .next, q =>
    obtain ⟨σ', H', I', q⟩ := q
    exact h2.run pins s1 σ' H' D I' (hu σ' H' q)
  | .ret v, q => exact q
  | .brk, q => exact q
  | .cont, q => exact q
def tMid (te : TE) : TE := fun σ H Q => ∃ M : V → Hp → Prop, te σ H M ∧ ∀ v H', M v H' → Q v H'
theorem pe_mid {X : Cx} {e : Expr} {te : TE} (h : PE X e te) : PE X e (tMid te) := by
  refine ⟨fun pins s σ H Q I ⟨M, hm, hu⟩ => ?_⟩
  exact thn (h.run pins s σ H M I hm) fun u s1 ⟨v, H1, I1, r, m⟩ => ⟨v, H1, I1, r, hu v H1 m⟩
def tMidT (tt : TT) : TT := fun σ H Q => ∃ M : Bool → Hp → Prop, tt σ H M ∧ ∀ b H', M b H' → Q b H'
theorem pt_mid {X : Cx} {e : Expr} {tt : TT} (h : PT X e tt) : PT X e (tMidT tt) := by
  refine ⟨fun pins s σ H Q I ⟨M, hm, hu⟩ => ?_⟩
  exact thn (h.run pins s σ H M I hm) fun b s1 ⟨H1, I1, m⟩ => ⟨H1, I1, hu b H1 m⟩
theorem ite_any {c : Bool} {A B : Prop} (a : c = true → A) (b : c = false → B) : if c = true then A else B := by
  cases c with
  | true => exact iteT (a rfl)
  | false => exact iteF (b rfl)
end Ft

set_option Elab.async false
set_option linter.all false
set_option maxRecDepth 100000
set_option maxHeartbeats 4000000
namespace Ft
open PySem PySem.Spec PyProof.Rows L2
/-! ### the heap: what stays, and maps as they lie in it -/
def vN (n : Nat) : V := .int (n : Int)
def iN (l : List Nat) : List Int := l.map fun (n : Nat) => (n : Int)
theorem vN_map (l : List Nat) : l.map vN = (iN l).map V.int := by
  unfold iN
  rw [List.map_map]
  rfl
theorem iN_length (l : List Nat) : (iN l).length = l.length := List.length_map ..
theorem iN_mem {l : List Nat} {n : Nat} : (n : Int) ∈ iN l ↔ n ∈ l := by
  unfold iN
  constructor
  · intro h
    obtain ⟨m, hm, e⟩ := List.mem_map.mp h
    have : m = n := by omega
    exact this ▸ hm
  · intro h
    exact List.mem_map.mpr ⟨n, h, rfl⟩
/-- all but the objects in ex stay as they are -/
def Kp (ex : List Addr) (H H' : Hp) : Prop := ∀ b o, b ∉ ex → H b = some o → H' b = some o
theorem Kp.refl (ex : List Addr) (H : Hp) : Kp ex H H := fun _ _ _ h => h
theorem Kp.trans {ex : List Addr} {H H1 H2 : Hp} (a : Kp ex H H1) (b : Kp ex H1 H2) : Kp ex H H2 := fun c o n h => b c o n (a c o n h)
theorem Kp.of_same {ex : List Addr} {H H1 : Hp} (a : Same H H1) : Kp ex H H1 := fun c o _ h => a c o h
theorem Same.kp {ex : List Addr} {H H1 : Hp} (a : Same H H1) : Kp ex H H1 := fun c o _ h => a c o h
theorem same_upd {H : Hp} {p : Addr} {o : HO} (n : H p = none) : Same H (upd H p o) := fun b u e => by
  rw [upd_ne (ne_of_none e n)]
  exact e
theorem same_free {H H' : Hp} (a : Same H H') {p : Addr} (n : H' p = none) : H p = none := a.free n
theorem kp_free {ex : List Addr} {H H' : Hp} (a : Kp ex H H') {p : Addr} (hp : p ∉ ex) (n : H' p = none) : H p = none := by
  cases q : H p with
  | none => rfl
  | some o =>
    rw [a p o hp q] at n
    cases n
/-- a tuple stays where only lists and dicts change -/
def Lists (ex : List Addr) (H : Hp) : Prop := ∀ b ∈ ex, ∃ o, H b = some o ∧ (∀ xs, o ≠ .tup xs) ∧ ∀ q xs, o ≠ .frz q (.tup xs)
theorem Kp.sqT {K : PySem.W.Frag} {ex : List Addr} {H H' : Hp} (k : Kp ex H H') (l : Lists ex H) {a : Addr} {xs : List V} (h : SqT K H a xs) : SqT K H' a xs := by
  have off : ∀ o, H a = some o → ((∃ ys, o = .tup ys) ∨ ∃ q ys, o = .frz q (.tup ys)) → a ∉ ex := by
    intro o e t m
    obtain ⟨u, e1, n1, n2⟩ := l a m
    have : o = u := Option.some.inj (e.symm.trans e1)
    subst this
    rcases t with ⟨ys, t⟩ | ⟨q, ys, t⟩
    · exact n1 ys t
    · exact n2 q ys t
  rcases h with (h | ⟨o, h⟩) | h
  · exact .inl (.inl (k _ _ (off _ h (.inl ⟨_, rfl⟩)) h))
  · exact .inl (.inr ⟨o, k _ _ (off _ h (.inr ⟨_, _, rfl⟩)) h⟩)
  · exact .inr h
theorem Kp.sqL {K : PySem.W.Frag} {ex : List Addr} {H H' : Hp} (k : Kp ex H H') {a : Addr} {xs : List V} (n : a ∉ ex) (h : SqL K H a xs) : SqL K H' a xs := by
  rcases h with (h | ⟨o, h⟩) | h
  · exact .inl (.inl (k _ _ n h))
  · exact .inl (.inr ⟨o, k _ _ n h⟩)
  · exact .inr h
theorem lists_nil (H : Hp) : Lists [] H := fun _ h => nomatch h
theorem Same.sqT {K : PySem.W.Frag} {H H' : Hp} (k : Same H H') {a : Addr} {xs : List V} (h : SqT K H a xs) : SqT K H' a xs := (Same.kp (ex := []) k).sqT (lists_nil H) h

/-- a map -/
structure Chart where
  n : Nat
  roads : List (Nat × Nat)
  wished : List Nat
/-- a row of pairs at the addresses ts -/
def PairsAt (K : PySem.W.Frag) (H : Hp) (ts : List Addr) (ps : List (Nat × Nat)) : Prop := Paired (fun (t : Addr) (p : Nat × Nat) => SqT K H t [vN p.1, vN p.2]) ts ps
structure ChartAt (K : PySem.W.Frag) (H : Hp) (c : Addr) (C : Chart) (r w : Addr) (ts : List Addr) : Prop where
  top : SqT K H c [vN C.n, .ref r, .ref w]
  row : SqT K H r (ts.map V.ref)
  prs : PairsAt K H ts C.roads
  wis : SqT K H w (C.wished.map vN)
def IsChart (K : PySem.W.Frag) (H : Hp) (c : Addr) (C : Chart) : Prop := ∃ r w ts, ChartAt K H c C r w ts
theorem paired_imp {α β : Type} {R S : α → β → Prop} (h : ∀ a b, R a b → S a b) : ∀ {as : List α} {bs : List β}, Paired R as bs → Paired S as bs
  | _, _, .nil => .nil
  | _, _, .cons r t => .cons (h _ _ r) (paired_imp h t)
theorem PairsAt.keep {K : PySem.W.Frag} {ex : List Addr} {H H' : Hp} (k : Kp ex H H') (l : Lists ex H) {ts : List Addr} {ps : List (Nat × Nat)} (h : PairsAt K H ts ps) : PairsAt K H' ts ps :=
  paired_imp (fun _ _ q => k.sqT l q) h
theorem ChartAt.keep {K : PySem.W.Frag} {ex : List Addr} {H H' : Hp} (k : Kp ex H H') (l : Lists ex H) {c r w : Addr} {C : Chart} {ts : List Addr} (h : ChartAt K H c C r w ts) : ChartAt K H' c C r w ts :=
  ⟨k.sqT l h.top, k.sqT l h.row, h.prs.keep k l, k.sqT l h.wis⟩
theorem IsChart.keep {K : PySem.W.Frag} {ex : List Addr} {H H' : Hp} (k : Kp ex H H') (l : Lists ex H) {c : Addr} {C : Chart} (h : IsChart K H c C) : IsChart K H' c C := let ⟨r, w, ts, q⟩ := h; ⟨r, w, ts, q.keep k l⟩
theorem IsChart.same {K : PySem.W.Frag} {H H' : Hp} (k : Same H H') {c : Addr} {C : Chart} (h : IsChart K H c C) : IsChart K H' c C := h.keep (Same.kp (ex := []) k) (lists_nil H)
theorem ChartAt.same {K : PySem.W.Frag} {H H' : Hp} (k : Same H H') {c r w : Addr} {C : Chart} {ts : List Addr} (h : ChartAt K H c C r w ts) : ChartAt K H' c C r w ts := h.keep (Same.kp (ex := []) k) (lists_nil H)
theorem paired_get {α β : Type} {R : α → β → Prop} : ∀ {as : List α} {bs : List β} {i : Nat} {b : β}, Paired R as bs → bs[i]? = some b → ∃ a, as[i]? = some a ∧ R a b
  | _, _, _, _, .nil, e => by simp at e
  | _, _, 0, _, .cons r _, e => by
    simp at e
    subst e
    exact ⟨_, rfl, r⟩
  | _, _, i + 1, b, .cons _ t, e => by
    obtain ⟨a, h1, h2⟩ := paired_get (i := i) t (by simpa using e)
    exact ⟨a, by simpa using h1, h2⟩
theorem paired_getL {α β : Type} {R : α → β → Prop} : ∀ {as : List α} {bs : List β} {i : Nat} {a : α}, Paired R as bs → as[i]? = some a → ∃ b, bs[i]? = some b ∧ R a b
  | _, _, _, _, .nil, e => by simp at e
  | _, _, 0, _, .cons r _, e => by
    simp at e
    subst e
    exact ⟨_, rfl, r⟩
  | _, _, i + 1, b, .cons _ t, e => by
    obtain ⟨a, h1, h2⟩ := paired_getL (i := i) t (by simpa using e)
    exact ⟨a, by simpa using h1, h2⟩
/-- the order of pairs -/
def ltP (p q : Nat × Nat) : Prop := p.1 < q.1 ∨ (p.1 = q.1 ∧ p.2 < q.2)
structure Chart.Ok (C : Chart) : Prop where
  n60 : C.n ≤ 60
  many : C.roads.length ≤ 240
  inR : ∀ p ∈ C.roads, p.1 < C.n ∧ p.2 < C.n
  upR : C.roads.Pairwise ltP
  inW : ∀ a ∈ C.wished, a < C.n
  upW : C.wished.Pairwise (· < ·)
/-- the builtins' names that the top has left alone, and its own two numbers -/
structure Txt (mg : Str → Option Value) : Prop where
  isinstance : mg "isinstance" = none
  len : mg "len" = none
  tuple : mg "tuple" = none
  int : mg "int" = none
  bool : mg "bool" = none
  enumerate : mg "enumerate" = none
  range : mg "range" = none
  set : mg "set" = none
  list : mg "list" = none
  sorted : mg "sorted" = none
  min : mg "min" = none
  max : mg "max" = none
  repr : mg "repr" = none
  dict : mg "dict" = none
  str : mg "str" = none
  any : mg "any" = none
  all : mg "all" = none
  sum : mg "sum" = none
  zip : mg "zip" = none
end Ft

set_option Elab.async false
set_option linter.all false
set_option maxRecDepth 100000
set_option maxHeartbeats 4000000
/-! Errors of own classes that share one __init__(self, what): raised, let through by a def, caught. -/
namespace Ft
open PySem PySem.Spec PyProof.Rows L2
/-- the class x of the text, at C; fI: the __init__ that it has -/
structure ErrC (K : PySem.W.Frag) (mg : Str → Option Value) (x : Str) (C fI : Addr) : Prop where
  g : mg x = some (.ref C)
  oex : OexC K C
  iC : PySem.W.findIn K (.ref C) "__init__" = some (some (.ref fI))
  tI : PySem.W.typeIn K (.ref fI) = some (.type "function")
  noW : PySem.W.findIn K (.ref C) "what" = some none
  xf : XfC K C
/-- __init__(self, what) -/
def spInit (K : PySem.W.Frag) : Sp := fun vs H Q _ => ∃ (a C : Addr) (v : V), vs = [.ref a, v] ∧ OexC K C ∧ PySem.W.findIn K (.ref C) "what" = some none ∧ H a = some (exo a C none) ∧
  ∀ dx, H dx = none → dx ≠ a → Q .non (upd (upd H dx (exd dx [("what", v)])) a (exo a C (some dx)))
/-- an error that may be raised -/
structure Er (P : Program) (w : World) (K : PySem.W.Frag) (mg : Str → Option Value) (base : Heap) (ca : Str → Addr) (x : Str) : Prop where
  ex : ∃ (fI : Addr) (fd : FuncData), ErrC K mg x (ca x) fI ∧ FnOk P w K mg base L2.CX0 1 fI fd ["self", "what"] (spInit K) ∧ Binds K fd ["self", "what"] []
theorem Er.c {P : Program} {w : World} {K : PySem.W.Frag} {mg : Str → Option Value} {base : Heap} {ca : Str → Addr} {x : Str} (e : Er P w K mg base ca x) : ∃ fI, ErrC K mg x (ca x) fI := let ⟨fI, _, h, _⟩ := e.ex; ⟨fI, h⟩
theorem upd_del {H : Hp} {a d : Addr} {o : HO} {u v : HO} {w : HO} (na : H a = none) (hd : d ≠ a) : upd (del (upd (upd (upd H a o) d u) a v) a) d w = upd H d w := by
  funext b
  by_cases h1 : b = d
  · rw [h1, upd_same, upd_same]
  · rw [upd_ne h1, upd_ne h1]
    by_cases h2 : b = a
    · rw [h2, del_same, na]
    · rw [del_ne h2, upd_ne h2, upd_ne h1, upd_ne h2]
theorem passF {X : Cx} {E : XK} : Passes L2.CX0 X E := fun _ _ _ _ _ _ _ h => h.elim
def tMidA (ta : TA) : TA := fun σ H Q => ∃ M : List V → Hp → Prop, ta σ H M ∧ ∀ vs H', M vs H' → Q vs H'
theorem pa_mid {X : Cx} {es : List Expr} {ta : TA} (h : PA X es ta) : PA X es (tMidA ta) := by
  refine ⟨fun pos pins s σ H Q I ⟨M, hm, hu⟩ => ?_⟩
  exact thn (h.run pos pins s σ H M I hm) fun us s1 ⟨vs, H1, I1, r, m⟩ => ⟨vs, H1, I1, r, hu vs H1 m⟩
/-- raise x(e) -/
def tRaise (C : Addr) (W : WX) (ta : TA) : TS := fun _ σ H => ta σ H fun vs H1 => ∃ v, vs = [v] ∧ ∀ d, H1 d = none → W (.ref C) (some d) σ (upd H1 d (.xd [("what", v)]))
section
variable {X : Cx} {ca : Str → Addr} {x : Str} {W : WX} {e : Expr} {es : List Expr} {ta : TA} {p pos pos2 : Pos} {k : Nat}
theorem ps_raiseE (hc : X.calm = true) (er : Er X.prog X.w X.K X.mg X.base ca x) (hr : Room k X.A) (hk : 2 ≤ k) (tk : Takes X W) (hg : Gl X x) (ha : PA X (e :: es) ta)
    (hdb : (x == ("__debug__" : Str)) = false := by decide) (he : starEach (e :: es) X.env = (false, eval e X.env) :: starEach es X.env := by rfl) (hpl : (backTo pos (starEach es X.env)).any (·.1) = false := by rfl) :
    PS X (.Raise (some (.Call (.Name x p) (e :: es) [] pos)) none pos2) (tRaise (ca x) W ta) := by
  obtain ⟨fI, fd, c, F, b⟩ := er.ex
  refine ⟨fun pins s σ H D I h => ?_⟩
  refine (ps_raise (pos := pos2) hc tk (pmk_oex (pos := pos) (p := p) c.oex c.iC c.tI F (hr.mono hk) b .nil passF hg c.g (pa_mid ha) hdb he hpl)).run pins s σ H D I ?_
  have imp : ∀ vs H1, (∃ v, vs = [v] ∧ ∀ d, H1 d = none → W (.ref (ca x)) (some d) σ (upd H1 d (.xd [("what", v)]))) →
      vs.length ≤ 1000 ∧ ∀ a, H1 a = none → spInit X.K (.ref a :: (vs ++ [])) (upd H1 a (exo a (ca x) none)) (fun v H2 => v = .non ∧ ∃ (d : Addr) (fs : List (Str × V)), H2 a = some (exo a (ca x) (some d)) ∧ H2 d = some (exd d fs) ∧ H1 d = none ∧ W (.ref (ca x)) (some d) σ (upd (del H2 a) d (.xd fs))) (fun _ _ _ => False) := by
    rintro vs H1 ⟨v, rfl, q⟩
    refine ⟨by simp, fun a na => ⟨a, ca x, v, rfl, c.oex, c.noW, upd_same, fun dx ndx hda => ⟨rfl, dx, [("what", v)], upd_same, ?_, ?_, ?_⟩⟩⟩
    · rw [upd_ne hda, upd_same]
    · rwa [upd_ne hda] at ndx
    · rw [upd_del na hda]
      rw [upd_ne hda] at ndx
      exact q dx ndx
  exact ⟨_, h, imp⟩
end
/-! ### defs that may raise -/
structure CalX (P : Program) (w : World) (K : PySem.W.Frag) (mg : Str → Option Value) (base : Heap) (k : Nat) (x : Str) (sp : Sp) : Prop where
  ex : ∃ (f : Addr) (fd : FuncData) (ps : List Str), FnOk P w K mg base (L2.CX P w) k f fd ps sp ∧ mg x = some (.ref f) ∧ PySem.W.keepIn K (.ref f) = true ∧ Binds K fd ps []
theorem pe_x {X : Cx} {k j : Nat} {x : Str} {sp : Sp} {W : WX} {p pos : Pos} {e : Expr} {es : List Expr} {t : TA} (tk : Takes X W) (c : CalX X.prog X.w X.K X.mg X.base k x sp) (hr : Room j X.A) (hk : k ≤ j) (hg : Gl X x) (ha : PA X (e :: es) t)
    (hdb : (x == ("__debug__" : Str)) = false := by decide) (he : starEach (e :: es) X.env = (false, eval e X.env) :: starEach es X.env := by rfl) (hpl : (backTo pos (starEach es X.env)).any (·.1) = false := by rfl) :
    PE X (.Call (.Name x p) (e :: es) [] pos) (tCallS sp (WE W) t) := by
  obtain ⟨f, fd, ps, F, hm, kp, b⟩ := c.ex
  exact pe_callS F (hr.mono hk) hg hm kp b (fun σ => passAt tk σ) ha hdb he hpl
theorem calx_of {P : Program} {w : World} {K : PySem.W.Frag} {mg : Str → Option Value} {base : Heap} {x : Str} {st : Stmt} {N ps : List Str} {k : Nat} {sp : Sp} (D : Def K mg x st) (S : FnScope N ps (L2.defScope st))
    (bd : ∀ (kV doc pm : Value) (an : Option Addr) (cdv ct : Value) (us : List Value), us.length = ps.length → bindArgs (PySem.W.fnOf x x (L2.defArgs st) (L2.defBody st) (L2.defScope st) .none kV doc pm an cdv ct) ⟨us, []⟩ = pure (ps.zip us))
    (len : ∀ vs H Q E, sp vs H Q E → vs.length = ps.length)
    (body : ∀ (f : Addr) (cdv : Value) (A : Around) (outer : List Env) (s : Shared) (H : Hp) (vs : List V) (Q : VK) (E : XK), Room k (A.deeper (envOfC x (L2.defScope st) s.heap.objs.size f cdv)) → sp vs H Q E →
      ∃ t, PSs (cxOf (L2.CX P w) P w K mg base N x (L2.defScope st) f cdv A outer s H E) (L2.defBody st) t ∧ t { nx := fun _ H' => Q .non H', rt := Q } (start N vs) H) : CalX P w K mg base (k + 1) x sp := by
  obtain ⟨f, fd, F, hm⟩ := D.ex
  exact ⟨f, fd, ps, F.okX S len (body f), hm, F.kp, F.binds bd⟩
/-- .. where nothing is raised -/
theorem fnOk_valid {P : Program} {w : World} {K : PySem.W.Frag} {mg : Str → Option Value} {base : Heap} {k : Nat} {f : Addr} {fd : FuncData} {ps : List Str} {sp sp' : Sp} (F : FnOk P w K mg base (L2.CX P w) k f fd ps sp)
    (h : ∀ vs H Q E, sp' vs H Q E → sp vs H Q L2.E0) : FnOk P w K mg base L2.CX0 k f fd ps sp' :=
  ⟨fun vs H Q E q => F.len vs H Q _ (h _ _ _ _ q), fun A outer s H args us vs Q E hr he hb hv hs => codeAny_mono (F.run A outer s H args us vs Q L2.E0 hr he hb hv (h _ _ _ _ hs)) fun r s' hq => by
    cases r with
    | error e =>
      obtain ⟨_, _, _, _, _, _, _, _, _, _, _, _, z⟩ := hq
      exact z.elim
    | ok fl => cases fl <;> exact hq⟩
theorem CalX.valid {P : Program} {w : World} {K : PySem.W.Frag} {mg : Str → Option Value} {base : Heap} {k : Nat} {x : Str} {sp sp' : Sp} (c : CalX P w K mg base k x sp) (h : ∀ vs H Q E, sp' vs H Q E → sp vs H Q L2.E0) : Cal P w K mg base k x sp' := by
  obtain ⟨f, fd, ps, F, hm, kp, b⟩ := c.ex
  exact ⟨f, fd, ps, fnOk_valid F h, hm, kp, b⟩
theorem Cal.imp {P : Program} {w : World} {K : PySem.W.Frag} {mg : Str → Option Value} {base : Heap} {k : Nat} {x : Str} {sp sp' : Sp} (c : Cal P w K mg base k x sp) (h : ∀ vs H Q E, sp' vs H Q E → sp vs H Q E) : Cal P w K mg base k x sp' := by
  obtain ⟨f, fd, ps, F, hm, kp, b⟩ := c.ex
  exact ⟨f, fd, ps, F.imp h, hm, kp, b⟩
/-- what is wanted of an error e, of all that may leave -/
def Raised (K : PySem.W.Frag) (ca : Str → Addr) (H : Hp) (E : XK) (e : Str × PyData) : Prop := ∀ (d : Addr) (H' : Hp) (v : V), Same H H' → H' d = some (.xd [("what", v)]) → Dp K H' v e.2 → E (.ref (ca e.1)) (some d) H'
theorem Raised.same {K : PySem.W.Frag} {ca : Str → Addr} {H H1 : Hp} {E : XK} {e : Str × PyData} (r : Raised K ca H E e) (s : Same H H1) : Raised K ca H1 E e := fun d H' v s' hd hv => r d H' v (s.trans s') hd hv
end Ft

set_option Elab.async false
set_option linter.all false
set_option maxRecDepth 100000
set_option maxHeartbeats 4000000
/-! Several except clauses, each with a name or without. -/
namespace Ft
open PySem PySem.Spec PyProof.Rows L2
abbrev Hd := Value × Option Nat × (Addr → Value → Option Addr → TS)
def gone (i : Nat) (D : Ends) : Ends := { nx := fun σ' H' => D.nx (σ'.set i none) H', rt := D.rt, bk := fun σ' H' => D.bk (σ'.set i none) H', ct := fun σ' H' => D.ct (σ'.set i none) H' }
def wHd (o : Option Nat) (ts : Addr → Value → Option Addr → TS) (a : Addr) (cls : Value) (d : Option Addr) (D : Ends) (σ : L2.St) (H : Hp) : Prop := match o with
  | none => ts a cls d D σ H
  | some i => ts a cls d (gone i D) (σ.set i (some (.ref a))) H
/-- what the clauses wish of an exception of the body -/
def wMs (K : PySem.W.Frag) (n : Nat) (Wout : WX) (D : Ends) : List Hd → WX
  | [] => Wout
  | (c, o, ts) :: r => fun cls d σ H => ∃ b, PySem.W.exmOne K cls c = some b ∧ (b = true → ∀ a, H a = none → σ.length = n → wHd o ts a cls d D σ H) ∧ (b = false → wMs K n Wout D r cls d σ H)
inductive HdsA (X : Cx) : List ExceptHandler → List Hd → Prop
  | nil : HdsA X [] []
  | no {x : Str} {c : Value} {ts : Addr → Value → Option Addr → TS} {b₀ : Stmt} {suite : List Stmt} {np pos' : Pos} {hds : List ExceptHandler} {l : List Hd} (hc : Names X x c)
      (hsu : ∀ (a : Addr) (oe : Obj) (cls : Value) (d : Option Addr) (pn : List (Addr × Obj)), Zc cls d oe → (∃ vs, oe.data = .fields vs) → PSs (X.suite a ((a, oe) :: pn)) (b₀ :: suite) (ts a cls d)) (r : HdsA X hds l) :
      HdsA X (.ExceptHandler (some (.Name x np)) none (b₀ :: suite) pos' :: hds) ((c, none, ts) :: l)
  | as {x n : Str} {c : Value} {i : Nat} {ts : Addr → Value → Option Addr → TS} {b₀ : Stmt} {suite : List Stmt} {np pos' : Pos} {hds : List ExceptHandler} {l : List Hd} (hi : X.N[i]? = some n) (hln : X.env.kindOf n = some .local) (hc : Names X x c)
      (hsu : ∀ (a : Addr) (oe : Obj) (cls : Value) (d : Option Addr) (pn : List (Addr × Obj)), Zc cls d oe → (∃ vs, oe.data = .fields vs) → PSs (X.suite a ((a, oe) :: pn)) (b₀ :: suite) (ts a cls d)) (r : HdsA X hds l) :
      HdsA X (.ExceptHandler (some (.Name x np)) (some n) (b₀ :: suite) pos' :: hds) ((c, some i, ts) :: l)
section
variable {X : Cx} {body : List Stmt} {h₀ : ExceptHandler} {hds : List ExceptHandler} {l : List Hd} {pos : Pos} {tb : WX → TS} {Wout : WX}
theorem ps_try_ms (hs : X.stack = X.env :: X.outer) (hf : X.env.frame = some X.env.locals) (hN : X.N.Nodup) (tk : Takes X Wout)
    (hb : ∀ (W : WX) (pn : List (Addr × Obj)) (xe : Value → Shared → Prop), Takes (X.tr pn xe) W → PassesOwn (model X.prog X.w) X.A X.env xe → PSs (X.tr pn xe) body (tb W))
    (hh : HdsA X (h₀ :: hds) l) : PS X (.Try body (h₀ :: hds) [] [] pos) (fun D σ H => tb (wMs X.K X.N.length Wout D l) D σ H) := by
  refine ⟨fun pins s σ H D I h => ?_⟩
  have ok := I.ok
  have hfr : X.A.frames = some (X.env :: X.outer) := by rw [ok.frames, hs]
  refine wpAny_Try_except ?_
  refine wpAny_mono ((hb (wMs X.K X.N.length Wout D l) (X.pn ++ pins) (fun e s₁ => wpAny (model X.prog X.w) X.A (noteFrame e X.env) (fun _ s₂ => wpAny (model X.prog X.w) X.A (setFlight e none) (fun _ s₃ =>
    wpAny (model X.prog X.w) X.A (handleBy e X.env (h₀ :: hds)) (SP X pins D) X.xe s₃) X.xe s₂) X.xe s₁) (fun u s' xx => ?_) PassesOwn.looking).run [] s σ H D (I.toTry _) h) (fun f s1 hsp => ?_) (fun e s1 he => he)
  · -- the catch
    obtain ⟨a, B, sI, pins', σ', H', cls, d, rfl, J', nb, up, sky, na, os, ag, w⟩ := xx
    have J : Inv X pins σ' H' sI := J'.ofTry ok
    have sky' : Sky B (X.env :: X.outer) a (Zc cls d) X.env.locals s'.heap := by rw [← hs]; exact sky
    show wpAny (model X.prog X.w) X.A (noteFrame (.ref a) X.env) _ _ _
    refine Sky.land Zc.steady hfr hf sky' fun h3 fl3 up3 => ?_
    have J3 : Inv X pins σ' H' { s' with heap := h3 } := J.landed nb fl3.1 (up.trans up3) os ag
    obtain ⟨oe3, vs3, he3, hz3, hd3⟩ := fl3.there
    have notFr : ∀ {h : Heap} {o : Obj} {vs : Array Value}, h.FunFrames B (X.env :: X.outer) → h.get? a = some o → o.data = .fields vs → a ∉ frs (X.env :: X.outer) := fun {h o vs} ff e dd hm => by
      obtain ⟨_, o', e', hnf⟩ := ff.mem hm
      rw [e] at e'; cases e'
      exact hnf _ dd
    have nfr := notFr fl3.2.2.1 he3 hd3
    have nL : a ≠ X.env.locals := fun z => nfr (List.mem_filterMap.mpr ⟨X.env, List.mem_cons_self, by rw [hf, z]⟩)
    have nF : a ∉ X.fs := fun hm => by
      obtain ⟨e, he, q⟩ := List.mem_filterMap.mp hm
      exact nfr (List.mem_filterMap.mpr ⟨e, List.mem_cons_of_mem _ he, q⟩)
    have S3 := J3.suite he3 hd3 na nL nF
    have LT : PySem.W.Looks (model X.prog X.w) h3 (typeOf (.ref a)) cls := fun A Q E s k q => wpAny_typeOf_ref (k _ _ he3) (by rw [hz3.1]; exact q)
    have test : ∀ {x : Str} {c : Value} {np : Pos} (hc : Names X x c) {Q : Value → Shared → Prop} {E : Value → Shared → Prop}, Q c { s' with heap := h3 } → wpAny (model X.prog X.w) (X.A.mark (some (.ref a))) (eval (.Name x np) X.env) Q E { s' with heap := h3 } := fun {x c np} hc {Q E} q => by
      obtain ⟨hg, hdbg, hm | ⟨hm, hv, hnn⟩⟩ := hc
      · exact ld_glob (X := X.suite a ((a, oe3) :: (X.pn ++ pins))) S3 hg hm q hdbg
      · exact ld_blt (X := X.suite a ((a, oe3) :: (X.pn ++ pins))) S3 hg hm hv q hnn hdbg
    have go : ∀ {hds' : List ExceptHandler} {l' : List Hd}, HdsA X hds' l' → wMs X.K X.N.length Wout D l' cls d σ' H' →
        wpAny (model X.prog X.w) X.A (handleBy (.ref a) X.env hds') (SP X pins D) X.xe { s' with heap := h3 } := by
      intro hds' l' hk
      induction hk with
      | nil =>
        intro w
        refine wpAny_handleBy_nil ?_
        obtain ⟨k1, k2, k3, oe, vs, T, oT, ts', he, hz, hd, h1, hr⟩ := id fl3
        unfold PySem.passOn
        refine wpAny_bind (wpAny_field he hd h1 ?_)
        rw [if_neg (show ¬ ((Value.ref T == Value.none) = true) from by simp)]
        have fin : wpAny (model X.prog X.w) X.A (setFlight (.ref a) X.env.frame) (fun _ s4 => wpAny (model X.prog X.w) X.A (throw (.ref a) : Sem Flow) (SP X pins D) X.xe s4) X.xe { s' with heap := h3 } := by
          rw [hf]
          refine HandSPX.setFlight_upZ fl3 fun h4 hh4 up4 => wpAny_throw (tk _ _ ?_)
          exact ⟨a, B, sI, pins, σ', H', cls, d, rfl, J, nb, (up.trans up3).trans up4, .inr (.inr (by rw [hs]; exact hh4)), na, os, ag, w⟩
        first
          | exact wpAny_bind (wpAny_pure (wpAny_bind fin))
          | exact wpAny_bind fin
      | @no x c ts b₀ suite np pos' hds2 l2 hc hsu r ih =>
        intro w
        obtain ⟨b, hb1, hyes, hno⟩ := w
        have LM := PySem.W.exm_one (M := model X.prog X.w) (J3.kIn) LT hb1
        refine wpAny_handleBy_cons (codeAny_handlers_test ?_) (by intro q; cases q)
        refine test hc (LM.here ?_)
        cases b with
        | true =>
          refine codeAny_handlers_suite ?_
          refine HandSPX.lands_againZ fl3 fun h4 fl4 up4 => ?_
          have J4 : Inv X pins σ' H' { s' with heap := h4 } := J.landed nb fl4.1 ((up.trans up3).trans up4) os ag
          obtain ⟨oe4, vs4, he4, hz4, hd4⟩ := fl4.there
          have S4 := J4.suite he4 hd4 na nL nF
          refine wpAny_mono ((hsu a oe4 cls d (X.pn ++ pins) hz4 ⟨_, hd4⟩).run [] _ _ H' _ S4 (hyes rfl a na J.len)) (fun f s6 hsp => ?_) (fun _ _ z => False.elim z)
          cases f with
          | next =>
            obtain ⟨σ6, H6, S6, q6⟩ := hsp
            exact ⟨_, _, S6.unsuite ok, q6⟩
          | brk =>
            obtain ⟨σ6, H6, S6, q6⟩ := hsp
            exact ⟨_, _, S6.unsuite ok, q6⟩
          | cont =>
            obtain ⟨σ6, H6, S6, q6⟩ := hsp
            exact ⟨_, _, S6.unsuite ok, q6⟩
          | ret u =>
            obtain ⟨v6, σ6, H6, S6, r6, q6⟩ := hsp
            exact ⟨_, _, _, S6.unsuite ok, r6, q6⟩
        | false =>
          show wpAny _ X.A (handleBy (.ref a) X.env hds2) _ _ _
          exact ih (hno rfl)
      | @as x n c i ts b₀ suite np pos' hds2 l2 hi hln hc hsu r ih =>
        intro w
        obtain ⟨b, hb1, hyes, hno⟩ := w
        have LM := PySem.W.exm_one (M := model X.prog X.w) (J3.kIn) LT hb1
        refine wpAny_handleBy_cons (codeAny_handlers_test ?_) (by intro q; cases q)
        refine test hc (LM.here ?_)
        cases b with
        | true =>
          refine codeAny_handlers_suite_as ?_
          refine HandSPX.lands_againZ fl3 fun h4 fl4 up4 => ?_
          have J4 : Inv X pins σ' H' { s' with heap := h4 } := J.landed nb fl4.1 ((up.trans up3).trans up4) os ag
          obtain ⟨oe4, vs4, he4, hz4, hd4⟩ := fl4.there
          have S4 := J4.suite he4 hd4 na nL nF
          refine store_ok (X := X.suite a ((a, oe4) :: (X.pn ++ pins))) (v := .ref a) S4 hN hi (.inl hln) rfl (fun s5 S5 => ?_) (.inr hln)
          refine wpAny_mono ((hsu a oe4 cls d (X.pn ++ pins) hz4 ⟨_, hd4⟩).run [] s5 _ H' _ S5 (hyes rfl a na J.len)) (fun f s6 hsp => ?_) (fun _ _ z => False.elim z)
          have end_ : ∀ {σ6 : L2.St} {H6 : Hp} {Q : Shared → Prop}, Inv (X.suite a ((a, oe4) :: (X.pn ++ pins))) [] σ6 H6 s6 → (∀ s7, Inv X pins (σ6.set i none) H6 s7 → Q s7) →
              wpAny (model X.prog X.w) X.A (do bindName X.env n .none; unbindBehindTheSuite X.env n pos') (fun _ s7 => Q s7) X.xe s6 := fun {σ6 H6 Q} S6 hq => gone_ok (S6.unsuite ok) hN hi hln hq
          cases f with
          | next =>
            obtain ⟨σ6, H6, S6, q6⟩ := hsp
            exact end_ S6 fun s7 J7 => ⟨_, _, J7, q6⟩
          | brk =>
            obtain ⟨σ6, H6, S6, q6⟩ := hsp
            exact end_ S6 fun s7 J7 => ⟨_, _, J7, q6⟩
          | cont =>
            obtain ⟨σ6, H6, S6, q6⟩ := hsp
            exact end_ S6 fun s7 J7 => ⟨_, _, J7, q6⟩
          | ret u =>
            obtain ⟨v6, σ6, H6, S6, r6, q6⟩ := hsp
            exact end_ S6 fun s7 J7 => ⟨_, _, _, J7, r6, q6⟩
        | false =>
          show wpAny _ X.A (handleBy (.ref a) X.env hds2) _ _ _
          exact ih (hno rfl)
    exact go hh w
  · cases f with
    | next =>
      obtain ⟨σ', H', J', q⟩ := hsp
      exact wpAny_execs_nil ⟨σ', H', J'.ofTry ok, q⟩
    | brk =>
      obtain ⟨σ', H', J', q⟩ := hsp
      exact ⟨σ', H', J'.ofTry ok, q⟩
    | cont =>
      obtain ⟨σ', H', J', q⟩ := hsp
      exact ⟨σ', H', J'.ofTry ok, q⟩
    | ret u =>
      obtain ⟨v, σ', H', J', r, q⟩ := hsp
      exact ⟨v, σ', H', J'.ofTry ok, r, q⟩
end
end Ft

set_option Elab.async false
set_option linter.all false
set_option maxRecDepth 100000
set_option maxHeartbeats 4000000
/-! Data as it lies in the heap, and what the program's judges say of it. -/
namespace Ft
open PySem PySem.Spec PyProof.Rows L2
/-! ### data stay -/
theorem Same.sqL {K : PySem.W.Frag} {H H' : Hp} (k : Same H H') {a : Addr} {xs : List V} (h : SqL K H a xs) : SqL K H' a xs := (Same.kp (ex := []) k).sqL (by simp) h
mutual
theorem dp_same {K : PySem.W.Frag} {H H' : Hp} (s : Same H H') : ∀ (d : PyData) (v : V), Dp K H v d → Dp K H' v d
  | .none, _, h => by cases h; exact .non
  | .bool _, _, h => by cases h; exact .bl _
  | .int _, _, h => by cases h; exact .int _
  | .str _, _, h => by cases h; exact .str _
  | .list ds, _, h => by
    cases h with
    | lst h a => exact .lst (Same.sqL s h) (dp_sames s ds _ a)
  | .tuple ds, _, h => by
    cases h with
    | tup h a => exact .tup (Same.sqT s h) (dp_sames s ds _ a)
  | .dict _, _, h => by cases h
theorem dp_sames {K : PySem.W.Frag} {H H' : Hp} (s : Same H H') : ∀ (ds : List PyData) (vs : List V), DpAll K H vs ds → DpAll K H' vs ds
  | [], _, h => by cases h; exact .nil
  | d :: ds, _, h => by
    cases h with
    | cons h1 h2 => exact .cons (dp_same s d _ h1) (dp_sames s ds _ h2)
end
theorem Dp.same {K : PySem.W.Frag} {H H' : Hp} (s : Same H H') {d : PyData} {v : V} (h : Dp K H v d) : Dp K H' v d := dp_same s d v h
theorem DpAll.same {K : PySem.W.Frag} {H H' : Hp} (s : Same H H') {ds : List PyData} {vs : List V} (h : DpAll K H vs ds) : DpAll K H' vs ds := dp_sames s ds vs h
/-! no list in it -/
mutual
def noList : PyData → Bool
  | .list _ => false
  | .tuple ds => noLists ds
  | _ => true
def noLists : List PyData → Bool
  | [] => true
  | d :: ds => noList d && noLists ds
end
mutual
theorem dp_kp {K : PySem.W.Frag} {ex : List Addr} {H H' : Hp} (k : Kp ex H H') (l : Lists ex H) : ∀ (d : PyData) (v : V), noList d = true → Dp K H v d → Dp K H' v d
  | .none, _, _, h => by cases h; exact .non
  | .bool _, _, _, h => by cases h; exact .bl _
  | .int _, _, _, h => by cases h; exact .int _
  | .str _, _, _, h => by cases h; exact .str _
  | .list ds, _, n, h => by simp [noList] at n
  | .tuple ds, _, n, h => by
    cases h with
    | tup h a => exact .tup (k.sqT l h) (dp_kps k l ds _ (by simpa [noList] using n) a)
  | .dict _, _, _, h => by cases h
theorem dp_kps {K : PySem.W.Frag} {ex : List Addr} {H H' : Hp} (k : Kp ex H H') (l : Lists ex H) : ∀ (ds : List PyData) (vs : List V), noLists ds = true → DpAll K H vs ds → DpAll K H' vs ds
  | [], _, _, h => by cases h; exact .nil
  | d :: ds, _, n, h => by
    simp only [noLists, Bool.and_eq_true] at n
    cases h with
    | cons h1 h2 => exact .cons (dp_kp k l d _ n.1 h1) (dp_kps k l ds _ n.2 h2)
end
theorem dpAll_length {K : PySem.W.Frag} {H : Hp} : ∀ {vs : List V} {ds : List PyData}, DpAll K H vs ds → vs.length = ds.length
  | _, _, .nil => rfl
  | _, _, .cons _ t => by rw [List.length_cons, List.length_cons, dpAll_length t]
theorem dpAll_get {K : PySem.W.Frag} {H : Hp} : ∀ {vs : List V} {ds : List PyData} {i : Nat} {v : V}, DpAll K H vs ds → vs[i]? = some v → ∃ d, ds[i]? = some d ∧ Dp K H v d
  | _, _, _, _, .nil, e => by simp at e
  | _, _, 0, _, .cons r _, e => by
    simp at e
    subst e
    exact ⟨_, rfl, r⟩
  | _, _, i + 1, _, .cons _ t, e => by
    obtain ⟨d, h1, h2⟩ := dpAll_get (i := i) t (by simpa using e)
    exact ⟨d, by simpa using h1, h2⟩
theorem dpAll_getD {K : PySem.W.Frag} {H : Hp} : ∀ {vs : List V} {ds : List PyData} {i : Nat} {d : PyData}, DpAll K H vs ds → ds[i]? = some d → ∃ v, vs[i]? = some v ∧ Dp K H v d
  | _, _, _, _, .nil, e => by simp at e
  | _, _, 0, _, .cons r _, e => by
    simp at e
    subst e
    exact ⟨_, rfl, r⟩
  | _, _, i + 1, _, .cons _ t, e => by
    obtain ⟨d, h1, h2⟩ := dpAll_getD (i := i) t (by simpa using e)
    exact ⟨d, by simpa using h1, h2⟩
/-! ### isinstance of data -/
def tyD : PyData → String
  | .none => "NoneType"
  | .bool _ => "bool"
  | .int _ => "int"
  | .str _ => "str"
  | .list _ => "list"
  | .tuple _ => "tuple"
  | .dict _ => "dict"
theorem isi_dp {K : PySem.W.Frag} {H : Hp} {v : V} {d : PyData} (h : Dp K H v d) : TyX K H v (.type (tyD d)) := by
  cases h with
  | non => exact .base .non
  | bl b => exact .base (.bl b)
  | int i => exact .base (.int i)
  | str x => exact .base (.str x)
  | lst h _ =>
    rcases h with (h | ⟨o, h⟩) | ⟨o, _, _, e, c, _⟩
    · exact .base (.lst h)
    · exact .base (.frz h)
    · exact .kList e c
  | tup h _ => exact isi_tuple h
def isTup : PyData → Bool
  | .tuple _ => true
  | _ => false
def isIntB : PyData → Bool
  | .int _ => true
  | .bool _ => true
  | _ => false
def isBl : PyData → Bool
  | .bool _ => true
  | _ => false
def isNum : PyData → Bool
  | .int _ => true
  | _ => false
theorem kit_tup {K : PySem.W.Frag} (d : PyData) : PySem.W.kitOne K (.type (tyD d)) (.type "tuple") = some (isTup d) := by
  cases d with
  | none => exact kit_ty (show kitB "NoneType" "tuple" = some false by decide +kernel)
  | bool b => exact kit_ty (show kitB "bool" "tuple" = some false by decide +kernel)
  | int i => exact kit_ty (show kitB "int" "tuple" = some false by decide +kernel)
  | str z => exact kit_ty (show kitB "str" "tuple" = some false by decide +kernel)
  | list l => exact kit_ty (show kitB "list" "tuple" = some false by decide +kernel)
  | tuple l => exact kit_ty (show kitB "tuple" "tuple" = some true by decide +kernel)
  | dict l => exact kit_ty (show kitB "dict" "tuple" = some false by decide +kernel)
theorem kit_int {K : PySem.W.Frag} (d : PyData) : PySem.W.kitOne K (.type (tyD d)) (.type "int") = some (isIntB d) := by
  cases d with
  | none => exact kit_ty (show kitB "NoneType" "int" = some false by decide +kernel)
  | bool b => exact kit_ty (show kitB "bool" "int" = some true by decide +kernel)
  | int i => exact kit_ty (show kitB "int" "int" = some true by decide +kernel)
  | str z => exact kit_ty (show kitB "str" "int" = some false by decide +kernel)
  | list l => exact kit_ty (show kitB "list" "int" = some false by decide +kernel)
  | tuple l => exact kit_ty (show kitB "tuple" "int" = some false by decide +kernel)
  | dict l => exact kit_ty (show kitB "dict" "int" = some false by decide +kernel)
theorem kit_bool {K : PySem.W.Frag} (d : PyData) : PySem.W.kitOne K (.type (tyD d)) (.type "bool") = some (isBl d) := by
  cases d with
  | none => exact kit_ty (show kitB "NoneType" "bool" = some false by decide +kernel)
  | bool b => exact kit_ty (show kitB "bool" "bool" = some true by decide +kernel)
  | int i => exact kit_ty (show kitB "int" "bool" = some false by decide +kernel)
  | str z => exact kit_ty (show kitB "str" "bool" = some false by decide +kernel)
  | list l => exact kit_ty (show kitB "list" "bool" = some false by decide +kernel)
  | tuple l => exact kit_ty (show kitB "tuple" "bool" = some false by decide +kernel)
  | dict l => exact kit_ty (show kitB "dict" "bool" = some false by decide +kernel)
theorem isTup_not {d : PyData} (h : isTup d = false) : ∀ ds, d ≠ .tuple ds := by
  intro ds z
  subst z
  cases h
theorem isTup_is {d : PyData} (h : isTup d = true) : ∃ ds, d = .tuple ds := by
  cases d with
  | tuple ds => exact ⟨ds, rfl⟩
  | _ => cases h
theorem isNum_is {d : PyData} (h : isNum d = true) : ∃ i, d = .int i := by
  cases d with
  | int i => exact ⟨i, rfl⟩
  | _ => cases h
theorem dp_int {K : PySem.W.Frag} {H : Hp} {v : V} {i : Int} (h : Dp K H v (.int i)) : v = .int i := by cases h; rfl
theorem dp_tup {K : PySem.W.Frag} {H : Hp} {v : V} {ds : List PyData} (h : Dp K H v (.tuple ds)) : ∃ a xs, v = .ref a ∧ SqT K H a xs ∧ DpAll K H xs ds := by
  cases h with
  | tup h1 h2 => exact ⟨_, _, rfl, h1, h2⟩
/-! ### numbers, places, lots -/
def numOf : PyData → Int
  | .int i => i
  | _ => 0
def numIn (lo hi : Int) (d : PyData) : Bool := isNum d && (decide (lo ≤ numOf d) && decide (numOf d ≤ hi))
theorem numIn_is {lo hi : Int} {d : PyData} (h : numIn lo hi d = true) : ∃ i, d = .int i ∧ lo ≤ i ∧ i ≤ hi := by
  unfold numIn at h
  simp only [Bool.and_eq_true, decide_eq_true_eq] at h
  obtain ⟨i, rfl⟩ := isNum_is h.1
  exact ⟨i, rfl, h.2.1, h.2.2⟩
theorem numIn_int {lo hi i : Int} : numIn lo hi (.int i) = true ↔ lo ≤ i ∧ i ≤ hi := by
  unfold numIn
  simp only [isNum, numOf, Bool.true_and, Bool.and_eq_true]
  exact ⟨fun h => ⟨of_decide_eq_true h.1, of_decide_eq_true h.2⟩, fun h => ⟨decide_eq_true h.1, decide_eq_true h.2⟩⟩
def nD (n : Nat) : PyData := .int (n : Int)
theorem numIn_nat {lo hi : Int} {n : Nat} : numIn lo hi (nD n) = true ↔ lo ≤ (n : Int) ∧ (n : Int) ≤ hi := numIn_int
theorem dp_nat {K : PySem.W.Frag} {H : Hp} (n : Nat) : Dp K H (vN n) (nD n) := .int _
theorem dp_nats {K : PySem.W.Frag} {H : Hp} : ∀ (ws : List Nat), DpAll K H (ws.map vN) (ws.map nD)
  | [] => .nil
  | _ :: ws => .cons (dp_nat _) (dp_nats ws)
theorem nats_dp {K : PySem.W.Frag} {H : Hp} : ∀ {ws : List Nat} {xs : List V}, DpAll K H xs (ws.map nD) → xs = ws.map vN
  | [], _, h => by cases h; rfl
  | w :: ws, _, h => by
    cases h with
    | cons h1 h2 =>
      have := nats_dp (ws := ws) h2
      subst this
      cases h1
      rfl
def lotD (ws : List Nat) : PyData := .tuple (ws.map nD)
theorem dp_lot {K : PySem.W.Frag} {H : Hp} {a : Addr} {ws : List Nat} (h : SqT K H a (ws.map vN)) : Dp K H (.ref a) (lotD ws) := .tup h (dp_nats ws)
theorem lot_dp {K : PySem.W.Frag} {H : Hp} {v : V} {ws : List Nat} (h : Dp K H v (lotD ws)) : ∃ a, v = .ref a ∧ SqT K H a (ws.map vN) := by
  obtain ⟨a, xs, rfl, h1, h2⟩ := dp_tup h
  rw [nats_dp h2] at h1
  exact ⟨a, rfl, h1⟩
/-- the first that is no place or not above the one before it -/
def badPlace (n : Nat) : Int → Nat → List PyData → Option Nat
  | _, _, [] => none
  | b, i, d :: ds => if numIn (b + 1) ((n : Int) - 1) d = true then badPlace n (numOf d) (i + 1) ds else some i
theorem badPlace_ok {n : Nat} : ∀ {ws : List Nat} {b : Int} {i : Nat}, ws.Pairwise (· < ·) → (∀ x ∈ ws, x < n) → (∀ x ∈ ws, b < (x : Int)) → badPlace n b i (ws.map nD) = none
  | [], _, _, _, _, _ => rfl
  | w :: ws, b, i, up, lt, ab => by
    have h1 := lt w List.mem_cons_self
    have h2 := ab w List.mem_cons_self
    show (if numIn (b + 1) ((n : Int) - 1) (nD w) = true then badPlace n (numOf (nD w)) (i + 1) (ws.map nD) else some i) = none
    rw [if_pos (numIn_nat.mpr ⟨by omega, by omega⟩)]
    obtain ⟨u1, u2⟩ := List.pairwise_cons.mp up
    exact badPlace_ok u2 (fun x hx => lt x (List.mem_cons_of_mem _ hx)) fun x hx => by
      have := u1 x hx
      show (w : Int) < x
      omega
theorem badPlace_none {n : Nat} : ∀ {ds : List PyData} {b : Int} {i : Nat}, -1 ≤ b → badPlace n b i ds = none → ∃ ws : List Nat, ds = ws.map nD ∧ ws.Pairwise (· < ·) ∧ (∀ x ∈ ws, x < n) ∧ ∀ x ∈ ws, b < (x : Int)
  | [], _, _, _, _ => ⟨[], rfl, List.Pairwise.nil, (fun _ h => nomatch h), (fun _ h => nomatch h)⟩
  | d :: ds, b, i, hb, h => by
    unfold badPlace at h
    by_cases c : numIn (b + 1) ((n : Int) - 1) d = true
    · rw [if_pos c] at h
      obtain ⟨x, rfl, l1, l2⟩ := numIn_is c
      obtain ⟨ws, rfl, up, lt, ab⟩ := badPlace_none (b := x) (by omega) h
      refine ⟨x.toNat :: ws, ?_, List.pairwise_cons.mpr ⟨fun y hy => ?_, up⟩, fun y hy => ?_, fun y hy => ?_⟩
      · have : (x.toNat : Int) = x := by omega
        simp only [List.map_cons, nD]
        rw [this]
      · have := ab y hy
        omega
      · rcases List.mem_cons.mp hy with rfl | hy
        · omega
        · exact lt y hy
      · rcases List.mem_cons.mp hy with rfl | hy
        · omega
        · have := ab y hy
          omega
    · rw [if_neg c] at h
      cases h
def lotOk (n : Nat) : PyData → Bool
  | .tuple ds => (badPlace n (-1) 0 ds).isNone
  | _ => false
theorem lotOk_lot {n : Nat} {ws : List Nat} (up : ws.Pairwise (· < ·)) (lt : ∀ x ∈ ws, x < n) : lotOk n (lotD ws) = true := by
  unfold lotOk lotD
  simp only []
  rw [badPlace_ok up lt (fun x _ => by omega)]
  rfl
theorem lotOk_is {n : Nat} {d : PyData} (h : lotOk n d = true) : ∃ ws, d = lotD ws ∧ ws.Pairwise (· < ·) ∧ ∀ x ∈ ws, x < n := by
  cases d with
  | tuple ds =>
    unfold lotOk at h
    simp only [Option.isNone_iff_eq_none] at h
    obtain ⟨ws, rfl, up, lt, _⟩ := badPlace_none (by omega) h
    exact ⟨ws, rfl, up, lt⟩
  | _ => cases h
def optI : Option Nat → Option Int
  | none => none
  | some i => some (i : Int)
theorem optI_none {o : Option Nat} (h : optI o = none) : o = none := by
  cases o with
  | none => rfl
  | some i => cases h
/-! ### roads -/
def pairD (p : Nat × Nat) : PyData := .tuple [nD p.1, nD p.2]
def pairOf (n : Nat) : PyData → Option (Nat × Nat)
  | .tuple [a, b] => if (numIn 0 ((n : Int) - 1) a && numIn 0 ((n : Int) - 1) b) = true then some ((numOf a).toNat, (numOf b).toNat) else none
  | _ => none
theorem pairOf_pair {n : Nat} {p : Nat × Nat} (h : p.1 < n ∧ p.2 < n) : pairOf n (pairD p) = some p := by
  unfold pairOf pairD
  simp only []
  rw [if_pos]
  · rfl
  · rw [Bool.and_eq_true, numIn_nat, numIn_nat]
    omega
theorem pairOf_is {n : Nat} {d : PyData} {p : Nat × Nat} (h : pairOf n d = some p) : d = pairD p ∧ p.1 < n ∧ p.2 < n := by
  unfold pairOf at h
  split at h
  · rename_i a b
    split at h
    · rename_i c
      rw [Bool.and_eq_true] at c
      obtain ⟨i, rfl, i1, i2⟩ := numIn_is c.1
      obtain ⟨j, rfl, j1, j2⟩ := numIn_is c.2
      cases h
      refine ⟨?_, ?_, ?_⟩
      · unfold pairD nD
        simp only [numOf]
        rw [show ((i.toNat : Nat) : Int) = i by omega, show ((j.toNat : Nat) : Int) = j by omega]
      · simp only [numOf]
        omega
      · simp only [numOf]
        omega
    · cases h
  · cases h
instance (p q : Nat × Nat) : Decidable (ltP p q) := by unfold ltP; exact inferInstance
def above (p : Option (Nat × Nat)) (q : Nat × Nat) : Bool := match p with
  | none => true
  | some p => decide (ltP p q)
def badRoad (n : Nat) : Option (Nat × Nat) → Nat → List PyData → Option Nat
  | _, _, [] => none
  | p, i, d :: ds => match pairOf n d with
    | none => some i
    | some q => if above p q = true then badRoad n (some q) (i + 1) ds else some i
theorem badRoad_ok {n : Nat} : ∀ {ps : List (Nat × Nat)} {p : Option (Nat × Nat)} {i : Nat}, ps.Pairwise ltP → (∀ q ∈ ps, q.1 < n ∧ q.2 < n) → (∀ q ∈ ps, above p q = true) → badRoad n p i (ps.map pairD) = none
  | [], _, _, _, _, _ => rfl
  | q :: ps, p, i, up, lt, ab => by
    obtain ⟨u1, u2⟩ := List.pairwise_cons.mp up
    show (match pairOf n (pairD q) with
      | none => some i
      | some q => if above p q = true then badRoad n (some q) (i + 1) (ps.map pairD) else some i) = none
    rw [pairOf_pair (lt q List.mem_cons_self)]
    simp only []
    rw [if_pos (ab q List.mem_cons_self)]
    exact badRoad_ok u2 (fun x hx => lt x (List.mem_cons_of_mem _ hx)) fun x hx => decide_eq_true (u1 x hx)
theorem ltP_trans {a b c : Nat × Nat} (h1 : ltP a b) (h2 : ltP b c) : ltP a c := by
  unfold ltP at *
  omega
theorem badRoad_none {n : Nat} : ∀ {ds : List PyData} {p : Option (Nat × Nat)} {i : Nat}, badRoad n p i ds = none → ∃ ps : List (Nat × Nat), ds = ps.map pairD ∧ ps.Pairwise ltP ∧ (∀ q ∈ ps, q.1 < n ∧ q.2 < n) ∧ ∀ q ∈ ps, above p q = true
  | [], _, _, _ => ⟨[], rfl, List.Pairwise.nil, (fun _ h => nomatch h), (fun _ h => nomatch h)⟩
  | d :: ds, p, i, h => by
    unfold badRoad at h
    cases e : pairOf n d with
    | none => rw [e] at h; cases h
    | some q =>
      rw [e] at h
      simp only [] at h
      obtain ⟨e1, e2⟩ := pairOf_is e
      subst e1
      by_cases c : above p q = true
      · rw [if_pos c] at h
        obtain ⟨ps, rfl, up, lt, ab⟩ := badRoad_none h
        have ab' : ∀ x ∈ ps, ltP q x := fun x hx => of_decide_eq_true (ab x hx)
        refine ⟨q :: ps, rfl, List.pairwise_cons.mpr ⟨ab', up⟩, fun x hx => ?_, fun x hx => ?_⟩
        · rcases List.mem_cons.mp hx with rfl | hx
          · exact e2
          · exact lt x hx
        · rcases List.mem_cons.mp hx with rfl | hx
          · exact c
          · cases p with
            | none => rfl
            | some p => exact decide_eq_true (ltP_trans (of_decide_eq_true c) (ab' x hx))
      · rw [if_neg c] at h
        cases h
def roadsErr (n : Nat) : PyData → Option Int
  | .tuple ds => if ds.length ≤ 240 then optI (badRoad n none 0 ds) else some (-3)
  | _ => some (-3)
/-! ### maps -/
def chartD (C : Chart) : PyData := .tuple [nD C.n, .tuple (C.roads.map pairD), lotD C.wished]
def wishErr (n : Nat) : PyData → Option Int
  | .tuple ds => optI (badPlace n (-1) 0 ds)
  | _ => some (-1)
def mapErr3 (p r w : PyData) : Option (Str × Int) :=
  if numIn 0 60 p = true then
    match roadsErr (numOf p).toNat r with
    | some i => some ("BadMap", i)
    | none => (wishErr (numOf p).toNat w).map fun i => ("BadWish", i)
  else some ("BadMap", -2)
def mapErr : PyData → Option (Str × Int)
  | .tuple [p, r, w] => mapErr3 p r w
  | _ => some ("BadMap", -1)
theorem mapErr_chart {C : Chart} (ok : C.Ok) : mapErr (chartD C) = none := by
  have n60 := ok.n60
  unfold chartD mapErr mapErr3
  simp only []
  rw [if_pos (by rw [numIn_nat]; omega)]
  have e : (numOf (nD C.n)).toNat = C.n := by simp [nD, numOf]
  rw [e]
  have e1 : roadsErr C.n (.tuple (C.roads.map pairD)) = none := by
    unfold roadsErr
    simp only []
    rw [if_pos (by rw [List.length_map]; exact ok.many), badRoad_ok ok.upR ok.inR (fun _ _ => rfl)]
    rfl
  have e2 : wishErr C.n (lotD C.wished) = none := by
    unfold wishErr lotD
    simp only []
    rw [badPlace_ok ok.upW ok.inW (fun _ _ => by omega)]
    rfl
  rw [e1, e2]
  rfl
theorem mapErr3_none {p r w : PyData} (h : mapErr3 p r w = none) : ∃ C : Chart, C.Ok ∧ p = nD C.n ∧ r = .tuple (C.roads.map pairD) ∧ w = lotD C.wished := by
  unfold mapErr3 at h
  split at h
  · rename_i c
    obtain ⟨i, rfl, i1, i2⟩ := numIn_is c
    have ei : ((numOf (PyData.int i)).toNat : Int) = i := by simp only [numOf]; omega
    cases e : roadsErr (numOf (.int i)).toNat r with
    | some j => rw [e] at h; cases h
    | none =>
      rw [e] at h
      simp only [Option.map_eq_none_iff] at h
      cases r with
      | tuple rs =>
        unfold roadsErr at e
        simp only [] at e
        split at e
        · rename_i l
          have e := optI_none e
          obtain ⟨ps, rfl, up, lt, _⟩ := badRoad_none e
          cases w with
          | tuple ws =>
            unfold wishErr at h
            have h := optI_none h
            obtain ⟨vs, rfl, upv, ltv, _⟩ := badPlace_none (by omega) h
            refine ⟨⟨(numOf (.int i)).toNat, ps, vs⟩, ⟨?_, ?_, lt, up, ltv, upv⟩, ?_, rfl, rfl⟩
            · show (numOf (.int i)).toNat ≤ 60
              omega
            · rw [List.length_map] at l
              exact l
            · show PyData.int i = .int ((numOf (.int i)).toNat : Int)
              rw [ei]
          | _ => cases h
        · cases e
      | _ => cases e
  · cases h
theorem mapErr_none {d : PyData} (h : mapErr d = none) : ∃ C : Chart, C.Ok ∧ d = chartD C := by
  unfold mapErr at h
  split at h
  · obtain ⟨C, ok, rfl, rfl, rfl⟩ := mapErr3_none h
    exact ⟨C, ok, rfl⟩
  · cases h
theorem dp_pairs {K : PySem.W.Frag} {H : Hp} : ∀ {ts : List Addr} {ps : List (Nat × Nat)}, PairsAt K H ts ps → DpAll K H (ts.map V.ref) (ps.map pairD)
  | _, _, .nil => .nil
  | _, _, .cons r t => .cons (.tup r (.cons (dp_nat _) (.cons (dp_nat _) .nil))) (dp_pairs t)
theorem pairs_dp {K : PySem.W.Frag} {H : Hp} : ∀ {ps : List (Nat × Nat)} {xs : List V}, DpAll K H xs (ps.map pairD) → ∃ ts, xs = ts.map V.ref ∧ PairsAt K H ts ps
  | [], _, h => by cases h; exact ⟨[], rfl, .nil⟩
  | p :: ps, _, h => by
    cases h with
    | cons h1 h2 =>
      obtain ⟨ts, rfl, q⟩ := pairs_dp (ps := ps) h2
      obtain ⟨a, xs, rfl, hs, ha⟩ := dp_tup h1
      have e : xs = [p.1, p.2].map vN := nats_dp (ws := [p.1, p.2]) ha
      subst e
      exact ⟨a :: ts, rfl, .cons hs q⟩
theorem dp_chart {K : PySem.W.Frag} {H : Hp} {c : Addr} {C : Chart} (h : IsChart K H c C) : Dp K H (.ref c) (chartD C) := by
  obtain ⟨r, w, ts, q⟩ := h
  exact .tup q.top (.cons (dp_nat _) (.cons (.tup q.row (dp_pairs q.prs)) (.cons (dp_lot q.wis) .nil)))
theorem chart_dp {K : PySem.W.Frag} {H : Hp} {v : V} {C : Chart} (h : Dp K H v (chartD C)) : ∃ c, v = .ref c ∧ IsChart K H c C := by
  obtain ⟨c, xs, rfl, hs, ha⟩ := dp_tup h
  cases ha with
  | cons h1 ha =>
    cases ha with
    | cons h2 ha =>
      cases ha with
      | cons h3 ha =>
        cases ha
        cases h1
        obtain ⟨r, ys, rfl, hr, har⟩ := dp_tup h2
        obtain ⟨w, rfl, hw⟩ := lot_dp h3
        obtain ⟨ts, rfl, pr⟩ := pairs_dp har
        exact ⟨c, rfl, r, w, ts, hs, hr, pr, hw⟩
/-! ### standings -/
/-- the first that is no place -/
def noPlace (n : Nat) : Nat → List PyData → Option Nat
  | _, [] => none
  | i, d :: ds => if numIn 0 ((n : Int) - 1) d = true then noPlace n (i + 1) ds else some i
def standErr (n : Nat) : PyData → Option Int
  | .tuple ds => if 1 ≤ ds.length ∧ ds.length ≤ 3 then optI (noPlace n 0 ds) else some (-1)
  | _ => some (-1)
theorem noPlace_ok {n : Nat} : ∀ {ws : List Nat} {i : Nat}, (∀ x ∈ ws, x < n) → noPlace n i (ws.map nD) = none
  | [], _, _ => rfl
  | w :: ws, i, lt => by
    have h1 := lt w List.mem_cons_self
    show (if numIn 0 ((n : Int) - 1) (nD w) = true then noPlace n (i + 1) (ws.map nD) else some i) = none
    rw [if_pos (numIn_nat.mpr ⟨by omega, by omega⟩)]
    exact noPlace_ok fun x hx => lt x (List.mem_cons_of_mem _ hx)
theorem noPlace_none {n : Nat} : ∀ {ds : List PyData} {i : Nat}, noPlace n i ds = none → ∃ ws : List Nat, ds = ws.map nD ∧ ∀ x ∈ ws, x < n
  | [], _, _ => ⟨[], rfl, (fun _ h => nomatch h)⟩
  | d :: ds, i, h => by
    unfold noPlace at h
    by_cases c : numIn 0 ((n : Int) - 1) d = true
    · rw [if_pos c] at h
      obtain ⟨x, rfl, l1, l2⟩ := numIn_is c
      obtain ⟨ws, rfl, lt⟩ := noPlace_none h
      refine ⟨x.toNat :: ws, ?_, fun y hy => ?_⟩
      · have : (x.toNat : Int) = x := by omega
        simp only [List.map_cons, nD]
        rw [this]
      · rcases List.mem_cons.mp hy with rfl | hy
        · omega
        · exact lt y hy
    · rw [if_neg c] at h
      cases h
theorem standErr_ok {n : Nat} {S : List Nat} (lt : ∀ x ∈ S, x < n) (l1 : 1 ≤ S.length) (l3 : S.length ≤ 3) : standErr n (lotD S) = none := by
  unfold standErr lotD
  simp only []
  rw [if_pos (by rw [List.length_map]; exact ⟨l1, l3⟩), noPlace_ok lt]
  rfl
theorem standErr_none {n : Nat} {d : PyData} (h : standErr n d = none) : ∃ S : List Nat, d = lotD S ∧ (∀ x ∈ S, x < n) ∧ 1 ≤ S.length ∧ S.length ≤ 3 := by
  cases d with
  | tuple ds =>
    unfold standErr at h
    simp only [] at h
    split at h
    · rename_i c
      have h := optI_none h
      obtain ⟨ws, rfl, lt⟩ := noPlace_none h
      rw [List.length_map] at c
      exact ⟨ws, rfl, lt, c.1, c.2⟩
    · cases h
  | _ => cases h
end Ft

set_option Elab.async false
set_option linter.all false
set_option maxRecDepth 100000
set_option maxHeartbeats 4000000
namespace Ft
open PySem PySem.Spec PyProof.Rows L2
theorem Er.g {P : Program} {w : World} {K : PySem.W.Frag} {mg : Str → Option Value} {base : Heap} {ca : Str → Addr} {x : Str} (e : Er P w K mg base ca x) : mg x = some (.ref (ca x)) := let ⟨_, _, h, _⟩ := e.ex; h.g
/-- the errors of a class keep what they were made with -/
structure WhatC (K : PySem.W.Frag) (C : Addr) : Prop where
  xf : XfC K C
  no : PySem.W.findIn K (.ref C) "what" = some none
theorem Er.w {P : Program} {w : World} {K : PySem.W.Frag} {mg : Str → Option Value} {base : Heap} {ca : Str → Addr} {x : Str} (e : Er P w K mg base ca x) : WhatC K (ca x) := let ⟨_, _, h, _⟩ := e.ex; ⟨h.xf, h.noW⟩
/-- error.what, in the suite of a clause -/
def tWhat (K : PySem.W.Frag) (a : Addr) (cls : Value) (d : Option Addr) (te : TE) : TE := fun σ H Q => te σ H fun x H1 => x = .ref a ∧ ∃ (C dd : Addr) (v : V), cls = .ref C ∧ WhatC K C ∧ d = some dd ∧ H1 dd = some (.xd [("what", v)]) ∧ Q v H1
theorem pe_what {X : Cx} {a : Addr} {oe : Obj} {cls : Value} {d : Option Addr} {pn : List (Addr × Obj)} {e : Expr} {te : TE} {pos : Pos}
    (hz : Zc cls d oe) (hf : ∃ vs, oe.data = .fields vs) (he : PE (X.suite a ((a, oe) :: pn)) e te) (hb : attributeBase e "what" X.env (eval e X.env) = eval e X.env := by rfl) :
    PE (X.suite a ((a, oe) :: pn)) (.Attribute e "what" pos) (tWhat X.K a cls d te) := by
  refine ⟨fun pins s σ H Q I h => ?_⟩
  have he2 : PE (X.suite a ((a, oe) :: pn)) e (fun σ H Q => ∃ M : V → Hp → Prop, te σ H M ∧ ∀ v H', M v H' → Q v H') := ⟨fun pins s σ H Q I ⟨M, hm, hu⟩ => thn (he.run pins s σ H M I hm) fun u s1 ⟨v, H1, I1, r, m⟩ => ⟨v, H1, I1, r, hu v H1 m⟩⟩
  refine attr_of hb (thn (he2.run pins s σ H (fun x H1 => x = .ref a ∧ ∃ (C dd : Addr) (v : V), cls = .ref C ∧ WhatC X.K C ∧ d = some dd ∧ H1 dd = some (.xd [("what", v)]) ∧ Q v H1) I ⟨_, h, fun _ _ z => z⟩) fun u s1 hh => ?_)
  obtain ⟨x, H1, I1, rx, ex, C, dd, v, ec, T, ed, ea, q⟩ := hh
  subst ex
  obtain rfl : u = Value.ref a := rx
  subst ec
  subst ed
  obtain ⟨ha, _⟩ := I1.pin (a, oe) (List.mem_append_left _ List.mem_cons_self)
  obtain ⟨vs, hd⟩ := hf
  have hx : ObjOk X.prog X.w H1 s1.heap dd (.xd [("what", v)]) := I1.hok dd _ ea
  obtain ⟨mA, hns, hr⟩ := hx
  obtain ⟨od, ho, hl⟩ := lookIn_ns hns
  have l : List.lookup ("what" : Str) [(("what" : Str), v)] = some v := by simp [List.lookup]
  obtain ⟨u, hu, ru⟩ := RelO.some_of (v := v) (o := mA "what") (by rw [← l]; exact hr "what")
  have J : PySem.W.InstAt s1.heap a oe C (some od) := ⟨ha, hz.1, by unfold PySem.W.notCls; rw [hd] <;> rfl, by rw [hz.2]; exact ho⟩
  exact HandSPX.exc_get I1.kIn J T.xf.ga T.xf.gg T.xf.exC (PySem.W.findObj_own T.xf.hdC T.no rfl (by rw [hl, hu])) (handed_of ru) ⟨v, H1, I1.tok _, ru, q⟩
/-- an error of the class c is one that «except d» names, or is not -/
def Exm (K : PySem.W.Frag) (ca : Str → Addr) (c d : Str) (b : Bool) : Prop := PySem.W.exmOne K (.ref (ca c)) (.ref (ca d)) = some b
/-- a module's number -/
def MgI (mg : Str → Option Value) (x : Str) (n : Int) : Prop := ∃ t, mg x = some (.int n t)
theorem pe_globI {X : Cx} {x : Str} {n : Int} {pos : Pos} (hg : Gl X x) (h : MgI X.mg x n) (hd : (x == ("__debug__" : Str)) = false := by decide) : PE X (.Name x pos) (tC (.int n)) := by
  obtain ⟨t, h⟩ := h
  exact pe_glob (v := .int n) hg h ⟨_, rfl⟩ hd
end Ft

set_option Elab.async false
set_option linter.all false
set_option maxRecDepth 100000
set_option maxHeartbeats 4000000
namespace Ft
open PySem PySem.Spec PyProof.Rows L2
def top (i : Nat) : Stmt := PySem.Challenge.pw_fewtraps_k11_later_standings.main.body.getD i (.Pass ⟨0, 0, 0, 0⟩)
abbrev s_made_map : Stmt := top 12
theorem sc_made_map : FnScope ["thing", "places", "roads", "wished", "index"] ["thing"] (L2.defScope s_made_map) := ⟨rfl, rfl, rfl, by decide +kernel, rfl, by decide +kernel, by decide +kernel⟩
abbrev s_is_number : Stmt := top 13
theorem sc_is_number : FnScope ["thing"] ["thing"] (L2.defScope s_is_number) := ⟨rfl, rfl, rfl, by decide +kernel, rfl, by decide +kernel, by decide +kernel⟩
abbrev s_number_within : Stmt := top 14
theorem sc_number_within : FnScope ["thing", "low", "high"] ["thing", "low", "high"] (L2.defScope s_number_within) := ⟨rfl, rfl, rfl, by decide +kernel, rfl, by decide +kernel, by decide +kernel⟩
abbrev s_first_bad_place : Stmt := top 15
theorem sc_first_bad_place : FnScope ["places", "items", "before", "index", "item"] ["places", "items"] (L2.defScope s_first_bad_place) := ⟨rfl, rfl, rfl, by decide +kernel, rfl, by decide +kernel, by decide +kernel⟩
abbrev s_check_roads : Stmt := top 16
theorem sc_check_roads : FnScope ["places", "roads", "index", "road"] ["places", "roads"] (L2.defScope s_check_roads) := ⟨rfl, rfl, rfl, by decide +kernel, rfl, by decide +kernel, by decide +kernel⟩
abbrev s_road_fits : Stmt := top 17
theorem sc_road_fits : FnScope ["places", "thing"] ["places", "thing"] (L2.defScope s_road_fits) := ⟨rfl, rfl, rfl, by decide +kernel, rfl, by decide +kernel, by decide +kernel⟩
abbrev s_place_fits : Stmt := top 18
theorem sc_place_fits : FnScope ["chart", "thing"] ["chart", "thing"] (L2.defScope s_place_fits) := ⟨rfl, rfl, rfl, by decide +kernel, rfl, by decide +kernel, by decide +kernel⟩
abbrev s_roads_from : Stmt := top 19
theorem sc_roads_from : FnScope ["chart", "targets", "a", "b", "_"] ["chart"] (L2.defScope s_roads_from) := ⟨rfl, rfl, rfl, by decide +kernel, rfl, by decide +kernel, by decide +kernel⟩
abbrev s_unwished_of : Stmt := top 20
theorem sc_unwished_of : FnScope ["chart", "wished", "place"] ["chart"] (L2.defScope s_unwished_of) := ⟨rfl, rfl, rfl, by decide +kernel, rfl, by decide +kernel, by decide +kernel⟩
abbrev s_reached : Stmt := top 22
theorem sc_reached : FnScope ["chart", "starts", "targets", "wished", "found", "waiting", "place", "target"] ["chart", "starts"] (L2.defScope s_reached) := ⟨rfl, rfl, rfl, by decide +kernel, rfl, by decide +kernel, by decide +kernel⟩
abbrev s_reached_unwished : Stmt := top 23
theorem sc_reached_unwished : FnScope ["chart", "starts", "wished", "place"] ["chart", "starts"] (L2.defScope s_reached_unwished) := ⟨rfl, rfl, rfl, by decide +kernel, rfl, by decide +kernel, by decide +kernel⟩
abbrev s_piece_table : Stmt := top 25
theorem sc_piece_table : FnScope ["chart", "unwished", "comes_to", "table", "a", "b"] ["chart"] (L2.defScope s_piece_table) := ⟨rfl, rfl, rfl, by decide +kernel, rfl, by decide +kernel, by decide +kernel⟩
abbrev s_unwished_pieces : Stmt := top 26
theorem sc_unwished_pieces : FnScope ["chart", "table", "place"] ["chart", "table"] (L2.defScope s_unwished_pieces) := ⟨rfl, rfl, rfl, by decide +kernel, rfl, by decide +kernel, by decide +kernel⟩
abbrev s_made_standing : Stmt := top 29
theorem sc_made_standing : FnScope ["chart", "thing", "index", "place"] ["chart", "thing"] (L2.defScope s_made_standing) := ⟨rfl, rfl, rfl, by decide +kernel, rfl, by decide +kernel, by decide +kernel⟩
abbrev s_is_standing : Stmt := top 30
theorem sc_is_standing : FnScope ["chart", "thing"] ["chart", "thing"] (L2.defScope s_is_standing) := ⟨rfl, rfl, rfl, by decide +kernel, rfl, by decide +kernel, by decide +kernel⟩
abbrev s_is_later : Stmt := top 31
theorem sc_is_later : FnScope ["chart", "one", "two", "table", "a", "b"] ["chart", "one", "two"] (L2.defScope s_is_later) := ⟨rfl, rfl, rfl, by decide +kernel, rfl, by decide +kernel, by decide +kernel⟩
abbrev s_later_rows : Stmt := top 32
theorem sc_later_rows : FnScope ["chart", "standing", "table", "rows", "place", "firsts", "row", "first", "later"] ["chart", "standing"] (L2.defScope s_later_rows) := ⟨rfl, rfl, rfl, by decide +kernel, rfl, by decide +kernel, by decide +kernel⟩
abbrev s_later_places : Stmt := top 33
theorem sc_later_places : FnScope ["chart", "table", "place"] ["chart", "table", "place"] (L2.defScope s_later_places) := ⟨rfl, rfl, rfl, by decide +kernel, rfl, by decide +kernel, by decide +kernel⟩
abbrev s_check_size : Stmt := top 34
theorem sc_check_size : FnScope ["chart", "table", "threads", "single", "size", "_"] ["chart", "table", "threads"] (L2.defScope s_check_size) := ⟨rfl, rfl, rfl, by decide +kernel, rfl, by decide +kernel, by decide +kernel⟩
abbrev s_law_pool : Stmt := top 36
theorem sc_law_pool : FnScope ["script", "first", "size"] ["script"] (L2.defScope s_law_pool) := ⟨rfl, rfl, rfl, by decide +kernel, rfl, by decide +kernel, by decide +kernel⟩
abbrev s_law_draw : Stmt := top 37
theorem sc_law_draw : FnScope ["pool", "many", "cell", "size", "found"] ["pool", "many"] (L2.defScope s_law_draw) := ⟨rfl, rfl, rfl, by decide +kernel, rfl, by decide +kernel, by decide +kernel⟩
abbrev s_law_pick : Stmt := top 38
theorem sc_law_pick : FnScope ["pool", "things"] ["pool", "things"] (L2.defScope s_law_pick) := ⟨rfl, rfl, rfl, by decide +kernel, rfl, by decide +kernel, by decide +kernel⟩
abbrev s_law_turned : Stmt := top 39
theorem sc_law_turned : FnScope ["pool", "many", "left", "found", "turn"] ["pool", "many"] (L2.defScope s_law_turned) := ⟨rfl, rfl, rfl, by decide +kernel, rfl, by decide +kernel, by decide +kernel⟩
abbrev s_law_map_named : Stmt := top 40
theorem sc_law_map_named : FnScope ["pool", "places", "roads", "wished", "names", "told", "a", "b"] ["pool", "places", "roads", "wished"] (L2.defScope s_law_map_named) := ⟨rfl, rfl, rfl, by decide +kernel, rfl, by decide +kernel, by decide +kernel⟩
abbrev s_law_map_some_wished : Stmt := top 41
theorem sc_law_map_some_wished : FnScope ["pool", "places", "roads", "way", "last", "a", "road"] ["pool", "places", "roads"] (L2.defScope s_law_map_some_wished) := ⟨rfl, rfl, rfl, by decide +kernel, rfl, by decide +kernel, by decide +kernel⟩
abbrev s_law_map_drawn : Stmt := top 42
theorem sc_law_map_drawn : FnScope ["pool", "most", "places", "way", "roads", "turn", "a", "b", "ahead", "size"] ["pool", "most"] (L2.defScope s_law_map_drawn) := ⟨rfl, rfl, rfl, by decide +kernel, rfl, by decide +kernel, by decide +kernel⟩
abbrev s_law_map_planted : Stmt := top 43
theorem sc_law_map_planted : FnScope ["pool", "ring", "ways", "behind", "places", "roads", "last", "way", "turn", "wished", "lot", "chart", "names", "told", "a"] ["pool", "ring", "ways", "behind"] (L2.defScope s_law_map_planted) := ⟨rfl, rfl, rfl, by decide +kernel, rfl, by decide +kernel, by decide +kernel⟩
abbrev s_law_map_standing : Stmt := top 44
theorem sc_law_map_standing : FnScope ["pool", "chart", "most", "found", "turn"] ["pool", "chart", "most"] (L2.defScope s_law_map_standing) := ⟨rfl, rfl, rfl, by decide +kernel, rfl, by decide +kernel, by decide +kernel⟩
abbrev s_law_map_met : Stmt := top 45
theorem sc_law_map_met : FnScope ["chart", "a", "found", "left", "turn", "ahead", "road", "b"] ["chart", "a"] (L2.defScope s_law_map_met) := ⟨rfl, rfl, rfl, by decide +kernel, rfl, by decide +kernel, by decide +kernel⟩
abbrev s_law_map_table : Stmt := top 46
theorem sc_law_map_table : FnScope ["chart", "a"] ["chart"] (L2.defScope s_law_map_table) := ⟨rfl, rfl, rfl, by decide +kernel, rfl, by decide +kernel, by decide +kernel⟩
abbrev s_law_map_comes : Stmt := top 47
theorem sc_law_map_comes : FnScope ["chart", "table", "a", "b"] ["chart", "table", "a"] (L2.defScope s_law_map_comes) := ⟨rfl, rfl, rfl, by decide +kernel, rfl, by decide +kernel, by decide +kernel⟩
abbrev s_law_map_piece : Stmt := top 48
theorem sc_law_map_piece : FnScope ["chart", "table", "a", "b"] ["chart", "table", "a"] (L2.defScope s_law_map_piece) := ⟨rfl, rfl, rfl, by decide +kernel, rfl, by decide +kernel, by decide +kernel⟩
abbrev s_law_map_pieces : Stmt := top 49
theorem sc_law_map_pieces : FnScope ["chart", "table", "lots", "a"] ["chart", "table"] (L2.defScope s_law_map_pieces) := ⟨rfl, rfl, rfl, by decide +kernel, rfl, by decide +kernel, by decide +kernel⟩
abbrev s_law_map_row : Stmt := top 50
theorem sc_law_map_row : FnScope ["chart", "table", "standing", "a"] ["chart", "table", "standing"] (L2.defScope s_law_map_row) := ⟨rfl, rfl, rfl, by decide +kernel, rfl, by decide +kernel, by decide +kernel⟩
abbrev s_law_map_is_later : Stmt := top 51
theorem sc_law_map_is_later : FnScope ["chart", "table", "one", "two", "at", "a"] ["chart", "table", "one", "two"] (L2.defScope s_law_map_is_later) := ⟨rfl, rfl, rfl, by decide +kernel, rfl, by decide +kernel, by decide +kernel⟩
abbrev s_law_map_later : Stmt := top 52
theorem sc_law_map_later : FnScope ["chart", "table", "standing", "found", "a", "spots", "longer", "row", "b"] ["chart", "table", "standing"] (L2.defScope s_law_map_later) := ⟨rfl, rfl, rfl, by decide +kernel, rfl, by decide +kernel, by decide +kernel⟩
abbrev s_law_map_size : Stmt := top 53
theorem sc_law_map_size : FnScope ["chart", "table", "many", "found", "turn"] ["chart", "table", "many"] (L2.defScope s_law_map_size) := ⟨rfl, rfl, rfl, by decide +kernel, rfl, by decide +kernel, by decide +kernel⟩
abbrev s_law_heard : Stmt := top 54
theorem sc_law_heard : FnScope ["call", "error"] ["call"] (L2.defScope s_law_heard) := ⟨rfl, rfl, rfl, by decide +kernel, rfl, by decide +kernel, by decide +kernel⟩
abbrev s_law_late_other : Stmt := top 55
theorem sc_law_late_other : FnScope ["pool", "chart", "table", "standing", "found", "a", "near"] ["pool", "chart", "table", "standing"] (L2.defScope s_law_late_other) := ⟨rfl, rfl, rfl, by decide +kernel, rfl, by decide +kernel, by decide +kernel⟩
abbrev s_law_late_says : Stmt := top 56
theorem sc_law_late_says : FnScope ["chart", "table", "one", "two"] ["chart", "table", "one", "two"] (L2.defScope s_law_late_says) := ⟨rfl, rfl, rfl, by decide +kernel, rfl, by decide +kernel, by decide +kernel⟩
abbrev s_law_late_pairs : Stmt := top 57
theorem sc_law_late_pairs : FnScope ["pool", "chart", "table", "standing", "others", "turn", "other"] ["pool", "chart", "table", "standing"] (L2.defScope s_law_late_pairs) := ⟨rfl, rfl, rfl, by decide +kernel, rfl, by decide +kernel, by decide +kernel⟩
abbrev s_law_late_bent : Stmt := top 58
theorem sc_law_late_bent : FnScope ["chart", "standing", "bad", "thing"] ["chart", "standing"] (L2.defScope s_law_late_bent) := ⟨rfl, rfl, rfl, by decide +kernel, rfl, by decide +kernel, by decide +kernel⟩
abbrev s_law_late_rows : Stmt := top 59
theorem sc_law_late_rows : FnScope ["chart", "table", "standing", "size", "due"] ["chart", "table", "standing"] (L2.defScope s_law_late_rows) := ⟨rfl, rfl, rfl, by decide +kernel, rfl, by decide +kernel, by decide +kernel⟩
abbrev s_law_late_refused : Stmt := top 60
theorem sc_law_late_refused : FnScope ["chart", "standing", "bent", "arguments", "due"] ["chart", "standing"] (L2.defScope s_law_late_refused) := ⟨rfl, rfl, rfl, by decide +kernel, rfl, by decide +kernel, by decide +kernel⟩
abbrev s_law_late_great : Stmt := top 61
theorem sc_law_late_great : FnScope ["pool", "places", "ring", "roads", "chart", "table", "standing", "other", "a"] ["pool"] (L2.defScope s_law_late_great) := ⟨rfl, rfl, rfl, by decide +kernel, rfl, by decide +kernel, by decide +kernel⟩
abbrev s_law : Stmt := top 62
theorem sc_law : FnScope ["script", "ladder", "pool", "great", "chart", "table", "standing", "many"] ["script"] (L2.defScope s_law) := ⟨rfl, rfl, rfl, by decide +kernel, rfl, by decide +kernel, by decide +kernel⟩
abbrev s_init : Stmt := L2.inClass (top 1) 0
theorem sc_init : FnScope ["self", "what"] ["self", "what"] (L2.defScope s_init) := ⟨rfl, rfl, rfl, by decide +kernel, rfl, by decide +kernel, by decide +kernel⟩
end Ft

set_option Elab.async false
set_option linter.all false
set_option maxRecDepth 100000
set_option maxHeartbeats 4000000
namespace Ft
open PySem PySem.Spec PyProof.Rows L2
section
variable {P : Program} {w : World} {K : PySem.W.Frag} {mg : Str → Option Value} {base : Heap} {ca : Str → Addr}
/-! ### is_number, number_within, of data -/
def sp_is_number (K : PySem.W.Frag) : Sp := fun vs H Q _ => ∃ (v : V) (d : PyData), vs = [v] ∧ Dp K H v d ∧ Q (.bl (isNum d)) H
theorem cal_is_number (T : Txt mg) (D : Def K mg "is_number" s_is_number) : Cal P w K mg base 1 "is_number" (sp_is_number K) := by
  refine cal_of D sc_is_number (fun _ _ _ _ _ _ us hl => match us, hl with | [_], _ => rfl) (fun vs H Q E h => ?_) (fun f cdv A outer s H vs Q E hr h => ?_)
  · obtain ⟨v, d, rfl, _⟩ := h
    rfl
  · obtain ⟨v, d, rfl, hd, q⟩ := h
    refine ⟨_, (pss_one (ps_ret (pe_and (pe_callB (show CallR _ _ (rIsi K) from call_isi) (by rfl) T.isinstance (by decide +kernel) (pa_cons (pv 0) (pa_cons (pe_bltn (v := .ty "int") (u := .type "int") (by rfl) T.int (by decide +kernel) rfl) pa_nil))) (pe_one (pe_not (pe_callB (show CallR _ _ (rIsi K) from call_isi) (by rfl) T.isinstance (by decide +kernel) (pa_cons (pv 0) (pa_cons (pe_bltn (v := .ty "bool") (u := .type "bool") (by rfl) T.bool (by decide +kernel) rfl) pa_nil)))))))), ?_⟩
    refine ⟨_, rfl, _, _, _, _, isIntB d, rfl, .ty "int", isi_dp hd, kit_int d, isIntB d, rfl, ?_⟩
    cases e : isIntB d with
    | false =>
      have : isNum d = false := by cases d <;> first | rfl | cases e
      rw [this] at q
      exact iteF q
    | true =>
      refine iteT ?_
      refine ⟨_, rfl, _, _, _, _, isBl d, rfl, .ty "bool", isi_dp hd, kit_bool d, isBl d, rfl, ?_⟩
      have : isNum d = !isBl d := by cases d <;> first | rfl | cases e
      rw [this] at q
      exact q
def sp_number_within (K : PySem.W.Frag) : Sp := fun vs H Q _ => ∃ (v : V) (d : PyData) (lo hi : Int), vs = [v, .int lo, .int hi] ∧ Dp K H v d ∧ Q (.bl (numIn lo hi d)) H
theorem cal_number_within (T : Txt mg) (D : Def K mg "number_within" s_number_within) (c_is_number : Cal P w K mg base 1 "is_number" (sp_is_number K)) : Cal P w K mg base 2 "number_within" (sp_number_within K) := by
  refine cal_of D sc_number_within (fun _ _ _ _ _ _ us hl => match us, hl with | [_, _, _], _ => rfl) (fun vs H Q E h => ?_) (fun f cdv A outer s H vs Q E hr h => ?_)
  · obtain ⟨v, d, lo, hi, rfl, _⟩ := h
    rfl
  · obtain ⟨v, d, lo, hi, rfl, hd, q⟩ := h
    refine ⟨_, (pss_one (ps_ret (pe_and (pe_c c_is_number hr (by decide) (by rfl) (pa_cons (pv 0) pa_nil)) (pe_one (pe_chain op_le op_le (pv 1) (pv 0) (pv 2)))))), ?_⟩
    refine ⟨_, rfl, v, d, rfl, hd, isNum d, rfl, ?_⟩
    cases e : isNum d with
    | false =>
      have : numIn lo hi d = false := by unfold numIn; rw [e]; rfl
      rw [this] at q
      exact iteF q
    | true =>
      refine iteT ?_
      obtain ⟨i, rfl⟩ := isNum_is e
      cases dp_int hd
      have e2 : numIn lo hi (.int i) = (decide (lo ≤ i) && decide (i ≤ hi)) := by unfold numIn; rw [e]; rfl
      rw [e2] at q
      refine ⟨_, rfl, _, rfl, _, _, rfl, rfl, _, rfl, ?_⟩
      by_cases h1 : lo ≤ i
      · rw [decide_eq_true h1] at q ⊢
        exact iteT ⟨_, rfl, _, _, rfl, rfl, q⟩
      · rw [decide_eq_false h1] at q ⊢
        exact iteF q
end
end Ft

set_option Elab.async false
set_option linter.all false
set_option maxRecDepth 100000
set_option maxHeartbeats 4000000
namespace Ft
open PySem PySem.Spec PyProof.Rows L2
section
variable {P : Program} {w : World} {K : PySem.W.Frag} {mg : Str → Option Value} {base : Heap} {ca : Str → Addr}
theorem get_map {α β : Type} {f : α → β} {l : List α} {i : Nat} {y : β} (h : (l.map f)[i]? = some y) : ∃ x, l[i]? = some x ∧ y = f x := by
  rw [List.getElem?_map] at h
  cases e : l[i]? with
  | none => rw [e] at h; cases h
  | some x => rw [e] at h; exact ⟨x, rfl, (Option.some.inj h).symm⟩
theorem up_get {ws : List Nat} (up : ws.Pairwise (· < ·)) {i j a b : Nat} (hi : ws[i]? = some a) (hj : ws[j]? = some b) (h : i < j) : a < b := by
  obtain ⟨h1, e1⟩ := List.getElem?_eq_some_iff.mp hi
  obtain ⟨h2, e2⟩ := List.getElem?_eq_some_iff.mp hj
  rw [← e1, ← e2]
  exact List.pairwise_iff_getElem.mp up i j h1 h2 h
/-! ### first_bad_place, of data -/
def optV : Option Nat → V
  | none => .non
  | some i => .int (i : Int)
theorem drop_get {α : Type} {l : List α} {i : Nat} {x : α} (h : l[i]? = some x) : l.drop i = x :: l.drop (i + 1) := by
  obtain ⟨hi, e⟩ := List.getElem?_eq_some_iff.mp h
  rw [← e]
  exact List.drop_eq_getElem_cons hi
theorem badPlace_cons {n : Nat} {b : Int} {i : Nat} {d : PyData} {ds : List PyData} : badPlace n b i (d :: ds) = if numIn (b + 1) ((n : Int) - 1) d = true then badPlace n (numOf d) (i + 1) ds else some i := rfl
def sp_first_bad_place (K : PySem.W.Frag) : Sp := fun vs H Q _ => ∃ (n : Nat) (a : Addr) (xs : List V) (ds : List PyData), vs = [vN n, .ref a] ∧ SqT K H a xs ∧ DpAll K H xs ds ∧ ∀ H', Same H H' → Q (optV (badPlace n (-1) 0 ds)) H'
theorem cal_first_bad_place (T : Txt mg) (D : Def K mg "first_bad_place" s_first_bad_place) (c_number_within : Cal P w K mg base 2 "number_within" (sp_number_within K)) : Cal P w K mg base 3 "first_bad_place" (sp_first_bad_place K) := by
  refine cal_of D sc_first_bad_place (fun _ _ _ _ _ _ us hl => match us, hl with | [_, _], _ => rfl) (fun vs H Q E h => ?_) (fun f cdv A outer s H vs Q E hr h => ?_)
  · obtain ⟨n, a, xs, ds, rfl, _⟩ := h
    rfl
  · obtain ⟨n, a, xs, ds, rfl, hW, hD, q⟩ := h
    refine ⟨_, (pss_cons (ps_set (i := 2) sc_first_bad_place.nd rfl (Or.inl rfl) (pe_un un_neg pe_int))
      (pss_cons (ps_for PassesOwn.never rfl (show PI _ _ _ (iEnumT K _) from pi_enumT (by rfl) T.enumerate (pa_cons (pv 1) pa_nil)) (show PG _ _ (gTup K 2 _) from pg_tup (by rfl) (pgs_cons (pg_name (i := 3) sc_first_bad_place.nd rfl (Or.inl rfl)) (pgs_cons (pg_name (i := 4) sc_first_bad_place.nd rfl (Or.inl rfl)) pgs_nil))) (pss_cons (ps_if (pt_not (pt_val (pe_c c_number_within hr (by decide) (by rfl) (pa_cons (pv 4) (pa_cons (pe_op op_add (pv 2) pe_int) (pa_cons (pe_op op_sub (pv 0) pe_int) pa_nil)))))) (pss_one (ps_ret (pv 3))) pss_nil)
        (pss_one (ps_set (i := 2) sc_first_bad_place.nd rfl (Or.inl rfl) (pv 4)))))
      (pss_one (ps_ret pe_non)))), ?_⟩
    refine ⟨_, rfl, _, rfl, a, _, rfl, hW, for_it walk_enumT (fun i σ H' => ∃ (b : Int) (v3 v4 : Option V), σ = [some (vN n), some (.ref a), some (.int b), v3, v4] ∧ Same H H' ∧ badPlace n (-1) 0 ds = badPlace n b i (ds.drop i)) ⟨-1, _, _, rfl, fun _ _ h => h, rfl⟩ (fun i σ H' _ ⟨_, _, _, _, s1, _⟩ => Same.sqT s1 hW) ?_ ?_⟩
    · rintro i x σ H1 H2 hi ⟨b, v3, v4, rfl, s1, eb⟩ ⟨t, x0, y, rfl, nt, rfl, e1, e2⟩
      obtain ⟨d, hd, dd⟩ := dpAll_get hD e2
      have s2 := s1.trans (same_upd (o := .tup [.int (i : Nat), y]) nt)
      rw [drop_get hd, badPlace_cons] at eb
      cases e1
      refine ⟨t, _, rfl, .inl (.inl upd_same), rfl, _, _, rfl, _, _, rfl, rfl, ?_⟩
      refine ⟨_, rfl, _, rfl, _, _, rfl, rfl, _, rfl, _, _, rfl, rfl, _, d, _, _, rfl, Dp.same s2 dd, numIn (b + 1) ((n : Int) - 1) d, rfl, ?_⟩
      cases c : numIn (b + 1) ((n : Int) - 1) d with
      | false =>
        rw [c, if_neg Bool.false_ne_true] at eb
        refine iteT ?_
        have := q _ s2
        rw [eb] at this
        exact ⟨_, rfl, this⟩
      | true =>
        rw [c, if_pos rfl] at eb
        obtain ⟨z, rfl, _, _⟩ := numIn_is c
        cases dp_int dd
        refine iteF ?_
        exact ⟨_, rfl, z, _, _, rfl, s2, eb⟩
    · rintro σ H1 ⟨b, v3, v4, rfl, s1, eb⟩
      rw [dpAll_length hD, List.drop_length] at eb
      have := q H1 s1
      rw [eb] at this
      exact this
/-! ### road_fits, of data -/
def sp_road_fits (K : PySem.W.Frag) : Sp := fun vs H Q _ => ∃ (n : Nat) (v : V) (d : PyData), vs = [vN n, v] ∧ Dp K H v d ∧ Q (.bl (pairOf n d).isSome) H
theorem pairOf_two {n : Nat} {a b : PyData} : (pairOf n (.tuple [a, b])).isSome = (numIn 0 ((n : Int) - 1) a && numIn 0 ((n : Int) - 1) b) := by
  unfold pairOf
  simp only []
  split
  · rename_i h
    rw [h]
    rfl
  · rename_i h
    rw [Bool.not_eq_true] at h
    rw [h]
    rfl
theorem pairOf_len {n : Nat} {ds : List PyData} (h : ds.length ≠ 2) : pairOf n (.tuple ds) = none := by
  unfold pairOf
  split
  · rename_i a b e
    cases e
    exact absurd rfl h
  · rfl
theorem pairOf_not {n : Nat} {d : PyData} (h : isTup d = false) : pairOf n d = none := by
  cases d <;> first | rfl | cases h
theorem cal_road_fits (T : Txt mg) (D : Def K mg "road_fits" s_road_fits) (c_number_within : Cal P w K mg base 2 "number_within" (sp_number_within K)) : Cal P w K mg base 3 "road_fits" (sp_road_fits K) := by
  refine cal_of D sc_road_fits (fun _ _ _ _ _ _ us hl => match us, hl with | [_, _], _ => rfl) (fun vs H Q E h => ?_) (fun f cdv A outer s H vs Q E hr h => ?_)
  · obtain ⟨n, v, d, rfl, _⟩ := h
    rfl
  · obtain ⟨n, v, d, rfl, hd, q⟩ := h
    refine ⟨_, (pss_cons (ps_if (PW.pt (pw_or (pt_not (pt_val (pe_callB (show CallR _ _ (rIsi K) from call_isi) (by rfl) T.isinstance (by decide +kernel) (pa_cons (pv 1) (pa_cons (pe_bltn (v := .ty "tuple") (u := .type "tuple") (by rfl) T.tuple (by decide +kernel) rfl) pa_nil))))) (pw_or1 (pt_cmpR op_ne (pe_callB (show CallR _ _ (rLenS K) from call_lenS) (by rfl) T.len (by decide +kernel) (pa_cons (pv 1) pa_nil)) pe_int (nomark _))))) (pss_one (ps_ret pe_bl)) pss_nil)
      (pss_one (ps_ret (pe_and (pe_c c_number_within hr (by decide) (by rfl) (pa_cons (pe_ix (show IxR _ (rIxT K) from ix_tup) (pv 1) pe_int (fun _ _ => rfl)) (pa_cons pe_int (pa_cons (pe_op op_sub (pv 0) pe_int) pa_nil)))) (pe_one (pe_c c_number_within hr (by decide) (by rfl) (pa_cons (pe_ix (show IxR _ (rIxT K) from ix_tup) (pv 1) pe_int (fun _ _ => rfl)) (pa_cons pe_int (pa_cons (pe_op op_sub (pv 0) pe_int) pa_nil))))))))), ?_⟩
    refine ⟨_, rfl, _, _, _, _, isTup d, rfl, .ty "tuple", isi_dp hd, kit_tup d, isTup d, rfl, ?_⟩
    cases e : isTup d with
    | false =>
      rw [pairOf_not e] at q
      exact iteT (iteT q)
    | true =>
      obtain ⟨ds, rfl⟩ := isTup_is e
      obtain ⟨t, xs, rfl, ht, ha⟩ := dp_tup hd
      refine iteF ?_
      refine ⟨_, rfl, _, _, rfl, .inr ht, rfl, _, rfl, ?_⟩
      by_cases l : ds.length = 2
      · have e2 : (!decide (V.int ((xs.length : Nat) : Int) = V.int 2)) = false := by
          rw [dpAll_length ha, l]
          rfl
        obtain ⟨a, b, rfl⟩ : ∃ a b, ds = [a, b] := by
          match ds, l with
          | [a, b], _ => exact ⟨a, b, rfl⟩
        cases ha with
        | cons h1 h2 =>
          cases h2 with
          | cons h2 h3 =>
            cases h3
            rename_i x y
            refine iteF ?_
            rw [pairOf_two] at q
            refine ⟨_, rfl, _, _, _, _, rfl, rfl, ht, rfl, _, rfl, _, _, rfl, rfl, x, a, _, _, rfl, h1, numIn 0 ((n : Int) - 1) a, rfl, ?_⟩
            cases c : numIn 0 ((n : Int) - 1) a with
            | false =>
              rw [c] at q
              exact iteF q
            | true =>
              rw [c] at q
              refine iteT ?_
              exact ⟨_, rfl, _, _, _, _, rfl, rfl, ht, rfl, _, rfl, _, _, rfl, rfl, y, b, _, _, rfl, h2, q⟩
      · rw [pairOf_len l] at q
        have e2 : (!decide (V.int ((xs.length : Nat) : Int) = V.int 2)) = true := by
          rw [dpAll_length ha, decide_eq_false]
          · rfl
          · intro z
            have z' := V.int.inj z
            omega
        exact ite_any (fun _ => q) (fun z => absurd (show (!decide (V.int ((xs.length : Nat) : Int) = V.int 2)) = false from z) (by rw [e2]; exact fun h => nomatch h))
end
end Ft

set_option Elab.async false
set_option linter.all false
set_option maxRecDepth 100000
set_option maxHeartbeats 4000000
namespace Ft
open PySem PySem.Spec PyProof.Rows L2
section
variable {P : Program} {w : World} {K : PySem.W.Frag} {mg : Str → Option Value} {base : Heap} {ca : Str → Addr}
/-! ### check_roads, of data -/
theorem upP_get {ps : List (Nat × Nat)} (up : ps.Pairwise ltP) {i j : Nat} {a b : Nat × Nat} (hi : ps[i]? = some a) (hj : ps[j]? = some b) (h : i < j) : ltP a b := by
  obtain ⟨h1, e1⟩ := List.getElem?_eq_some_iff.mp hi
  obtain ⟨h2, e2⟩ := List.getElem?_eq_some_iff.mp hj
  rw [← e1, ← e2]
  exact List.pairwise_iff_getElem.mp up i j h1 h2 h
theorem lex_two {a b c d : Nat} :
    Ob.lexAt (fun j => decide (([(c : Int), (d : Int)] : List Int).getD j 0 = ([(a : Int), (b : Int)] : List Int).getD j 0)) (fun j => decide (([(c : Int), (d : Int)] : List Int).getD j 0 ≤ ([(a : Int), (b : Int)] : List Int).getD j 0)) (decide (([(c : Int), (d : Int)] : List Int).length ≤ ([(a : Int), (b : Int)] : List Int).length)) 0 (min ([(c : Int), (d : Int)] : List Int).length ([(a : Int), (b : Int)] : List Int).length) = !decide (ltP (a, b) (c, d)) := by
  simp only [List.length_cons, List.length_nil, Nat.min_self, Ob.lexAt, List.getD_cons_zero, List.getD_cons_succ]
  have e : decide (ltP (a, b) (c, d)) = decide (a < c ∨ (a = c ∧ b < d)) := by
    by_cases h : ltP (a, b) (c, d)
    · rw [decide_eq_true h]
      exact (decide_eq_true h).symm
    · rw [decide_eq_false h]
      exact (decide_eq_false h).symm
  rw [e]
  rcases Nat.lt_trichotomy a c with h | h | h
  · have n1 : ¬ ((c : Int) = a) := by omega
    have n2 : ¬ ((c : Int) ≤ a) := by omega
    have n3 : a < c ∨ (a = c ∧ b < d) := .inl h
    simp [n1, n2, n3]
  · have n1 : ((c : Int) = a) := by omega
    rcases Nat.lt_trichotomy b d with h2 | h2 | h2
    · have n2 : ¬ ((d : Int) = b) := by omega
      have n3 : ¬ ((d : Int) ≤ b) := by omega
      have n4 : a < c ∨ (a = c ∧ b < d) := .inr ⟨h, h2⟩
      simp [n1, n2, n3, n4]
    · have n2 : ((d : Int) = b) := by omega
      have n4 : ¬ (a < c ∨ (a = c ∧ b < d)) := by omega
      simp [n1, n2, n4]
    · have n2 : ¬ ((d : Int) = b) := by omega
      have n3 : ((d : Int) ≤ b) := by omega
      have n4 : ¬ (a < c ∨ (a = c ∧ b < d)) := by omega
      simp [n1, n2, n3, n4]
  · have n1 : ¬ ((c : Int) = a) := by omega
    have n2 : ((c : Int) ≤ a) := by omega
    have n3 : ¬ (a < c ∨ (a = c ∧ b < d)) := by omega
    simp [n1, n2, n3]
theorem badRoad_cons {n : Nat} {p : Option (Nat × Nat)} {i : Nat} {d : PyData} {ds : List PyData} : badRoad n p i (d :: ds) = match pairOf n d with
    | none => some i
    | some q => if above p q = true then badRoad n (some q) (i + 1) ds else some i := rfl
theorem pair_dp {K : PySem.W.Frag} {H : Hp} {v : V} {p : Nat × Nat} (h : Dp K H v (pairD p)) : ∃ t, v = .ref t ∧ SqT K H t [vN p.1, vN p.2] := by
  obtain ⟨a, xs, rfl, hs, ha⟩ := dp_tup h
  have e : xs = [p.1, p.2].map vN := nats_dp (ws := [p.1, p.2]) ha
  subst e
  exact ⟨a, rfl, hs⟩
def spX_check_roads (K : PySem.W.Frag) (ca : Str → Addr) : Sp := fun vs H Q E => ∃ (n : Nat) (v : V) (d : PyData), vs = [vN n, v] ∧ Dp K H v d ∧ (roadsErr n d = none → ∀ H', Same H H' → Q .non H') ∧ ∀ i, roadsErr n d = some i → Raised K ca H E ("BadMap", .int i)
theorem cal_check_roads (T : Txt mg) (D : Def K mg "check_roads" s_check_roads) (m_MOST_ROADS : MgI mg "MOST_ROADS" 240) (e_BadMap : Er P w K mg base ca "BadMap") (c_road_fits : Cal P w K mg base 3 "road_fits" (sp_road_fits K)) : CalX P w K mg base 4 "check_roads" (spX_check_roads K ca) := by
  refine calx_of D sc_check_roads (fun _ _ _ _ _ _ us hl => match us, hl with | [_, _], _ => rfl) (fun vs H Q E h => ?_) (fun f cdv A outer s H vs Q E hr h => ?_)
  · obtain ⟨n, v, d, rfl, _⟩ := h
    rfl
  · obtain ⟨n, v, d, rfl, hd, q, r⟩ := h
    refine ⟨_, (pss_cons (ps_if (PW.pt (pw_or (pt_not (pt_val (pe_callB (show CallR _ _ (rIsi K) from call_isi) (by rfl) T.isinstance (by decide +kernel) (pa_cons (pv 1) (pa_cons (pe_bltn (v := .ty "tuple") (u := .type "tuple") (by rfl) T.tuple (by decide +kernel) rfl) pa_nil))))) (pw_or1 (pt_cmpR op_gt (pe_callB (show CallR _ _ (rLenS K) from call_lenS) (by rfl) T.len (by decide +kernel) (pa_cons (pv 1) pa_nil)) (pe_globI (n := 240) rfl m_MOST_ROADS) (nomark _))))) (pss_one (ps_raiseE rfl e_BadMap hr (by decide) (takes_of rfl rfl rfl rfl) (by rfl) (pa_cons (pe_un un_neg pe_int) pa_nil))) pss_nil)
      (pss_one (ps_for (passes_of rfl) rfl (show PI _ _ _ (iEnumT K _) from pi_enumT (by rfl) T.enumerate (pa_cons (pv 1) pa_nil)) (show PG _ _ (gTup K 2 _) from pg_tup (by rfl) (pgs_cons (pg_name (i := 2) sc_check_roads.nd rfl (Or.inl rfl)) (pgs_cons (pg_name (i := 3) sc_check_roads.nd rfl (Or.inl rfl)) pgs_nil))) (pss_cons (ps_if (pt_not (pt_val (pe_c c_road_fits hr (by decide) (by rfl) (pa_cons (pv 0) (pa_cons (pv 3) pa_nil))))) (pss_one (ps_raiseE rfl e_BadMap hr (by decide) (takes_of rfl rfl rfl rfl) (by rfl) (pa_cons (pv 2) pa_nil))) pss_nil)
        (pss_one (ps_if (PW.pt (pw_and (pt_cmpR op_gt (pv 2) pe_int (nomark _)) (pw_and1 (pt_cmpR (show OpR _ _ (rLeT K) from op_leT hr.units0) (pv 3) (pe_ix (show IxR _ (rIxT K) from ix_tup) (pv 1) (pe_op op_sub (pv 2) pe_int) (fun _ _ => rfl)) (nomark _))))) (pss_one (ps_raiseE rfl e_BadMap hr (by decide) (takes_of rfl rfl rfl rfl) (by rfl) (pa_cons (pv 2) pa_nil))) pss_nil)))))), ?_⟩
    refine ⟨_, rfl, _, _, _, _, isTup d, rfl, .ty "tuple", isi_dp hd, kit_tup d, isTup d, rfl, ?_⟩
    cases e : isTup d with
    | false =>
      refine iteT (iteT ?_)
      refine ⟨_, rfl, _, rfl, fun dd hdd => ?_⟩
      exact r (-3) (by cases d <;> first | rfl | cases e) dd _ _ (same_upd hdd) upd_same (.int _)
    | true =>
      obtain ⟨ds, rfl⟩ := isTup_is e
      obtain ⟨a, xs, rfl, hR, hP⟩ := dp_tup hd
      have len := dpAll_length hP
      refine iteF ?_
      refine ⟨_, rfl, _, _, rfl, .inr hR, _, _, rfl, rfl, _, rfl, ?_⟩
      by_cases many : ds.length ≤ 240
      · rw [decide_eq_false (show ¬ ((240 : Int) < (xs.length : Nat)) by rw [len]; omega)]
        have er : roadsErr n (.tuple ds) = optI (badRoad n none 0 ds) := if_pos many
        rw [er] at q
        have r : ∀ i, optI (badRoad n none 0 ds) = some i → _ := fun i h => r i (er.trans h)
        refine iteF ?_
        refine ⟨_, rfl, a, _, rfl, hR, for_it walk_enumT (fun i σ H' => ∃ (v3 v4 : Option V) (p : Option (Nat × Nat)), σ = [some (vN n), some (.ref a), v3, v4] ∧ Same H H' ∧ badRoad n none 0 ds = badRoad n p i (ds.drop i) ∧ (i = 0 → p = none) ∧ ∀ i', i = i' + 1 → ∃ q, p = some q ∧ ds[i']? = some (pairD q)) ⟨_, _, none, rfl, (fun _ _ h => h), rfl, (fun _ => rfl), fun i' h => nomatch h⟩ (fun i σ H' _ ⟨_, _, _, _, s1, _⟩ => Same.sqT s1 hR) ?_ ?_⟩
        · rintro i x σ H1 H2 hi ⟨v3, v4, p, rfl, s1, eb, p0, pp⟩ ⟨t, x0, y, rfl, nt, rfl, e1, e2⟩
          obtain ⟨dy, hdy, dd⟩ := dpAll_get hP e2
          have s2 := s1.trans (same_upd (o := .tup [.int (i : Nat), y]) nt)
          rw [drop_get hdy, badRoad_cons] at eb
          cases e1
          refine ⟨t, _, rfl, .inl (.inl upd_same), rfl, _, _, rfl, _, _, rfl, rfl, ?_⟩
          refine ⟨_, rfl, _, rfl, n, y, dy, rfl, Dp.same s2 dd, (pairOf n dy).isSome, rfl, ?_⟩
          cases ep : pairOf n dy with
          | none =>
            rw [ep] at eb
            refine iteT ?_
            refine ⟨_, rfl, _, rfl, fun dx hdx => ?_⟩
            exact r i (by rw [eb]; rfl) dx _ _ (s2.trans (same_upd hdx)) upd_same (.int _)
          | some qr =>
            rw [ep] at eb
            simp only [] at eb
            obtain ⟨rfl, b1, b2⟩ := pairOf_is ep
            obtain ⟨z, rfl, pz⟩ := pair_dp dd
            refine iteF ?_
            refine ⟨_, rfl, _, _, rfl, rfl, _, rfl, ?_⟩
            cases i with
            | zero =>
              rw [decide_eq_false (show ¬ ((0 : Int) < ((0 : Nat) : Int)) by omega)]
              rw [p0 rfl] at eb
              rw [if_pos (show above none qr = true from rfl)] at eb
              refine iteF (iteF ⟨_, _, some qr, rfl, s2, eb, (fun h => nomatch h), fun i' h => ⟨qr, rfl, ?_⟩⟩)
              cases h
              exact hdy
            | succ i' =>
              rw [decide_eq_true (show (0 : Int) < ((i' + 1 : Nat) : Int) by omega)]
              refine iteT ?_
              obtain ⟨q0, rfl, hq0⟩ := pp i' rfl
              obtain ⟨y0, hy0, dy0⟩ := dpAll_getD hP hq0
              obtain ⟨z0, rfl, pz0⟩ := pair_dp dy0
              have ei : atI xs (((i' + 1 : Nat) : Int) - 1) = some (.ref z0) := by
                have e : ((i' + 1 : Nat) : Int) - 1 = (i' : Nat) := by omega
                rw [e]
                exact atI_nat hy0
              refine ⟨_, rfl, _, rfl, _, rfl, _, _, rfl, rfl, a, _, _, _, rfl, rfl, Same.sqT s2 hR, ei, z, z0, [(qr.1 : Int), (qr.2 : Int)], [(q0.1 : Int), (q0.2 : Int)], rfl, rfl, Same.sqT s2 pz, Same.sqT s2 pz0, _, rfl, ?_⟩
              rw [lex_two]
              by_cases lt : ltP q0 qr
              · have e3 : (!decide (ltP (q0.1, q0.2) (qr.1, qr.2))) = false := by rw [decide_eq_true (show ltP (q0.1, q0.2) (qr.1, qr.2) from lt)]; rfl
                rw [e3]
                rw [if_pos (show above (some q0) qr = true from decide_eq_true lt)] at eb
                refine iteF ⟨_, _, some qr, rfl, s2, eb, (fun h => nomatch h), fun j h => ⟨qr, rfl, ?_⟩⟩
                cases h
                exact hdy
              · have e3 : (!decide (ltP (q0.1, q0.2) (qr.1, qr.2))) = true := by rw [decide_eq_false (show ¬ ltP (q0.1, q0.2) (qr.1, qr.2) from lt)]; rfl
                rw [e3]
                rw [if_neg (show ¬ above (some q0) qr = true from fun h => lt (of_decide_eq_true h))] at eb
                refine iteT ?_
                refine ⟨_, rfl, _, rfl, fun dx hdx => ?_⟩
                exact r ((i' + 1 : Nat) : Int) (by rw [eb]; rfl) dx _ _ (s2.trans (same_upd hdx)) upd_same (.int _)
        · rintro σ H1 ⟨v3, v4, p, rfl, s1, eb, _⟩
          rw [len, List.drop_length] at eb
          exact q (by rw [eb]; rfl) H1 s1
      · rw [decide_eq_true (show ((240 : Int) < (xs.length : Nat)) by rw [len]; omega)]
        refine iteT ?_
        refine ⟨_, rfl, _, rfl, fun dx hdx => ?_⟩
        exact r (-3) (if_neg many) dx _ _ (same_upd hdx) upd_same (.int _)
end
end Ft

set_option Elab.async false
set_option linter.all false
set_option maxRecDepth 100000
set_option maxHeartbeats 4000000
namespace Ft
open PySem PySem.Spec PyProof.Rows L2
section
variable {P : Program} {w : World} {K : PySem.W.Frag} {mg : Str → Option Value} {base : Heap} {ca : Str → Addr}
/-! ### made_map, of data -/
theorem mapErr_not {d : PyData} (h : isTup d = false) : mapErr d = some (("BadMap" : Str), -1) := by
  cases d <;> first | rfl | cases h
theorem mapErr_len {ds : List PyData} (h : ds.length ≠ 3) : mapErr (.tuple ds) = some (("BadMap" : Str), -1) := by
  unfold mapErr
  split
  · rename_i a b c e
    cases e
    exact absurd rfl h
  · rfl
theorem mapErr_name {d : PyData} {x : Str} {i : Int} (h : mapErr d = some (x, i)) : x = "BadMap" ∨ x = "BadWish" := by
  unfold mapErr at h
  split at h
  · rename_i p r w
    unfold mapErr3 at h
    split at h
    · cases e : roadsErr (numOf p).toNat r with
      | some j => rw [e] at h; cases h; exact .inl rfl
      | none =>
        rw [e] at h
        cases e2 : wishErr (numOf p).toNat w with
        | some j => rw [e2] at h; cases h; exact .inr rfl
        | none => rw [e2] at h; cases h
    · cases h
      exact .inl rfl
  · cases h
    exact .inl rfl
/-- what is wanted behind a check: the answer, or the error that is due -/
def Due (K : PySem.W.Frag) (ca : Str → Addr) (H : Hp) (E : XK) (e : Option (Str × Int)) (ok : Prop) : Prop := (e = none → ok) ∧ ∀ x i, e = some (x, i) → Raised K ca H E (x, .int i)
def spX_made_map (K : PySem.W.Frag) (ca : Str → Addr) : Sp := fun vs H Q E => ∃ (v : V) (d : PyData), vs = [v] ∧ Dp K H v d ∧ Due K ca H E (mapErr d) (∀ c C c' H', v = .ref c → d = chartD C → C.Ok → Same H H' → IsChart K H' c' C → Q (.ref c') H')
def mapErrN (n : Nat) (rd wd : PyData) : Option (Str × Int) := match roadsErr n rd with
  | some i => some ("BadMap", i)
  | none => match wishErr n wd with
    | some i => some ("BadWish", i)
    | none => none
theorem mapErrN_map {n : Nat} {rd wd : PyData} {i : Int} (h : roadsErr n rd = some i) : mapErrN n rd wd = some (("BadMap" : Str), i) := by unfold mapErrN; rw [h]
theorem mapErrN_wish {n : Nat} {rd wd : PyData} {i : Int} (h : roadsErr n rd = none) (h2 : wishErr n wd = some i) : mapErrN n rd wd = some (("BadWish" : Str), i) := by unfold mapErrN; rw [h, h2]
theorem mapErrN_none {n : Nat} {rd wd : PyData} (h : roadsErr n rd = none) (h2 : wishErr n wd = none) : mapErrN n rd wd = none := by unfold mapErrN; rw [h, h2]
theorem dpAll_three {K : PySem.W.Frag} {H : Hp} {xs : List V} {a b c : PyData} (h : DpAll K H xs [a, b, c]) : ∃ x y z, xs = [x, y, z] ∧ Dp K H x a ∧ Dp K H y b ∧ Dp K H z c := by
  cases h with
  | cons h1 h =>
    cases h with
    | cons h2 h =>
      cases h with
      | cons h3 h =>
        cases h
        exact ⟨_, _, _, rfl, h1, h2, h3⟩
theorem dpAll_two {K : PySem.W.Frag} {H : Hp} {xs : List V} {a b : PyData} (h : DpAll K H xs [a, b]) : ∃ x y, xs = [x, y] ∧ Dp K H x a ∧ Dp K H y b := by
  cases h with
  | cons h1 h =>
    cases h with
    | cons h2 h =>
      cases h
      exact ⟨_, _, rfl, h1, h2⟩
theorem nD_toNat (n : Nat) : (numOf (nD n)).toNat = n := by simp [nD, numOf]
theorem int_nD {i : Int} (h : 0 ≤ i) : PyData.int i = nD (numOf (.int i)).toNat := by
  show PyData.int i = .int ((numOf (.int i)).toNat : Int)
  have : ((numOf (PyData.int i)).toNat : Int) = i := by
    simp only [numOf]
    omega
  rw [this]
theorem cal_made_map (T : Txt mg) (D : Def K mg "made_map" s_made_map) (m_MOST_PLACES : MgI mg "MOST_PLACES" 60) (e_BadMap : Er P w K mg base ca "BadMap") (e_BadWish : Er P w K mg base ca "BadWish") (c_number_within : Cal P w K mg base 2 "number_within" (sp_number_within K)) (c_check_roads : CalX P w K mg base 4 "check_roads" (spX_check_roads K ca))
    (c_first_bad_place : Cal P w K mg base 3 "first_bad_place" (sp_first_bad_place K)) : CalX P w K mg base 5 "made_map" (spX_made_map K ca) := by
  refine calx_of D sc_made_map (fun _ _ _ _ _ _ us hl => match us, hl with | [_], _ => rfl) (fun vs H Q E h => ?_) (fun f cdv A outer s H vs Q E hr h => ?_)
  · obtain ⟨v, d, rfl, _⟩ := h
    rfl
  · obtain ⟨v, d, rfl, hd, q, r⟩ := h
    have r : ∀ x i, mapErr d = some (x, i) → Raised K ca H E (x, .int i) := r
    refine ⟨_, (pss_cons (ps_if (PW.pt (pw_or (pt_not (pt_val (pe_callB (show CallR _ _ (rIsi K) from call_isi) (by rfl) T.isinstance (by decide +kernel) (pa_cons (pv 0) (pa_cons (pe_bltn (v := .ty "tuple") (u := .type "tuple") (by rfl) T.tuple (by decide +kernel) rfl) pa_nil))))) (pw_or1 (pt_cmpR op_ne (pe_callB (show CallR _ _ (rLenS K) from call_lenS) (by rfl) T.len (by decide +kernel) (pa_cons (pv 0) pa_nil)) pe_int (nomark _))))) (pss_one (ps_raiseE rfl e_BadMap hr (by decide) (takes_of rfl rfl rfl rfl) (by rfl) (pa_cons (pe_un un_neg pe_int) pa_nil))) pss_nil)
      (pss_cons (ps_asg (pv 0) (show PG _ _ (gTup K 3 _) from pg_tup (by rfl) (pgs_cons (pg_name (i := 1) sc_made_map.nd rfl (Or.inl rfl)) (pgs_cons (pg_name (i := 2) sc_made_map.nd rfl (Or.inl rfl)) (pgs_cons (pg_name (i := 3) sc_made_map.nd rfl (Or.inl rfl)) pgs_nil)))))
      (pss_cons (ps_if (pt_not (pt_val (pe_c c_number_within hr (by decide) (by rfl) (pa_cons (pv 1) (pa_cons pe_int (pa_cons (pe_globI (n := 60) rfl m_MOST_PLACES) pa_nil)))))) (pss_one (ps_raiseE rfl e_BadMap hr (by decide) (takes_of rfl rfl rfl rfl) (by rfl) (pa_cons (pe_un un_neg pe_int) pa_nil))) pss_nil)
      (pss_cons (ps_expr (pe_x (takes_of rfl rfl rfl rfl) c_check_roads hr (by decide) (by rfl) (pa_cons (pv 1) (pa_cons (pv 2) pa_nil))))
      (pss_cons (ps_if (pt_not (pt_val (pe_callB (show CallR _ _ (rIsi K) from call_isi) (by rfl) T.isinstance (by decide +kernel) (pa_cons (pv 3) (pa_cons (pe_bltn (v := .ty "tuple") (u := .type "tuple") (by rfl) T.tuple (by decide +kernel) rfl) pa_nil))))) (pss_one (ps_raiseE rfl e_BadWish hr (by decide) (takes_of rfl rfl rfl rfl) (by rfl) (pa_cons (pe_un un_neg pe_int) pa_nil))) pss_nil)
      (pss_cons (ps_set (i := 4) sc_made_map.nd rfl (Or.inl rfl) (pe_c c_first_bad_place hr (by decide) (by rfl) (pa_cons (pv 1) (pa_cons (pv 3) pa_nil))))
      (pss_cons (ps_if (pt_cmpR op_notN (pv 4) pe_non (nomark _)) (pss_one (ps_raiseE rfl e_BadWish hr (by decide) (takes_of rfl rfl rfl rfl) (by rfl) (pa_cons (pv 4) pa_nil))) pss_nil)
      (pss_one (ps_ret (pe_tup (pa_cons (pv 1) (pa_cons (pv 2) (pa_cons (pv 3) pa_nil))))))))))))), ?_⟩
    refine ⟨_, rfl, _, _, _, _, isTup d, rfl, .ty "tuple", isi_dp hd, kit_tup d, isTup d, rfl, ?_⟩
    cases e : isTup d with
    | false =>
      refine iteT (iteT ?_)
      exact ⟨_, rfl, _, rfl, fun dd hdd => r _ _ (mapErr_not e) dd _ _ (same_upd hdd) upd_same (.int _)⟩
    | true =>
      obtain ⟨ds, rfl⟩ := isTup_is e
      obtain ⟨c, xs, rfl, hC, hP⟩ := dp_tup hd
      have len := dpAll_length hP
      refine iteF ?_
      refine ⟨_, rfl, _, _, rfl, .inr hC, rfl, _, rfl, ?_⟩
      by_cases l : ds.length = 3
      · have e2 : (!decide (V.int ((xs.length : Nat) : Int) = V.int 3)) = false := by
          rw [len, l]
          rfl
        refine ite_any (fun z => absurd (show (!decide (V.int ((xs.length : Nat) : Int) = V.int 3)) = true from z) (by rw [e2]; exact fun h => nomatch h)) (fun _ => ?_)
        obtain ⟨p, rd, wd, rfl⟩ : ∃ a b c, ds = [a, b, c] := by
          match ds, l with
          | [a, b, c], _ => exact ⟨a, b, c, rfl⟩
        obtain ⟨vp, vr, vw, rfl, h1, h2, h3⟩ := dpAll_three hP
        refine ⟨_, rfl, c, _, rfl, hC, rfl, _, _, rfl, _, _, rfl, _, _, rfl, rfl, ?_⟩
        refine ⟨_, rfl, _, p, _, _, rfl, h1, numIn 0 60 p, rfl, ?_⟩
        have em : mapErr (.tuple [p, rd, wd]) = mapErr3 p rd wd := rfl
        rw [em] at q
        have r : ∀ x i, mapErr3 p rd wd = some (x, i) → _ := fun x i h => r x i (em.trans h)
        cases cn : numIn 0 60 p with
        | false =>
          refine iteT ?_
          exact ⟨_, rfl, _, rfl, fun dd hdd => r _ _ (by unfold mapErr3; rw [cn]; rfl) dd _ _ (same_upd hdd) upd_same (.int _)⟩
        | true =>
          obtain ⟨i, rfl, i1, i2⟩ := numIn_is cn
          cases dp_int h1
          obtain ⟨n, ep⟩ : ∃ n : Nat, PyData.int i = nD n := ⟨_, int_nD i1⟩
          have ei : i = (n : Int) := by
            have z : PyData.int i = .int (n : Int) := ep
            cases z
            rfl
          subst ei
          refine iteF ?_
          have e3 : mapErr3 (nD n) rd wd = mapErrN n rd wd := by
            unfold mapErr3 mapErrN
            rw [if_pos (by rw [numIn_nat]; omega), nD_toNat]
            cases roadsErr n rd with
            | some i => rfl
            | none => cases wishErr n wd <;> rfl
          have r : ∀ x i, mapErrN n rd wd = some (x, i) → Raised K ca H E (x, .int i) := fun x i h => r x i (e3.trans h)
          have q : mapErrN n rd wd = none → _ := fun h => q (e3.trans h)
          refine ⟨_, rfl, _, rfl, n, vr, rd, rfl, h2, fun er H1 s1 => ?_, fun j er => ?_⟩
          · have h31 := Dp.same s1 h3
            refine ⟨_, rfl, _, _, _, _, isTup wd, rfl, .ty "tuple", isi_dp h31, kit_tup wd, isTup wd, rfl, ?_⟩
            cases ew : isTup wd with
            | false =>
              have ew' : wishErr n wd = some (-1) := by cases wd <;> first | rfl | cases ew
              refine iteT ?_
              exact ⟨_, rfl, _, rfl, fun dd hdd => r _ _ (mapErrN_wish er ew') dd _ _ (s1.trans (same_upd hdd)) upd_same (.int _)⟩
            | true =>
              obtain ⟨wds, rfl⟩ := isTup_is ew
              obtain ⟨wa, ys, rfl, hW, hWs⟩ := dp_tup h31
              refine iteF ?_
              refine ⟨_, rfl, _, rfl, n, wa, ys, wds, rfl, hW, hWs, fun H2 s2 => ?_⟩
              have s12 := s1.trans s2
              have ew2 : wishErr n (.tuple wds) = optI (badPlace n (-1) 0 wds) := rfl
              cases eb : badPlace n (-1) 0 wds with
              | some k =>
                refine ⟨_, rfl, rfl, _, rfl, iteT ?_⟩
                exact ⟨_, rfl, _, rfl, fun dd hdd => r _ _ (mapErrN_wish er (by rw [ew2, eb]; rfl)) dd _ _ (s12.trans (same_upd hdd)) upd_same (.int _)⟩
              | none =>
                refine ⟨_, rfl, rfl, _, rfl, iteF ?_⟩
                have e1 : mapErrN n rd (.tuple wds) = none := mapErrN_none er (by rw [ew2, eb]; rfl)
                have e0 : mapErr3 (nD n) rd (.tuple wds) = none := e3.trans e1
                obtain ⟨C, ok, p1, p2, p3⟩ := mapErr3_none e0
                refine ⟨_, rfl, _, rfl, _, rfl, (by show 3 ≤ sizeLine; decide), fun p' hp => ?_⟩
                have s3 := s12.trans (same_upd (o := .tup [vN n, vr, .ref wa]) hp)
                have dd : Dp K (upd H2 p' (.tup [vN n, vr, .ref wa])) (.ref p') (chartD C) := by
                  have z : chartD C = .tuple [nD n, rd, .tuple wds] := by
                    unfold chartD
                    rw [← p1, ← p2, ← p3]
                  rw [z]
                  exact .tup (.inl (.inl upd_same)) (.cons (.int _) (.cons (Dp.same s3 h2) (.cons (Dp.same (s2.trans (same_upd hp)) h31) .nil)))
                obtain ⟨c2, ec, isC⟩ := chart_dp dd
                cases ec
                refine q e1 c C p' _ rfl ?_ ok s3 isC
                show PyData.tuple [nD n, rd, .tuple wds] = _
                unfold chartD
                rw [← p1, ← p2, ← p3]
          · intro dd H' v s' hdd hv
            exact r _ _ (mapErrN_map er) dd H' v s' hdd hv
      · refine ite_any (fun _ => ?_) (fun z => absurd (show (!decide (V.int ((xs.length : Nat) : Int) = V.int 3)) = false from z) (by
          rw [len, decide_eq_false]
          · exact fun h => nomatch h
          · intro z
            have z' := V.int.inj z
            omega))
        exact ⟨_, rfl, _, rfl, fun dd hdd => r _ _ (mapErr_len l) dd _ _ (same_upd hdd) upd_same (.int _)⟩
/-- of a map -/
def sp_made_map (K : PySem.W.Frag) : Sp := fun vs H Q _ => ∃ (c : Addr) (C : Chart), vs = [.ref c] ∧ IsChart K H c C ∧ C.Ok ∧ ∀ c' H', Same H H' → IsChart K H' c' C → Q (.ref c') H'
theorem chartD_inj {C C' : Chart} (h : chartD C = chartD C') : C = C' := by
  obtain ⟨n, rs, ws⟩ := C
  obtain ⟨n', rs', ws'⟩ := C'
  unfold chartD lotD at h
  simp only [PyData.tuple.injEq, List.cons.injEq, and_true] at h
  obtain ⟨h1, h2, h3⟩ := h
  have inN : ∀ {a b : Nat}, nD a = nD b → a = b := fun {a b} z => by
    have z' : PyData.int (a : Int) = .int (b : Int) := z
    cases z'
    rfl
  have inL : ∀ {f : Nat → PyData} {g : Nat → PyData}, True := fun {_ _} => trivial
  have e3 : ws = ws' := by
    refine List.map_inj_right (f := nD) (fun {a b} z => inN z) |>.mp h3
  have e2 : rs = rs' := by
    refine List.map_inj_right (f := pairD) (fun {a b} z => ?_) |>.mp h2
    unfold pairD at z
    simp only [PyData.tuple.injEq, List.cons.injEq, and_true] at z
    exact Prod.ext (inN z.1) (inN z.2)
  rw [inN h1, e2, e3]
theorem lotD_inj {ws ws' : List Nat} (h : lotD ws = lotD ws') : ws = ws' := by
  unfold lotD at h
  simp only [PyData.tuple.injEq] at h
  exact List.map_inj_right (f := nD) (fun {a b} z => by
    have z' : PyData.int (a : Int) = .int (b : Int) := z
    cases z'
    rfl) |>.mp h
theorem calv_made_map (c_made_map : CalX P w K mg base 5 "made_map" (spX_made_map K ca)) : Cal P w K mg base 5 "made_map" (sp_made_map K) :=
  c_made_map.valid fun vs H Q E ⟨c, C, e, isC, ok, q⟩ => ⟨_, _, e, dp_chart isC, fun _ c0 C' c' H' ec eC _ s' isC' => q c' H' s' (by rw [chartD_inj eC]; exact isC'), fun x i h => by rw [mapErr_chart ok] at h; cases h⟩
end
end Ft

set_option Elab.async false
set_option linter.all false
set_option maxRecDepth 100000
set_option maxHeartbeats 4000000
namespace Ft
open PySem PySem.Spec PyProof.Rows L2
section
variable {P : Program} {w : World} {K : PySem.W.Frag} {mg : Str → Option Value} {base : Heap} {ca : Str → Addr}
/-! ### place_fits, check_place, lot_fits, check_lot, of data -/
def rngD (n : Nat) (d : PyData) : Bool := numIn 0 ((n : Int) - 1) d
theorem rngD_nat {n i : Nat} (h : i < n) : rngD n (nD i) = true := numIn_nat.mpr ⟨by omega, by omega⟩
theorem rngD_is {n : Nat} {d : PyData} (h : rngD n d = true) : ∃ i, d = nD i ∧ i < n := by
  obtain ⟨i, rfl, h1, h2⟩ := numIn_is h
  refine ⟨i.toNat, ?_, by omega⟩
  show PyData.int i = .int (i.toNat : Int)
  rw [show ((i.toNat : Nat) : Int) = i by omega]
def sp_place_fits (K : PySem.W.Frag) : Sp := fun vs H Q _ => ∃ (c : Addr) (n : Nat) (v : V) (d : PyData) (r wd : Addr), vs = [.ref c, v] ∧ SqT K H c [vN n, .ref r, .ref wd] ∧ Dp K H v d ∧ Q (.bl (rngD n d)) H
theorem cal_place_fits (T : Txt mg) (D : Def K mg "place_fits" s_place_fits) (c_number_within : Cal P w K mg base 2 "number_within" (sp_number_within K)) : Cal P w K mg base 3 "place_fits" (sp_place_fits K) := by
  refine cal_of D sc_place_fits (fun _ _ _ _ _ _ us hl => match us, hl with | [_, _], _ => rfl) (fun vs H Q E h => ?_) (fun f cdv A outer s H vs Q E hr h => ?_)
  · obtain ⟨c, n, v, d, r, wd, rfl, _⟩ := h
    rfl
  · obtain ⟨c, n, v, d, r, wd, rfl, hc, hd, q⟩ := h
    refine ⟨_, (pss_one (ps_ret (pe_c c_number_within hr (by decide) (by rfl) (pa_cons (pv 1) (pa_cons pe_int (pa_cons (pe_op op_sub (pe_ix (show IxR _ (rIxT K) from ix_tup) (pv 0) pe_int (fun _ _ => rfl)) pe_int) pa_nil)))))), ?_⟩
    exact ⟨_, rfl, _, rfl, _, _, _, _, rfl, rfl, hc, rfl, _, _, rfl, rfl, v, d, _, _, rfl, hd, q⟩
end
end Ft

set_option Elab.async false
set_option linter.all false
set_option maxRecDepth 100000
set_option maxHeartbeats 4000000
namespace Ft
open PySem PySem.Spec PyProof.Rows L2
/-- the places to which roads of the row lead from a, in the row's order -/
def succs (rs : List (Nat × Nat)) (a : Nat) : List Nat := (rs.filter fun p => p.1 == a).map (·.2)
theorem succs_more (rs : List (Nat × Nat)) (p : Nat × Nat) (a : Nat) : succs (rs ++ [p]) a = if p.1 = a then succs rs a ++ [p.2] else succs rs a := by
  unfold succs
  rw [List.filter_append, List.map_append]
  by_cases h : p.1 = a
  · rw [if_pos h]
    have : (p.1 == a) = true := by simp [h]
    simp [List.filter_cons, this]
  · rw [if_neg h]
    have : (p.1 == a) = false := by simp [h]
    simp [List.filter_cons, this]
theorem succs_len (rs : List (Nat × Nat)) (a : Nat) : (succs rs a).length ≤ rs.length := by
  unfold succs
  rw [List.length_map]
  exact List.length_filter_le _ _
theorem succs_mem {rs : List (Nat × Nat)} {a b : Nat} : b ∈ succs rs a ↔ (a, b) ∈ rs := by
  unfold succs
  simp only [List.mem_map, List.mem_filter, beq_iff_eq]
  constructor
  · rintro ⟨⟨x, y⟩, ⟨h1, h2⟩, h3⟩
    dsimp at h2 h3
    subst h2 h3
    exact h1
  · intro h
    exact ⟨(a, b), ⟨h, rfl⟩, rfl⟩
theorem nodup_inj {α : Type} {l : List α} (nd : l.Nodup) {i j : Nat} {a : α} (hi : l[i]? = some a) (hj : l[j]? = some a) : i = j := by
  obtain ⟨h1, e1⟩ := List.getElem?_eq_some_iff.mp hi
  obtain ⟨h2, e2⟩ := List.getElem?_eq_some_iff.mp hj
  have ap := List.pairwise_iff_getElem.mp nd
  rcases Nat.lt_trichotomy i j with h | h | h
  · exact absurd (e1.trans e2.symm) (ap i j h1 h2 h)
  · exact h
  · exact absurd (e2.trans e1.symm) (ap j i h2 h1 h)
theorem take_more {α : Type} {l : List α} {i : Nat} {x : α} (h : l[i]? = some x) : l.take (i + 1) = l.take i ++ [x] := by
  rw [List.take_add_one, h]
  rfl
section
variable {P : Program} {w : World} {K : PySem.W.Frag} {mg : Str → Option Value} {base : Heap} {t1 t2 : Tok}
/-! ### roads_from -/
/-- a list of lists of places stands at q -/
structure LotsAt (H : Hp) (q : Addr) (ls : List Addr) (f : Nat → List Nat) : Prop where
  top : H q = some (.lst (ls.map V.ref))
  each : ∀ a l, ls[a]? = some l → H l = some (.lst ((f a).map vN))
def sp_roads_from (K : PySem.W.Frag) : Sp := fun vs H Q _ => ∃ (c : Addr) (C : Chart), vs = [.ref c] ∧ IsChart K H c C ∧ C.Ok ∧ ∀ q ls H', Same H H' → ls.length = C.n → LotsAt H' q ls (succs C.roads) → Q (.ref q) H'
theorem cal_roads_from (T : Txt mg) (D : Def K mg "roads_from" s_roads_from) : Cal P w K mg base 2 "roads_from" (sp_roads_from K) := by
  refine cal_of D sc_roads_from (fun _ _ _ _ _ _ us hl => match us, hl with | [_], _ => rfl) (fun vs H Q E h => ?_) (fun f cdv A outer s H vs Q E hr h => ?_)
  · obtain ⟨c, C, rfl, _⟩ := h
    rfl
  · obtain ⟨c, C, rfl, ⟨r, wd, ts, hC⟩, ok, q⟩ := h
    have n60 := ok.n60
    refine ⟨_, (pss_cons (ps_setLc (i := 1) (own := [("_", 4)]) rfl sc_roads_from.nd rfl rfl (sw_true rfl rfl rfl (by decide +kernel)) (pi_range1 (by rfl) T.range (pa_cons (pe_ix (show IxR _ (rIxT K) from ix_tup) (pv 0) pe_int (fun _ _ => rfl)) pa_nil)) (blkOk_by (N := ["chart", "targets", "a", "b", "_"]) (sc := L2.defScope s_roads_from) (by decide +kernel)) (fun _ _ _ _ _ => (pg_name (i := 4) sc_roads_from.nd rfl (Or.inl rfl))) (fun _ _ _ _ _ => pts_nil) (fun _ _ _ _ _ => (pe_lst pa_nil)))
      (pss_cons (ps_for PassesOwn.never rfl (show PI _ _ _ (iTup K _) from pi_tup (pe_ix (show IxR _ (rIxT K) from ix_tup) (pv 0) pe_int (fun _ _ => rfl))) (show PG _ _ (gTup K 2 _) from pg_tup (by rfl) (pgs_cons (pg_name (i := 2) sc_roads_from.nd rfl (Or.inl rfl)) (pgs_cons (pg_name (i := 3) sc_roads_from.nd rfl (Or.inl rfl)) pgs_nil))) (pss_one (ps_expr (pe_bm PySem.F.plainAttrs_list PySem.F.slot_list_append PySem.F.type_list_append mt_append (pe_ix (show IxR _ (rIxL K) from ix_list) (pv 1) (pv 2) (fun _ _ => rfl)) (pa_cons (pv 3) pa_nil)))))
      (pss_one (ps_ret (pv 1))))), ?_⟩
    refine ⟨_, rfl, _, _, _, _, rfl, rfl, hC.top, rfl, _, rfl, by omega, by omega, fun d hd => ?_⟩
    refine lc_range (lo := 0) (n := C.n) (fun i H' => ∃ ls : List Addr, ls.length = i ∧ ls.Nodup ∧ Same H H' ∧ (∀ l ∈ ls, H l = none ∧ l ≠ d ∧ H' l = some (.lst [])) ∧ H' d = some (.lst (ls.map V.ref))) ⟨[], rfl, List.nodup_nil, same_upd hd, (fun l z => nomatch z), upd_same⟩ ?_ ?_
    · rintro i H1 hi ⟨ls, el, nd, s1, all, hD⟩
      refine ⟨rfl, ?_⟩
      refine ⟨Nat.zero_le _, fun p hp => ?_⟩
      have npd : d ≠ p := ne_of_none hD hp
      have new : ∀ l ∈ ls, l ≠ p := fun l hl => ne_of_none (all l hl).2.2 hp
      refine ⟨_, Eq.trans (upd_ne npd) hD, by rw [List.length_map, el]; exact small1000 (by omega), ls ++ [p], by rw [List.length_append, el]; rfl, ?_, ?_, ?_, ?_⟩
      · rw [List.nodup_append]
        refine ⟨nd, by simp, fun x hx y hy => ?_⟩
        rw [List.mem_singleton.mp hy]
        exact new x hx
      · intro b o e
        have n1 : b ≠ d := ne_of_none e hd
        have n2 : b ≠ p := ne_of_none (s1 b o e) hp
        rw [upd_ne n1, upd_ne n2]
        exact s1 b o e
      · intro l hl
        rcases List.mem_append.mp hl with hl | hl
        · obtain ⟨a1, a2, a3⟩ := all l hl
          exact ⟨a1, a2, by rw [upd_ne a2, upd_ne (new l hl)]; exact a3⟩
        · rw [List.mem_singleton.mp hl]
          exact ⟨s1.free hp, npd.symm, by rw [upd_ne npd.symm, upd_same]⟩
      · rw [upd_same, List.map_append]
        rfl
    · rintro H1 ⟨ls, el, nd, s1, all, hD⟩
      have hC1 := hC.same s1
      refine ⟨_, rfl, _, _, _, _, rfl, rfl, hC1.top, rfl, r, rfl, ⟨_, hC1.row⟩, for_tup (xs := ts.map V.ref) (fun i σ H' => ∃ (v2 v3 v4 : Option V), σ = [some (.ref c), some (.ref d), v2, v3, v4] ∧ Same H H' ∧ H' d = some (.lst (ls.map V.ref)) ∧ ∀ a l, ls[a]? = some l → H' l = some (.lst ((succs (C.roads.take i) a).map vN)))
        ⟨_, _, _, rfl, s1, hD, fun a l e => (all l (List.mem_of_getElem? e)).2.2⟩ (fun i σ H' _ ⟨_, _, _, _, s2, _⟩ => Same.sqT s2 hC.row) ?_ ?_⟩
      · rintro i x σ H2 hx ⟨v2, v3, v4, rfl, s2, hD2, each⟩
        obtain ⟨t, ht, rfl⟩ := get_map hx
        obtain ⟨p, hp, pt⟩ := paired_getL hC.prs ht
        obtain ⟨b1, b2⟩ := ok.inR p (List.mem_of_getElem? hp)
        obtain ⟨l, hl⟩ : ∃ l, ls[p.1]? = some l := ⟨_, List.getElem?_eq_getElem (by rw [el]; exact b1)⟩
        have el2 := each p.1 l hl
        have hlm := all l (List.mem_of_getElem? hl)
        refine ⟨t, _, rfl, Same.sqT s2 pt, rfl, _, _, rfl, _, _, rfl, rfl, ?_⟩
        refine ⟨_, rfl, _, rfl, d, _, _, _, rfl, rfl, (.inl (.inl hD2)), atI_nat (v := V.ref l) (by rw [List.getElem?_map, hl]; rfl), .inl ⟨rfl, _, .inl (.inl el2)⟩, _, rfl, l, _, _, rfl, rfl, el2, ?_, ?_⟩
        · rw [List.length_map]
          have := succs_len (C.roads.take i) p.1
          have h2 : (C.roads.take i).length ≤ C.roads.length := by rw [List.length_take]; omega
          exact small1000 (by have := ok.many; omega)
        · refine ⟨_, _, _, rfl, fun b o e => ?_, by rw [upd_ne hlm.2.1.symm]; exact hD2, fun a m hm => ?_⟩
          · rw [upd_ne (ne_of_none e hlm.1)]
            exact s2 b o e
          · rw [take_more hp, succs_more]
            by_cases ha : p.1 = a
            · subst ha
              have : m = l := Option.some.inj (hm.symm.trans hl)
              subst this
              rw [upd_same, if_pos rfl, List.map_append]
              rfl
            · have nml : m ≠ l := by
                intro e
                subst e
                exact ha (nodup_inj nd hl hm)
              rw [upd_ne nml, if_neg ha]
              exact each a m hm
      · rintro σ H2 ⟨v2, v3, v4, rfl, s2, hD2, each⟩
        refine ⟨_, rfl, q d ls H2 s2 el ⟨hD2, fun a l e => ?_⟩⟩
        have := each a l e
        rwa [List.take_of_length_le (by rw [List.length_map]; exact Nat.le_of_eq (Paired.length hC.prs).symm)] at this
end
end Ft

set_option Elab.async false
set_option linter.all false
set_option maxRecDepth 100000
set_option maxHeartbeats 4000000
namespace Ft
open PySem PySem.Spec PyProof.Rows L2
section
variable {P : Program} {w : World} {K : PySem.W.Frag} {mg : Str → Option Value} {base : Heap} {t1 t2 : Tok}
theorem up_nodup {l : List Nat} (h : l.Pairwise (· < ·)) : l.Nodup := h.imp fun h e => by omega
theorem up_len {l : List Nat} {n : Nat} (h : l.Pairwise (· < ·)) (b : ∀ a ∈ l, a < n) : l.length ≤ n := by
  have := nat_nodup_len l (List.range n) (up_nodup h) fun x hx => List.mem_range.mpr (b x hx)
  rwa [List.length_range] at this
/-! ### unwished_of -/
def unw (C : Chart) : List Nat := (List.range C.n).filter fun a => !decide (a ∈ C.wished)
theorem range_more (n i : Nat) (h : i < n) : (List.range n).take (i + 1) = (List.range n).take i ++ [i] := by
  refine take_more ?_
  rw [List.getElem?_range h]
theorem range_take_mem {n i a : Nat} (h : i ≤ n) : a ∈ (List.range n).take i ↔ a < i := by
  have e : (List.range n).take i = List.range i := by
    rw [List.take_range, Nat.min_eq_left h]
  rw [e, List.mem_range]
def sp_unwished_of (K : PySem.W.Frag) : Sp := fun vs H Q _ => ∃ (c : Addr) (C : Chart), vs = [.ref c] ∧ IsChart K H c C ∧ C.Ok ∧ ∀ q H', Same H H' → H q = none → H' q = some (.lst ((unw C).map vN)) → Q (.ref q) H'
theorem cal_unwished_of (T : Txt mg) (D : Def K mg "unwished_of" s_unwished_of) : Cal P w K mg base 2 "unwished_of" (sp_unwished_of K) := by
  refine cal_of D sc_unwished_of (fun _ _ _ _ _ _ us hl => match us, hl with | [_], _ => rfl) (fun vs H Q E h => ?_) (fun f cdv A outer s H vs Q E hr h => ?_)
  · obtain ⟨c, C, rfl, _⟩ := h
    rfl
  · obtain ⟨c, C, rfl, ⟨r, wd, ts, hC⟩, ok, q⟩ := h
    have n60 := ok.n60
    refine ⟨_, (pss_cons (ps_set (i := 1) sc_unwished_of.nd rfl (Or.inr rfl) (pe_callTy (show CallR _ _ (rSetI K w) from cr_setI rfl) (by rfl) T.set (by decide +kernel) (pa_cons (pe_ix (show IxR _ (rIxT K) from ix_tup) (pv 0) pe_int (fun _ _ => rfl)) pa_nil)))
      (pss_one (ps_ret (pe_lc (own := [("place", 2)]) rfl sc_unwished_of.nd (pi_range1 (by rfl) T.range (pa_cons (pe_ix (show IxR _ (rIxT K) from ix_tup) (pv 0) pe_int (fun _ _ => rfl)) pa_nil)) (blkOk_by (N := ["chart", "wished", "place"]) (sc := L2.defScope s_unwished_of) (by decide +kernel)) (fun _ _ _ _ _ => (pg_name (i := 2) sc_unwished_of.nd rfl (Or.inl rfl))) (fun _ _ _ _ _ => pts_one (pt_cmpR (show OpR _ _ (rSNotIn w) from or_snotin) (pv 2) (pv 1) (by rfl))) (fun _ _ _ _ _ => (pv 2)))))), ?_⟩
    have lenW : (iN C.wished).length ≤ 1000 := by
      rw [iN_length]
      have := up_len ok.upW ok.inW
      omega
    refine ⟨_, rfl, _, _, _, _, rfl, rfl, hC.top, rfl, wd, iN C.wished, rfl, .inr (by rw [← vN_map]; exact hC.wis), lenW, fun p n0 hp hn0 => ?_⟩
    have s1 : Same H (upd H p (SetO w p (fun j => decide (j ∈ iN C.wished)) n0)) := same_upd hp
    have hC1 := hC.same s1
    refine ⟨_, rfl, _, _, _, _, rfl, rfl, hC1.top, rfl, _, rfl, by omega, by omega, fun d hd => ?_⟩
    have npd : p ≠ d := ne_of_none upd_same hd
    refine lc_range (lo := 0) (n := C.n) (fun i H' => Same H H' ∧ H' p = some (SetO w p (fun j => decide (j ∈ iN C.wished)) n0) ∧ H' d = some (.lst ((((List.range C.n).take i).filter fun a => !decide (a ∈ C.wished)).map vN)))
      ⟨s1.trans (same_upd hd), by rw [upd_ne npd]; exact upd_same, upd_same⟩ ?_ ?_
    · rintro i H1 hi ⟨s2, hp2, hd2⟩
      refine ⟨rfl, ?_⟩
      refine ⟨_, rfl, _, rfl, _, _, _, _, rfl, rfl, hp2, _, rfl, ?_⟩
      have e0 : (0 : Int) + (i : Nat) = (i : Nat) := by omega
      have e1 : decide ((0 : Int) + (i : Nat) ∈ iN C.wished) = decide (i ∈ C.wished) := by
        rw [e0]
        exact decide_eq_decide.mpr iN_mem
      rw [e1, range_more _ _ hi, List.filter_append]
      by_cases hw : i ∈ C.wished
      · rw [decide_eq_true hw]
        refine iteF ⟨s2, hp2, ?_⟩
        rw [hd2]
        simp [hw]
      · rw [decide_eq_false hw]
        refine iteT ?_
        refine ⟨_, rfl, _, hd2, ?_, ?_, ?_, ?_⟩
        · rw [List.length_map]
          have h1 := List.length_filter_le (fun a => !decide (a ∈ C.wished)) ((List.range C.n).take i)
          have h2 : ((List.range C.n).take i).length ≤ i := by rw [List.length_take]; omega
          exact small1000 (by omega)
        · intro b o e
          rw [upd_ne (ne_of_none e (s1.free hd))]
          exact s2 b o e
        · rw [upd_ne npd]
          exact hp2
        · rw [upd_same, List.map_append, e0]
          simp [hw]
          rfl
    · rintro H1 ⟨s2, hp2, hd2⟩
      rw [List.take_of_length_le (by rw [List.length_range]; exact Nat.le_refl _)] at hd2
      exact q d H1 s2 (s1.free hd) hd2
end
end Ft

set_option Elab.async false
set_option linter.all false
set_option maxRecDepth 100000
set_option maxHeartbeats 4000000
/-! Plain mathematics: ascending lists, reach -/
namespace Ft
theorem asc_ext : ∀ {l1 l2 : List Nat}, l1.Pairwise (· < ·) → l2.Pairwise (· < ·) → (∀ x, x ∈ l1 ↔ x ∈ l2) → l1 = l2
  | [], [], _, _, _ => rfl
  | [], b :: l2, _, _, h => absurd ((h b).mpr List.mem_cons_self) List.not_mem_nil
  | a :: l1, [], _, _, h => absurd ((h a).mp List.mem_cons_self) List.not_mem_nil
  | a :: l1, b :: l2, h1, h2, h => by
    obtain ⟨a1, p1⟩ := List.pairwise_cons.mp h1
    obtain ⟨a2, p2⟩ := List.pairwise_cons.mp h2
    have e : a = b := by
      rcases List.mem_cons.mp ((h a).mp List.mem_cons_self) with e | m
      · exact e
      · rcases List.mem_cons.mp ((h b).mpr List.mem_cons_self) with e | m'
        · exact e.symm
        · have := a2 a m
          have := a1 b m'
          omega
    subst e
    refine congrArg (a :: ·) (asc_ext p1 p2 fun x => ⟨fun m => ?_, fun m => ?_⟩)
    · rcases List.mem_cons.mp ((h x).mp (List.mem_cons_of_mem _ m)) with e | m'
      · have := a1 x m
        omega
      · exact m'
    · rcases List.mem_cons.mp ((h x).mpr (List.mem_cons_of_mem _ m)) with e | m'
      · have := a2 x m
        omega
      · exact m'
/-- the places below n with a property, ascending -/
noncomputable def those (n : Nat) (P : Nat → Prop) : List Nat := (List.range n).filter fun b => @decide (P b) (Classical.propDecidable _)
theorem range_up (n : Nat) : (List.range n).Pairwise (· < ·) := List.pairwise_lt_range
theorem those_up (n : Nat) (P : Nat → Prop) : (those n P).Pairwise (· < ·) := (range_up n).filter _
theorem those_mem {n : Nat} {P : Nat → Prop} {b : Nat} : b ∈ those n P ↔ b < n ∧ P b := by
  unfold those
  rw [List.mem_filter, List.mem_range]
  simp
theorem those_is {n : Nat} {P : Nat → Prop} {l : List Nat} (up : l.Pairwise (· < ·)) (h : ∀ x, x ∈ l ↔ x < n ∧ P x) : l = those n P :=
  asc_ext up (those_up n P) fun x => (h x).trans those_mem.symm
/-- a sorted copy of numbers -/
theorem sorted_iN {F : List Nat} (nd : F.Nodup) {ys : List Int} (pm : ys.Perm (F.map fun (n : Nat) => (n : Int))) (up : ys.Pairwise (· ≤ ·)) :
    ∃ l : List Nat, ys = l.map (fun (n : Nat) => (n : Int)) ∧ l.Pairwise (· < ·) ∧ ∀ x, x ∈ l ↔ x ∈ F := by
  have nn : ∀ y ∈ ys, 0 ≤ y := by
    intro y hy
    obtain ⟨n, _, e⟩ := List.mem_map.mp (pm.mem_iff.mp hy)
    omega
  have e : ys = (ys.map Int.toNat).map (fun (n : Nat) => (n : Int)) := by
    rw [List.map_map]
    conv => lhs; rw [← List.map_id ys]
    exact List.map_congr_left fun y hy => (Int.toNat_of_nonneg (nn y hy)).symm
  have ndy : ys.Nodup := by
    refine pm.nodup_iff.mpr ?_
    exact List.pairwise_map.mpr (nd.imp fun h e => h (by omega))
  refine ⟨ys.map Int.toNat, e, ?_, fun x => ?_⟩
  · refine List.pairwise_map.mpr ?_
    have both : ys.Pairwise fun a b => a ≤ b ∧ a ≠ b := List.Pairwise.and up ndy
    refine List.Pairwise.imp_of_mem (fun {a b} ha hb h => ?_) both
    have h1 := nn a ha
    have h2 := nn b hb
    omega
  · constructor
    · intro h
      obtain ⟨y, hy, e1⟩ := List.mem_map.mp h
      obtain ⟨n, hn, e2⟩ := List.mem_map.mp (pm.mem_iff.mp hy)
      have : n = x := by omega
      exact this ▸ hn
    · intro h
      have : (x : Int) ∈ ys := pm.mem_iff.mpr (List.mem_map.mpr ⟨x, h, rfl⟩)
      exact List.mem_map.mpr ⟨(x : Int), this, by omega⟩
/-- from a place along roads over unwished places -/
inductive Reach (rs : List (Nat × Nat)) (ws : List Nat) : Nat → Nat → Prop
  | one {a b : Nat} : (a, b) ∈ rs → Reach rs ws a b
  | more {a b c : Nat} : Reach rs ws a b → b ∉ ws → (b, c) ∈ rs → Reach rs ws a c
theorem Reach.cons {rs : List (Nat × Nat)} {ws : List Nat} {a b c : Nat} (h : (a, b) ∈ rs) (hb : b ∉ ws) (r : Reach rs ws b c) : Reach rs ws a c := by
  induction r with
  | one h2 => exact .more (.one h) hb h2
  | more _ h2 h3 ih => exact .more ih h2 h3
theorem Reach.trans {rs : List (Nat × Nat)} {ws : List Nat} {a b c : Nat} (r : Reach rs ws a b) (hb : b ∉ ws) (q : Reach rs ws b c) : Reach rs ws a c := by
  induction q with
  | one h2 => exact .more r hb h2
  | more _ h2 h3 ih => exact .more ih h2 h3
/-- what is closed and holds the first steps holds all -/
theorem Reach.within {rs : List (Nat × Nat)} {ws : List Nat} {S : Nat → Prop} {a b : Nat} (r : Reach rs ws a b) (h1 : ∀ x, (a, x) ∈ rs → S x) (h2 : ∀ x y, S x → x ∉ ws → (x, y) ∈ rs → S y) : S b := by
  induction r with
  | one h => exact h1 _ h
  | more _ hb h ih => exact h2 _ _ ih hb h
/-- the places that some place of S comes to -/
noncomputable def met (n : Nat) (rs : List (Nat × Nat)) (ws S : List Nat) : List Nat := those n fun b => ∃ a ∈ S, Reach rs ws a b
end Ft

set_option Elab.async false
set_option linter.all false
set_option maxRecDepth 100000
set_option maxHeartbeats 4000000
namespace Ft
open PySem PySem.Spec PyProof.Rows L2
/-- a dict of places, each with True -/
def keysOf (F : List Nat) : List (Key × V) := F.map fun (n : Nat) => ((Sum.inl (n : Int) : Key), V.bl true)
theorem keysOf_val : ∀ (F : List Nat) (x : Nat), valV (keysOf F) (Sum.inl (x : Int) : Key) = if x ∈ F then some (.bl true) else none
  | [], x => by simp [keysOf, valV]
  | a :: F, x => by
    have ih := keysOf_val F x
    unfold valV keysOf at ih ⊢
    rw [List.map_cons, List.find?_cons]
    by_cases h : a = x
    · subst h
      simp
    · have e : decide (((Sum.inl (a : Int) : Key)) = Sum.inl (x : Int)) = false := by
        refine decide_eq_false fun q => h ?_
        have := Sum.inl.inj q
        omega
      have hx : x ≠ a := fun q => h q.symm
      simp only [e, List.mem_cons, hx, false_or]
      exact ih
theorem keysOf_put (F : List Nat) (x : Nat) (h : x ∉ F) : putK (keysOf F) (Sum.inl (x : Int) : Key) (.bl true) = keysOf (F ++ [x]) := by
  rw [putK_new _ (by rw [keysOf_val, if_neg h])]
  unfold keysOf
  rw [List.map_append]
  rfl
theorem keysOf_len (F : List Nat) : (keysOf F).length = F.length := List.length_map ..
theorem keysOf_keys (F : List Nat) : (keysOf F).map (·.1) = (iN F).map Sum.inl := by
  unfold keysOf iN
  rw [List.map_map, List.map_map]
  rfl
theorem nodup_lt {F : List Nat} {n : Nat} (nd : F.Nodup) (b : ∀ x ∈ F, x < n) : F.length ≤ n := by
  have := nat_nodup_len F (List.range n) nd fun x hx => List.mem_range.mpr (b x hx)
  rwa [List.length_range] at this
/-- what holds between two turns of the search -/
structure Hunt (C : Chart) (S F W : List Nat) : Prop where
  nd : F.Nodup
  lt : ∀ b ∈ F, b < C.n
  fair : ∀ b ∈ F, ∃ a ∈ S, Reach C.roads C.wished a b
  wait : ∀ x ∈ W, x ∈ S ∨ (x ∈ F ∧ x ∉ C.wished)
structure Done (C : Chart) (S F W : List Nat) (off : Nat → Prop) : Prop where
  ok : ∀ x, (x ∈ S ∨ (x ∈ F ∧ x ∉ C.wished)) → x ∈ W ∨ off x ∨ ∀ b, (x, b) ∈ C.roads → b ∈ F
theorem hunt_end {C : Chart} {S F : List Nat} (h : Hunt C S F []) (d : Done C S F [] fun _ => False) : ∀ x, x ∈ F ↔ x < C.n ∧ ∃ a ∈ S, Reach C.roads C.wished a x := by
  intro x
  constructor
  · intro m
    exact ⟨h.lt x m, h.fair x m⟩
  · rintro ⟨_, a, ha, r⟩
    have all : ∀ y, (y ∈ S ∨ (y ∈ F ∧ y ∉ C.wished)) → ∀ b, (y, b) ∈ C.roads → b ∈ F := by
      intro y hy
      rcases d.ok y hy with z | z | z
      · exact absurd z List.not_mem_nil
      · exact z.elim
      · exact z
    exact r.within (S := (· ∈ F)) (fun y hy => all a (.inl ha) y hy) fun y z hy hw hz => all y (.inr ⟨hy, hw⟩) z hz
section
variable {P : Program} {w : World} {K : PySem.W.Frag} {mg : Str → Option Value} {base : Heap} {t1 t2 : Tok}
/-! ### reached -/
def hungry (n : Nat) (d wt : Addr) (H : Hp) : Nat := match H d, H wt with
  | some (.dK kvs), some (.lst ws) => 2 * (n - kvs.length) + ws.length
  | _, _ => 0
theorem hungry_is {n : Nat} {d wt : Addr} {H : Hp} {kvs : List (Key × V)} {ws : List V} (h1 : H d = some (.dK kvs)) (h2 : H wt = some (.lst ws)) : hungry n d wt H = 2 * (n - kvs.length) + ws.length := by
  unfold hungry
  rw [h1, h2]
def sp_reached (K : PySem.W.Frag) : Sp := fun vs H Q _ => ∃ (c st : Addr) (C : Chart) (S : List Nat), vs = [.ref c, .ref st] ∧ IsChart K H c C ∧ C.Ok ∧ SqT K H st (S.map vN) ∧ (∀ a ∈ S, a < C.n) ∧ S.length ≤ 60 ∧
  ∀ q H', Same H H' → H q = none → H' q = some (.lst ((met C.n C.roads C.wished S).map vN)) → Q (.ref q) H'
theorem cal_reached (T : Txt mg) (D : Def K mg "reached" s_reached) (c_roads_from : Cal P w K mg base 2 "roads_from" (sp_roads_from K)) : Cal P w K mg base 3 "reached" (sp_reached K) := by
  refine cal_of D sc_reached (fun _ _ _ _ _ _ us hl => match us, hl with | [_, _], _ => rfl) (fun vs H Q E h => ?_) (fun f cdv A outer s H vs Q E hr h => ?_)
  · obtain ⟨c, st, C, S, rfl, _⟩ := h
    rfl
  · obtain ⟨c, st, C, S, rfl, ⟨r, wd, ts, hC⟩, ok, hS, inS, fewS, q⟩ := h
    have hu := hu_of hr
    have n60 := ok.n60
    refine ⟨_, (pss_cons (ps_set (i := 2) sc_reached.nd rfl (Or.inl rfl) (pe_c c_roads_from hr (by decide) (by rfl) (pa_cons (pv 0) pa_nil)))
      (pss_cons (ps_set (i := 3) sc_reached.nd rfl (Or.inl rfl) (pe_callTy (show CallR _ _ (rSetI K w) from cr_setI rfl) (by rfl) T.set (by decide +kernel) (pa_cons (pe_ix (show IxR _ (rIxT K) from ix_tup) (pv 0) pe_int (fun _ _ => rfl)) pa_nil)))
      (pss_cons (ps_set (i := 4) sc_reached.nd rfl (Or.inl rfl) pe_dnewK)
      (pss_cons (ps_set (i := 5) sc_reached.nd rfl (Or.inl rfl) (pe_callTy (show CallR _ _ (rListOf K) from call_listOf) (by rfl) T.list (by decide +kernel) (pa_cons (pv 1) pa_nil)))
      (pss_cons (ps_while PassesOwn.never (pt_truth (pv 5) (by intro _; rfl)) (pss_cons (ps_set (i := 6) sc_reached.nd rfl (Or.inl rfl) (pe_bm0 PySem.F.plainAttrs_list PySem.F.slot_list_pop PySem.F.type_list_pop mt_pop (pv 5)))
        (pss_one (ps_for PassesOwn.never rfl (show PI _ _ _ (iList K _) from pi_list (pe_ix (show IxR _ (rIxL K) from ix_list) (pv 2) (pv 6) (fun _ _ => rfl))) (pg_name (i := 7) sc_reached.nd rfl (Or.inl rfl)) (pss_one (ps_if (pt_cmp (pc_dnotin hu (pv 7) (pv 4))) (pss_cons (ps_dput hu (pv 4) (pv 7) pe_bl rfl)
            (pss_one (ps_if (pt_cmpR (show OpR _ _ (rSNotIn w) from or_snotin) (pv 7) (pv 3) (by rfl)) (pss_one (ps_expr (pe_bm PySem.F.plainAttrs_list PySem.F.slot_list_append PySem.F.type_list_append mt_append (pv 5) (pa_cons (pv 7) pa_nil)))) pss_nil))) pss_nil))))))
      (pss_one (ps_ret (pe_callB (call_sortedDI rfl) (by rfl) T.sorted (by decide +kernel) (pa_cons (pv 4) pa_nil))))))))), ?_⟩
    refine ⟨_, rfl, c, C, rfl, ⟨r, wd, ts, hC⟩, ok, fun g ls H1 s1 el hL => ?_⟩
    have hC1 := hC.same s1
    have lenW : (iN C.wished).length ≤ 1000 := by
      rw [iN_length]
      have := up_len ok.upW ok.inW
      omega
    refine ⟨_, rfl, _, _, _, _, rfl, rfl, hC1.top, rfl, wd, iN C.wished, rfl, .inr (by rw [← vN_map]; exact hC1.wis), lenW, fun p n0 hp hn0 => ?_⟩
    have hp2 : (upd H1 p (SetO w p (fun j => decide (j ∈ iN C.wished)) n0)) p = some (SetO w p (fun j => decide (j ∈ iN C.wished)) n0) := upd_same
    have s2 : Same H (upd H1 p (SetO w p (fun j => decide (j ∈ iN C.wished)) n0)) := s1.trans (same_upd hp)
    have L2' : LotsAt (upd H1 p (SetO w p (fun j => decide (j ∈ iN C.wished)) n0)) g ls (succs C.roads) :=
      ⟨by rw [upd_ne (ne_of_none hL.top hp)]; exact hL.top, fun a l e => by rw [upd_ne (ne_of_none (hL.each a l e) hp)]; exact hL.each a l e⟩
    generalize (upd H1 p (SetO w p (fun j => decide (j ∈ iN C.wished)) n0)) = H2 at hp2 s2 L2'
    intro d hd
    have s3 : Same H2 (upd H2 d (.dK [])) := same_upd hd
    refine ⟨_, rfl, st, _, rfl, .inr (Same.sqT (s2.trans s3) hS), fun wt hwt => ?_⟩
    have ndw : d ≠ wt := ne_of_none upd_same hwt
    have nd2 : H2 wt = none := by rw [upd_ne ndw.symm] at hwt; exact hwt
    have apart : ∀ b o, H2 b = some o → b ∉ [d, wt] := by
      intro b o e m
      rcases List.mem_cons.mp m with z | z
      · rw [z, hd] at e
        cases e
      · rw [List.mem_singleton.mp z, nd2] at e
        cases e
    have k0 : Kp [d, wt] H2 (upd (upd H2 d (.dK [])) wt (.lst (S.map vN))) := by
      intro b o n e
      rw [upd_ne (fun z => n (by rw [z]; simp)), upd_ne (fun z => n (by rw [z]; simp))]
      exact e
    refine at_name ?_
    dsimp only
    refine at_seq ?_
    refine while_by (fun σ H' => ∃ (F W : List Nat) (v6 v7 : Option V), σ = [some (.ref c), some (.ref st), some (.ref g), some (.ref p), some (.ref d), some (.ref wt), v6, v7] ∧ Kp [d, wt] H2 H' ∧ H' d = some (.dK (keysOf F)) ∧ H' wt = some (.lst (W.map vN)) ∧ Hunt C S F W ∧ Done C S F W (fun _ => False) ∧ 2 * (C.n - F.length) + W.length ≤ 180) (fun _ H' => hungry C.n d wt H') ?_ ?_ ?_
    · refine ⟨[], S, _, _, rfl, k0, by rw [upd_ne ndw]; exact upd_same, upd_same, ⟨List.nodup_nil, (fun b z => nomatch z), (fun b z => nomatch z), fun x hx => .inl hx⟩, ⟨fun x hx => ?_⟩, by rw [List.length_nil]; omega⟩
      rcases hx with hx | hx
      · exact .inl hx
      · exact absurd hx.1 List.not_mem_nil
    · rintro σ H3 ⟨F, W, v6, v7, rfl, k3, hF, hW, hunt, dn, cap⟩
      refine ⟨_, rfl, _, .inl ⟨_, .inl (.inl hW), rfl⟩, ?_⟩
      by_cases he : W = []
      · subst he
        refine iteF ?_
        refine ⟨_, rfl, d, keysOf F, iN F, rfl, .inl hF, keysOf_keys F, ?_, fun ys q0 pm up hq0 => ?_⟩
        · rw [iN_length]
          have := nodup_lt hunt.nd hunt.lt
          omega
        · obtain ⟨l, el2, upl, ml⟩ := sorted_iN hunt.nd pm up
          have e : l = met C.n C.roads C.wished S := those_is upl fun x => (ml x).trans (hunt_end hunt dn x)
          refine q q0 _ ?_ ?_ ?_
          · intro b o e1
            have e2 := s2 b o e1
            have e3 := k3 b o (apart b o e2) e2
            rw [upd_ne (ne_of_none e3 hq0)]
            exact e3
          · have n1 : q0 ≠ d := fun z => by rw [z, hF] at hq0; cases hq0
            have n2 : q0 ≠ wt := fun z => by rw [z, hW] at hq0; cases hq0
            exact s2.free (kp_free k3 (by simp [n1, n2]) hq0)
          · rw [upd_same, el2, ← e, vN_map]
            rfl
      · have hb : (!(W.map vN).isEmpty) = true := by
          cases W with
          | nil => exact absurd rfl he
          | cons a W => rfl
        rw [hb]
        refine iteT ?_
        obtain ⟨W0, x, rfl⟩ : ∃ W0 x, W = W0 ++ [x] := ⟨W.dropLast, W.getLast he, (List.dropLast_concat_getLast he).symm⟩
        rw [List.length_append, List.length_singleton] at cap
        have hlast : ((W0 ++ [x]).map vN)[((W0 ++ [x]).map vN).length - 1]? = some (vN x) := by simp
        refine ⟨_, rfl, .inl ⟨rfl, _, .inl (.inl hW)⟩, wt, _, _, rfl, rfl, hW, hlast, ?_⟩
        have hdl : ((W0 ++ [x]).map vN).dropLast = W0.map vN := by simp
        rw [hdl]
        have hx : x ∈ S ∨ (x ∈ F ∧ x ∉ C.wished) := hunt.wait x (by simp)
        have hxn : x < C.n := by
          rcases hx with h | h
          · exact inS x h
          · exact hunt.lt x h.1
        obtain ⟨l, hl⟩ : ∃ l, ls[x]? = some l := ⟨_, List.getElem?_eq_getElem (by rw [el]; exact hxn)⟩
        have kW : Kp [d, wt] H2 (upd H3 wt (.lst (W0.map vN))) := by
          intro b o n e
          rw [upd_ne (fun z => n (by rw [z]; simp))]
          exact k3 b o n e
        have kept : ∀ {H' : Hp}, Kp [d, wt] H2 H' → LotsAt H' g ls (succs C.roads) := fun {H'} k => ⟨k _ _ (apart _ _ L2'.top) L2'.top, fun a m e => k _ _ (apart _ _ (L2'.each a m e)) (L2'.each a m e)⟩
        have mu0 : hungry C.n d wt H3 = 2 * (C.n - F.length) + (W0.length + 1) := by
          rw [hungry_is hF hW, keysOf_len]
          simp
        refine ⟨_, rfl, _, rfl, g, _, _, _, rfl, rfl, .inl (.inl (kept kW).top), atI_nat (v := V.ref l) (by rw [List.getElem?_map, hl]; rfl), l, rfl, ⟨_, .inl (.inl ((kept kW).each x l hl))⟩, ?_⟩
        refine for_list (K := K) (xs := (succs C.roads x).map vN) (fun i σ H' => ∃ (F1 W1 : List Nat) (v7 : Option V), σ = [some (.ref c), some (.ref st), some (.ref g), some (.ref p), some (.ref d), some (.ref wt), some (vN x), v7] ∧ Kp [d, wt] H2 H' ∧ H' d = some (.dK (keysOf F1)) ∧ H' wt = some (.lst (W1.map vN)) ∧ Hunt C S F1 W1 ∧
            Done C S F1 W1 (· = x) ∧ (∀ b ∈ (succs C.roads x).take i, b ∈ F1) ∧ 2 * (C.n - F1.length) + W1.length ≤ 2 * (C.n - F.length) + W0.length) ?_ (fun i σ H' _ ⟨F1, W1, _, _, k4, _⟩ => .inl (.inl ((kept k4).each x l hl))) ?_ ?_
        · refine ⟨F, W0, _, rfl, kW, ?_, upd_same, ⟨hunt.nd, hunt.lt, hunt.fair, fun y hy => hunt.wait y (by simp [hy])⟩, ⟨fun y hy => ?_⟩, fun b hb => ?_, Nat.le_refl _⟩
          · rw [upd_ne ndw]
            exact hF
          · rcases dn.ok y hy with z | z | z
            · rcases List.mem_append.mp z with z | z
              · exact .inl z
              · exact .inr (.inl (List.mem_singleton.mp z))
            · exact z.elim
            · exact .inr (.inr z)
          · rw [List.take_zero] at hb
            exact absurd hb List.not_mem_nil
        · rintro i y σ H4 hy ⟨F1, W1, v7', rfl, k4, hF1, hW1, hunt1, dn1, took, mu1⟩
          obtain ⟨b, hb, rfl⟩ := get_map hy
          have hbr : (x, b) ∈ C.roads := succs_mem.mp (List.mem_of_getElem? hb)
          have hbn : b < C.n := (ok.inR _ hbr).2
          have rb : ∃ a ∈ S, Reach C.roads C.wished a b := by
            rcases hx with h | ⟨h, hw⟩
            · exact ⟨x, h, .one hbr⟩
            · obtain ⟨a, ha, ra⟩ := hunt.fair x h
              exact ⟨a, ha, .more ra hw hbr⟩
          refine ⟨_, rfl, _, rfl, d, _, rfl, DGet.k (k := Sum.inl (b : Int)) hF1, _, rfl, ?_⟩
          rw [keysOf_val]
          by_cases hf : b ∈ F1
          · rw [if_pos hf]
            refine iteF ?_
            refine ⟨F1, W1, _, rfl, k4, hF1, hW1, hunt1, dn1, fun z hz => ?_, mu1⟩
            rw [take_more hb] at hz
            rcases List.mem_append.mp hz with hz | hz
            · exact took z hz
            · rw [List.mem_singleton.mp hz]
              exact hf
          · rw [if_neg hf]
            refine iteT ?_
            have len1 : F1.length < C.n := by
              have := nodup_lt (F := F1 ++ [b]) (n := C.n) (by
                rw [List.nodup_append]
                exact ⟨hunt1.nd, by simp, fun u hu v hv e => hf (by rw [← List.mem_singleton.mp hv, ← e]; exact hu)⟩) (fun u hu => by
                  rcases List.mem_append.mp hu with hu | hu
                  · exact hunt1.lt u hu
                  · rw [List.mem_singleton.mp hu]; exact hbn)
              rw [List.length_append, List.length_singleton] at this
              omega
            have nd1 : (F1 ++ [b]).Nodup := by
              rw [List.nodup_append]
              exact ⟨hunt1.nd, by simp, fun u hu v hv e => hf (by rw [← List.mem_singleton.mp hv, ← e]; exact hu)⟩
            refine ⟨_, rfl, _, rfl, d, _, rfl, DPut.k (k := Sum.inl (b : Int)) hF1 (by rw [keysOf_len]; exact small1000 (by omega)), ?_⟩
            rw [keysOf_put F1 b hf]
            have kD : Kp [d, wt] H2 (upd H4 d (.dK (keysOf (F1 ++ [b])))) := by
              intro u o n e
              rw [upd_ne (fun z => n (by rw [z]; simp))]
              exact k4 u o n e
            have hp5 : (upd H4 d (.dK (keysOf (F1 ++ [b])))) p = some (SetO w p (fun j => decide (j ∈ iN C.wished)) n0) := kD _ _ (apart _ _ hp2) hp2
            have huntF : ∀ z ∈ F1 ++ [b], z < C.n ∧ ∃ a ∈ S, Reach C.roads C.wished a z := by
              intro z hz
              rcases List.mem_append.mp hz with hz | hz
              · exact ⟨hunt1.lt z hz, hunt1.fair z hz⟩
              · rw [List.mem_singleton.mp hz]
                exact ⟨hbn, rb⟩
            have took' : ∀ z ∈ (succs C.roads x).take (i + 1), z ∈ F1 ++ [b] := by
              intro z hz
              rw [take_more hb] at hz
              rcases List.mem_append.mp hz with hz | hz
              · exact List.mem_append_left _ (took z hz)
              · exact List.mem_append_right _ hz
            refine ⟨_, rfl, _, rfl, _, p, _, _, rfl, rfl, hp5, _, rfl, ?_⟩
            have e1 : decide ((b : Int) ∈ iN C.wished) = decide (b ∈ C.wished) := decide_eq_decide.mpr iN_mem
            rw [e1]
            by_cases hw : b ∈ C.wished
            · rw [decide_eq_true hw]
              refine iteF ?_
              refine ⟨F1 ++ [b], W1, _, rfl, kD, upd_same, by rw [upd_ne ndw.symm]; exact hW1, ⟨nd1, fun z hz => (huntF z hz).1, fun z hz => (huntF z hz).2, fun z hz => ?_⟩, ⟨fun z hz => ?_⟩, took', ?_⟩
              · rcases hunt1.wait z hz with h | ⟨h, h'⟩
                · exact .inl h
                · exact .inr ⟨List.mem_append_left _ h, h'⟩
              · have hz' : z ∈ S ∨ (z ∈ F1 ∧ z ∉ C.wished) := by
                  rcases hz with h | ⟨h, h'⟩
                  · exact .inl h
                  · rcases List.mem_append.mp h with h | h
                    · exact .inr ⟨h, h'⟩
                    · rw [List.mem_singleton.mp h] at h'
                      exact absurd hw h'
                rcases dn1.ok z hz' with h | h | h
                · exact .inl h
                · exact .inr (.inl h)
                · exact .inr (.inr fun u hu => List.mem_append_left _ (h u hu))
              · rw [List.length_append, List.length_singleton]
                omega
            · rw [decide_eq_false hw]
              refine iteT ?_
              have hW5 : (upd H4 d (.dK (keysOf (F1 ++ [b])))) wt = some (.lst (W1.map vN)) := by rw [upd_ne ndw.symm]; exact hW1
              refine ⟨_, rfl, .inl ⟨rfl, _, .inl (.inl hW5)⟩, _, rfl, wt, _, _, rfl, rfl, hW5, ?_, ?_⟩
              · rw [List.length_map]
                exact small1000 (by omega)
              · refine ⟨F1 ++ [b], W1 ++ [b], _, rfl, ?_, ?_, ?_, ⟨nd1, fun z hz => (huntF z hz).1, fun z hz => (huntF z hz).2, fun z hz => ?_⟩, ⟨fun z hz => ?_⟩, took', ?_⟩
                · intro u o n e
                  rw [upd_ne (fun z => n (by rw [z]; simp))]
                  exact kD u o n e
                · rw [upd_ne ndw]
                  exact upd_same
                · rw [upd_same, List.map_append]
                  rfl
                · rcases List.mem_append.mp hz with hz | hz
                  · rcases hunt1.wait z hz with h | ⟨h, h'⟩
                    · exact .inl h
                    · exact .inr ⟨List.mem_append_left _ h, h'⟩
                  · rw [List.mem_singleton.mp hz]
                    exact .inr ⟨by simp, hw⟩
                · rcases hz with h | ⟨h, h'⟩
                  · rcases dn1.ok z (.inl h) with h | h | h
                    · exact .inl (List.mem_append_left _ h)
                    · exact .inr (.inl h)
                    · exact .inr (.inr fun u hu => List.mem_append_left _ (h u hu))
                  · rcases List.mem_append.mp h with h | h
                    · rcases dn1.ok z (.inr ⟨h, h'⟩) with h | h | h
                      · exact .inl (List.mem_append_left _ h)
                      · exact .inr (.inl h)
                      · exact .inr (.inr fun u hu => List.mem_append_left _ (h u hu))
                    · exact .inl (List.mem_append_right _ h)
                · rw [List.length_append, List.length_append, List.length_singleton]
                  omega
        · rintro σ H4 ⟨F1, W1, v7', rfl, k4, hF1, hW1, hunt1, dn1, took, mu1⟩
          refine ⟨⟨F1, W1, _, _, rfl, k4, hF1, hW1, hunt1, ⟨fun z hz => ?_⟩, by omega⟩, ?_⟩
          · rcases dn1.ok z hz with h | h | h
            · exact .inl h
            · subst h
              refine .inr (.inr fun b hb => took b ?_)
              rw [List.take_of_length_le (by rw [List.length_map]; exact Nat.le_refl _)]
              exact succs_mem.mpr hb
            · exact .inr (.inr h)
          · show hungry C.n d wt H4 < hungry C.n d wt H3
            rw [mu0, hungry_is hF1 hW1, keysOf_len, List.length_map]
            omega
    · rintro σ H' Q1 Q2 hQ ⟨v, e, k, tr, q1⟩
      exact ⟨v, e, k, tr, hQ _ _ q1⟩
end
end Ft

set_option Elab.async false
set_option linter.all false
set_option maxRecDepth 100000
set_option maxHeartbeats 4000000
namespace Ft
open PySem PySem.Spec PyProof.Rows L2
/-- the unwished places that some place of S comes to -/
noncomputable def metU (C : Chart) (S : List Nat) : List Nat := those C.n fun b => b ∉ C.wished ∧ ∃ a ∈ S, Reach C.roads C.wished a b
/-- the piece of a place -/
noncomputable def pieceOf (C : Chart) (a : Nat) : List Nat := if a ∈ C.wished then [a] else those C.n fun b => b ∉ C.wished ∧ (b = a ∨ (Reach C.roads C.wished a b ∧ Reach C.roads C.wished b a))
theorem unw_mem {C : Chart} {a : Nat} : a ∈ unw C ↔ a < C.n ∧ a ∉ C.wished := by
  unfold unw
  simp [List.mem_filter]
theorem unw_up (C : Chart) : (unw C).Pairwise (· < ·) := (range_up C.n).filter _
theorem unw_len (C : Chart) : (unw C).length ≤ C.n := by
  have := List.length_filter_le (fun a => !decide (a ∈ C.wished)) (List.range C.n)
  rwa [List.length_range] at this
theorem those_len (n : Nat) (P : Nat → Prop) : (those n P).length ≤ n := up_len (those_up n P) fun a h => (those_mem.mp h).1
/-- a dict of places, each with an object -/
def dictOf : List Nat → List Addr → List (Key × V)
  | a :: l, d :: ds => (Sum.inl (a : Int), .ref d) :: dictOf l ds
  | _, _ => []
theorem dictOf_more : ∀ (l : List Nat) (ds : List Addr) (a : Nat) (d : Addr), l.length = ds.length → dictOf (l ++ [a]) (ds ++ [d]) = dictOf l ds ++ [(Sum.inl (a : Int), .ref d)]
  | [], [], _, _, _ => rfl
  | x :: l, y :: ds, a, d, h => by
    have := dictOf_more l ds a d (Nat.succ.inj h)
    show _ :: dictOf (l ++ [a]) (ds ++ [d]) = _ :: (dictOf l ds ++ _)
    rw [this]
  | [], _ :: _, _, _, h => nomatch h
  | _ :: _, [], _, _, h => nomatch h
theorem dictOf_len : ∀ (l : List Nat) (ds : List Addr), l.length = ds.length → (dictOf l ds).length = l.length
  | [], [], _ => rfl
  | x :: l, y :: ds, h => congrArg (· + 1) (dictOf_len l ds (Nat.succ.inj h))
  | [], _ :: _, h => nomatch h
  | _ :: _, [], h => nomatch h
theorem dictOf_none : ∀ (l : List Nat) (ds : List Addr) (x : Nat), x ∉ l → valV (dictOf l ds) (Sum.inl (x : Int) : Key) = none
  | [], _, _, _ => by simp [dictOf, valV]
  | _ :: _, [], _, _ => by simp [dictOf, valV]
  | a :: l, d :: ds, x, h => by
    have ih := dictOf_none l ds x fun m => h (List.mem_cons_of_mem _ m)
    unfold valV at ih ⊢
    show ((((Sum.inl (a : Int) : Key), V.ref d) :: dictOf l ds).find? fun kv => decide (kv.1 = Sum.inl (x : Int))).map (·.2) = none
    rw [List.find?_cons]
    have e : decide (((Sum.inl (a : Int) : Key)) = Sum.inl (x : Int)) = false := by
      refine decide_eq_false fun q => h ?_
      have := Sum.inl.inj q
      have : a = x := by omega
      rw [this]
      exact List.mem_cons_self
    simp only [e]
    exact ih
theorem dictOf_val : ∀ (l : List Nat) (ds : List Addr) (i x : Nat) (d : Addr), l.Nodup → l[i]? = some x → ds[i]? = some d → valV (dictOf l ds) (Sum.inl (x : Int) : Key) = some (.ref d)
  | [], _, _, _, _, _, h, _ => by simp at h
  | _ :: _, [], _, _, _, _, _, h => by simp at h
  | a :: l, e :: ds, 0, x, d, _, h1, h2 => by
    simp at h1 h2
    subst h1 h2
    unfold valV
    show ((((Sum.inl (a : Int) : Key), V.ref e) :: dictOf l ds).find? fun kv => decide (kv.1 = Sum.inl (a : Int))).map (·.2) = some (.ref e)
    rw [List.find?_cons]
    simp
  | a :: l, e :: ds, i + 1, x, d, nd, h1, h2 => by
    obtain ⟨n1, n2⟩ := List.nodup_cons.mp nd
    have ih := dictOf_val l ds i x d n2 (by simpa using h1) (by simpa using h2)
    have hx : x ∈ l := List.mem_of_getElem? (by simpa using h1 : l[i]? = some x)
    unfold valV at ih ⊢
    show ((((Sum.inl (a : Int) : Key), V.ref e) :: dictOf l ds).find? fun kv => decide (kv.1 = Sum.inl (x : Int))).map (·.2) = some (.ref d)
    rw [List.find?_cons]
    have e2 : decide (((Sum.inl (a : Int) : Key)) = Sum.inl (x : Int)) = false := by
      refine decide_eq_false fun q => n1 ?_
      have := Sum.inl.inj q
      have : a = x := by omega
      rw [this]
      exact hx
    simp only [e2]
    exact ih
section
variable {P : Program} {w : World} {K : PySem.W.Frag} {mg : Str → Option Value} {base : Heap} {t1 t2 : Tok}
/-! ### reached_unwished -/
def sp_reached_unwished (K : PySem.W.Frag) : Sp := fun vs H Q _ => ∃ (c st : Addr) (C : Chart) (S : List Nat), vs = [.ref c, .ref st] ∧ IsChart K H c C ∧ C.Ok ∧ SqT K H st (S.map vN) ∧ (∀ a ∈ S, a < C.n) ∧ S.length ≤ 60 ∧
  ∀ q H', Same H H' → H q = none → H' q = some (.lst ((metU C S).map vN)) → Q (.ref q) H'
theorem cal_reached_unwished (T : Txt mg) (D : Def K mg "reached_unwished" s_reached_unwished) (c_reached : Cal P w K mg base 3 "reached" (sp_reached K)) : Cal P w K mg base 4 "reached_unwished" (sp_reached_unwished K) := by
  refine cal_of D sc_reached_unwished (fun _ _ _ _ _ _ us hl => match us, hl with | [_, _], _ => rfl) (fun vs H Q E h => ?_) (fun f cdv A outer s H vs Q E hr h => ?_)
  · obtain ⟨c, st, C, S, rfl, _⟩ := h
    rfl
  · obtain ⟨c, st, C, S, rfl, ⟨r, wd, ts, hC⟩, ok, hS, inS, fewS, q⟩ := h
    have n60 := ok.n60
    refine ⟨_, (pss_cons (ps_set (i := 2) sc_reached_unwished.nd rfl (Or.inr rfl) (pe_callTy (show CallR _ _ (rSetI K w) from cr_setI rfl) (by rfl) T.set (by decide +kernel) (pa_cons (pe_ix (show IxR _ (rIxT K) from ix_tup) (pv 0) pe_int (fun _ _ => rfl)) pa_nil)))
      (pss_one (ps_ret (pe_lc (own := [("place", 3)]) rfl sc_reached_unwished.nd (show PI _ _ _ (iList K _) from pi_list (pe_c c_reached hr (by decide) (by rfl) (pa_cons (pv 0) (pa_cons (pv 1) pa_nil)))) (blkOk_by (N := ["chart", "starts", "wished", "place"]) (sc := L2.defScope s_reached_unwished) (by decide +kernel)) (fun _ _ _ _ _ => (pg_name (i := 3) sc_reached_unwished.nd rfl (Or.inl rfl))) (fun _ _ _ _ _ => pts_one (pt_cmpR (show OpR _ _ (rSNotIn w) from or_snotin) (pv 3) (pv 2) (by rfl))) (fun _ _ _ _ _ => (pv 3)))))), ?_⟩
    have lenW : (iN C.wished).length ≤ 1000 := by
      rw [iN_length]
      have := up_len ok.upW ok.inW
      omega
    refine ⟨_, rfl, _, _, _, _, rfl, rfl, hC.top, rfl, wd, iN C.wished, rfl, .inr (by rw [← vN_map]; exact hC.wis), lenW, fun p n0 hp hn0 => ?_⟩
    have s1 : Same H (upd H p (SetO w p (fun j => decide (j ∈ iN C.wished)) n0)) := same_upd hp
    refine ⟨_, rfl, _, rfl, c, st, C, S, rfl, ⟨r, wd, ts, hC.same s1⟩, ok, Same.sqT s1 hS, inS, fewS, fun g H1 s2 hg hG => ?_⟩
    have hp1 : H1 p = some (SetO w p (fun j => decide (j ∈ iN C.wished)) n0) := s2 _ _ upd_same
    refine ⟨g, rfl, ⟨_, .inl (.inl hG)⟩, fun d hd => ?_⟩
    have npd : p ≠ d := ne_of_none hp1 hd
    have ngd : g ≠ d := ne_of_none hG hd
    refine lc_list (K := K) (xs := (met C.n C.roads C.wished S).map vN) (fun i H' => Same H1 (upd H' d (.lst [])) ∧ (∀ b o, H1 b = some o → H' b = some o) ∧ H' d = some (.lst ((((met C.n C.roads C.wished S).take i).filter fun a => !decide (a ∈ C.wished)).map vN)))
      ⟨fun b o e => ?_, same_upd hd, upd_same⟩ (fun i H' _ ⟨_, s3, _⟩ => .inl (.inl (s3 _ _ hG))) ?_ ?_
    · rw [upd_ne (ne_of_none e hd), upd_ne (ne_of_none e hd)]
      exact e
    · rintro i x H2 hx ⟨_, s3, hd2⟩
      obtain ⟨b, hb, rfl⟩ := get_map hx
      refine ⟨rfl, ?_⟩
      refine ⟨_, rfl, _, rfl, _, _, _, _, rfl, rfl, s3 _ _ hp1, _, rfl, ?_⟩
      have e1 : decide ((b : Int) ∈ iN C.wished) = decide (b ∈ C.wished) := decide_eq_decide.mpr iN_mem
      rw [e1, take_more hb, List.filter_append]
      by_cases hw : b ∈ C.wished
      · rw [decide_eq_true hw]
        refine iteF ⟨fun u o e => ?_, s3, ?_⟩
        · rw [upd_ne (ne_of_none e hd)]
          exact s3 u o e
        · rw [hd2]
          simp [hw]
      · rw [decide_eq_false hw]
        refine iteT ?_
        refine ⟨_, rfl, _, hd2, ?_, ?_, ?_, ?_⟩
        · rw [List.length_map]
          have h1 := List.length_filter_le (fun a => !decide (a ∈ C.wished)) ((met C.n C.roads C.wished S).take i)
          have h2 : ((met C.n C.roads C.wished S).take i).length ≤ (met C.n C.roads C.wished S).length := by rw [List.length_take]; omega
          have h3 : (met C.n C.roads C.wished S).length ≤ C.n := those_len _ _
          exact small1000 (by omega)
        · intro u o e
          rw [upd_ne (ne_of_none e hd), upd_ne (ne_of_none e hd)]
          exact s3 u o e
        · intro u o e
          rw [upd_ne (ne_of_none e hd)]
          exact s3 u o e
        · rw [upd_same, List.map_append]
          simp [hw]
    · rintro H2 ⟨_, s3, hd2⟩
      rw [List.take_of_length_le (by rw [List.length_map]; exact Nat.le_refl _)] at hd2
      have e : ((met C.n C.roads C.wished S).filter fun a => !decide (a ∈ C.wished)) = metU C S := by
        refine those_is ((those_up _ _).filter _) fun x => ?_
        rw [List.mem_filter]
        unfold met
        rw [those_mem]
        simp only [Bool.not_eq_true', decide_eq_false_iff_not]
        exact ⟨fun h => ⟨h.1.1, h.2, h.1.2⟩, fun h => ⟨⟨h.1, h.2.2⟩, h.2.1⟩⟩
      rw [e] at hd2
      exact q d H2 (fun b o eb => s3 b o (s2 b o (s1 b o eb))) ((s1.trans s2).free hd) hd2
end
end Ft

set_option Elab.async false
set_option linter.all false
set_option maxRecDepth 100000
set_option maxHeartbeats 8000000
namespace Ft
open PySem PySem.Spec PyProof.Rows L2
section
variable {P : Program} {w : World} {K : PySem.W.Frag} {mg : Str → Option Value} {base : Heap} {t1 t2 : Tok}
/-! ### piece_table -/
/-- the pieces at the addresses rows -/
def PiecesAt (K : PySem.W.Frag) (H : Hp) (C : Chart) (rows : List Addr) : Prop := rows.length = C.n ∧ ∀ x t, rows[x]? = some t → SqT K H t ((pieceOf C x).map vN)
theorem piece_filter {C : Chart} {a : Nat} (ha : a < C.n) (hw : a ∉ C.wished) : (unw C).filter (fun b => decide (a = b) || (decide (b ∈ metU C [a]) && decide (a ∈ metU C [b]))) = pieceOf C a := by
  unfold pieceOf
  rw [if_neg hw]
  refine those_is ((unw_up C).filter _) fun x => ?_
  rw [List.mem_filter, unw_mem]
  unfold metU
  simp only [Bool.or_eq_true, Bool.and_eq_true, decide_eq_true_eq, those_mem, List.mem_singleton, exists_eq_left]
  constructor
  · rintro ⟨⟨h1, h2⟩, h3⟩
    refine ⟨h1, h2, ?_⟩
    rcases h3 with e | ⟨⟨_, _, r1⟩, ⟨_, _, r2⟩⟩
    · exact .inl e.symm
    · exact .inr ⟨r1, r2⟩
  · rintro ⟨h1, h2, h3⟩
    refine ⟨⟨h1, h2⟩, ?_⟩
    rcases h3 with e | ⟨r1, r2⟩
    · exact .inl e.symm
    · exact .inr ⟨⟨h1, h2, r1⟩, ⟨ha, hw, r2⟩⟩
def sp_piece_table (K : PySem.W.Frag) : Sp := fun vs H Q _ => ∃ (c : Addr) (C : Chart), vs = [.ref c] ∧ IsChart K H c C ∧ C.Ok ∧ ∀ q rows H', Same H H' → H q = none → H' q = some (.lst (rows.map V.ref)) → PiecesAt K H' C rows → Q (.ref q) H'
theorem cal_piece_table (T : Txt mg) (D : Def K mg "piece_table" s_piece_table) (c_unwished_of : Cal P w K mg base 2 "unwished_of" (sp_unwished_of K)) (c_reached_unwished : Cal P w K mg base 4 "reached_unwished" (sp_reached_unwished K)) :
    Cal P w K mg base 5 "piece_table" (sp_piece_table K) := by
  refine cal_of D sc_piece_table (fun _ _ _ _ _ _ us hl => match us, hl with | [_], _ => rfl) (fun vs H Q E h => ?_) (fun f cdv A outer s H vs Q E hr h => ?_)
  · obtain ⟨c, C, rfl, _⟩ := h
    rfl
  · obtain ⟨c, C, rfl, ⟨r, wd, ts, hC⟩, ok, q⟩ := h
    have hu := hu_of hr
    have n60 := ok.n60
    have ulen := unw_len C
    refine ⟨_, (pss_cons (ps_set (i := 1) sc_piece_table.nd rfl (Or.inl rfl) (pe_c c_unwished_of hr (by decide) (by rfl) (pa_cons (pv 0) pa_nil)))
      (pss_cons (ps_set (i := 2) sc_piece_table.nd rfl (Or.inr rfl) (pe_dc (own := [("a", 4)]) rfl sc_piece_table.nd (show PI _ _ _ (iList K _) from pi_list (pv 1)) (blkOk_by (N := ["chart", "unwished", "comes_to", "table", "a", "b"]) (sc := L2.defScope s_piece_table) (by decide +kernel)) (fun _ _ _ _ _ => (pg_name (i := 4) sc_piece_table.nd rfl (Or.inl rfl))) (fun _ _ _ _ _ => pts_nil) (fun _ _ _ _ _ => (pv 4)) (fun _ _ _ _ _ => (pe_dc (own := [("b", 5)]) rfl sc_piece_table.nd (show PI _ _ _ (iList K _) from pi_list (pe_c c_reached_unwished hr (by decide) (by rfl) (pa_cons (pv 0) (pa_cons (pe_tup (pa_cons (pv 4) pa_nil)) pa_nil)))) (blkIn (N := ["chart", "unwished", "comes_to", "table", "a", "b"]) (sc := L2.defScope s_piece_table) rfl (by decide +kernel)) (fun _ _ _ _ _ => (pg_name (i := 5) sc_piece_table.nd rfl (Or.inl rfl))) (fun _ _ _ _ _ => pts_nil) (fun _ _ _ _ _ => (pv 5)) (fun _ _ _ _ _ => pe_bl)))))
      (pss_cons (ps_setLc (i := 3) (own := [("a", 4)]) rfl sc_piece_table.nd rfl rfl (sw_true rfl rfl rfl (by decide +kernel)) (pi_range1 (by rfl) T.range (pa_cons (pe_ix (show IxR _ (rIxT K) from ix_tup) (pv 0) pe_int (fun _ _ => rfl)) pa_nil)) (blkOk_by (N := ["chart", "unwished", "comes_to", "table", "a", "b"]) (sc := L2.defScope s_piece_table) (by decide +kernel)) (fun _ _ _ _ _ => (pg_name (i := 4) sc_piece_table.nd rfl (Or.inl rfl))) (fun _ _ _ _ _ => pts_nil) (fun _ _ _ _ _ => (pe_tup (pa_cons (pv 4) pa_nil))))
      (pss_cons (ps_for PassesOwn.never rfl (show PI _ _ _ (iList K _) from pi_list (pv 1)) (pg_name (i := 4) sc_piece_table.nd rfl (Or.inr rfl)) (pss_one (ps_asg (pe_callTy (show CallR _ _ (rTupleOf K) from call_tupleOf) (by rfl) T.tuple (by decide +kernel) (pa_cons (pe_lc (own := [("b", 5)]) rfl sc_piece_table.nd (show PI _ _ _ (iList K _) from pi_list (pv 1)) (blkOk_by (N := ["chart", "unwished", "comes_to", "table", "a", "b"]) (sc := L2.defScope s_piece_table) (by decide +kernel)) (fun _ _ _ _ _ => (pg_name (i := 5) sc_piece_table.nd rfl (Or.inl rfl))) (fun _ _ _ _ _ => pts_one (PW.pt (pw_or (pt_cmpR op_eq (pv 4) (pv 5) (nomark _)) (pw_or1 (PW.pt (pw_and (pt_cmp (pc_din hu (pv 5) (pe_dget hu (pv 2) (pv 4) (fun _ _ => rfl)))) (pw_and1 (pt_cmp (pc_din hu (pv 4) (pe_dget hu (pv 2) (pv 5) (fun _ _ => rfl))))))))))) (fun _ _ _ _ _ => (pv 5))) pa_nil)) (pg_sub (pv 3) (pv 4) set_list))))
      (pss_one (ps_ret (pv 3))))))), ?_⟩
    refine ⟨_, rfl, c, C, rfl, ⟨r, wd, ts, hC⟩, ok, fun u H1 s1 hu0 hU => ?_⟩
    have hC1 := hC.same s1
    refine ⟨_, rfl, u, rfl, ⟨_, .inl (.inl hU)⟩, fun d hd => ?_⟩
    have nud : u ≠ d := ne_of_none hU hd
    refine dc_it (walk_list (K := K) (a := u) (xs := (unw C).map vN)) (fun i H' => ∃ ds : List Addr, ds.length = i ∧ Kp [d] H1 H' ∧ H' d = some (.dK (dictOf ((unw C).take i) ds)) ∧ ∀ (j a : Nat) (e : Addr), (unw C)[j]? = some a → ds[j]? = some e → H' e = some (.dK (keysOf (metU C [a]))) ∧ e ≠ d)
      ⟨[], rfl, (fun b o n e => by rw [upd_ne (ne_of_none e hd)]; exact e), by rw [upd_same]; rfl, fun j a e _ z => by simp at z⟩
      (fun i H' _ ⟨_, _, k, _⟩ => .inl (.inl (k _ _ (by simp [nud]) hU))) ?_ ?_
    · rintro i x Hx H2 hi ⟨ds, el, k2, hD, each⟩ ⟨rfl, hx⟩
      obtain ⟨a, ha, rfl⟩ := get_map hx
      have ham := unw_mem.mp (List.mem_of_getElem? ha)
      refine ⟨rfl, ?_⟩
      refine ⟨_, rfl, ?_⟩
      have hl1 : Lists [d] H2 := by
        intro b hb
        rw [List.mem_singleton.mp hb]
        exact ⟨_, hD, (fun _ z => nomatch z), (fun _ _ z => nomatch z)⟩
      have hl0 : ∀ b ∈ [d], H1 b = none := by
        intro b hb
        rw [List.mem_singleton.mp hb]
        exact hd
      have s12 : Same H1 H2 := fun b o e => k2 b o (fun m => by rw [hl0 b m] at e; cases e) e
      refine ⟨_, rfl, _, rfl, (by show 1 ≤ sizeLine; decide), fun t ht => ?_⟩
      have s23 : Same H2 (upd H2 t (.tup [vN a])) := same_upd ht
      refine ⟨c, t, C, [a], rfl, ⟨r, wd, ts, (hC1.same s12).same s23⟩, ok, .inl (.inl upd_same), (fun b hb => by rw [List.mem_singleton.mp hb]; exact ham.1), (by show 1 ≤ 60; decide), fun g H3 s3 hg hG => ?_⟩
      have s3' : Same H2 H3 := s23.trans s3
      refine ⟨g, rfl, ⟨_, .inl (.inl hG)⟩, fun e he => ?_⟩
      have nge : g ≠ e := ne_of_none hG he
      have nde : d ≠ e := ne_of_none (s3' _ _ hD) he
      have mlen : (metU C [a]).length ≤ C.n := those_len _ _
      refine dc_it (walk_list (K := K) (a := g) (xs := (metU C [a]).map vN)) (fun j H' => Kp [e] H3 H' ∧ H' e = some (.dK (keysOf ((metU C [a]).take j))))
        ⟨fun b o n e1 => by rw [upd_ne (ne_of_none e1 he)]; exact e1, by rw [upd_same]; rfl⟩ (fun j H' _ ⟨k, _⟩ => .inl (.inl (k _ _ (by simp [nge]) hG))) ?_ ?_
      · rintro j y Hy H4 hj ⟨k4, hE⟩ ⟨rfl, hy⟩
        obtain ⟨b, hb, rfl⟩ := get_map hy
        have fresh : b ∉ (metU C [a]).take j := by
          intro m
          obtain ⟨j', hj', e1⟩ := List.getElem_of_mem m
          have lt : j' < j := by
            rw [List.length_take] at hj'
            omega
          have e2 : (metU C [a])[j']? = some b := by
            rw [← e1, List.getElem_take]
            exact List.getElem?_eq_getElem _
          have := up_get (those_up _ _) e2 hb lt
          omega
        refine ⟨rfl, ?_⟩
        refine ⟨_, rfl, _, Sum.inl (b : Int), rfl, hE, ?_, ?_, ?_⟩
        · rw [keysOf_len, List.length_take]
          exact small1000 (by omega)
        · intro x o n e1
          rw [upd_ne (fun z => n (by rw [z]; simp))]
          exact k4 x o n e1
        · rw [upd_same, keysOf_put _ _ fresh, take_more hb]
      · rintro H4 ⟨k4, hE⟩
        rw [List.take_of_length_le (by rw [List.length_map]; exact Nat.le_refl _)] at hE
        have s34 : Same H3 H4 := fun x o e1 => k4 x o (fun m => by rw [List.mem_singleton.mp m, he] at e1; cases e1) e1
        have hD4 : H4 d = some (.dK (dictOf ((unw C).take i) ds)) := s34 _ _ (s3' _ _ hD)
        have elT : ((unw C).take i).length = ds.length := by
          rw [List.length_take, el]
          have : i < (unw C).length := by rw [List.length_map] at hi; exact hi
          omega
        refine ⟨_, Sum.inl (a : Int), rfl, hD4, ?_, ds ++ [e], by rw [List.length_append, el]; rfl, ?_, ?_, ?_⟩
        · rw [dictOf_len _ _ elT, List.length_take]
          exact small1000 (by omega)
        · intro x o n e1
          rw [upd_ne (fun z => n (by rw [z]; simp))]
          exact s34 _ _ (s3' _ _ (s12 _ _ e1))
        · have fresh : a ∉ (unw C).take i := by
            intro m
            obtain ⟨j', hj', e1⟩ := List.getElem_of_mem m
            have lt : j' < i := by
              rw [List.length_take] at hj'
              omega
            have e2 : (unw C)[j']? = some a := by
              rw [← e1, List.getElem_take]
              exact List.getElem?_eq_getElem _
            have := up_get (unw_up C) e2 ha lt
            omega
          rw [upd_same, putK_new _ (dictOf_none _ _ _ fresh), take_more ha, dictOf_more _ _ _ _ elT]
        · intro j b m hb hm
          rw [List.getElem?_append] at hm
          by_cases hj : j < ds.length
          · rw [if_pos hj] at hm
            obtain ⟨e1, e2⟩ := each j b m hb hm
            exact ⟨by rw [upd_ne e2]; exact s34 _ _ (s3' _ _ e1), e2⟩
          · rw [if_neg hj] at hm
            have ej : j = i := by
              have := (List.getElem?_eq_some_iff.mp hm).1
              rw [List.length_singleton] at this
              omega
            subst ej
            have eb : b = a := Option.some.inj (hb.symm.trans ha)
            subst eb
            have em : m = e := by
              rw [el, Nat.sub_self] at hm
              exact (Option.some.inj hm).symm
            subst em
            exact ⟨by rw [upd_ne nde.symm]; exact hE, nde.symm⟩
    · rintro H2 ⟨ds, el, k2, hD, each⟩
      rw [List.length_map] at el
      rw [List.take_of_length_le (by rw [List.length_map]; exact Nat.le_refl _)] at hD
      have s12 : Same H1 H2 := fun b o e => k2 b o (fun m => by rw [List.mem_singleton.mp m, hd] at e; cases e) e
      have hU2 := s12 _ _ hU
      have hC2 := hC1.same s12
      refine ⟨_, rfl, _, _, _, _, rfl, rfl, hC2.top, rfl, _, rfl, by omega, by omega, fun tb htb => ?_⟩
      refine lc_range (lo := 0) (n := C.n) (fun i H' => ∃ rows : List Addr, rows.length = i ∧ Kp [tb] H2 H' ∧ H' tb = some (.lst (rows.map V.ref)) ∧ ∀ (x : Nat) (t : Addr), rows[x]? = some t → H' t = some (.tup [vN x]))
        ⟨[], rfl, (fun b o n e => by rw [upd_ne (ne_of_none e htb)]; exact e), upd_same, fun x t z => by simp at z⟩ ?_ ?_
      · rintro i H3 hi ⟨rows, er, k3, hT, each3⟩
        refine ⟨rfl, ?_⟩
        refine ⟨_, rfl, (by show 1 ≤ sizeLine; decide), fun t ht => ?_⟩
        have ntt : tb ≠ t := ne_of_none hT ht
        have e0 : (0 : Int) + (i : Nat) = (i : Nat) := by omega
        refine ⟨_, Eq.trans (upd_ne ntt) hT, by rw [List.length_map, er]; exact small1000 (by omega), rows ++ [t], by rw [List.length_append, er]; rfl, ?_, by rw [upd_same, List.map_append]; rfl, ?_⟩
        · intro b o n e
          have e3 := k3 b o n e
          rw [upd_ne (fun z => n (by rw [z]; simp)), upd_ne (ne_of_none e3 ht)]
          exact e3
        · intro x m hm
          rw [List.getElem?_append] at hm
          by_cases hj : x < rows.length
          · rw [if_pos hj] at hm
            have e1 := each3 x m hm
            have n1 : m ≠ tb := fun z => by rw [z, hT] at e1; cases e1
            rw [upd_ne n1, upd_ne (ne_of_none e1 ht)]
            exact e1
          · rw [if_neg hj] at hm
            have ej : x = i := by
              have := (List.getElem?_eq_some_iff.mp hm).1
              rw [List.length_singleton] at this
              omega
            subst ej
            have em : m = t := by
              rw [er, Nat.sub_self] at hm
              exact (Option.some.inj hm).symm
            subst em
            rw [upd_ne ntt.symm, upd_same, e0]
            rfl
      · rintro H3 ⟨rows, er, k3, hT, each3⟩
        have s23 : Same H2 H3 := fun b o e => k3 b o (fun m => by rw [List.mem_singleton.mp m, htb] at e; cases e) e
        have hU3 := s23 _ _ hU2
        have nut : u ≠ tb := ne_of_none hU2 htb
        refine ⟨_, rfl, u, rfl, ⟨_, .inl (.inl hU3)⟩, for_list (K := K) (xs := (unw C).map vN) (fun i σ H' => ∃ (rws : List Addr) (v4 v5 : Option V), σ = [some (.ref c), some (.ref u), some (.ref d), some (.ref tb), v4, v5] ∧ Kp [tb] H3 H' ∧ rws.length = C.n ∧ H' tb = some (.lst (rws.map V.ref)) ∧
            ∀ (x : Nat) (t : Addr), rws[x]? = some t → SqT K H' t ((if x ∈ C.wished ∨ x ∈ (unw C).take i then pieceOf C x else [x]).map vN)) ?_ (fun i σ H' _ ⟨_, _, _, _, k, _⟩ => .inl (.inl (k _ _ (by simp [nut]) hU3))) ?_ ?_⟩
        · refine ⟨rows, _, _, rfl, Kp.refl _ _, er, hT, fun x t hx => ?_⟩
          have := each3 x t hx
          rw [List.take_zero]
          have e : (if x ∈ C.wished ∨ x ∈ ([] : List Nat) then pieceOf C x else [x]) = [x] := by
            by_cases hw : x ∈ C.wished
            · rw [if_pos (.inl hw)]
              unfold pieceOf
              rw [if_pos hw]
            · rw [if_neg (by simp [hw])]
          rw [e]
          exact .inl (.inl this)
        · rintro i x σ H4 hx ⟨rws, v4, v5, rfl, k4, er4, hT4, each4⟩
          obtain ⟨a, ha, rfl⟩ := get_map hx
          have ham := unw_mem.mp (List.mem_of_getElem? ha)
          have hT3 : H3 tb = some (.lst (rows.map V.ref)) := hT
          have off : ∀ b o, H2 b = some o → H4 b = some o := fun b o e => k4 b o (by
            intro m
            rw [List.mem_singleton.mp m, htb] at e
            cases e) (s23 b o e)
          refine ⟨_, rfl, u, rfl, ⟨_, .inl (.inl (off _ _ hU2))⟩, fun e he => ?_⟩
          have keep5 : ∀ {H' : Hp}, Kp [e] H4 H' → ∀ b o, H4 b = some o → H' b = some o := fun {H'} k b o q => k b o (fun m => by rw [List.mem_singleton.mp m, he] at q; cases q) q
          refine lc_list (K := K) (xs := (unw C).map vN) (fun j H' => Kp [e] H4 H' ∧ H' e = some (.lst ((((unw C).take j).filter (fun b => decide (a = b) || (decide (b ∈ metU C [a]) && decide (a ∈ metU C [b])))).map vN)))
            ⟨fun b o n q => by rw [upd_ne (ne_of_none q he)]; exact q, upd_same⟩ (fun j H' _ ⟨k, _⟩ => .inl (.inl (keep5 k _ _ (off _ _ hU2)))) ?_ ?_
          · rintro j y H5 hy ⟨k5, hE⟩
            obtain ⟨b, hb, rfl⟩ := get_map hy
            have hbm := unw_mem.mp (List.mem_of_getElem? hb)
            have jl : j < (unw C).length := (List.getElem?_eq_some_iff.mp hb).1
            have il : i < (unw C).length := (List.getElem?_eq_some_iff.mp ha).1
            obtain ⟨da, hda⟩ : ∃ m, ds[i]? = some m := ⟨_, List.getElem?_eq_getElem (by rw [el]; exact il)⟩
            obtain ⟨db, hdb⟩ : ∃ m, ds[j]? = some m := ⟨_, List.getElem?_eq_getElem (by rw [el]; exact jl)⟩
            have hD5 : H5 d = some (.dK (dictOf (unw C) ds)) := keep5 k5 _ _ (off _ _ hD)
            have va := dictOf_val (unw C) ds i a da (up_nodup (unw_up C)) ha hda
            have vb := dictOf_val (unw C) ds j b db (up_nodup (unw_up C)) hb hdb
            have ea : H5 da = some (.dK (keysOf (metU C [a]))) := keep5 k5 _ _ (off _ _ (each i a da ha hda).1)
            have eb : H5 db = some (.dK (keysOf (metU C [b]))) := keep5 k5 _ _ (off _ _ (each j b db hb hdb).1)
            have more : Kp [e] H4 (upd H5 e (.lst ((((unw C).take j).filter (fun b => decide (a = b) || (decide (b ∈ metU C [a]) && decide (a ∈ metU C [b])))).map vN ++ [vN b]))) := by
              intro z o n q
              rw [upd_ne (fun y => n (by rw [y]; simp))]
              exact k5 z o n q
            have short : ((((unw C).take j).filter (fun b => decide (a = b) || (decide (b ∈ metU C [a]) && decide (a ∈ metU C [b])))).map vN).length < sizeLine := by
              rw [List.length_map]
              have h1 := List.length_filter_le (fun b => decide (a = b) || (decide (b ∈ metU C [a]) && decide (a ∈ metU C [b]))) ((unw C).take j)
              have h2 : ((unw C).take j).length ≤ (unw C).length := by rw [List.length_take]; omega
              exact small1000 (by omega)
            have yes : (decide (a = b) || (decide (b ∈ metU C [a]) && decide (a ∈ metU C [b]))) = true → Kp [e] H4 (upd H5 e (.lst ((((unw C).take j).filter (fun b => decide (a = b) || (decide (b ∈ metU C [a]) && decide (a ∈ metU C [b])))).map vN ++ [vN b]))) ∧
                (upd H5 e (.lst ((((unw C).take j).filter (fun b => decide (a = b) || (decide (b ∈ metU C [a]) && decide (a ∈ metU C [b])))).map vN ++ [vN b]))) e = some (.lst ((((unw C).take (j + 1)).filter (fun b => decide (a = b) || (decide (b ∈ metU C [a]) && decide (a ∈ metU C [b])))).map vN)) := by
              intro hc
              refine ⟨more, ?_⟩
              rw [upd_same, take_more hb, List.filter_append, List.filter_cons, hc, if_pos rfl, List.map_append]
              rfl
            have no : (decide (a = b) || (decide (b ∈ metU C [a]) && decide (a ∈ metU C [b]))) = false → Kp [e] H4 H5 ∧ H5 e = some (.lst ((((unw C).take (j + 1)).filter (fun b => decide (a = b) || (decide (b ∈ metU C [a]) && decide (a ∈ metU C [b])))).map vN)) := by
              intro hc
              refine ⟨k5, ?_⟩
              rw [hE, take_more hb, List.filter_append, List.filter_cons, hc, if_neg Bool.false_ne_true, List.filter_nil, List.append_nil]
            refine ⟨rfl, ?_⟩
            refine ⟨_, rfl, _, rfl, rfl, _, rfl, ?_⟩
            have e1 : decide (vN a = vN b) = decide (a = b) := by
              refine decide_eq_decide.mpr ⟨fun z => ?_, fun z => by rw [z]⟩
              have z' : (a : Int) = b := V.int.inj z
              omega
            rw [e1]
            by_cases hab : a = b
            · rw [decide_eq_true hab]
              refine iteT ?_
              exact ⟨_, rfl, _, hE, short, yes (by rw [decide_eq_true hab]; rfl)⟩
            · rw [decide_eq_false hab]
              refine iteF ?_
              have ga : DGet H5 d (vN a) (some (.ref da)) := by
                have z := DGet.k (k := Sum.inl (a : Int)) hD5
                rw [va] at z
                exact z
              have gb : DGet H5 d (vN b) (some (.ref db)) := by
                have z := DGet.k (k := Sum.inl (b : Int)) hD5
                rw [vb] at z
                exact z
              refine ⟨_, rfl, _, rfl, _, rfl, d, _, rfl, ga, da, _, rfl, DGet.k (k := Sum.inl (b : Int)) ea, _, rfl, ?_⟩
              rw [keysOf_val]
              by_cases h1 : b ∈ metU C [a]
              · rw [if_pos h1]
                refine iteT ?_
                refine ⟨_, rfl, _, rfl, _, rfl, d, _, rfl, gb, db, _, rfl, DGet.k (k := Sum.inl (a : Int)) eb, _, rfl, ?_⟩
                rw [keysOf_val]
                by_cases h2 : a ∈ metU C [b]
                · rw [if_pos h2]
                  refine iteT ?_
                  exact ⟨_, rfl, _, hE, short, yes (by rw [decide_eq_true h1, decide_eq_true h2]; simp)⟩
                · rw [if_neg h2]
                  refine iteF ?_
                  exact no (by rw [decide_eq_false hab, decide_eq_false h2]; simp)
              · rw [if_neg h1]
                refine iteF ?_
                refine iteF ?_
                exact no (by rw [decide_eq_false hab, decide_eq_false h1]; simp)
          · rintro H5 ⟨k5, hE⟩
            rw [List.take_of_length_le (by rw [List.length_map]; exact Nat.le_refl _), piece_filter ham.1 ham.2] at hE
            refine ⟨e, _, rfl, .inl ⟨.inl (.inl hE), fun tp htp => ?_⟩⟩
            have kT := keep5 k5 _ _ hT4
            have ntp : tb ≠ tp := ne_of_none kT htp
            have hix : ixN ((rws.map V.ref)).length (a : Int) = some a := by
              unfold ixN
              rw [if_pos (by omega), if_pos (by rw [List.length_map, er4]; exact_mod_cast ham.1)]
              rfl
            refine ⟨_, rfl, _, rfl, tb, _, _, a, rfl, rfl, Eq.trans (upd_ne ntp) kT, hix, ?_⟩
            refine ⟨rws.set a tp, _, _, rfl, ?_, by rw [List.length_set]; exact er4, by rw [upd_same, List.map_set], fun x t hxt => ?_⟩
            · intro b o n q
              have q5 := keep5 k5 _ _ (k4 b o n q)
              rw [upd_ne (fun y => n (by rw [y]; simp)), upd_ne (ne_of_none q5 htp)]
              exact q5
            · rw [List.getElem?_set] at hxt
              by_cases hxa : a = x
              · subst hxa
                rw [if_pos rfl, er4, if_pos ham.1] at hxt
                have et : t = tp := (Option.some.inj hxt).symm
                subst et
                rw [if_pos (.inr (by rw [take_more ha]; simp))]
                refine .inl (.inl ?_)
                rw [upd_ne ntp.symm, upd_same]
              · rw [if_neg hxa] at hxt
                have old := each4 x t hxt
                have ex : (if x ∈ C.wished ∨ x ∈ (unw C).take (i + 1) then pieceOf C x else [x]) = (if x ∈ C.wished ∨ x ∈ (unw C).take i then pieceOf C x else [x]) := by
                  rw [take_more ha]
                  simp only [List.mem_append, List.mem_singleton, fun z : x = a => hxa z.symm, or_false]
                  have nx : ¬ (x = a) := fun z => hxa z.symm
                  simp [nx]
                rw [ex]
                have kk : Kp [tb] H4 (upd (upd H5 tp (.tup ((pieceOf C a).map vN))) tb (.lst ((rws.map V.ref).set a (.ref tp)))) := by
                  intro b o n q
                  have q5 := keep5 k5 _ _ q
                  rw [upd_ne (fun y => n (by rw [y]; simp)), upd_ne (ne_of_none q5 htp)]
                  exact q5
                refine kk.sqT (fun b hb => ?_) old
                rw [List.mem_singleton.mp hb]
                exact ⟨_, hT4, (fun _ z => nomatch z), (fun _ _ z => nomatch z)⟩
        · rintro σ H4 ⟨rws, v4, v5, rfl, k4, er4, hT4, each4⟩
          rw [List.take_of_length_le (by rw [List.length_map]; exact Nat.le_refl _)] at each4
          have all : Same H2 H4 := fun b o e => k4 b o (fun m => by rw [List.mem_singleton.mp m, htb] at e; cases e) (s23 b o e)
          refine ⟨_, rfl, q tb rws H4 (fun b o e => all b o (s12 b o (s1 b o e))) (s1.free (s12.free htb)) hT4 ⟨er4, fun x t hxt => ?_⟩⟩
          have hx := each4 x t hxt
          have hxn : x < C.n := by rw [← er4]; exact (List.getElem?_eq_some_iff.mp hxt).1
          rw [if_pos] at hx
          · exact hx
          · by_cases hw : x ∈ C.wished
            · exact .inl hw
            · exact .inr (unw_mem.mpr ⟨hxn, hw⟩)
end
end Ft

set_option Elab.async false
set_option linter.all false
set_option maxRecDepth 100000
set_option maxHeartbeats 4000000
namespace Ft
open PySem PySem.Spec PyProof.Rows L2
/-- any walk within a block, its turns by an invariant -/
theorem by_turns {J : It} {n : Nat} {G : Hp → Prop} {Y : Nat → Hp → V → Hp → Prop} (w : L2.Walk J n G Y) {Bd : (Hp → Prop) → V → Hp → Prop} {H0 : Hp} {Qd : Hp → Prop} (Pv : Nat → Hp → Prop) (h0 : Pv 0 H0) (hG : ∀ i H, i ≤ n → Pv i H → G H)
    (hs : ∀ i x H H', i < n → Pv i H → Y i H x H' → Bd (Pv (i + 1)) x H') (hd : ∀ H, Pv n H → Qd H) :
    ∃ W : Nat → Nat → Hp → Prop, (∃ m, W 0 m H0) ∧ ∀ i m H, W i m H → (J.stop i H ∧ Qd H) ∨ (J.go i H ∧ ∃ Nx : Hp → Prop, (∀ H', Nx H' → ∃ m', m' < m ∧ W (i + 1) m' H') ∧ ∀ x H', J.yld i H x H' → Bd Nx x H') := by
  refine ⟨fun i m H => m = n - i ∧ i ≤ n ∧ Pv i H, ⟨n, rfl, Nat.zero_le _, h0⟩, fun i m H ⟨em, hi, p⟩ => ?_⟩
  subst em
  have g := hG i H hi p
  by_cases lt : i < n
  · exact .inr ⟨w.goes i H lt g, Pv (i + 1), fun H' p' => ⟨n - (i + 1), by omega, rfl, lt, p'⟩, fun x H' y => hs i x H H' lt p (w.yields i H x H' lt g y)⟩
  · have e : i = n := by omega
    subst e
    exact .inl ⟨w.stops H g, hd H p⟩
/-- a if c else b, as a test -/
def tCond (tc ta tb : TT) : TT := fun σ H Q => tc σ H fun z H1 => if z = true then ta σ H1 Q else tb σ H1 Q
theorem pt_cond {X : Cx} {c a b : Expr} {pos : Pos} {tc ta tb : TT} (hc : PT X c tc) (ha : PT X a ta) (hb : PT X b tb) : PT X (.IfExp c a b pos) (tCond tc ta tb) := by
  refine ⟨fun pins s σ H Q I h => isTrue_IfExp (thn (hc.run pins s σ H _ I h) fun z s1 ⟨H1, I1, q1⟩ => ?_)⟩
  cases z with
  | true => exact ha.run pins s1 σ H1 Q I1 q1
  | false => exact hb.run pins s1 σ H1 Q I1 q1
end Ft

set_option Elab.async false
set_option linter.all false
set_option maxRecDepth 100000
set_option maxHeartbeats 4000000
/-! a set of ints by two clauses -/
namespace Ft
open PySem PySem.Spec PyProof.Rows L2
abbrev twoSet (el ta ia tb ib : Expr) (ca cb : List Expr) (sco : Scope) (at_ : Pos) : Expr := .SetComp el [⟨ta, ia, ca, 0⟩, ⟨tb, ib, cb, 0⟩] sco at_
section
variable {G : Program} {w : World} {A : Around} {Z : Result → Shared → Prop} {el ta ia tb ib : Expr} {ca cb : List Expr} {sco : Scope} {at_ : Pos} {o d : Value} {ev : Env}
/-- the tests of a clause, until one fails -/
abbrev tests (cs : List Expr) (ev : Env) : Sem Bool := forIn cs true fun c r => if r = true then (isTrue c ev (eval c ev) >>= fun z => pure (ForInStep.yield z)) else pure (ForInStep.yield r)
theorem turn_a : compTurn (twoSet el ta ia tb ib ca cb sco at_) 0 o d ev = (standAt ia.pos >>= fun _ => pyNext o >>= fun (n : Option Value) => match n with
    | none => pure (.done .next)
    | some v => letOwnedTupleGo ta o v >>= fun _ => assign ta ev v >>= fun _ => tests ca ev >>= fun z =>
      if z = true then (eval ib ev >>= fun y => standAt ib.pos >>= fun _ => foldedSetIterable ib ev y >>= fun y => holding [y] (pyIter y) >>= fun t => runOwn (.compStart (twoSet el ta ia tb ib ca cb sco at_) 1 t d ev) ev >>= fun _ => again (.compLoop (twoSet el ta ia tb ib ca cb sco at_) 0 o d ev))
      else again (.compLoop (twoSet el ta ia tb ib ca cb sco at_) 0 o d ev)) := by rfl
theorem turn_b : compTurn (twoSet el ta ia tb ib ca cb sco at_) 1 o d ev = (standAt ib.pos >>= fun _ => pyNext o >>= fun (n : Option Value) => match n with
    | none => pure (.done .next)
    | some v => letOwnedTupleGo tb o v >>= fun _ => assign tb ev v >>= fun _ => tests cb ev >>= fun z =>
      if z = true then ((eval el ev >>= fun y => standAt el.pos >>= fun _ => call (.builtin "set.add") [d, y] >>= fun _ => pure ()) >>= fun _ => again (.compLoop (twoSet el ta ia tb ib ca cb sco at_) 1 o d ev))
      else again (.compLoop (twoSet el ta ia tb ib ca cb sco at_) 1 o d ev)) := by rfl
/-- what a raised thing asks -/
abbrev out_ (G : Program) (w : World) (A : Around) (ev : Env) (Z : Result → Shared → Prop) : Value → Shared → Prop := notedBy (model G w) A ev fun x t => Z (.error x) t
theorem loop_b {s : Shared} (I : Nat → Shared → Prop)
    (step : ∀ k s, I k s → wpAny (model G w) A (pyNext o) (fun n s1 => match n with
      | none => Z (.ok .next) s1
      | some v => wpAny (model G w) A (letOwnedTupleGo tb o v) (fun _ s2 => wpAny (model G w) A (assign tb ev v) (fun _ s3 => wpAny (model G w) A (tests cb ev) (fun z s4 =>
          if z = true then wpAny (model G w) A (eval el ev) (fun y s5 => wpAny (model G w) A (call (.builtin "set.add") [d, y]) (fun _ s6 => ∃ j, j < k ∧ I j s6) (out_ G w A ev Z) s5) (out_ G w A ev Z) s4
          else ∃ j, j < k ∧ I j s4) (out_ G w A ev Z) s3) (out_ G w A ev Z) s2) (out_ G w A ev Z) s1) (out_ G w A ev Z) s)
    (k : Nat) (h : I k s) : codeAny (model G w) A (.compLoop (twoSet el ta ia tb ib ca cb sco at_) 1 o d ev) Z s := by
  refine codeAny_loop rfl I (fun k s hI => ?_) k h
  show wpAny _ A ((compTurn (twoSet el ta ia tb ib ca cb sco at_) 1 o d ev).onRaise (fun x => noteFrame x ev >>= fun _ => theTreesLotGoes x)) _ _ s
  refine wpAny_noted ?_
  rw [turn_b]
  refine wpAny_bind (wpAny_standAt (wpAny_bind (wpAny_mono (step k s hI) (fun n s1 q1 => ?_) fun _ _ x => x)))
  cases n with
  | none => exact wpAny_pure q1
  | some v =>
    refine wpAny_bind (wpAny_mono q1 (fun _ s2 q2 => wpAny_bind (wpAny_mono q2 (fun _ s3 q3 => wpAny_bind (wpAny_mono q3 (fun z s4 q4 => ?_) fun _ _ x => x)) fun _ _ x => x)) fun _ _ x => x)
    cases z with
    | false => exact wpAny_pure ⟨rfl, q4⟩
    | true => exact wpAny_bind (wpAny_bind (wpAny_mono q4 (fun y s5 q5 => wpAny_bind (wpAny_standAt (wpAny_bind (wpAny_mono q5 (fun _ s6 q6 => wpAny_pure (wpAny_pure ⟨rfl, q6⟩)) fun _ _ x => x)))) fun _ _ x => x))
theorem loop_a {s : Shared} (same : ∀ y, foldedSetIterable ib ev y = pure y) (I : Nat → Shared → Prop)
    (step : ∀ k s, I k s → wpAny (model G w) A (pyNext o) (fun n s1 => match n with
      | none => Z (.ok .next) s1
      | some v => wpAny (model G w) A (letOwnedTupleGo ta o v) (fun _ s2 => wpAny (model G w) A (assign ta ev v) (fun _ s3 => wpAny (model G w) A (tests ca ev) (fun z s4 =>
          if z = true then wpAny (model G w) A (eval ib ev) (fun y s5 => wpAny (model G w) A (pyIter y) (fun t s6 => codeAny (model G w) A (.compStart (twoSet el ta ia tb ib ca cb sco at_) 1 t d ev) (fun r s7 => match r with
            | .ok _ => ∃ j, j < k ∧ I j s7
            | .error _ => False) s6) (out_ G w A ev Z) s5) (out_ G w A ev Z) s4
          else ∃ j, j < k ∧ I j s4) (out_ G w A ev Z) s3) (out_ G w A ev Z) s2) (out_ G w A ev Z) s1) (out_ G w A ev Z) s)
    (k : Nat) (h : I k s) : codeAny (model G w) A (.compLoop (twoSet el ta ia tb ib ca cb sco at_) 0 o d ev) Z s := by
  refine codeAny_loop rfl I (fun k s hI => ?_) k h
  show wpAny _ A ((compTurn (twoSet el ta ia tb ib ca cb sco at_) 0 o d ev).onRaise (fun x => noteFrame x ev >>= fun _ => theTreesLotGoes x)) _ _ s
  refine wpAny_noted ?_
  rw [turn_a]
  refine wpAny_bind (wpAny_standAt (wpAny_bind (wpAny_mono (step k s hI) (fun n s1 q1 => ?_) fun _ _ x => x)))
  cases n with
  | none => exact wpAny_pure q1
  | some v =>
    refine wpAny_bind (wpAny_mono q1 (fun _ s2 q2 => wpAny_bind (wpAny_mono q2 (fun _ s3 q3 => wpAny_bind (wpAny_mono q3 (fun z s4 q4 => ?_) fun _ _ x => x)) fun _ _ x => x)) fun _ _ x => x)
    cases z with
    | false => exact wpAny_pure ⟨rfl, q4⟩
    | true =>
      refine wpAny_bind (wpAny_mono q4 (fun y s5 q5 => wpAny_bind (wpAny_standAt (wpAny_bind (wpAny_of_eq (same y) (wpAny_bind (wpAny_holding (wpAny_mono q5 (fun t s6 q6 => wpAny_bind (wpAny_runOwn ?_)) fun _ _ x => x)))))))  fun _ _ x => x)
      rw [Around.mark_none]
      refine codeAny_mono q6 fun r s7 q7 => ?_
      cases r with
      | error _ => exact q7.elim
      | ok _ =>
        first
          | exact wpAny_pure ⟨rfl, q7⟩
          | exact wpAny_bind (wpAny_pure (wpAny_pure ⟨rfl, q7⟩))
theorem start_b {s : Shared} (go : codeAny (model G w) A (.compLoop (twoSet el ta ia tb ib ca cb sco at_) 1 o d ev) Z s)
    (go2 : wpAny (model G w) A (pyIter o) (fun t s1 => codeAny (model G w) A (.compLoop (twoSet el ta ia tb ib ca cb sco at_) 1 t d ev) Z s1) (out_ G w A ev Z) s) :
    codeAny (model G w) A (.compStart (twoSet el ta ia tb ib ca cb sco at_) 1 o d ev) Z s := by
  refine codeAny_of_tree ?_
  show wpAny _ _ ((compStart (twoSet el ta ia tb ib ca cb sco at_) 1 o d ev).onRaise (fun x => noteFrame x ev >>= fun _ => standAt theWindowsPlace)) _ _ s
  refine wpAny_notedAt ?_
  unfold compStart
  show wpAny _ _ (ask >>= _) _ _ s
  refine wpAny_bind (wpAny_askSetting (wpAny_ite ?_))
  split
  case isTrue =>
    first
      | exact wpAny_pure (And.intro rfl go)
      | exact wpAny_bind (wpAny_pure (wpAny_pure (And.intro rfl go)))
  case isFalse =>
    refine wpAny_bind (wpAny_rule (wpAny_bind ?_))
    show wpAny _ _ (standAt ib.pos) _ _ s
    exact wpAny_standAt (wpAny_bind (wpAny_mono go2 (fun t s1 q => wpAny_pure (And.intro rfl q)) fun _ _ x => x))
end
end Ft

set_option Elab.async false
set_option linter.all false
set_option maxRecDepth 100000
set_option maxHeartbeats 4000000
namespace Ft
open PySem PySem.Spec PyProof.Rows L2
theorem put_ok {X : Cx} {pins : List (Addr × Obj)} {σ : L2.St} {H : Hp} {s : Shared} {E : Value → Shared → Prop} {D : Addr} {S : Int → Bool} {n : Nat} {k : Int} {tk : Tok} {Q : Value → Shared → Prop} (I : Inv X pins σ H s) (hD : H D = some (SetO X.w D S n)) (room : n + 1 < scanBound)
    (go : ∀ t, Inv X pins σ (upd H D (SetO X.w D (fun j => S j || decide (j = k)) (if S k = true then n else n + 1))) t → Q .none t) : wpAny (model X.prog X.w) X.A (call (.builtin "set.add") [.ref D, .int k tk]) Q E s := by
  refine setR_add (setO_get I hD) room fun h' sb new => go _ ?_
  obtain ⟨u, _, _, _, hu, _⟩ := id new
  exact I.write (e := D) (t' := s.toks + 1) (by rw [hD]; trivial) (.inl rfl) (fun b x hb hx => (sb.2 b hb).trans hx) ⟨u, hu⟩ (setO_new new)
/-- {el for ta in ia if .. for tb in ib if ..}, ints: D the new set -/
def tSet2 (w : World) (wi : TI) (ga : TG) (tca : TT) (wj : TI) (gb : TG) (tcb : TT) (te : TE) (all inn : List Nat) : TE := fun σ H Q => wi σ H fun J Ha => ∀ D, Ha D = none → ∃ W : Nat → Nat → Hp → Prop, (∃ m, W 0 m (upd Ha D (SetO w D (fun _ => false) 0))) ∧ ∀ i m Hb, W i m Hb →
  (J.stop i Hb ∧ Q (.ref D) Hb) ∨ (J.go i Hb ∧ ∃ N : Hp → Prop, (∀ Hc, N Hc → ∃ m', m' < m ∧ W (i + 1) m' Hc) ∧ ∀ x Hc, J.yld i Hb x Hc → ga x (wipe σ all) Hc fun σa Hd => wipe σa all = wipe σ all ∧ tca σa Hd fun z He =>
    if z = true then wj σa He fun K1 Hf => ∃ U : Nat → Nat → Hp → Prop, (∃ m, U 0 m Hf) ∧ ∀ j k Hg, U j k Hg →
      (K1.stop j Hg ∧ N Hg) ∨ (K1.go j Hg ∧ ∃ M : Hp → Prop, (∀ Hh, M Hh → ∃ k', k' < k ∧ U (j + 1) k' Hh) ∧ ∀ y Hh, K1.yld j Hg y Hh → gb y (wipe σa inn) Hh fun σb Hi => wipe σb inn = wipe σa inn ∧ tcb σb Hi fun z Hj =>
        if z = true then te σb Hj fun v Hk => ∃ (c : Int) (S : Int → Bool) (n : Nat), v = .int c ∧ Hk D = some (SetO w D S n) ∧ n + 1 < scanBound ∧ M (upd Hk D (SetO w D (fun j => S j || decide (j = c)) (if S c = true then n else n + 1))) else M Hj)
    else N He)
section
variable {X : Cx}
abbrev InBlk (X : Cx) (sco : Scope) (P : Cx → Prop) : Prop := ∀ (s : Shared) (H : Hp) (C : Addr) (cl : List (Str × Addr)) (fp : List Addr), P (X.blk s H sco (compEnvC sco cl C X.env) fp)
theorem set2_core {pins : List (Addr × Obj)} {s : Shared} {σ : L2.St} {H : Hp} {Q : VK} {el ta ia tb ib : Expr} {ca cb : List Expr} {sco : Scope} {own : List (Str × Nat)} {inn : List Nat} {at_ at2 : Pos} {wi wj : TI} {ga gb : TG} {tca tcb : TT} {te : TE} {use : Option (Value → Sem Unit)} {Qf : Value → Shared → Prop}
    (calm : X.calm = true) (nd : X.N.Nodup) (I : Inv X pins σ H s) (pi : PI X ta ia wi) (ok : BlkOk X.N X.env.scope sco own) (sub : ∀ i ∈ inn, i ∈ own.map (·.2)) (pga : InBlk X sco fun Y => PG Y ta ga) (pta : InBlk X sco fun Y => PTs Y ca tca) (pib : InBlk X sco fun Y => PI Y tb ib wj) (pgb : InBlk X sco fun Y => PG Y tb gb) (ptb : InBlk X sco fun Y => PTs Y cb tcb)
    (pel : InBlk X sco fun Y => PE Y el te) (fa : ∀ x, foldedSetIterable ia X.env x = pure x) (fb : ∀ env x, foldedSetIterable ib env x = pure x) (h : tSet2 X.w wi ga tca wj gb tcb te (own.map (·.2)) inn σ H Q)
    (back : ∀ D C t m Ht, Inv X pins σ Ht t → Q (.ref D) Ht → t.heap.Ns C m → FpOk X pins Ht C → compPost (model X.prog X.w) X.A X.xe use Qf (.ref D) C (.ok .next) t) :
    wpAny (model X.prog X.w) X.A (comprehension (twoSet el ta ia tb ib ca cb sco at_) sco X.env at2 (newSet (.type "set")) false (eval ia X.env) use) Qf X.xe s := by
  have cells : ∀ y ∈ sco.names, y.2 = .free → ∃ c, X.env.cells.lookup y.1 = some c := fun y hy e => (ok.free y hy e).elim (fun k => I.ok.has _ (.inl k)) (fun k => I.ok.has _ (.inr k))
  refine wpAny_comprehension_free (use := use) rfl fa (closure_ok cells) ok.kind (fun y hy e => by rw [ok.uniq y hy, e]) (thn (pi.run pins s σ H _ I h) fun xv s1 hx => thn hx fun itv s2 h2 => ?_)
  obtain ⟨it, fp, tn, J, Ha, e, Ia, T, sta, fpa, q⟩ := h2
  subst e
  refine PpSet.newSet_ok (newEnv_comp ?_)
  obtain ⟨D, eD⟩ : ∃ D, s2.heap.objs.size = D := ⟨_, rfl⟩
  have free : Ha D = none := Ia.hok.fresh (Nat.le_of_eq eD)
  obtain ⟨W, ⟨m0, w0⟩, turn⟩ := q D free
  obtain ⟨s3, es3⟩ : ∃ s3 : Shared, ({ s2 with heap := s2.heap.push { cls := .type "set", dict := none, data := .set #[] 0 (.fresh 0 0 (!X.w.params.followText "set-order")) } } : Shared) = s3 := ⟨_, rfl⟩
  have I3 : Inv X pins σ (upd Ha D (SetO X.w D (fun _ => false) 0)) s3 := by
    subst es3 eD
    exact Ia.laid (t' := s2.toks) (fun b o e => Heap.get?_push_of_some _ e) (Nat.le_refl _) (setO_new (setR_fresh X.w))
  have push3 : s3.heap = s2.heap.push { cls := .type "set", dict := none, data := .set #[] 0 (.fresh 0 0 (!X.w.params.followText "set-order")) } := by rw [← es3]
  have below : ∀ b ∈ fp, b < s2.heap.objs.size := fun b hb => by
    obtain ⟨_, e, _⟩ := T.obj _ _ sta b hb
    exact Heap.lt_size e
  have fp3 : ∀ b ∈ fp, FpOk X pins (upd Ha D (SetO X.w D (fun _ => false) 0)) b ∧ b < s3.heap.objs.size := fun b hb => by
    have lt := below b hb
    refine ⟨⟨by rw [upd_ne (by rw [← eD]; exact Nat.ne_of_lt lt)]; exact (fpa b hb).1, (fpa b hb).2⟩, ?_⟩
    rw [push3, Heap.size_push]
    exact Nat.lt_succ_of_lt lt
  have st3 : tn 0 s3.heap := T.keep _ _ _ sta fun b _ o e => by rw [push3]; exact Heap.get?_push_of_some _ e
  have I4 := block_start I3 ok nd fp3
  obtain ⟨cl, ecl⟩ : ∃ cl, cellsFrom (s3.heap.objs.size + 1) sco.names (cloFrom X.env.cells sco.names []) = cl := ⟨_, rfl⟩
  rw [ecl] at I4
  have pga := pga s3 (upd Ha D (SetO X.w D (fun _ => false) 0)) s3.heap.objs.size cl fp
  have pta := pta s3 (upd Ha D (SetO X.w D (fun _ => false) 0)) s3.heap.objs.size cl fp
  have pib := pib s3 (upd Ha D (SetO X.w D (fun _ => false) 0)) s3.heap.objs.size cl fp
  have pgb := pgb s3 (upd Ha D (SetO X.w D (fun _ => false) 0)) s3.heap.objs.size cl fp
  have ptb := ptb s3 (upd Ha D (SetO X.w D (fun _ => false) 0)) s3.heap.objs.size cl fp
  have pel := pel s3 (upd Ha D (SetO X.w D (fun _ => false) 0)) s3.heap.objs.size cl fp
  have none3 : ∀ b ∈ fp, (upd Ha D (SetO X.w D (fun _ => false) 0)) b = none := fun b hb => (fp3 b hb).1.1
  rw [eD, es3, ecl]
  obtain ⟨ev, eev⟩ : ∃ ev, compEnvC sco cl s3.heap.objs.size X.env = ev := ⟨_, rfl⟩
  have loc : ev.locals = s3.heap.objs.size := by
    subst eev
    rfl
  rw [eev] at I4 pga pta pib pgb ptb pel
  obtain ⟨H3, eH3⟩ : ∃ H3, upd Ha D (SetO X.w D (fun _ => false) 0) = H3 := ⟨_, rfl⟩
  rw [eH3] at I3 I4 pga pta pib pgb ptb pel w0 none3 fp3
  obtain ⟨s4, es4⟩ : ∃ s4 : Shared, ({ s3 with heap := pushCells (s3.heap.push { cls := .type "dict", data := .dict #[] }) sco.names } : Shared) = s4 := ⟨_, rfl⟩
  rw [es4] at I4
  have st4 : tn 0 s4.heap := T.keep _ _ _ st3 fun b _ o e => by rw [← es4]; exact pushCells_keeps _ _ _ _ (Heap.get?_push_of_some _ e)
  have calmF : ∀ {σt : L2.St} {Ht : Hp} {t : Shared}, Inv (X.blk s3 H3 sco ev fp) [] σt Ht t → (∀ b ∈ fp, Ht b = none) → ∀ b ∈ fp, FpOk (X.blk s3 H3 sco ev fp) [] Ht b := by
    intro σt Ht t It none b hb
    refine ⟨none b hb, (It.ok.exf b hb).1, It.ok.exfs b hb, .inl hb, (fun x c e => (It.ok.exf b hb).2 x c e), fun p hp => ?_⟩
    have : p ∈ ([] : List (Addr × Obj)) ++ [] := hp
    simp at this
  suffices z : codeAny (model X.prog X.w) X.A (.compStart (twoSet el ta ia tb ib ca cb sco at_) 0 (.ref it) (.ref D) ev) (compPost (model X.prog X.w) X.A X.xe use Qf (.ref D) s3.heap.objs.size) s4 by
    rw [← es4, ← eev] at z
    exact z
  obtain ⟨vs, evs⟩ : ∃ vs, own.map (·.2) = vs := ⟨_, rfl⟩
  rw [evs] at turn sub I4
  have loop : codeAny (model X.prog X.w) X.A (.compLoop (twoSet el ta ia tb ib ca cb sco at_) 0 (.ref it) (.ref D) ev) (compPost (model X.prog X.w) X.A X.xe use Qf (.ref D) s3.heap.objs.size) s4 := by
    refine loop_a (fb ev) (fun k t => ∃ i Ht, Inv (X.blk s3 H3 sco ev fp) [] (wipe σ vs) Ht t ∧ tn i t.heap ∧ (∀ b ∈ fp, Ht b = none) ∧ W i k Ht) ?_ m0 ⟨0, H3, I4, st4, none3, w0⟩
    rintro k s5 ⟨i, H5, I5, st5, n5, w5⟩
    rcases turn i k H5 w5 with ⟨stop, over⟩ | ⟨go, N, less, step⟩
    · refine thnF (T.done (X.blk s3 H3 sco ev fp) rfl rfl rfl calm i [] s5 _ H5 (fun _ _ => False) I5 (calmF I5 n5) st5 stop) fun r s6 ⟨er, I6⟩ => ?_
      subst er
      have I7 : Inv X pins σ H5 s6 := I3.call' (ch := fp) I6.os I6.base I6.hok I6.bare fun b hb => by
        obtain ⟨⟨_, f1, f2, f3, f4, f5⟩, _⟩ := fp3 b hb
        exact ⟨f3, f1, f4, f5⟩
      have freeC : H5 s3.heap.objs.size = none := by
        rw [← loc]
        exact I6.free
      obtain ⟨m, hm, _⟩ := I6.loc
      have hm : s6.heap.Ns ev.locals m := hm
      rw [loc] at hm
      exact back D s3.heap.objs.size s6 m H5 I7 over hm (I3.fpOk (Nat.le_refl _) freeC)
    · refine thnF (T.item (X.blk s3 H3 sco ev fp) rfl rfl rfl calm i [] s5 _ H5 (fun _ _ => False) I5 (calmF I5 n5) st5 go) fun r s6 ⟨u, er, h6⟩ => ?_
      subst er
      refine thnF h6 fun _ s7 ⟨x, H7, I7, r7, y7, st7, n7⟩ => ?_
      have I7p := I7.pinned (calmF I7 n7) (T.obj _ _ st7)
      refine thnF (pga.run _ s7 _ H7 x u _ I7p r7 (step x H7 y7)) fun _ s8 ⟨σ8, H8, I8, w8, q8⟩ => thnF (pta.run _ s8 σ8 H8 _ I8 q8) fun z s9 ⟨H9, I9, q9⟩ => ?_
      have len8 : (wipe σ vs).length = σ8.length := by rw [← w8, wipe_length]
      have know8 : ∀ (j : Nat) v, (wipe σ vs)[j]? = some (some v) → σ8[j]? = some (some v) := fun j v e => by
        rw [← w8] at e
        exact (wipe_some e).1
      have knowIn : ∀ (j : Nat) v, (wipe σ vs)[j]? = some (some v) → (wipe σ8 inn)[j]? = some (some v) := fun j v e => by
        rw [← w8] at e
        obtain ⟨e1, off⟩ := wipe_some e
        rw [wipe_out fun z => off (sub j z)]
        exact e1
      have fin : ∀ {σt : L2.St} {t : Shared} {Ht : Hp}, Inv (X.blk s3 H3 sco ev fp) ([] ++ pinsAt fp s7.heap) σt Ht t → (wipe σ vs).length = σt.length → (∀ (j : Nat) v, (wipe σ vs)[j]? = some (some v) → σt[j]? = some (some v)) → N Ht → ∃ m, m < k ∧ ∃ i Hu, Inv (X.blk s3 H3 sco ev fp) [] (wipe σ vs) Hu t ∧ tn i t.heap ∧ (∀ b ∈ fp, Hu b = none) ∧ W i m Hu := by
        intro σt t Ht It hlen hknow hN
        obtain ⟨m, lt, wm⟩ := less Ht hN
        have pinned : ∀ b ∈ fp, ∀ o, s7.heap.get? b = some o → t.heap.get? b = some o ∧ Ht b = none := fun b hb o e => by
          have z := It.pin (b, o) (List.mem_append_right _ (List.mem_append_right _ (mem_pinsAt hb e)))
          exact ⟨z.1, z.2.1⟩
        refine ⟨m, lt, i + 1, Ht, (It.unpinned (pins := [])).weak hlen hknow, T.keep _ _ _ st7 fun b hb o e => (pinned b hb o e).1, fun b hb => ?_, wm⟩
        obtain ⟨o, e, _⟩ := T.obj _ _ st7 b hb
        exact (pinned b hb o e).2
      cases z with
      | false =>
        simp only [Bool.false_eq_true, if_false] at q9 ⊢
        exact fin I9 len8 know8 q9
      | true =>
        simp only [if_true] at q9 ⊢
        refine thnF (pib.run _ s9 σ8 H9 _ I9 q9) fun xv s10 hx => thnF hx fun itv s11 h11 => ?_
        obtain ⟨it1, fp1, tn1, K1, Hf, ee, If, T1, stf, fpf, U, ⟨m1, u0⟩, turn1⟩ := h11
        subst ee
        have calmG : ∀ {Ht : Hp}, (∀ b ∈ fp1, Ht b = none) → ∀ b ∈ fp1, FpOk (X.blk s3 H3 sco ev fp) ([] ++ pinsAt fp s7.heap) Ht b := fun none b hb => ⟨none b hb, (fpf b hb).2⟩
        have inner : codeAny (model X.prog X.w) X.A (.compLoop (twoSet el ta ia tb ib ca cb sco at_) 1 (.ref it1) (.ref D) ev) (fun r t => match r with
            | .ok _ => ∃ m, m < k ∧ ∃ i Hu, Inv (X.blk s3 H3 sco ev fp) [] (wipe σ vs) Hu t ∧ tn i t.heap ∧ (∀ b ∈ fp, Hu b = none) ∧ W i m Hu
            | .error _ => False) s11 := by
          refine loop_b (fun kk t => ∃ j Ht, Inv (X.blk s3 H3 sco ev fp) ([] ++ pinsAt fp s7.heap) (wipe σ8 inn) Ht t ∧ tn1 j t.heap ∧ (∀ b ∈ fp1, Ht b = none) ∧ U j kk Ht) ?_ m1 ⟨0, Hf, If.weak (wipe_length _ _) (fun j v e => (wipe_some e).1), stf, (fun b hb => (fpf b hb).1), u0⟩
          rintro kk s12 ⟨j, H12, I12, st12, n12, u12⟩
          rcases turn1 j kk H12 u12 with ⟨stop1, over1⟩ | ⟨go1, M, less1, step1⟩
          · refine thnF (T1.done (X.blk s3 H3 sco ev fp) rfl rfl rfl calm j _ s12 (wipe σ8 inn) H12 (fun _ _ => False) I12 (calmG n12) st12 stop1) fun r s13 ⟨er, I13⟩ => ?_
            subst er
            exact fin I13 (len8.trans (wipe_length σ8 inn).symm) knowIn over1
          · refine thnF (T1.item (X.blk s3 H3 sco ev fp) rfl rfl rfl calm j _ s12 (wipe σ8 inn) H12 (fun _ _ => False) I12 (calmG n12) st12 go1) fun r s13 ⟨u1, er, h13⟩ => ?_
            subst er
            refine thnF h13 fun _ s14 ⟨x1, H14, I14, r14, y14, st14, n14⟩ => ?_
            have I14p := I14.pinned (calmG n14) (T1.obj _ _ st14)
            refine thnF (pgb.run _ s14 (wipe σ8 inn) H14 x1 u1 _ I14p r14 (step1 x1 H14 y14)) fun _ s15 ⟨σ15, H15, I15, w15, q15⟩ => thnF (ptb.run _ s15 σ15 H15 _ I15 q15) fun z1 s16 ⟨H16, I16, q16⟩ => ?_
            have fin1 : ∀ {t : Shared} {Ht : Hp}, Inv (X.blk s3 H3 sco ev fp) (([] ++ pinsAt fp s7.heap) ++ pinsAt fp1 s14.heap) σ15 Ht t → M Ht → ∃ m, m < kk ∧ ∃ j Hu, Inv (X.blk s3 H3 sco ev fp) ([] ++ pinsAt fp s7.heap) (wipe σ8 inn) Hu t ∧ tn1 j t.heap ∧ (∀ b ∈ fp1, Hu b = none) ∧ U j m Hu := by
              intro t Ht It hM
              obtain ⟨m, lt, um⟩ := less1 Ht hM
              have pinned : ∀ b ∈ fp1, ∀ o, s14.heap.get? b = some o → t.heap.get? b = some o ∧ Ht b = none := fun b hb o e => by
                have z := It.pin (b, o) (List.mem_append_right _ (List.mem_append_right _ (mem_pinsAt hb e)))
                exact ⟨z.1, z.2.1⟩
              refine ⟨m, lt, j + 1, Ht, It.unpinned.weak (by rw [← w15, wipe_length]) (fun j v e => by rw [← w15] at e; exact (wipe_some e).1), T1.keep _ _ _ st14 fun b hb o e => (pinned b hb o e).1, fun b hb => ?_, um⟩
              obtain ⟨o, e, _⟩ := T1.obj _ _ st14 b hb
              exact (pinned b hb o e).2
            cases z1 with
            | false =>
              simp only [Bool.false_eq_true, if_false] at q16 ⊢
              exact fin1 I16 q16
            | true =>
              simp only [if_true] at q16 ⊢
              refine thnF (pel.run _ s16 σ15 H16 _ I16 q16) fun v s17 ⟨yv, H17, I17, r17, cc, S0, n0, ey, hD17, room, hM⟩ => ?_
              subst ey
              obtain ⟨tk, rfl⟩ := r17
              exact put_ok (X := X.blk s3 H3 sco ev fp) I17 hD17 room fun t It => fin1 It hM
        exact start_b inner (T1.self X.A 0 _ _ _ stf inner)
  exact PpSet.codeAny_compStart_set loop (T.self X.A 0 _ _ _ st4 loop)
theorem pe_set2 {el ta ia tb ib : Expr} {ca cb : List Expr} {sco : Scope} {own : List (Str × Nat)} {inn : List Nat} {at_ : Pos} {wi wj : TI} {ga gb : TG} {tca tcb : TT} {te : TE} (calm : X.calm = true) (nd : X.N.Nodup) (pi : PI X ta ia wi) (ok : BlkOk X.N X.env.scope sco own) (sub : ∀ i ∈ inn, i ∈ own.map (·.2))
    (pga : InBlk X sco fun Y => PG Y ta ga) (pta : InBlk X sco fun Y => PTs Y ca tca) (pib : InBlk X sco fun Y => PI Y tb ib wj) (pgb : InBlk X sco fun Y => PG Y tb gb) (ptb : InBlk X sco fun Y => PTs Y cb tcb) (pel : InBlk X sco fun Y => PE Y el te)
    (fa : ∀ x, foldedSetIterable ia X.env x = pure x := by intro _; rfl) (fb : ∀ env x, foldedSetIterable ib env x = pure x := by intro _ _; rfl) : PE X (twoSet el ta ia tb ib ca cb sco at_) (tSet2 X.w wi ga tca wj gb tcb te (own.map (·.2)) inn) := by
  refine ⟨fun pins s σ H Q I h => ?_⟩
  rw [PpSet.eval_SetComp]
  refine set2_core calm nd I pi ok sub pga pta pib pgb ptb pel fa fb h fun D C t m Ht It q hm fc => ⟨m, hm, fun h'' sb => ?_⟩
  obtain ⟨f0, f1, _, f3, f4, f5⟩ := fc
  exact ⟨.ref D, Ht, It.turned (t' := t.toks) (fun b o hb e => (sb.2 b hb).trans e) f0 f1 f3 f4 f5, rfl, q⟩
end
end Ft

set_option Elab.async false
set_option linter.all false
set_option maxRecDepth 100000
set_option maxHeartbeats 4000000
/-! Plain mathematics: the law's own way of meeting places, row by row -/
namespace Ft
structure Layer (n : Nat) (rs : List (Nat × Nat)) (ws : List Nat) (a : Nat) (F W : List Nat) : Prop where
  nd : F.Nodup
  lt : ∀ b ∈ F, b < n
  fair : ∀ b ∈ F, Reach rs ws a b
  wait : ∀ x ∈ W, x = a ∨ (x ∈ F ∧ x ∉ ws)
  ok : ∀ x, (x = a ∨ (x ∈ F ∧ x ∉ ws)) → x ∈ W ∨ ∀ b, (x, b) ∈ rs → b ∈ F
theorem Layer.start {n : Nat} {rs : List (Nat × Nat)} {ws : List Nat} {a : Nat} : Layer n rs ws a [] [a] :=
  ⟨List.nodup_nil, fun _ h => absurd h List.not_mem_nil, fun _ h => absurd h List.not_mem_nil, fun x h => .inl (List.mem_singleton.mp h), fun x h => by
    rcases h with h | h
    · exact .inl (List.mem_singleton.mpr h)
    · exact absurd h.1 List.not_mem_nil⟩
theorem Layer.step {n : Nat} {rs : List (Nat × Nat)} {ws : List Nat} {a : Nat} {F W A : List Nat} (L : Layer n rs ws a F W) (inR : ∀ p ∈ rs, p.1 < n ∧ p.2 < n) (nd : A.Nodup) (hA : ∀ b, b ∈ A ↔ ∃ x ∈ W, (x, b) ∈ rs) :
    Layer n rs ws a (F ++ A.filter fun b => !decide (b ∈ F)) ((A.filter fun b => !decide (b ∈ F)).filter fun b => !decide (b ∈ ws)) := by
  have mem : ∀ b, b ∈ A.filter (fun b => !decide (b ∈ F)) ↔ b ∈ A ∧ b ∉ F := fun b => by simp [List.mem_filter]
  have fairA : ∀ b ∈ A, b < n ∧ Reach rs ws a b := by
    intro b hb
    obtain ⟨x, hx, hr⟩ := (hA b).mp hb
    refine ⟨(inR _ hr).2, ?_⟩
    rcases L.wait x hx with e | ⟨h1, h2⟩
    · rw [e] at hr
      exact .one hr
    · exact .more (L.fair x h1) h2 hr
  refine ⟨?_, ?_, ?_, ?_, ?_⟩
  · rw [List.nodup_append]
    refine ⟨L.nd, nd.filter _, fun x hx y hy e => ?_⟩
    exact ((mem y).mp hy).2 (e ▸ hx)
  · intro b hb
    rcases List.mem_append.mp hb with hb | hb
    · exact L.lt b hb
    · exact (fairA b ((mem b).mp hb).1).1
  · intro b hb
    rcases List.mem_append.mp hb with hb | hb
    · exact L.fair b hb
    · exact (fairA b ((mem b).mp hb).1).2
  · intro x hx
    rw [List.mem_filter] at hx
    exact .inr ⟨List.mem_append_right _ hx.1, by simpa using hx.2⟩
  · intro x hx
    have old : (x = a ∨ (x ∈ F ∧ x ∉ ws)) → ∀ b, (x, b) ∈ rs → b ∈ F ++ A.filter fun b => !decide (b ∈ F) := by
      intro h b hb
      rcases L.ok x h with h1 | h1
      · by_cases hf : b ∈ F
        · exact List.mem_append_left _ hf
        · exact List.mem_append_right _ ((mem b).mpr ⟨(hA b).mpr ⟨x, h1, hb⟩, hf⟩)
      · exact List.mem_append_left _ (h1 b hb)
    rcases hx with e | ⟨h1, h2⟩
    · exact .inr (old (.inl e))
    · rcases List.mem_append.mp h1 with h1 | h1
      · exact .inr (old (.inr ⟨h1, h2⟩))
      · exact .inl (List.mem_filter.mpr ⟨h1, by simpa using h2⟩)
theorem Layer.ends {n : Nat} {rs : List (Nat × Nat)} {ws : List Nat} {a : Nat} {F : List Nat} (L : Layer n rs ws a F []) (x : Nat) : x ∈ F ↔ x < n ∧ ∃ a' ∈ [a], Reach rs ws a' x := by
  constructor
  · intro h
    exact ⟨L.lt x h, a, List.mem_singleton.mpr rfl, L.fair x h⟩
  · rintro ⟨_, a', ha', r⟩
    rw [List.mem_singleton.mp ha'] at r
    refine r.within (S := (· ∈ F)) (fun y hy => ?_) fun y z hy hw hz => ?_
    · rcases L.ok a (.inl rfl) with h | h
      · exact absurd h List.not_mem_nil
      · exact h y hy
    · rcases L.ok y (.inr ⟨hy, hw⟩) with h | h
      · exact absurd h List.not_mem_nil
      · exact h z hz
/-- a sorted row of a set's numbers -/
theorem set_nat {ns : List Int} {A : List Nat} (up : ns.Pairwise (· < ·)) (mem : ∀ j : Int, j ∈ ns ↔ decide (j ∈ iN A) = true) : ∃ wl : List Nat, ns = iN wl ∧ wl.Pairwise (· < ·) ∧ ∀ x, x ∈ wl ↔ x ∈ A := by
  have nn : ∀ y ∈ ns, 0 ≤ y := by
    intro y hy
    have := of_decide_eq_true ((mem y).mp hy)
    unfold iN at this
    obtain ⟨z, _, ez⟩ := List.mem_map.mp this
    omega
  have e : ns = iN (ns.map Int.toNat) := by
    unfold iN
    rw [List.map_map]
    conv => lhs; rw [← List.map_id ns]
    exact List.map_congr_left fun y hy => (Int.toNat_of_nonneg (nn y hy)).symm
  refine ⟨ns.map Int.toNat, e, ?_, fun x => ?_⟩
  · rw [e] at up
    unfold iN at up
    exact (List.pairwise_map.mp up).imp fun h => by omega
  · constructor
    · intro h
      obtain ⟨y, hy, ey⟩ := List.mem_map.mp h
      have h2 := of_decide_eq_true ((mem y).mp hy)
      have h3 : y = (x : Int) := by
        have := nn y hy
        omega
      rw [h3] at h2
      exact iN_mem.mp h2
    · intro h
      exact List.mem_map.mpr ⟨(x : Int), (mem _).mpr (decide_eq_true (iN_mem.mpr h)), by omega⟩
end Ft

set_option Elab.async false
set_option linter.all false
set_option maxRecDepth 100000
set_option maxHeartbeats 8000000
namespace Ft
open PySem PySem.Spec PyProof.Rows L2
theorem piece_lt' {C : Chart} {a b : Nat} (ha : a < C.n) (h : b ∈ pieceOf C a) : b < C.n := by
  unfold pieceOf at h
  by_cases hw : a ∈ C.wished
  · rw [if_pos hw] at h
    rw [List.mem_singleton.mp h]
    exact ha
  · rw [if_neg hw] at h
    exact (those_mem.mp h).1
theorem len_of_lt' (l : List Nat) (n : Nat) (nd : l.Nodup) (b : ∀ x ∈ l, x < n) : l.length ≤ n := by
  have := nat_nodup_len l (List.range n) nd fun x hx => List.mem_range.mpr (b x hx)
  rwa [List.length_range] at this
section
variable {P : Program} {w : World} {K : PySem.W.Frag} {mg : Str → Option Value} {base : Heap} {ca : Str → Addr}
/-! ### made_standing, of data -/
theorem noPlace_cons {n i : Nat} {d : PyData} {ds : List PyData} : noPlace n i (d :: ds) = if rngD n d = true then noPlace n (i + 1) ds else some i := rfl
theorem standErr_not {n : Nat} {d : PyData} (h : isTup d = false) : standErr n d = some (-1) := by
  cases d <;> first | rfl | cases h
/-- what a function of a map and a standing owes -/
def DueS (K : PySem.W.Frag) (ca : Str → Addr) (H : Hp) (E : XK) (dc ds : PyData) (ok : Chart → List Nat → Prop) : Prop :=
  (∀ x i, mapErr dc = some (x, i) → Raised K ca H E (x, .int i)) ∧ ∀ C, dc = chartD C → C.Ok → (∀ i, standErr C.n ds = some i → Raised K ca H E ("BadStanding", .int i)) ∧ ∀ S, ds = lotD S → (∀ x ∈ S, x < C.n) → 1 ≤ S.length → S.length ≤ 3 → ok C S
def spX_made_standing (K : PySem.W.Frag) (ca : Str → Addr) : Sp := fun vs H Q E => ∃ (vc vt : V) (dc ds : PyData), vs = [vc, vt] ∧ Dp K H vc dc ∧ Dp K H vt ds ∧ DueS K ca H E dc ds fun C S => ∀ H', Same H H' → Q vt H'
theorem cal_made_standing (T : Txt mg) (D : Def K mg "made_standing" s_made_standing) (m_MOST_THREADS : MgI mg "MOST_THREADS" 3) (e_BadStanding : Er P w K mg base ca "BadStanding") (c_made_map : CalX P w K mg base 5 "made_map" (spX_made_map K ca)) (c_place_fits : Cal P w K mg base 3 "place_fits" (sp_place_fits K)) : CalX P w K mg base 6 "made_standing" (spX_made_standing K ca) := by
  refine calx_of D sc_made_standing (fun _ _ _ _ _ _ us hl => match us, hl with | [_, _], _ => rfl) (fun vs H Q E h => ?_) (fun f cdv A outer s H vs Q E hr h => ?_)
  · obtain ⟨vc, vt, dc, ds, rfl, _⟩ := h
    rfl
  · obtain ⟨vc, vt, dc, ds, rfl, hdc, hds, q1, q2⟩ := h
    refine ⟨_, (pss_cons (ps_expr (pe_x (takes_of rfl rfl rfl rfl) c_made_map hr (by decide) (by rfl) (pa_cons (pv 0) pa_nil)))
      (pss_cons (ps_if (PW.pt (pw_or (pt_not (pt_val (pe_callB (show CallR _ _ (rIsi K) from call_isi) (by rfl) T.isinstance (by decide +kernel) (pa_cons (pv 1) (pa_cons (pe_bltn (v := .ty "tuple") (u := .type "tuple") (by rfl) T.tuple (by decide +kernel) rfl) pa_nil))))) (pw_or1 (pt_not (pt_chain op_le op_le pe_int (pe_callB (show CallR _ _ (rLenS K) from call_lenS) (by rfl) T.len (by decide +kernel) (pa_cons (pv 1) pa_nil)) (pe_globI (n := 3) rfl m_MOST_THREADS)))))) (pss_one (ps_raiseE rfl e_BadStanding hr (by decide) (takes_of rfl rfl rfl rfl) (by rfl) (pa_cons (pe_un un_neg pe_int) pa_nil))) pss_nil)
      (pss_cons (ps_for (passes_of rfl) rfl (show PI _ _ _ (iEnumT K _) from pi_enumT (by rfl) T.enumerate (pa_cons (pv 1) pa_nil)) (show PG _ _ (gTup K 2 _) from pg_tup (by rfl) (pgs_cons (pg_name (i := 2) sc_made_standing.nd rfl (Or.inl rfl)) (pgs_cons (pg_name (i := 3) sc_made_standing.nd rfl (Or.inl rfl)) pgs_nil))) (pss_one (ps_if (pt_not (pt_val (pe_c c_place_fits hr (by decide) (by rfl) (pa_cons (pv 0) (pa_cons (pv 3) pa_nil))))) (pss_one (ps_raiseE rfl e_BadStanding hr (by decide) (takes_of rfl rfl rfl rfl) (by rfl) (pa_cons (pv 2) pa_nil))) pss_nil)))
      (pss_one (ps_ret (pv 1)))))), ?_⟩
    refine ⟨_, rfl, vc, dc, rfl, hdc, fun em c C c' H1 ev ec ok s1 isC' => ?_, fun x i em => q1 x i em⟩
    subst ec ev
    obtain ⟨qe, qo⟩ := q2 C rfl ok
    have hds1 := Dp.same s1 hds
    obtain ⟨c0, ec0, r, wd, ts, hC⟩ := chart_dp hdc
    cases ec0
    refine ⟨_, rfl, _, _, _, _, isTup ds, rfl, .ty "tuple", isi_dp hds1, kit_tup ds, isTup ds, rfl, ?_⟩
    cases e : isTup ds with
    | false =>
      refine iteT (iteT ?_)
      exact ⟨_, rfl, _, rfl, fun dd hdd => qe _ (standErr_not e) dd _ _ (s1.trans (same_upd hdd)) upd_same (.int _)⟩
    | true =>
      obtain ⟨ls, rfl⟩ := isTup_is e
      obtain ⟨t, xs, rfl, hT, hD⟩ := dp_tup hds1
      have len := dpAll_length hD
      refine iteF ?_
      have bad : ¬ (1 ≤ ls.length ∧ ls.length ≤ 3) → standErr C.n (.tuple ls) = some (-1) := fun z => if_neg z
      refine ⟨_, rfl, t, _, rfl, .inr hT, _, _, rfl, rfl, _, rfl, ?_⟩
      by_cases l1 : 1 ≤ ls.length
      · rw [decide_eq_true (show (1 : Int) ≤ ((xs.length : Nat) : Int) by rw [len]; omega)]
        refine iteT ⟨_, _, rfl, rfl, _, rfl, ?_⟩
        by_cases l3 : ls.length ≤ 3
        · show if (!decide (((xs.length : Nat) : Int) ≤ 3)) = true then _ else _
          rw [decide_eq_true (show ((xs.length : Nat) : Int) ≤ 3 by rw [len]; omega)]
          refine iteF ?_
          have er : standErr C.n (.tuple ls) = optI (noPlace C.n 0 ls) := if_pos ⟨l1, l3⟩
          refine ⟨_, rfl, t, _, rfl, hT, for_it walk_enumT (fun i σ H' => ∃ (v2 v3 : Option V), σ = [some (.ref c), some (.ref t), v2, v3] ∧ Same H1 H' ∧ noPlace C.n 0 ls = noPlace C.n i (ls.drop i)) ⟨_, _, rfl, (fun _ _ h => h), rfl⟩ (fun i σ H' _ ⟨_, _, _, s2, _⟩ => Same.sqT s2 hT) ?_ ?_⟩
          · rintro i x σ H2 H3 hi ⟨v2, v3, rfl, s2, eb⟩ ⟨tt, x0, y, rfl, nt, rfl, e1, e2⟩
            obtain ⟨d, hd, dd⟩ := dpAll_get hD e2
            rw [drop_get hd, noPlace_cons] at eb
            cases e1
            have s3 : Same H1 (upd H2 tt (.tup [.int (i : Nat), y])) := s2.trans (same_upd nt)
            refine ⟨tt, _, rfl, .inl (.inl upd_same), rfl, _, _, rfl, _, _, rfl, rfl, ?_⟩
            refine ⟨_, rfl, _, rfl, c, C.n, y, d, r, wd, rfl, (hC.same (s1.trans s3)).top, Dp.same s3 dd, rngD C.n d, rfl, ?_⟩
            cases cr : rngD C.n d with
            | true =>
              rw [cr, if_pos rfl] at eb
              exact iteF ⟨_, _, rfl, s3, eb⟩
            | false =>
              rw [cr, if_neg Bool.false_ne_true] at eb
              refine iteT ?_
              exact ⟨_, rfl, _, rfl, fun dd' hdd => qe i (by rw [er, eb]; rfl) dd' _ _ (s1.trans (s3.trans (same_upd hdd))) upd_same (.int _)⟩
          · rintro σ H2 ⟨v2, v3, rfl, s2, eb⟩
            rw [len, List.drop_length] at eb
            have e0 : standErr C.n (.tuple ls) = none := by rw [er, eb]; rfl
            obtain ⟨S, eS, lt, k1, k3⟩ := standErr_none e0
            exact ⟨_, rfl, qo S eS lt k1 k3 H2 (s1.trans s2)⟩
        · show if (!decide (((xs.length : Nat) : Int) ≤ 3)) = true then _ else _
          rw [decide_eq_false (show ¬ ((xs.length : Nat) : Int) ≤ 3 by rw [len]; omega)]
          refine iteT ?_
          exact ⟨_, rfl, _, rfl, fun dd hdd => qe _ (bad fun z => l3 z.2) dd _ _ (s1.trans (same_upd hdd)) upd_same (.int _)⟩
      · rw [decide_eq_false (show ¬ (1 : Int) ≤ ((xs.length : Nat) : Int) by rw [len]; omega)]
        refine iteF ⟨_, rfl, iteT ?_⟩
        exact ⟨_, rfl, _, rfl, fun dd hdd => qe _ (bad fun z => l1 z.1) dd _ _ (s1.trans (same_upd hdd)) upd_same (.int _)⟩
theorem DueS.valid {K : PySem.W.Frag} {ca : Str → Addr} {H : Hp} {E : XK} {C : Chart} {S : List Nat} {ok : Chart → List Nat → Prop} (o : C.Ok) (lt : ∀ x ∈ S, x < C.n) (l1 : 1 ≤ S.length) (l3 : S.length ≤ 3) (q : ok C S) : DueS K ca H E (chartD C) (lotD S) ok :=
  ⟨fun x i h => (by rw [mapErr_chart o] at h; cases h), fun C' e _ => (by
    have z := chartD_inj e
    subst z
    exact ⟨fun i h => (by rw [standErr_ok lt l1 l3] at h; cases h), fun S' e' _ _ _ => (by
      have z := lotD_inj e'
      subst z
      exact q)⟩)⟩
def sp_made_standing (K : PySem.W.Frag) : Sp := fun vs H Q _ => ∃ (c t : Addr) (C : Chart) (S : List Nat), vs = [.ref c, .ref t] ∧ IsChart K H c C ∧ C.Ok ∧ SqT K H t (S.map vN) ∧ (∀ x ∈ S, x < C.n) ∧ 1 ≤ S.length ∧ S.length ≤ 3 ∧ ∀ H', Same H H' → Q (.ref t) H'
theorem calv_made_standing (c_made_standing : CalX P w K mg base 6 "made_standing" (spX_made_standing K ca)) : Cal P w K mg base 6 "made_standing" (sp_made_standing K) :=
  c_made_standing.valid fun vs H Q E ⟨c, t, C, S, e, isC, ok, hS, lt, l1, l3, q⟩ => ⟨_, _, _, _, e, dp_chart isC, dp_lot hS, .valid ok lt l1 l3 q⟩
/-! ### is_standing -/
noncomputable def isStand (dc ds : PyData) : Bool := (mapErr dc).isNone && (match dc with
  | .tuple [.int n, _, _] => (standErr n.toNat ds).isNone
  | _ => false)
theorem isStand_chart {C : Chart} (ok : C.Ok) {ds : PyData} : isStand (chartD C) ds = (standErr C.n ds).isNone := by
  unfold isStand
  rw [mapErr_chart ok]
  show (true && (standErr ((C.n : Int)).toNat ds).isNone) = _
  rw [Bool.true_and]
  rfl
def sp_is_standing (K : PySem.W.Frag) : Sp := fun vs H Q _ => ∃ (vc vt : V) (dc ds : PyData), vs = [vc, vt] ∧ Dp K H vc dc ∧ Dp K H vt ds ∧ ∀ H', Same H H' → Q (.bl (isStand dc ds)) H'
theorem cal_is_standing (T : Txt mg) (D : Def K mg "is_standing" s_is_standing) (e_Refused : Er P w K mg base ca "Refused") (x_BadMap_Refused : Exm K ca "BadMap" "Refused" true) (x_BadWish_Refused : Exm K ca "BadWish" "Refused" true) (x_BadStanding_Refused : Exm K ca "BadStanding" "Refused" true)
    (c_made_standing : CalX P w K mg base 6 "made_standing" (spX_made_standing K ca)) : Cal P w K mg base 7 "is_standing" (sp_is_standing K) := by
  refine cal_of D sc_is_standing (fun _ _ _ _ _ _ us hl => match us, hl with | [_, _], _ => rfl) (fun vs H Q E h => ?_) (fun f cdv A outer s H vs Q E hr h => ?_)
  · obtain ⟨vc, vt, dc, ds, rfl, _⟩ := h
    rfl
  · obtain ⟨vc, vt, dc, ds, rfl, hdc, hds, q⟩ := h
    refine ⟨_, (pss_cons (ps_try_ms rfl rfl sc_is_standing.nd takes0 (fun W pn xe tk po => (pss_one (ps_expr (pe_x tk c_made_standing hr (by decide) (by rfl) (pa_cons (pv 0) (pa_cons (pv 1) pa_nil)))))) (.no ⟨rfl, by decide, .inl (Er.g e_Refused)⟩ (fun a oe cls d pn hz hf => (pss_one (ps_ret pe_bl)))
      .nil))
      (pss_one (ps_ret pe_bl))), ?_⟩
    have no : ∀ {x : Str} {i : Int}, mapErr dc = some (x, i) → x = "BadMap" ∨ x = "BadWish" := fun {x i} h => mapErr_name h
    refine ⟨_, rfl, _, rfl, vc, vt, dc, ds, rfl, hdc, hds, fun x i em d H' v s' hd hv => ?_, fun C ec ok => ⟨fun i er d H' v s' hd hv => ?_, fun S es lt l1 l3 H' s' => ?_⟩⟩
    · have e0 : isStand dc ds = false := by unfold isStand; rw [em]; rfl
      rw [e0] at q
      rcases no em with rfl | rfl
      · exact ⟨true, x_BadMap_Refused, fun _ a na _ => q H' s', fun h => nomatch h⟩
      · exact ⟨true, x_BadWish_Refused, fun _ a na _ => q H' s', fun h => nomatch h⟩
    · subst ec
      rw [isStand_chart ok, er] at q
      exact ⟨true, x_BadStanding_Refused, fun _ a na _ => q H' s', fun h => nomatch h⟩
    · subst ec es
      rw [isStand_chart ok, standErr_ok lt l1 l3] at q
      exact q H' s'
/-! ### members -/
noncomputable def membersOf (C : Chart) (S : List Nat) : List Nat := those C.n fun b => ∃ a ∈ S, b ∈ pieceOf C a
def spX_members (K : PySem.W.Frag) (ca : Str → Addr) : Sp := fun vs H Q E => ∃ (vc vt : V) (dc ds : PyData), vs = [vc, vt] ∧ Dp K H vc dc ∧ Dp K H vt ds ∧ DueS K ca H E dc ds fun C S => ∀ q H', Same H H' → SqT K H' q ((membersOf C S).map vN) → Q (.ref q) H'
def sp_members (K : PySem.W.Frag) : Sp := fun vs H Q _ => ∃ (c t : Addr) (C : Chart) (S : List Nat), vs = [.ref c, .ref t] ∧ IsChart K H c C ∧ C.Ok ∧ SqT K H t (S.map vN) ∧ (∀ x ∈ S, x < C.n) ∧ 1 ≤ S.length ∧ S.length ≤ 3 ∧ ∀ q H', Same H H' → SqT K H' q ((membersOf C S).map vN) → Q (.ref q) H'
theorem calv_members (c_members : CalX P w K mg base 7 "members" (spX_members K ca)) : Cal P w K mg base 7 "members" (sp_members K) :=
  c_members.valid fun vs H Q E ⟨c, t, C, S, e, isC, ok, hS, lt, l1, l3, q⟩ => ⟨_, _, _, _, e, dp_chart isC, dp_lot hS, .valid ok lt l1 l3 q⟩
end
end Ft

set_option Elab.async false
set_option linter.all false
set_option maxRecDepth 100000
set_option maxHeartbeats 8000000
namespace Ft
open PySem PySem.Spec PyProof.Rows L2
/-- the least place of a place's piece -/
noncomputable def leastOf (C : Chart) (a : Nat) : Nat := (pieceOf C a).headD 0
noncomputable def rowOf (C : Chart) (S : List Nat) : List Nat := S.map (leastOf C)
theorem piece_has {C : Chart} {a : Nat} (ha : a < C.n) : a ∈ pieceOf C a := by
  unfold pieceOf
  by_cases hw : a ∈ C.wished
  · rw [if_pos hw]
    exact List.mem_singleton.mpr rfl
  · rw [if_neg hw]
    exact those_mem.mpr ⟨ha, hw, .inl rfl⟩
theorem least_get {C : Chart} {a : Nat} (ha : a < C.n) : (pieceOf C a)[0]? = some (leastOf C a) := by
  unfold leastOf
  have h := piece_has ha
  cases e : pieceOf C a with
  | nil =>
    rw [e] at h
    cases h
  | cons x l => rfl
theorem least_mem {C : Chart} {a : Nat} (ha : a < C.n) : leastOf C a ∈ pieceOf C a := List.mem_of_getElem? (least_get ha)
theorem least_lt {C : Chart} {a : Nat} (ha : a < C.n) : leastOf C a < C.n := piece_lt' ha (least_mem ha)
theorem row_take {C : Chart} {S : List Nat} {i a : Nat} (h : S[i]? = some a) : (rowOf C S).take (i + 1) = (rowOf C S).take i ++ [leastOf C a] := take_more (by unfold rowOf; rw [List.getElem?_map, h]; rfl)
theorem row_len {C : Chart} {S : List Nat} : (rowOf C S).length = S.length := List.length_map ..
section
variable {P : Program} {w : World} {K : PySem.W.Frag} {mg : Str → Option Value} {base : Heap} {ca : Str → Addr}
/-! ### row_of -/
def spX_row_of (K : PySem.W.Frag) (ca : Str → Addr) : Sp := fun vs H Q E => ∃ (vc vt : V) (dc ds : PyData), vs = [vc, vt] ∧ Dp K H vc dc ∧ Dp K H vt ds ∧ DueS K ca H E dc ds fun C S => ∀ q H', Same H H' → SqT K H' q ((rowOf C S).map vN) → Q (.ref q) H'
def sp_row_of (K : PySem.W.Frag) : Sp := fun vs H Q _ => ∃ (c t : Addr) (C : Chart) (S : List Nat), vs = [.ref c, .ref t] ∧ IsChart K H c C ∧ C.Ok ∧ SqT K H t (S.map vN) ∧ (∀ x ∈ S, x < C.n) ∧ 1 ≤ S.length ∧ S.length ≤ 3 ∧ ∀ q H', Same H H' → SqT K H' q ((rowOf C S).map vN) → Q (.ref q) H'
theorem calv_row_of (c_row_of : CalX P w K mg base 7 "row_of" (spX_row_of K ca)) : Cal P w K mg base 7 "row_of" (sp_row_of K) :=
  c_row_of.valid fun vs H Q E ⟨c, t, C, S, e, isC, ok, hS, lt, l1, l3, q⟩ => ⟨_, _, _, _, e, dp_chart isC, dp_lot hS, .valid ok lt l1 l3 q⟩
end
end Ft

set_option Elab.async false
set_option linter.all false
set_option maxRecDepth 100000
set_option maxHeartbeats 8000000
namespace Ft
open PySem PySem.Spec PyProof.Rows L2
theorem piece_self {C : Chart} {a : Nat} (h : a < C.n) : a ∈ pieceOf C a := by
  unfold pieceOf
  by_cases hw : a ∈ C.wished
  · rw [if_pos hw]
    exact List.mem_singleton.mpr rfl
  · rw [if_neg hw]
    exact those_mem.mpr ⟨h, hw, .inl rfl⟩
theorem piece_up (C : Chart) (a : Nat) : (pieceOf C a).Pairwise (· < ·) := by
  unfold pieceOf
  by_cases hw : a ∈ C.wished
  · rw [if_pos hw]
    exact List.pairwise_singleton _ _
  · rw [if_neg hw]
    exact those_up _ _
theorem piece_lt {C : Chart} {a b : Nat} (ha : a < C.n) (h : b ∈ pieceOf C a) : b < C.n := by
  unfold pieceOf at h
  by_cases hw : a ∈ C.wished
  · rw [if_pos hw] at h
    rw [List.mem_singleton.mp h]
    exact ha
  · rw [if_neg hw] at h
    exact (those_mem.mp h).1
/-- rows of places at the addresses ts -/
def RowsAt (K : PySem.W.Frag) (H : Hp) (ts : List Addr) (lls : List (List Nat)) : Prop := Paired (fun (t : Addr) (l : List Nat) => SqT K H t (l.map vN)) ts lls
theorem RowsAt.keep {K : PySem.W.Frag} {ex : List Addr} {H H' : Hp} (k : Kp ex H H') (l : Lists ex H) {ts : List Addr} {lls : List (List Nat)} (h : RowsAt K H ts lls) : RowsAt K H' ts lls := paired_imp (fun _ _ q => k.sqT l q) h
theorem RowsAt.same {K : PySem.W.Frag} {H H' : Hp} (k : Same H H') {ts : List Addr} {lls : List (List Nat)} (h : RowsAt K H ts lls) : RowsAt K H' ts lls := paired_imp (fun _ _ q => Same.sqT k q) h
theorem paired_app {α β : Type} {R : α → β → Prop} : ∀ {as as' : List α} {bs bs' : List β}, Paired R as bs → Paired R as' bs' → Paired R (as ++ as') (bs ++ bs')
  | _, _, _, _, .nil, h => h
  | _, _, _, _, .cons r t, h => .cons r (paired_app t h)
/-- whether a place is the least one of its piece -/
noncomputable def isLeast (C : Chart) (a : Nat) : Bool := decide ((pieceOf C a).head? = some a)
noncomputable def piecesL (C : Chart) : List (List Nat) := ((unw C).filter (isLeast C)).map (pieceOf C)
section
variable {P : Program} {w : World} {K : PySem.W.Frag} {mg : Str → Option Value} {base : Heap} {t1 t2 : Tok}
/-! ### unwished_pieces -/
def sp_unwished_pieces (K : PySem.W.Frag) : Sp := fun vs H Q _ => ∃ (c tb : Addr) (C : Chart) (rows : List Addr), vs = [.ref c, .ref tb] ∧ IsChart K H c C ∧ C.Ok ∧ H tb = some (.lst (rows.map V.ref)) ∧ PiecesAt K H C rows ∧
  ∀ q ts H', Same H H' → H q = none → H' q = some (.lst (ts.map V.ref)) → RowsAt K H' ts (piecesL C) → Q (.ref q) H'
theorem cal_unwished_pieces (T : Txt mg) (D : Def K mg "unwished_pieces" s_unwished_pieces) (c_unwished_of : Cal P w K mg base 2 "unwished_of" (sp_unwished_of K)) : Cal P w K mg base 3 "unwished_pieces" (sp_unwished_pieces K) := by
  refine cal_of D sc_unwished_pieces (fun _ _ _ _ _ _ us hl => match us, hl with | [_, _], _ => rfl) (fun vs H Q E h => ?_) (fun f cdv A outer s H vs Q E hr h => ?_)
  · obtain ⟨c, tb, C, rows, rfl, _⟩ := h
    rfl
  · obtain ⟨c, tb, C, rows, rfl, hC, ok, hT, ⟨er, each⟩, q⟩ := h
    have n60 := ok.n60
    have ulen := unw_len C
    refine ⟨_, (pss_one (ps_ret (pe_lc (own := [("place", 2)]) rfl sc_unwished_pieces.nd (show PI _ _ _ (iList K _) from pi_list (pe_c c_unwished_of hr (by decide) (by rfl) (pa_cons (pv 0) pa_nil))) (blkOk_by (N := ["chart", "table", "place"]) (sc := L2.defScope s_unwished_pieces) (by decide +kernel)) (fun _ _ _ _ _ => (pg_name (i := 2) sc_unwished_pieces.nd rfl (Or.inl rfl))) (fun _ _ _ _ _ => pts_one (pt_cmpR op_eq (pe_ix (show IxR _ (rIxT K) from ix_tup) (pe_ix (show IxR _ (rIxL K) from ix_list) (pv 1) (pv 2) (fun _ _ => rfl)) pe_int (fun _ _ => rfl)) (pv 2) (nomark _))) (fun _ _ _ _ _ => (pe_ix (show IxR _ (rIxL K) from ix_list) (pv 1) (pv 2) (fun _ _ => rfl)))))), ?_⟩
    refine ⟨_, rfl, c, C, rfl, hC, ok, fun u H1 s1 hu0 hU => ?_⟩
    refine ⟨u, rfl, ⟨_, .inl (.inl hU)⟩, fun e he => ?_⟩
    have keep : ∀ {H' : Hp}, Kp [e] H1 H' → Same H1 H' := fun {H'} k b o q => k b o (fun m => by rw [List.mem_singleton.mp m, he] at q; cases q) q
    refine lc_list (K := K) (xs := (unw C).map vN) (fun i H' => ∃ ts : List Addr, Kp [e] H1 H' ∧ H' e = some (.lst (ts.map V.ref)) ∧ RowsAt K H1 ts ((((unw C).take i).filter (isLeast C)).map (pieceOf C)))
      ⟨[], (fun b o n q => by rw [upd_ne (ne_of_none q he)]; exact q), upd_same, .nil⟩ (fun i H' _ ⟨_, k, _⟩ => .inl (.inl (keep k _ _ hU))) ?_ ?_
    · rintro i x H2 hx ⟨ts, k2, hE, rw2⟩
      obtain ⟨a, ha, rfl⟩ := get_map hx
      have ham := unw_mem.mp (List.mem_of_getElem? ha)
      obtain ⟨t, ht⟩ : ∃ t, rows[a]? = some t := ⟨_, List.getElem?_eq_getElem (by rw [er]; exact ham.1)⟩
      have hT2 : H2 tb = some (.lst (rows.map V.ref)) := keep k2 _ _ (s1 _ _ hT)
      have hrow1 : SqT K H1 t ((pieceOf C a).map vN) := Same.sqT s1 (each a t ht)
      have hrow : SqT K H2 t ((pieceOf C a).map vN) := Same.sqT (keep k2) hrow1
      obtain ⟨h0, rest, e0⟩ : ∃ h0 rest, pieceOf C a = h0 :: rest := by
        cases e : pieceOf C a with
        | nil =>
          have := piece_self ham.1
          rw [e] at this
          exact absurd this List.not_mem_nil
        | cons h0 rest => exact ⟨h0, rest, rfl⟩
      refine ⟨rfl, ?_⟩
      refine ⟨_, rfl, _, rfl, tb, _, _, _, rfl, rfl, .inl (.inl hT2), atI_nat (v := V.ref t) (by rw [List.getElem?_map, ht]; rfl), t, _, _, _, rfl, rfl, hrow, atI_nat (j := 0) (v := vN h0) (by rw [e0]; rfl), _, rfl, rfl, _, rfl, ?_⟩
      have e1 : decide (vN h0 = vN a) = isLeast C a := by
        unfold isLeast
        refine decide_eq_decide.mpr ?_
        rw [e0, List.head?_cons]
        constructor
        · intro z
          have z' : (h0 : Int) = a := V.int.inj z
          exact congrArg some (by omega)
        · intro z
          rw [Option.some.inj z]
      rw [e1, take_more ha, List.filter_append, List.map_append]
      cases hb : isLeast C a with
      | false =>
        refine iteF ⟨ts, k2, hE, ?_⟩
        rw [List.filter_cons, hb, if_neg Bool.false_ne_true, List.filter_nil, List.map_nil, List.append_nil]
        exact rw2
      | true =>
        refine iteT ?_
        refine ⟨_, rfl, _, rfl, tb, _, _, _, rfl, rfl, .inl (.inl hT2), atI_nat (v := V.ref t) (by rw [List.getElem?_map, ht]; rfl), _, hE, ?_, ts ++ [t], ?_, by rw [upd_same, List.map_append]; rfl, ?_⟩
        · rw [List.length_map, Paired.length rw2, List.length_map]
          have h1 := List.length_filter_le (isLeast C) ((unw C).take i)
          have h2 : ((unw C).take i).length ≤ (unw C).length := by rw [List.length_take]; omega
          exact small1000 (by omega)
        · intro b o n q
          rw [upd_ne (fun y => n (by rw [y]; simp))]
          exact k2 b o n q
        · rw [List.filter_cons, hb, if_pos rfl, List.filter_nil]
          exact paired_app rw2 (.cons hrow1 .nil)
    · rintro H2 ⟨ts, k2, hE, rw2⟩
      rw [List.take_of_length_le (by rw [List.length_map]; exact Nat.le_refl _)] at rw2
      exact q e ts H2 (fun b o z => keep k2 b o (s1 b o z)) (s1.free he) hE (rw2.same (keep k2))
end
end Ft

set_option Elab.async false
set_option linter.all false
set_option maxRecDepth 100000
set_option maxHeartbeats 4000000
/-! Plain mathematics: the pieces of a map, and rows in their order -/
namespace Ft
theorem piece_mem {C : Chart} {a b : Nat} (hw : a ∉ C.wished) : b ∈ pieceOf C a ↔ b < C.n ∧ b ∉ C.wished ∧ (b = a ∨ (Reach C.roads C.wished a b ∧ Reach C.roads C.wished b a)) := by
  unfold pieceOf
  rw [if_neg hw]
  exact those_mem
theorem piece_eq {C : Chart} {a b : Nat} (hb : b ∈ pieceOf C a) : pieceOf C b = pieceOf C a := by
  by_cases hw : a ∈ C.wished
  · have e : pieceOf C a = [a] := by
      unfold pieceOf
      rw [if_pos hw]
    rw [e] at hb
    rw [List.mem_singleton.mp hb]
  · obtain ⟨bn, bw, rel⟩ := (piece_mem hw).mp hb
    refine asc_ext (piece_up C b) (piece_up C a) fun x => ?_
    rw [piece_mem bw, piece_mem hw]
    constructor
    · rintro ⟨xn, xw, h⟩
      refine ⟨xn, xw, ?_⟩
      rcases rel with e | ⟨r1, r2⟩
      · rw [e] at h
        exact h
      · rcases h with e | ⟨q1, q2⟩
        · rw [e]
          exact .inr ⟨r1, r2⟩
        · exact .inr ⟨r1.trans bw q1, q2.trans bw r2⟩
    · rintro ⟨xn, xw, h⟩
      refine ⟨xn, xw, ?_⟩
      rcases rel with e | ⟨r1, r2⟩
      · rw [e]
        exact h
      · rcases h with e | ⟨q1, q2⟩
        · rw [e]
          exact .inr ⟨r2, r1⟩
        · exact .inr ⟨r2.trans hw q1, q2.trans hw r1⟩
theorem piecesL_mem {C : Chart} {l : List Nat} : l ∈ piecesL C ↔ ∃ a ∈ unw C, l = pieceOf C a := by
  unfold piecesL
  constructor
  · intro h
    obtain ⟨a, ha, rfl⟩ := List.mem_map.mp h
    exact ⟨a, (List.mem_filter.mp ha).1, rfl⟩
  · rintro ⟨a, ha, rfl⟩
    have ha' := unw_mem.mp ha
    cases e : pieceOf C a with
    | nil =>
      have := piece_self ha'.1
      rw [e] at this
      exact absurd this List.not_mem_nil
    | cons h rest =>
      have hh : h ∈ pieceOf C a := by
        rw [e]
        exact List.mem_cons_self
      have hm := (piece_mem ha'.2).mp hh
      have e2 := piece_eq hh
      refine List.mem_map.mpr ⟨h, List.mem_filter.mpr ⟨unw_mem.mpr ⟨hm.1, hm.2.1⟩, ?_⟩, by rw [e2, e]⟩
      unfold isLeast
      rw [e2, e]
      simp
/-- rows ascending as rows -/
def ltL (p q : List Int) : Prop := p ≤ q ∧ p ≠ q
theorem ltL_asym {p q : List Int} (h1 : ltL p q) (h2 : ltL q p) : False := h1.2 (List.le_antisymm h1.1 h2.1)
theorem rows_ext : ∀ {l1 l2 : List (List Int)}, l1.Pairwise ltL → l2.Pairwise ltL → (∀ x, x ∈ l1 ↔ x ∈ l2) → l1 = l2
  | [], [], _, _, _ => rfl
  | [], b :: l2, _, _, h => absurd ((h b).mpr List.mem_cons_self) List.not_mem_nil
  | a :: l1, [], _, _, h => absurd ((h a).mp List.mem_cons_self) List.not_mem_nil
  | a :: l1, b :: l2, h1, h2, h => by
    obtain ⟨a1, p1⟩ := List.pairwise_cons.mp h1
    obtain ⟨a2, p2⟩ := List.pairwise_cons.mp h2
    have e : a = b := by
      rcases List.mem_cons.mp ((h a).mp List.mem_cons_self) with e | m
      · exact e
      · rcases List.mem_cons.mp ((h b).mpr List.mem_cons_self) with e | m'
        · exact e.symm
        · exact (ltL_asym (a2 a m) (a1 b m')).elim
    subst e
    refine congrArg (a :: ·) (rows_ext p1 p2 fun x => ⟨fun m => ?_, fun m => ?_⟩)
    · rcases List.mem_cons.mp ((h x).mp (List.mem_cons_of_mem _ m)) with e | m'
      · exact ((a1 x m).2 e.symm).elim
      · exact m'
    · rcases List.mem_cons.mp ((h x).mpr (List.mem_cons_of_mem _ m)) with e | m'
      · exact ((a2 x m).2 e.symm).elim
      · exact m'
theorem cons_ltL {a b : Int} {p q : List Int} (h : a < b) : ltL (a :: p) (b :: q) := by
  refine ⟨List.cons_le_cons_iff.mpr (.inl h), fun e => ?_⟩
  injection e with e1 _
  omega
theorem piecesL_up (C : Chart) : ((piecesL C).map iN).Pairwise ltL := by
  unfold piecesL
  rw [List.map_map]
  refine List.pairwise_map.mpr ?_
  refine List.Pairwise.imp_of_mem (fun {a b} ha hb h => ?_) ((unw_up C).filter (isLeast C))
  have la := (List.mem_filter.mp ha).2
  have lb := (List.mem_filter.mp hb).2
  unfold isLeast at la lb
  have la := of_decide_eq_true la
  have lb := of_decide_eq_true lb
  show ltL (iN (pieceOf C a)) (iN (pieceOf C b))
  cases ea : pieceOf C a with
  | nil =>
    rw [ea] at la
    cases la
  | cons x p =>
    cases eb : pieceOf C b with
    | nil =>
      rw [eb] at lb
      cases lb
    | cons y q =>
      rw [ea] at la
      rw [eb] at lb
      have e1 : x = a := Option.some.inj la
      have e2 : y = b := Option.some.inj lb
      rw [e1, e2]
      exact cons_ltL (show (a : Int) < (b : Int) by omega)
theorem iN_inj : ∀ {l1 l2 : List Nat}, iN l1 = iN l2 → l1 = l2
  | [], [], _ => rfl
  | [], _ :: _, h => by simp [iN] at h
  | _ :: _, [], h => by simp [iN] at h
  | a :: l1, b :: l2, h => by
    unfold iN at h
    rw [List.map_cons, List.map_cons] at h
    injection h with h1 h2
    have e : a = b := by omega
    rw [e, iN_inj (l1 := l1) (l2 := l2) h2]
/-- what is met, one place more -/
theorem those_yes {j : Nat} {P : Nat → Prop} (h : P j) : those (j + 1) P = those j P ++ [j] := by
  unfold those
  rw [List.range_succ, List.filter_append]
  congr 1
  rw [List.filter_cons]
  simp [h]
theorem those_no {j : Nat} {P : Nat → Prop} (h : ¬ P j) : those (j + 1) P = those j P := by
  unfold those
  rw [List.range_succ, List.filter_append]
  simp [h]
theorem met_mem {n : Nat} {rs : List (Nat × Nat)} {ws : List Nat} {a b : Nat} : b ∈ met n rs ws [a] ↔ b < n ∧ Reach rs ws a b := by
  unfold met
  rw [those_mem]
  constructor
  · rintro ⟨h, x, hx, r⟩
    rw [List.mem_singleton.mp hx] at r
    exact ⟨h, r⟩
  · rintro ⟨h, r⟩
    exact ⟨h, a, List.mem_singleton.mpr rfl, r⟩
end Ft

set_option Elab.async false
set_option linter.all false
set_option maxRecDepth 100000
set_option maxHeartbeats 4000000
namespace Ft
open PySem PySem.Spec PyProof.Rows L2
/-! ### what repr shows of rows of places -/
def encL (l : List Nat) : PyData := .tuple (l.map fun (n : Nat) => .int (n : Int))
theorem small_int : ∀ n : Fin 64, (PyData.int ((n.1 : Nat) : Int)).showable = true ∧ (PyData.int ((n.1 : Nat) : Int)).leavesShort 13 = true ∧ (PyData.int ((n.1 : Nat) : Int)).weight ≤ 7 := by decide +kernel
theorem small_nat {n : Nat} (h : n < 64) : (PyData.int (n : Int)).showable = true ∧ (PyData.int (n : Int)).leavesShort 13 = true ∧ (PyData.int (n : Int)).weight ≤ 7 := small_int ⟨n, h⟩
theorem ints_shown : ∀ l : List Nat, (∀ n ∈ l, n < 64) → PyData.showableAll (l.map fun (n : Nat) => .int (n : Int)) = true ∧ PyData.leavesShortAll 13 (l.map fun (n : Nat) => .int (n : Int)) = true ∧ PyData.weightAll (l.map fun (n : Nat) => .int (n : Int)) ≤ 8 * l.length ∧ PyData.depthAll (l.map fun (n : Nat) => .int (n : Int)) = 0
  | [], _ => by simp [PyData.showableAll, PyData.leavesShortAll, PyData.weightAll, PyData.depthAll]
  | n :: l, h => by
    obtain ⟨a1, a2, a3⟩ := small_nat (h n List.mem_cons_self)
    obtain ⟨b1, b2, b3, b4⟩ := ints_shown l fun m hm => h m (List.mem_cons_of_mem _ hm)
    simp only [List.map_cons, PyData.showableAll, PyData.leavesShortAll, PyData.weightAll, PyData.depthAll, a1, a2, b1, b2, b4, List.length_cons, PyData.depth, Bool.and_self, Nat.max_self, true_and, and_true]
    omega
theorem shows_row {l : List Nat} (h : ∀ n ∈ l, n < 64) (few : l.length ≤ 64) : Shows (encL l) := by
  obtain ⟨b1, b2, b3, b4⟩ := ints_shown l h
  unfold encL
  refine ⟨?_, ?_, ?_, ?_⟩
  · simp only [PyData.showable, b1]
  · simp only [PyData.leavesShort, b2]
  · simp only [PyData.weight]
    omega
  · simp only [PyData.depth, b4]
    omega
theorem rows_shown : ∀ lls : List (List Nat), (∀ l ∈ lls, (∀ n ∈ l, n < 64) ∧ l.length ≤ 64) → PyData.showableAll (lls.map encL) = true ∧ PyData.leavesShortAll 13 (lls.map encL) = true ∧ PyData.weightAll (lls.map encL) ≤ 513 * lls.length ∧ PyData.depthAll (lls.map encL) ≤ 1
  | [], _ => by simp [PyData.showableAll, PyData.leavesShortAll, PyData.weightAll, PyData.depthAll]
  | l :: lls, h => by
    obtain ⟨a1, a2⟩ := h l List.mem_cons_self
    obtain ⟨c1, c2, c3, c4⟩ := ints_shown l a1
    obtain ⟨b1, b2, b3, b4⟩ := rows_shown lls fun m hm => h m (List.mem_cons_of_mem _ hm)
    have e : encL l = .tuple (l.map fun (n : Nat) => .int (n : Int)) := rfl
    simp only [List.map_cons, PyData.showableAll, PyData.leavesShortAll, PyData.weightAll, PyData.depthAll, b1, b2, List.length_cons, e, PyData.showable, PyData.leavesShort, PyData.weight, PyData.depth, c1, c2, c4, Bool.and_self, true_and]
    omega
theorem shows_rows {lls : List (List Nat)} (h : ∀ l ∈ lls, (∀ n ∈ l, n < 64) ∧ l.length ≤ 64) (few : lls.length ≤ 64) : Shows (.tuple (lls.map encL)) := by
  obtain ⟨b1, b2, b3, b4⟩ := rows_shown lls h
  refine ⟨?_, ?_, ?_, ?_⟩
  · simp only [PyData.showable, b1]
  · simp only [PyData.leavesShort, b2]
  · simp only [PyData.weight]
    omega
  · simp only [PyData.depth]
    omega
theorem dp_row {K : PySem.W.Frag} {H : Hp} {t : Addr} {l : List Nat} (h : SqT K H t (l.map vN)) : Dp K H (.ref t) (encL l) := by
  refine .tup h ?_
  have : DpAll K H ((iN l).map V.int) ((iN l).map PyData.int) := dpAll_ints _
  rw [← vN_map] at this
  unfold iN at this
  rw [List.map_map] at this
  exact this
end Ft

set_option Elab.async false
set_option linter.all false
set_option maxRecDepth 100000
set_option maxHeartbeats 4000000
/-! Lambdas without parameters, handed to a def that calls them; the end of a law whose defs make such. -/
namespace Ft
open PySem PySem.Spec PyProof.Rows L2
open LamX (TabB TabS Tabs ExtN CodeO LamS lamSB lamS_by lamCx lamEnv GivesTo tLam)
/-! ### defs that make lambdas: their code object is known -/
structure DefT (K : PySem.W.Frag) (mg : Str → Option Value) (x : Str) (st : Stmt) (c : Addr) : Prop where
  ex : ∃ (f : Addr) (oc : Value) (od : Option Addr) (kV doc pm : Value) (an : Option Addr) (ct : Value) (osl : Array (Option Value)),
    K.lookup f = some ⟨oc, od, .func (PySem.W.fnOf x x (L2.defArgs st) (L2.defBody st) (L2.defScope st) .none kV doc pm an (.ref c) ct), osl⟩ ∧ PySem.W.codeIn K (.ref c) x = true ∧ PySem.W.keepIn K (.ref f) = true ∧ mg x = some (.ref f)
section
variable {P : Program} {w : World} {K : PySem.W.Frag} {mg : Str → Option Value} {base : Heap}
theorem calG_ofT {x : Str} {st : Stmt} {c : Addr} {N ps : List Str} {k : Nat} {sp : Sp} (D : DefT K mg x st c) (S : FnScope N ps (L2.defScope st))
    (bd : ∀ (kV doc pm : Value) (an : Option Addr) (cdv ct : Value) (us : List Value), us.length = ps.length → bindArgs (PySem.W.fnOf x x (L2.defArgs st) (L2.defBody st) (L2.defScope st) .none kV doc pm an cdv ct) ⟨us, []⟩ = pure (ps.zip us))
    (many : ∀ vs H Q E, sp vs H Q E → vs.length = ps.length)
    (body : ∀ (f : Addr) (A : Around) (out : List Env) (s : Shared) (H : Hp) (vs : List V) (Q : VK) (E : XK), A.guards = some [] → Room k (A.deeper (envOfC x (L2.defScope st) s.heap.objs.size f (.ref c))) → sp vs H Q E →
      ∃ t, PSs (cxOf L2.CX0 P w K mg base N x (L2.defScope st) f (.ref c) A out s H E).nox (L2.defBody st) t ∧ t { nx := fun _ H' => Q .non H', rt := Q } (start N vs) H) : CalG P w K mg base (k + 1) x sp := by
  obtain ⟨f, oc, od, kV, doc, pm, an, ct, osl, lk, hcd, kp, hm⟩ := D.ex
  refine ⟨f, _, ps, ⟨many, ?_⟩, hm, kp, .all (bd kV doc pm an (.ref c) ct)⟩
  intro A out s H args us vs Q E hg hr e0 hb r hsp
  have hin : K.In s.heap := e0.mod.kin.keeps (fun b o q => (e0.bs b o q).1)
  have nolim : s.heap.NoLimit := e0.mod.nolimit.keeps (fun b o q => (e0.bs b o q).1)
  have kinds : ∀ y ∈ ps.zip us, (L2.defScope st).names.lookup y.1 = some .local ∨ ((L2.defScope st).names.lookup y.1 = some .cell ∧ ((cellsFrom (s.heap.objs.size + 1) (L2.defScope st).names []).lookup y.1).isSome = true) := by
    intro y hy
    cases S.par y.1 (List.of_mem_zip (a := y.1) (b := y.2) hy).1 with
    | inl q => exact .inl q
    | inr q => exact .inr ⟨q, PySem.W.cellsFrom_some _ _ _ (.inl q)⟩
  refine codeAny_call_function hr.depth (hin _ _ lk) rfl S.co S.gen rfl (PySem.W.codeRec_of hin hcd) (hb _ _ _ _ ?_)
  refine wpAny_newFunctionEnv_cells S.kind kinds fun env he s1 z => ?_
  subst he
  refine ⟨nolim.keeps z.toInCall.keep, codeAny_func ?_⟩
  obtain ⟨t, ht, hq⟩ := body f A out s H vs Q E hg (hr.deeper _) hsp
  have I := inv_start (CX := L2.CX0) (E := E) (f := f) (cd := .ref c) (qual := x) S hr.hd e0 (many _ _ _ _ hsp) r z
  refine wpAny_mono (ht.nox.run [] s1 (start N vs) H _ I hq) ?_ (fun e s' hs => hs)
  intro fl s' hs
  have ends : ∀ {σ' : L2.St} {H' : Hp} {v : V} {u : Value}, Inv (cxOf L2.CX0 P w K mg base N x (L2.defScope st) f (.ref c) A out s H E) [] σ' H' s' → RelV v u → Q v H' → CE out P w H s Q u s' := by
    intro σ' H' v u J rv q
    exact ⟨v, H', J.os, J.bare, J.base, J.hok, rv, q⟩
  cases fl with
  | ret u => exact let ⟨v, σ', H', J, rv, q⟩ := hs; ends J rv q
  | next => exact let ⟨σ', H', J, q⟩ := hs; ends (v := V.non) (u := Value.none) J rfl q
  | brk => exact let ⟨_, _, _, q⟩ := hs; q.elim
  | cont => exact let ⟨_, _, _, q⟩ := hs; q.elim
end
/-! ### the def that calls what it got -/
/-- x() within a try, x the lambda handed in (slot 0) -/
def tAct (f c' : Addr) (q : Str) (tl : XK → Hp → VK → Prop) (W : WX) : TE := fun σ H Q => ∃ Ech : XK, (∀ cls d σ' H', Ech cls d H' → W cls d σ' H') ∧ σ[0]? = some (some (.ref f)) ∧ H c' = some (CodeO c' q) ∧ tl Ech H Q
theorem pe_actE {Y : Cx} {f c' : Addr} {q : Str} {tl : XK → Hp → VK → Prop} {W : WX} {e : Expr}
    (act : ∀ E : XK, (∀ cls d σ' H', E cls d H' → W cls d σ' H') → PE Y e (fun σZ HZ Q => σZ[0]? = some (some (.ref f)) ∧ HZ c' = some (CodeO c' q) ∧ tl E HZ Q)) : PE Y e (tAct f c' q tl W) :=
  ⟨fun pins s σ H Q I ⟨Ech, hW, h1, h2, h3⟩ => (act Ech hW).run pins s σ H Q I ⟨h1, h2, h3⟩⟩
/-! ### the lambda's body: a call of a def that may raise -/
theorem lam_takes {X : Cx} {A : Around} {outer : List Env} {s : Shared} {H : Hp} {E : XK} {scope : Scope} {f c' : Addr} : Takes (lamCx X A outer s H E scope f c') (fun cls d _ H => E cls d H) :=
  takes_of rfl rfl rfl rfl
/-! ### the end of a law row: tables stand beside the script -/
theorem glawT {P : Program} {w : World} {K : PySem.W.Frag} {mg mb : Str → Option Value} {k : Nat} {fa a : Addr} {fd : FuncData} {x : Str} {sp : Sp} {s₁ : Shared} {vs : List Value} {ns : List Int} (cs : List (Addr × Addr))
    (KX : K.In s₁.heap) (hns : s₁.heap.Ns mainGlobals mg) (hb : s₁.heap.Ns builtinsNs mb) (hbb : ∀ x : Str, x ≠ "__name__" → mb x = bootBuiltins x) (hlim : s₁.heap.NoLimit) (hg : s₁.gens = #[])
    (hT : ∀ p ∈ cs, s₁.heap.get? p.2 = some { cls := .none, data := .fields #[] }) (nT : ∀ p ∈ cs, K.lookup p.2 = none) (hC : ∀ p ∈ cs, PySem.W.CodeHd s₁.heap p.1 p.2)
    (hbm : ∃ (bm : Addr) (ob : Obj), mg "__builtins__" = some (.ref bm) ∧ bm ≠ builtinsNs ∧ s₁.heap.get? bm = some ob ∧ ob.cls = .type "module" ∧ ob.dict = some builtinsNs ∧ ob.data = .plain)
    (ha : s₁.heap.get? a = some { cls := .type "list", data := .seq vs.toArray }) (hi : IntsAre vs ns) (hl : ns.length ≤ sizeLine) (hr : Room k callerA)
    (F : ∀ base : Heap, K.In base → base.Ns mainGlobals mg → (∀ p ∈ cs, TabB base mg p.1 p.2) → FnG P w K mg base k fa fd [x] sp) (hbind : ∀ (s : Shared) (u : Value), BindsTo s fd ⟨[u], []⟩ [(x, u)])
    (hsp : ∀ H : Hp, (∀ p ∈ cs, H p.2 = some (.tbl #[])) → SqL K H a (ns.map V.int) → sp [.ref a] H (fun v _ => v = .bl true) fun _ _ _ => False) :
    codeAny (model P w) callerA (.call (.ref fa) ⟨[.ref a], []⟩) (fun r s' => r = .ok (.ret (.bool true)) ∧ OldK s₁.heap s'.heap ∧ s'.os = s₁.os ∧ AllBare s'.gens) s₁ := by
  have rv := vals_ints hi
  let tabs : List Addr := cs.map (·.2)
  have tabAt : ∀ b ∈ tabs, s₁.heap.get? b = some { cls := .none, data := .fields #[] } := by
    intro b hb'
    obtain ⟨p, hp, rfl⟩ := List.mem_map.mp hb'
    exact hT p hp
  have tabIn : ∀ p ∈ cs, p.2 ∈ tabs := fun p hp => List.mem_map.mpr ⟨p, hp, rfl⟩
  have aOff : a ∉ tabs := by
    intro m
    have e := (tabAt a m).symm.trans ha
    have e2 := congrArg (fun o => (Option.map Obj.data o)) e
    simp at e2
  have heart : ∀ H : Hp, (∀ p ∈ cs, H p.2 = some (.tbl #[])) → (∀ b u, H b = some u → (b ∈ tabs ∧ u = .tbl #[]) ∨ (b = a ∧ ∃ o xs, u = .frz o (.lst xs))) → SqL K H a (ns.map V.int) → HOk P w H s₁.heap → (H a ≠ none → K.lookup a = none) →
      codeAny (model P w) callerA (.call (.ref fa) ⟨[.ref a], []⟩) (fun r s' => r = .ok (.ret (.bool true)) ∧ OldK s₁.heap s'.heap ∧ s'.os = s₁.os ∧ AllBare s'.gens) s₁ := by
    intro H hH hO hS hok hK
    have stays : ∀ {b : Addr} {o : Obj}, s₁.heap.get? b = some o → H b = none → (hidT s₁.heap H).get? b = some o := fun q n => hidT_get q n
    have off : ∀ {b : Addr} {o : Obj}, s₁.heap.get? b = some o → (∀ us n, o.data ≠ .seq us n) → o.data ≠ .fields #[] → H b = none := by
      intro b o q d1 d2
      cases z : H b with
      | none => rfl
      | some u =>
        rcases hO b u z with ⟨m, _⟩ | ⟨e, _⟩
        · have eo := Option.some.inj (q.symm.trans (tabAt b m))
          rw [eo] at d2
          exact absurd rfl d2
        · rw [e] at q
          have eo := Option.some.inj (q.symm.trans ha)
          rw [eo] at d1
          exact absurd rfl (d1 _ _)
    have dictOff : ∀ {b : Addr} {o : Obj} {es : Array DictEntry} {ep : Nat}, s₁.heap.get? b = some o → o.data = .dict es ep → H b = none := fun q d => off q (fun _ _ z => by rw [d] at z; cases z) (fun z => by rw [d] at z; cases z)
    have nsIn : ∀ {b : Addr} {m : Str → Option Value}, s₁.heap.Ns b m → (hidT s₁.heap H).Ns b m := fun ⟨o, es, ep, q, d, r⟩ => ⟨o, es, ep, stays q (dictOff q d), d, r⟩
    have kIn : K.In (hidT s₁.heap H) := by
      intro b o q
      refine stays (KX b o q) ?_
      cases z : H b with
      | none => rfl
      | some u =>
        rcases hO b u z with ⟨m, _⟩ | ⟨e, _⟩
        · obtain ⟨p, hp, ep⟩ := List.mem_map.mp m
          have := nT p hp
          rw [ep, q] at this
          cases this
        · subst e
          have := hK (by rw [z]; exact fun y => nomatch y)
          rw [this] at q
          exact nomatch q
    have hM : Mod K mg (hidT s₁.heap H) := by
      obtain ⟨mc, l1, l2⟩ := hlim
      exact ⟨kIn, nsIn hns, ⟨mb, nsIn hb, hbb⟩, ⟨mc, nsIn l1, l2⟩⟩
    have hTB : ∀ p ∈ cs, TabB (hidT s₁.heap H) mg p.1 p.2 := by
      intro p hp
      have hTp := hT p hp
      refine ⟨?_, ?_, fun z => ?_⟩
      · obtain ⟨o, us, file, tf, flags, tg, inF, text, tt, e1, r1, r2, r3, rest⟩ := hC p hp
        refine ⟨o, us, file, tf, flags, tg, inF, text, tt, stays e1 (off e1 (fun _ _ z => by rw [r2] at z; cases z) (fun z => ?_)), r1, r2, r3, rest⟩
        rw [r2] at z
        cases z
        simp at r3
      · obtain ⟨bm, ob, b1, b2, b3, b4, b5, b6⟩ := hbm
        have nG : bm ≠ mainGlobals := by
          intro q
          obtain ⟨o, es, ep, e, hd, _⟩ := hns
          rw [q, e] at b3
          cases b3
          rw [hd] at b6
          cases b6
        have nP : bm ≠ p.2 := by
          intro q
          rw [q, hTp] at b3
          cases b3
          cases b6
        exact ⟨bm, ob, b1, b2, nG, nP, stays b3 (off b3 (fun _ _ z => by rw [b6] at z; cases z) (fun z => by rw [b6] at z; cases z)), b4, b5, b6⟩
      · obtain ⟨o, es, ep, e, hd, _⟩ := hns
        rw [z, hTp] at e
        cases e
        cases hd
    have e0 : Env0 P w K mg (hidT s₁.heap H) callerA [] s₁ H :=
      ⟨rfl, hM, fun b o q => of_hidT q, Nat.le_of_eq (hidT_size _ _), trivial, fun b hb => absurd (show b ∈ ([] : List Addr) from hb) List.not_mem_nil, hok, .of_eq hg⟩
    refine codeAny_mono ((F _ kIn (nsIn hns) hTB).goes callerA [] s₁ H ⟨[.ref a], []⟩ [.ref a] [.ref a] _ _ rfl hr e0 (hbind s₁ (.ref a)) (.cons rfl .nil) (hsp H hH hS)) ?_
    intro r s' h
    cases r with
    | error e => exact h.elim
    | ok fl =>
      cases fl with
      | next => exact h.elim
      | brk => exact h.elim
      | cont => exact h.elim
      | ret u =>
        obtain ⟨v, H', os, bare, un, hok', rr, q⟩ := h
        have q' : v = V.bl true := q
        subst q'
        have eu : u = Value.bool true := rr
        subst eu
        have grown : ∀ p ∈ cs, ∃ more : Array Value, s'.heap.get? p.2 = some { cls := .none, data := .fields more } := by
          intro p hp
          obtain ⟨more, z⟩ := un.tbls p.2 #[] (hH p hp)
          exact ⟨_, hok' p.2 _ z⟩
        have kept : ∀ b o, b ∉ tabs → s₁.heap.get? b = some o → s'.heap.get? b = some o := by
          intro b o nb q
          cases z : H b with
          | none => exact un.keep b o q z (fun y => absurd (show b ∈ ([] : List Addr) from y) List.not_mem_nil) (fun y => absurd y List.not_mem_nil)
          | some u =>
            rcases hO b u z with ⟨m, _⟩ | ⟨_, ob, xs, y⟩
            · exact absurd m nb
            · subst y
              obtain ⟨e1, _⟩ := hok b _ z
              obtain ⟨e2, _⟩ := hok' b _ (un.frzs b ob _ z)
              have eo := Option.some.inj (q.symm.trans e1)
              rw [eo]
              exact e2
        refine ⟨rfl, ⟨fun b o q => ?_, fun b o q => ?_⟩, os, bare⟩
        · by_cases m : b ∈ tabs
          · obtain ⟨p, hp, ep⟩ := List.mem_map.mp m
            obtain ⟨more, hm⟩ := grown p hp
            rw [← ep] at q ⊢
            rw [hT p hp] at q
            cases q
            exact .inr (.inl ⟨((hC p hp).tab (hT p hp)).isCodeTable, rfl, #[], more, rfl, by rw [Array.empty_append]; exact hm⟩)
          · exact .inl (kept b o m q)
        · by_cases m : b ∈ tabs
          · obtain ⟨p, hp, ep⟩ := List.mem_map.mp m
            obtain ⟨more, hm⟩ := grown p hp
            rw [← ep]
            exact ⟨_, hm⟩
          · exact ⟨o, kept b o m q⟩
  let H0 : Hp := fun b => if b ∈ tabs then some (.tbl #[]) else none
  have H0t : ∀ b ∈ tabs, H0 b = some (.tbl #[]) := fun b m => if_pos m
  have H0n : ∀ b, b ∉ tabs → H0 b = none := fun b m => if_neg m
  cases hk : K.lookup a with
  | some o =>
    have eo := Option.some.inj ((KX a o hk).symm.trans ha)
    subst eo
    refine heart H0 (fun p hp => H0t _ (tabIn p hp)) (fun b u z => ?_) (.inr ⟨_, vs.toArray, _, hk, rfl, rfl, rfl, by rw [List.size_toArray, hi.length]; exact hl, by simpa using rv⟩) (fun b u z => ?_) (fun z => absurd (H0n a aOff) z)
    · by_cases m : b ∈ tabs
      · rw [H0t b m] at z
        cases z
        exact .inl ⟨m, rfl⟩
      · rw [H0n b m] at z
        cases z
    · by_cases m : b ∈ tabs
      · rw [H0t b m] at z
        cases z
        exact tabAt b m
      · rw [H0n b m] at z
        cases z
  | none =>
    let fz : HO := .frz { cls := .type "list", data := .seq vs.toArray } (.lst (ns.map V.int))
    let H1 : Hp := fun b => if b = a then some fz else H0 b
    have H1a : H1 a = some fz := if_pos rfl
    have H1n : ∀ b, b ≠ a → H1 b = H0 b := fun b m => if_neg m
    have ne : ∀ b ∈ tabs, b ≠ a := fun b m z => aOff (by rw [← z]; exact m)
    refine heart H1 (fun p hp => by rw [H1n _ (ne _ (tabIn p hp))]; exact H0t _ (tabIn p hp)) (fun b u z => ?_) (.inl (.inr ⟨{ cls := .type "list", data := .seq vs.toArray }, H1a⟩)) (fun b u z => ?_) (fun _ => hk)
    · by_cases e : b = a
      · rw [e, H1a] at z
        cases z
        exact .inr ⟨e, _, _, rfl⟩
      · rw [H1n b e] at z
        by_cases m : b ∈ tabs
        · rw [H0t b m] at z
          cases z
          exact .inl ⟨m, rfl⟩
        · rw [H0n b m] at z
          cases z
    · by_cases e : b = a
      · rw [e, H1a] at z
        cases z
        rw [e]
        exact ⟨ha, by rw [List.length_map]; exact hl, vs, _, rv, ha⟩
      · rw [H1n b e] at z
        by_cases m : b ∈ tabs
        · rw [H0t b m] at z
          cases z
          exact tabAt b m
        · rw [H0n b m] at z
          cases z
theorem gwalkT {l : PySem.W.OpenLaw} {n k : Nat} {q : Program} {loose : List Str} {XP : (Str → Option Value) → Heap → Prop} {YP : World → Heap → Prop} {d : DefRec} {K : Params → PySem.W.Frag} {x : Str}
    (hn : l.most = some n) (hn2 : n ≤ sizeLine) (hdf : d.params.defaults = []) (hr : Room k callerA) (hY : ∀ (w : World) (h : Heap), YP w h → (K w.params).In h)
    (F : ∀ (w : World) (mg : Str → Option Value) (fa : Addr) (h : Heap), YP w h → (K w.params).In h → h.Ns mainGlobals mg → mg d.name = some (.ref fa) →
      ∃ (fd : FuncData) (cs : List (Addr × Addr)) (sp : Sp), (∀ p ∈ cs, h.get? p.2 = some { cls := .none, data := .fields #[] }) ∧ (∀ p ∈ cs, (K w.params).lookup p.2 = none) ∧ (∀ p ∈ cs, PySem.W.CodeHd h p.1 p.2) ∧ (∀ (s : Shared) (u : Value), BindsTo s fd ⟨[u], []⟩ [(x, u)]) ∧
        (∀ (H : Hp) (a : Addr) (ns : List Int), ns.length ≤ n → (∀ p ∈ cs, H p.2 = some (.tbl #[])) → SqL (K w.params) H a (ns.map V.int) → sp [.ref a] H (fun v _ => v = .bl true) fun _ _ _ => False) ∧
        ∀ base : Heap, (K w.params).In base → base.Ns mainGlobals mg → (∀ p ∈ cs, TabB base mg p.1 p.2) → FnG l.prog w (K w.params) mg base k fa fd [x] sp) :
    PySem.W.WalkO q loose XP YP l.row.toRowW d [] (fun f vs => PySem.call f vs) := by
  refine Att.attach_callB hn hdf fun w s₀ s₁ mg mb fa o pm cd doc a vs ns G Y ho hd hcd hmg hobj hints hlen _ hg => ?_
  have KX := hY w _ Y
  obtain ⟨fd, cs, sp, h1, h2, h3, h4, h5, h6⟩ := F w mg fa _ Y KX G.T.g hmg
  exact glawT cs KX G.T.g G.T.b G.T.builtins G.T.nolimit hg h1 h2 h3 G.T.bmain hobj hints (Nat.le_trans hlen hn2) hr h6 h4 fun H hH hS => h5 H a ns hlen hH hS
/-! ### a def that calls the lambda it gets, by its name -/
structure CalL (P : Program) (w : World) (K : PySem.W.Frag) (mg : Str → Option Value) (base : Heap) (x : Str) (TT : (XK → Hp → VK → Prop) → Hp → VK → Prop) : Prop where
  ex : ∃ (g : Addr) (oc : Value) (od : Option Addr) (kV doc pm : Value) (an : Option Addr) (cdv ct : Value) (osl : Array (Option Value)) (st : Stmt) (Ng : List Str) (a : Str),
    K.lookup g = some ⟨oc, od, .func (PySem.W.fnOf x x (L2.defArgs st) (L2.defBody st) (L2.defScope st) .none kV doc pm an cdv ct), osl⟩ ∧ PySem.W.codeIn K cdv x = true ∧ PySem.W.keepIn K (.ref g) = true ∧ mg x = some (.ref g) ∧
    Binds K (PySem.W.fnOf x x (L2.defArgs st) (L2.defBody st) (L2.defScope st) .none kV doc pm an cdv ct) [a] [] ∧ FnScope Ng [a] (L2.defScope st) ∧ Ng[0]? = some a ∧ Vis (L2.defScope st) a ∧ (a == ("__debug__" : Str)) = false ∧ (a == ("__classdict__" : Str)) = false ∧
    ∀ (X : Cx) (q : Str), X.prog = P → X.w = w → X.K = K → X.mg = mg → X.base = base → GivesTo X Ng x (L2.defScope st) g cdv (L2.defBody st) a q TT
theorem pe_l {X : Cx} {T : List (Addr × Str)} {TT : (XK → Hp → VK → Prop) → Hp → VK → Prop} {x : Str} {c P : Addr} (k : Nat) {j : Nat} {params : Arguments} {body : Expr} {scope : Scope} {t : XK → TE} {p lpos pos : Pos} (cl : CalL X.prog X.w X.K X.mg X.base x TT) (hg : Gl X x)
    (TB : TabB X.base X.mg c P) (hcode : X.env.code = .ref c) (hmT : T = [(P, X.env.qual ++ "<lambda>")]) (hr : Room j X.A) (hk : k + 2 ≤ j) (L : LamS X.env.scope scope) (hdef : defaultsOf params X.env = ([], []))
    (hbind : ∀ (q : Str) (cl : List (Str × Addr)) (pm cv ctv : Value), bindArgs (PySem.W.kla_fn "<lambda>" q params body scope cl pm cv ctv) ⟨[], []⟩ = pure [])
    (hbody : ∀ (A : Around) (outer : List Env) (s : Shared) (H : Hp) (E : XK) (f c' : Addr), Room k (A.deeper (lamEnv X scope s.heap.objs.size f c')) → PE (lamCx X A outer s H E scope f c') body (t E))
    (hdb : (x == ("__debug__" : Str)) = false := by decide) :
    PE X (.Call (.Name x p) [.Lambda params body scope lpos] [] pos) (tLam T TT t) := by
  obtain ⟨g, oc, od, kV, doc, pm, an, cdv, ct, osl, st, Ng, a, lk, hcd, kp, hm, b, S, h0, hv, hd, hcl, hG⟩ := cl.ex
  subst hmT
  exact LamX.pe_lamcall (k := k) hg hm kp lk hcd b S h0 hv (hG X _ rfl rfl rfl rfl rfl) TB hcode (by simp) (fun p hp _ => by rw [List.mem_singleton.mp hp]) (hr.mono hk) L hdef hbind hbody hdb hd hcl
theorem calL_of {P : Program} {w : World} {K : PySem.W.Frag} {mg : Str → Option Value} {base : Heap} {x a : Str} {st : Stmt} {N : List Str} {TT : (XK → Hp → VK → Prop) → Hp → VK → Prop} (D : Def K mg x st) (S : FnScope N [a] (L2.defScope st)) (h0 : N[0]? = some a) (hv : Vis (L2.defScope st) a)
    (bd : ∀ (kV doc pm : Value) (an : Option Addr) (cdv ct : Value) (us : List Value), us.length = ([a] : List Str).length → bindArgs (PySem.W.fnOf x x (L2.defArgs st) (L2.defBody st) (L2.defScope st) .none kV doc pm an cdv ct) ⟨us, []⟩ = pure (([a] : List Str).zip us))
    (body : ∀ (X : Cx) (q : Str), X.prog = P → X.w = w → X.K = K → X.mg = mg → X.base = base → ∀ (g : Addr) (cdv : Value) (f c' : Addr) (s : Shared) (H : Hp) (Q : VK) (tl : XK → Hp → VK → Prop),
      (∀ (W : WX) (pn : List (Addr × Obj)) (xe : Value → Shared → Prop) (E : XK) (p1 p2 : Pos), Takes ((cxOf L2.CX0 P w K mg base N x (L2.defScope st) g cdv X.A X.stack s H L2.E0).tr pn xe) W → (∀ cls d σ' H', E cls d H' → W cls d σ' H') →
        PE ((cxOf L2.CX0 P w K mg base N x (L2.defScope st) g cdv X.A X.stack s H L2.E0).tr pn xe) (.Call (.Name a p1) [] [] p2) (fun σZ HZ Q => σZ[0]? = some (some (.ref f)) ∧ HZ c' = some (CodeO c' q) ∧ tl E HZ Q)) →
      H c' = some (CodeO c' q) → TT tl H Q → ∃ t, PSs (cxOf L2.CX0 P w K mg base N x (L2.defScope st) g cdv X.A X.stack s H L2.E0).nox (L2.defBody st) t ∧ t { nx := fun _ H' => Q .non H', rt := Q } (L2.start N [.ref f]) H)
    (hd : (a == ("__debug__" : Str)) = false := by decide) (hcl : (a == ("__classdict__" : Str)) = false := by decide) : CalL P w K mg base x TT := by
  obtain ⟨g, fd, F, hm⟩ := D.ex
  obtain ⟨oc, od, kV, doc, pm, an, cdv, ct, osl, rfl, lk, hcd⟩ := F.ex
  refine ⟨g, oc, od, kV, doc, pm, an, cdv, ct, osl, st, N, a, lk, hcd, F.kp, hm, .all (bd kV doc pm an cdv ct), S, h0, hv, hd, hcl, ?_⟩
  intro X q e1 e2 e3 e4 e5
  subst e1 e2 e3 e4 e5
  intro f c' s H Q tl act hc h
  exact body X q rfl rfl rfl rfl rfl g cdv f c' s H Q tl (fun W pn xe E p1 p2 tk hW => act W pn xe E p1 p2 tk hW) hc h
theorem lam_scope {sc0 sc scope : Scope} (e : sc0 = sc) (h : lamSB sc scope = true) : LamS sc0 scope := by
  rw [e]
  exact lamS_by h
end Ft

set_option Elab.async false
set_option linter.all false
set_option maxRecDepth 100000
set_option maxHeartbeats 4000000
namespace Ft
open PySem PySem.Spec PyProof.Rows L2
open LamX (TabB TabS Tabs ExtN CodeO)
/-! ### data of small numbers and short texts: what repr shows of it -/
def shortS (z : Str) : Bool := decide (z.cps.size ≤ 32) && z.cps.toList.all fun c => decide (c < 16 ^ 8)
mutual
def tame : PyData → Bool
  | .int i => decide (i.natAbs ≤ 1000)
  | .str z => shortS z
  | .list ds => tames ds
  | .tuple ds => tames ds
  | .dict _ => false
  | .none => true
  | .bool _ => true
def tames : List PyData → Bool
  | [] => true
  | d :: ds => tame d && tames ds
end
mutual
def nodes : PyData → Nat
  | .list ds => 1 + nodess ds
  | .tuple ds => 1 + nodess ds
  | _ => 1
def nodess : List PyData → Nat
  | [] => 0
  | d :: ds => nodes d + nodess ds
end
theorem tame_pos : ∀ n : Fin 1001, (PyData.int ((n.1 : Nat) : Int)).showable = true ∧ (PyData.int ((n.1 : Nat) : Int)).leavesShort 13 = true ∧ (PyData.int ((n.1 : Nat) : Int)).weight ≤ 11 := by decide +kernel
theorem tame_neg : ∀ n : Fin 1001, (PyData.int (-((n.1 : Nat) : Int))).showable = true ∧ (PyData.int (-((n.1 : Nat) : Int))).leavesShort 13 = true ∧ (PyData.int (-((n.1 : Nat) : Int))).weight ≤ 11 := by decide +kernel
theorem tame_int {i : Int} (h : i.natAbs ≤ 1000) : (PyData.int i).showable = true ∧ (PyData.int i).leavesShort 13 = true ∧ (PyData.int i).weight ≤ 11 := by
  rcases Int.natAbs_eq i with e | e
  · rw [e]
    exact tame_pos ⟨i.natAbs, by omega⟩
  · rw [e]
    exact tame_neg ⟨i.natAbs, by omega⟩
mutual
theorem tame_facts : ∀ d : PyData, tame d = true → d.showable = true ∧ d.leavesShort 13 = true ∧ d.weight + 1 ≤ 33 * nodes d
  | .none, _ => by simp [PyData.showable, PyData.leavesShort, PyData.weight, nodes]
  | .bool _, _ => by simp [PyData.showable, PyData.leavesShort, PyData.weight, nodes]
  | .int i, h => by
    simp only [tame, decide_eq_true_eq] at h
    obtain ⟨a, b, c⟩ := tame_int h
    refine ⟨a, b, ?_⟩
    simp only [nodes]
    omega
  | .str z, h => by
    simp only [tame, shortS, Bool.and_eq_true, decide_eq_true_eq] at h
    simp only [PyData.showable, PyData.leavesShort, PyData.weight, nodes]
    exact ⟨trivial, h.2, by have := h.1; omega⟩
  | .list ds, h => by
    simp only [tame] at h
    obtain ⟨a, b, c⟩ := tames_facts ds h
    simp only [PyData.showable, PyData.leavesShort, PyData.weight, nodes]
    exact ⟨a, b, by omega⟩
  | .tuple ds, h => by
    simp only [tame] at h
    obtain ⟨a, b, c⟩ := tames_facts ds h
    simp only [PyData.showable, PyData.leavesShort, PyData.weight, nodes]
    exact ⟨a, b, by omega⟩
  | .dict _, h => by simp [tame] at h
theorem tames_facts : ∀ ds : List PyData, tames ds = true → PyData.showableAll ds = true ∧ PyData.leavesShortAll 13 ds = true ∧ PyData.weightAll ds ≤ 33 * nodess ds
  | [], _ => by simp [PyData.showableAll, PyData.leavesShortAll, PyData.weightAll]
  | d :: ds, h => by
    simp only [tames, Bool.and_eq_true] at h
    obtain ⟨a1, b1, c1⟩ := tame_facts d h.1
    obtain ⟨a2, b2, c2⟩ := tames_facts ds h.2
    simp only [PyData.showableAll, PyData.leavesShortAll, PyData.weightAll, nodess, a1, a2, b1, b2]
    exact ⟨rfl, rfl, by omega⟩
end
theorem shows_tame {d : PyData} (h : tame d = true) (few : nodes d ≤ 20000) (dp : d.depth ≤ 60) : Shows d := by
  obtain ⟨a, b, c⟩ := tame_facts d h
  exact ⟨a, b, by omega, dp⟩
/-! ### what stays where all but tables stay -/
theorem ext_sqT {K : PySem.W.Frag} {H H' : Hp} (e : ExtN H H') {a : Addr} {xs : List V} (h : SqT K H a xs) : SqT K H' a xs := by
  rcases h with (h | ⟨o, h⟩) | h
  · exact .inl (.inl (e _ _ h fun ps z => by cases z))
  · exact .inl (.inr ⟨o, e _ _ h fun ps z => by cases z⟩)
  · exact .inr h
theorem ext_sqL {K : PySem.W.Frag} {H H' : Hp} (e : ExtN H H') {a : Addr} {xs : List V} (h : SqL K H a xs) : SqL K H' a xs := by
  rcases h with (h | ⟨o, h⟩) | h
  · exact .inl (.inl (e _ _ h fun ps z => by cases z))
  · exact .inl (.inr ⟨o, e _ _ h fun ps z => by cases z⟩)
  · exact .inr h
mutual
theorem dp_ext {K : PySem.W.Frag} {H H' : Hp} (e : ExtN H H') : ∀ (d : PyData) (v : V), Dp K H v d → Dp K H' v d
  | .none, _, h => by cases h; exact .non
  | .bool _, _, h => by cases h; exact .bl _
  | .int _, _, h => by cases h; exact .int _
  | .str _, _, h => by cases h; exact .str _
  | .list ds, _, h => by
    cases h with
    | lst h a => exact .lst (ext_sqL e h) (dp_exts e ds _ a)
  | .tuple ds, _, h => by
    cases h with
    | tup h a => exact .tup (ext_sqT e h) (dp_exts e ds _ a)
  | .dict _, _, h => by cases h
theorem dp_exts {K : PySem.W.Frag} {H H' : Hp} (e : ExtN H H') : ∀ (ds : List PyData) (vs : List V), DpAll K H vs ds → DpAll K H' vs ds
  | [], _, h => by cases h; exact .nil
  | d :: ds, _, h => by
    cases h with
    | cons h1 h2 => exact .cons (dp_ext e d _ h1) (dp_exts e ds _ h2)
end
theorem ext_same {H H' : Hp} (s : Same H H') : ExtN H H' := ExtN.of fun b o h => s b o h
theorem ext_chart {K : PySem.W.Frag} {H H' : Hp} (e : ExtN H H') {c : Addr} {C : Chart} (h : IsChart K H c C) : IsChart K H' c C := by
  obtain ⟨c2, e2, h2⟩ := chart_dp (dp_ext e _ _ (dp_chart h))
  cases e2
  exact h2
theorem tabs_same {T : List (Addr × Str)} {H H' : Hp} (t : Tabs T H) (s : Same H H') : Tabs T H' := t.ext fun b o h => s b o h
/-- lists change, tables don't -/
theorem tabs_kp {T : List (Addr × Str)} {H H' : Hp} {ex : List Addr} (t : Tabs T H) (k : Kp ex H H') (l : ∀ b ∈ ex, ∃ xs, H b = some (.lst xs)) : Tabs T H' := by
  intro p hp
  obtain ⟨ps, h1, h2, h3⟩ := t p hp
  have n1 : p.1 ∉ ex := fun m => by
    obtain ⟨xs, e⟩ := l _ m
    rw [h1] at e
    cases e
  refine ⟨ps, k _ _ n1 h1, h2, fun pos cv hc => ?_⟩
  obtain ⟨c, e1, e2⟩ := h3 pos cv hc
  have n2 : c ∉ ex := fun m => by
    obtain ⟨xs, e⟩ := l _ m
    rw [e2] at e
    unfold LamX.CodeO at e
    cases e
  exact ⟨c, e1, k _ _ n2 e2⟩
/-! ### tuples joined and cut -/
theorem catA_of {K : PySem.W.Frag} {a b : Addr} {xs ys : List V} {H : Hp} {Q : VK} (hx : SqT K H a xs) (hy : SqT K H b ys) (hl : xs.length + ys.length ≤ 1000) (q : ∀ p H', Same H H' → SqT K H' p (xs ++ ys) → Q (.ref p) H') : rCatA K (.ref a) (.ref b) H Q := by
  have big : (1000 : Nat) ≤ sizeLine := by decide
  refine ⟨a, b, xs, ys, rfl, rfl, hx, hy, by omega, fun e => ?_, fun _ e => ?_, fun _ _ p hp => ?_⟩
  · subst e
    exact q b H (fun _ _ h => h) hy
  · subst e
    exact q a H (fun _ _ h => h) (by rw [List.append_nil]; exact hx)
  · exact q p _ (same_upd hp) (.inl (.inl upd_same))
def cutG {α : Type} (l : List α) (lo hi : Option Int) : List α := (l.drop (HT.sIx l.length 0 lo)).take (HT.sIx l.length l.length hi - HT.sIx l.length 0 lo)
theorem slA_of {K : PySem.W.Frag} {a : Addr} {xs : List V} {lo hi : Option Int} {H : Hp} {Q : VK} (h : SqT K H a xs) (q : ∀ p H', Same H H' → SqT K H' p (cutG xs lo hi) → Q (.ref p) H') : rSlA K (.ref a) lo hi H Q := by
  refine ⟨a, xs, rfl, h, fun ⟨e1, e2⟩ => ?_, fun _ p hp => q p _ (same_upd hp) (.inl (.inl upd_same))⟩
  refine q a H (fun _ _ h => h) ?_
  have : cutG xs lo hi = xs := by
    unfold cutG
    rw [e1, e2]
    simp
  rw [this]
  exact h
theorem no_part {σ : L2.St} {H : Hp} {k : Option Int → Hp → Prop} (h : k none H) : tNoPart σ H k := h
theorem cutG_take {α : Type} {l : List α} {k : Nat} : cutG l none (some (k : Int)) = l.take k := by
  unfold cutG
  rw [HT.sIx_none, HT.sIx_nat]
  simp only [List.drop_zero, Nat.sub_zero]
  rcases Nat.le_total k l.length with h | h
  · rw [Nat.min_eq_left h]
  · rw [Nat.min_eq_right h, List.take_of_length_le (Nat.le_refl _), List.take_of_length_le h]
theorem cutG_drop {α : Type} {l : List α} {k : Nat} : cutG l (some (k : Int)) none = l.drop k := by
  unfold cutG
  rw [HT.sIx_none, HT.sIx_nat]
  rcases Nat.le_total k l.length with h | h
  · rw [Nat.min_eq_left h, List.take_of_length_le (by rw [List.length_drop]; exact Nat.le_refl _)]
  · rw [Nat.min_eq_right h, List.drop_eq_nil_of_le (Nat.le_refl _), List.drop_eq_nil_of_le h]
    simp
theorem cutG_init {α : Type} {l : List α} : cutG l none (some (-1)) = l.take (l.length - 1) := by
  unfold cutG
  rw [HT.sIx_none]
  have e : HT.sIx l.length l.length (some (-1)) = l.length - 1 := by
    show (if (-1 : Int) < 0 then ((-1 : Int) + (l.length : Int)).toNat else min (-1 : Int).toNat l.length) = l.length - 1
    rw [if_pos (by omega)]
    omega
  rw [e]
  simp
theorem dpAll_app {K : PySem.W.Frag} {H : Hp} : ∀ {xs ys : List V} {ds es : List PyData}, DpAll K H xs ds → DpAll K H ys es → DpAll K H (xs ++ ys) (ds ++ es)
  | _, _, _, _, .nil, h => h
  | _, _, _, _, .cons a t, h => .cons a (dpAll_app t h)
theorem dpAll_take {K : PySem.W.Frag} {H : Hp} : ∀ {k : Nat} {xs : List V} {ds : List PyData}, DpAll K H xs ds → DpAll K H (xs.take k) (ds.take k)
  | 0, _, _, _ => by simp only [List.take_zero]; exact .nil
  | _ + 1, _, _, .nil => .nil
  | k + 1, _, _, .cons a t => .cons a (dpAll_take t)
theorem dpAll_drop {K : PySem.W.Frag} {H : Hp} : ∀ {k : Nat} {xs : List V} {ds : List PyData}, DpAll K H xs ds → DpAll K H (xs.drop k) (ds.drop k)
  | 0, _, _, h => h
  | _ + 1, _, _, .nil => .nil
  | k + 1, _, _, .cons a t => dpAll_drop (k := k) t
end Ft

set_option Elab.async false
set_option linter.all false
set_option maxRecDepth 100000
set_option maxHeartbeats 8000000
namespace Ft
open PySem PySem.Spec PyProof.Rows L2
/-! tuple * int, once or more often -/
theorem tuple_mul1 (l : Addr) (items : Array Value) (n : Nat) (dd : Option Addr) (sl : Array (Option Value)) (u : Tok) :
    Meets (Builtin.«tuple.__mul__» ⟨[.ref l, .int 1 u], []⟩) (fun _ R s => s.heap.get? l = some { cls := .type "tuple", dict := dd, data := .seq items n, slots := sl } ∧ R (.ok (.ret (Value.ref l))) { s with heap := s.heap, toks := s.toks }) :=
  .of_wp fun prog w A R s h => by
    obtain ⟨hp, g, d, tk, os⟩ := s
    obtain ⟨hl, h⟩ := h
    have f1 := AutoSeq1.idx_int
    have c0 : (decide ((1 : Int) < -(2 ^ 63)) || decide ((1 : Int) ≥ 2 ^ 63)) = false := by decide
    have c1 : (items.isEmpty || (1 : Int) == 1) = true := by simp
    wp_walk using wpAny_loadPart' hl
    repeat (first
      | (refine wpAny_ite_false (decide_eq_false (by rw [c0]; exact Bool.false_ne_true)) ?_; wp_walk using wpAny_loadPart' hl)
      | (refine wpAny_ite_true (decide_eq_true (by rw [c1])) ?_; wp_walk using wpAny_loadPart' hl))
    exact ⟨_, rfl, h⟩
def rRep1 (K : PySem.W.Frag) : R2 := fun x y H Q => ∃ l xs, x = .ref l ∧ y = .int 1 ∧ SqT K H l xs ∧ Q (.ref l) H
theorem op_rep1 {X : Cx} : OpR X (binaryOp .Mult) (rRep1 X.K) := by
  intro pins s σ H x y v u Q I rx ry h
  obtain ⟨l, xs, rfl, rfl, hT, q⟩ := h
  have rx' := rx
  cases rx
  obtain ⟨t, rfl⟩ := ry
  obtain ⟨its, r, ⟨⟨cls, dd, data, sl⟩, ho, hc, n, hd⟩, hs⟩ := I.tuple hT
  simp only at hc hd
  subst hc hd
  refine wpAny_binaryOp_repeat_ref (T := "tuple") (U := "int") (by decide) ⟨_, ho, rfl⟩ (fun s' => typeIs_int s' 1 t) noFill_tuple_mul F.fills_int_mul F.slot_int_rmul repeat_tuple F.slot_int_index.lookup
    (call_meets F.slot_int_rmul (typeIs_int s 1 t) F.entry_int_rmul (F.args_int_rmul_2 _ _) (int_rmul_tuple 1 t l its.toArray n dd sl)
      ⟨ho, rfl, ⟨_, ho, rfl⟩, call_meets F.slot_tuple_mul ⟨_, ho, rfl⟩ F.entry_tuple_mul (F.args_tuple_mul_2 _ _) (tuple_mul1 l its.toArray n dd sl t) ⟨ho, ?_⟩⟩)
  exact ⟨.ref l, H, I.tok _, rfl, q⟩
def rRepA (K : PySem.W.Frag) : R2 := fun x y H Q => ∃ l k xs, x = .ref l ∧ y = .int k ∧ SqT K H l xs ∧ xs ≠ [] ∧ 1 ≤ k ∧ k ≤ 1000 ∧ xs.length ≤ 1000 ∧ ∀ p H', Same H H' → SqT K H' p (List.replicate k.toNat xs).flatten → Q (.ref p) H'
theorem op_repA {X : Cx} : OpR X (binaryOp .Mult) (rRepA X.K) := by
  intro pins s σ H x y v u Q I rx ry h
  obtain ⟨l, k, xs, rfl, rfl, hT, ne, k1, k2, few, q⟩ := h
  by_cases e : k = 1
  · subst e
    refine op_rep1 pins s σ H _ _ _ _ Q I rx ry ⟨l, xs, rfl, rfl, hT, q l H (fun _ _ h => h) ?_⟩
    show SqT X.K H l (List.replicate 1 xs).flatten
    simpa using hT
  · exact op_repT pins s σ H _ _ _ _ Q I rx ry ⟨l, k, xs, rfl, rfl, hT, ne, by omega, k2, few, fun p hp => q p _ (same_upd hp) (.inl (.inl upd_same))⟩
open RZ in
theorem walk_zipT {K : PySem.W.Frag} {a b : Addr} {xs ys : List V} {n : Nat} (hn : n = min xs.length ys.length) : Walk (ItzT K a b) n (fun H => SqT K H a xs ∧ SqT K H b ys) (YPair (fun i => xs[i]?) (fun i => ys[i]?)) := by
  subst hn
  refine ⟨fun i _ hi q => ?_, fun _ q => ⟨xs, ys, q.1, q.2, by omega⟩, fun i H v H' _ q y => ?_⟩
  · have h1 : i < xs.length := by omega
    have h2 : i < ys.length := by omega
    exact ⟨xs, ys, xs[i], ys[i], q.1, q.2, by simp [h1], by simp [h2]⟩
  · obtain ⟨T, x, z, h1, h2, h3, h4, h5⟩ := y
    exact ⟨T, x, z, h1, h2, h3, h4 xs q.1, h5 ys q.2⟩
end Ft

set_option Elab.async false
set_option linter.all false
set_option maxRecDepth 100000
set_option maxHeartbeats 4000000
namespace Ft
open PySem PySem.Spec PyProof.Rows L2
/-- {el for ta in ia if ..}, ints: D the new set -/
def tSet1 (w : World) (wi : TI) (ga : TG) (tca : TT) (te : TE) (all : List Nat) : TE := fun σ H Q => wi σ H fun J Ha => ∀ D, Ha D = none → ∃ W : Nat → Nat → Hp → Prop, (∃ m, W 0 m (upd Ha D (SetO w D (fun _ => false) 0))) ∧ ∀ i m Hb, W i m Hb →
  (J.stop i Hb ∧ Q (.ref D) Hb) ∨ (J.go i Hb ∧ ∃ N : Hp → Prop, (∀ Hc, N Hc → ∃ m', m' < m ∧ W (i + 1) m' Hc) ∧ ∀ x Hc, J.yld i Hb x Hc → ga x (wipe σ all) Hc fun σa Hd => wipe σa all = wipe σ all ∧ tca σa Hd fun z He =>
    if z = true then te σa He fun v Hk => ∃ (c : Int) (S : Int → Bool) (n : Nat), v = .int c ∧ Hk D = some (SetO w D S n) ∧ n + 1 < scanBound ∧ N (upd Hk D (SetO w D (fun j => S j || decide (j = c)) (if S c = true then n else n + 1)))
    else N He)
section
variable {X : Cx}
theorem set1_core {pins : List (Addr × Obj)} {s : Shared} {σ : L2.St} {H : Hp} {Q : VK} {el ta ia : Expr} {ca : List Expr} {sco : Scope} {own : List (Str × Nat)} {at_ at2 : Pos} {wi : TI} {ga : TG} {tca : TT} {te : TE} {use : Option (Value → Sem Unit)} {Qf : Value → Shared → Prop}
    (calm : X.calm = true) (nd : X.N.Nodup) (I : Inv X pins σ H s) (pi : PI X ta ia wi) (ok : BlkOk X.N X.env.scope sco own) (pga : InBlk X sco fun Y => PG Y ta ga) (pta : InBlk X sco fun Y => PTs Y ca tca)
    (pel : InBlk X sco fun Y => PE Y el te) (fa : ∀ x, foldedSetIterable ia X.env x = pure x) (h : tSet1 X.w wi ga tca te (own.map (·.2)) σ H Q)
    (back : ∀ D C t m Ht, Inv X pins σ Ht t → Q (.ref D) Ht → t.heap.Ns C m → FpOk X pins Ht C → compPost (model X.prog X.w) X.A X.xe use Qf (.ref D) C (.ok .next) t) :
    wpAny (model X.prog X.w) X.A (comprehension (.SetComp el [⟨ta, ia, ca, 0⟩] sco at_) sco X.env at2 (newSet (.type "set")) false (eval ia X.env) use) Qf X.xe s := by
  have cells : ∀ y ∈ sco.names, y.2 = .free → ∃ c, X.env.cells.lookup y.1 = some c := fun y hy e => (ok.free y hy e).elim (fun k => I.ok.has _ (.inl k)) (fun k => I.ok.has _ (.inr k))
  refine wpAny_comprehension_free (use := use) rfl fa (closure_ok cells) ok.kind (fun y hy e => by rw [ok.uniq y hy, e]) (thn (pi.run pins s σ H _ I h) fun xv s1 hx => thn hx fun itv s2 h2 => ?_)
  obtain ⟨it, fp, tn, J, Ha, e, Ia, T, sta, fpa, q⟩ := h2
  subst e
  refine PpSet.newSet_ok (newEnv_comp ?_)
  obtain ⟨D, eD⟩ : ∃ D, s2.heap.objs.size = D := ⟨_, rfl⟩
  have free : Ha D = none := Ia.hok.fresh (Nat.le_of_eq eD)
  obtain ⟨W, ⟨m0, w0⟩, turn⟩ := q D free
  obtain ⟨s3, es3⟩ : ∃ s3 : Shared, ({ s2 with heap := s2.heap.push { cls := .type "set", dict := none, data := .set #[] 0 (.fresh 0 0 (!X.w.params.followText "set-order")) } } : Shared) = s3 := ⟨_, rfl⟩
  have I3 : Inv X pins σ (upd Ha D (SetO X.w D (fun _ => false) 0)) s3 := by
    subst es3 eD
    exact Ia.laid (t' := s2.toks) (fun b o e => Heap.get?_push_of_some _ e) (Nat.le_refl _) (setO_new (setR_fresh X.w))
  have push3 : s3.heap = s2.heap.push { cls := .type "set", dict := none, data := .set #[] 0 (.fresh 0 0 (!X.w.params.followText "set-order")) } := by rw [← es3]
  have below : ∀ b ∈ fp, b < s2.heap.objs.size := fun b hb => by
    obtain ⟨_, e, _⟩ := T.obj _ _ sta b hb
    exact Heap.lt_size e
  have fp3 : ∀ b ∈ fp, FpOk X pins (upd Ha D (SetO X.w D (fun _ => false) 0)) b ∧ b < s3.heap.objs.size := fun b hb => by
    have lt := below b hb
    refine ⟨⟨by rw [upd_ne (by rw [← eD]; exact Nat.ne_of_lt lt)]; exact (fpa b hb).1, (fpa b hb).2⟩, ?_⟩
    rw [push3, Heap.size_push]
    exact Nat.lt_succ_of_lt lt
  have st3 : tn 0 s3.heap := T.keep _ _ _ sta fun b _ o e => by rw [push3]; exact Heap.get?_push_of_some _ e
  have I4 := block_start I3 ok nd fp3
  obtain ⟨cl, ecl⟩ : ∃ cl, cellsFrom (s3.heap.objs.size + 1) sco.names (cloFrom X.env.cells sco.names []) = cl := ⟨_, rfl⟩
  rw [ecl] at I4
  have pga := pga s3 (upd Ha D (SetO X.w D (fun _ => false) 0)) s3.heap.objs.size cl fp
  have pta := pta s3 (upd Ha D (SetO X.w D (fun _ => false) 0)) s3.heap.objs.size cl fp
  have pel := pel s3 (upd Ha D (SetO X.w D (fun _ => false) 0)) s3.heap.objs.size cl fp
  have none3 : ∀ b ∈ fp, (upd Ha D (SetO X.w D (fun _ => false) 0)) b = none := fun b hb => (fp3 b hb).1.1
  rw [eD, es3, ecl]
  obtain ⟨ev, eev⟩ : ∃ ev, compEnvC sco cl s3.heap.objs.size X.env = ev := ⟨_, rfl⟩
  have loc : ev.locals = s3.heap.objs.size := by
    subst eev
    rfl
  rw [eev] at I4 pga pta pel
  obtain ⟨H3, eH3⟩ : ∃ H3, upd Ha D (SetO X.w D (fun _ => false) 0) = H3 := ⟨_, rfl⟩
  rw [eH3] at I3 I4 pga pta pel w0 none3 fp3
  obtain ⟨s4, es4⟩ : ∃ s4 : Shared, ({ s3 with heap := pushCells (s3.heap.push { cls := .type "dict", data := .dict #[] }) sco.names } : Shared) = s4 := ⟨_, rfl⟩
  rw [es4] at I4
  have st4 : tn 0 s4.heap := T.keep _ _ _ st3 fun b _ o e => by rw [← es4]; exact pushCells_keeps _ _ _ _ (Heap.get?_push_of_some _ e)
  have calmF : ∀ {σt : L2.St} {Ht : Hp} {t : Shared}, Inv (X.blk s3 H3 sco ev fp) [] σt Ht t → (∀ b ∈ fp, Ht b = none) → ∀ b ∈ fp, FpOk (X.blk s3 H3 sco ev fp) [] Ht b := by
    intro σt Ht t It none b hb
    refine ⟨none b hb, (It.ok.exf b hb).1, It.ok.exfs b hb, .inl hb, (fun x c e => (It.ok.exf b hb).2 x c e), fun p hp => ?_⟩
    have : p ∈ ([] : List (Addr × Obj)) ++ [] := hp
    simp at this
  suffices z : codeAny (model X.prog X.w) X.A (.compStart (.SetComp el [⟨ta, ia, ca, 0⟩] sco at_) 0 (.ref it) (.ref D) ev) (compPost (model X.prog X.w) X.A X.xe use Qf (.ref D) s3.heap.objs.size) s4 by
    rw [← es4, ← eev] at z
    exact z
  obtain ⟨vs, evs⟩ : ∃ vs, own.map (·.2) = vs := ⟨_, rfl⟩
  rw [evs] at turn I4
  have loop : codeAny (model X.prog X.w) X.A (.compLoop (.SetComp el [⟨ta, ia, ca, 0⟩] sco at_) 0 (.ref it) (.ref D) ev) (compPost (model X.prog X.w) X.A X.xe use Qf (.ref D) s3.heap.objs.size) s4 := by
    refine PpSet.compLoopS_any (fun k t => ∃ i Ht, Inv (X.blk s3 H3 sco ev fp) [] (wipe σ vs) Ht t ∧ tn i t.heap ∧ (∀ b ∈ fp, Ht b = none) ∧ W i k Ht) ?_ m0 ⟨0, H3, I4, st4, none3, w0⟩
    rintro k s5 ⟨i, H5, I5, st5, n5, w5⟩
    rcases turn i k H5 w5 with ⟨stop, over⟩ | ⟨go, N, less, step⟩
    · refine thnF (T.done (X.blk s3 H3 sco ev fp) rfl rfl rfl calm i [] s5 _ H5 (fun _ _ => False) I5 (calmF I5 n5) st5 stop) fun r s6 ⟨er, I6⟩ => ?_
      subst er
      have I7 : Inv X pins σ H5 s6 := I3.call' (ch := fp) I6.os I6.base I6.hok I6.bare fun b hb => by
        obtain ⟨⟨_, f1, f2, f3, f4, f5⟩, _⟩ := fp3 b hb
        exact ⟨f3, f1, f4, f5⟩
      have freeC : H5 s3.heap.objs.size = none := by
        rw [← loc]
        exact I6.free
      obtain ⟨m, hm, _⟩ := I6.loc
      have hm : s6.heap.Ns ev.locals m := hm
      rw [loc] at hm
      exact back D s3.heap.objs.size s6 m H5 I7 over hm (I3.fpOk (Nat.le_refl _) freeC)
    · refine thnF (T.item (X.blk s3 H3 sco ev fp) rfl rfl rfl calm i [] s5 _ H5 (fun _ _ => False) I5 (calmF I5 n5) st5 go) fun r s6 ⟨u, er, h6⟩ => ?_
      subst er
      refine thnF h6 fun _ s7 ⟨x, H7, I7, r7, y7, st7, n7⟩ => ?_
      have I7p := I7.pinned (calmF I7 n7) (T.obj _ _ st7)
      refine thnF (pga.run _ s7 _ H7 x u _ I7p r7 (step x H7 y7)) fun _ s8 ⟨σ8, H8, I8, w8, q8⟩ => thnF (pta.run _ s8 σ8 H8 _ I8 q8) fun z s9 ⟨H9, I9, q9⟩ => ?_
      have len8 : (wipe σ vs).length = σ8.length := by rw [← w8, wipe_length]
      have know8 : ∀ (j : Nat) v, (wipe σ vs)[j]? = some (some v) → σ8[j]? = some (some v) := fun j v e => by
        rw [← w8] at e
        exact (wipe_some e).1
      have fin : ∀ {t : Shared} {Ht : Hp}, Inv (X.blk s3 H3 sco ev fp) ([] ++ pinsAt fp s7.heap) σ8 Ht t → N Ht → ∃ m, m < k ∧ ∃ i Hu, Inv (X.blk s3 H3 sco ev fp) [] (wipe σ vs) Hu t ∧ tn i t.heap ∧ (∀ b ∈ fp, Hu b = none) ∧ W i m Hu := by
        intro t Ht It hN
        obtain ⟨m, lt, wm⟩ := less Ht hN
        have pinned : ∀ b ∈ fp, ∀ o, s7.heap.get? b = some o → t.heap.get? b = some o ∧ Ht b = none := fun b hb o e => by
          have z := It.pin (b, o) (List.mem_append_right _ (List.mem_append_right _ (mem_pinsAt hb e)))
          exact ⟨z.1, z.2.1⟩
        refine ⟨m, lt, i + 1, Ht, (It.unpinned (pins := [])).weak len8 know8, T.keep _ _ _ st7 fun b hb o e => (pinned b hb o e).1, fun b hb => ?_, wm⟩
        obtain ⟨o, e, _⟩ := T.obj _ _ st7 b hb
        exact (pinned b hb o e).2
      cases z with
      | false =>
        simp only [Bool.false_eq_true, if_false] at q9 ⊢
        exact fin I9 q9
      | true =>
        simp only [if_true] at q9 ⊢
        refine thnF (pel.run _ s9 σ8 H9 _ I9 q9) fun v s17 ⟨yv, H17, I17, r17, cc, S0, n0, ey, hD17, room, hM⟩ => ?_
        subst ey
        obtain ⟨tk, rfl⟩ := r17
        exact put_ok (X := X.blk s3 H3 sco ev fp) I17 hD17 room fun t It => fin It hM
  exact PpSet.codeAny_compStart_set loop (T.self X.A 0 _ _ _ st4 loop)
theorem pe_set1 {el ta ia : Expr} {ca : List Expr} {sco : Scope} {own : List (Str × Nat)} {at_ : Pos} {wi : TI} {ga : TG} {tca : TT} {te : TE} (calm : X.calm = true) (nd : X.N.Nodup) (pi : PI X ta ia wi) (ok : BlkOk X.N X.env.scope sco own)
    (pga : InBlk X sco fun Y => PG Y ta ga) (pta : InBlk X sco fun Y => PTs Y ca tca) (pel : InBlk X sco fun Y => PE Y el te)
    (fa : ∀ x, foldedSetIterable ia X.env x = pure x := by intro _; rfl) : PE X (.SetComp el [⟨ta, ia, ca, 0⟩] sco at_) (tSet1 X.w wi ga tca te (own.map (·.2))) := by
  refine ⟨fun pins s σ H Q I h => ?_⟩
  rw [PpSet.eval_SetComp]
  refine set1_core calm nd I pi ok pga pta pel fa h fun D C t m Ht It q hm fc => ⟨m, hm, fun h'' sb => ?_⟩
  obtain ⟨f0, f1, _, f3, f4, f5⟩ := fc
  exact ⟨.ref D, Ht, It.turned (t' := t.toks) (fun b o hb e => (sb.2 b hb).trans e) f0 f1 f3 f4 f5, rfl, q⟩
end
end Ft

set_option Elab.async false
set_option linter.all false
set_option maxRecDepth 100000
set_option maxHeartbeats 8000000
namespace Ft
open PySem PySem.Spec PyProof.Rows L2
open RZ
/-! ### later standings -/
/-- the places at which a thread of this place is in later standings -/
noncomputable def laterL (C : Chart) (a : Nat) : List Nat := pieceOf C a ++ metU C [a]
/-- their least places -/
noncomputable def firstsOf (C : Chart) (a : Nat) : List Nat := those C.n fun f => ∃ b ∈ laterL C a, leastOf C b = f
/-- each row with each of these behind it -/
def grow (rows : List (List Nat)) (fs : List Nat) : List (List Nat) := rows.flatMap fun r => fs.map fun f => r ++ [f]
noncomputable def laterRows (C : Chart) (S : List Nat) : List (List Nat) := S.foldl (fun rows a => grow rows (firstsOf C a)) [[]]
noncomputable def singleOf (C : Chart) : Nat := (piecesL C).length + C.wished.length
theorem later_lt {C : Chart} {a b : Nat} (ha : a < C.n) (h : b ∈ laterL C a) : b < C.n := by
  rcases List.mem_append.mp h with h | h
  · exact piece_lt' ha h
  · exact (those_mem.mp h).1
theorem later_len {C : Chart} {a : Nat} (ok : C.Ok) (ha : a < C.n) : (laterL C a).length ≤ 120 := by
  have n60 := ok.n60
  have h1 := up_len (piece_up C a) fun b hb => piece_lt' ha hb
  have h2 := those_len C.n fun b => b ∉ C.wished ∧ ∃ x ∈ [a], Reach C.roads C.wished x b
  unfold laterL metU
  rw [List.length_append]
  omega
theorem firsts_lt {C : Chart} {a f : Nat} (h : f ∈ firstsOf C a) : f < C.n := (those_mem.mp h).1
theorem firsts_len {C : Chart} {a : Nat} : (firstsOf C a).length ≤ C.n := those_len _ _
theorem single_le {C : Chart} (ok : C.Ok) : singleOf C ≤ 120 := by
  have n60 := ok.n60
  have hw := up_len ok.upW ok.inW
  have h1 : (piecesL C).length ≤ C.n := by
    unfold piecesL
    rw [List.length_map]
    exact Nat.le_trans (List.length_filter_le ..) (unw_len C)
  unfold singleOf
  omega
section
variable {P : Program} {w : World} {K : PySem.W.Frag} {mg : Str → Option Value} {base : Heap} {ca : Str → Addr}
/-! ### later_places -/
def sp_later_places (K : PySem.W.Frag) : Sp := fun vs H Q _ => ∃ (c tb : Addr) (C : Chart) (rows : List Addr) (a : Nat), vs = [.ref c, .ref tb, vN a] ∧ IsChart K H c C ∧ C.Ok ∧ a < C.n ∧ H tb = some (.lst (rows.map V.ref)) ∧ PiecesAt K H C rows ∧ ∀ q H', Same H H' → H q = none → H' q = some (.lst ((laterL C a).map vN)) → Q (.ref q) H'
theorem cal_later_places (T : Txt mg) (D : Def K mg "later_places" s_later_places) (c_reached_unwished : Cal P w K mg base 4 "reached_unwished" (sp_reached_unwished K)) : Cal P w K mg base 5 "later_places" (sp_later_places K) := by
  refine cal_of D sc_later_places (fun _ _ _ _ _ _ us hl => match us, hl with | [_, _, _], _ => rfl) (fun vs H Q E h => ?_) (fun f cdv A outer s H vs Q E hr h => ?_)
  · obtain ⟨c, tb, C, rows, a, rfl, _⟩ := h
    rfl
  · obtain ⟨c, tb, C, rows, a, rfl, hC, ok, ha, hT, ⟨er, each⟩, q⟩ := h
    refine ⟨_, (pss_one (ps_ret (pe_op op_cat (pe_callTy (show CallR _ _ (rListOf K) from call_listOf) (by rfl) T.list (by decide +kernel) (pa_cons (pe_ix (show IxR _ (rIxL K) from ix_list) (pv 1) (pv 2) (fun _ _ => rfl)) pa_nil)) (pe_c c_reached_unwished hr (by decide) (by rfl) (pa_cons (pv 0) (pa_cons (pe_tup (pa_cons (pv 2) pa_nil)) pa_nil)))))), ?_⟩
    obtain ⟨t, ht⟩ : ∃ t, rows[a]? = some t := ⟨_, List.getElem?_eq_getElem (by rw [er]; exact ha)⟩
    refine ⟨_, rfl, _, rfl, tb, _, _, _, rfl, rfl, .inl (.inl hT), atI_nat (v := V.ref t) (by rw [List.getElem?_map, ht]; rfl), t, _, rfl, .inr (each a t ht), fun l hl => ?_⟩
    have s1 : Same H (upd H l (.lst ((pieceOf C a).map vN))) := same_upd hl
    have hL : (upd H l (.lst ((pieceOf C a).map vN))) l = some (.lst ((pieceOf C a).map vN)) := upd_same
    generalize upd H l (.lst ((pieceOf C a).map vN)) = H1 at s1 hL
    refine ⟨_, rfl, _, rfl, (by show 1 ≤ sizeLine; decide), fun u hu => ?_⟩
    have s2 : Same H1 (upd H1 u (.tup [vN a])) := same_upd hu
    have hU : SqT K (upd H1 u (.tup [vN a])) u ([a].map vN) := .inl (.inl upd_same)
    generalize upd H1 u (.tup [vN a]) = H2 at s2 hU
    refine ⟨c, u, C, [a], rfl, (hC.same s1).same s2, ok, hU, (fun x hx => by rw [List.mem_singleton.mp hx]; exact ha), (by show 1 ≤ 60; decide), fun g H3 s3 hg hG => ?_⟩
    have hL3 := s3 _ _ (s2 _ _ hL)
    have big : (1000 : Nat) < sizeLine := by decide
    have n60 := ok.n60
    have ll := later_len ok ha
    unfold laterL at ll
    rw [List.length_append] at ll
    refine ⟨l, g, _, _, rfl, rfl, hL3, hG, by rw [List.length_map, List.length_map]; omega, fun p hp => ?_⟩
    refine q p _ (((s1.trans s2).trans s3).trans (same_upd hp)) (((s1.trans s2).trans s3).free hp) ?_
    rw [upd_same, ← List.map_append]
    rfl
/-! ### check_size -/
def spX_check_size (K : PySem.W.Frag) (ca : Str → Addr) : Sp := fun vs H Q E => ∃ (c tb : Addr) (C : Chart) (rows : List Addr) (m : Nat), vs = [.ref c, .ref tb, vN m] ∧ IsChart K H c C ∧ C.Ok ∧ H tb = some (.lst (rows.map V.ref)) ∧ PiecesAt K H C rows ∧ m ≤ 3 ∧
  (400 < singleOf C ^ m → Raised K ca H E ("TooMany", nD (singleOf C ^ m))) ∧ (singleOf C ^ m ≤ 400 → ∀ H', Same H H' → Q .non H')
theorem cal_check_size (T : Txt mg) (D : Def K mg "check_size" s_check_size) (m_MOST_ROWS : MgI mg "MOST_ROWS" 400) (e_TooMany : Er P w K mg base ca "TooMany") (c_unwished_pieces : Cal P w K mg base 3 "unwished_pieces" (sp_unwished_pieces K)) : CalX P w K mg base 4 "check_size" (spX_check_size K ca) := by
  refine calx_of D sc_check_size (fun _ _ _ _ _ _ us hl => match us, hl with | [_, _, _], _ => rfl) (fun vs H Q E h => ?_) (fun f cdv A outer s H vs Q E hr h => ?_)
  · obtain ⟨c, tb, C, rows, m, rfl, _⟩ := h
    rfl
  · obtain ⟨c, tb, C, rows, m, rfl, ⟨r, wd, ts, hC⟩, ok, hT, hP, m3, q1, q2⟩ := h
    have s120 := single_le ok
    refine ⟨_, (pss_cons (ps_set (i := 3) sc_check_size.nd rfl (Or.inl rfl) (pe_op op_add (pe_callB (show CallR _ _ (rLenS K) from call_lenS) (by rfl) T.len (by decide +kernel) (pa_cons (pe_c c_unwished_pieces hr (by decide) (by rfl) (pa_cons (pv 0) (pa_cons (pv 1) pa_nil))) pa_nil)) (pe_callB (show CallR _ _ (rLenS K) from call_lenS) (by rfl) T.len (by decide +kernel) (pa_cons (pe_ix (show IxR _ (rIxT K) from ix_tup) (pv 0) pe_int (fun _ _ => rfl)) pa_nil))))
      (pss_cons (ps_set (i := 4) sc_check_size.nd rfl (Or.inl rfl) pe_int)
      (pss_cons (ps_for (passes_of rfl) rfl (pi_range1 (by rfl) T.range (pa_cons (pv 2) pa_nil)) (pg_name (i := 5) sc_check_size.nd rfl (Or.inl rfl)) (pss_one (ps_set (i := 4) sc_check_size.nd rfl (Or.inl rfl) (pe_op op_mul (pv 4) (pv 3)))))
      (pss_one (ps_if (pt_cmpR op_gt (pv 4) (pe_globI (n := 400) rfl m_MOST_ROWS) (nomark _)) (pss_one (ps_raiseE rfl e_TooMany hr (by decide) (takes_of rfl rfl rfl rfl) (by rfl) (pa_cons (pv 4) pa_nil))) pss_nil))))), ?_⟩
    refine ⟨_, rfl, _, rfl, c, tb, C, rows, rfl, ⟨r, wd, ts, hC⟩, ok, hT, hP, fun q ts' H1 s1 hq hQ hR => ?_⟩
    have hC1 := hC.same s1
    have lr : ts'.length = (piecesL C).length := hR.length
    refine ⟨q, _, rfl, .inl (.inl (.inl hQ)), _, rfl, _, _, _, _, rfl, rfl, hC1.top, rfl, wd, _, rfl, .inr hC1.wis, _, _, rfl, rfl, ?_⟩
    have es : ((((ts'.map V.ref).length : Nat) : Int) + (((C.wished.map vN).length : Nat) : Int)) = ((singleOf C : Nat) : Int) := by
      unfold singleOf
      rw [List.length_map, List.length_map, lr]
      omega
    dsimp only
    rw [es]
    refine at_name ?_
    refine at_seq ?_
    refine ?_
    have pw : ∀ i, i ≤ m → singleOf C ^ i ≤ 1728000 := fun i hi => by
      calc singleOf C ^ i ≤ 120 ^ i := Nat.pow_le_pow_left s120 i
        _ ≤ 120 ^ 3 := Nat.pow_le_pow_right (by omega) (by omega)
        _ ≤ 1728000 := by decide
    refine ⟨_, rfl, _, rfl, by omega, by omega, for_range (lo := 0) (n := m) (fun i σ H' => ∃ v5 : Option V, σ = [some (.ref c), some (.ref tb), some (vN m), some (vN (singleOf C)), some (vN (singleOf C ^ i)), v5] ∧ H' = H1) ⟨_, rfl, rfl⟩ ?_ ?_⟩
    · rintro i σ H2 hi ⟨v5, rfl, rfl⟩
      have hp := pw i (by omega)
      refine ⟨_, rfl, _, rfl, _, _, rfl, rfl, .inl ⟨by omega, by omega⟩, ?_⟩
      have e : V.int (((singleOf C ^ i : Nat) : Int) * ((singleOf C : Nat) : Int)) = vN (singleOf C ^ (i + 1)) := by
        show V.int _ = V.int _
        rw [Nat.pow_succ, Int.natCast_mul]
      refine ⟨some (V.int (0 + (i : Nat))), ?_, rfl⟩
      rw [← e]
      rfl
    · rintro σ H2 ⟨v5, rfl, rfl⟩
      have hp := pw m (Nat.le_refl _)
      refine ⟨_, rfl, _, _, rfl, rfl, _, rfl, ?_⟩
      by_cases big : 400 < singleOf C ^ m
      · rw [decide_eq_true (show (400 : Int) < ((singleOf C ^ m : Nat) : Int) by omega)]
        refine iteT ?_
        refine ⟨_, rfl, _, rfl, fun dd hdd => q1 big dd _ _ (s1.trans (same_upd hdd)) upd_same (.int _)⟩
      · rw [decide_eq_false (show ¬ (400 : Int) < ((singleOf C ^ m : Nat) : Int) by omega)]
        refine iteF ?_
        exact q2 (by omega) _ s1
end
end Ft

set_option Elab.async false
set_option linter.all false
set_option maxRecDepth 100000
set_option maxHeartbeats 8000000
namespace Ft
open PySem PySem.Spec PyProof.Rows L2
open RZ
theorem grow_len {rows : List (List Nat)} {fs : List Nat} : (grow rows fs).length = rows.length * fs.length := by
  induction rows with
  | nil => show 0 = 0 * fs.length; rw [Nat.zero_mul]
  | cons r rows ih =>
    show ((fs.map fun f => r ++ [f]) ++ grow rows fs).length = (rows.length + 1) * fs.length
    rw [List.length_append, List.length_map, ih, Nat.succ_mul, Nat.add_comm]
theorem grow_take {rows : List (List Nat)} {fs : List Nat} {j : Nat} {r : List Nat} (h : rows[j]? = some r) : grow (rows.take (j + 1)) fs = grow (rows.take j) fs ++ fs.map fun f => r ++ [f] := by
  rw [take_more h]
  unfold grow
  rw [List.flatMap_append]
  simp
theorem grow_each {rows : List (List Nat)} {fs : List Nat} {n : Nat} (h : ∀ r ∈ rows, r.length = n) : ∀ r ∈ grow rows fs, r.length = n + 1 := by
  intro r hr
  obtain ⟨x, hx, h2⟩ := List.mem_flatMap.mp hr
  obtain ⟨f, hf, rfl⟩ := List.mem_map.mp h2
  rw [List.length_append, h x hx]
  rfl
theorem foldl_take {C : Chart} {S : List Nat} {i a : Nat} (h : S[i]? = some a) : laterRows C (S.take (i + 1)) = grow (laterRows C (S.take i)) (firstsOf C a) := by
  unfold laterRows
  rw [take_more h, List.foldl_append]
  rfl
theorem laterFold_each {C : Chart} : ∀ (S : List Nat) (rows : List (List Nat)) (n : Nat), (∀ r ∈ rows, r.length = n) → ∀ r ∈ S.foldl (fun rows a => grow rows (firstsOf C a)) rows, r.length = n + S.length
  | [], rows, n, h => h
  | a :: S, rows, n, h => fun r hr => by
    have := laterFold_each S (grow rows (firstsOf C a)) (n + 1) (grow_each h) r hr
    rw [List.length_cons]
    omega
theorem laterRows_each {C : Chart} {S : List Nat} : ∀ r ∈ laterRows C S, r.length = S.length := fun r hr => by
  have := laterFold_each S [[]] 0 (fun r h => by rw [List.mem_singleton.mp h]; rfl) r hr
  omega
theorem rows_few {C : Chart} (ok : C.Ok) : ∀ (S : List Nat) (rows : List (List Nat)) (m : Nat), rows.length ≤ m → (S.foldl (fun rows a => grow rows (firstsOf C a)) rows).length ≤ m * 60 ^ S.length
  | [], rows, m, h => by
    show rows.length ≤ m * 1
    omega
  | a :: S, rows, m, h => by
    have n60 := ok.n60
    have hf : (firstsOf C a).length ≤ C.n := firsts_len
    have h1 : (grow rows (firstsOf C a)).length ≤ m * 60 := by
      rw [grow_len]
      exact Nat.mul_le_mul h (by omega)
    have := rows_few ok S (grow rows (firstsOf C a)) (m * 60) h1
    show _ ≤ m * 60 ^ (S.length + 1)
    rw [Nat.pow_succ, Nat.mul_comm (60 ^ S.length) 60, ← Nat.mul_assoc]
    exact this
theorem laterRows_few {C : Chart} (ok : C.Ok) {S : List Nat} (h : S.length ≤ 3) : (laterRows C S).length ≤ 216000 := by
  have h1 := rows_few ok S [[]] 1 (Nat.le_refl _)
  have h2 : 60 ^ S.length ≤ 60 ^ 3 := Nat.pow_le_pow_right (by omega) h
  have h3 : (60 : Nat) ^ 3 = 216000 := by decide
  unfold laterRows
  omega
theorem rowsAt_upd {K : PySem.W.Frag} {H : Hp} {d : Addr} {xs ys : List V} (hd : H d = some (.lst xs)) {ts : List Addr} {lls : List (List Nat)} (h : RowsAt K H ts lls) : RowsAt K (upd H d (.lst ys)) ts lls := by
  refine paired_imp (fun t l q => ?_) h
  refine Kp.sqT (ex := [d]) (fun b' o nb eb => ?_) (fun b' m => ?_) q
  · rw [upd_ne (fun z => nb (by rw [z]; simp))]
    exact eb
  · rw [List.mem_singleton.mp m]
    exact ⟨_, hd, (fun _ z => nomatch z), (fun _ _ z => nomatch z)⟩
theorem sqT_upd {K : PySem.W.Frag} {H : Hp} {d t : Addr} {xs ys zs : List V} (hd : H d = some (.lst xs)) (q : SqT K H t zs) : SqT K (upd H d (.lst ys)) t zs := by
  refine Kp.sqT (ex := [d]) (fun b' o nb eb => ?_) (fun b' m => ?_) q
  · rw [upd_ne (fun z => nb (by rw [z]; simp))]
    exact eb
  · rw [List.mem_singleton.mp m]
    exact ⟨_, hd, (fun _ z => nomatch z), (fun _ _ z => nomatch z)⟩
section
variable {P : Program} {w : World} {K : PySem.W.Frag} {mg : Str → Option Value} {base : Heap} {ca : Str → Addr}
/-! ### later_rows -/
def spX_later_rows (K : PySem.W.Frag) (ca : Str → Addr) : Sp := fun vs H Q E => ∃ (vc vt : V) (dc ds : PyData), vs = [vc, vt] ∧ Dp K H vc dc ∧ Dp K H vt ds ∧ DueS K ca H E dc ds fun C S =>
  (400 < singleOf C ^ S.length → Raised K ca H E ("TooMany", nD (singleOf C ^ S.length))) ∧ (singleOf C ^ S.length ≤ 400 → ∀ q ts H', Same H H' → SqT K H' q (ts.map V.ref) → RowsAt K H' ts (laterRows C S) → Q (.ref q) H')
theorem cal_later_rows (T : Txt mg) (D : Def K mg "later_rows" s_later_rows) (c_made_standing : CalX P w K mg base 6 "made_standing" (spX_made_standing K ca)) (c_piece_table : Cal P w K mg base 5 "piece_table" (sp_piece_table K)) (c_check_size : CalX P w K mg base 4 "check_size" (spX_check_size K ca)) (c_later_places : Cal P w K mg base 5 "later_places" (sp_later_places K)) :
    CalX P w K mg base 7 "later_rows" (spX_later_rows K ca) := by
  refine calx_of D sc_later_rows (fun _ _ _ _ _ _ us hl => match us, hl with | [_, _], _ => rfl) (fun vs H Q E h => ?_) (fun f cdv A outer s H vs Q E hr h => ?_)
  · obtain ⟨vc, vt, dc, ds, rfl, _⟩ := h
    rfl
  · obtain ⟨vc, vt, dc, ds, rfl, hdc, hds, q1, q2⟩ := h
    refine ⟨_, (pss_cons (ps_expr (pe_x (takes_of rfl rfl rfl rfl) c_made_standing hr (by decide) (by rfl) (pa_cons (pv 0) (pa_cons (pv 1) pa_nil))))
      (pss_cons (ps_set (i := 2) sc_later_rows.nd rfl (Or.inr rfl) (pe_c c_piece_table hr (by decide) (by rfl) (pa_cons (pv 0) pa_nil)))
      (pss_cons (ps_expr (pe_x (takes_of rfl rfl rfl rfl) c_check_size hr (by decide) (by rfl) (pa_cons (pv 0) (pa_cons (pv 2) (pa_cons (pe_callB (show CallR _ _ (rLenS K) from call_lenS) (by rfl) T.len (by decide +kernel) (pa_cons (pv 1) pa_nil)) pa_nil)))))
      (pss_cons (ps_set (i := 3) sc_later_rows.nd rfl (Or.inl rfl) (pe_lst (pa_cons (pe_tup pa_nil) pa_nil)))
      (pss_cons (ps_for (passes_of rfl) rfl (show PI _ _ _ (iTup K _) from pi_tup (pv 1)) (pg_name (i := 4) sc_later_rows.nd rfl (Or.inl rfl)) (pss_cons (ps_set (i := 5) sc_later_rows.nd rfl (Or.inr rfl) (pe_callB (show CallR _ _ (rSortedSet w) from cr_sortedSet rfl) (by rfl) T.sorted (by decide +kernel) (pa_cons (pe_set1 (own := [("later", 8)]) rfl sc_later_rows.nd (show PI _ _ _ (iList K _) from pi_list (pe_c c_later_places hr (by decide) (by rfl) (pa_cons (pv 0) (pa_cons (pv 2) (pa_cons (pv 4) pa_nil))))) (blkOk_by (N := ["chart", "standing", "table", "rows", "place", "firsts", "row", "first", "later"]) (sc := L2.defScope s_later_rows) (by decide +kernel)) (fun _ _ _ _ _ => (pg_name (i := 8) sc_later_rows.nd rfl (Or.inl rfl))) (fun _ _ _ _ _ => pts_nil) (fun _ _ _ _ _ => (pe_ix (show IxR _ (rIxT K) from ix_tup) (pe_ix (show IxR _ (rIxL K) from ix_list) (pv 2) (pv 8) (fun _ _ => rfl)) pe_int (fun _ _ => rfl)))) pa_nil)))
        (pss_one (ps_setLc2 (i := 3) (own := [("row", 6), ("first", 7)]) (vs1 := [7]) rfl sc_later_rows.nd rfl rfl (sw_true rfl rfl rfl (by decide +kernel)) (show PI _ _ _ (iList K _) from pi_list (pv 3)) (blkOk_by (N := ["chart", "standing", "table", "rows", "place", "firsts", "row", "first", "later"]) (sc := L2.defScope s_later_rows) (by decide +kernel)) (by decide) (fun _ _ _ _ _ => (pg_name (i := 6) sc_later_rows.nd rfl (Or.inl rfl))) (fun _ _ _ _ _ => pts_nil) (fun _ _ _ _ _ => (show PI _ _ _ (iList K _) from pi_list (pv 5))) (fun _ _ _ _ _ => (pg_name (i := 7) sc_later_rows.nd rfl (Or.inl rfl))) (fun _ _ _ _ _ => pts_nil) (fun _ _ _ _ _ => (pe_op (show OpR _ _ (rCatA K) from op_catA) (pv 6) (pe_tup (pa_cons (pv 7) pa_nil))))))))
      (pss_one (ps_ret (pe_callTy (show CallR _ _ (rTupleOf K) from call_tupleOf) (by rfl) T.tuple (by decide +kernel) (pa_cons (pv 3) pa_nil))))))))), ?_⟩
    refine ⟨_, rfl, _, rfl, vc, vt, dc, ds, rfl, hdc, hds, q1, fun C ec ok => ⟨(q2 C ec ok).1, fun S es inS l1 l3 H1 s1 => ?_⟩⟩
    obtain ⟨qm, q⟩ := (q2 C ec ok).2 S es inS l1 l3
    subst ec es
    obtain ⟨c, rfl, hC⟩ := chart_dp hdc
    obtain ⟨t, rfl, hS⟩ := lot_dp hds
    have n60 := ok.n60
    refine ⟨_, rfl, c, C, rfl, hC.same s1, ok, fun tb rows H2 s2 _ hT hP => ?_⟩
    have s12 := s1.trans s2
    have hS2 := Same.sqT s12 hS
    have hC2 := hC.same s12
    refine ⟨_, rfl, _, rfl, _, rfl, t, _, rfl, .inr hS2, c, tb, C, rows, S.length, by rw [List.length_map]; rfl, hC2, ok, hT, hP, l3, fun big => (qm big).same s12, fun small H3 s3 => ?_⟩
    have qd := q small
    have s13 := s12.trans s3
    have hS3 := Same.sqT s3 hS2
    have hT3 := s3 _ _ hT
    have hP3 : PiecesAt K H3 C rows := ⟨hP.1, fun x t h => Same.sqT s3 (hP.2 x t h)⟩
    have hC3 := hC2.same s3
    refine ⟨Nat.zero_le _, fun u hu => ?_⟩
    have s4 : Same H3 (upd H3 u (.tup [])) := same_upd hu
    have hU4 : SqT K (upd H3 u (.tup [])) u (([] : List Nat).map vN) := .inl (.inl upd_same)
    generalize upd H3 u (.tup []) = H4 at s4 hU4
    refine ⟨by show 1 ≤ sizeLine; decide, fun g hg => ?_⟩
    have s5 : Same H4 (upd H4 g (.lst [.ref u])) := same_upd hg
    have hG5 : (upd H4 g (.lst [.ref u])) g = some (.lst (([u] : List Addr).map V.ref)) := upd_same
    have hR5 : RowsAt K (upd H4 g (.lst [.ref u])) [u] [[]] := .cons (Same.sqT s5 hU4) .nil
    generalize upd H4 g (.lst [.ref u]) = H5 at s5 hG5 hR5
    have s35 := s4.trans s5
    have hC5 := hC3.same s35
    have hT5 := s35 _ _ hT3
    have hP5 : PiecesAt K H5 C rows := ⟨hP.1, fun x t h => Same.sqT s35 (hP3.2 x t h)⟩
    have hS5 := Same.sqT s35 hS3
    refine ⟨_, rfl, t, rfl, ⟨_, hS5⟩, for_tup (K := K) (a := t) (xs := S.map vN) (fun i σ H' => ∃ (g : Addr) (ts : List Addr) (v4 v5 : Option V), σ = [some (.ref c), some (.ref t), some (.ref tb), some (.ref g), v4, v5, none, none, none] ∧ Same H5 H' ∧ H' g = some (.lst (ts.map V.ref)) ∧ RowsAt K H' ts (laterRows C (S.take i)))
      ⟨g, [u], _, _, rfl, (fun _ _ h => h), hG5, hR5⟩ (fun i σ H' _ ⟨_, _, _, _, _, s6, _⟩ => Same.sqT s6 hS5) ?_ ?_⟩
    · rintro i x σ H6 hx ⟨g6, ts6, v4, v5, rfl, s6, hG6, hR6⟩
      obtain ⟨a, ha, rfl⟩ := get_map hx
      have iS : i < S.length := (List.getElem?_eq_some_iff.mp ha).1
      have han := inS a (List.mem_of_getElem? ha)
      have hC6 := hC5.same s6
      have hT6 := s6 _ _ hT5
      have hP6 : PiecesAt K H6 C rows := ⟨hP.1, fun x t h => Same.sqT s6 (hP5.2 x t h)⟩
      refine ⟨_, rfl, _, rfl, _, rfl, c, tb, C, rows, a, rfl, hC6, ok, han, hT6, hP6, fun lq H7 s7 _ hL => ⟨lq, rfl, ⟨_, .inl (.inl hL)⟩, fun D hD => ?_⟩⟩
      have keep : ∀ {H' : Hp}, Kp [D] H7 H' → Same H7 H' := fun {H'} k b o e' => k b o (fun m => by rw [List.mem_singleton.mp m, hD] at e'; cases e') e'
      refine by_turns (walk_list (K := K) (a := lq) (xs := (laterL C a).map vN)) (fun i H' => ∃ (Z : Int → Bool) (l : List Nat), Kp [D] H7 H' ∧ H' D = some (SetO w D Z l.length) ∧ l.Nodup ∧ (∀ x ∈ l, x < C.n) ∧ (∀ j, Z j = true ↔ j ∈ iN l) ∧ (∀ b, b ∈ l ↔ ∃ y ∈ (laterL C a).take i, leastOf C y = b))
        ⟨_, [], (fun b o x e' => by rw [upd_ne (ne_of_none e' hD)]; exact e'), upd_same, List.nodup_nil, (fun _ h => nomatch h), (fun j => by simp [iN]), (fun b => by simp)⟩ (fun i H' _ ⟨_, _, k, _⟩ => .inl (.inl (keep k _ _ hL))) ?_ ?_
      · rintro j y Hy H8 hj ⟨Z4, l4, k4, hZ4, nd4, lt4, memZ4, meml4⟩ ⟨rfl, hy⟩
        obtain ⟨b, hb, rfl⟩ := get_map hy
        have hbn := later_lt han (List.mem_of_getElem? hb)
        obtain ⟨row, hrow⟩ : ∃ t, rows[b]? = some t := ⟨_, List.getElem?_eq_getElem (by rw [hP.1]; exact hbn)⟩
        have s8 := keep k4
        have hT8 := s8 _ _ (s7 _ _ hT6)
        have hr8 : SqT K H8 row ((pieceOf C b).map vN) := Same.sqT s8 (Same.sqT s7 (hP6.2 b row hrow))
        have l60 := len_of_lt' l4 C.n nd4 lt4
        refine ⟨rfl, ?_⟩
        have room : l4.length + 1 < scanBound := by
          have : (1000 : Nat) < scanBound := by decide
          omega
        refine ⟨_, rfl, _, rfl, tb, _, _, _, rfl, rfl, .inl (.inl hT8), atI_nat (v := V.ref row) (by rw [List.getElem?_map, hrow]; rfl), row, _, _, _, rfl, rfl, hr8, atI_nat (j := 0) (v := vN (leastOf C b)) (by rw [List.getElem?_map, least_get hbn]; rfl), ?_⟩
        refine ⟨((leastOf C b : Nat) : Int), Z4, l4.length, rfl, hZ4, room, ?_⟩
        have kk : ∀ o, Kp [D] H7 (upd H8 D o) := fun o z u nz ez => by
          rw [upd_ne (fun y => nz (by rw [y]; simp))]
          exact k4 z u nz ez
        have lb := least_lt hbn
        by_cases hbl : leastOf C b ∈ l4
        · have hz : Z4 (leastOf C b : Nat) = true := (memZ4 _).mpr (iN_mem.mpr hbl)
          refine ⟨fun j => Z4 j || decide (j = ((leastOf C b : Nat) : Int)), l4, kk _, by rw [upd_same, hz, if_pos rfl]; rfl, nd4, lt4, fun j' => ?_, fun b' => ?_⟩
          · rw [Bool.or_eq_true, memZ4, decide_eq_true_eq]
            exact ⟨fun h => h.elim id fun e => by rw [e]; exact iN_mem.mpr hbl, .inl⟩
          · rw [meml4 b', take_more hb]
            constructor
            · rintro ⟨y, h1, h2⟩
              exact ⟨y, List.mem_append_left _ h1, h2⟩
            · rintro ⟨y, h1, h2⟩
              rcases List.mem_append.mp h1 with h1 | h1
              · exact ⟨y, h1, h2⟩
              · rw [List.mem_singleton.mp h1] at h2
                rw [← h2]
                exact (meml4 _).mp hbl
        · have hz : Z4 (leastOf C b : Nat) = false := by
            cases e : Z4 (leastOf C b : Nat) with
            | false => rfl
            | true => exact absurd (iN_mem.mp ((memZ4 _).mp e)) hbl
          refine ⟨fun j => Z4 j || decide (j = ((leastOf C b : Nat) : Int)), l4 ++ [leastOf C b], kk _, by rw [upd_same, hz, if_neg Bool.false_ne_true, List.length_append]; rfl, ?_, ?_, fun j' => ?_, fun b' => ?_⟩
          · rw [List.nodup_append]
            exact ⟨nd4, by simp, fun x hx y hy z => hbl (by rw [← List.mem_singleton.mp hy, ← z]; exact hx)⟩
          · intro x hx
            rcases List.mem_append.mp hx with hx | hx
            · exact lt4 x hx
            · rw [List.mem_singleton.mp hx]
              exact lb
          · rw [Bool.or_eq_true, memZ4, decide_eq_true_eq]
            unfold iN
            rw [List.map_append, List.mem_append]
            constructor
            · rintro (h | h)
              · exact .inl h
              · exact .inr (by rw [h]; simp)
            · rintro (h | h)
              · exact .inl h
              · simp at h
                exact .inr h
          · rw [List.mem_append, List.mem_singleton, meml4 b', take_more hb]
            constructor
            · rintro (⟨y, h1, h2⟩ | h)
              · exact ⟨y, List.mem_append_left _ h1, h2⟩
              · exact ⟨b, List.mem_append_right _ (List.mem_singleton.mpr rfl), h.symm⟩
            · rintro ⟨y, h1, h2⟩
              rcases List.mem_append.mp h1 with h1 | h1
              · exact .inl ⟨y, h1, h2⟩
              · rw [List.mem_singleton.mp h1] at h2
                exact .inr h2.symm
      rintro H8 ⟨Z, l, k8, hZ, nd, lt, memZ, meml⟩
      rw [List.take_of_length_le (by rw [List.length_map]; exact Nat.le_refl _)] at meml
      have l60 := len_of_lt' l C.n nd lt
      have s8 := keep k8
      refine ⟨D, Z, l.length, rfl, hZ, by omega, fun gs fu up mem _ hfu => ?_⟩
      obtain ⟨wl, rfl, upw, memw⟩ : ∃ wl : List Nat, gs = iN wl ∧ wl.Pairwise (· < ·) ∧ ∀ x, x ∈ wl ↔ x ∈ l := set_nat up (fun j => by rw [mem j, memZ j, decide_eq_true_eq])
      have ew : wl = firstsOf C a := those_is upw fun x => by
        rw [memw x, meml x]
        exact ⟨fun ⟨y, h1, h2⟩ => ⟨by rw [← h2]; exact least_lt (later_lt han h1), y, h1, h2⟩, fun ⟨_, h⟩ => h⟩
      subst ew
      have s9 : Same H8 (upd H8 fu (.lst ((iN (firstsOf C a)).map V.int))) := same_upd hfu
      have hF9 : (upd H8 fu (.lst ((iN (firstsOf C a)).map V.int))) fu = some (.lst ((firstsOf C a).map vN)) := by rw [upd_same, ← vN_map]
      generalize upd H8 fu (.lst ((iN (firstsOf C a)).map V.int)) = H9 at s9 hF9
      have s69 := (s7.trans s8).trans s9
      have hG9 := s69 _ _ hG6
      have hR9 : RowsAt K H9 ts6 (laterRows C (S.take i)) := hR6.same s69
      clear hZ memZ meml memw up mem
      have len3 : (S.take i).length ≤ 3 := by rw [List.length_take]; omega
      have few := laterRows_few ok len3
      have lf : (firstsOf C a).length ≤ C.n := firsts_len
      have each := laterRows_each (C := C) (S := S.take i)
      refine ⟨_, rfl, g6, rfl, ⟨_, .inl (.inl hG9)⟩, fun D2 hD2 => ?_⟩
      have keep9 : ∀ {H' : Hp}, Kp [D2] H9 H' → Same H9 H' := fun {H'} k b o e' => k b o (fun m => by rw [List.mem_singleton.mp m, hD2] at e'; cases e') e'
      have ln : ts6.length = (laterRows C (S.take i)).length := hR9.length
      refine by_turns (walk_list (K := K) (a := g6) (xs := ts6.map V.ref)) (fun j H' => ∃ ts2 : List Addr, Kp [D2] H9 H' ∧ H' D2 = some (.lst (ts2.map V.ref)) ∧ RowsAt K H' ts2 (grow ((laterRows C (S.take i)).take j) (firstsOf C a)))
        ⟨[], (fun b o x e' => by rw [upd_ne (ne_of_none e' hD2)]; exact e'), upd_same, .nil⟩ (fun j H' _ ⟨_, k, _⟩ => .inl (.inl (keep9 k _ _ hG9))) ?_ ?_
      · rintro j y Hy H10 hj ⟨ts2, k10, hD10, hR10⟩ ⟨rfl, hy⟩
        obtain ⟨tr, htr, rfl⟩ := get_map hy
        obtain ⟨r, hr9, hrow9⟩ := paired_getL hR9 htr
        have s10 := keep9 k10
        refine ⟨rfl, ?_⟩
        refine ⟨_, rfl, fu, rfl, ⟨_, .inl (.inl (s10 _ _ hF9))⟩, ?_⟩
        have lr := each r (List.mem_of_getElem? hr9)
        have l1 : (grow ((laterRows C (S.take i)).take j) (firstsOf C a)).length ≤ 216000 * 60 := by
          rw [grow_len, List.length_take]
          exact Nat.mul_le_mul (by omega) (by omega)
        refine by_turns (walk_list (K := K) (a := fu) (xs := (firstsOf C a).map vN)) (fun k H' => ∃ ts2 : List Addr, Kp [D2] H9 H' ∧ H' D2 = some (.lst (ts2.map V.ref)) ∧ RowsAt K H' ts2 (grow ((laterRows C (S.take i)).take j) (firstsOf C a) ++ ((firstsOf C a).take k).map fun f => r ++ [f]))
          ⟨ts2, k10, hD10, by rw [List.take_zero, List.map_nil, List.append_nil]; exact hR10⟩ (fun k H' _ ⟨_, kk, _⟩ => .inl (.inl (keep9 kk _ _ hF9))) ?_ ?_
        · rintro k z Hz H11 hk ⟨ts3, k11, hD11, hR11⟩ ⟨rfl, hz⟩
          obtain ⟨fv, hfv, rfl⟩ := get_map hz
          have s11 := keep9 k11
          refine ⟨rfl, ?_⟩
          refine ⟨_, rfl, _, rfl, (by show 1 ≤ sizeLine; decide), fun o ho => ?_⟩
          have s12' : Same H11 (upd H11 o (.tup [vN fv])) := same_upd ho
          have hO : SqT K (upd H11 o (.tup [vN fv])) o ([fv].map vN) := .inl (.inl upd_same)
          generalize upd H11 o (.tup [vN fv]) = H12 at s12' hO
          refine catA_of (Same.sqT s12' (Same.sqT s11 hrow9)) hO (by rw [List.length_map, lr]; show (S.take i).length + 1 ≤ 1000; omega) fun np H13 s13' hN => ?_
          rw [← List.map_append] at hN
          have s1113 := s12'.trans s13'
          have hD13 := s1113 _ _ hD11
          have l3' : ts3.length = (grow ((laterRows C (S.take i)).take j) (firstsOf C a) ++ ((firstsOf C a).take k).map fun f => r ++ [f]).length := hR11.length
          rw [List.length_append, List.length_map, List.length_take] at l3'
          refine ⟨_, hD13, by rw [List.length_map, sizeLine_eq]; omega, ts3 ++ [np], ?_, by rw [upd_same, List.map_append]; rfl, ?_⟩
          · intro b o' nb eb
            rw [upd_ne (fun z => nb (by rw [z]; simp))]
            exact s1113 _ _ (k11 b o' nb eb)
          · rw [take_more hfv, List.map_append, ← List.append_assoc]
            exact paired_app (rowsAt_upd hD13 (hR11.same s1113)) (.cons (sqT_upd hD13 hN) .nil)
        · rintro H11 ⟨ts3, k11, hD11, hR11⟩
          have e9 : (firstsOf C a).take ((firstsOf C a).map vN).length = firstsOf C a := by rw [List.length_map, List.take_length]
          rw [e9, ← grow_take hr9] at hR11
          exact ⟨ts3, k11, hD11, hR11⟩
      · rintro H10 ⟨ts2, k10, hD10, hR10⟩
        rw [List.length_map, ln, List.take_length, ← foldl_take ha] at hR10
        exact ⟨D2, ts2, _, _, rfl, s6.trans (s69.trans (keep9 k10)), hD10, hR10⟩
    · rintro σ H6 ⟨g6, ts6, v4, v5, rfl, s6, hG6, hR6⟩
      rw [List.length_map, List.take_of_length_le (Nat.le_refl _)] at hR6
      refine ⟨_, rfl, g6, _, rfl, .inl ⟨.inl (.inl hG6), fun tp htp => ?_⟩⟩
      have s7 : Same H6 (upd H6 tp (.tup (ts6.map V.ref))) := same_upd htp
      exact qd tp ts6 _ ((s13.trans s35).trans (s6.trans s7)) (.inl (.inl upd_same)) (hR6.same s7)
end
end Ft

set_option Elab.async false
set_option linter.all false
set_option maxRecDepth 100000
set_option maxHeartbeats 8000000
namespace Ft
open PySem PySem.Spec PyProof.Rows L2
/-- the draws' pool stands at p, its further cells at l -/
def PoolAt (H : Hp) (p l : Addr) : Prop := ∃ (a b : Int) (cs : List Int), H p = some (.lst [.int a, .int b, .ref l]) ∧ H l = some (.lst (cs.map V.int)) ∧ 0 ≤ a ∧ 0 ≤ b
theorem PoolAt.ne {H : Hp} {p l : Addr} (h : PoolAt H p l) : p ≠ l := by
  obtain ⟨a, b, cs, h1, h2, _⟩ := h
  intro e
  subst e
  have z := Option.some.inj (h1.symm.trans h2)
  have z2 : ([V.int a, V.int b, V.ref p] : List V) = cs.map V.int := by injection z
  have z3 : V.ref p ∈ cs.map V.int := by rw [← z2]; simp
  obtain ⟨c, _, e⟩ := List.mem_map.mp z3
  exact nomatch e
theorem PoolAt.lists {H : Hp} {p l : Addr} (h : PoolAt H p l) : Lists [p, l] H := by
  obtain ⟨a, b, cs, h1, h2, _⟩ := h
  intro x hx
  rcases List.mem_cons.mp hx with e | hx
  · rw [e]
    exact ⟨_, h1, (fun _ z => nomatch z), (fun _ _ z => nomatch z)⟩
  · rw [List.mem_singleton.mp hx]
    exact ⟨_, h2, (fun _ z => nomatch z), (fun _ _ z => nomatch z)⟩
theorem PoolAt.same {H H' : Hp} {p l : Addr} (k : Same H H') (h : PoolAt H p l) : PoolAt H' p l := by
  obtain ⟨a, b, cs, h1, h2, h3⟩ := h
  exact ⟨a, b, cs, k _ _ h1, k _ _ h2, h3⟩
theorem PoolAt.free {H : Hp} {p l : Addr} (h : PoolAt H p l) {q : Addr} (n : H q = none) : q ∉ [p, l] := by
  obtain ⟨a, b, cs, h1, h2, _⟩ := h
  intro m
  rcases List.mem_cons.mp m with e | m
  · rw [e, h1] at n
    cases n
  · rw [List.mem_singleton.mp m, h2] at n
    cases n
theorem ints_shaped (cs : List Int) : SeqAt.shaped (.list (cs.map .int)) = true := by
  unfold SeqAt.shaped
  have h1 : ∀ cs : List Int, PyData.canLayAll0 (cs.map .int) = true := by
    intro cs
    induction cs with
    | nil => simp [PyData.canLayAll0]
    | cons c cs ih => simp [PyData.canLayAll0, PyData.canLay0, ih]
  have h2 : PyData.depth (.list (cs.map .int)) = 1 := by
    simp only [PyData.depth, PySem.W.depth_ints]
  rw [h2]
  simp [PyData.canLay0, h1]
section
variable {P : Program} {w : World} {K : PySem.W.Frag} {mg : Str → Option Value} {base : Heap} {t1 t2 : Tok}
/-! ### _law_pool -/
def sp_law_pool (K : PySem.W.Frag) : Sp := fun vs H Q _ => ∃ (a : Addr) (ns : List Int), vs = [.ref a] ∧ SqL K H a (ns.map V.int) ∧ ∀ p l H', Same H H' → H p = none → H l = none → PoolAt H' p l → Q (.ref p) H'
theorem cal_law_pool (T : Txt mg) (D : Def K mg "_law_pool" s_law_pool) : Cal P w K mg base 2 "_law_pool" (sp_law_pool K) := by
  refine cal_of D sc_law_pool (fun _ _ _ _ _ _ us hl => match us, hl with | [_], _ => rfl) (fun vs H Q E h => ?_) (fun f cdv A outer s H vs Q E hr h => ?_)
  · obtain ⟨a, ns, rfl, _⟩ := h
    rfl
  · obtain ⟨a, ns, rfl, hS, q⟩ := h
    refine ⟨_, (pss_cons (ps_set (i := 1) sc_law_pool.nd rfl (Or.inl rfl) (pe_mid (pe_ifExp (pt_cmpR op_gt (pe_callB (show CallR _ _ (rLenS K) from call_lenS) (by rfl) T.len (by decide +kernel) (pa_cons (pv 0) pa_nil)) pe_int (nomark _)) (pe_callTy call_int1 (by rfl) T.int (by decide +kernel) (pa_cons (pe_ix (show IxR _ (rIxL K) from ix_list) (pv 0) pe_int (fun _ _ => rfl)) pa_nil)) pe_int)))
      (pss_cons (ps_set (i := 2) sc_law_pool.nd rfl (Or.inl rfl) (pe_mid (pe_ifExp (pt_cmpR op_ge (pv 1) pe_int (nomark _)) (pe_op op_mul pe_int (pv 1)) (pe_op op_sub (pe_un un_neg pe_int) (pe_op op_mul pe_int (pv 1))))))
      (pss_one (ps_ret (pe_lst (pa_cons (pe_mid (pe_ifExp (pt_cmpR op_ge (pv 2) (pe_op op_pow pe_int pe_int) (nomark _)) (pv 2) pe_int)) (pa_cons (pe_op op_add (pe_op op_mod (pe_callTy call_int1 (by rfl) T.int (by decide +kernel) (pa_cons (pe_op op_add (pe_op op_mul (pv 2) pe_int) pe_int) pa_nil)) pe_int) pe_int) (pa_cons (pe_callTy (show CallR _ _ (rListOf K) from call_listOf) (by rfl) T.list (by decide +kernel) (pa_cons (pe_slice (show SlR _ (rSlL K) from sl_list) (pv 0) (po_some pe_int) po_none) pa_nil)) pa_nil)))))))), ?_⟩
    refine ⟨fun v H' => ∃ x : Int, v = .int x ∧ H' = H, ⟨_, rfl, a, _, rfl, .inl hS, _, _, rfl, rfl, _, rfl, ite_any (fun h => ?_) (fun h => ⟨0, rfl, rfl⟩)⟩, ?_⟩
    · have h0 := of_decide_eq_true h
      cases ns with
      | nil => exact absurd h0 (by simp)
      | cons n0 ns => exact ⟨_, rfl, a, _, _, _, rfl, rfl, hS, atI_nat (j := 0) (v := V.int n0) rfl, .inl ⟨_, rfl, _, rfl, rfl⟩⟩
    rintro v H1 ⟨x, rfl, rfl⟩
    refine ⟨fun v H' => ∃ x : Int, v = .int x ∧ H' = H1 ∧ 0 ≤ x, ⟨_, rfl, _, _, rfl, rfl, _, rfl, ite_any (fun h => ?_) (fun h => ?_)⟩, ?_⟩
    · have h0 := of_decide_eq_true h
      exact ⟨_, rfl, _, _, rfl, rfl, .inl ⟨by decide, by decide⟩, _, rfl, rfl, by omega⟩
    · have h0 := of_decide_eq_false h
      exact ⟨_, rfl, _, rfl, _, _, rfl, rfl, .inl ⟨by decide, by decide⟩, _, _, rfl, rfl, _, rfl, rfl, by omega⟩
    rintro v H2 ⟨y, rfl, rfl, hy⟩
    refine ⟨fun v H' => ∃ x : Int, v = .int x ∧ H' = H2 ∧ 0 ≤ x, ⟨_, rfl, _, _, rfl, rfl, ⟨by decide, by decide, by decide⟩, _, _, rfl, rfl, _, rfl, ite_any (fun h => ⟨_, rfl, y, rfl, rfl, hy⟩) (fun h => ⟨0, rfl, rfl, by decide⟩)⟩, ?_⟩
    rintro v H3 ⟨z, rfl, rfl, hz⟩
    refine ⟨_, rfl, _, _, rfl, rfl, .inr ⟨by decide, by decide⟩, _, _, rfl, rfl, .inl ⟨_, rfl, _, _, rfl, rfl, (by show (0 : Int) < 2147483629; decide), _, _, rfl, rfl, ?_⟩⟩
    refine ⟨_, rfl, _, rfl, a, _, rfl, hS, fun e he => ?_⟩
    refine ⟨e, _, rfl, .inl (.inl (.inl upd_same)), fun l hl => ?_⟩
    refine ⟨by show 3 ≤ sizeLine; decide, fun p hp => ?_⟩
    have nel : e ≠ l := ne_of_none upd_same hl
    have npl : l ≠ p := ne_of_none upd_same hp
    have hl0 : H3 l = none := by rw [upd_ne nel.symm] at hl; exact hl
    have s1 : Same H3 (upd (upd H3 e (.lst (cutV (ns.map V.int) (some 1) none))) l (.lst (cutV (ns.map V.int) (some 1) none))) := (same_upd he).trans (same_upd hl)
    refine q p l _ (s1.trans (same_upd hp)) (s1.free hp) hl0 ?_
    refine ⟨z, _, (cutV (ns.map V.int) (some 1) none).map (fun v => match v with | .int i => i | _ => 0), upd_same, ?_, hz, ?_⟩
    · rw [upd_ne npl, upd_same]
      congr 2
      rw [List.map_map]
      conv => lhs; rw [← List.map_id (cutV (ns.map V.int) (some 1) none)]
      refine List.map_congr_left fun v hv => ?_
      have : v ∈ ns.map V.int := by
        unfold cutV at hv
        exact List.mem_of_mem_drop (List.mem_of_mem_take hv)
      obtain ⟨i, _, rfl⟩ := List.mem_map.mp this
      rfl
    · have := Int.emod_nonneg (y * 48271 + 1009) (show (2147483629 : Int) ≠ 0 by decide)
      omega
/-! ### _law_draw -/
def sp_law_draw : Sp := fun vs H Q _ => ∃ (p l : Addr) (m : Nat), vs = [.ref p, vN m] ∧ PoolAt H p l ∧ 0 < m ∧ m < 1073741824 ∧ ∀ (r : Nat) H', r < m → PoolAt H' p l → Kp [p, l] H H' → Q (vN r) H'
theorem cal_law_draw (T : Txt mg) (D : Def K mg "_law_draw" s_law_draw) : Cal P w K mg base 2 "_law_draw" sp_law_draw := by
  refine cal_of D sc_law_draw (fun _ _ _ _ _ _ us hl => match us, hl with | [_, _], _ => rfl) (fun vs H Q E h => ?_) (fun f cdv A outer s H vs Q E hr h => ?_)
  · obtain ⟨p, l, m, rfl, _⟩ := h
    rfl
  · obtain ⟨p, l, m, rfl, hP, m0, m1, q⟩ := h
    have hU := hr.units
    have npl := hP.ne
    refine ⟨_, (ps_cut (ps_if (PW.pt (pw_and (pt_cmpR op_eq (pe_ix (show IxR _ (rIxL K) from ix_list) (pv 0) pe_int (fun _ _ => rfl)) pe_int (nomark _)) (pw_and1 (pt_cmpR (show OpR _ _ (rNeD K) from op_neD hU) (pe_ix (show IxR _ (rIxL K) from ix_list) (pv 0) pe_int (fun _ _ => rfl)) (pe_lst pa_nil) (nomark _))))) (pss_cons (ps_set (i := 2) sc_law_draw.nd rfl (Or.inl rfl) (pe_callTy call_int1 (by rfl) T.int (by decide +kernel) (pa_cons (pe_bm PySem.F.plainAttrs_list PySem.F.slot_list_pop PySem.F.type_list_pop mt_popAt (pe_ix (show IxR _ (rIxL K) from ix_list) (pv 0) pe_int (fun _ _ => rfl)) (pa_cons pe_int pa_nil)) pa_nil)))
        (pss_cons (ps_set (i := 3) sc_law_draw.nd rfl (Or.inl rfl) (pe_mid (pe_ifExp (pt_cmpR op_ge (pv 2) pe_int (nomark _)) (pe_op op_mul pe_int (pv 2)) (pe_op op_sub (pe_un un_neg pe_int) (pe_op op_mul pe_int (pv 2))))))
        (pss_cons (ps_asg (pe_mid (pe_ifExp (pt_cmpR op_ge (pv 3) (pe_op op_pow pe_int pe_int) (nomark _)) (pv 3) pe_int)) (pg_sub (pv 0) pe_int set_list))
        (pss_one (ps_asg (pe_op op_add (pe_op op_mod (pe_callTy call_int1 (by rfl) T.int (by decide +kernel) (pa_cons (pe_op op_add (pe_ix (show IxR _ (rIxL K) from ix_list) (pv 0) pe_int (fun _ _ => rfl)) (pe_op op_mul (pv 3) pe_int)) pa_nil)) pe_int) pe_int) (pg_sub (pv 0) pe_int set_list)))))) pss_nil)
      (pss_cons (ps_if (pt_cmpR op_gt (pe_ix (show IxR _ (rIxL K) from ix_list) (pv 0) pe_int (fun _ _ => rfl)) pe_int (nomark _)) (pss_cons (ps_set (i := 4) sc_law_draw.nd rfl (Or.inl rfl) (pe_op op_mod (pe_callTy call_int1 (by rfl) T.int (by decide +kernel) (pa_cons (pe_ix (show IxR _ (rIxL K) from ix_list) (pv 0) pe_int (fun _ _ => rfl)) pa_nil)) (pv 1)))
        (pss_cons (ps_asg (pe_op op_fdiv (pe_ix (show IxR _ (rIxL K) from ix_list) (pv 0) pe_int (fun _ _ => rfl)) (pv 1)) (pg_sub (pv 0) pe_int set_list))
        (pss_one (ps_ret (pv 4))))) pss_nil)
      (pss_cons (ps_asg (pe_op op_mod (pe_callTy call_int1 (by rfl) T.int (by decide +kernel) (pa_cons (pe_op op_add (pe_op op_mul (pe_ix (show IxR _ (rIxL K) from ix_list) (pv 0) pe_int (fun _ _ => rfl)) pe_int) pe_int) pa_nil)) pe_int) (pg_sub (pv 0) pe_int set_list))
      (pss_one (ps_ret (pe_op op_mod (pe_op op_fdiv (pe_op op_mod (pe_callTy call_int1 (by rfl) T.int (by decide +kernel) (pa_cons (pe_op op_mul (pe_ix (show IxR _ (rIxL K) from ix_list) (pv 0) pe_int (fun _ _ => rfl)) (pe_ix (show IxR _ (rIxL K) from ix_list) (pv 0) pe_int (fun _ _ => rfl))) pa_nil)) pe_int) pe_int) (pv 1))))))), ?_⟩
    refine ⟨fun σ' H' => ∃ v2 v3 : Option V, σ' = [some (.ref p), some (vN m), v2, v3, none] ∧ PoolAt H' p l ∧ Kp [p, l] H H', ?_, ?_⟩
    · obtain ⟨a, b, cs, h1, h2, ha, hb⟩ := id hP
      refine ⟨_, rfl, p, _, _, _, rfl, rfl, .inl (.inl h1), rfl, rfl, _, rfl, ite_any (fun _ => ?_) (fun _ => ?_)⟩
      · refine ⟨_, rfl, p, _, _, _, rfl, rfl, .inl (.inl h1), rfl, Nat.zero_le _, fun e he => ?_⟩
        have s1 : Same H (upd H e (.lst [])) := same_upd he
        have nep : p ≠ e := ne_of_none h1 he
        have nel : l ≠ e := ne_of_none h2 he
        have h1' := s1 _ _ h1
        have h2' := s1 _ _ h2
        refine ⟨.list (cs.map .int), .list [], .lst (.inl (.inl h2')) (dpAll_ints cs), .lst (.inl (.inl upd_same)) .nil, ints_shaped cs, rfl, _, rfl, ite_any (fun hc => ?_) (fun _ => ?_)⟩
        · cases cs with
          | nil => exact absurd hc (by decide)
          | cons c cs =>
            have n1 : (-(2 ^ 63) : Int) ≤ 0 := by decide
            have n2 : (0 : Int) < 2 ^ 63 := by decide
            refine ⟨_, rfl, p, _, _, _, rfl, rfl, .inl (.inl h1'), rfl, .inl ⟨rfl, _, .inl (.inl h2')⟩, l, _, 0, 0, .int c, rfl, rfl, h2', n1, n2, ?_, rfl, .inl ⟨_, rfl, ?_⟩⟩
            · simp [seqIndex?]
            have h1b : (upd (upd H e (.lst [])) l (.lst ((List.map V.int (c :: cs)).eraseIdx 0))) p = some (.lst [.int a, .int b, .ref l]) := by rw [upd_ne npl]; exact h1'
            obtain ⟨Hc, eHc⟩ : ∃ Hc, Hc = upd (upd H e (.lst [])) l (.lst ((List.map V.int (c :: cs)).eraseIdx 0)) := ⟨_, rfl⟩
            rw [← eHc] at h1b ⊢
            refine ⟨fun v H' => ∃ x : Int, v = .int x ∧ H' = Hc ∧ 0 ≤ x, ⟨_, rfl, _, _, rfl, rfl, _, rfl, ite_any (fun h => ?_) (fun h => ?_)⟩, ?_⟩
            · have h0 := of_decide_eq_true h
              exact ⟨_, rfl, _, _, rfl, rfl, .inl ⟨by decide, by decide⟩, _, rfl, rfl, by omega⟩
            · have h0 := of_decide_eq_false h
              exact ⟨_, rfl, _, rfl, _, _, rfl, rfl, .inl ⟨by decide, by decide⟩, _, _, rfl, rfl, _, rfl, rfl, by omega⟩
            rintro v H2 ⟨y, rfl, rfl, hy⟩
            refine ⟨fun v H' => ∃ x : Int, v = .int x ∧ H' = H2 ∧ 0 ≤ x, ⟨_, rfl, _, _, rfl, rfl, ⟨by decide, by decide, by decide⟩, _, _, rfl, rfl, _, rfl, ite_any (fun h => ⟨_, rfl, y, rfl, rfl, hy⟩) (fun h => ⟨0, rfl, rfl, by decide⟩)⟩, ?_⟩
            rintro v H3 ⟨z, rfl, rfl, hz⟩
            subst eHc
            refine ⟨_, rfl, p, _, _, 0, rfl, rfl, h1b, rfl, ?_⟩
            refine ⟨_, rfl, p, _, _, _, rfl, rfl, .inl (.inl upd_same), rfl, _, rfl, _, _, rfl, rfl, .inr ⟨by decide, by decide⟩, _, _, rfl, rfl, .inl ⟨_, rfl, _, _, rfl, rfl, (by show (0 : Int) < 2147483629; decide), _, _, rfl, rfl, ?_⟩⟩
            refine ⟨_, rfl, p, _, _, 1, rfl, rfl, upd_same, rfl, ?_⟩
            refine ⟨_, _, rfl, ⟨z, _, cs, upd_same, ?_, hz, ?_⟩, ?_⟩
            · rw [upd_ne npl.symm, upd_ne npl.symm, upd_same]
              rfl
            · have := Int.emod_nonneg (b + y * 69621) (show (2147483629 : Int) ≠ 0 by decide)
              omega
            · intro b' o n e'
              have n1 : b' ≠ p := fun z => n (by rw [z]; simp)
              have n2 : b' ≠ l := fun z => n (by rw [z]; simp)
              rw [upd_ne n1, upd_ne n1, upd_ne n2]
              exact s1 _ _ e'
        · exact ⟨_, _, rfl, hP.same s1, Same.kp s1⟩
      · exact ⟨_, _, rfl, hP, Kp.refl _ _⟩
    · rintro σ' H1 ⟨v2, v3, rfl, ⟨a, b, cs, h1, h2, ha, hb⟩, k1⟩
      refine ⟨_, rfl, p, _, _, _, rfl, rfl, .inl (.inl h1), rfl, _, _, rfl, rfl, _, rfl, ite_any (fun hc => ?_) (fun hc => ?_)⟩
      · refine ⟨_, rfl, p, _, _, _, rfl, rfl, .inl (.inl h1), rfl, .inl ⟨_, rfl, _, rfl, _, _, rfl, rfl, (by show (0 : Int) < (m : Int); omega), ?_⟩⟩
        refine ⟨_, rfl, p, _, _, _, rfl, rfl, .inl (.inl h1), rfl, _, rfl, _, _, rfl, rfl, ⟨by show (0 : Int) < (m : Int); omega, by show (m : Int) < 1073741824; omega⟩, ?_⟩
        refine ⟨_, rfl, p, _, _, 0, rfl, rfl, h1, rfl, ?_⟩
        have h3 := Int.emod_nonneg a (show (m : Int) ≠ 0 by omega)
        have h4 := Int.emod_lt_of_pos a (show (0 : Int) < m by omega)
        refine ⟨_, rfl, ?_⟩
        have e0 : V.int (a % (m : Int)) = vN (a % (m : Int)).toNat := by
          unfold vN
          rw [Int.toNat_of_nonneg h3]
        show Q (V.int (a % (m : Int))) _
        rw [e0]
        refine q _ _ (by omega) ⟨a / m, b, cs, upd_same, by rw [upd_ne npl.symm]; exact h2, Int.ediv_nonneg ha (by omega), hb⟩ ?_
        intro b' o n e'
        rw [upd_ne (fun z => n (by rw [z]; simp))]
        exact k1 _ _ n e'
      · refine ⟨_, rfl, p, _, _, _, rfl, rfl, .inl (.inl h1), rfl, _, _, rfl, rfl, .inr ⟨by decide, by decide⟩, _, _, rfl, rfl, .inl ⟨_, rfl, _, _, rfl, rfl, (by show (0 : Int) < 2147483647; decide), ?_⟩⟩
        refine ⟨_, rfl, p, _, _, 1, rfl, rfl, h1, rfl, ?_⟩
        have h3 := Int.emod_nonneg (b * 48271 + 11) (show (2147483647 : Int) ≠ 0 by decide)
        have h4 := Int.emod_lt_of_pos (b * 48271 + 11) (show (0 : Int) < 2147483647 by decide)
        refine ⟨_, rfl, p, _, _, _, rfl, rfl, .inl (.inl upd_same), rfl, _, rfl, p, _, _, _, rfl, rfl, .inl (.inl upd_same), rfl, _, _, rfl, rfl, .inl ⟨by omega, by omega⟩, .inl ⟨_, rfl, _, _, rfl, rfl, (by show (0 : Int) < 2147483629; decide), ?_⟩⟩
        refine ⟨_, _, rfl, rfl, ⟨by decide, by decide⟩, _, rfl, _, _, rfl, rfl, (by show (0 : Int) < (m : Int); omega), ?_⟩
        have h5 := Int.emod_nonneg ((b * 48271 + 11) % 2147483647 * ((b * 48271 + 11) % 2147483647) % 2147483629 / 32) (show (m : Int) ≠ 0 by omega)
        have h6 := Int.emod_lt_of_pos ((b * 48271 + 11) % 2147483647 * ((b * 48271 + 11) % 2147483647) % 2147483629 / 32) (show (0 : Int) < m by omega)
        show Q (V.int (((b * 48271 + 11) % 2147483647 * ((b * 48271 + 11) % 2147483647) % 2147483629 / 32) % (m : Int))) _
        generalize ((b * 48271 + 11) % 2147483647 * ((b * 48271 + 11) % 2147483647) % 2147483629 / 32) % (m : Int) = z at h5 h6 ⊢
        have e0 : V.int z = vN z.toNat := by
          unfold vN
          rw [Int.toNat_of_nonneg h5]
        rw [e0]
        refine q _ _ (by omega) ⟨a, (b * 48271 + 11) % 2147483647, cs, upd_same, by rw [upd_ne npl.symm]; exact h2, ha, h3⟩ ?_
        intro b' o n e'
        rw [upd_ne (fun z => n (by rw [z]; simp))]
        exact k1 _ _ n e'
end
end Ft

set_option Elab.async false
set_option linter.all false
set_option maxRecDepth 100000
set_option maxHeartbeats 4000000
/-! isinstance of the error that a suite holds, whose class is known only then and which has a dict of its own. -/
namespace Ft
open PySem PySem.Spec PyProof.Rows L2
/-- what a class says so that isinstance asks its errors rightly -/
structure IsC (K : PySem.W.Frag) (C : Addr) : Prop where
  cl : (PySem.W.clsIn K C).isSome = true
  ga : PySem.W.findIn K (.ref C) "__getattribute__" = some (some (.builtin "BaseException.__getattribute__"))
  gg : PySem.W.findIn K (.ref C) "__getattr__" = some none
  ex : PySem.W.subIn K (.ref C) (.type "BaseException") = some true
  ha : PySem.W.findIn K (.ref C) "__class__" = some (some (.builtin "object.__class__"))
  hn : PySem.W.specialIn K (.builtin "object.__class__") "__get__" = some (some (.builtin "getset_descriptor.__get__"))
  ht : PySem.W.takesIn K (.builtin "object.__class__") = some true
  hm : PySem.W.mroIn K C (.type "object") = some true
def rIsX (K : PySem.W.Frag) (a : Addr) (cls : Value) (d : Option Addr) (cv : Value) : List V → Hp → VK → Prop := fun xs H Q => ∃ (c : V) (b : Bool) (C dd : Addr) (v : V), xs = [.ref a, c] ∧ (∀ u, RelV c u → u = cv) ∧ cls = .ref C ∧ IsC K C ∧ d = some dd ∧ H dd = some (.xd [("what", v)]) ∧ PySem.W.kitOne K (.ref C) cv = some b ∧ Q (.bl b) H
theorem call_isX {X : Cx} {a : Addr} {oe : Obj} {cls : Value} {d : Option Addr} {cv : Value} {pn : List (Addr × Obj)} (hz : Zc cls d oe) (hf : ∃ vs, oe.data = .fields vs) : CallR (X.suite a ((a, oe) :: pn)) (.builtin "isinstance") (rIsX X.K a cls d cv) := by
  intro pins s σ H xs us Q I r h
  obtain ⟨c, b, C, dd, v, rfl, hcv, rfl, ic, rfl, hdd, e, q⟩ := h
  cases r with
  | cons rx rr =>
    cases rr with
    | cons rt rr =>
      cases rr
      cases rx
      have ec := hcv _ rt
      subst ec
      obtain ⟨ha, _⟩ := I.pin (a, oe) (List.mem_append_left _ List.mem_cons_self)
      obtain ⟨vs, hd⟩ := hf
      have hx : ObjOk X.prog X.w H s.heap dd (.xd [("what", v)]) := I.hok dd _ hdd
      obtain ⟨mA, hns, hr⟩ := hx
      obtain ⟨od, ho, hl⟩ := lookIn_ns hns
      have J : PySem.W.InstAt s.heap a oe C (some od) := ⟨ha, hz.1, by unfold PySem.W.notCls; rw [hd] <;> rfl, by rw [hz.2]; exact ho⟩
      exact PySem.W.kia_one (PySem.W.kitx_exc ic.cl ic.ga ic.gg ic.ex ic.ha ic.hn ic.ht ic.hm) I.kIn J e (fun z => nomatch z) fun tk => ⟨.bl b, H, I.kept (t' := tk) fun _ _ z => z, rfl, q⟩
/-- an error of class c is one of class d, too; of the builtin one d -/
def Kit (K : PySem.W.Frag) (ca : Str → Addr) (c d : Str) : Prop := PySem.W.kitOne K (.ref (ca c)) (.ref (ca d)) = some true
def KitB (K : PySem.W.Frag) (ca : Str → Addr) (c : Str) (d : String) : Prop := PySem.W.kitOne K (.ref (ca c)) (.type d) = some true
end Ft

set_option Elab.async false
set_option linter.all false
set_option maxRecDepth 100000
set_option maxHeartbeats 4000000
namespace Ft
open PySem PySem.Spec PyProof.Rows L2
/-! x in t, t a tuple of data of any depth; t[i], t a list or a tuple; a class as a value -/
def rInTD (K : PySem.W.Frag) : R2 := fun x y H Q => ∃ d ds, Dp K H x d ∧ Dp K H y (.tuple ds) ∧ SeqAt.shaped d = true ∧ SeqAt.shaped (.tuple ds) = true ∧ Q (.bl (ds.any fun z => PyData.eqv z d)) H
def rNotInTD (K : PySem.W.Frag) : R2 := fun x y H Q => ∃ d ds, Dp K H x d ∧ Dp K H y (.tuple ds) ∧ SeqAt.shaped d = true ∧ SeqAt.shaped (.tuple ds) = true ∧ Q (.bl (!ds.any fun z => PyData.eqv z d)) H
theorem op_inTD {X : Cx} (hu : X.A.units + 65 < cLine) : OpR X (compareOp .In) (rInTD X.K) := by
  intro pins s σ H x y v u Q I rx ry h
  obtain ⟨d, ds, hd, he, sd, se, q⟩ := h
  obtain ⟨as, r1⟩ := Dp.reads I d x v hd rx
  obtain ⟨bs, r2⟩ := Dp.reads I (.tuple ds) y u he ry
  exact SeqAt.in_tuple_reads r2 r1 (SeqAt.canLay_of_shaped se) (SeqAt.canLay_of_shaped sd) (room_in_shaped sd hu) ⟨.bl _, H, I, rfl, q⟩
theorem op_notInTD {X : Cx} (hu : X.A.units + 65 < cLine) : OpR X (compareOp .NotIn) (rNotInTD X.K) := by
  intro pins s σ H x y v u Q I rx ry h
  obtain ⟨d, ds, hd, he, sd, se, q⟩ := h
  obtain ⟨as, r1⟩ := Dp.reads I d x v hd rx
  obtain ⟨bs, r2⟩ := Dp.reads I (.tuple ds) y u he ry
  exact SeqAt.notIn_tuple_reads r2 r1 (SeqAt.canLay_of_shaped se) (SeqAt.canLay_of_shaped sd) (room_in_shaped sd hu) ⟨.bl _, H, I, rfl, q⟩
def rIxA (K : PySem.W.Frag) : R2 := fun x y H Q => rIxL K x y H Q ∨ rIxT K x y H Q
theorem ix_any {X : Cx} : IxR X (rIxA X.K) := fun value slice pins s σ H x y v u Q I rx ry h hs => h.elim (fun h => ix_list value slice pins s σ H x y v u Q I rx ry h hs) (fun h => ix_tup value slice pins s σ H x y v u Q I rx ry h hs)
theorem pe_globC {X : Cx} {x : Str} {C : Addr} {pos : Pos} (hg : Gl X x) (h : X.mg x = some (.ref C)) (hd : (x == ("__debug__" : Str)) = false := by decide) : PE X (.Name x pos) (tC (.ref C)) := pe_glob (v := .ref C) hg h rfl hd
end Ft

set_option Elab.async false
set_option linter.all false
set_option maxRecDepth 100000
set_option maxHeartbeats 8000000
namespace Ft
open PySem PySem.Spec PyProof.Rows L2
theorem seqIndex_nat {r n : Nat} (h : r < n) : seqIndex? (r : Int) n = some r := by
  unfold seqIndex?
  have h0 : ¬ ((r : Int) < 0) := by omega
  have h1 : (r : Int) < n := by omega
  have h2 : (0 : Int) ≤ (r : Int) := by omega
  simp [h0, h1, h2]
theorem map_erase {α β : Type} (f : α → β) : ∀ (l : List α) (i : Nat), (l.map f).eraseIdx i = (l.eraseIdx i).map f
  | [], _ => rfl
  | _ :: _, 0 => rfl
  | a :: l, i + 1 => congrArg (f a :: ·) (map_erase f l i)
theorem cons_erase {α : Type} : ∀ {l : List α} {r : Nat} {x : α}, l[r]? = some x → (x :: l.eraseIdx r).Perm l
  | [], _, _, h => by simp at h
  | a :: l, 0, x, h => by
    have e : a = x := by simpa using h
    rw [e]
    exact List.Perm.refl _
  | a :: l, r + 1, x, h => (List.Perm.swap a x (l.eraseIdx r)).trans ((cons_erase (l := l) (r := r) (by simpa using h)).cons a)
theorem rgV_nat (n : Nat) : rgV 0 (n : Int) = (List.range n).map vN := by
  unfold rgV
  have e : ((n : Int) - 0).toNat = n := by omega
  rw [e]
  refine List.map_congr_left fun i _ => ?_
  show V.int (0 + (i : Int)) = V.int (i : Int)
  rw [Int.zero_add]
section
variable {P : Program} {w : World} {K : PySem.W.Frag} {mg : Str → Option Value} {base : Heap} {t1 t2 : Tok}
/-! ### _law_pick, of a tuple -/
def sp_law_pick (K : PySem.W.Frag) : Sp := fun vs H Q _ => ∃ (p l t : Addr) (xs : List V), vs = [.ref p, .ref t] ∧ PoolAt H p l ∧ SqT K H t xs ∧ 0 < xs.length ∧ xs.length < 1073741824 ∧ ∀ x H', x ∈ xs → PoolAt H' p l → Kp [p, l] H H' → Q x H'
theorem cal_law_pick (T : Txt mg) (D : Def K mg "_law_pick" s_law_pick) (c_law_draw : Cal P w K mg base 2 "_law_draw" sp_law_draw) : Cal P w K mg base 3 "_law_pick" (sp_law_pick K) := by
  refine cal_of D sc_law_pick (fun _ _ _ _ _ _ us hl => match us, hl with | [_, _], _ => rfl) (fun vs H Q E h => ?_) (fun f cdv A outer s H vs Q E hr h => ?_)
  · obtain ⟨p, l, t, xs, rfl, _⟩ := h
    rfl
  · obtain ⟨p, l, t, xs, rfl, hP, hT, n0, n1, q⟩ := h
    refine ⟨_, (pss_one (ps_ret (pe_ix (show IxR _ (rIxT K) from ix_tup) (pv 1) (pe_c c_law_draw hr (by decide) (by rfl) (pa_cons (pv 0) (pa_cons (pe_callB (show CallR _ _ (rLenS K) from call_lenS) (by rfl) T.len (by decide +kernel) (pa_cons (pv 1) pa_nil)) pa_nil))) (fun _ _ => rfl)))), ?_⟩
    refine ⟨_, rfl, _, rfl, _, rfl, t, xs, rfl, .inr hT, p, l, xs.length, rfl, hP, n0, n1, fun r H1 hr1 hP1 k1 => ?_⟩
    exact ⟨t, xs, (r : Int), _, rfl, rfl, k1.sqT hP.lists hT, atI_nat (List.getElem?_eq_getElem hr1), q _ _ (List.getElem_mem hr1) hP1 k1⟩
/-! ### _law_turned -/
def sp_law_turned (K : PySem.W.Frag) : Sp := fun vs H Q _ => ∃ (p l : Addr) (m : Nat), vs = [.ref p, vN m] ∧ PoolAt H p l ∧ m ≤ 1000 ∧ ∀ (q : Addr) (perm : List Nat) (H' : Hp), perm.Perm (List.range m) → H q = none → H' q = some (.lst (perm.map vN)) → PoolAt H' p l → Kp [p, l] H H' → Q (.ref q) H'
theorem cal_law_turned (T : Txt mg) (D : Def K mg "_law_turned" s_law_turned) (c_law_draw : Cal P w K mg base 2 "_law_draw" sp_law_draw) : Cal P w K mg base 3 "_law_turned" (sp_law_turned K) := by
  refine cal_of D sc_law_turned (fun _ _ _ _ _ _ us hl => match us, hl with | [_, _], _ => rfl) (fun vs H Q E h => ?_) (fun f cdv A outer s H vs Q E hr h => ?_)
  · obtain ⟨p, l, m, rfl, _⟩ := h
    rfl
  · obtain ⟨p, l, m, rfl, hP, m1, q⟩ := h
    refine ⟨_, (pss_cons (ps_par (i := 2) (j := 3) (by rfl) sc_law_turned.nd rfl rfl (by decide) rfl rfl (pa_cons (pe_listRg rfl (by rfl) T.list (prg_1 (by rfl) T.range (pv 1))) (pa_cons (pe_lst pa_nil) pa_nil)) (by rfl))
      (pss_cons (ps_for PassesOwn.never rfl (pi_range1 (by rfl) T.range (pa_cons (pv 1) pa_nil)) (pg_name (i := 4) sc_law_turned.nd rfl (Or.inl rfl)) (pss_one (ps_expr (pe_bm PySem.F.plainAttrs_list PySem.F.slot_list_append PySem.F.type_list_append mt_append (pv 3) (pa_cons (pe_bm PySem.F.plainAttrs_list PySem.F.slot_list_pop PySem.F.type_list_pop mt_popAt (pv 2) (pa_cons (pe_c c_law_draw hr (by decide) (by rfl) (pa_cons (pv 0) (pa_cons (pe_callB (show CallR _ _ (rLenS K) from call_lenS) (by rfl) T.len (by decide +kernel) (pa_cons (pv 2) pa_nil)) pa_nil))) pa_nil)) pa_nil)))))
      (pss_one (ps_ret (pv 3))))), ?_⟩
    refine ⟨_, rfl, _, rfl, .of_le (by omega) (by omega) (by omega) (by omega), fun a ha => ?_⟩
    have s1 : Same H (upd H a (.lst (rgV 0 (m : Int)))) := same_upd ha
    have hA : (upd H a (.lst (rgV 0 (m : Int)))) a = some (.lst ((List.range m).map vN)) := by rw [upd_same, rgV_nat]
    generalize upd H a (.lst (rgV 0 (m : Int))) = H1 at s1 hA
    refine ⟨Nat.zero_le _, fun d hd => ?_⟩
    have nad : a ≠ d := ne_of_none hA hd
    have s2 : Same H1 (upd H1 d (.lst [])) := same_upd hd
    refine ⟨_, _, rfl, ?_⟩
    have k0 : ∀ b, b ∈ [p, l] → b ≠ a ∧ b ≠ d := by
      intro b hb
      obtain ⟨o, e, _⟩ := hP.lists b hb
      exact ⟨ne_of_none e ha, ne_of_none (s1 _ _ e) hd⟩
    refine ⟨_, rfl, _, rfl, by omega, by omega, for_range (lo := 0) (n := m) (fun i σ H' => ∃ (L F : List Nat) (v4 : Option V), σ = [some (.ref p), some (vN m), some (.ref a), some (.ref d), v4] ∧ PoolAt H' p l ∧ Kp [p, l] H H' ∧ H' a = some (.lst (L.map vN)) ∧ H' d = some (.lst (F.map vN)) ∧ (F ++ L).Perm (List.range m) ∧ F.length = i)
      ⟨List.range m, [], _, rfl, (hP.same s1).same s2, Same.kp (s1.trans s2), s2 _ _ hA, upd_same, List.Perm.refl _, rfl⟩ ?_ ?_⟩
    · rintro i σ H2 hi ⟨L, F, v4, rfl, hP2, k2, hL, hF, pm, eF⟩
      have len := pm.length_eq
      rw [List.length_append, List.length_range, eF] at len
      refine ⟨_, rfl, .inl ⟨rfl, _, .inl (.inl hF)⟩, _, rfl, .inl ⟨rfl, _, .inl (.inl hL)⟩, ?_⟩
      refine ⟨_, rfl, _, rfl, a, _, rfl, .inl (.inl (.inl hL)), p, l, L.length, ?_, hP2, by omega, by omega, fun r H3 hr3 hP3 k3 => ?_⟩
      · rw [List.length_map]
        rfl
      have na : a ∉ [p, l] := fun m => (k0 a m).1 rfl
      have nd : d ∉ [p, l] := fun m => (k0 d m).2 rfl
      have hL3 := k3 _ _ na hL
      have hF3 := k3 _ _ nd hF
      obtain ⟨x, hx⟩ : ∃ x, L[r]? = some x := ⟨_, List.getElem?_eq_getElem hr3⟩
      refine ⟨a, _, (r : Int), r, vN x, rfl, rfl, hL3, by omega, by omega, seqIndex_nat (by rw [List.length_map]; exact hr3), by rw [List.getElem?_map, hx]; rfl, ?_⟩
      have hF4 : (upd H3 a (.lst ((L.map vN).eraseIdx r))) d = some (.lst (F.map vN)) := by rw [upd_ne nad.symm]; exact hF3
      refine ⟨d, _, _, rfl, rfl, hF4, by rw [List.length_map, eF]; exact small1000 (by omega), L.eraseIdx r, F ++ [x], _, rfl, ?_, ?_, ?_, ?_, ?_, by rw [List.length_append, eF]; rfl⟩
      · obtain ⟨a1, b1, cs, h1, h2, h3⟩ := hP3
        exact ⟨a1, b1, cs, by rw [upd_ne (k0 p (by simp)).2, upd_ne (k0 p (by simp)).1]; exact h1, by rw [upd_ne (k0 l (by simp)).2, upd_ne (k0 l (by simp)).1]; exact h2, h3⟩
      · intro b o n e
        have na1 : b ≠ a := ne_of_none e ha
        have nd1 : b ≠ d := ne_of_none (s1 _ _ e) hd
        rw [upd_ne nd1, upd_ne na1]
        exact k3 b o n (k2 b o n e)
      · rw [upd_ne nad, upd_same, map_erase]
      · rw [upd_same, List.map_append]
        rfl
      · have pe : (x :: L.eraseIdx r).Perm L := cons_erase hx
        have e1 : F ++ [x] ++ L.eraseIdx r = F ++ (x :: L.eraseIdx r) := by simp
        rw [e1]
        exact (List.Perm.append_left F pe).trans pm
    · rintro σ H2 ⟨L, F, v4, rfl, hP2, k2, hL, hF, pm, eF⟩
      have len := pm.length_eq
      rw [List.length_append, List.length_range, eF] at len
      have eL : L = [] := List.length_eq_zero_iff.mp (by omega)
      subst eL
      rw [List.append_nil] at pm
      exact ⟨_, rfl, q d F H2 pm (s1.free hd) hF hP2 k2⟩
end
end Ft

set_option Elab.async false
set_option linter.all false
set_option maxRecDepth 100000
set_option maxHeartbeats 8000000
namespace Ft
open PySem PySem.Spec PyProof.Rows L2
/-! ### rows of two numbers, sorted -/
def two (p : Nat × Nat) : List Int := [(p.1 : Int), (p.2 : Int)]
theorem two_lt {p q : Nat × Nat} (le : two p ≤ two q) (ne : two p ≠ two q) : ltP p q := by
  unfold two at le ne
  rw [List.cons_le_cons_iff] at le
  rcases le with h | ⟨h1, h2⟩
  · exact .inl (by omega)
  · rw [List.cons_le_cons_iff] at h2
    rcases h2 with h | ⟨h3, _⟩
    · exact .inr ⟨by omega, by omega⟩
    · exact absurd (by rw [h1, h3]) ne
theorem two_inj {p q : Nat × Nat} (h : two p = two q) : p = q := by
  unfold two at h
  simp only [List.cons.injEq, and_true] at h
  exact Prod.ext (by omega) (by omega)
theorem rows_two : ∀ (L : List Row), (∀ r ∈ L, ∃ p, r.2 = two p) → ∃ ps : List (Nat × Nat), L.map (·.2) = ps.map two
  | [], _ => ⟨[], rfl⟩
  | r :: L, h => by
    obtain ⟨p, hp⟩ := h r List.mem_cons_self
    obtain ⟨ps, hps⟩ := rows_two L fun q hq => h q (List.mem_cons_of_mem _ hq)
    exact ⟨p :: ps, by rw [List.map_cons, List.map_cons, hp, hps]⟩
theorem rows_up {L : List Row} {ps : List (Nat × Nat)} (e : L.map (·.2) = ps.map two) (up : L.Pairwise fun q r => q.2 ≤ r.2) (nd : (L.map (·.2)).Nodup) : ps.Pairwise ltP := by
  have h1 : (ps.map two).Pairwise (· ≤ ·) := by
    rw [← e]
    exact List.pairwise_map.mpr up
  rw [e] at nd
  have h2 := List.Pairwise.and h1 nd
  exact (List.pairwise_map.mp h2).imp fun h => two_lt h.1 h.2
theorem rows_pairs {K : PySem.W.Frag} {H : Hp} : ∀ {L : List Row} {ps : List (Nat × Nat)}, L.map (·.2) = ps.map two → (∀ r ∈ L, SqT K H r.1 (r.2.map V.int)) → PairsAt K H (L.map (·.1)) ps
  | [], [], _, _ => .nil
  | [], _ :: _, e, _ => nomatch e
  | _ :: _, [], e, _ => nomatch e
  | r :: L, p :: ps, e, h => by
    rw [List.map_cons, List.map_cons] at e
    injection e with e1 e2
    refine .cons ?_ (rows_pairs e2 fun q hq => h q (List.mem_cons_of_mem _ hq))
    have := h r List.mem_cons_self
    rw [e1] at this
    exact this
/-! ### maps whose places are named anew -/
/-- the new name of a place -/
def nm (perm : List Nat) (a : Nat) : Nat := perm.getD a 0
theorem nm_get {perm : List Nat} {a : Nat} (h : a < perm.length) : perm[a]? = some (nm perm a) := by
  unfold nm
  rw [List.getD_eq_getElem?_getD, List.getElem?_eq_getElem h]
  rfl
structure Named (n : Nat) (prs : List (Nat × Nat)) (ws perm : List Nat) (C : Chart) : Prop where
  n : C.n = n
  ok : C.Ok
  roads : ∀ x y, (x, y) ∈ C.roads ↔ ∃ a b, (a, b) ∈ prs ∧ x = nm perm a ∧ y = nm perm b
  wished : ∀ x, x ∈ C.wished ↔ ∃ a ∈ ws, x = nm perm a
theorem perm_lt {perm : List Nat} {n : Nat} (pm : perm.Perm (List.range n)) {a : Nat} (h : a < n) : nm perm a < n := by
  have len : perm.length = n := by rw [pm.length_eq, List.length_range]
  have := List.mem_of_getElem? (nm_get (perm := perm) (a := a) (by rw [len]; exact h))
  exact List.mem_range.mp (pm.mem_iff.mp this)
theorem nm_at {perm : List Nat} {n : Nat} (pm : perm.Perm (List.range n)) {a : Nat} (h : a < n) : atI (perm.map vN) (a : Int) = some (vN (nm perm a)) := by
  have len : perm.length = n := by rw [pm.length_eq, List.length_range]
  refine atI_nat ?_
  rw [List.getElem?_map, nm_get (by rw [len]; exact h)]
  rfl
section
variable {P : Program} {w : World} {K : PySem.W.Frag} {mg : Str → Option Value} {base : Heap} {t1 t2 : Tok}
/-! ### _law_map_named -/
def sp_law_map_named (K : PySem.W.Frag) : Sp := fun vs H Q _ => ∃ (p l ro wi : Addr) (n : Nat) (ts : List Addr) (prs : List (Nat × Nat)) (ws : List Nat), vs = [.ref p, vN n, .ref ro, .ref wi] ∧ PoolAt H p l ∧ n ≤ 60 ∧
  H ro = some (.lst (ts.map V.ref)) ∧ ro ∉ [p, l] ∧ PairsAt K H ts prs ∧ prs.length < 64 ∧ (∀ q ∈ prs, q.1 < n ∧ q.2 < n) ∧ H wi = some (.lst (ws.map vN)) ∧ wi ∉ [p, l] ∧ ws.length < 64 ∧ (∀ a ∈ ws, a < n) ∧
  ∀ (q c na : Addr) (perm : List Nat) (C : Chart) (H' : Hp), perm.Perm (List.range n) → H q = none → H na = none → H' q = some (.lst [.ref c, .ref na]) → IsChart K H' c C → H' na = some (.lst (perm.map vN)) → Named n prs ws perm C → PoolAt H' p l → Kp [p, l] H H' → Q (.ref q) H'
theorem cal_law_map_named (T : Txt mg) (D : Def K mg "_law_map_named" s_law_map_named) (c_law_turned : Cal P w K mg base 3 "_law_turned" (sp_law_turned K)) : Cal P w K mg base 4 "_law_map_named" (sp_law_map_named K) := by
  refine cal_of D sc_law_map_named (fun _ _ _ _ _ _ us hl => match us, hl with | [_, _, _, _], _ => rfl) (fun vs H Q E h => ?_) (fun f cdv A outer s H vs Q E hr h => ?_)
  · obtain ⟨p, l, ro, wi, n, ts, prs, ws, rfl, _⟩ := h
    rfl
  · obtain ⟨p, l, ro, wi, n, ts, prs, ws, rfl, hP, n60, hRo, oR, hPr, fewP, inP, hWi, oW, fewW, inW, q⟩ := h
    have hU := hr.units
    refine ⟨_, (pss_cons (ps_set (i := 4) sc_law_map_named.nd rfl (Or.inr rfl) (pe_c c_law_turned hr (by decide) (by rfl) (pa_cons (pv 0) (pa_cons (pv 1) pa_nil))))
      (pss_cons (ps_set (i := 5) sc_law_map_named.nd rfl (Or.inl rfl) (pe_callTy (show CallR _ _ (rTupleOf K) from call_tupleOf) (by rfl) T.tuple (by decide +kernel) (pa_cons (pe_callB (show CallR _ _ (rSortedS K P w) from cr_sortedSR rfl hU) (by rfl) T.sorted (by decide +kernel) (pa_cons (pe_callTy (show CallR _ _ (rSetOfT K P w) from cr_setOfT rfl hU) (by rfl) T.set (by decide +kernel) (pa_cons (pe_lc (own := [("a", 6), ("b", 7)]) rfl sc_law_map_named.nd (show PI _ _ _ (iList K _) from pi_list (pv 2)) (blkOk_by (N := ["pool", "places", "roads", "wished", "names", "told", "a", "b"]) (sc := L2.defScope s_law_map_named) (by decide +kernel)) (fun _ _ _ _ _ => (show PG _ _ (gTup K 2 _) from pg_tup (by rfl) (pgs_cons (pg_name (i := 6) sc_law_map_named.nd rfl (Or.inl rfl)) (pgs_cons (pg_name (i := 7) sc_law_map_named.nd rfl (Or.inl rfl)) pgs_nil)))) (fun _ _ _ _ _ => pts_nil) (fun _ _ _ _ _ => (pe_tup (pa_cons (pe_ix (show IxR _ (rIxL K) from ix_list) (pv 4) (pv 6) (fun _ _ => rfl)) (pa_cons (pe_ix (show IxR _ (rIxL K) from ix_list) (pv 4) (pv 7) (fun _ _ => rfl)) pa_nil))))) pa_nil)) pa_nil)) pa_nil)))
      (pss_one (ps_ret (pe_lst (pa_cons (pe_tup (pa_cons (pv 1) (pa_cons (pv 5) (pa_cons (pe_callTy (show CallR _ _ (rTupleOf K) from call_tupleOf) (by rfl) T.tuple (by decide +kernel) (pa_cons (pe_callB (show CallR _ _ (rSortedSet w) from cr_sortedSet rfl) (by rfl) T.sorted (by decide +kernel) (pa_cons (pe_callTy (show CallR _ _ (rSetI K w) from cr_setI rfl) (by rfl) T.set (by decide +kernel) (pa_cons (pe_lc (own := [("a", 6)]) rfl sc_law_map_named.nd (show PI _ _ _ (iList K _) from pi_list (pv 3)) (blkOk_by (N := ["pool", "places", "roads", "wished", "names", "told", "a", "b"]) (sc := L2.defScope s_law_map_named) (by decide +kernel)) (fun _ _ _ _ _ => (pg_name (i := 6) sc_law_map_named.nd rfl (Or.inl rfl))) (fun _ _ _ _ _ => pts_nil) (fun _ _ _ _ _ => (pe_ix (show IxR _ (rIxL K) from ix_list) (pv 4) (pv 6) (fun _ _ => rfl)))) pa_nil)) pa_nil)) pa_nil)) pa_nil)))) (pa_cons (pv 4) pa_nil))))))), ?_⟩
    refine ⟨_, rfl, _, rfl, p, l, n, rfl, hP, by omega, fun na perm H1 pm hna hN hP1 k1 => ?_⟩
    have hRo1 := k1 _ _ oR hRo
    have hWi1 := k1 _ _ oW hWi
    have hPr1 : PairsAt K H1 ts prs := hPr.keep k1 hP.lists
    refine ⟨_, rfl, ro, rfl, ⟨_, .inl (.inl hRo1)⟩, fun d hd => ?_⟩
    have keep : ∀ {H' : Hp}, Kp [d] H1 H' → Same H1 H' := fun {H'} k b o e => k b o (fun m => by rw [List.mem_singleton.mp m, hd] at e; cases e) e
    refine lc_list (K := K) (xs := ts.map V.ref) (fun i H' => ∃ rows : List Row, rows.map (·.2) = (prs.take i).map (fun q => two (nm perm q.1, nm perm q.2)) ∧ Kp [d] H1 H' ∧ H' d = some (.lst (rows.map fun r => V.ref r.1)) ∧ ∀ r ∈ rows, H' r.1 = some (.tup (r.2.map V.int)))
      ⟨[], rfl, (fun b o x e => by rw [upd_ne (ne_of_none e hd)]; exact e), upd_same, fun r h => nomatch h⟩ (fun i H' _ ⟨_, _, k, _⟩ => .inl (.inl (keep k _ _ hRo1))) ?_ ?_
    · rintro i x H2 hx ⟨rows, e2, k2, hD, all⟩
      obtain ⟨t, ht, rfl⟩ := get_map hx
      obtain ⟨q0, hq0, pt⟩ := paired_getL hPr1 ht
      obtain ⟨b1, b2⟩ := inP q0 (List.mem_of_getElem? hq0)
      have hN2 := keep k2 _ _ hN
      have il : i < prs.length := (List.getElem?_eq_some_iff.mp hq0).1
      have el : rows.length = i := by
        have := congrArg List.length e2
        rw [List.length_map, List.length_map, List.length_take] at this
        omega
      refine ⟨t, _, rfl, Same.sqT (keep k2) pt, rfl, _, _, rfl, _, _, rfl, rfl, rfl, ?_⟩
      refine ⟨_, rfl, _, rfl, na, _, _, _, rfl, rfl, .inl (.inl hN2), nm_at pm b1, _, rfl, _, rfl, na, _, _, _, rfl, rfl, .inl (.inl hN2), nm_at pm b2, (by show 2 ≤ sizeLine; decide), fun e he => ?_⟩
      have nde : d ≠ e := ne_of_none hD he
      refine ⟨_, Eq.trans (upd_ne nde) hD, by rw [List.length_map, el]; exact small1000 (by omega), rows ++ [(e, two (nm perm q0.1, nm perm q0.2))], ?_, ?_, by rw [upd_same, List.map_append]; rfl, ?_⟩
      · rw [List.map_append, e2, take_more hq0, List.map_append]
        rfl
      · intro b o nb eb
        have := k2 b o nb eb
        rw [upd_ne (fun z => nb (by rw [z]; simp)), upd_ne (ne_of_none this he)]
        exact this
      · intro r hr'
        rcases List.mem_append.mp hr' with hr' | hr'
        · have := all r hr'
          have n1 : r.1 ≠ d := fun z => by rw [z, hD] at this; cases this
          rw [upd_ne n1, upd_ne (ne_of_none this he)]
          exact this
        · rw [List.mem_singleton.mp hr', upd_ne nde.symm, upd_same]
          rfl
    rintro H2 ⟨rows, e2, k2, hD, all⟩
    rw [List.take_of_length_le (by rw [List.length_map]; exact Nat.le_of_eq (Paired.length hPr1).symm)] at e2
    have elen : rows.length = prs.length := by
      have := congrArg List.length e2
      rw [List.length_map, List.length_map] at this
      exact this
    have shape : ∀ r ∈ rows, ∃ z, r.2 = two z := by
      intro r hr'
      have : r.2 ∈ rows.map (·.2) := List.mem_map.mpr ⟨r, hr', rfl⟩
      rw [e2] at this
      obtain ⟨z, _, ez⟩ := List.mem_map.mp this
      exact ⟨_, ez.symm⟩
    refine ⟨d, rows, rfl, .inl (.inl hD), (fun r hr' => .inl (.inl (all r hr'))), by omega, fun a L ha sub sup => ?_⟩
    have s3 : Same H2 (upd H2 a (SetTO P w a L)) := same_upd ha
    refine ⟨a, L, rfl, upd_same, (fun r hr' => Same.sqT s3 (.inl (.inl (all r (sub r hr'))))), (fun r hr' => by obtain ⟨z, ez⟩ := shape r (sub r hr'); rw [ez]; exact fun y => nomatch y), fun L' u pm' nd few pw hu' => ?_⟩
    have s4 : Same H2 (upd (upd H2 a (SetTO P w a L)) u (.lst (L'.map fun r => V.ref r.1))) := s3.trans (same_upd hu')
    refine ⟨u, _, rfl, .inl ⟨.inl (.inl upd_same), fun tp htp => ?_⟩⟩
    have s5 := s4.trans (same_upd (o := .tup (L'.map fun r => V.ref r.1)) htp)
    have hTp : (upd (upd (upd H2 a (SetTO P w a L)) u (.lst (L'.map fun r => V.ref r.1))) tp (.tup (L'.map fun r => V.ref r.1))) tp = some (.tup (L'.map fun r => V.ref r.1)) := upd_same
    generalize upd (upd (upd H2 a (SetTO P w a L)) u (.lst (L'.map fun r => V.ref r.1))) tp (.tup (L'.map fun r => V.ref r.1)) = H3 at s5 hTp
    have sub' : ∀ r ∈ L', r ∈ rows := fun r hr' => sub r (pm'.mem_iff.mp hr')
    obtain ⟨rds, erds⟩ := rows_two L' fun r hr' => shape r (sub' r hr')
    have upR : rds.Pairwise ltP := rows_up erds pw nd
    have hRd : PairsAt K H3 (L'.map (·.1)) rds := rows_pairs erds fun r hr' => .inl (.inl (s5 _ _ (all r (sub' r hr'))))
    have memR : ∀ x y, (x, y) ∈ rds ↔ ∃ a b, (a, b) ∈ prs ∧ x = nm perm a ∧ y = nm perm b := by
      intro x y
      have h1 : (x, y) ∈ rds ↔ two (x, y) ∈ rds.map two := by
        constructor
        · intro h
          exact List.mem_map.mpr ⟨_, h, rfl⟩
        · intro h
          obtain ⟨z, hz, ez⟩ := List.mem_map.mp h
          rw [← two_inj ez]
          exact hz
      rw [h1, ← erds]
      constructor
      · intro h
        obtain ⟨r, hr', er⟩ := List.mem_map.mp h
        have : r.2 ∈ rows.map (·.2) := List.mem_map.mpr ⟨r, sub' r hr', rfl⟩
        rw [e2, er] at this
        obtain ⟨⟨a', b'⟩, hab, ez⟩ := List.mem_map.mp this
        have := two_inj ez
        injection this with z1 z2
        exact ⟨a', b', hab, z1.symm, z2.symm⟩
      · rintro ⟨a', b', hab, rfl, rfl⟩
        have : two (nm perm a', nm perm b') ∈ rows.map (·.2) := by
          rw [e2]
          exact List.mem_map.mpr ⟨(a', b'), hab, rfl⟩
        obtain ⟨r, hr', er⟩ := List.mem_map.mp this
        have h2 := sup r hr'
        rw [er] at h2
        exact (pm'.map (·.2)).mem_iff.mpr h2
    have s13 : Same H1 H3 := (keep k2).trans s5
    have hN3 := s13 _ _ hN
    have hWi3 := s13 _ _ hWi1
    refine ⟨_, rfl, _, rfl, _, rfl, wi, rfl, ⟨_, .inl (.inl hWi3)⟩, fun d2 hd2 => ?_⟩
    have keep2 : ∀ {H' : Hp}, Kp [d2] H3 H' → Same H3 H' := fun {H'} k b o e => k b o (fun m => by rw [List.mem_singleton.mp m, hd2] at e; cases e) e
    refine lc_list (K := K) (xs := ws.map vN) (fun i H' => Kp [d2] H3 H' ∧ H' d2 = some (.lst (((ws.take i).map (nm perm)).map vN)))
      ⟨(fun b o x e => by rw [upd_ne (ne_of_none e hd2)]; exact e), upd_same⟩ (fun i H' _ ⟨k, _⟩ => .inl (.inl (keep2 k _ _ hWi3))) ?_ ?_
    · rintro i x H4 hx ⟨k4, hD4⟩
      obtain ⟨a', ha', rfl⟩ := get_map hx
      have il : i < ws.length := (List.getElem?_eq_some_iff.mp ha').1
      refine ⟨rfl, ?_⟩
      refine ⟨_, rfl, _, rfl, na, _, _, _, rfl, rfl, .inl (.inl (keep2 k4 _ _ hN3)), nm_at pm (inW a' (List.mem_of_getElem? ha')), _, hD4, ?_, ?_, ?_⟩
      · rw [List.length_map, List.length_map, List.length_take]
        exact small1000 (by omega)
      · intro b o nb eb
        rw [upd_ne (fun z => nb (by rw [z]; simp))]
        exact k4 b o nb eb
      · rw [upd_same, take_more ha', List.map_append, List.map_append]
        rfl
    rintro H4 ⟨k4, hD4⟩
    rw [List.take_of_length_le (by rw [List.length_map]; exact Nat.le_refl _)] at hD4
    refine ⟨d2, iN (ws.map (nm perm)), rfl, .inl (.inl (.inl (by rw [← vN_map]; exact hD4))), by rw [iN_length, List.length_map]; omega, fun p2 n2 hp2 hn2 => ?_⟩
    rw [iN_length, List.length_map] at hn2
    refine ⟨p2, _, n2, rfl, upd_same, by omega, fun ns u2 up2 mem2 _ hu2 => ?_⟩
    refine ⟨u2, _, rfl, .inl ⟨.inl (.inl upd_same), fun tw htw => ?_⟩⟩
    have s6 : Same H4 (upd (upd (upd H4 p2 (SetO w p2 (fun j => decide (j ∈ iN (ws.map (nm perm)))) n2)) u2 (.lst (ns.map V.int))) tw (.tup (ns.map V.int))) := ((same_upd hp2).trans (same_upd hu2)).trans (same_upd htw)
    have hTw : (upd (upd (upd H4 p2 (SetO w p2 (fun j => decide (j ∈ iN (ws.map (nm perm)))) n2)) u2 (.lst (ns.map V.int))) tw (.tup (ns.map V.int))) tw = some (.tup (ns.map V.int)) := upd_same
    generalize upd (upd (upd H4 p2 (SetO w p2 (fun j => decide (j ∈ iN (ws.map (nm perm)))) n2)) u2 (.lst (ns.map V.int))) tw (.tup (ns.map V.int)) = H5 at s6 hTw
    have s15 : Same H1 H5 := s13.trans ((keep2 k4).trans s6)
    have s35 : Same H3 H5 := (keep2 k4).trans s6
    obtain ⟨wl, ewl, memW⟩ : ∃ wl : List Nat, ns = iN wl ∧ ∀ x, x ∈ wl ↔ x ∈ ws.map (nm perm) := by
      have nn : ∀ y ∈ ns, 0 ≤ y := by
        intro y hy
        have := of_decide_eq_true ((mem2 y).mp hy)
        unfold iN at this
        obtain ⟨z, _, ez⟩ := List.mem_map.mp this
        omega
      refine ⟨ns.map Int.toNat, ?_, fun x => ?_⟩
      · unfold iN
        rw [List.map_map]
        conv => lhs; rw [← List.map_id ns]
        exact List.map_congr_left fun y hy => (Int.toNat_of_nonneg (nn y hy)).symm
      · constructor
        · intro h
          obtain ⟨y, hy, ey⟩ := List.mem_map.mp h
          have h2 := of_decide_eq_true ((mem2 y).mp hy)
          have h3 : y = (x : Int) := by
            have := nn y hy
            omega
          rw [h3] at h2
          exact iN_mem.mp h2
        · intro h
          exact List.mem_map.mpr ⟨(x : Int), (mem2 _).mpr (decide_eq_true (iN_mem.mpr h)), by omega⟩
    have upW : wl.Pairwise (· < ·) := by
      rw [ewl] at up2
      unfold iN at up2
      exact (List.pairwise_map.mp up2).imp fun h => by omega
    refine ⟨by show 3 ≤ sizeLine; decide, fun ct hct => ?_⟩
    have s7 : Same H5 (upd H5 ct (.tup [vN n, .ref tp, .ref tw])) := same_upd hct
    refine ⟨_, rfl, by show 2 ≤ sizeLine; decide, fun qa hqa => ?_⟩
    have s8 := s7.trans (same_upd (o := .lst [.ref ct, .ref na]) hqa)
    have s18 := s15.trans s8
    have len : perm.length = n := by rw [pm.length_eq, List.length_range]
    refine q qa ct na perm ⟨n, rds, wl⟩ _ pm ?_ hna upd_same ⟨tp, tw, L'.map (·.1), ?_, ?_, ?_, ?_⟩ (s18 _ _ hN) ⟨rfl, ⟨n60, ?_, ?_, upR, ?_, upW⟩, memR, ?_⟩ (hP1.same s18) ?_
    · have h1 := (s15.trans s7).free hqa
      cases eq : H qa with
      | none => rfl
      | some o =>
        have : qa ∉ [p, l] := by
          intro m
          obtain ⟨o', e', _⟩ := hP1.lists qa m
          rw [e'] at h1
          cases h1
        rw [k1 _ _ this eq] at h1
        cases h1
    · exact .inl (.inl (by rw [upd_ne (ne_of_none upd_same hqa)]; exact upd_same))
    · refine .inl (.inl ?_)
      have := s8 _ _ (s35 _ _ hTp)
      rw [List.map_map]
      exact this
    · exact hRd.keep (Same.kp (ex := []) (s35.trans s8)) (lists_nil _)
    · refine .inl (.inl ?_)
      have := s8 _ _ hTw
      rw [vN_map, ← ewl]
      exact this
    · show rds.length ≤ 240
      have e := congrArg List.length erds
      rw [List.length_map, List.length_map] at e
      omega
    · rintro ⟨x, y⟩ hxy
      obtain ⟨a', b', hab, e1, e3⟩ := (memR x y).mp hxy
      obtain ⟨b1, b2⟩ := inP _ hab
      rw [e1, e3]
      exact ⟨perm_lt pm b1, perm_lt pm b2⟩
    · intro x hx
      obtain ⟨a', ha', e1⟩ := List.mem_map.mp ((memW x).mp hx)
      rw [← e1]
      exact perm_lt pm (inW a' ha')
    · intro x
      rw [memW x, List.mem_map]
      exact ⟨fun ⟨a', h1, h2⟩ => ⟨a', h1, h2.symm⟩, fun ⟨a', h1, h2⟩ => ⟨a', h1, h2.symm⟩⟩
    · exact k1.trans (Same.kp s18)
end
end Ft

set_option Elab.async false
set_option linter.all false
set_option maxRecDepth 100000
set_option maxHeartbeats 8000000
namespace Ft
open PySem PySem.Spec PyProof.Rows L2
/-- ascending places below i -/
structure Upto (F : List Nat) (i : Nat) : Prop where
  up : F.Pairwise (· < ·)
  lt : ∀ a ∈ F, a < i
theorem Upto.nil (i : Nat) : Upto [] i := ⟨.nil, fun _ h => nomatch h⟩
theorem Upto.wider {F : List Nat} {i : Nat} (h : Upto F i) : Upto F (i + 1) := ⟨h.up, fun a m => Nat.lt_succ_of_lt (h.lt a m)⟩
theorem Upto.more {F : List Nat} {i : Nat} (h : Upto F i) : Upto (F ++ [i]) (i + 1) := by
  refine ⟨List.pairwise_append.mpr ⟨h.up, List.pairwise_singleton _ _, fun a ha b hb => ?_⟩, fun a m => ?_⟩
  · rw [List.mem_singleton.mp hb]
    exact h.lt a ha
  · rcases List.mem_append.mp m with m | m
    · exact Nat.lt_succ_of_lt (h.lt a m)
    · rw [List.mem_singleton.mp m]
      omega
theorem Upto.len {F : List Nat} {i : Nat} (h : Upto F i) : F.length ≤ i := up_len h.up h.lt
theorem upto_range (n : Nat) : Upto (List.range n) n := ⟨range_up n, fun _ h => List.mem_range.mp h⟩
theorem nodup_lt_len {l : List Nat} {n : Nat} (nd : l.Nodup) (b : ∀ a ∈ l, a < n) : l.length ≤ n := by
  have := nat_nodup_len l (List.range n) nd fun x hx => List.mem_range.mpr (b x hx)
  rwa [List.length_range] at this
/-! ### a list of pairs as data -/
def encP (p : Nat × Nat) : PyData := .tuple [.int (p.1 : Int), .int (p.2 : Int)]
theorem pairs_shaped (ps : List (Nat × Nat)) : SeqAt.shaped (.list (ps.map encP)) = true := by
  unfold SeqAt.shaped
  have h1 : PyData.canLayAll0 (ps.map encP) = true := by
    induction ps with
    | nil => simp [PyData.canLayAll0]
    | cons c cs ih => simp [PyData.canLayAll0, PyData.canLay0, encP, ih]
  have h2 : PyData.depthAll (ps.map encP) ≤ 1 := by
    induction ps with
    | nil => simp [PyData.depthAll]
    | cons c cs ih =>
      have ih' := ih (by
        have := h1
        simp [PyData.canLayAll0, PyData.canLay0, encP] at this
        exact this)
      simp [PyData.depthAll, PyData.depth, encP]
      omega
  simp [PyData.canLay0, h1, PyData.depth]
  omega
theorem dpAll_pairs {K : PySem.W.Frag} {H : Hp} : ∀ (L : List (Addr × (Nat × Nat))), (∀ r ∈ L, SqT K H r.1 [vN r.2.1, vN r.2.2]) → DpAll K H (L.map fun r => V.ref r.1) (L.map fun r => encP r.2)
  | [], _ => .nil
  | r :: L, h => .cons (.tup (h r List.mem_cons_self) (.cons (.int _) (.cons (.int _) .nil))) (dpAll_pairs L fun q hq => h q (List.mem_cons_of_mem _ hq))
theorem in_vN {x : Nat} {F : List Nat} : inV (vN x) (F.map vN) = decide (x ∈ F) := by
  rw [Bool.eq_iff_iff]
  unfold inV
  rw [List.any_map, List.any_eq_true, decide_eq_true_eq]
  constructor
  · rintro ⟨y, hy, e⟩
    have : (y : Int) = x := by simpa [eqV, vN] using e
    have : y = x := by omega
    exact this ▸ hy
  · intro h
    exact ⟨x, h, by simp [eqV, vN]⟩
theorem all_vN (F : List Nat) : (F.map vN).all flatV = true := by
  rw [List.all_map, List.all_eq_true]
  intro x _
  rfl
theorem PoolAt.set {H : Hp} {p l e : Addr} {o : HO} (n : e ∉ [p, l]) (h : PoolAt H p l) : PoolAt (upd H e o) p l := by
  obtain ⟨a, b, cs, h1, h2, h3⟩ := h
  exact ⟨a, b, cs, by rw [upd_ne (fun z => n (by simp [z]))]; exact h1, by rw [upd_ne (fun z => n (by simp [z]))]; exact h2, h3⟩
/-- what was made on the way does not count -/
theorem kp_made {p l e : Addr} {H H1 H2 : Hp} (k : Kp [p, l] H H1) (he : H1 e = none) (k2 : Kp [p, l, e] H1 H2) : Kp [p, l] H H2 := fun b o nb eb => by
  have e1 := k b o nb eb
  refine k2 b o (fun m => ?_) e1
  simp only [List.mem_cons, List.not_mem_nil, or_false] at m nb
  rcases m with m | m | m
  · exact nb (.inl m)
  · exact nb (.inr m)
  · rw [m, he] at e1
    cases e1
section
variable {P : Program} {w : World} {K : PySem.W.Frag} {mg : Str → Option Value} {base : Heap} {t1 t2 : Tok}
/-! ### _law_map_some_wished -/
def sp_law_map_some_wished (K : PySem.W.Frag) : Sp := fun vs H Q _ => ∃ (p l ro : Addr) (n : Nat) (ts : List Addr) (prs : List (Nat × Nat)), vs = [.ref p, vN n, .ref ro] ∧ PoolAt H p l ∧ n ≤ 60 ∧
  H ro = some (.lst (ts.map V.ref)) ∧ ro ∉ [p, l] ∧ PairsAt K H ts prs ∧ prs.length < 64 ∧
  ∀ (q : Addr) (ws : List Nat) (H' : Hp), ws.Nodup → (∀ a ∈ ws, a < n) → H q = none → H' q = some (.lst (ws.map vN)) → PoolAt H' p l → Kp [p, l] H H' → Q (.ref q) H'
theorem cal_law_map_some_wished (T : Txt mg) (D : Def K mg "_law_map_some_wished" s_law_map_some_wished) (c_law_draw : Cal P w K mg base 2 "_law_draw" sp_law_draw) : Cal P w K mg base 3 "_law_map_some_wished" (sp_law_map_some_wished K) := by
  refine cal_of D sc_law_map_some_wished (fun _ _ _ _ _ _ us hl => match us, hl with | [_, _, _], _ => rfl) (fun vs H Q E h => ?_) (fun f cdv A outer s H vs Q E hr h => ?_)
  · obtain ⟨p, l, ro, n, ts, prs, rfl, _⟩ := h
    rfl
  · obtain ⟨p, l, ro, n, ts, prs, rfl, hP, n60, hRo, oR, hPr, fewP, q⟩ := h
    have hU := hr.units
    refine ⟨_, (pss_cons (ps_asg (pe_tup (pa_cons (pe_c c_law_draw hr (by decide) (by rfl) (pa_cons (pv 0) (pa_cons pe_int pa_nil))) (pa_cons (pe_lc (own := [("a", 5)]) rfl sc_law_map_some_wished.nd (pi_range1 (by rfl) T.range (pa_cons (pv 1) pa_nil)) (blkOk_by (N := ["pool", "places", "roads", "way", "last", "a", "road"]) (sc := L2.defScope s_law_map_some_wished) (by decide +kernel)) (fun _ _ _ _ _ => (pg_name (i := 5) sc_law_map_some_wished.nd rfl (Or.inr rfl))) (fun _ _ _ _ _ => pts_one (pt_cmpR (show OpR _ _ (rEqD K) from op_eqD hU) (pe_lc (own := [("road", 6)]) rfl sc_law_map_some_wished.nd (show PI _ _ _ (iList K _) from pi_list (pv 2)) (blkIn (N := ["pool", "places", "roads", "way", "last", "a", "road"]) (sc := L2.defScope s_law_map_some_wished) rfl (by decide +kernel)) (fun _ _ _ _ _ => (pg_name (i := 6) sc_law_map_some_wished.nd rfl (Or.inl rfl))) (fun _ _ _ _ _ => pts_one (pt_cmpR op_eq (pe_ix (show IxR _ (rIxT K) from ix_tup) (pv 6) pe_int (fun _ _ => rfl)) (pv 5) (nomark _))) (fun _ _ _ _ _ => (pv 6))) (pe_lst pa_nil) (nomark _))) (fun _ _ _ _ _ => (pv 5))) pa_nil))) (show PG _ _ (gTup K 2 _) from pg_tup (by rfl) (pgs_cons (pg_name (i := 3) sc_law_map_some_wished.nd rfl (Or.inr rfl)) (pgs_cons (pg_name (i := 4) sc_law_map_some_wished.nd rfl (Or.inr rfl)) pgs_nil))))
      (pss_cons (ps_if (pt_cmpR op_lt (pv 3) pe_int (nomark _)) (pss_one (ps_ret (pe_op op_cat (pv 4) (pe_lc (own := [("a", 5)]) rfl sc_law_map_some_wished.nd (pi_range1 (by rfl) T.range (pa_cons (pv 1) pa_nil)) (blkOk_by (N := ["pool", "places", "roads", "way", "last", "a", "road"]) (sc := L2.defScope s_law_map_some_wished) (by decide +kernel)) (fun _ _ _ _ _ => (pg_name (i := 5) sc_law_map_some_wished.nd rfl (Or.inl rfl))) (fun _ _ _ _ _ => pts_one (PW.pt (pw_and (pt_cmpR (show OpR _ _ (rIn K true) from op_notIn_seq) (pv 5) (pv 4) (by rfl)) (pw_and (pt_cmpR op_gt (pv 3) pe_int (nomark _)) (pw_and1 (pt_cmpR op_eq (pe_c c_law_draw hr (by decide) (by rfl) (pa_cons (pv 0) (pa_cons pe_int pa_nil))) pe_int (nomark _))))))) (fun _ _ _ _ _ => (pv 5)))))) pss_nil)
      (pss_cons (ps_if (pt_cmpR op_lt (pv 3) pe_int (nomark _)) (pss_one (ps_ret (pe_lc (own := [("a", 5)]) rfl sc_law_map_some_wished.nd (pi_range1 (by rfl) T.range (pa_cons (pv 1) pa_nil)) (blkOk_by (N := ["pool", "places", "roads", "way", "last", "a", "road"]) (sc := L2.defScope s_law_map_some_wished) (by decide +kernel)) (fun _ _ _ _ _ => (pg_name (i := 5) sc_law_map_some_wished.nd rfl (Or.inl rfl))) (fun _ _ _ _ _ => pts_one (pt_cmpR op_eq (pe_c c_law_draw hr (by decide) (by rfl) (pa_cons (pv 0) (pa_cons (pe_op op_sub (pv 3) pe_int) pa_nil))) pe_int (nomark _))) (fun _ _ _ _ _ => (pv 5))))) pss_nil)
      (pss_one (ps_ret (pe_ifExp (pt_cmpR op_gt (pe_c c_law_draw hr (by decide) (by rfl) (pa_cons (pv 0) (pa_cons pe_int pa_nil))) pe_int (nomark _)) (pe_lst pa_nil) (pe_listRg rfl (by rfl) T.list (prg_1 (by rfl) T.range (pv 1))))))))), ?_⟩
    refine ⟨_, rfl, p, l, 8, rfl, hP, by decide, by decide, fun way H1 hway hP1 k1 => ?_⟩
    have hRo1 := k1 _ _ oR hRo
    have hPr1 : PairsAt K H1 ts prs := hPr.keep k1 hP.lists
    refine ⟨_, rfl, _, rfl, by omega, by omega, fun d hd => ?_⟩
    have keep : ∀ {H' : Hp}, Kp [d] H1 H' → Same H1 H' := fun {H'} k b o e => k b o (fun m => by rw [List.mem_singleton.mp m, hd] at e; cases e) e
    refine lc_range (lo := 0) (n := n) (fun i H' => ∃ F : List Nat, Kp [d] H1 H' ∧ H' d = some (.lst (F.map vN)) ∧ Upto F i)
      ⟨[], (fun b o x e => by rw [upd_ne (ne_of_none e hd)]; exact e), upd_same, Upto.nil 0⟩ ?_ ?_
    · rintro i H2 hi ⟨F, k2, hD, hF⟩
      have e0 : (0 : Int) + (i : Nat) = (i : Nat) := by omega
      refine ⟨rfl, ?_⟩
      rw [e0]
      refine ⟨_, rfl, ro, rfl, ⟨_, .inl (.inl (keep k2 _ _ hRo1))⟩, fun e he => ?_⟩
      have keep2 : ∀ {H' : Hp}, Kp [e] H2 H' → Same H2 H' := fun {H'} k b o e' => k b o (fun m => by rw [List.mem_singleton.mp m, he] at e'; cases e') e'
      refine lc_list (K := K) (xs := ts.map V.ref) (fun j H' => ∃ L : List (Addr × (Nat × Nat)), Kp [e] H2 H' ∧ H' e = some (.lst (L.map fun r => V.ref r.1)) ∧ L.length ≤ j ∧ ∀ r ∈ L, SqT K H2 r.1 [vN r.2.1, vN r.2.2])
        ⟨[], (fun b o x e' => by rw [upd_ne (ne_of_none e' he)]; exact e'), upd_same, Nat.le_refl _, fun _ h => nomatch h⟩ (fun j H' _ ⟨_, k, _⟩ => .inl (.inl (keep2 k _ _ (keep k2 _ _ hRo1)))) ?_ ?_
      · rintro j x H3 hx ⟨L, k3, hE, fl, all⟩
        obtain ⟨t, ht, rfl⟩ := get_map hx
        obtain ⟨q0, hq0, pt⟩ := paired_getL hPr1 ht
        have jl : j < prs.length := (List.getElem?_eq_some_iff.mp hq0).1
        have pt2 := Same.sqT (keep k2) pt
        have pt3 := Same.sqT (keep2 k3) pt2
        refine ⟨rfl, ?_⟩
        refine ⟨_, rfl, t, _, _, _, rfl, rfl, pt3, rfl, _, rfl, rfl, _, rfl, ite_any (fun _ => ?_) (fun _ => ?_)⟩
        · refine ⟨_, rfl, _, hE, by rw [List.length_map]; exact small1000 (by omega), L ++ [(t, q0)], ?_, by rw [upd_same, List.map_append]; rfl, by rw [List.length_append]; exact Nat.succ_le_succ fl, ?_⟩
          · intro b o nb eb
            rw [upd_ne (fun z => nb (by rw [z]; simp))]
            exact k3 b o nb eb
          · intro r hr'
            rcases List.mem_append.mp hr' with hr' | hr'
            · exact all r hr'
            · rw [List.mem_singleton.mp hr']
              exact pt2
        · exact ⟨L, k3, hE, by omega, all⟩
      · rintro H3 ⟨L, k3, hE, fl, all⟩
        refine ⟨Nat.zero_le _, fun g hg => ?_⟩
        have s4 : Same H3 (upd H3 g (.lst [])) := same_upd hg
        have hD3 := keep2 k3 _ _ hD
        have kd : Kp [d] H1 (upd H3 g (.lst [])) := fun b o nb eb => s4 _ _ (keep2 k3 _ _ (k2 b o nb eb))
        refine ⟨.list (L.map fun r => encP r.2), .list [], .lst (.inl (.inl (s4 _ _ hE))) (dpAll_pairs L fun r hr' => Same.sqT ((keep2 k3).trans s4) (all r hr')), .lst (.inl (.inl upd_same)) .nil, by have z := pairs_shaped (L.map (·.2)); rw [List.map_map] at z; exact z, rfl, _, rfl, ite_any (fun _ => ?_) (fun _ => ?_)⟩
        · refine ⟨_, rfl, _, s4 _ _ hD3, by rw [List.length_map]; exact small1000 (by have := hF.len; omega), F ++ [i], ?_, by rw [upd_same, List.map_append]; rfl, hF.more⟩
          intro b o nb eb
          rw [upd_ne (fun z => nb (by rw [z]; simp))]
          exact kd b o nb eb
        · exact ⟨F, kd, s4 _ _ hD3, hF.wider⟩
    rintro H2 ⟨F, k2, hD, hF⟩
    refine ⟨by show 2 ≤ sizeLine; decide, fun tp htp => ?_⟩
    have hD' : (upd H2 tp (.tup [vN way, .ref d])) d = some (.lst (F.map vN)) := (same_upd htp) _ _ hD
    refine ⟨tp, _, rfl, .inl (.inl upd_same), rfl, _, _, rfl, _, _, rfl, rfl, ?_⟩
    have s3 : Same H1 (upd H2 tp (.tup [vN way, .ref d])) := (keep k2).trans (same_upd htp)
    generalize upd H2 tp (.tup [vN way, .ref d]) = H3 at s3 hD'
    have hP3 := hP1.same s3
    have k3 : Kp [p, l] H H3 := k1.trans (Same.kp s3)
    have dpl : d ∉ [p, l] := hP1.free hd
    have hd0 : H d = none := kp_free k1 dpl hd
    refine ⟨_, rfl, _, _, rfl, rfl, _, rfl, ite_any (fun _ => ?_) (fun hw4 => ?_)⟩
    · refine ⟨_, rfl, _, rfl, _, rfl, by omega, by omega, fun e he => ?_⟩
      have hde : d ≠ e := ne_of_none hD' he
      have epl : e ∉ [p, l] := hP3.free he
      refine lc_range (lo := 0) (n := n) (fun i H' => ∃ G : List Nat, Kp [p, l, e] H3 H' ∧ H' e = some (.lst (G.map vN)) ∧ PoolAt H' p l ∧ Upto G i ∧ ∀ x ∈ G, x ∉ F)
        ⟨[], (fun b o x e' => by rw [upd_ne (ne_of_none e' he)]; exact e'), upd_same, hP3.same (same_upd he), Upto.nil 0, fun _ h => nomatch h⟩ ?_ ?_
      · rintro i H4 hi ⟨G, k4, hE, hP4, hG, off⟩
        have e0 : (0 : Int) + (i : Nat) = (i : Nat) := by omega
        have hD4 : H4 d = some (.lst (F.map vN)) := k4 _ _ (by simp only [List.mem_cons, List.not_mem_nil, or_false] at dpl ⊢; simp [dpl, hde]) hD'
        refine ⟨rfl, ?_⟩
        rw [e0]
        refine ⟨_, rfl, _, rfl, d, _, rfl, .inl (.inl (.inl hD4)), rfl, all_vN F, _, rfl, ite_any (fun hn => ?_) (fun _ => ?_)⟩
        · have hn' : i ∉ F := by
            have hn2 : (!inV (vN i) (F.map vN)) = true := hn
            rw [in_vN] at hn2
            simpa using hn2
          refine ⟨_, rfl, _, _, rfl, rfl, _, rfl, ite_any (fun _ => ?_) (fun _ => ?_)⟩
          · refine ⟨_, rfl, p, l, 6, rfl, hP4, by decide, by decide, fun r H5 hr5 hP5 k5 => ?_⟩
            have k45 : Kp [p, l, e] H3 H5 := fun b o nb eb => k5 _ _ (fun m => nb (by simp only [List.mem_cons, List.not_mem_nil, or_false] at m ⊢; rcases m with m | m <;> simp [m])) (k4 b o nb eb)
            have hE5 := k5 _ _ epl hE
            refine ⟨rfl, _, rfl, ite_any (fun _ => ?_) (fun _ => ?_)⟩
            · refine ⟨_, rfl, _, hE5, by rw [List.length_map]; exact small1000 (by have := hG.len; omega), G ++ [i], ?_, by rw [upd_same, List.map_append]; rfl, ?_, hG.more, ?_⟩
              · intro b o nb eb
                rw [upd_ne (fun z => nb (by rw [z]; simp))]
                exact k45 b o nb eb
              · exact hP5.set epl
              · intro x hx
                rcases List.mem_append.mp hx with hx | hx
                · exact off x hx
                · rw [List.mem_singleton.mp hx]
                  exact hn'
            · exact ⟨G, k45, hE5, hP5, hG.wider, off⟩
          · exact ⟨G, k4, hE, hP4, hG.wider, off⟩
        · exact ⟨G, k4, hE, hP4, hG.wider, off⟩
      · rintro H4 ⟨G, k4, hE, hP4, hG, off⟩
        have hD4 : H4 d = some (.lst (F.map vN)) := k4 _ _ (by simp only [List.mem_cons, List.not_mem_nil, or_false] at dpl ⊢; simp [dpl, hde]) hD'
        refine ⟨d, e, _, _, rfl, rfl, hD4, hE, ?_, fun z hz => ?_⟩
        · rw [List.length_map, List.length_map]
          have h1 := hF.len
          have h2 := hG.len
          show F.length + G.length ≤ sizeLine
          have h3 : (1000 : Nat) ≤ sizeLine := by decide
          omega
        · have s5 : Same H4 (upd H4 z (.lst (F.map vN ++ G.map vN))) := same_upd hz
          have k34 : Kp [p, l] H H4 := kp_made k3 he k4
          refine q z (F ++ G) _ ?_ ?_ (kp_free k34 (hP4.free hz) hz) (by rw [upd_same, List.map_append]) (hP4.same s5) (k34.trans (Same.kp s5))
          · rw [List.nodup_append]
            exact ⟨up_nodup hF.up, up_nodup hG.up, fun x hx y hy z => off y hy (z ▸ hx)⟩
          · intro x hx
            rcases List.mem_append.mp hx with hx | hx
            · exact hF.lt x hx
            · exact hG.lt x hx
    · have hw4' := of_decide_eq_false hw4
      refine ⟨_, rfl, _, _, rfl, rfl, _, rfl, ite_any (fun hw => ?_) (fun _ => ?_)⟩
      · refine ⟨_, rfl, _, rfl, by omega, by omega, fun e he => ?_⟩
        have epl : e ∉ [p, l] := hP3.free he
        refine lc_range (lo := 0) (n := n) (fun i H' => ∃ G : List Nat, Kp [p, l, e] H3 H' ∧ H' e = some (.lst (G.map vN)) ∧ PoolAt H' p l ∧ Upto G i)
          ⟨[], (fun b o x e' => by rw [upd_ne (ne_of_none e' he)]; exact e'), upd_same, hP3.same (same_upd he), Upto.nil 0⟩ ?_ ?_
        · rintro i H4 hi ⟨G, k4, hE, hP4, hG⟩
          have e0 : (0 : Int) + (i : Nat) = (i : Nat) := by omega
          refine ⟨rfl, ?_⟩
          rw [e0]
          refine ⟨_, rfl, _, rfl, _, _, rfl, rfl, p, l, way - 2, ?_, hP4, by omega, by omega, fun r H5 hr5 hP5 k5 => ?_⟩
          · have : ((way : Nat) : Int) - 2 = ((way - 2 : Nat) : Int) := by omega
            show [V.ref p, V.int ((way : Nat) - 2)] = [V.ref p, V.int ((way - 2 : Nat) : Int)]
            rw [this]
          have k45 : Kp [p, l, e] H3 H5 := fun b o nb eb => k5 _ _ (fun m => nb (by simp only [List.mem_cons, List.not_mem_nil, or_false] at m ⊢; rcases m with m | m <;> simp [m])) (k4 b o nb eb)
          have hE5 := k5 _ _ epl hE
          refine ⟨rfl, _, rfl, ite_any (fun _ => ?_) (fun _ => ?_)⟩
          · refine ⟨_, rfl, _, hE5, by rw [List.length_map]; exact small1000 (by have := hG.len; omega), G ++ [i], ?_, by rw [upd_same, List.map_append]; rfl, hP5.set epl, hG.more⟩
            intro b o nb eb
            rw [upd_ne (fun z => nb (by rw [z]; simp))]
            exact k45 b o nb eb
          · exact ⟨G, k45, hE5, hP5, hG.wider⟩
        · rintro H4 ⟨G, k4, hE, hP4, hG⟩
          have k34 : Kp [p, l] H H4 := kp_made k3 he k4
          exact q e G _ (up_nodup hG.up) hG.lt (kp_free k3 epl he) hE hP4 k34
      · refine ⟨_, rfl, p, l, 3, rfl, hP3, by decide, by decide, fun r H4 hr4 hP4 k4 => ?_⟩
        refine ⟨_, _, rfl, rfl, _, rfl, ite_any (fun _ => ?_) (fun _ => ?_)⟩
        · refine ⟨Nat.zero_le _, fun e he => ?_⟩
          have epl : e ∉ [p, l] := hP4.free he
          exact q e [] _ .nil (fun _ h => nomatch h) (kp_free (k3.trans k4) epl he) upd_same (hP4.set epl) ((k3.trans k4).trans (Same.kp (same_upd he)))
        · refine ⟨_, rfl, _, rfl, .of_le (by omega) (by omega) (by omega) (by omega), fun e he => ?_⟩
          have epl : e ∉ [p, l] := hP4.free he
          exact q e (List.range n) _ (up_nodup (range_up n)) (fun _ h => List.mem_range.mp h) (kp_free (k3.trans k4) epl he) (by rw [upd_same, rgV_nat]) (hP4.set epl) ((k3.trans k4).trans (Same.kp (same_upd he)))
end
end Ft

set_option Elab.async false
set_option linter.all false
set_option maxRecDepth 100000
set_option maxHeartbeats 8000000
namespace Ft
open PySem PySem.Spec PyProof.Rows L2
open RZ
/-! ### is_later -/
def LaterOf (C : Chart) (S U : List Nat) : Prop := S.length = U.length ∧ ∀ (i a b : Nat), S[i]? = some a → U[i]? = some b → b ∈ laterL C a
noncomputable def laterB (C : Chart) (S U : List Nat) : Bool := @decide (LaterOf C S U) (Classical.propDecidable _)
theorem laterB_t {C : Chart} {S U : List Nat} (h : LaterOf C S U) : laterB C S U = true := by unfold laterB; exact @decide_eq_true _ (Classical.propDecidable _) h
theorem laterB_f {C : Chart} {S U : List Nat} (h : ¬ LaterOf C S U) : laterB C S U = false := by unfold laterB; exact @decide_eq_false _ (Classical.propDecidable _) h
theorem stand_is {dc ds : PyData} (h : isStand dc ds = true) : ∃ C S, C.Ok ∧ dc = chartD C ∧ ds = lotD S ∧ (∀ x ∈ S, x < C.n) ∧ 1 ≤ S.length ∧ S.length ≤ 3 := by
  cases e : mapErr dc with
  | some y =>
    unfold isStand at h
    rw [e] at h
    cases h
  | none =>
    obtain ⟨C, ok, rfl⟩ := mapErr_none e
    rw [isStand_chart ok] at h
    cases e2 : standErr C.n ds with
    | some i => rw [e2] at h; cases h
    | none =>
      obtain ⟨S, eS, lt, k1, k3⟩ := standErr_none e2
      exact ⟨C, S, ok, rfl, eS, lt, k1, k3⟩
theorem isStand_ok {C : Chart} {S : List Nat} (ok : C.Ok) (lt : ∀ x ∈ S, x < C.n) (l1 : 1 ≤ S.length) (l3 : S.length ≤ 3) : isStand (chartD C) (lotD S) = true := by
  rw [isStand_chart ok, standErr_ok lt l1 l3]
  rfl
section
variable {P : Program} {w : World} {K : PySem.W.Frag} {mg : Str → Option Value} {base : Heap} {ca : Str → Addr}
def sp_is_later (K : PySem.W.Frag) : Sp := fun vs H Q _ => ∃ (vc v1 v2 : V) (dc d1 d2 : PyData), vs = [vc, v1, v2] ∧ Dp K H vc dc ∧ Dp K H v1 d1 ∧ Dp K H v2 d2 ∧ (isStand dc d1 = false ∨ isStand dc d2 = false → ∀ H', Same H H' → Q (.bl false) H') ∧
  ∀ C S U, C.Ok → dc = chartD C → d1 = lotD S → d2 = lotD U → (∀ x ∈ S, x < C.n) → 1 ≤ S.length → S.length ≤ 3 → (∀ x ∈ U, x < C.n) → 1 ≤ U.length → U.length ≤ 3 → ∀ H', Same H H' → Q (.bl (laterB C S U)) H'
theorem cal_is_later (T : Txt mg) (D : Def K mg "is_later" s_is_later) (c_is_standing : Cal P w K mg base 7 "is_standing" (sp_is_standing K)) (c_piece_table : Cal P w K mg base 5 "piece_table" (sp_piece_table K)) (c_later_places : Cal P w K mg base 5 "later_places" (sp_later_places K)) : Cal P w K mg base 8 "is_later" (sp_is_later K) := by
  refine cal_of D sc_is_later (fun _ _ _ _ _ _ us hl => match us, hl with | [_, _, _], _ => rfl) (fun vs H Q E h => ?_) (fun f cdv A outer s H vs Q E hr h => ?_)
  · obtain ⟨vc, v1, v2, dc, d1, d2, rfl, _⟩ := h
    rfl
  · obtain ⟨vc, v1, v2, dc, d1, d2, rfl, hdc, hd1, hd2, qn, qy⟩ := h
    refine ⟨_, (pss_cons (ps_if (PW.pt (pw_or (pt_not (pt_val (pe_c c_is_standing hr (by decide) (by rfl) (pa_cons (pv 0) (pa_cons (pv 1) pa_nil))))) (pw_or (pt_not (pt_val (pe_c c_is_standing hr (by decide) (by rfl) (pa_cons (pv 0) (pa_cons (pv 2) pa_nil))))) (pw_or1 (pt_cmpR op_ne (pe_callB (show CallR _ _ (rLenS K) from call_lenS) (by rfl) T.len (by decide +kernel) (pa_cons (pv 1) pa_nil)) (pe_callB (show CallR _ _ (rLenS K) from call_lenS) (by rfl) T.len (by decide +kernel) (pa_cons (pv 2) pa_nil)) (nomark _)))))) (pss_one (ps_ret pe_bl)) pss_nil)
      (pss_cons (ps_set (i := 3) sc_is_later.nd rfl (Or.inr rfl) (pe_c c_piece_table hr (by decide) (by rfl) (pa_cons (pv 0) pa_nil)))
      (pss_one (ps_ret (pe_callB (show CallR _ _ (rAll K) from cr_all rfl) (by rfl) T.all (by decide +kernel) (pa_cons (pe_lc (own := [("a", 4), ("b", 5)]) rfl sc_is_later.nd (pi_zipA (by rfl) T.zip (pa_cons (pv 1) (pa_cons (pv 2) pa_nil))) (blkOk_by (N := ["chart", "one", "two", "table", "a", "b"]) (sc := L2.defScope s_is_later) (by decide +kernel)) (fun _ _ _ _ _ => (show PG _ _ (gTup K 2 _) from pg_tup (by rfl) (pgs_cons (pg_name (i := 4) sc_is_later.nd rfl (Or.inl rfl)) (pgs_cons (pg_name (i := 5) sc_is_later.nd rfl (Or.inl rfl)) pgs_nil)))) (fun _ _ _ _ _ => pts_nil) (fun _ _ _ _ _ => (pe_cmpR (show OpR _ _ (rIn K false) from op_in_seq) (pv 5) (pe_c c_later_places hr (by decide) (by rfl) (pa_cons (pv 0) (pa_cons (pv 3) (pa_cons (pv 4) pa_nil)))) (by rfl)))) pa_nil)))))), ?_⟩
    refine ⟨_, rfl, _, rfl, vc, v1, dc, d1, rfl, hdc, hd1, fun H1 s1 => ⟨_, rfl, ?_⟩⟩
    cases e1 : isStand dc d1 with
    | false => exact iteT (iteT (qn (.inl e1) _ s1))
    | true =>
      refine iteF ?_
      refine ⟨_, rfl, _, rfl, vc, v2, dc, d2, rfl, Dp.same s1 hdc, Dp.same s1 hd2, fun H2 s2 => ⟨_, rfl, ?_⟩⟩
      have s12 := s1.trans s2
      cases e2 : isStand dc d2 with
      | false => exact iteT (iteT (qn (.inr e2) _ s12))
      | true =>
        refine iteF ?_
        obtain ⟨C, S, ok, rfl, rfl, inS, k1, k3⟩ := stand_is e1
        obtain ⟨C', U, ok', ec, rfl, inU, m1, m3⟩ := stand_is e2
        have q := qy C S U ok rfl rfl rfl inS k1 k3 (by rw [chartD_inj ec]; exact inU) m1 m3
        have inU : ∀ x ∈ U, x < C.n := by rw [chartD_inj ec]; exact inU
        obtain ⟨c, rfl, hC⟩ := chart_dp hdc
        obtain ⟨t1, rfl, hS⟩ := lot_dp hd1
        obtain ⟨t2, rfl, hU⟩ := lot_dp hd2
        have hS2 := Same.sqT s12 hS
        have hU2 := Same.sqT s12 hU
        refine ⟨_, rfl, t1, _, rfl, .inr hS2, _, rfl, t2, _, rfl, .inr hU2, rfl, _, rfl, ?_⟩
        rw [List.length_map, List.length_map]
        by_cases el : S.length = U.length
        · refine ite_any (fun h => absurd h (by rw [el]; simp)) (fun _ => ?_)
          refine ⟨_, rfl, c, C, rfl, hC.same s12, ok, fun tb rows H3 s3 _ hT hP => ?_⟩
          have s13 := s12.trans s3
          have hS3 := Same.sqT s3 hS2
          have hU3 := Same.sqT s3 hU2
          have hC3 := hC.same s13
          refine ⟨_, rfl, _, rfl, t1, t2, _, _, rfl, .inr ⟨hS3, hU3, fun D hD => ?_⟩⟩
          have keep : ∀ {H' : Hp}, Kp [D] H3 H' → Same H3 H' := fun {H'} k b o e' => k b o (fun m => by rw [List.mem_singleton.mp m, hD] at e'; cases e') e'
          have hn : S.length = min (S.map vN).length (U.map vN).length := by rw [List.length_map, List.length_map]; omega
          refine lc_it (walk_zipT (K := K) (a := t1) (b := t2) hn) (fun i H' => ∃ bs : List Bool, Kp [D] H3 H' ∧ H' D = some (.lst (bs.map V.bl)) ∧ bs.length = i ∧ (bs.all id = true ↔ ∀ (j a b : Nat), j < i → S[j]? = some a → U[j]? = some b → b ∈ laterL C a))
            ⟨[], (fun b o x e' => by rw [upd_ne (ne_of_none e' hD)]; exact e'), upd_same, rfl, by simp⟩ (fun i H' _ ⟨_, k, _⟩ => ⟨Same.sqT (keep k) hS3, Same.sqT (keep k) hU3⟩) ?_ ?_
          · rintro i x H4 H5 hi ⟨bs, k4, hD4, lb, eb⟩ ⟨tt, x0, y0, rfl, nt, rfl, e3, e4⟩
            obtain ⟨a, ha, rfl⟩ := get_map e3
            obtain ⟨b, hb, rfl⟩ := get_map e4
            have s4 : Same H3 (upd H4 tt (.tup [vN a, vN b])) := (keep k4).trans (same_upd nt)
            have hD5 : (upd H4 tt (.tup [vN a, vN b])) D = some (.lst (bs.map V.bl)) := by rw [upd_ne (ne_of_none hD4 nt)]; exact hD4
            have k5 : Kp [D] H3 (upd H4 tt (.tup [vN a, vN b])) := k4.trans (Same.kp (same_upd nt))
            have hX : SqT K (upd H4 tt (.tup [vN a, vN b])) tt [vN a, vN b] := .inl (.inl upd_same)
            generalize upd H4 tt (.tup [vN a, vN b]) = H5 at s4 hD5 k5 hX
            have han := inS a (List.mem_of_getElem? ha)
            refine ⟨tt, _, rfl, hX, rfl, _, _, rfl, _, _, rfl, rfl, rfl, ?_⟩
            refine ⟨_, rfl, _, rfl, _, rfl, _, rfl, c, tb, C, rows, a, rfl, hC3.same s4, ok, han, s4 _ _ hT, ⟨hP.1, fun x t h => Same.sqT s4 (hP.2 x t h)⟩, fun lq H6 s6 _ hL => ?_⟩
            refine ⟨lq, _, rfl, .inl (.inl (.inl hL)), rfl, all_vN _, ?_⟩
            have hD6 := s6 _ _ hD5
            refine ⟨_, hD6, by rw [List.length_map]; exact small1000 (by omega), bs ++ [decide (b ∈ laterL C a)], ?_, ?_, by rw [List.length_append, lb]; rfl, ?_⟩
            · intro b' o nb e'
              rw [upd_ne (fun z => nb (by rw [z]; simp))]
              exact s6 _ _ (k5 b' o nb e')
            · rw [upd_same, List.map_append]
              show _ = some (HO.lst (bs.map V.bl ++ [V.bl (decide (b ∈ laterL C a))]))
              rw [← in_vN]
              rfl
            · rw [List.all_append, Bool.and_eq_true, eb]
              constructor
              · rintro ⟨h1, h2⟩ j a' b' hj ea eb'
                by_cases ej : j = i
                · subst ej
                  rw [ha] at ea
                  rw [hb] at eb'
                  cases ea
                  cases eb'
                  simpa using h2
                · exact h1 j a' b' (by omega) ea eb'
              · intro h
                exact ⟨fun j a' b' hj => h j a' b' (by omega), by simpa using h i a b (by omega) ha hb⟩
          · rintro H4 ⟨bs, k4, hD4, lb, eb⟩
            refine ⟨D, bs, rfl, .inl (.inl hD4), ?_⟩
            have e : bs.all id = laterB C S U := by
              cases ea : bs.all id with
              | true =>
                refine (laterB_t ⟨el, fun j a b h1 h2 => eb.mp ea j a b (List.getElem?_eq_some_iff.mp h1).1 h1 h2⟩).symm
              | false =>
                refine (laterB_f fun h => ?_).symm
                have := eb.mpr fun j a b _ h1 h2 => h.2 j a b h1 h2
                rw [ea] at this
                cases this
            rw [e]
            exact q _ (s13.trans (keep k4))
        · refine ite_any (fun _ => ?_) (fun h => absurd h (by rw [decide_eq_false (fun z => el (by have := V.int.inj z; omega))]; decide))
          have z := q _ s12
          rw [laterB_f fun h => el h.1] at z
          exact z
end
end Ft

set_option Elab.async false
set_option linter.all false
set_option maxRecDepth 100000
set_option maxHeartbeats 8000000
namespace Ft
open PySem PySem.Spec PyProof.Rows L2
/-- pairs as fresh tuples -/
def TupsAt (H : Hp) (L : List (Addr × (Nat × Nat))) : Prop := ∀ r ∈ L, H r.1 = some (.tup [vN r.2.1, vN r.2.2])
theorem TupsAt.keep {ex : List Addr} {H H' : Hp} (k : Kp ex H H') (l : Lists ex H) {L : List (Addr × (Nat × Nat))} (h : TupsAt H L) : TupsAt H' L := fun r hr => by
  refine k _ _ (fun m => ?_) (h r hr)
  obtain ⟨o, e, n, _⟩ := l _ m
  rw [h r hr] at e
  exact n _ (Option.some.inj e).symm
theorem TupsAt.same {H H' : Hp} (k : Same H H') {L : List (Addr × (Nat × Nat))} (h : TupsAt H L) : TupsAt H' L := fun r hr => k _ _ (h r hr)
theorem TupsAt.set {H : Hp} {d : Addr} {xs : List V} {o : HO} (hd : H d = some (.lst xs)) {L : List (Addr × (Nat × Nat))} (h : TupsAt H L) : TupsAt (upd H d o) L := fun r hr => by
  have := h r hr
  rw [upd_ne (fun z => by rw [z, hd] at this; cases this)]
  exact this
theorem TupsAt.add {H : Hp} {t : Addr} {p : Nat × Nat} {L : List (Addr × (Nat × Nat))} (h : TupsAt H L) (ht : H t = some (.tup [vN p.1, vN p.2])) : TupsAt H (L ++ [(t, p)]) := fun r hr => by
  rcases List.mem_append.mp hr with hr | hr
  · exact h r hr
  · rw [List.mem_singleton.mp hr]
    exact ht
theorem TupsAt.pairs {K : PySem.W.Frag} {H : Hp} : ∀ {L : List (Addr × (Nat × Nat))}, TupsAt H L → PairsAt K H (L.map (·.1)) (L.map (·.2))
  | [], _ => .nil
  | r :: L, h => .cons (.inl (.inl (h r List.mem_cons_self))) (TupsAt.pairs fun q hq => h q (List.mem_cons_of_mem _ hq))
theorem TupsAt.not {H : Hp} {d : Addr} {xs : List V} (hd : H d = some (.lst xs)) {L : List (Addr × (Nat × Nat))} (h : TupsAt H L) : ∀ r ∈ L, r.1 ≠ d := fun r hr z => by
  have := h r hr
  rw [z, hd] at this
  cases this
theorem floor_nat (i z : Nat) : (i : Int) / (1 + (z : Int)) * (1 + (z : Int)) = ((i / (1 + z) * (1 + z) : Nat) : Int) := by
  push_cast
  rfl
section
variable {P : Program} {w : World} {K : PySem.W.Frag} {mg : Str → Option Value} {base : Heap} {t1 t2 : Tok}
/-! ### _law_map_drawn -/
def sp_law_map_drawn (K : PySem.W.Frag) : Sp := fun vs H Q _ => ∃ (p l : Addr) (most : Nat), vs = [.ref p, vN most] ∧ PoolAt H p l ∧ most ≤ 20 ∧ ∀ (c : Addr) (C : Chart) (H' : Hp), IsChart K H' c C → C.Ok → C.n ≤ most → PoolAt H' p l → Kp [p, l] H H' → Q (.ref c) H'
theorem cal_law_map_drawn (T : Txt mg) (D : Def K mg "_law_map_drawn" s_law_map_drawn) (c_law_draw : Cal P w K mg base 2 "_law_draw" sp_law_draw) (c_law_map_named : Cal P w K mg base 4 "_law_map_named" (sp_law_map_named K))
    (c_law_map_some_wished : Cal P w K mg base 3 "_law_map_some_wished" (sp_law_map_some_wished K)) : Cal P w K mg base 5 "_law_map_drawn" (sp_law_map_drawn K) := by
  refine cal_of D sc_law_map_drawn (fun _ _ _ _ _ _ us hl => match us, hl with | [_, _], _ => rfl) (fun vs H Q E h => ?_) (fun f cdv A outer s H vs Q E hr h => ?_)
  · obtain ⟨p, l, most, rfl, _⟩ := h
    rfl
  · obtain ⟨p, l, most, rfl, hP, m20, q⟩ := h
    have hU := hr.units
    refine ⟨_, (pss_cons (ps_set (i := 2) sc_law_map_drawn.nd rfl (Or.inr rfl) (pe_c c_law_draw hr (by decide) (by rfl) (pa_cons (pv 0) (pa_cons (pe_op op_add (pv 1) pe_int) pa_nil))))
      (pss_cons (ps_if (pt_cmpR op_eq (pv 2) pe_int (nomark _)) (pss_one (ps_ret (pe_tup (pa_cons pe_int (pa_cons (pe_tup pa_nil) (pa_cons (pe_tup pa_nil) pa_nil)))))) pss_nil)
      (pss_cons (ps_par (i := 3) (j := 4) (by rfl) sc_law_map_drawn.nd rfl rfl (by decide) rfl rfl (pa_cons (pe_c c_law_draw hr (by decide) (by rfl) (pa_cons (pv 0) (pa_cons pe_int pa_nil))) (pa_cons (pe_lst pa_nil) pa_nil)) (by rfl))
      (pss_cons (ps_for PassesOwn.never rfl (pi_range1 (by rfl) T.range (pa_cons (pe_c c_law_draw hr (by decide) (by rfl) (pa_cons (pv 0) (pa_cons (pe_op op_add (pe_op op_mul pe_int (pv 2)) pe_int) pa_nil))) pa_nil)) (pg_name (i := 5) sc_law_map_drawn.nd rfl (Or.inl rfl)) (pss_cons (ps_par (i := 6) (j := 7) (by rfl) sc_law_map_drawn.nd rfl rfl (by decide) rfl rfl (pa_cons (pe_c c_law_draw hr (by decide) (by rfl) (pa_cons (pv 0) (pa_cons (pv 2) pa_nil))) (pa_cons (pe_c c_law_draw hr (by decide) (by rfl) (pa_cons (pv 0) (pa_cons (pv 2) pa_nil))) pa_nil)) (by rfl))
        (pss_cons (ps_set (i := 8) sc_law_map_drawn.nd rfl (Or.inl rfl) (pe_mid (pe_or (pe_cmpR op_eq (pv 3) pe_int (nomark _)) (pe_one (pe_and (pe_cmpR op_gt (pv 3) pe_int (nomark _)) (pe_one (pe_cmpR op_gt (pe_c c_law_draw hr (by decide) (by rfl) (pa_cons (pv 0) (pa_cons pe_int pa_nil))) pe_int (nomark _))))))))
        (pss_one (ps_expr (pe_bm PySem.F.plainAttrs_list PySem.F.slot_list_append PySem.F.type_list_append mt_append (pv 4) (pa_cons (pe_mid (pe_ifExp (pt_truth (pv 8) (by intro _; rfl)) (pe_tup (pa_cons (pe_callB (call_min2 rfl) (by rfl) T.min (by decide +kernel) (pa_cons (pv 6) (pa_cons (pv 7) pa_nil))) (pa_cons (pe_callB (call_max2 rfl) (by rfl) T.max (by decide +kernel) (pa_cons (pv 6) (pa_cons (pv 7) pa_nil))) pa_nil))) (pe_tup (pa_cons (pv 6) (pa_cons (pv 7) pa_nil))))) pa_nil)))))))
      (ps_cut (ps_if (pt_cmpR op_eq (pv 3) pe_int (nomark _)) (pss_cons (ps_set (i := 9) sc_law_map_drawn.nd rfl (Or.inr rfl) (pe_op op_add pe_int (pe_c c_law_draw hr (by decide) (by rfl) (pa_cons (pv 0) (pa_cons pe_int pa_nil)))))
        (pss_one (ps_set (i := 4) sc_law_map_drawn.nd rfl (Or.inl rfl) (pe_op op_cat (pv 4) (pe_lc (own := [("a", 6)]) rfl sc_law_map_drawn.nd (pi_range1 (by rfl) T.range (pa_cons (pe_op op_sub (pv 2) pe_int) pa_nil)) (blkOk_by (N := ["pool", "most", "places", "way", "roads", "turn", "a", "b", "ahead", "size"]) (sc := L2.defScope s_law_map_drawn) (by decide +kernel)) (fun _ _ _ _ _ => (pg_name (i := 6) sc_law_map_drawn.nd rfl (Or.inl rfl))) (fun _ _ _ _ _ => pts_nil) (fun _ _ _ _ _ => (pe_tup (pa_cons (pv 6) (pa_cons (pe_mid (pe_ifExp (PW.pt (pw_and (pt_cmpR op_gt (pe_op op_mod (pe_callTy call_int1 (by rfl) T.int (by decide +kernel) (pa_cons (pe_op op_add (pv 6) pe_int) pa_nil)) (pv 9)) pe_int (nomark _)) (pw_and1 (pt_cmpR op_lt (pe_op op_add (pv 6) pe_int) (pv 2) (nomark _))))) (pe_op op_add (pv 6) pe_int) (pe_op op_mul (pe_op op_fdiv (pv 6) (pv 9)) (pv 9)))) pa_nil))))))))) pss_nil)
      (pss_one (ps_ret (pe_ix (show IxR _ (rIxL K) from ix_list) (pe_c c_law_map_named hr (by decide) (by rfl) (pa_cons (pv 0) (pa_cons (pv 2) (pa_cons (pv 4) (pa_cons (pe_c c_law_map_some_wished hr (by decide) (by rfl) (pa_cons (pv 0) (pa_cons (pv 2) (pa_cons (pv 4) pa_nil)))) pa_nil))))) pe_int (fun _ _ => rfl))))))))), ?_⟩
    refine ⟨_, rfl, _, rfl, _, _, rfl, rfl, p, l, most + 1, rfl, hP, by omega, by omega, fun n H1 hn hP1 k1 => ?_⟩
    refine ⟨_, rfl, rfl, _, rfl, ite_any (fun h0 => ?_) (fun h0 => ?_)⟩
    · have hn0 : n = 0 := by
        have := of_decide_eq_true h0
        unfold vN at this
        have := V.int.inj this
        omega
      refine ⟨Nat.zero_le _, fun r1 h1 => ?_⟩
      have s1 : Same H1 (upd H1 r1 (.tup [])) := same_upd h1
      have hT1 : (upd H1 r1 (.tup [])) r1 = some (.tup []) := upd_same
      generalize upd H1 r1 (.tup []) = H2 at s1 hT1
      refine ⟨Nat.zero_le _, fun r2 h2 => ?_⟩
      have s2 : Same H2 (upd H2 r2 (.tup [])) := same_upd h2
      have hT2 : (upd H2 r2 (.tup [])) r2 = some (.tup []) := upd_same
      generalize upd H2 r2 (.tup []) = H3 at s2 hT2
      refine ⟨by show 3 ≤ sizeLine; decide, fun c hc => ?_⟩
      have s3 : Same H3 (upd H3 c (.tup [.int 0, .ref r1, .ref r2])) := same_upd hc
      have s13 := (s1.trans s2).trans s3
      refine q c ⟨0, [], []⟩ _ ⟨r1, r2, [], .inl (.inl upd_same), .inl (.inl (s3 _ _ (s2 _ _ hT1))), .nil, .inl (.inl (s3 _ _ hT2))⟩ ⟨by decide, by decide, (fun _ h => nomatch h), .nil, (fun _ h => nomatch h), .nil⟩ (Nat.zero_le _) (hP1.same s13) (k1.trans (Same.kp s13))
    have hn0 : 0 < n := by
      have := of_decide_eq_false h0
      unfold vN at this
      rcases Nat.eq_zero_or_pos n with e | e
      · exact absurd (by rw [e]; rfl) this
      · exact e
    refine ⟨_, rfl, p, l, 4, rfl, hP1, by decide, by decide, fun way H2 hway hP2 k2 => ?_⟩
    refine ⟨Nat.zero_le _, fun d hd => ?_⟩
    have s3 : Same H2 (upd H2 d (.lst [])) := same_upd hd
    have hD3 : (upd H2 d (.lst [])) d = some (.lst []) := upd_same
    have dpl : d ∉ [p, l] := hP2.free hd
    have hP3 := hP2.same s3
    have k3 : Kp [p, l] H (upd H2 d (.lst [])) := (k1.trans k2).trans (Same.kp s3)
    have hd0 : H d = none := kp_free (k1.trans k2) dpl hd
    generalize upd H2 d (.lst []) = H3 at s3 hD3 hP3 k3
    refine ⟨_, _, rfl, ?_⟩
    refine ⟨_, rfl, _, rfl, _, _, rfl, rfl, .inl ⟨by decide, by decide⟩, _, _, rfl, rfl, p, l, 2 * n + 2, rfl, hP3, by omega, by omega, fun m H4 hm hP4 k4 => ?_⟩
    have hD4 := k4 _ _ dpl hD3
    have kset : ∀ {H' : Hp} {o : HO}, Kp [p, l] H H' → Kp [p, l] H (upd H' d o) := fun {H' o} k b x nb e => by
      rw [upd_ne (ne_of_none e hd0)]
      exact k b x nb e
    refine ⟨_, rfl, by omega, by omega, for_range (lo := 0) (n := m) (fun i σ H' => ∃ (L : List (Addr × (Nat × Nat))) (v5 v6 v7 v8 : Option V), σ = [some (.ref p), some (vN most), some (vN n), some (vN way), some (.ref d), v5, v6, v7, v8, none] ∧ PoolAt H' p l ∧ Kp [p, l] H H' ∧ H' d = some (.lst (L.map fun r => V.ref r.1)) ∧ TupsAt H' L ∧ (∀ r ∈ L, r.2.1 < n ∧ r.2.2 < n) ∧ L.length = i)
      ⟨[], _, _, _, _, rfl, hP4, k3.trans k4, hD4, (fun _ h => nomatch h), (fun _ h => nomatch h), rfl⟩ ?_ ?_⟩
    · rintro i σ H5 hi ⟨L, v5, v6, v7, v8, rfl, hP5, k5, hD5, hL5, inL, eL⟩
      refine ⟨_, rfl, _, rfl, p, l, n, rfl, hP5, by omega, by omega, fun a H6 ha hP6 k6 => ?_⟩
      refine ⟨_, rfl, _, rfl, p, l, n, rfl, hP6, by omega, by omega, fun b H7 hb hP7 k7 => ?_⟩
      refine ⟨_, _, rfl, ?_⟩
      have k67 := k6.trans k7
      have hD7 := k67 _ _ dpl hD5
      have hL7 : TupsAt H7 L := hL5.keep k67 hP5.lists
      refine ⟨fun v H' => ∃ c : Bool, v = .bl c ∧ PoolAt H' p l ∧ Kp [p, l] H7 H', ⟨_, rfl, rfl, _, rfl, ite_any (fun _ => ⟨_, rfl, hP7, Kp.refl _ _⟩) (fun _ => ⟨_, rfl, _, _, rfl, rfl, _, rfl, ite_any (fun _ => ?_) (fun _ => ⟨_, rfl, hP7, Kp.refl _ _⟩)⟩)⟩, ?_⟩
      · exact ⟨_, rfl, p, l, 5, rfl, hP7, by decide, by decide, fun r H8 hr8 hP8 k8 => ⟨_, _, rfl, rfl, _, rfl, hP8, k8⟩⟩
      rintro v H8 ⟨c, rfl, hP8, k8⟩
      have hD8 := k8 _ _ dpl hD7
      have hL8 : TupsAt H8 L := hL7.keep k8 hP7.lists
      refine ⟨_, rfl, .inl ⟨rfl, _, .inl (.inl hD8)⟩, ?_⟩
      refine ⟨fun v H' => ∃ (t : Addr) (x y : Nat), v = .ref t ∧ H8 t = none ∧ H' = upd H8 t (.tup [vN x, vN y]) ∧ x < n ∧ y < n, ⟨_, rfl, _, rfl, ite_any (fun _ => ?_) (fun _ => ?_)⟩, ?_⟩
      · refine ⟨_, rfl, _, rfl, _, _, rfl, _, rfl, _, rfl, _, _, rfl, by show 2 ≤ sizeLine; decide, fun t ht => ?_⟩
        have e1 : V.int (if (b : Int) < (a : Int) then (b : Int) else (a : Int)) = vN (if b < a then b else a) := by
          by_cases h : b < a
          · rw [if_pos h, if_pos (by omega)]
            rfl
          · rw [if_neg h, if_neg (by omega)]
            rfl
        have e2 : V.int (if (a : Int) < (b : Int) then (b : Int) else (a : Int)) = vN (if a < b then b else a) := by
          by_cases h : a < b
          · rw [if_pos h, if_pos (by omega)]
            rfl
          · rw [if_neg h, if_neg (by omega)]
            rfl
        refine ⟨t, (if b < a then b else a), (if a < b then b else a), rfl, ht, by rw [← e1, ← e2], ?_, ?_⟩
        · by_cases h : b < a
          · rw [if_pos h]; exact hb
          · rw [if_neg h]; exact ha
        · by_cases h : a < b
          · rw [if_pos h]; exact hb
          · rw [if_neg h]; exact ha
      · exact ⟨_, rfl, _, rfl, by show 2 ≤ sizeLine; decide, fun t ht => ⟨t, a, b, rfl, ht, rfl, ha, hb⟩⟩
      rintro v H9 ⟨t, x, y, rfl, ht, rfl, hx, hy⟩
      have s9 : Same H8 (upd H8 t (.tup [vN x, vN y])) := same_upd ht
      have hT9 : (upd H8 t (.tup [vN x, vN y])) t = some (.tup [vN x, vN y]) := upd_same
      have hD9 := s9 _ _ hD8
      refine ⟨d, _, _, rfl, rfl, hD9, by rw [List.length_map]; exact small1000 (by omega), L ++ [(t, (x, y))], _, _, _, _, rfl, (hP8.same s9).set dpl, kset ((k5.trans (k67.trans k8)).trans (Same.kp s9)), by rw [upd_same, List.map_append]; rfl, ((hL8.same s9).add hT9).set hD9, ?_, by rw [List.length_append, eL]; rfl⟩
      intro r hr'
      rcases List.mem_append.mp hr' with hr' | hr'
      · exact inL r hr'
      · rw [List.mem_singleton.mp hr']
        exact ⟨hx, hy⟩
    rintro σ H5 ⟨L, v5, v6, v7, v8, rfl, hP5, k5, hD5, hL5, inL, eL⟩
    refine ⟨fun σ' H' => ∃ (ro : Addr) (L' : List (Addr × (Nat × Nat))) (v5 v6 v7 v8 v9 : Option V), σ' = [some (.ref p), some (vN most), some (vN n), some (vN way), some (.ref ro), v5, v6, v7, v8, v9] ∧ PoolAt H' p l ∧ Kp [p, l] H H' ∧ ro ∉ [p, l] ∧ H' ro = some (.lst (L'.map fun r => V.ref r.1)) ∧ TupsAt H' L' ∧ (∀ r ∈ L', r.2.1 < n ∧ r.2.2 < n) ∧ L'.length < 64, ?_, ?_⟩
    · refine ⟨_, rfl, rfl, _, rfl, ite_any (fun _ => ?_) (fun _ => ?_)⟩
      · refine ⟨_, rfl, p, l, 3, rfl, hP5, by decide, by decide, fun z H6 hz hP6 k6 => ?_⟩
        have hD6 := k6 _ _ dpl hD5
        have hL6 : TupsAt H6 L := hL5.keep k6 hP5.lists
        refine ⟨_, _, rfl, rfl, ?_⟩
        refine ⟨_, rfl, _, rfl, _, _, rfl, rfl, _, rfl, by omega, by omega, fun e he => ?_⟩
        have epl : e ∉ [p, l] := hP6.free he
        have hde : d ≠ e := ne_of_none hD6 he
        refine lc_range (lo := 0) (n := ((n : Int) - 1).toNat) (fun i H' => ∃ M : List (Addr × (Nat × Nat)), Kp [e] H6 H' ∧ H' e = some (.lst (M.map fun r => V.ref r.1)) ∧ TupsAt H' M ∧ (∀ r ∈ M, r.2.1 < n ∧ r.2.2 < n) ∧ M.length ≤ i)
          ⟨[], (fun b o x e' => by rw [upd_ne (ne_of_none e' he)]; exact e'), upd_same, (fun _ h => nomatch h), (fun _ h => nomatch h), Nat.zero_le _⟩ ?_ ?_
        · rintro i H7 hi ⟨M, k7, hE, hM, inM, eM⟩
          have e0 : (0 : Int) + (i : Nat) = (i : Nat) := by omega
          refine ⟨rfl, ?_⟩
          rw [e0]
          refine ⟨_, rfl, fun v H' => ∃ x : Nat, x < n ∧ v = vN x ∧ H' = H7, ?_, ?_⟩
          · have fl : ∃ x : Nat, x < n ∧ V.int ((i : Int) / (1 + (z : Int)) * (1 + (z : Int))) = vN x ∧ H7 = H7 := by
              refine ⟨i / (1 + z) * (1 + z), ?_, congrArg V.int (floor_nat i z), rfl⟩
              have := Nat.div_mul_le_self i (1 + z)
              omega
            have z1 : (0 : Int) < 1 + (z : Int) := by omega
            have z2 : (1 : Int) + (z : Int) < 1073741824 := by omega
            have z3 : -2 ^ 64 < (1 : Int) + (z : Int) := by omega
            have z4 : (1 : Int) + (z : Int) < 2 ^ 64 := by omega
            refine ⟨_, rfl, _, _, rfl, rfl, .inl ⟨_, rfl, _, rfl, _, _, rfl, rfl, z1, _, _, rfl, rfl, _, rfl, ite_any (fun _ => ?_) (fun _ => ?_)⟩⟩
            · refine ⟨_, rfl, _, _, rfl, rfl, _, rfl, _, _, rfl, rfl, _, rfl, ite_any (fun hx => ?_) (fun _ => ?_)⟩
              · have hx' := of_decide_eq_true hx
                exact ⟨_, rfl, _, _, rfl, rfl, i + 1, by omega, rfl, rfl⟩
              · exact ⟨_, rfl, _, rfl, _, _, rfl, rfl, ⟨z1, z2⟩, _, rfl, _, _, rfl, rfl, .inr ⟨z3, z4⟩, fl⟩
            · exact ⟨_, rfl, _, rfl, _, _, rfl, rfl, ⟨z1, z2⟩, _, rfl, _, _, rfl, rfl, .inr ⟨z3, z4⟩, fl⟩
          rintro v H8 ⟨x, hx, rfl, rfl⟩
          refine ⟨by show 2 ≤ sizeLine; decide, fun t ht => ?_⟩
          have s9 : Same H8 (upd H8 t (.tup [vN i, vN x])) := same_upd ht
          have hT9 : (upd H8 t (.tup [vN i, vN x])) t = some (.tup [vN i, vN x]) := upd_same
          have hE9 := s9 _ _ hE
          refine ⟨_, hE9, by rw [List.length_map]; exact small1000 (by omega), M ++ [(t, (i, x))], ?_, by rw [upd_same, List.map_append]; rfl, ((hM.same s9).add hT9).set hE9, ?_, by rw [List.length_append]; exact Nat.succ_le_succ eM⟩
          · intro b o nb eb
            rw [upd_ne (fun z => nb (by rw [z]; simp))]
            exact s9 _ _ (k7 b o nb eb)
          · intro r hr'
            rcases List.mem_append.mp hr' with hr' | hr'
            · exact inM r hr'
            · rw [List.mem_singleton.mp hr']
              exact ⟨by show i < n; omega, hx⟩
        · rintro H7 ⟨M, k7, hE, hM, inM, eM⟩
          have s7 : Same H6 H7 := fun b o eb => k7 b o (fun m => by rw [List.mem_singleton.mp m, he] at eb; cases eb) eb
          have hP7 := hP6.same s7
          refine ⟨d, e, _, _, rfl, rfl, s7 _ _ hD6, hE, ?_, fun ro hro => ?_⟩
          · rw [List.length_map, List.length_map]
            have h3 : (1000 : Nat) ≤ sizeLine := by decide
            omega
          · have s8 : Same H7 (upd H7 ro (.lst ((L.map fun r => V.ref r.1) ++ M.map fun r => V.ref r.1))) := same_upd hro
            refine ⟨ro, L ++ M, _, _, _, _, _, rfl, hP7.same s8, (k5.trans k6).trans (Same.kp (s7.trans s8)), hP7.free hro, by rw [upd_same, List.map_append], ?_, ?_, by rw [List.length_append]; omega⟩
            · intro r hr'
              rcases List.mem_append.mp hr' with hr' | hr'
              · exact (hL6.same (s7.trans s8)) r hr'
              · exact (hM.same s8) r hr'
            · intro r hr'
              rcases List.mem_append.mp hr' with hr' | hr'
              · exact inL r hr'
              · exact inM r hr'
      · exact ⟨d, L, _, _, _, _, _, rfl, hP5, k5, dpl, hD5, hL5, inL, by omega⟩
    · rintro σ' H6 ⟨ro, L', v5, v6, v7, v8, v9, rfl, hP6, k6, rpl, hRo, hL', inL', few⟩
      have ePr : (L'.map fun r => V.ref r.1) = (L'.map (·.1)).map V.ref := by rw [List.map_map]; rfl
      rw [ePr] at hRo
      have len : (L'.map (·.2)).length < 64 := by rw [List.length_map]; exact few
      refine ⟨_, rfl, _, rfl, _, rfl, _, rfl, _, rfl, _, rfl, p, l, ro, n, L'.map (·.1), L'.map (·.2), rfl, hP6, by omega, hRo, rpl, hL'.pairs, len, fun wi ws H7 nd ltw hw0 hW hP7 k7 => ?_⟩
      have hRo7 := k7 _ _ rpl hRo
      refine ⟨p, l, ro, wi, n, L'.map (·.1), L'.map (·.2), ws, rfl, hP7, by omega, hRo7, rpl, hL'.pairs.keep k7 hP6.lists, len, ?_, hW, hP6.free hw0, ?_, ltw, fun q' c na perm C H8 pm _ _ hQ hC _ nmd hP8 k8 => ?_⟩
      · intro r hr'
        obtain ⟨z, hz, rfl⟩ := List.mem_map.mp hr'
        exact inL' z hz
      · have := nodup_lt_len nd ltw
        omega
      · refine ⟨q', _, _, _, rfl, rfl, .inl (.inl hQ), rfl, ?_⟩
        exact q c C H8 hC nmd.ok (by rw [nmd.n]; omega) hP8 ((k6.trans k7).trans k8)
end
end Ft

set_option Elab.async false
set_option linter.all false
set_option maxRecDepth 100000
set_option maxHeartbeats 4000000
namespace Ft
open PySem PySem.Spec PyProof.Rows L2
/-! ### set(xs), xs many ints among few -/
theorem nodup_sub_len {α : Type} [DecidableEq α] : ∀ (l D : List α), l.Nodup → (∀ x ∈ l, x ∈ D) → l.length ≤ D.length
  | [], _, _, _ => Nat.zero_le _
  | x :: l, D, nd, h => by
    obtain ⟨n1, n2⟩ := List.nodup_cons.mp nd
    have hx := h x List.mem_cons_self
    have ih := nodup_sub_len l (D.erase x) n2 fun y hy => (List.mem_erase_of_ne (fun e : y = x => n1 (e ▸ hy))).mpr (h y (List.mem_cons_of_mem _ hy))
    rw [List.length_erase_of_mem hx] at ih
    have := List.length_pos_of_mem hx
    rw [List.length_cons]
    omega
theorem setR_count {w : World} {h : Heap} {a : Addr} {S : Int → Bool} {n : Nat} (R : SetR w h a S n) {D : List Int} (hD : ∀ k, S k = true → k ∈ D) : n ≤ D.length := by
  obtain ⟨o, es, ep, t, _, _, _, _, nd, mem, _, _, e, _⟩ := R
  have := nodup_sub_len _ D nd fun k hk => hD k ((mem k).mpr hk)
  rw [List.length_map, Array.length_toList] at this
  omega
def rSetN (K : PySem.W.Frag) (w : World) : List V → Hp → VK → Prop := fun xs H Q => ∃ (l : Addr) (ns : List Int), xs = [V.ref l] ∧ (SqL K H l (ns.map V.int) ∨ SqT K H l (ns.map V.int)) ∧ ns.length ≤ 1000 ∧
  ∀ (p : Addr) (n : Nat), H p = none → (∀ D : List Int, (∀ k ∈ ns, k ∈ D) → n ≤ D.length) → Q (.ref p) (upd H p (SetO w p (fun j => decide (j ∈ ns)) n))
theorem cr_setN {X : Cx} (hc : X.calm = true) : CallR X (.type "set") (rSetN X.K X.w) := by
  intro pins s σ H xs us Q I r h
  obtain ⟨l, ns, rfl, hl, few, q⟩ := h
  have few1 : ns.length + 1 < scanBound := Nat.lt_of_le_of_lt (Nat.succ_le_succ few) (by decide)
  have free : H s.heap.objs.size = none := I.hok.fresh (Nat.le_refl _)
  rw [Vals.ref1 r]
  rcases hl with hl | hl
  · obtain ⟨its, rv, pl, hz⟩ := I.list hl
    refine set_of_list ns (I.ok.hd hc) pl.isList (by simpa using rv.ints) few1 fun h' tk c hS hc2 hk => ?_
    exact ⟨.ref _, upd H s.heap.objs.size (SetO X.w s.heap.objs.size (fun j => decide (j ∈ ns)) c), I.laid (t' := tk) hk (Nat.le_refl _) (setO_new hS), rfl, q _ _ free fun D hD => setR_count hS fun k hk => hD k (of_decide_eq_true hk)⟩
  · obtain ⟨its, rv, pt, hz⟩ := I.tuple hl
    have pt2 : s.heap.IsTuple l its.toArray := pt
    refine call_set_tupI ns (I.ok.hd hc) pt2 (by simpa using ints_of_vals rv) few1 fun h' tk c hS hc2 hk => ?_
    exact ⟨.ref _, upd H s.heap.objs.size (SetO X.w s.heap.objs.size (fun j => decide (j ∈ ns)) c), I.laid (t' := tk) hk (Nat.le_refl _) (setO_new hS), rfl, q _ _ free fun D hD => setR_count hS fun k hk => hD k (of_decide_eq_true hk)⟩
end Ft

set_option Elab.async false
set_option linter.all false
set_option maxRecDepth 100000
set_option maxHeartbeats 8000000
namespace Ft
open PySem PySem.Spec PyProof.Rows L2
theorem ahead_mem {rs : List (Nat × Nat)} {W : List Nat} {b : Nat} : b ∈ (rs.filter fun p => decide (p.1 ∈ W)).map (·.2) ↔ ∃ x ∈ W, (x, b) ∈ rs := by
  simp only [List.mem_map, List.mem_filter, decide_eq_true_eq]
  constructor
  · rintro ⟨⟨x, y⟩, ⟨h1, h2⟩, rfl⟩
    exact ⟨x, h2, h1⟩
  · rintro ⟨x, h1, h2⟩
    exact ⟨(x, b), ⟨h2, h1⟩, rfl⟩
section
variable {P : Program} {w : World} {K : PySem.W.Frag} {mg : Str → Option Value} {base : Heap} {t1 t2 : Tok}
/-! ### _law_map_met -/
def sp_law_map_met (K : PySem.W.Frag) : Sp := fun vs H Q _ => ∃ (c : Addr) (C : Chart) (a : Nat), vs = [.ref c, vN a] ∧ IsChart K H c C ∧ C.Ok ∧ a < C.n ∧ ∀ q H', Same H H' → H q = none → H' q = some (.lst ((met C.n C.roads C.wished [a]).map vN)) → Q (.ref q) H'
theorem cal_law_map_met (T : Txt mg) (D : Def K mg "_law_map_met" s_law_map_met) : Cal P w K mg base 2 "_law_map_met" (sp_law_map_met K) := by
  refine cal_of D sc_law_map_met (fun _ _ _ _ _ _ us hl => match us, hl with | [_, _], _ => rfl) (fun vs H Q E h => ?_) (fun f cdv A outer s H vs Q E hr h => ?_)
  · obtain ⟨c, C, a, rfl, _⟩ := h
    rfl
  · obtain ⟨c, C, a, rfl, ⟨r, wd, ts, hC⟩, ok, ha, q⟩ := h
    have n60 := ok.n60
    have hU := hr.units
    refine ⟨_, (pss_cons (ps_asg (pe_tup (pa_cons (pe_lst pa_nil) (pa_cons (pe_lst (pa_cons (pv 1) pa_nil)) pa_nil))) (show PG _ _ (gTup K 2 _) from pg_tup (by rfl) (pgs_cons (pg_name (i := 2) sc_law_map_met.nd rfl (Or.inr rfl)) (pgs_cons (pg_name (i := 3) sc_law_map_met.nd rfl (Or.inr rfl)) pgs_nil))))
      (pss_cons (ps_for PassesOwn.never rfl (pi_range1 (by rfl) T.range (pa_cons (pe_op op_add (pe_ix (show IxR _ (rIxT K) from ix_tup) (pv 0) pe_int (fun _ _ => rfl)) pe_int) pa_nil)) (pg_name (i := 4) sc_law_map_met.nd rfl (Or.inl rfl)) (pss_cons (ps_setLc (i := 5) (own := [("road", 6)]) rfl sc_law_map_met.nd rfl rfl (sw_true rfl rfl rfl (by decide +kernel)) (show PI _ _ _ (iTup K _) from pi_tup (pe_ix (show IxR _ (rIxT K) from ix_tup) (pv 0) pe_int (fun _ _ => rfl))) (blkOk_by (N := ["chart", "a", "found", "left", "turn", "ahead", "road", "b"]) (sc := L2.defScope s_law_map_met) (by decide +kernel)) (fun _ _ _ _ _ => (pg_name (i := 6) sc_law_map_met.nd rfl (Or.inl rfl))) (fun _ _ _ _ _ => pts_one (pt_cmpR (show OpR _ _ (rIn K false) from op_in_seq) (pe_ix (show IxR _ (rIxT K) from ix_tup) (pv 6) pe_int (fun _ _ => rfl)) (pv 3) (by rfl))) (fun _ _ _ _ _ => (pe_ix (show IxR _ (rIxT K) from ix_tup) (pv 6) pe_int (fun _ _ => rfl))))
        (pss_cons (ps_setLc (i := 5) (own := [("b", 7)]) rfl sc_law_map_met.nd rfl rfl (sw_true rfl rfl rfl (by decide +kernel)) (show PI _ _ _ (iList K _) from pi_list (pe_callB (show CallR _ _ (rSortedSet w) from cr_sortedSet rfl) (by rfl) T.sorted (by decide +kernel) (pa_cons (pe_callTy (show CallR _ _ (rSetN K w) from cr_setN rfl) (by rfl) T.set (by decide +kernel) (pa_cons (pv 5) pa_nil)) pa_nil))) (blkOk_by (N := ["chart", "a", "found", "left", "turn", "ahead", "road", "b"]) (sc := L2.defScope s_law_map_met) (by decide +kernel)) (fun _ _ _ _ _ => (pg_name (i := 7) sc_law_map_met.nd rfl (Or.inl rfl))) (fun _ _ _ _ _ => pts_one (pt_cmpR (show OpR _ _ (rIn K true) from op_notIn_seq) (pv 7) (pv 2) (by rfl))) (fun _ _ _ _ _ => (pv 7)))
        (pss_cons (ps_set (i := 2) sc_law_map_met.nd rfl (Or.inr rfl) (pe_op op_cat (pv 2) (pv 5)))
        (pss_cons (ps_set (i := 3) sc_law_map_met.nd rfl (Or.inr rfl) (pe_lc (own := [("b", 7)]) rfl sc_law_map_met.nd (show PI _ _ _ (iList K _) from pi_list (pv 5)) (blkOk_by (N := ["chart", "a", "found", "left", "turn", "ahead", "road", "b"]) (sc := L2.defScope s_law_map_met) (by decide +kernel)) (fun _ _ _ _ _ => (pg_name (i := 7) sc_law_map_met.nd rfl (Or.inl rfl))) (fun _ _ _ _ _ => pts_one (pt_cmpR (show OpR _ _ (rIn K true) from op_notIn_seq) (pv 7) (pe_ix (show IxR _ (rIxT K) from ix_tup) (pv 0) pe_int (fun _ _ => rfl)) (by rfl))) (fun _ _ _ _ _ => (pv 7))))
        (pss_one (ps_if (pt_cmpR (show OpR _ _ (rEqD K) from op_eqD hU) (pv 3) (pe_lst pa_nil) (nomark _)) (pss_one ps_break) pss_nil)))))))
      (pss_one (ps_ret (pe_callB (show CallR _ _ (rSortedI K) from cr_sortedI) (by rfl) T.sorted (by decide +kernel) (pa_cons (pv 2) pa_nil)))))), ?_⟩
    refine ⟨Nat.zero_le _, fun f0 hf0 => ?_⟩
    have s1 : Same H (upd H f0 (.lst [])) := same_upd hf0
    have hF0 : (upd H f0 (.lst [])) f0 = some (.lst []) := upd_same
    generalize upd H f0 (.lst []) = H1 at s1 hF0
    refine ⟨_, rfl, by show 1 ≤ sizeLine; decide, fun w0 hw0 => ?_⟩
    have s2 : Same H1 (upd H1 w0 (.lst [vN a])) := same_upd hw0
    have hW0 : (upd H1 w0 (.lst [vN a])) w0 = some (.lst [vN a]) := upd_same
    generalize upd H1 w0 (.lst [vN a]) = H2 at s2 hW0
    refine ⟨by show 2 ≤ sizeLine; decide, fun tp htp => ?_⟩
    have s3 : Same H2 (upd H2 tp (.tup [.ref f0, .ref w0])) := same_upd htp
    refine ⟨tp, _, rfl, .inl (.inl upd_same), rfl, _, _, rfl, _, _, rfl, rfl, ?_⟩
    generalize upd H2 tp (.tup [.ref f0, .ref w0]) = H3 at s3
    have s13 := (s1.trans s2).trans s3
    have n1 : ((C.n : Int) + 1).toNat = C.n + 1 := by omega
    refine ⟨_, rfl, _, _, _, _, rfl, rfl, (hC.same s13).top, rfl, _, _, rfl, rfl, _, rfl, by show -2 ^ 62 ≤ (C.n : Int) + 1; omega, by show (C.n : Int) + 1 < 2 ^ 62; omega, for_range (lo := 0) (n := ((C.n : Int) + 1).toNat) (fun i σ H' => ∃ (fa wa : Addr) (F W : List Nat) (v4 v5 v6 v7 : Option V), σ = [some (.ref c), some (vN a), some (.ref fa), some (.ref wa), v4, v5, v6, v7] ∧ Same H H' ∧
      H' fa = some (.lst (F.map vN)) ∧ H' wa = some (.lst (W.map vN)) ∧ Layer C.n C.roads C.wished a F W ∧ i ≤ F.length) ?_ ?_ ?_⟩
    · exact ⟨f0, w0, [], [a], _, _, _, _, rfl, s13, s3 _ _ (s2 _ _ hF0), s3 _ _ hW0, Layer.start, Nat.zero_le _⟩
    · rintro i σ H4 hi ⟨fa, wa, F, W, v4, v5, v6, v7, rfl, s4, hF, hW, ly, cnt⟩
      have hC4 := hC.same s4
      have Fl := nodup_lt_len ly.nd ly.lt
      refine ⟨_, rfl, _, _, _, _, rfl, rfl, hC4.top, rfl, r, rfl, ⟨_, hC4.row⟩, fun e he => ?_⟩
      have keep4 : ∀ {H' : Hp}, Kp [e] H4 H' → Same H4 H' := fun {H'} k b o e' => k b o (fun m => by rw [List.mem_singleton.mp m, he] at e'; cases e') e'
      refine lc_tup (K := K) (xs := ts.map V.ref) (fun j H' => Kp [e] H4 H' ∧ H' e = some (.lst ((((C.roads.take j).filter fun p => decide (p.1 ∈ W)).map (·.2)).map vN)))
        ⟨(fun b o x e' => by rw [upd_ne (ne_of_none e' he)]; exact e'), upd_same⟩ (fun j H' _ ⟨k, _⟩ => Same.sqT (keep4 k) hC4.row) ?_ ?_
      · rintro j x H5 hx ⟨k5, hE⟩
        obtain ⟨t, ht, rfl⟩ := get_map hx
        obtain ⟨q0, hq0, pt⟩ := paired_getL hC4.prs ht
        have pt5 := Same.sqT (keep4 k5) pt
        have hW5 := keep4 k5 _ _ hW
        have jl : j < C.roads.length := (List.getElem?_eq_some_iff.mp hq0).1
        have m240 := ok.many
        refine ⟨rfl, ?_⟩
        refine ⟨_, rfl, t, _, _, _, rfl, rfl, pt5, rfl, _, rfl, wa, _, rfl, .inl (.inl (.inl hW5)), rfl, all_vN W, _, rfl, ?_⟩
        show if inV (vN q0.1) (W.map vN) = true then _ else _
        rw [in_vN]
        by_cases hw : q0.1 ∈ W
        · rw [decide_eq_true hw]
          refine iteT ?_
          refine ⟨_, rfl, t, _, _, _, rfl, rfl, pt5, rfl, _, hE, ?_, ?_, ?_⟩
          · rw [List.length_map, List.length_map]
            have h1 := List.length_filter_le (fun p : Nat × Nat => decide (p.1 ∈ W)) (C.roads.take j)
            have h2 : (C.roads.take j).length ≤ j := by rw [List.length_take]; omega
            exact small1000 (by omega)
          · intro b o nb eb
            rw [upd_ne (fun z => nb (by rw [z]; simp))]
            exact k5 b o nb eb
          · rw [upd_same, take_more hq0, List.filter_append, List.map_append, List.map_append]
            simp [hw]
        · rw [decide_eq_false hw]
          refine iteF ⟨k5, ?_⟩
          rw [hE, take_more hq0, List.filter_append]
          simp [hw]
      rintro H5 ⟨k5, hE⟩
      rw [List.take_of_length_le (by rw [List.length_map]; exact Nat.le_of_eq (Paired.length hC4.prs).symm)] at hE
      have s5 := keep4 k5
      refine ⟨_, rfl, e, iN ((C.roads.filter fun p => decide (p.1 ∈ W)).map (·.2)), rfl, .inl (.inl (.inl (by rw [← vN_map]; exact hE))), ?_, fun sa n2 hsa hn2 => ?_⟩
      · rw [iN_length, List.length_map]
        have h1 := List.length_filter_le (fun p : Nat × Nat => decide (p.1 ∈ W)) C.roads
        have := ok.many
        omega
      have few : n2 < 64 := by
        have := hn2 (iN (List.range C.n)) fun k hk => by
          unfold iN at hk
          obtain ⟨b, hb, rfl⟩ := List.mem_map.mp hk
          obtain ⟨x, _, hr'⟩ := ahead_mem.mp hb
          exact iN_mem.mpr (List.mem_range.mpr (ok.inR _ hr').2)
        rw [iN_length, List.length_range] at this
        omega
      refine ⟨sa, _, n2, rfl, upd_same, few, fun ns u2 up2 mem2 _ hu2 => ?_⟩
      obtain ⟨wl, rfl, upw, memw⟩ := set_nat up2 mem2
      have s6 : Same H5 (upd (upd H5 sa (SetO w sa (fun j => decide (j ∈ iN ((C.roads.filter fun p => decide (p.1 ∈ W)).map (·.2)))) n2)) u2 (.lst ((iN wl).map V.int))) := (same_upd hsa).trans (same_upd hu2)
      have hU2 : (upd (upd H5 sa (SetO w sa (fun j => decide (j ∈ iN ((C.roads.filter fun p => decide (p.1 ∈ W)).map (·.2)))) n2)) u2 (.lst ((iN wl).map V.int))) u2 = some (.lst (wl.map vN)) := by rw [upd_same, vN_map]
      generalize upd (upd H5 sa (SetO w sa (fun j => decide (j ∈ iN ((C.roads.filter fun p => decide (p.1 ∈ W)).map (·.2)))) n2)) u2 (.lst ((iN wl).map V.int)) = H6 at s6 hU2
      have memW : ∀ b, b ∈ wl ↔ ∃ x ∈ W, (x, b) ∈ C.roads := fun b => (memw b).trans ahead_mem
      have wll : wl.length ≤ C.n := up_len upw fun b hb => by
        obtain ⟨x, _, hr'⟩ := (memW b).mp hb
        exact (ok.inR _ hr').2
      have ly' := ly.step ok.inR (up_nodup upw) memW
      have hF6 := s6 _ _ (s5 _ _ hF)
      refine ⟨u2, rfl, ⟨_, .inl (.inl hU2)⟩, fun d hd => ?_⟩
      have keep6 : ∀ {H' : Hp}, Kp [d] H6 H' → Same H6 H' := fun {H'} k b o e' => k b o (fun m => by rw [List.mem_singleton.mp m, hd] at e'; cases e') e'
      refine lc_list (K := K) (xs := wl.map vN) (fun j H' => Kp [d] H6 H' ∧ H' d = some (.lst (((wl.take j).filter fun b => !decide (b ∈ F)).map vN)))
        ⟨(fun b o x e' => by rw [upd_ne (ne_of_none e' hd)]; exact e'), upd_same⟩ (fun j H' _ ⟨k, _⟩ => .inl (.inl (keep6 k _ _ hU2))) ?_ ?_
      · rintro j x H7 hx ⟨k7, hD⟩
        obtain ⟨b, hb, rfl⟩ := get_map hx
        refine ⟨rfl, ?_⟩
        refine ⟨_, rfl, _, rfl, fa, _, rfl, .inl (.inl (.inl (keep6 k7 _ _ hF6))), rfl, all_vN F, _, rfl, ?_⟩
        show if (!inV (vN b) (F.map vN)) = true then _ else _
        rw [in_vN]
        by_cases hw : b ∈ F
        · rw [decide_eq_true hw]
          refine iteF ⟨k7, ?_⟩
          rw [hD, take_more hb, List.filter_append]
          simp [hw]
        · rw [decide_eq_false hw]
          refine iteT ?_
          refine ⟨_, rfl, _, hD, ?_, ?_, ?_⟩
          · rw [List.length_map]
            have h1 := List.length_filter_le (fun b => !decide (b ∈ F)) (wl.take j)
            have h2 : (wl.take j).length ≤ wl.length := by rw [List.length_take]; omega
            exact small1000 (by omega)
          · intro b' o nb eb
            rw [upd_ne (fun z => nb (by rw [z]; simp))]
            exact k7 b' o nb eb
          · rw [upd_same, take_more hb, List.filter_append, List.map_append]
            simp [hw]
      rintro H7 ⟨k7, hD⟩
      rw [List.take_of_length_le (by rw [List.length_map]; exact Nat.le_refl _)] at hD
      obtain ⟨A3, eA3⟩ : ∃ A3, A3 = wl.filter fun b => !decide (b ∈ F) := ⟨_, rfl⟩
      rw [← eA3] at hD ly'
      have A3l : A3.length ≤ 60 := by
        rw [eA3]
        have := List.length_filter_le (fun b => !decide (b ∈ F)) wl
        omega
      have s7 := keep6 k7
      have hF7 := s7 _ _ hF6
      refine ⟨_, rfl, _, rfl, fa, d, _, _, rfl, rfl, hF7, hD, ?_, fun fa' hfa' => ?_⟩
      · rw [List.length_map, List.length_map]
        have : (1000 : Nat) ≤ sizeLine := by decide
        omega
      have s8 : Same H7 (upd H7 fa' (.lst (F.map vN ++ A3.map vN))) := same_upd hfa'
      have hF8 : (upd H7 fa' (.lst (F.map vN ++ A3.map vN))) fa' = some (.lst ((F ++ A3).map vN)) := by rw [upd_same, List.map_append]
      generalize upd H7 fa' (.lst (F.map vN ++ A3.map vN)) = H8 at s8 hF8
      have s48 : Same H4 H8 := (s5.trans s6).trans (s7.trans s8)
      have hD8 := s8 _ _ hD
      have hC8 := hC4.same s48
      refine ⟨_, rfl, d, rfl, ⟨_, .inl (.inl hD8)⟩, fun g hg => ?_⟩
      have keep8 : ∀ {H' : Hp}, Kp [g] H8 H' → Same H8 H' := fun {H'} k b o e' => k b o (fun m => by rw [List.mem_singleton.mp m, hg] at e'; cases e') e'
      refine lc_list (K := K) (xs := A3.map vN) (fun j H' => Kp [g] H8 H' ∧ H' g = some (.lst (((A3.take j).filter fun b => !decide (b ∈ C.wished)).map vN)))
        ⟨(fun b o x e' => by rw [upd_ne (ne_of_none e' hg)]; exact e'), upd_same⟩ (fun j H' _ ⟨k, _⟩ => .inl (.inl (keep8 k _ _ hD8))) ?_ ?_
      · rintro j x H9 hx ⟨k9, hG⟩
        obtain ⟨b, hb, rfl⟩ := get_map hx
        have hC9 := hC8.same (keep8 k9)
        refine ⟨rfl, ?_⟩
        refine ⟨_, rfl, _, rfl, _, _, _, _, rfl, rfl, hC9.top, rfl, wd, _, rfl, .inr hC9.wis, rfl, all_vN C.wished, _, rfl, ?_⟩
        show if (!inV (vN b) (C.wished.map vN)) = true then _ else _
        rw [in_vN]
        by_cases hw : b ∈ C.wished
        · rw [decide_eq_true hw]
          refine iteF ⟨k9, ?_⟩
          rw [hG, take_more hb, List.filter_append]
          simp [hw]
        · rw [decide_eq_false hw]
          refine iteT ?_
          refine ⟨_, rfl, _, hG, ?_, ?_, ?_⟩
          · rw [List.length_map]
            have h1 := List.length_filter_le (fun b => !decide (b ∈ C.wished)) (A3.take j)
            have h2 : (A3.take j).length ≤ A3.length := by rw [List.length_take]; omega
            exact small1000 (by omega)
          · intro b' o nb eb
            rw [upd_ne (fun z => nb (by rw [z]; simp))]
            exact k9 b' o nb eb
          · rw [upd_same, take_more hb, List.filter_append, List.map_append]
            simp [hw]
      rintro H9 ⟨k9, hG⟩
      rw [List.take_of_length_le (by rw [List.length_map]; exact Nat.le_refl _)] at hG
      obtain ⟨W', eW'⟩ : ∃ W', W' = A3.filter fun b => !decide (b ∈ C.wished) := ⟨_, rfl⟩
      rw [← eW'] at hG ly'
      have s9 := s48.trans (keep8 k9)
      have hF9 := keep8 k9 _ _ hF8
      refine ⟨_, rfl, Nat.zero_le _, fun z hz => ?_⟩
      have s10 : Same H9 (upd H9 z (.lst [])) := same_upd hz
      have s40 := s9.trans s10
      have hF10 := s10 _ _ hF9
      have hG10 := s10 _ _ hG
      refine ⟨.list ((iN W').map .int), .list [], .lst (.inl (.inl hG10)) (by rw [vN_map]; exact dpAll_ints _), .lst (.inl (.inl upd_same)) .nil, ints_shaped _, rfl, _, rfl, ite_any (fun hc => ?_) (fun hc => ?_)⟩
      · have e0 : W' = [] := by
          cases W' with
          | nil => rfl
          | cons b W' => exact absurd hc (by simp [iN, PyData.eqv, PyData.eqvAll])
        rw [e0] at ly'
        refine ⟨_, rfl, fa', iN (F ++ A3), rfl, .inl (.inl (by rw [← vN_map]; exact hF10)), fun ns' pq pm' pw hpq => ?_⟩
        obtain ⟨l, el, upl, ml⟩ := sorted_iN ly'.nd pm' pw
        have e1 : l = met C.n C.roads C.wished [a] := those_is upl fun x => (ml x).trans (ly'.ends x)
        have s11 := (s4.trans s40).trans (same_upd (o := .lst (ns'.map V.int)) hpq)
        refine q pq _ s11 ((s4.trans s40).free hpq) ?_
        rw [upd_same, el, ← e1, vN_map]
        rfl
      · have ne : W' ≠ [] := fun e0 => by
          rw [e0] at hc
          exact absurd hc (by simp [iN, PyData.eqv, PyData.eqvAll])
        refine ⟨fa', g, F ++ A3, W', _, _, _, _, rfl, s4.trans s40, hF10, hG10, ly', ?_⟩
        have : 0 < A3.length := by
          rcases Nat.eq_zero_or_pos A3.length with e0 | e0
          · rw [eW', List.length_eq_zero_iff.mp e0] at ne
            exact absurd rfl ne
          · exact e0
        rw [List.length_append]
        omega
    · rintro σ H4 ⟨fa, wa, F, W, v4, v5, v6, v7, rfl, s4, hF, hW, ly, cnt⟩
      have Fl := nodup_lt_len ly.nd ly.lt
      rw [n1] at cnt
      omega
end
end Ft

set_option Elab.async false
set_option linter.all false
set_option maxRecDepth 100000
set_option maxHeartbeats 8000000
namespace Ft
open PySem PySem.Spec PyProof.Rows L2
/-- the rows of what each place comes to -/
structure TabAt (H : Hp) (C : Chart) (q : Addr) (rows : List Addr) : Prop where
  len : rows.length = C.n
  at_ : LotsAt H q rows fun a => met C.n C.roads C.wished [a]
theorem TabAt.same {H H' : Hp} (k : Same H H') {C : Chart} {q : Addr} {rows : List Addr} (h : TabAt H C q rows) : TabAt H' C q rows := ⟨h.len, k _ _ h.at_.top, fun a l e => k _ _ (h.at_.each a l e)⟩
theorem rows_at {K : PySem.W.Frag} {H : Hp} : ∀ {L : List Row} {lls : List (List Nat)}, L.map (·.2) = lls.map iN → (∀ p ∈ L, SqT K H p.1 (p.2.map V.int)) → RowsAt K H (L.map (·.1)) lls
  | [], [], _, _ => .nil
  | [], _ :: _, e, _ => by simp at e
  | _ :: _, [], e, _ => by simp at e
  | p :: L, l :: lls, e, h => by
    rw [List.map_cons, List.map_cons] at e
    injection e with e1 e2
    refine .cons ?_ (rows_at e2 fun q hq => h q (List.mem_cons_of_mem _ hq))
    have := h p List.mem_cons_self
    rw [e1, ← vN_map] at this
    exact this
section
variable {P : Program} {w : World} {K : PySem.W.Frag} {mg : Str → Option Value} {base : Heap} {t1 t2 : Tok}
/-! ### _law_map_table -/
def sp_law_map_table (K : PySem.W.Frag) : Sp := fun vs H Q _ => ∃ (c : Addr) (C : Chart), vs = [.ref c] ∧ IsChart K H c C ∧ C.Ok ∧ ∀ q rows H', Same H H' → H q = none → (∀ l ∈ rows, H l = none) → TabAt H' C q rows → Q (.ref q) H'
theorem cal_law_map_table (T : Txt mg) (D : Def K mg "_law_map_table" s_law_map_table) (c_law_map_met : Cal P w K mg base 2 "_law_map_met" (sp_law_map_met K)) : Cal P w K mg base 3 "_law_map_table" (sp_law_map_table K) := by
  refine cal_of D sc_law_map_table (fun _ _ _ _ _ _ us hl => match us, hl with | [_], _ => rfl) (fun vs H Q E h => ?_) (fun f cdv A outer s H vs Q E hr h => ?_)
  · obtain ⟨c, C, rfl, _⟩ := h
    rfl
  · obtain ⟨c, C, rfl, ⟨r, wd, ts, hC⟩, ok, q⟩ := h
    have n60 := ok.n60
    refine ⟨_, (pss_one (ps_ret (pe_lc (own := [("a", 1)]) rfl sc_law_map_table.nd (pi_range1 (by rfl) T.range (pa_cons (pe_ix (show IxR _ (rIxT K) from ix_tup) (pv 0) pe_int (fun _ _ => rfl)) pa_nil)) (blkOk_by (N := ["chart", "a"]) (sc := L2.defScope s_law_map_table) (by decide +kernel)) (fun _ _ _ _ _ => (pg_name (i := 1) sc_law_map_table.nd rfl (Or.inl rfl))) (fun _ _ _ _ _ => pts_nil) (fun _ _ _ _ _ => (pe_c c_law_map_met hr (by decide) (by rfl) (pa_cons (pv 0) (pa_cons (pv 1) pa_nil))))))), ?_⟩
    refine ⟨_, rfl, _, _, _, _, rfl, rfl, hC.top, rfl, _, rfl, by omega, by omega, fun d hd => ?_⟩
    have keep : ∀ {H' : Hp}, Kp [d] H H' → Same H H' := fun {H'} k b o e' => k b o (fun m => by rw [List.mem_singleton.mp m, hd] at e'; cases e') e'
    refine lc_range (lo := 0) (n := C.n) (fun j H' => ∃ rows : List Addr, Kp [d] H H' ∧ H' d = some (.lst (rows.map V.ref)) ∧ rows.length = j ∧ (∀ l ∈ rows, H l = none) ∧ ∀ a l, rows[a]? = some l → l ≠ d ∧ H' l = some (.lst ((met C.n C.roads C.wished [a]).map vN)))
      ⟨[], (fun b o x e' => by rw [upd_ne (ne_of_none e' hd)]; exact e'), upd_same, rfl, (fun _ h => nomatch h), fun a l h => by simp at h⟩ ?_ ?_
    · rintro j H1 hj ⟨rows, k1, hD, len, new, each⟩
      have e0 : (0 : Int) + (j : Nat) = (j : Nat) := by omega
      refine ⟨rfl, ?_⟩
      rw [e0]
      refine ⟨_, rfl, _, rfl, c, C, j, rfl, ⟨r, wd, ts, hC.same (keep k1)⟩, ok, hj, fun m H2 s2 hm hM => ?_⟩
      have hD2 := s2 _ _ hD
      have md : m ≠ d := (ne_of_none hD hm).symm
      refine ⟨_, hD2, by rw [List.length_map]; exact small1000 (by omega), rows ++ [m], ?_, by rw [upd_same, List.map_append]; rfl, by rw [List.length_append, len]; rfl, ?_, ?_⟩
      · intro b o nb eb
        rw [upd_ne (fun z => nb (by rw [z]; simp))]
        exact s2 _ _ (k1 b o nb eb)
      · intro l hl
        rcases List.mem_append.mp hl with hl | hl
        · exact new l hl
        · rw [List.mem_singleton.mp hl]
          exact (keep k1).free hm
      · intro a l hl
        by_cases ha : a < rows.length
        · rw [List.getElem?_append_left ha] at hl
          obtain ⟨n1, e1⟩ := each a l hl
          exact ⟨n1, by rw [upd_ne n1]; exact s2 _ _ e1⟩
        · have hl' := hl
          rw [List.getElem?_append_right (by omega)] at hl
          have a0 : a - rows.length = 0 := by
            rcases Nat.eq_zero_or_pos (a - rows.length) with e | e
            · exact e
            · have : (rows ++ [m]).length ≤ a := by
                rw [List.length_append, List.length_singleton]
                omega
              rw [List.getElem?_eq_none this] at hl'
              cases hl'
          rw [a0] at hl
          have e1 : m = l := by simpa using hl
          have e2 : a = j := by omega
          rw [← e1, e2]
          exact ⟨md, by rw [upd_ne md]; exact hM⟩
    · rintro H1 ⟨rows, k1, hD, len, new, each⟩
      exact q d rows H1 (keep k1) hd new ⟨len, hD, fun a l e => (each a l e).2⟩
/-! ### _law_map_piece -/
def sp_law_map_piece (K : PySem.W.Frag) : Sp := fun vs H Q _ => ∃ (c tb : Addr) (C : Chart) (rows : List Addr) (a : Nat), vs = [.ref c, .ref tb, vN a] ∧ IsChart K H c C ∧ C.Ok ∧ a < C.n ∧ TabAt H C tb rows ∧ ∀ t H', Same H H' → SqT K H' t ((pieceOf C a).map vN) → Q (.ref t) H'
theorem cal_law_map_piece (T : Txt mg) (D : Def K mg "_law_map_piece" s_law_map_piece) : Cal P w K mg base 2 "_law_map_piece" (sp_law_map_piece K) := by
  refine cal_of D sc_law_map_piece (fun _ _ _ _ _ _ us hl => match us, hl with | [_, _, _], _ => rfl) (fun vs H Q E h => ?_) (fun f cdv A outer s H vs Q E hr h => ?_)
  · obtain ⟨c, tb, C, rows, a, rfl, _⟩ := h
    rfl
  · obtain ⟨c, tb, C, rows, a, rfl, ⟨r, wd, ts, hC⟩, ok, ha, hT, q⟩ := h
    have n60 := ok.n60
    refine ⟨_, (pss_cons (ps_if (pt_cmpR (show OpR _ _ (rIn K false) from op_in_seq) (pv 2) (pe_ix (show IxR _ (rIxT K) from ix_tup) (pv 0) pe_int (fun _ _ => rfl)) (by rfl)) (pss_one (ps_ret (pe_tup (pa_cons (pv 2) pa_nil)))) pss_nil)
      (pss_one (ps_ret (pe_callTy (show CallR _ _ (rTupleOf K) from call_tupleOf) (by rfl) T.tuple (by decide +kernel) (pa_cons (pe_lc (own := [("b", 3)]) rfl sc_law_map_piece.nd (pi_range1 (by rfl) T.range (pa_cons (pe_ix (show IxR _ (rIxT K) from ix_tup) (pv 0) pe_int (fun _ _ => rfl)) pa_nil)) (blkOk_by (N := ["chart", "table", "a", "b"]) (sc := L2.defScope s_law_map_piece) (by decide +kernel)) (fun _ _ _ _ _ => (pg_name (i := 3) sc_law_map_piece.nd rfl (Or.inl rfl))) (fun _ _ _ _ _ => pts_one (PW.pt (pw_and (pt_cmpR (show OpR _ _ (rIn K true) from op_notIn_seq) (pv 3) (pe_ix (show IxR _ (rIxT K) from ix_tup) (pv 0) pe_int (fun _ _ => rfl)) (by rfl)) (pw_and1 (PW.pt (pw_or (pt_cmpR op_eq (pv 3) (pv 2) (nomark _)) (pw_or1 (PW.pt (pw_and (pt_cmpR (show OpR _ _ (rIn K false) from op_in_seq) (pv 3) (pe_ix (show IxR _ (rIxL K) from ix_list) (pv 1) (pv 2) (fun _ _ => rfl)) (by rfl)) (pw_and1 (pt_cmpR (show OpR _ _ (rIn K false) from op_in_seq) (pv 2) (pe_ix (show IxR _ (rIxL K) from ix_list) (pv 1) (pv 3) (fun _ _ => rfl)) (by rfl)))))))))))) (fun _ _ _ _ _ => (pv 3))) pa_nil))))), ?_⟩
    refine ⟨_, rfl, _, rfl, _, _, _, _, rfl, rfl, hC.top, rfl, wd, _, rfl, .inr hC.wis, rfl, all_vN C.wished, _, rfl, ?_⟩
    show if inV (vN a) (C.wished.map vN) = true then _ else _
    rw [in_vN]
    by_cases hw : a ∈ C.wished
    · rw [decide_eq_true hw]
      refine iteT ?_
      refine ⟨_, rfl, by show 1 ≤ sizeLine; decide, fun t ht => ?_⟩
      refine q t _ (same_upd ht) (.inl (.inl ?_))
      have e : pieceOf C a = [a] := by
        unfold pieceOf
        rw [if_pos hw]
      rw [upd_same, e]
      rfl
    · rw [decide_eq_false hw]
      refine iteF ?_
      refine ⟨_, rfl, _, _, _, _, rfl, rfl, hC.top, rfl, _, rfl, by omega, by omega, fun d hd => ?_⟩
      have keep : ∀ {H' : Hp}, Kp [d] H H' → Same H H' := fun {H'} k b o e' => k b o (fun m => by rw [List.mem_singleton.mp m, hd] at e'; cases e') e'
      obtain ⟨Pr, ePr⟩ : ∃ Pr : Nat → Prop, Pr = fun b => b ∉ C.wished ∧ (b = a ∨ (b ∈ met C.n C.roads C.wished [a] ∧ a ∈ met C.n C.roads C.wished [b])) := ⟨_, rfl⟩
      refine lc_range (lo := 0) (n := C.n) (fun j H' => Kp [d] H H' ∧ H' d = some (.lst ((those j Pr).map vN)))
        ⟨(fun b o x e' => by rw [upd_ne (ne_of_none e' hd)]; exact e'), upd_same⟩ ?_ ?_
      · rintro j H1 hj ⟨k1, hD⟩
        have e0 : (0 : Int) + (j : Nat) = (j : Nat) := by omega
        have hC1 := hC.same (keep k1)
        have hT1 := hT.same (keep k1)
        obtain ⟨ra, hra⟩ : ∃ t, rows[a]? = some t := ⟨_, List.getElem?_eq_getElem (by rw [hT.len]; exact ha)⟩
        obtain ⟨rj, hrj⟩ : ∃ t, rows[j]? = some t := ⟨_, List.getElem?_eq_getElem (by rw [hT.len]; exact hj)⟩
        refine ⟨rfl, ?_⟩
        rw [e0]
        have no : ¬ Pr j → Kp [d] H H1 ∧ H1 d = some (.lst ((those (j + 1) Pr).map vN)) := fun h => ⟨k1, by rw [those_no h]; exact hD⟩
        have len : (those j Pr).length ≤ j := those_len j Pr
        have yes : Pr j → (V.int (j : Int) = vN j) ∧ H1 d = some (.lst ((those j Pr).map vN)) ∧ ((those j Pr).map vN).length < sizeLine ∧ Kp [d] H (upd H1 d (.lst ((those j Pr).map vN ++ [vN j]))) ∧ (upd H1 d (.lst ((those j Pr).map vN ++ [vN j]))) d = some (.lst ((those (j + 1) Pr).map vN)) := fun h =>
          ⟨rfl, hD, by rw [List.length_map]; exact small1000 (by omega), fun b o nb eb => by rw [upd_ne (fun z => nb (by rw [z]; simp))]; exact k1 b o nb eb, by rw [upd_same, those_yes h, List.map_append]; rfl⟩
        refine ⟨_, rfl, _, rfl, _, _, _, _, rfl, rfl, hC1.top, rfl, wd, _, rfl, .inr hC1.wis, rfl, all_vN C.wished, _, rfl, ?_⟩
        show if (!inV (vN j) (C.wished.map vN)) = true then _ else _
        rw [in_vN]
        by_cases jw : j ∈ C.wished
        · rw [decide_eq_true jw]
          exact iteF (no (by rw [ePr]; exact fun h => h.1 jw))
        · rw [decide_eq_false jw]
          refine iteT ?_
          refine ⟨_, rfl, _, rfl, rfl, _, rfl, ?_⟩
          by_cases ja : j = a
          · have : decide (V.int (j : Int) = vN a) = true := by
              rw [ja]
              exact decide_eq_true rfl
            rw [this]
            refine iteT ?_
            obtain ⟨_, y1, y2, y3, y4⟩ := yes (by rw [ePr]; exact ⟨jw, .inl ja⟩)
            exact ⟨_, rfl, _, y1, y2, y3, y4⟩
          · have : decide (V.int (j : Int) = vN a) = false := by
              refine decide_eq_false fun e => ja ?_
              have := V.int.inj e
              omega
            rw [this]
            refine iteF ?_
            refine ⟨_, rfl, _, rfl, _, rfl, tb, _, _, _, rfl, rfl, .inl (.inl hT1.at_.top), atI_nat (v := V.ref ra) (by rw [List.getElem?_map, hra]; rfl), ra, _, rfl, .inl (.inl (.inl (hT1.at_.each a ra hra))), rfl, all_vN _, _, rfl, ?_⟩
            show if inV (vN j) ((met C.n C.roads C.wished [a]).map vN) = true then _ else _
            rw [in_vN]
            by_cases m1 : j ∈ met C.n C.roads C.wished [a]
            · rw [decide_eq_true m1]
              refine iteT ?_
              refine ⟨_, rfl, _, rfl, _, rfl, tb, _, _, _, rfl, rfl, .inl (.inl hT1.at_.top), atI_nat (v := V.ref rj) (by rw [List.getElem?_map, hrj]; rfl), rj, _, rfl, .inl (.inl (.inl (hT1.at_.each j rj hrj))), rfl, all_vN _, _, rfl, ?_⟩
              show if inV (vN a) ((met C.n C.roads C.wished [j]).map vN) = true then _ else _
              rw [in_vN]
              by_cases m2 : a ∈ met C.n C.roads C.wished [j]
              · rw [decide_eq_true m2]
                refine iteT ?_
                obtain ⟨_, y1, y2, y3, y4⟩ := yes (by rw [ePr]; exact ⟨jw, .inr ⟨m1, m2⟩⟩)
                exact ⟨_, rfl, _, y1, y2, y3, y4⟩
              · rw [decide_eq_false m2]
                exact iteF (no (by rw [ePr]; exact fun h => h.2.elim ja fun h => m2 h.2))
            · rw [decide_eq_false m1]
              exact iteF (no (by rw [ePr]; exact fun h => h.2.elim ja fun h => m1 h.1))
      · rintro H1 ⟨k1, hD⟩
        have e : those C.n Pr = pieceOf C a := by
          refine asc_ext (those_up _ _) (piece_up C a) fun x => ?_
          rw [those_mem, piece_mem hw, ePr]
          constructor
          · rintro ⟨xn, xw, h⟩
            exact ⟨xn, xw, h.imp id fun h => ⟨(met_mem.mp h.1).2, (met_mem.mp h.2).2⟩⟩
          · rintro ⟨xn, xw, h⟩
            exact ⟨xn, xw, h.imp id fun h => ⟨met_mem.mpr ⟨xn, h.1⟩, met_mem.mpr ⟨ha, h.2⟩⟩⟩
        rw [e] at hD
        refine ⟨d, _, rfl, .inl ⟨.inl (.inl hD), fun t ht => ?_⟩⟩
        exact q t _ ((keep k1).trans (same_upd ht)) (.inl (.inl upd_same))
/-! ### _law_map_pieces -/
def sp_law_map_pieces (K : PySem.W.Frag) : Sp := fun vs H Q _ => ∃ (c tb : Addr) (C : Chart) (rows : List Addr), vs = [.ref c, .ref tb] ∧ IsChart K H c C ∧ C.Ok ∧ TabAt H C tb rows ∧ ∀ q ts H', Same H H' → SqT K H' q (ts.map V.ref) → RowsAt K H' ts (piecesL C) → Q (.ref q) H'
theorem cal_law_map_pieces (T : Txt mg) (D : Def K mg "_law_map_pieces" s_law_map_pieces) (c_law_map_piece : Cal P w K mg base 2 "_law_map_piece" (sp_law_map_piece K)) : Cal P w K mg base 3 "_law_map_pieces" (sp_law_map_pieces K) := by
  refine cal_of D sc_law_map_pieces (fun _ _ _ _ _ _ us hl => match us, hl with | [_, _], _ => rfl) (fun vs H Q E h => ?_) (fun f cdv A outer s H vs Q E hr h => ?_)
  · obtain ⟨c, tb, C, rows, rfl, _⟩ := h
    rfl
  · obtain ⟨c, tb, C, rows, rfl, ⟨r, wd, ts, hC⟩, ok, hT, q⟩ := h
    have n60 := ok.n60
    have hU := hr.units
    refine ⟨_, (pss_cons (ps_setLc (i := 2) (own := [("a", 3)]) rfl sc_law_map_pieces.nd rfl rfl (sw_true rfl rfl rfl (by decide +kernel)) (pi_range1 (by rfl) T.range (pa_cons (pe_ix (show IxR _ (rIxT K) from ix_tup) (pv 0) pe_int (fun _ _ => rfl)) pa_nil)) (blkOk_by (N := ["chart", "table", "lots", "a"]) (sc := L2.defScope s_law_map_pieces) (by decide +kernel)) (fun _ _ _ _ _ => (pg_name (i := 3) sc_law_map_pieces.nd rfl (Or.inl rfl))) (fun _ _ _ _ _ => pts_one (pt_cmpR (show OpR _ _ (rIn K true) from op_notIn_seq) (pv 3) (pe_ix (show IxR _ (rIxT K) from ix_tup) (pv 0) pe_int (fun _ _ => rfl)) (by rfl))) (fun _ _ _ _ _ => (pe_c c_law_map_piece hr (by decide) (by rfl) (pa_cons (pv 0) (pa_cons (pv 1) (pa_cons (pv 3) pa_nil))))))
      (pss_one (ps_ret (pe_callTy (show CallR _ _ (rTupleOf K) from call_tupleOf) (by rfl) T.tuple (by decide +kernel) (pa_cons (pe_callB (show CallR _ _ (rSortedS K P w) from cr_sortedSR rfl hU) (by rfl) T.sorted (by decide +kernel) (pa_cons (pe_callTy (show CallR _ _ (rSetOfT K P w) from cr_setOfT rfl hU) (by rfl) T.set (by decide +kernel) (pa_cons (pv 2) pa_nil)) pa_nil)) pa_nil))))), ?_⟩
    refine ⟨_, rfl, _, _, _, _, rfl, rfl, hC.top, rfl, _, rfl, by omega, by omega, fun d hd => ?_⟩
    have keep : ∀ {H' : Hp}, Kp [d] H H' → Same H H' := fun {H'} k b o e' => k b o (fun m => by rw [List.mem_singleton.mp m, hd] at e'; cases e') e'
    refine lc_range (lo := 0) (n := C.n) (fun j H' => ∃ L : List Row, Kp [d] H H' ∧ H' d = some (.lst (L.map fun p => V.ref p.1)) ∧ L.length ≤ j ∧ (∀ p ∈ L, SqT K H' p.1 (p.2.map V.int)) ∧ (∀ p ∈ L, ∃ a ∈ unw C, p.2 = iN (pieceOf C a)) ∧ ∀ a ∈ unw C, a < j → ∃ p ∈ L, p.2 = iN (pieceOf C a))
      ⟨[], (fun b o x e' => by rw [upd_ne (ne_of_none e' hd)]; exact e'), upd_same, Nat.le_refl _, (fun _ h => nomatch h), (fun _ h => nomatch h), fun a _ h => absurd h (Nat.not_lt_zero _)⟩ ?_ ?_
    · rintro j H1 hj ⟨L, k1, hD, len, all, from_, to⟩
      have e0 : (0 : Int) + (j : Nat) = (j : Nat) := by omega
      have hC1 := hC.same (keep k1)
      refine ⟨rfl, ?_⟩
      rw [e0]
      refine ⟨_, rfl, _, rfl, _, _, _, _, rfl, rfl, hC1.top, rfl, wd, _, rfl, .inr hC1.wis, rfl, all_vN C.wished, _, rfl, ?_⟩
      show if (!inV (vN j) (C.wished.map vN)) = true then _ else _
      rw [in_vN]
      by_cases jw : j ∈ C.wished
      · rw [decide_eq_true jw]
        refine iteF ⟨L, k1, hD, by omega, all, from_, fun a ha haj => to a ha ?_⟩
        have : a ≠ j := fun e => (unw_mem.mp ha).2 (e ▸ jw)
        omega
      · rw [decide_eq_false jw]
        refine iteT ?_
        refine ⟨_, rfl, _, rfl, _, rfl, c, tb, C, rows, j, rfl, ⟨r, wd, ts, hC1⟩, ok, hj, hT.same (keep k1), fun t H2 s2 hP => ?_⟩
        have hD2 := s2 _ _ hD
        have keepU : ∀ {b : Addr} {ys : List V}, SqT K H2 b ys → SqT K (upd H2 d (.lst ((L.map fun p => V.ref p.1) ++ [V.ref t]))) b ys := fun {b ys} h => by
          refine Kp.sqT (ex := [d]) (fun b' o nb eb => ?_) (fun b' m => ?_) h
          · rw [upd_ne (fun z => nb (by rw [z]; simp))]
            exact eb
          · rw [List.mem_singleton.mp m]
            exact ⟨_, hD2, (fun _ z => nomatch z), (fun _ _ z => nomatch z)⟩
        refine ⟨_, hD2, by rw [List.length_map]; exact small1000 (by omega), L ++ [(t, iN (pieceOf C j))], ?_, by rw [upd_same, List.map_append]; rfl, by rw [List.length_append]; exact Nat.succ_le_succ len, ?_, ?_, ?_⟩
        · intro b o nb eb
          rw [upd_ne (fun z => nb (by rw [z]; simp))]
          exact s2 _ _ (k1 b o nb eb)
        · intro p hp
          rcases List.mem_append.mp hp with hp | hp
          · exact keepU (Same.sqT s2 (all p hp))
          · rw [List.mem_singleton.mp hp]
            refine keepU ?_
            rw [← vN_map]
            exact hP
        · intro p hp
          rcases List.mem_append.mp hp with hp | hp
          · exact from_ p hp
          · rw [List.mem_singleton.mp hp]
            exact ⟨j, unw_mem.mpr ⟨hj, jw⟩, rfl⟩
        · intro a ha haj
          by_cases e : a = j
          · rw [e]
            exact ⟨_, List.mem_append_right _ (List.mem_singleton.mpr rfl), rfl⟩
          · obtain ⟨p, hp, e1⟩ := to a ha (by omega)
            exact ⟨p, List.mem_append_left _ hp, e1⟩
    · rintro H1 ⟨L, k1, hD, len, all, from_, to⟩
      have ne : ∀ p ∈ L, p.2 ≠ [] := fun p hp e => by
        obtain ⟨a, ha, e1⟩ := from_ p hp
        have := piece_self (unw_mem.mp ha).1
        rw [e1] at e
        have e2 : pieceOf C a = [] := by
          unfold iN at e
          exact List.map_eq_nil_iff.mp e
        rw [e2] at this
        exact absurd this List.not_mem_nil
      refine ⟨_, rfl, d, L, rfl, .inl (.inl hD), all, by omega, fun a L1 ha sub sup => ?_⟩
      have s3 : Same H1 (upd H1 a (SetTO P w a L1)) := same_upd ha
      refine ⟨a, L1, rfl, upd_same, (fun p hp => Same.sqT s3 (all p (sub p hp))), (fun p hp => ne p (sub p hp)), fun L' u pm' nd few pw hu' => ?_⟩
      have s4 : Same H1 (upd (upd H1 a (SetTO P w a L1)) u (.lst (L'.map fun r => V.ref r.1))) := s3.trans (same_upd hu')
      refine ⟨u, _, rfl, .inl ⟨.inl (.inl upd_same), fun tp htp => ?_⟩⟩
      have s5 := s4.trans (same_upd (o := .tup (L'.map fun r => V.ref r.1)) htp)
      have e : L'.map (·.2) = (piecesL C).map iN := by
        refine rows_ext ?_ (piecesL_up C) fun x => ?_
        · exact List.Pairwise.and (List.pairwise_map.mpr pw) nd
        · constructor
          · intro hx
            obtain ⟨p, hp, rfl⟩ := List.mem_map.mp hx
            obtain ⟨a', ha', e1⟩ := from_ p (sub p (pm'.mem_iff.mp hp))
            rw [e1]
            exact List.mem_map.mpr ⟨_, piecesL_mem.mpr ⟨a', ha', rfl⟩, rfl⟩
          · intro hx
            obtain ⟨l, hl, rfl⟩ := List.mem_map.mp hx
            obtain ⟨a', ha', rfl⟩ := piecesL_mem.mp hl
            obtain ⟨p, hp, e1⟩ := to a' ha' (unw_mem.mp ha').1
            have h2 := sup p hp
            rw [e1] at h2
            exact (pm'.map (·.2)).mem_iff.mpr h2
      refine q tp (L'.map (·.1)) _ ((keep k1).trans s5) (.inl (.inl ?_)) ?_
      · rw [upd_same, List.map_map]
        rfl
      · exact rows_at e fun p hp => Same.sqT s5 (all p (sub p (pm'.mem_iff.mp hp)))
end
end Ft

set_option Elab.async false
set_option linter.all false
set_option maxRecDepth 100000
set_option maxHeartbeats 8000000
namespace Ft
open PySem PySem.Spec PyProof.Rows L2
section
variable {P : Program} {w : World} {K : PySem.W.Frag} {mg : Str → Option Value} {base : Heap} {t1 t2 : Tok}
/-! ### _law_map_lot -/
def sp_law_map_lot (K : PySem.W.Frag) : Sp := fun vs H Q _ => ∃ (p l c : Addr) (C : Chart), vs = [.ref p, .ref c] ∧ PoolAt H p l ∧ IsChart K H c C ∧ C.Ok ∧ ∀ (t : Addr) (U : List Nat) (H' : Hp), SqT K H' t (U.map vN) → Upto U C.n → PoolAt H' p l → Kp [p, l] H H' → Q (.ref t) H'
/-! ### _law_map_standing -/
def sp_law_map_standing (K : PySem.W.Frag) : Sp := fun vs H Q _ => ∃ (p l c : Addr) (C : Chart) (most : Nat), vs = [.ref p, .ref c, vN most] ∧ PoolAt H p l ∧ IsChart K H c C ∧ C.Ok ∧ 0 < C.n ∧ 0 < most ∧ most ≤ 9 ∧ ∀ (t : Addr) (S : List Nat) (H' : Hp), SqT K H' t (S.map vN) → (∀ x ∈ S, x < C.n) → 1 ≤ S.length → S.length ≤ most → PoolAt H' p l → Kp [p, l] H H' → Q (.ref t) H'
theorem cal_law_map_standing (T : Txt mg) (D : Def K mg "_law_map_standing" s_law_map_standing) (c_law_draw : Cal P w K mg base 2 "_law_draw" sp_law_draw) : Cal P w K mg base 3 "_law_map_standing" (sp_law_map_standing K) := by
  refine cal_of D sc_law_map_standing (fun _ _ _ _ _ _ us hl => match us, hl with | [_, _, _], _ => rfl) (fun vs H Q E h => ?_) (fun f cdv A outer s H vs Q E hr h => ?_)
  · obtain ⟨p, l, c, C, most, rfl, _⟩ := h
    rfl
  · obtain ⟨p, l, c, C, most, rfl, hP, ⟨r, wd, ts, hC⟩, ok, n0, m0, m9, q⟩ := h
    have n60 := ok.n60
    refine ⟨_, (pss_cons (ps_set (i := 3) sc_law_map_standing.nd rfl (Or.inl rfl) (pe_lst (pa_cons (pe_c c_law_draw hr (by decide) (by rfl) (pa_cons (pv 0) (pa_cons (pe_ix (show IxR _ (rIxT K) from ix_tup) (pv 1) pe_int (fun _ _ => rfl)) pa_nil))) pa_nil)))
      (pss_cons (ps_for PassesOwn.never rfl (pi_range1 (by rfl) T.range (pa_cons (pe_c c_law_draw hr (by decide) (by rfl) (pa_cons (pv 0) (pa_cons (pv 2) pa_nil))) pa_nil)) (pg_name (i := 4) sc_law_map_standing.nd rfl (Or.inl rfl)) (pss_one (ps_expr (pe_bm PySem.F.plainAttrs_list PySem.F.slot_list_append PySem.F.type_list_append mt_append (pv 3) (pa_cons (pe_mid (pe_ifExp (pt_cmpR op_eq (pe_c c_law_draw hr (by decide) (by rfl) (pa_cons (pv 0) (pa_cons pe_int pa_nil))) pe_int (nomark _)) (pe_ix (show IxR _ (rIxL K) from ix_list) (pv 3) pe_int (fun _ _ => rfl)) (pe_c c_law_draw hr (by decide) (by rfl) (pa_cons (pv 0) (pa_cons (pe_ix (show IxR _ (rIxT K) from ix_tup) (pv 1) pe_int (fun _ _ => rfl)) pa_nil))))) pa_nil)))))
      (pss_one (ps_ret (pe_callTy (show CallR _ _ (rTupleOf K) from call_tupleOf) (by rfl) T.tuple (by decide +kernel) (pa_cons (pv 3) pa_nil)))))), ?_⟩
    refine ⟨_, rfl, _, rfl, _, _, _, _, rfl, rfl, hC.top, rfl, p, l, C.n, rfl, hP, n0, by omega, fun a H1 ha hP1 k1 => ?_⟩
    refine ⟨by show 1 ≤ sizeLine; decide, fun d hd => ?_⟩
    have s2 : Same H1 (upd H1 d (.lst [vN a])) := same_upd hd
    have hD2 : (upd H1 d (.lst [vN a])) d = some (.lst ([a].map vN)) := upd_same
    have dpl : d ∉ [p, l] := hP1.free hd
    have hd0 : H d = none := kp_free k1 dpl hd
    have hP2 := hP1.same s2
    have k2 := k1.trans (Same.kp (ex := [p, l]) s2)
    generalize upd H1 d (.lst [vN a]) = H2 at s2 hD2 hP2 k2
    refine ⟨_, rfl, _, rfl, p, l, most, rfl, hP2, m0, by omega, fun m H3 hm hP3 k3 => ?_⟩
    have hD3 := k3 _ _ dpl hD2
    refine ⟨_, rfl, by omega, by omega, for_range (lo := 0) (n := m) (fun i σ H' => ∃ (S : List Nat) (v4 : Option V), σ = [some (.ref p), some (.ref c), some (vN most), some (.ref d), v4] ∧ PoolAt H' p l ∧ Kp [p, l] H H' ∧ H' d = some (.lst (S.map vN)) ∧ (∀ x ∈ S, x < C.n) ∧ S.length = i + 1)
      ⟨[a], _, rfl, hP3, k2.trans k3, hD3, (fun x hx => by rw [List.mem_singleton.mp hx]; exact ha), rfl⟩ ?_ ?_⟩
    · rintro i σ H4 hi ⟨S, v4, rfl, hP4, k4, hD4, inS, lS⟩
      have hC4 : ChartAt K H4 c C r wd ts := hC.keep k4 hP.lists
      obtain ⟨x0, S0, eS⟩ : ∃ x0 S0, S = x0 :: S0 := by
        cases S with
        | nil => simp at lS
        | cons x0 S0 => exact ⟨x0, S0, rfl⟩
      refine ⟨_, rfl, .inl ⟨rfl, _, .inl (.inl hD4)⟩, ?_⟩
      refine ⟨fun v H' => ∃ x : Nat, v = vN x ∧ x < C.n ∧ PoolAt H' p l ∧ Kp [p, l] H4 H', ⟨_, rfl, p, l, 8, rfl, hP4, by decide, by decide, fun y H5 _ hP5 k5 => ⟨rfl, _, rfl, ite_any (fun _ => ?_) (fun _ => ?_)⟩⟩, ?_⟩
      · exact ⟨_, rfl, d, _, _, _, rfl, rfl, .inl (.inl (k5 _ _ dpl hD4)), atI_nat (j := 0) (v := vN x0) (by rw [eS]; rfl), x0, rfl, inS x0 (by rw [eS]; exact List.mem_cons_self), hP5, k5⟩
      · have hC5 : ChartAt K H5 c C r wd ts := hC4.keep k5 hP4.lists
        exact ⟨_, rfl, _, rfl, _, _, _, _, rfl, rfl, hC5.top, rfl, p, l, C.n, rfl, hP5, n0, by omega, fun x H6 hx hP6 k6 => ⟨x, rfl, hx, hP6, k5.trans k6⟩⟩
      rintro v H5 ⟨x, rfl, hx, hP5, k5⟩
      have hD5 := k5 _ _ dpl hD4
      refine ⟨d, _, _, rfl, rfl, hD5, by rw [List.length_map]; exact small1000 (by omega), S ++ [x], _, rfl, hP5.set dpl, ?_, by rw [upd_same, List.map_append]; rfl, ?_, by rw [List.length_append, lS]; rfl⟩
      · intro b o nb eb
        rw [upd_ne (ne_of_none eb hd0)]
        exact k5 _ _ nb (k4 b o nb eb)
      · intro y hy
        rcases List.mem_append.mp hy with hy | hy
        · exact inS y hy
        · rw [List.mem_singleton.mp hy]
          exact hx
    · rintro σ H4 ⟨S, v4, rfl, hP4, k4, hD4, inS, lS⟩
      refine ⟨_, rfl, d, _, rfl, .inl ⟨.inl (.inl hD4), fun t ht => ?_⟩⟩
      exact q t S _ (.inl (.inl upd_same)) inS (by omega) (by omega) (hP4.same (same_upd ht)) (k4.trans (Same.kp (same_upd ht)))
end
end Ft

set_option Elab.async false
set_option linter.all false
set_option maxRecDepth 100000
set_option maxHeartbeats 8000000
namespace Ft
open PySem PySem.Spec PyProof.Rows L2
theorem piece_up' (C : Chart) (a : Nat) : (pieceOf C a).Pairwise (· < ·) := by
  unfold pieceOf
  by_cases hw : a ∈ C.wished
  · rw [if_pos hw]
    exact List.pairwise_singleton _ _
  · rw [if_neg hw]
    exact those_up _ _
section
variable {P : Program} {w : World} {K : PySem.W.Frag} {mg : Str → Option Value} {base : Heap} {t1 t2 : Tok}
/-! ### _law_map_next -/
def sp_law_map_next (K : PySem.W.Frag) : Sp := fun vs H Q _ => ∃ (c lo : Addr) (C : Chart) (S : List Nat), vs = [.ref c, .ref lo] ∧ IsChart K H c C ∧ C.Ok ∧ SqT K H lo (S.map vN) ∧ ∀ (t : Addr) (N : List Nat) (H' : Hp), Same H H' → SqT K H' t (N.map vN) → Upto N C.n → Q (.ref t) H'
/-! ### _law_map_members -/
def sp_law_map_members (K : PySem.W.Frag) : Sp := fun vs H Q _ => ∃ (c tb st : Addr) (C : Chart) (rows : List Addr) (S : List Nat), vs = [.ref c, .ref tb, .ref st] ∧ IsChart K H c C ∧ C.Ok ∧ TabAt H C tb rows ∧ SqT K H st (S.map vN) ∧ (∀ x ∈ S, x < C.n) ∧ S.length ≤ 9 ∧ ∀ q H', Same H H' → SqT K H' q ((membersOf C S).map vN) → Q (.ref q) H'
end
end Ft

set_option Elab.async false
set_option linter.all false
set_option maxRecDepth 100000
set_option maxHeartbeats 8000000
namespace Ft
open PySem PySem.Spec PyProof.Rows L2
/-- the roads of a planted map, before its places are named anew -/
structure Plant (rg wy n : Nat) (prs : List (Nat × Nat)) : Prop where
  kind : ∀ q ∈ prs, (q.1 < rg ∧ q.2 = (q.1 + 1) % rg) ∨ (q.1 < rg ∧ rg ≤ q.2 ∧ q.2 < rg + wy) ∨ (rg ≤ q.1 ∧ q.1 < rg + wy ∧ rg + wy ≤ q.2 ∧ q.2 < n)
  ring : ∀ a, a < rg → (a, (a + 1) % rg) ∈ prs
/-- what a planted map is -/
structure Planted (C : Chart) (rg wy : Nat) (ring wts : List Nat) : Prop where
  to : ∃ (n : Nat) (prs : List (Nat × Nat)) (ws perm : List Nat), perm.Perm (List.range n) ∧ rg + wy ≤ n ∧ Plant rg wy n prs ∧ (∀ a, a ∈ ws ↔ rg + wy ≤ a ∧ a < n) ∧ Named n prs ws perm C ∧ ring.Pairwise (· < ·) ∧ (∀ x, x ∈ ring ↔ ∃ a, a < rg ∧ x = nm perm a) ∧ wts = (List.range wy).map fun k => nm perm (rg + k)
def LotsL (H : Hp) (as : List Addr) (ls : List (List Nat)) : Prop := Paired (fun (a : Addr) (l : List Nat) => H a = some (.lst (l.map vN))) as ls
theorem LotsL.imp {H H' : Hp} : ∀ {as : List Addr} {ls : List (List Nat)}, (∀ a ∈ as, ∀ o, H a = some o → H' a = some o) → LotsL H as ls → LotsL H' as ls
  | _, _, _, .nil => .nil
  | a :: as, _ :: _, h, .cons r t => .cons (h a List.mem_cons_self _ r) (LotsL.imp (fun b hb => h b (List.mem_cons_of_mem _ hb)) t)
theorem LotsL.has {H : Hp} : ∀ {as : List Addr} {ls : List (List Nat)}, LotsL H as ls → ∀ a ∈ as, ∃ l : List Nat, l ∈ ls ∧ H a = some (.lst (l.map vN))
  | _, _, .nil, _, m => nomatch m
  | a :: as, l :: _, .cons r t, b, m => by
    rcases List.mem_cons.mp m with e | m
    · exact ⟨l, List.mem_cons_self, e ▸ r⟩
    · obtain ⟨l', h1, h2⟩ := LotsL.has t b m
      exact ⟨l', List.mem_cons_of_mem _ h1, h2⟩
theorem PoolAt.keep {ex : List Addr} {H H' : Hp} {p l : Addr} (k : Kp ex H H') (n1 : p ∉ ex) (n2 : l ∉ ex) (h : PoolAt H p l) : PoolAt H' p l := by
  obtain ⟨a, b, cs, h1, h2, h3⟩ := h
  exact ⟨a, b, cs, k _ _ n1 h1, k _ _ n2 h2, h3⟩
theorem off2 {p l d z : Addr} (h1 : d ∉ [p, l]) (h2 : z ∉ [p, l]) : p ∉ [d, z] ∧ l ∉ [d, z] := by
  simp only [List.mem_cons, List.not_mem_nil, or_false, not_or] at h1 h2 ⊢
  exact ⟨⟨fun e => h1.1 e.symm, fun e => h2.1 e.symm⟩, ⟨fun e => h1.2 e.symm, fun e => h2.2 e.symm⟩⟩
theorem kp_new {ex0 ex : List Addr} {H H1 H2 : Hp} (k : Kp ex0 H H1) (he : ∀ e ∈ ex, H e = none) (k2 : Kp ex H1 H2) : Kp ex0 H H2 := fun b o nb eb => k2 b o (fun m => by rw [he b m] at eb; cases eb) (k b o nb eb)
theorem nm_inj {perm : List Nat} {n : Nat} (pm : perm.Perm (List.range n)) {a b : Nat} (ha : a < n) (hb : b < n) (e : nm perm a = nm perm b) : a = b := by
  have len : perm.length = n := by rw [pm.length_eq, List.length_range]
  have nd : perm.Nodup := pm.nodup_iff.mpr List.nodup_range
  refine (List.getElem?_inj (by rw [len]; exact ha) nd).mp ?_
  rw [nm_get (by rw [len]; exact ha), nm_get (by rw [len]; exact hb), e]
section
variable {P : Program} {w : World} {K : PySem.W.Frag} {mg : Str → Option Value} {base : Heap} {t1 t2 : Tok}
/-! ### _law_map_planted -/
def sp_law_map_planted (K : PySem.W.Frag) : Sp := fun vs H Q _ => ∃ (p l : Addr) (rg wy bh : Nat), vs = [.ref p, vN rg, vN wy, vN bh] ∧ PoolAt H p l ∧ 0 < rg ∧ rg ≤ 24 ∧ wy ≤ 3 ∧ 0 < bh ∧ bh ≤ 8 ∧
  ∀ (q c ri wa tl : Addr) (C : Chart) (ring wts : List Nat) (H' : Hp), H' q = some (.lst [.ref c, .ref ri, .ref wa, .ref tl]) → IsChart K H' c C → C.Ok → H' ri = some (.lst (ring.map vN)) → H' wa = some (.lst (wts.map vN)) → ring.length = rg → wts.length = wy → ri ∉ [p, l] → wa ∉ [p, l] → Planted C rg wy ring wts → PoolAt H' p l → Kp [p, l] H H' → Q (.ref q) H'
theorem cal_law_map_planted (T : Txt mg) (D : Def K mg "_law_map_planted" s_law_map_planted) (c_law_draw : Cal P w K mg base 2 "_law_draw" sp_law_draw) (c_law_map_named : Cal P w K mg base 4 "_law_map_named" (sp_law_map_named K)) : Cal P w K mg base 5 "_law_map_planted" (sp_law_map_planted K) := by
  refine cal_of D sc_law_map_planted (fun _ _ _ _ _ _ us hl => match us, hl with | [_, _, _, _], _ => rfl) (fun vs H Q E h => ?_) (fun f cdv A outer s H vs Q E hr h => ?_)
  · obtain ⟨p, l, rg, wy, bh, rfl, _⟩ := h
    rfl
  · obtain ⟨p, l, rg, wy, bh, rfl, hP, rg0, rg24, wy3, bh0, bh8, q⟩ := h
    have hU := hr.units
    refine ⟨_, (pss_cons (ps_par3 (i := 4) (j := 5) (l := 6) (by rfl) sc_law_map_planted.nd rfl rfl rfl (by decide) (by decide) (by decide) rfl rfl rfl (pa_cons (pe_op op_add (pv 1) (pv 2)) (pa_cons (pe_lc (own := [("a", 14)]) rfl sc_law_map_planted.nd (pi_range1 (by rfl) T.range (pa_cons (pv 1) pa_nil)) (blkOk_by (N := ["pool", "ring", "ways", "behind", "places", "roads", "last", "way", "turn", "wished", "lot", "chart", "names", "told", "a"]) (sc := L2.defScope s_law_map_planted) (by decide +kernel)) (fun _ _ _ _ _ => (pg_name (i := 14) sc_law_map_planted.nd rfl (Or.inl rfl))) (fun _ _ _ _ _ => pts_nil) (fun _ _ _ _ _ => (pe_tup (pa_cons (pv 14) (pa_cons (pe_op op_mod (pe_callTy call_int1 (by rfl) T.int (by decide +kernel) (pa_cons (pe_op op_add (pv 14) pe_int) pa_nil)) (pv 1)) pa_nil))))) (pa_cons (pe_lst pa_nil) pa_nil))) (by rfl))
      (pss_cons (ps_for PassesOwn.never rfl (pi_range1 (by rfl) T.range (pa_cons (pv 2) pa_nil)) (pg_name (i := 7) sc_law_map_planted.nd rfl (Or.inl rfl)) (pss_cons (ps_expr (pe_bm PySem.F.plainAttrs_list PySem.F.slot_list_append PySem.F.type_list_append mt_append (pv 5) (pa_cons (pe_tup (pa_cons (pe_c c_law_draw hr (by decide) (by rfl) (pa_cons (pv 0) (pa_cons (pv 1) pa_nil))) (pa_cons (pe_op op_add (pv 1) (pv 7)) pa_nil))) pa_nil)))
        (pss_cons (ps_expr (pe_bm PySem.F.plainAttrs_list PySem.F.slot_list_append PySem.F.type_list_append mt_append (pv 6) (pa_cons (pe_lst pa_nil) pa_nil)))
        (pss_one (ps_for PassesOwn.never rfl (pi_range1 (by rfl) T.range (pa_cons (pe_op op_add pe_int (pe_c c_law_draw hr (by decide) (by rfl) (pa_cons (pv 0) (pa_cons (pv 3) pa_nil)))) pa_nil)) (pg_name (i := 8) sc_law_map_planted.nd rfl (Or.inl rfl)) (pss_cons (ps_expr (pe_bm PySem.F.plainAttrs_list PySem.F.slot_list_append PySem.F.type_list_append mt_append (pv 5) (pa_cons (pe_tup (pa_cons (pe_op op_add (pv 1) (pv 7)) (pa_cons (pv 4) pa_nil))) pa_nil)))
          (pss_cons (ps_expr (pe_bm PySem.F.plainAttrs_list PySem.F.slot_list_append PySem.F.type_list_append mt_append (pe_ix (show IxR _ (rIxL K) from ix_list) (pv 6) (pv 7) (fun _ _ => rfl)) (pa_cons (pv 4) pa_nil)))
          (pss_one (ps_set (i := 4) sc_law_map_planted.nd rfl (Or.inl rfl) (pe_op op_add (pv 4) pe_int))))))))))
      (pss_cons (ps_set (i := 9) sc_law_map_planted.nd rfl (Or.inl rfl) (pe_lst pa_nil))
      (pss_cons (ps_for PassesOwn.never rfl (show PI _ _ _ (iList K _) from pi_list (pv 6)) (pg_name (i := 10) sc_law_map_planted.nd rfl (Or.inl rfl)) (pss_one (ps_set (i := 9) sc_law_map_planted.nd rfl (Or.inl rfl) (pe_op op_cat (pv 9) (pv 10)))))
      (pss_cons (ps_asg (pe_c c_law_map_named hr (by decide) (by rfl) (pa_cons (pv 0) (pa_cons (pv 4) (pa_cons (pv 5) (pa_cons (pv 9) pa_nil))))) (show PG _ _ (gLst K 2 _) from pg_lst (by rfl) (pgs_cons (pg_name (i := 11) sc_law_map_planted.nd rfl (Or.inl rfl)) (pgs_cons (pg_name (i := 12) sc_law_map_planted.nd rfl (Or.inr rfl)) pgs_nil))))
      (pss_cons (ps_setLc (i := 13) (own := [("lot", 10)]) rfl sc_law_map_planted.nd rfl rfl (sw_true rfl rfl rfl (by decide +kernel)) (show PI _ _ _ (iList K _) from pi_list (pv 6)) (blkOk_by (N := ["pool", "ring", "ways", "behind", "places", "roads", "last", "way", "turn", "wished", "lot", "chart", "names", "told", "a"]) (sc := L2.defScope s_law_map_planted) (by decide +kernel)) (fun _ _ _ _ _ => (pg_name (i := 10) sc_law_map_planted.nd rfl (Or.inl rfl))) (fun _ _ _ _ _ => pts_nil) (fun _ _ _ _ _ => (pe_callB (show CallR _ _ (rSortedI K) from cr_sortedI) (by rfl) T.sorted (by decide +kernel) (pa_cons (pe_lc (own := [("a", 14)]) rfl sc_law_map_planted.nd (show PI _ _ _ (iList K _) from pi_list (pv 10)) (blkIn (N := ["pool", "ring", "ways", "behind", "places", "roads", "last", "way", "turn", "wished", "lot", "chart", "names", "told", "a"]) (sc := L2.defScope s_law_map_planted) rfl (by decide +kernel)) (fun _ _ _ _ _ => (pg_name (i := 14) sc_law_map_planted.nd rfl (Or.inl rfl))) (fun _ _ _ _ _ => pts_nil) (fun _ _ _ _ _ => (pe_ix (show IxR _ (rIxL K) from ix_list) (pv 12) (pv 14) (fun _ _ => rfl)))) pa_nil))))
      (pss_one (ps_ret (pe_lst (pa_cons (pv 11) (pa_cons (pe_callB (show CallR _ _ (rSortedI K) from cr_sortedI) (by rfl) T.sorted (by decide +kernel) (pa_cons (pe_lc (own := [("a", 14)]) rfl sc_law_map_planted.nd (pi_range1 (by rfl) T.range (pa_cons (pv 1) pa_nil)) (blkOk_by (N := ["pool", "ring", "ways", "behind", "places", "roads", "last", "way", "turn", "wished", "lot", "chart", "names", "told", "a"]) (sc := L2.defScope s_law_map_planted) (by decide +kernel)) (fun _ _ _ _ _ => (pg_name (i := 14) sc_law_map_planted.nd rfl (Or.inl rfl))) (fun _ _ _ _ _ => pts_nil) (fun _ _ _ _ _ => (pe_ix (show IxR _ (rIxL K) from ix_list) (pv 12) (pv 14) (fun _ _ => rfl)))) pa_nil)) (pa_cons (pe_lc (own := [("way", 7)]) rfl sc_law_map_planted.nd (pi_range1 (by rfl) T.range (pa_cons (pv 2) pa_nil)) (blkOk_by (N := ["pool", "ring", "ways", "behind", "places", "roads", "last", "way", "turn", "wished", "lot", "chart", "names", "told", "a"]) (sc := L2.defScope s_law_map_planted) (by decide +kernel)) (fun _ _ _ _ _ => (pg_name (i := 7) sc_law_map_planted.nd rfl (Or.inl rfl))) (fun _ _ _ _ _ => pts_nil) (fun _ _ _ _ _ => (pe_ix (show IxR _ (rIxL K) from ix_list) (pv 12) (pe_op op_add (pv 1) (pv 7)) (fun _ _ => rfl)))) (pa_cons (pv 13) pa_nil))))))))))))), ?_⟩
    have s1000 : (1000 : Nat) ≤ sizeLine := by decide
    refine ⟨_, rfl, _, rfl, _, _, rfl, rfl, _, rfl, _, rfl, by omega, by omega, fun d hd => ?_⟩
    have dpl : d ∉ [p, l] := hP.free hd
    refine lc_range (lo := 0) (n := rg) (fun i H' => ∃ L : List (Addr × (Nat × Nat)), Kp [d] H H' ∧ H' d = some (.lst (L.map fun r => V.ref r.1)) ∧ TupsAt H' L ∧ L.map (·.2) = (List.range i).map fun a => (a, (a + 1) % rg))
      ⟨[], (fun b o x e' => by rw [upd_ne (ne_of_none e' hd)]; exact e'), upd_same, (fun _ h => nomatch h), rfl⟩ ?_ ?_
    · rintro i H1 hi ⟨L, k1, hD, hL, eL⟩
      have lenL : L.length = i := by
        have := congrArg List.length eL
        rwa [List.length_map, List.length_map, List.length_range] at this
      have e0 : (0 : Int) + (i : Nat) = (i : Nat) := by omega
      refine ⟨rfl, ?_⟩
      rw [e0]
      have r0 : (0 : Int) < (rg : Int) := by omega
      refine ⟨_, rfl, _, rfl, _, _, rfl, rfl, .inl ⟨_, rfl, _, rfl, _, _, rfl, rfl, r0, by show 2 ≤ sizeLine; decide, fun t ht => ?_⟩⟩
      have em : V.int (((i : Int) + 1) % (rg : Int)) = vN ((i + 1) % rg) := by
        unfold vN
        congr 1
      have hT : (upd H1 t (.tup [vN i, V.int (((i : Int) + 1) % (rg : Int))])) t = some (.tup [vN i, vN ((i + 1) % rg)]) := by rw [upd_same, em]
      have s2 : Same H1 (upd H1 t (.tup [vN i, V.int (((i : Int) + 1) % (rg : Int))])) := same_upd ht
      have hD2 := s2 _ _ hD
      refine ⟨_, hD2, by rw [List.length_map]; exact small1000 (by omega), L ++ [(t, (i, (i + 1) % rg))], ?_, by rw [upd_same, List.map_append]; rfl, ((hL.same s2).add hT).set hD2, by rw [List.map_append, eL, List.range_succ, List.map_append]; rfl⟩
      intro b o nb eb
      rw [upd_ne (fun z => nb (by rw [z]; simp))]
      exact s2 _ _ (k1 b o nb eb)
    rintro H1 ⟨L0, k1, hD1, hL1, eL0⟩
    have s1 : Same H H1 := fun b o eb => k1 b o (fun m => by rw [List.mem_singleton.mp m, hd] at eb; cases eb) eb
    refine ⟨Nat.zero_le _, fun g hg => ?_⟩
    have s2 : Same H1 (upd H1 g (.lst [])) := same_upd hg
    have hG2 : (upd H1 g (.lst [])) g = some (.lst []) := upd_same
    have hg0 : H g = none := s1.free hg
    have ndg : d ≠ g := ne_of_none hD1 hg
    have hP2 := (hP.same s1).same s2
    have k2 : Kp [p, l] H (upd H1 g (.lst [])) := Same.kp (s1.trans s2)
    have hD2 := s2 _ _ hD1
    have hL2 := hL1.same s2
    have gpl : g ∉ [p, l] := (hP.same s1).free hg
    generalize upd H1 g (.lst []) = H2 at s2 hG2 hP2 k2 hD2 hL2
    refine ⟨_, _, _, rfl, ?_⟩
    have kset : ∀ {H' : Hp} {o : HO} {e : Addr}, H e = none → Kp [p, l] H H' → Kp [p, l] H (upd H' e o) := fun {H' o e} he k b x nb eb => by
      rw [upd_ne (ne_of_none eb he)]
      exact k b x nb eb
    refine ⟨_, rfl, _, rfl, by omega, by omega, for_range (lo := 0) (n := wy) (fun i σ H' => ∃ (n : Nat) (L : List (Addr × (Nat × Nat))) (as : List Addr) (ls : List (List Nat)) (v7 v8 : Option V), σ = [some (.ref p), some (vN rg), some (vN wy), some (vN bh), some (vN n), some (.ref d), some (.ref g), v7, v8, none, none, none, none, none, none] ∧ PoolAt H' p l ∧ Kp [p, l] H H' ∧
        H' d = some (.lst (L.map fun r => V.ref r.1)) ∧ TupsAt H' L ∧ H' g = some (.lst (as.map V.ref)) ∧ LotsL H' as ls ∧ (∀ a ∈ as, a ≠ d ∧ a ≠ g ∧ a ∉ [p, l]) ∧ ls.flatten = List.range' (rg + wy) (n - (rg + wy)) ∧ rg + wy ≤ n ∧ n ≤ rg + wy + bh * i ∧ L.length ≤ rg + (bh + 1) * i ∧ as.length = i ∧ Plant rg wy n (L.map (·.2)))
      ?_ ?_ ?_⟩
    · refine ⟨rg + wy, L0, [], [], _, _, rfl, hP2, k2, hD2, hL2, hG2, .nil, (fun _ h => nomatch h), ?_, Nat.le_refl _, Nat.le_add_right _ _, ?_, rfl, ?_⟩
      · rw [Nat.sub_self]
        rfl
      · have := congrArg List.length eL0
        rw [List.length_map, List.length_map, List.length_range] at this
        omega
      · rw [eL0]
        refine ⟨fun q hq => ?_, fun a ha => List.mem_map.mpr ⟨a, List.mem_range.mpr ha, rfl⟩⟩
        obtain ⟨a, ha, rfl⟩ := List.mem_map.mp hq
        exact .inl ⟨List.mem_range.mp ha, rfl⟩
    · rintro i σ H3 hi ⟨n, L, as, ls, v7, v8, rfl, hP3, k3, hD3, hL3, hG3, hLs3, far, eF, n0, n1, eL, eA, plt⟩
      have e0 : (0 : Int) + (i : Nat) = (i : Nat) := by omega
      rw [e0]
      have il : i < wy := hi
      have bi : bh * i ≤ 24 - bh := by
        have : bh * (i + 1) ≤ 8 * 3 := Nat.mul_le_mul bh8 (by omega)
        rw [Nat.mul_succ] at this
        omega
      have bi2 : (bh + 1) * i + (bh + 1) ≤ 27 := by
        have : (bh + 1) * (i + 1) ≤ 9 * 3 := Nat.mul_le_mul (by omega) (by omega)
        rw [Nat.mul_succ] at this
        omega
      refine ⟨_, rfl, .inl ⟨rfl, _, .inl (.inl hD3)⟩, _, rfl, _, rfl, p, l, rg, rfl, hP3, by omega, by omega, fun r H4 hr4 hP4 k4 => ?_⟩
      refine ⟨_, rfl, _, rfl, _, _, rfl, rfl, by show 2 ≤ sizeLine; decide, fun t ht => ?_⟩
      have s5 : Same H4 (upd H4 t (.tup [vN r, V.int ((rg : Int) + (i : Int))])) := same_upd ht
      have hT5 : (upd H4 t (.tup [vN r, V.int ((rg : Int) + (i : Int))])) t = some (.tup [vN r, vN (rg + i)]) := upd_same
      have hD4 := k4 _ _ dpl hD3
      have hG4 := k4 _ _ gpl hG3
      have hL4 : TupsAt H4 L := hL3.keep k4 hP3.lists
      have hLs4 : LotsL H4 as ls := hLs3.imp fun a ha o e => k4 _ _ (far a ha).2.2 e
      have k34 := k3.trans k4
      have hD5 := s5 _ _ hD4
      have hG5 := s5 _ _ hG4
      have hL5 := (hL4.same s5).add (p := (r, rg + i)) hT5
      have hLs5 : LotsL _ as ls := hLs4.imp fun a _ o e => s5 _ _ e
      have hP5 := hP4.same s5
      have k5 := k34.trans (Same.kp s5)
      generalize upd H4 t (.tup [vN r, V.int ((rg : Int) + (i : Int))]) = H5 at s5 hD5 hG5 hL5 hLs5 hP5 k5
      refine ⟨d, _, _, rfl, rfl, hD5, by rw [List.length_map]; exact small1000 (by omega), ?_⟩
      have hD6 : (upd H5 d (.lst ((L.map fun r => V.ref r.1) ++ [V.ref t]))) d = some (.lst ((L ++ [(t, (r, rg + i))]).map fun r => V.ref r.1)) := by
        rw [upd_same, List.map_append]
        rfl
      have hG6 : (upd H5 d (.lst ((L.map fun r => V.ref r.1) ++ [V.ref t]))) g = some (.lst (as.map V.ref)) := by
        rw [upd_ne ndg.symm]
        exact hG5
      have hL6 := hL5.set (o := .lst ((L.map fun r => V.ref r.1) ++ [V.ref t])) hD5
      have hLs6 : LotsL (upd H5 d (.lst ((L.map fun r => V.ref r.1) ++ [V.ref t]))) as ls := hLs5.imp fun a ha o e => by
        rw [upd_ne (far a ha).1]
        exact e
      have hP6 := hP5.set (o := .lst ((L.map fun r => V.ref r.1) ++ [V.ref t])) dpl
      have k6 := kset (o := .lst ((L.map fun r => V.ref r.1) ++ [V.ref t])) hd k5
      generalize upd H5 d (.lst ((L.map fun r => V.ref r.1) ++ [V.ref t])) = H6 at hD6 hG6 hL6 hLs6 hP6 k6
      refine ⟨_, rfl, .inl ⟨rfl, _, .inl (.inl hG6)⟩, Nat.zero_le _, fun z hz => ?_⟩
      have s7 : Same H6 (upd H6 z (.lst [])) := same_upd hz
      have hZ7 : (upd H6 z (.lst [])) z = some (.lst []) := upd_same
      have zd : z ≠ d := (ne_of_none hD6 hz).symm
      have zg : z ≠ g := (ne_of_none hG6 hz).symm
      have zpl : z ∉ [p, l] := hP6.free hz
      have zas : ∀ a ∈ as, a ≠ z := fun a ha => by
        obtain ⟨y, _, hy⟩ := hLs6.has a ha
        exact ne_of_none hy hz
      have hz0 : H z = none := kp_free k6 zpl hz
      have hD7 := s7 _ _ hD6
      have hG7 := s7 _ _ hG6
      have hL7 := hL6.same s7
      have hLs7 : LotsL _ as ls := hLs6.imp fun a _ o e => s7 _ _ e
      have hP7 := hP6.same s7
      have k7 := k6.trans (Same.kp s7)
      generalize upd H6 z (.lst []) = H7 at s7 hZ7 hD7 hG7 hL7 hLs7 hP7 k7
      refine ⟨g, _, _, rfl, rfl, hG7, by rw [List.length_map, eA]; exact small1000 (by omega), ?_⟩
      have hG8 : (upd H7 g (.lst (as.map V.ref ++ [V.ref z]))) g = some (.lst ((as ++ [z]).map V.ref)) := by
        rw [upd_same, List.map_append]
        rfl
      have hD8 : (upd H7 g (.lst (as.map V.ref ++ [V.ref z]))) d = some (.lst ((L ++ [(t, (r, rg + i))]).map fun r => V.ref r.1)) := by
        rw [upd_ne ndg]
        exact hD7
      have hZ8 : (upd H7 g (.lst (as.map V.ref ++ [V.ref z]))) z = some (.lst []) := by
        rw [upd_ne zg]
        exact hZ7
      have hL8 := hL7.set (o := .lst (as.map V.ref ++ [V.ref z])) hG7
      have hLs8 : LotsL (upd H7 g (.lst (as.map V.ref ++ [V.ref z]))) as ls := hLs7.imp fun a ha o e => by
        rw [upd_ne (far a ha).2.1]
        exact e
      have hP8 := hP7.set (o := .lst (as.map V.ref ++ [V.ref z])) gpl
      have k8 := kset (o := .lst (as.map V.ref ++ [V.ref z])) hg0 k7
      generalize upd H7 g (.lst (as.map V.ref ++ [V.ref z])) = H8 at hD8 hG8 hZ8 hL8 hLs8 hP8 k8
      refine ⟨_, rfl, _, rfl, p, l, bh, rfl, hP8, by omega, by omega, fun m H9 hm hP9 k9 => ?_⟩
      have hD9 := k9 _ _ dpl hD8
      have hG9 := k9 _ _ gpl hG8
      have hZ9 := k9 _ _ zpl hZ8
      have hL9 := hL8.keep k9 hP8.lists
      have hLs9 : LotsL H9 as ls := hLs8.imp fun a ha o e => k9 _ _ (far a ha).2.2 e
      have k9' := k8.trans k9
      have mm : ((1 : Int) + (m : Int)).toNat = 1 + m := by omega
      refine ⟨_, _, rfl, rfl, _, rfl, by omega, by omega, for_range (lo := 0) (n := ((1 : Int) + (m : Int)).toNat) (fun j σ H' => ∃ (M : List (Addr × (Nat × Nat))) (v8 : Option V), σ = [some (.ref p), some (vN rg), some (vN wy), some (vN bh), some (vN (n + j)), some (.ref d), some (.ref g), some (vN i), v8, none, none, none, none, none, none] ∧ Kp [d, z] H9 H' ∧
          H' d = some (.lst ((L ++ [(t, (r, rg + i))] ++ M).map fun r => V.ref r.1)) ∧ TupsAt H' (L ++ [(t, (r, rg + i))] ++ M) ∧ H' z = some (.lst ((List.range' n j).map vN)) ∧ M.map (·.2) = (List.range' n j).map fun b => (rg + i, b)) ?_ ?_ ?_⟩
      · exact ⟨[], _, rfl, Kp.refl _ _, by rw [List.append_nil]; exact hD9, by rw [List.append_nil]; exact hL9, hZ9, rfl⟩
      · rintro j σ Ha hj ⟨M, v8', rfl, ka, hDa, hLa, hZa, eM⟩
        rw [mm] at hj
        have lenM : M.length = j := by
          have := congrArg List.length eM
          rwa [List.length_map, List.length_map, List.length_range'] at this
        refine ⟨_, rfl, .inl ⟨rfl, _, .inl (.inl hDa)⟩, _, rfl, _, rfl, _, _, rfl, rfl, _, rfl, by show 2 ≤ sizeLine; decide, fun tt htt => ?_⟩
        have sb : Same Ha (upd Ha tt (.tup [V.int ((rg : Int) + (i : Int)), vN (n + j)])) := same_upd htt
        have hTb : (upd Ha tt (.tup [V.int ((rg : Int) + (i : Int)), vN (n + j)])) tt = some (.tup [vN (rg + i), vN (n + j)]) := upd_same
        have hDb := sb _ _ hDa
        have hLb := (hLa.same sb).add (p := (rg + i, n + j)) hTb
        have hZb := sb _ _ hZa
        have kb := ka.trans (Same.kp sb)
        generalize upd Ha tt (.tup [V.int ((rg : Int) + (i : Int)), vN (n + j)]) = Hb at sb hDb hLb hZb kb
        refine ⟨d, _, _, rfl, rfl, hDb, by rw [List.length_map, List.length_append, List.length_append]; exact small1000 (by show L.length + 1 + M.length ≤ 1000; omega), ?_⟩
        have kc : Kp [d, z] H9 (upd Hb d (.lst (((L ++ [(t, (r, rg + i))] ++ M).map fun r => V.ref r.1) ++ [V.ref tt]))) := fun b o nb eb => by
          rw [upd_ne (fun y => nb (by rw [y]; simp))]
          exact kb b o nb eb
        have hDc : (upd Hb d (.lst (((L ++ [(t, (r, rg + i))] ++ M).map fun r => V.ref r.1) ++ [V.ref tt]))) d = some (.lst ((L ++ [(t, (r, rg + i))] ++ (M ++ [(tt, (rg + i, n + j))])).map fun r => V.ref r.1)) := by
          rw [upd_same, ← List.append_assoc, List.map_append (l₂ := [(tt, (rg + i, n + j))])]
          rfl
        have hLc := hLb.set (o := .lst (((L ++ [(t, (r, rg + i))] ++ M).map fun r => V.ref r.1) ++ [V.ref tt])) hDb
        have hZc : (upd Hb d (.lst (((L ++ [(t, (r, rg + i))] ++ M).map fun r => V.ref r.1) ++ [V.ref tt]))) z = some (.lst ((List.range' n j).map vN)) := by
          rw [upd_ne zd]
          exact hZb
        generalize upd Hb d (.lst (((L ++ [(t, (r, rg + i))] ++ M).map fun r => V.ref r.1) ++ [V.ref tt])) = Hc at kc hDc hLc hZc
        have hGc : Hc g = some (.lst ((as ++ [z]).map V.ref)) := kc _ _ (by simp only [List.mem_cons, List.not_mem_nil, or_false, not_or]; exact ⟨ndg.symm, zg.symm⟩) hG9
        have hlast : ((as ++ [z]).map V.ref)[i]? = some (V.ref z) := by
          rw [List.getElem?_map, ← eA]
          simp
        refine ⟨_, rfl, _, rfl, g, _, _, _, rfl, rfl, .inl (.inl hGc), atI_nat hlast, .inl ⟨rfl, _, .inl (.inl hZc)⟩, _, rfl, z, _, _, rfl, rfl, hZc, by rw [List.length_map, List.length_range']; exact small1000 (by omega), ?_⟩
        refine ⟨_, rfl, _, _, rfl, rfl, M ++ [(tt, (rg + i, n + j))], _, rfl, ?_, ?_, ?_, ?_, ?_⟩
        · intro b o nb eb
          rw [upd_ne (fun y => nb (by rw [y]; simp))]
          exact kc b o nb eb
        · rw [upd_ne zd.symm]
          exact hDc
        · rw [← List.append_assoc]
          exact hLc.set hZc
        · rw [upd_same, List.range'_concat, List.map_append]
          rw [Nat.one_mul]
          rfl
        · rw [List.map_append, eM, List.range'_concat, List.map_append, Nat.one_mul]
          rfl
      · rintro σ Ha ⟨M, v8', rfl, ka, hDa, hLa, hZa, eM⟩
        rw [mm] at hZa eM ⊢
        have lenM : M.length = 1 + m := by
          have := congrArg List.length eM
          rwa [List.length_map, List.length_map, List.length_range'] at this
        have hGa : Ha g = some (.lst ((as ++ [z]).map V.ref)) := ka _ _ (by simp only [List.mem_cons, List.not_mem_nil, or_false, not_or]; exact ⟨ndg.symm, zg.symm⟩) hG9
        have hLsa : LotsL Ha as ls := hLs9.imp fun a ha o e => ka _ _ (by simp only [List.mem_cons, List.not_mem_nil, or_false, not_or]; exact ⟨(far a ha).1, zas a ha⟩) e
        refine ⟨n + (1 + m), L ++ [(t, (r, rg + i))] ++ M, as ++ [z], ls ++ [List.range' n (1 + m)], _, _, rfl, ?_, ?_, hDa, hLa, hGa, paired_app hLsa (.cons hZa .nil), ?_, ?_, by omega, ?_, ?_, by rw [List.length_append, eA]; rfl, ?_⟩
        · exact hP9.keep ka (off2 dpl zpl).1 (off2 dpl zpl).2
        · exact kp_new k9' (fun e he => by
            rcases List.mem_cons.mp he with e1 | e1
            · rw [e1]; exact hd
            · rw [List.mem_singleton.mp e1]; exact hz0) ka
        · intro a ha
          rcases List.mem_append.mp ha with ha | ha
          · exact far a ha
          · rw [List.mem_singleton.mp ha]
            exact ⟨zd, zg, zpl⟩
        · rw [List.flatten_append, eF]
          have e1 : n = rg + wy + (n - (rg + wy)) := by omega
          have e2 : n + (1 + m) - (rg + wy) = (n - (rg + wy)) + (1 + m) := by omega
          have e3 : List.range' (rg + wy) (n - (rg + wy)) ++ List.range' n (1 + m) = List.range' (rg + wy) ((n - (rg + wy)) + (1 + m)) := by
            have := List.range'_append_1 (s := rg + wy) (m := n - (rg + wy)) (n := 1 + m)
            rw [← e1] at this
            exact this
          rw [e2, ← e3]
          exact congrArg (List.range' (rg + wy) (n - (rg + wy)) ++ ·) (List.append_nil _)
        · rw [Nat.mul_succ]
          omega
        · rw [Nat.mul_succ, List.length_append, List.length_append, lenM]
          show L.length + 1 + (1 + m) ≤ _
          omega
        · refine ⟨fun q hq => ?_, fun a ha => ?_⟩
          · rw [List.map_append, List.map_append, eM] at hq
            rcases List.mem_append.mp hq with hq | hq
            · rcases List.mem_append.mp hq with hq | hq
              · rcases plt.kind q hq with h | h | h
                · exact .inl h
                · exact .inr (.inl h)
                · exact .inr (.inr ⟨h.1, h.2.1, h.2.2.1, by omega⟩)
              · rw [List.mem_singleton.mp hq]
                exact .inr (.inl ⟨hr4, by show rg ≤ rg + i; omega, by show rg + i < rg + wy; omega⟩)
            · obtain ⟨b, hb, rfl⟩ := List.mem_map.mp hq
              have := List.mem_range'_1.mp hb
              exact .inr (.inr ⟨by show rg ≤ rg + i; omega, by show rg + i < rg + wy; omega, by show rg + wy ≤ b; omega, by show b < n + (1 + m); omega⟩)
          · rw [List.map_append, List.map_append]
            exact List.mem_append_left _ (List.mem_append_left _ (plt.ring a ha))
    rintro σ H3 ⟨n, L, as, ls, v7, v8, rfl, hP3, k3, hD3, hL3, hG3, hLs3, far, eF, n0, n1, eL, eA, plt⟩
    have b8 : bh * wy ≤ 24 := (Nat.mul_le_mul bh8 wy3 : bh * wy ≤ 8 * 3)
    have b9 : (bh + 1) * wy ≤ 27 := (Nat.mul_le_mul (by omega) wy3 : (bh + 1) * wy ≤ 9 * 3)
    refine ⟨Nat.zero_le _, fun wd0 hwd0 => ?_⟩
    have s4 : Same H3 (upd H3 wd0 (.lst [])) := same_upd hwd0
    have hW4 : (upd H3 wd0 (.lst [])) wd0 = some (.lst []) := upd_same
    have w0pl : wd0 ∉ [p, l] := hP3.free hwd0
    generalize upd H3 wd0 (.lst []) = H4 at s4 hW4
    refine ⟨_, rfl, g, rfl, ⟨_, .inl (.inl (s4 _ _ hG3))⟩, for_list (K := K) (xs := as.map V.ref) (fun j σ H' => ∃ (wd : Addr) (v10 : Option V), σ = [some (.ref p), some (vN rg), some (vN wy), some (vN bh), some (vN n), some (.ref d), some (.ref g), v7, v8, some (.ref wd), v10, none, none, none, none] ∧ Same H3 H' ∧ wd ∉ [p, l] ∧ H' wd = some (.lst (((ls.take j).flatten).map vN))) ?_ (fun j σ H' _ ⟨_, _, _, s, _⟩ => .inl (.inl (s _ _ hG3))) ?_ ?_⟩
    · exact ⟨wd0, _, rfl, s4, w0pl, hW4⟩
    · rintro j x σ H5 hx ⟨wd, v10, rfl, s5, wpl, hW5⟩
      obtain ⟨a, ha, rfl⟩ := get_map hx
      obtain ⟨lt, hlt, hA⟩ := paired_getL hLs3 ha
      refine ⟨_, rfl, _, rfl, wd, a, _, _, rfl, rfl, hW5, s5 _ _ hA, ?_, fun z hz => ?_⟩
      · rw [List.length_map, List.length_map]
        have h1 : ((ls.take j).flatten).length + lt.length ≤ ls.flatten.length := by
          have e1 : (ls.take (j + 1)).flatten = (ls.take j).flatten ++ lt := by
            rw [take_more hlt, List.flatten_append]
            simp
          rw [← List.length_append, ← e1]
          conv => rhs; rw [← List.take_append_drop (j + 1) ls, List.flatten_append, List.length_append]
          exact Nat.le_add_right _ _
        rw [eF, List.length_range'] at h1
        omega
      · have s6 : Same H5 (upd H5 z (.lst (((ls.take j).flatten).map vN ++ lt.map vN))) := same_upd hz
        refine ⟨z, _, rfl, s5.trans s6, ?_, ?_⟩
        · exact (hP3.same s5).free hz
        · rw [upd_same, take_more hlt, List.flatten_append, List.map_append]
          simp
    rintro σ H5 ⟨wd, v10, rfl, s5, wpl, hW5⟩
    rw [List.take_of_length_le (by rw [List.length_map, Paired.length hLs3]; exact Nat.le_refl _), eF] at hW5
    have hP5 := hP3.same s5
    have hL5 := hL3.same s5
    have ePr : (L.map fun r => V.ref r.1) = (L.map (·.1)).map V.ref := by rw [List.map_map]; rfl
    have hD5 := s5 _ _ hD3
    rw [ePr] at hD5
    have len : (L.map (·.2)).length < 64 := by rw [List.length_map]; omega
    have inP : ∀ q ∈ L.map (·.2), q.1 < n ∧ q.2 < n := by
      intro q hq
      rcases plt.kind q hq with h | h | h
      · have := Nat.mod_lt (q.1 + 1) rg0
        omega
      · omega
      · omega
    have inW : ∀ a, a ∈ List.range' (rg + wy) (n - (rg + wy)) ↔ rg + wy ≤ a ∧ a < n := by
      intro a
      rw [List.mem_range'_1]
      omega
    refine ⟨_, rfl, _, rfl, _, rfl, _, rfl, p, l, d, wd, n, L.map (·.1), L.map (·.2), List.range' (rg + wy) (n - (rg + wy)), rfl, hP5, by omega, hD5, dpl, hL5.pairs, len, inP, hW5, wpl, by rw [List.length_range']; omega, fun a ha => ((inW a).mp ha).2, fun q' c na perm C H6 pm hq0 hna hQ hC hN nmd hP6 k6 => ?_⟩
    have npl : na ∉ [p, l] := hP5.free hna
    have hG6 := k6 _ _ gpl (s5 _ _ hG3)
    have hLs6 : LotsL H6 as ls := hLs3.imp fun a ha o e => k6 _ _ (far a ha).2.2 (s5 _ _ e)
    have k06 := (k3.trans (Same.kp s5)).trans k6
    refine ⟨q', _, rfl, .inl (.inl hQ), rfl, _, _, rfl, _, _, rfl, rfl, ?_⟩
    have lnP : perm.length = n := by rw [pm.length_eq, List.length_range]
    refine ⟨_, rfl, g, rfl, ⟨_, .inl (.inl hG6)⟩, fun tl htl => ?_⟩
    have keep6 : ∀ {H' : Hp}, Kp [tl] H6 H' → Same H6 H' := fun {H'} k b o e => k b o (fun m => by rw [List.mem_singleton.mp m, htl] at e; cases e) e
    refine lc_list (K := K) (xs := as.map V.ref) (fun j H' => Kp [tl] H6 H' ∧ ∃ vs : List V, H' tl = some (.lst vs) ∧ vs.length ≤ j)
      ⟨(fun b o x e' => by rw [upd_ne (ne_of_none e' htl)]; exact e'), [], upd_same, Nat.le_refl _⟩ (fun j H' _ ⟨k, _⟩ => .inl (.inl (keep6 k _ _ hG6))) ?_ ?_
    · rintro j x H7 hx ⟨k7, vs, hT7, lv⟩
      obtain ⟨a, ha, rfl⟩ := get_map hx
      obtain ⟨lt, hlt, hA⟩ := paired_getL hLs6 ha
      have jl : j < as.length := (List.getElem?_eq_some_iff.mp ha).1
      have ltm := List.mem_of_getElem? hlt
      have ltl : lt.length ≤ 24 := by
        have := (List.sublist_flatten_of_mem ltm).length_le
        rw [eF, List.length_range'] at this
        omega
      have lin : ∀ b ∈ lt, b < n := fun b hb => by
        have : b ∈ ls.flatten := List.mem_flatten.mpr ⟨lt, ltm, hb⟩
        rw [eF] at this
        exact ((inW b).mp this).2
      have hA7 := keep6 k7 _ _ hA
      have hN7 := keep6 k7 _ _ hN
      refine ⟨rfl, ?_⟩
      refine ⟨_, rfl, a, rfl, ⟨_, .inl (.inl hA7)⟩, fun e he => ?_⟩
      have keep7 : ∀ {H' : Hp}, Kp [e] H7 H' → Same H7 H' := fun {H'} k b o e' => k b o (fun m => by rw [List.mem_singleton.mp m, he] at e'; cases e') e'
      refine lc_list (K := K) (xs := lt.map vN) (fun j H' => Kp [e] H7 H' ∧ H' e = some (.lst (((lt.take j).map (nm perm)).map vN)))
        ⟨(fun b o x e' => by rw [upd_ne (ne_of_none e' he)]; exact e'), upd_same⟩ (fun j H' _ ⟨k, _⟩ => .inl (.inl (keep7 k _ _ hA7))) ?_ ?_
      · rintro j2 y H8 hy ⟨k8, hE8⟩
        obtain ⟨b, hb, rfl⟩ := get_map hy
        refine ⟨rfl, _, rfl, _, rfl, na, _, _, _, rfl, rfl, .inl (.inl (keep7 k8 _ _ hN7)), nm_at pm (lin b (List.mem_of_getElem? hb)), _, hE8, ?_, ?_, ?_⟩
        · rw [List.length_map, List.length_map, List.length_take]
          exact small1000 (by omega)
        · intro b' o nb eb
          rw [upd_ne (fun z => nb (by rw [z]; simp))]
          exact k8 b' o nb eb
        · rw [upd_same, take_more hb, List.map_append, List.map_append]
          rfl
      · rintro H8 ⟨k8, hE8⟩
        refine ⟨e, iN ((lt.take ((lt.map vN).length)).map (nm perm)), rfl, .inl (.inl (by rw [← vN_map]; exact hE8)), fun ns' pq _ _ hpq => ?_⟩
        have s8 : Same H7 (upd H8 pq (.lst (ns'.map V.int))) := (keep7 k8).trans (same_upd hpq)
        refine ⟨vs, s8 _ _ hT7, small1000 (by omega), ?_, vs ++ [.ref pq], upd_same, by rw [List.length_append]; exact Nat.succ_le_succ lv⟩
        intro b o nb eb
        rw [upd_ne (fun z => nb (by rw [z]; simp))]
        exact s8 _ _ (k7 b o nb eb)
    rintro H7 ⟨k7, vs, hT7, lv⟩
    have s7 := keep6 k7
    have hN7 := s7 _ _ hN
    have hP7 := hP6.same s7
    refine ⟨_, rfl, _, rfl, _, rfl, by omega, by omega, fun e he => ?_⟩
    have keep7 : ∀ {H' : Hp}, Kp [e] H7 H' → Same H7 H' := fun {H'} k b o e' => k b o (fun m => by rw [List.mem_singleton.mp m, he] at e'; cases e') e'
    refine lc_range (lo := 0) (n := rg) (fun j H' => Kp [e] H7 H' ∧ H' e = some (.lst (((List.range j).map (nm perm)).map vN)))
      ⟨(fun b o x e' => by rw [upd_ne (ne_of_none e' he)]; exact e'), upd_same⟩ ?_ ?_
    · rintro j H8 hj ⟨k8, hE8⟩
      have e0 : (0 : Int) + (j : Nat) = (j : Nat) := by omega
      refine ⟨rfl, ?_⟩
      rw [e0]
      refine ⟨_, rfl, _, rfl, na, _, _, _, rfl, rfl, .inl (.inl (keep7 k8 _ _ hN7)), nm_at pm (by omega), _, hE8, ?_, ?_, ?_⟩
      · rw [List.length_map, List.length_map, List.length_range]
        exact small1000 (by omega)
      · intro b' o nb eb
        rw [upd_ne (fun z => nb (by rw [z]; simp))]
        exact k8 b' o nb eb
      · rw [upd_same, List.range_succ, List.map_append, List.map_append]
        rfl
    rintro H8 ⟨k8, hE8⟩
    refine ⟨e, iN ((List.range rg).map (nm perm)), rfl, .inl (.inl (by rw [← vN_map]; exact hE8)), fun ns' ri pm' pw hri => ?_⟩
    have ndr : ((List.range rg).map (nm perm)).Nodup := by
      refine List.pairwise_map.mpr ?_
      refine List.Pairwise.imp_of_mem (fun {a b} ha hb h => ?_) (range_up rg)
      intro e1
      have := nm_inj pm (by have := List.mem_range.mp ha; omega) (by have := List.mem_range.mp hb; omega) e1
      omega
    obtain ⟨ring, er, upr, memr⟩ := sorted_iN ndr pm' pw
    have s8 : Same H6 (upd H8 ri (.lst (ns'.map V.int))) := (s7.trans (keep7 k8)).trans (same_upd hri)
    have hRi : (upd H8 ri (.lst (ns'.map V.int))) ri = some (.lst (ring.map vN)) := by
      rw [upd_same, er, vN_map]
      rfl
    have ripl : ri ∉ [p, l] := (hP7.same (keep7 k8)).free hri
    generalize upd H8 ri (.lst (ns'.map V.int)) = H9 at s8 hRi
    have hN9 := s8 _ _ hN
    refine ⟨_, rfl, _, rfl, by omega, by omega, fun wa hwa => ?_⟩
    have keep9 : ∀ {H' : Hp}, Kp [wa] H9 H' → Same H9 H' := fun {H'} k b o e' => k b o (fun m => by rw [List.mem_singleton.mp m, hwa] at e'; cases e') e'
    refine lc_range (lo := 0) (n := wy) (fun j H' => Kp [wa] H9 H' ∧ H' wa = some (.lst (((List.range j).map fun k => nm perm (rg + k)).map vN)))
      ⟨(fun b o x e' => by rw [upd_ne (ne_of_none e' hwa)]; exact e'), upd_same⟩ ?_ ?_
    · rintro j Ha hj ⟨ka, hWa⟩
      have e0 : (0 : Int) + (j : Nat) = (j : Nat) := by omega
      refine ⟨rfl, ?_⟩
      rw [e0]
      refine ⟨_, rfl, _, rfl, _, rfl, _, _, rfl, rfl, na, _, _, _, rfl, rfl, .inl (.inl (keep9 ka _ _ hN9)), nm_at pm (a := rg + j) (by omega), _, hWa, ?_, ?_, ?_⟩
      · rw [List.length_map, List.length_map, List.length_range]
        exact small1000 (by omega)
      · intro b' o nb eb
        rw [upd_ne (fun z => nb (by rw [z]; simp))]
        exact ka b' o nb eb
      · rw [upd_same, List.range_succ, List.map_append, List.map_append]
        rfl
    rintro Ha ⟨ka, hWa⟩
    refine ⟨_, rfl, by show 4 ≤ sizeLine; decide, fun q0 hq00 => ?_⟩
    have sa : Same H6 (upd Ha q0 (.lst [.ref c, .ref ri, .ref wa, .ref tl])) := (s8.trans (keep9 ka)).trans (same_upd hq00)
    refine q q0 c ri wa tl C ring _ _ upd_same (hC.same sa) nmd.ok ?_ ?_ ?_ ?_ ripl ((hP6.same s8).free hwa) ⟨n, L.map (·.2), _, perm, pm, n0, plt, inW, nmd, upr, ?_, rfl⟩ (hP6.same sa) (k06.trans (Same.kp sa))
    · exact ((keep9 ka).trans (same_upd hq00)) _ _ hRi
    · exact (same_upd hq00) _ _ hWa
    · have := congrArg List.length er
      rw [List.length_map, pm'.length_eq, iN_length, List.length_map, List.length_range] at this
      exact this.symm
    · rw [List.length_map, List.length_range]
    · intro x
      rw [memr x, List.mem_map]
      exact ⟨fun ⟨a, h1, h2⟩ => ⟨a, List.mem_range.mp h1, h2.symm⟩, fun ⟨a, h1, h2⟩ => ⟨a, List.mem_range.mpr h1, h2.symm⟩⟩
end
end Ft

set_option Elab.async false
set_option linter.all false
set_option maxRecDepth 100000
set_option maxHeartbeats 8000000
namespace Ft
open PySem PySem.Spec PyProof.Rows L2
open LamX (TabB TabS Tabs ExtN CodeO)
section
variable {P : Program} {w : World} {K : PySem.W.Frag} {mg : Str → Option Value} {base : Heap} {ca : Str → Addr}
/-! ### _law_is_whole -/
def sp_law_is_whole (K : PySem.W.Frag) : Sp := fun vs H Q _ => ∃ (v : V) (d : PyData), vs = [v] ∧ Dp K H v d ∧ Q (.bl (isNum d)) H
/-! ### _law_map_row -/
def sp_law_map_row (K : PySem.W.Frag) : Sp := fun vs H Q _ => ∃ (c tb st : Addr) (C : Chart) (rows : List Addr) (S : List Nat), vs = [.ref c, .ref tb, .ref st] ∧ IsChart K H c C ∧ C.Ok ∧ TabAt H C tb rows ∧ SqT K H st (S.map vN) ∧ (∀ x ∈ S, x < C.n) ∧ S.length ≤ 9 ∧ ∀ q H', Same H H' → SqT K H' q ((rowOf C S).map vN) → Q (.ref q) H'
theorem cal_law_map_row (T : Txt mg) (D : Def K mg "_law_map_row" s_law_map_row) (c_law_map_piece : Cal P w K mg base 2 "_law_map_piece" (sp_law_map_piece K)) : Cal P w K mg base 3 "_law_map_row" (sp_law_map_row K) := by
  refine cal_of D sc_law_map_row (fun _ _ _ _ _ _ us hl => match us, hl with | [_, _, _], _ => rfl) (fun vs H Q E h => ?_) (fun f cdv A outer s H vs Q E hr h => ?_)
  · obtain ⟨c, tb, st, C, rows, S, rfl, _⟩ := h
    rfl
  · obtain ⟨c, tb, st, C, rows, S, rfl, hC, ok, hT, hS, inS, few, q⟩ := h
    have n60 := ok.n60
    refine ⟨_, (pss_one (ps_ret (pe_callTy (show CallR _ _ (rTupleOf K) from call_tupleOf) (by rfl) T.tuple (by decide +kernel) (pa_cons (pe_lc (own := [("a", 3)]) rfl sc_law_map_row.nd (show PI _ _ _ (iTup K _) from pi_tup (pv 2)) (blkOk_by (N := ["chart", "table", "standing", "a"]) (sc := L2.defScope s_law_map_row) (by decide +kernel)) (fun _ _ _ _ _ => (pg_name (i := 3) sc_law_map_row.nd rfl (Or.inl rfl))) (fun _ _ _ _ _ => pts_nil) (fun _ _ _ _ _ => (pe_ix (show IxR _ (rIxT K) from ix_tup) (pe_c c_law_map_piece hr (by decide) (by rfl) (pa_cons (pv 0) (pa_cons (pv 1) (pa_cons (pv 3) pa_nil)))) pe_int (fun _ _ => rfl)))) pa_nil)))), ?_⟩
    refine ⟨_, rfl, st, rfl, ⟨_, hS⟩, fun D hD => ?_⟩
    have keep : ∀ {H' : Hp}, Kp [D] H H' → Same H H' := fun {H'} k b o e' => k b o (fun m => by rw [List.mem_singleton.mp m, hD] at e'; cases e') e'
    refine lc_tup (K := K) (a := st) (xs := S.map vN) (fun i H' => Kp [D] H H' ∧ H' D = some (.lst (((rowOf C S).take i).map vN)))
      ⟨(fun b o x e' => by rw [upd_ne (ne_of_none e' hD)]; exact e'), upd_same⟩ (fun i H' _ ⟨k, _⟩ => Same.sqT (keep k) hS) ?_ ?_
    · rintro i x H3 hx ⟨k3, hD3⟩
      obtain ⟨a, ha, rfl⟩ := get_map hx
      have han := inS a (List.mem_of_getElem? ha)
      have s3 := keep k3
      refine ⟨rfl, ?_⟩
      refine ⟨_, rfl, _, rfl, _, rfl, c, tb, C, rows, a, rfl, hC.same s3, ok, han, hT.same s3, fun t H4 s4 ht => ?_⟩
      refine ⟨t, _, _, _, rfl, rfl, ht, atI_nat (j := 0) (v := vN (leastOf C a)) (by rw [List.getElem?_map, least_get han]; rfl), ?_⟩
      refine ⟨_, s4 _ _ hD3, ?_, ?_, ?_⟩
      · rw [List.length_map, List.length_take, row_len]
        exact small1000 (by omega)
      · intro b o nb eb
        rw [upd_ne (fun z => nb (by rw [z]; simp))]
        exact s4 _ _ (k3 b o nb eb)
      · rw [upd_same, row_take ha, List.map_append]
        rfl
    · rintro H3 ⟨k3, hD3⟩
      rw [List.length_map, List.take_of_length_le (by rw [row_len]; exact Nat.le_refl _)] at hD3
      refine ⟨D, _, rfl, .inl ⟨.inl (.inl hD3), fun tp htp => ?_⟩⟩
      exact q tp _ ((keep k3).trans (same_upd htp)) (.inl (.inl upd_same))
/-! ### _law_stand_wrong -/
def optI' : Option Int → V
  | none => .non
  | some i => .int i
def sp_law_stand_wrong (K : PySem.W.Frag) : Sp := fun vs H Q _ => ∃ (c : Addr) (C : Chart) (v : V) (d : PyData), vs = [.ref c, v] ∧ IsChart K H c C ∧ C.Ok ∧ Dp K H v d ∧ ∀ H', Same H H' → Q (optI' (standErr C.n d)) H'
end
end Ft

set_option Elab.async false
set_option linter.all false
set_option maxRecDepth 100000
set_option maxHeartbeats 8000000
namespace Ft
open PySem PySem.Spec PyProof.Rows L2
open RZ
theorem met_filter {C : Chart} {a : Nat} : ((met C.n C.roads C.wished [a]).filter fun x => !decide (x ∈ C.wished)) = metU C [a] := by
  refine those_is ((those_up _ _).filter _) fun x => ?_
  rw [List.mem_filter]
  unfold met
  rw [those_mem]
  simp only [Bool.not_eq_true', decide_eq_false_iff_not]
  exact ⟨fun h => ⟨h.1.1, h.2, h.1.2⟩, fun h => ⟨⟨h.1, h.2.2⟩, h.2.1⟩⟩
section
variable {P : Program} {w : World} {K : PySem.W.Frag} {mg : Str → Option Value} {base : Heap} {ca : Str → Addr}
/-! ### _law_map_comes -/
def sp_law_map_comes (K : PySem.W.Frag) : Sp := fun vs H Q _ => ∃ (c tb : Addr) (C : Chart) (rows : List Addr) (a : Nat), vs = [.ref c, .ref tb, vN a] ∧ IsChart K H c C ∧ C.Ok ∧ a < C.n ∧ TabAt H C tb rows ∧ ∀ t H', Same H H' → SqT K H' t ((metU C [a]).map vN) → Q (.ref t) H'
theorem cal_law_map_comes (T : Txt mg) (D : Def K mg "_law_map_comes" s_law_map_comes) : Cal P w K mg base 1 "_law_map_comes" (sp_law_map_comes K) := by
  refine cal_of D sc_law_map_comes (fun _ _ _ _ _ _ us hl => match us, hl with | [_, _, _], _ => rfl) (fun vs H Q E h => ?_) (fun f cdv A outer s H vs Q E hr h => ?_)
  · obtain ⟨c, tb, C, rows, a, rfl, _⟩ := h
    rfl
  · obtain ⟨c, tb, C, rows, a, rfl, ⟨r, wd, ts, hC⟩, ok, ha, hT, q⟩ := h
    have n60 := ok.n60
    refine ⟨_, (pss_one (ps_ret (pe_callTy (show CallR _ _ (rTupleOf K) from call_tupleOf) (by rfl) T.tuple (by decide +kernel) (pa_cons (pe_lc (own := [("b", 3)]) rfl sc_law_map_comes.nd (show PI _ _ _ (iList K _) from pi_list (pe_ix (show IxR _ (rIxL K) from ix_list) (pv 1) (pv 2) (fun _ _ => rfl))) (blkOk_by (N := ["chart", "table", "a", "b"]) (sc := L2.defScope s_law_map_comes) (by decide +kernel)) (fun _ _ _ _ _ => (pg_name (i := 3) sc_law_map_comes.nd rfl (Or.inl rfl))) (fun _ _ _ _ _ => pts_one (pt_cmpR (show OpR _ _ (rIn K true) from op_notIn_seq) (pv 3) (pe_ix (show IxR _ (rIxT K) from ix_tup) (pv 0) pe_int (fun _ _ => rfl)) (by rfl))) (fun _ _ _ _ _ => (pv 3))) pa_nil)))), ?_⟩
    obtain ⟨ra, hra⟩ : ∃ t, rows[a]? = some t := ⟨_, List.getElem?_eq_getElem (by rw [hT.len]; exact ha)⟩
    have hM := hT.at_.each a ra hra
    refine ⟨_, rfl, _, rfl, tb, _, _, _, rfl, rfl, .inl (.inl hT.at_.top), atI_nat (v := V.ref ra) (by rw [List.getElem?_map, hra]; rfl), ra, rfl, ⟨_, .inl (.inl hM)⟩, fun d hd => ?_⟩
    have keep : ∀ {H' : Hp}, Kp [d] H H' → Same H H' := fun {H'} k b o e' => k b o (fun m => by rw [List.mem_singleton.mp m, hd] at e'; cases e') e'
    have lm : (met C.n C.roads C.wished [a]).length ≤ C.n := those_len _ _
    refine lc_list (K := K) (xs := (met C.n C.roads C.wished [a]).map vN) (fun i H' => Kp [d] H H' ∧ H' d = some (.lst ((((met C.n C.roads C.wished [a]).take i).filter fun x => !decide (x ∈ C.wished)).map vN)))
      ⟨(fun b o x e' => by rw [upd_ne (ne_of_none e' hd)]; exact e'), upd_same⟩ (fun i H' _ ⟨k, _⟩ => .inl (.inl (keep k _ _ hM))) ?_ ?_
    · rintro i x H2 hx ⟨k2, hD2⟩
      obtain ⟨b, hb, rfl⟩ := get_map hx
      have hC2 := hC.same (keep k2)
      refine ⟨rfl, ?_⟩
      refine ⟨_, rfl, _, rfl, _, _, _, _, rfl, rfl, hC2.top, rfl, wd, _, rfl, .inr hC2.wis, rfl, all_vN C.wished, _, rfl, ?_⟩
      show if (!inV (vN b) (C.wished.map vN)) = true then _ else _
      rw [in_vN, take_more hb, List.filter_append]
      by_cases hw : b ∈ C.wished
      · rw [decide_eq_true hw]
        refine iteF ⟨k2, ?_⟩
        rw [hD2]
        simp [hw]
      · rw [decide_eq_false hw]
        refine iteT ?_
        refine ⟨_, rfl, _, hD2, ?_, ?_, ?_⟩
        · rw [List.length_map]
          have h1 := List.length_filter_le (fun x => !decide (x ∈ C.wished)) ((met C.n C.roads C.wished [a]).take i)
          have h2 : ((met C.n C.roads C.wished [a]).take i).length ≤ (met C.n C.roads C.wished [a]).length := by rw [List.length_take]; omega
          exact small1000 (by omega)
        · intro b' o nb eb
          rw [upd_ne (fun z => nb (by rw [z]; simp))]
          exact k2 b' o nb eb
        · rw [upd_same, List.map_append]
          simp [hw]
    · rintro H2 ⟨k2, hD2⟩
      rw [List.take_of_length_le (by rw [List.length_map]; exact Nat.le_refl _), met_filter] at hD2
      refine ⟨d, _, rfl, .inl ⟨.inl (.inl hD2), fun t ht => ?_⟩⟩
      exact q t _ ((keep k2).trans (same_upd ht)) (.inl (.inl upd_same))
/-! ### _law_map_is_later -/
def sp_law_map_is_later (K : PySem.W.Frag) : Sp := fun vs H Q _ => ∃ (c tb t1 t2 : Addr) (C : Chart) (rows : List Addr) (S U : List Nat), vs = [.ref c, .ref tb, .ref t1, .ref t2] ∧ IsChart K H c C ∧ C.Ok ∧ TabAt H C tb rows ∧ SqT K H t1 (S.map vN) ∧ SqT K H t2 (U.map vN) ∧ (∀ x ∈ S, x < C.n) ∧ ∀ H', Same H H' → Q (.bl (laterB C S U)) H'
theorem cal_law_map_is_later (T : Txt mg) (D : Def K mg "_law_map_is_later" s_law_map_is_later) (c_law_map_piece : Cal P w K mg base 2 "_law_map_piece" (sp_law_map_piece K)) (c_law_map_comes : Cal P w K mg base 1 "_law_map_comes" (sp_law_map_comes K)) : Cal P w K mg base 3 "_law_map_is_later" (sp_law_map_is_later K) := by
  refine cal_of D sc_law_map_is_later (fun _ _ _ _ _ _ us hl => match us, hl with | [_, _, _, _], _ => rfl) (fun vs H Q E h => ?_) (fun f cdv A outer s H vs Q E hr h => ?_)
  · obtain ⟨c, tb, t1, t2, C, rows, S, U, rfl, _⟩ := h
    rfl
  · obtain ⟨c, tb, t1, t2, C, rows, S, U, rfl, hC, ok, hT, hS, hU, inS, q⟩ := h
    refine ⟨_, (pss_cons (ps_if (pt_cmpR op_ne (pe_callB (show CallR _ _ (rLenS K) from call_lenS) (by rfl) T.len (by decide +kernel) (pa_cons (pv 2) pa_nil)) (pe_callB (show CallR _ _ (rLenS K) from call_lenS) (by rfl) T.len (by decide +kernel) (pa_cons (pv 3) pa_nil)) (nomark _)) (pss_one (ps_ret pe_bl)) pss_nil)
      (pss_cons (ps_for PassesOwn.never rfl (show PI _ _ _ (iEnumT K _) from pi_enumT (by rfl) T.enumerate (pa_cons (pv 2) pa_nil)) (show PG _ _ (gTup K 2 _) from pg_tup (by rfl) (pgs_cons (pg_name (i := 4) sc_law_map_is_later.nd rfl (Or.inl rfl)) (pgs_cons (pg_name (i := 5) sc_law_map_is_later.nd rfl (Or.inl rfl)) pgs_nil))) (pss_one (ps_if (PW.pt (pw_and (pt_cmpR (show OpR _ _ (rIn K true) from op_notIn_seq) (pe_ix (show IxR _ (rIxT K) from ix_tup) (pv 3) (pv 4) (fun _ _ => rfl)) (pe_c c_law_map_piece hr (by decide) (by rfl) (pa_cons (pv 0) (pa_cons (pv 1) (pa_cons (pv 5) pa_nil)))) (by rfl)) (pw_and1 (pt_cmpR (show OpR _ _ (rIn K true) from op_notIn_seq) (pe_ix (show IxR _ (rIxT K) from ix_tup) (pv 3) (pv 4) (fun _ _ => rfl)) (pe_c c_law_map_comes hr (by decide) (by rfl) (pa_cons (pv 0) (pa_cons (pv 1) (pa_cons (pv 5) pa_nil)))) (by rfl))))) (pss_one (ps_ret pe_bl)) pss_nil)))
      (pss_one (ps_ret pe_bl)))), ?_⟩
    refine ⟨_, rfl, t1, _, rfl, .inr hS, _, rfl, t2, _, rfl, .inr hU, rfl, _, rfl, ?_⟩
    rw [List.length_map, List.length_map]
    by_cases el : S.length = U.length
    · refine ite_any (fun h => absurd h (by rw [el]; simp)) (fun _ => ?_)
      refine ⟨_, rfl, t1, _, rfl, hS, for_it walk_enumT (fun i σ H' => ∃ (v4 v5 : Option V), σ = [some (.ref c), some (.ref tb), some (.ref t1), some (.ref t2), v4, v5] ∧ Same H H' ∧ ∀ (j a b : Nat), j < i → S[j]? = some a → U[j]? = some b → b ∈ laterL C a) ⟨_, _, rfl, (fun _ _ h => h), fun j a b h => by omega⟩ (fun i σ H' _ ⟨_, _, _, s2, _⟩ => Same.sqT s2 hS) ?_ ?_⟩
      · rintro i x σ H2 H3 hi ⟨v4, v5, rfl, s2, so⟩ ⟨tt, x0, y, rfl, nt, rfl, e1, e2⟩
        obtain ⟨a, ha, rfl⟩ := get_map e2
        cases e1
        have iU : i < U.length := by
          have := (List.getElem?_eq_some_iff.mp ha).1
          omega
        obtain ⟨b, hb⟩ : ∃ b, U[i]? = some b := ⟨_, List.getElem?_eq_getElem iU⟩
        have han := inS a (List.mem_of_getElem? ha)
        have s3 : Same H (upd H2 tt (.tup [.int (i : Nat), vN a])) := s2.trans (same_upd nt)
        refine ⟨tt, _, rfl, .inl (.inl upd_same), rfl, _, _, rfl, _, _, rfl, rfl, ?_⟩
        generalize upd H2 tt (.tup [.int (i : Nat), vN a]) = H4 at s3
        have hU4 := Same.sqT s3 hU
        refine ⟨_, rfl, _, rfl, t2, _, _, _, rfl, rfl, hU4, atI_nat (v := vN b) (by rw [List.getElem?_map, hb]; rfl), ?_⟩
        refine ⟨_, rfl, _, rfl, _, rfl, c, tb, C, rows, a, rfl, hC.same s3, ok, han, hT.same s3, fun tp H5 s5 hP5 => ?_⟩
        refine ⟨tp, _, rfl, .inr hP5, rfl, all_vN _, _, rfl, ?_⟩
        show if (!inV (vN b) ((pieceOf C a).map vN)) = true then _ else _
        rw [in_vN]
        have s35 := s3.trans s5
        have go : ∀ {H' : Hp}, Same H H' → b ∈ laterL C a → ∃ (v4 v5 : Option V), [some (V.ref c), some (.ref tb), some (.ref t1), some (.ref t2), some (V.int (i : Nat)), some (vN a)] = [some (.ref c), some (.ref tb), some (.ref t1), some (.ref t2), v4, v5] ∧ Same H H' ∧ ∀ (j a b : Nat), j < i + 1 → S[j]? = some a → U[j]? = some b → b ∈ laterL C a := fun s' hb' =>
          ⟨_, _, rfl, s', fun j a' b' hj ea eb => by
            by_cases ej : j = i
            · subst ej
              rw [ha] at ea
              rw [hb] at eb
              cases ea
              cases eb
              exact hb'
            · exact so j a' b' (by omega) ea eb⟩
        by_cases m1 : b ∈ pieceOf C a
        · rw [decide_eq_true m1]
          refine iteF (iteF ?_)
          exact go s35 (List.mem_append_left _ m1)
        · rw [decide_eq_false m1]
          refine iteT ?_
          refine ⟨_, rfl, _, rfl, t2, _, _, _, rfl, rfl, Same.sqT s5 hU4, atI_nat (v := vN b) (by rw [List.getElem?_map, hb]; rfl), ?_⟩
          refine ⟨_, rfl, _, rfl, _, rfl, c, tb, C, rows, a, rfl, hC.same s35, ok, han, hT.same s35, fun tq H6 s6 hP6 => ?_⟩
          refine ⟨tq, _, rfl, .inr hP6, rfl, all_vN _, _, rfl, ?_⟩
          show if (!inV (vN b) ((metU C [a]).map vN)) = true then _ else _
          rw [in_vN]
          have s36 := s35.trans s6
          by_cases m2 : b ∈ metU C [a]
          · rw [decide_eq_true m2]
            refine iteF ?_
            exact go s36 (List.mem_append_right _ m2)
          · rw [decide_eq_false m2]
            refine iteT ?_
            have z := q _ s36
            rw [laterB_f fun h => (List.mem_append.mp (h.2 i a b ha hb)).elim m1 m2] at z
            exact z
      · rintro σ H2 ⟨v4, v5, rfl, s2, so⟩
        have z := q _ s2
        rw [laterB_t ⟨el, fun i a b h1 h2 => so i a b (by rw [List.length_map]; exact (List.getElem?_eq_some_iff.mp h1).1) h1 h2⟩] at z
        exact z
    · refine ite_any (fun _ => ?_) (fun h => absurd h (by rw [decide_eq_false (fun z => el (by have := V.int.inj z; omega))]; decide))
      have z := q _ (fun _ _ h => h)
      rw [laterB_f fun h => el h.1] at z
      exact z
/-! ### _law_map_size -/
def sp_law_map_size (K : PySem.W.Frag) : Sp := fun vs H Q _ => ∃ (c tb : Addr) (C : Chart) (rows : List Addr) (m : Nat), vs = [.ref c, .ref tb, vN m] ∧ IsChart K H c C ∧ C.Ok ∧ TabAt H C tb rows ∧ m ≤ 3 ∧ ∀ H', Same H H' → Q (vN (singleOf C ^ m)) H'
theorem cal_law_map_size (T : Txt mg) (D : Def K mg "_law_map_size" s_law_map_size) (c_law_map_pieces : Cal P w K mg base 3 "_law_map_pieces" (sp_law_map_pieces K)) : Cal P w K mg base 4 "_law_map_size" (sp_law_map_size K) := by
  refine cal_of D sc_law_map_size (fun _ _ _ _ _ _ us hl => match us, hl with | [_, _, _], _ => rfl) (fun vs H Q E h => ?_) (fun f cdv A outer s H vs Q E hr h => ?_)
  · obtain ⟨c, tb, C, rows, m, rfl, _⟩ := h
    rfl
  · obtain ⟨c, tb, C, rows, m, rfl, hC, ok, hT, m3, q⟩ := h
    have s120 := single_le ok
    refine ⟨_, (pss_cons (ps_set (i := 3) sc_law_map_size.nd rfl (Or.inl rfl) pe_int)
      (pss_cons (ps_for PassesOwn.never rfl (pi_range1 (by rfl) T.range (pa_cons (pv 2) pa_nil)) (pg_name (i := 4) sc_law_map_size.nd rfl (Or.inl rfl)) (pss_one (ps_set (i := 3) sc_law_map_size.nd rfl (Or.inl rfl) (pe_op op_mul (pv 3) (pe_op op_add (pe_callB (show CallR _ _ (rLenS K) from call_lenS) (by rfl) T.len (by decide +kernel) (pa_cons (pe_c c_law_map_pieces hr (by decide) (by rfl) (pa_cons (pv 0) (pa_cons (pv 1) pa_nil))) pa_nil)) (pe_callB (show CallR _ _ (rLenS K) from call_lenS) (by rfl) T.len (by decide +kernel) (pa_cons (pe_ix (show IxR _ (rIxT K) from ix_tup) (pv 0) pe_int (fun _ _ => rfl)) pa_nil)))))))
      (pss_one (ps_ret (pv 3))))), ?_⟩
    have pw : ∀ i, i ≤ m → singleOf C ^ i ≤ 1728000 := fun i hi => by
      calc singleOf C ^ i ≤ 120 ^ i := Nat.pow_le_pow_left s120 i
        _ ≤ 120 ^ 3 := Nat.pow_le_pow_right (by omega) (by omega)
        _ ≤ 1728000 := by decide
    refine ⟨_, rfl, _, rfl, by omega, by omega, for_range (lo := 0) (n := m) (fun i σ H' => ∃ v4 : Option V, σ = [some (.ref c), some (.ref tb), some (vN m), some (vN (singleOf C ^ i)), v4] ∧ Same H H') ⟨_, rfl, fun _ _ h => h⟩ ?_ ?_⟩
    · rintro i σ H2 hi ⟨v4, rfl, s2⟩
      have hp := pw i (by omega)
      refine ⟨_, rfl, _, rfl, _, rfl, c, tb, C, rows, rfl, hC.same s2, ok, hT.same s2, fun p ts H3 s3 hQ hR => ?_⟩
      have s23 := s2.trans s3
      obtain ⟨r, wd, cs, hC3⟩ := hC.same s23
      have lr : ts.length = (piecesL C).length := hR.length
      refine ⟨p, _, rfl, .inr hQ, _, rfl, _, _, _, _, rfl, rfl, hC3.top, rfl, wd, _, rfl, .inr hC3.wis, _, _, rfl, rfl, ?_⟩
      have es : ((((ts.map V.ref).length : Nat) : Int) + (((C.wished.map vN).length : Nat) : Int)) = ((singleOf C : Nat) : Int) := by
        unfold singleOf
        rw [List.length_map, List.length_map, lr]
        omega
      dsimp only
      rw [es]
      refine ⟨_, _, rfl, rfl, .inl ⟨by omega, by omega⟩, ?_⟩
      have e : V.int (((singleOf C ^ i : Nat) : Int) * ((singleOf C : Nat) : Int)) = vN (singleOf C ^ (i + 1)) := by
        show V.int _ = V.int _
        rw [Nat.pow_succ, Int.natCast_mul]
      refine ⟨some (V.int (0 + (i : Nat))), ?_, s23⟩
      rw [← e]
      rfl
    · rintro σ H2 ⟨v4, rfl, s2⟩
      exact ⟨_, rfl, q _ s2⟩
end
end Ft

set_option Elab.async false
set_option linter.all false
set_option maxRecDepth 100000
set_option maxHeartbeats 8000000
namespace Ft
open PySem PySem.Spec PyProof.Rows L2
open RZ
theorem TabAt.kp {H H' : Hp} {ex : List Addr} (k : Kp ex H H') {C : Chart} {q : Addr} {rows : List Addr} (h : TabAt H C q rows) (h1 : q ∉ ex) (h2 : ∀ r ∈ rows, r ∉ ex) : TabAt H' C q rows :=
  ⟨h.len, k _ _ h1 h.at_.top, fun a z e => k _ _ (h2 z (List.mem_of_getElem? e)) (h.at_.each a z e)⟩
section
variable {P : Program} {w : World} {K : PySem.W.Frag} {mg : Str → Option Value} {base : Heap} {ca : Str → Addr}
/-! ### _law_map_later -/
def sp_law_map_later (K : PySem.W.Frag) : Sp := fun vs H Q _ => ∃ (c tb t : Addr) (C : Chart) (rows : List Addr) (S : List Nat), vs = [.ref c, .ref tb, .ref t] ∧ IsChart K H c C ∧ C.Ok ∧ TabAt H C tb rows ∧ SqT K H t (S.map vN) ∧ (∀ x ∈ S, x < C.n) ∧ S.length ≤ 3 ∧ ∀ g ts H', Same H H' → H' g = some (.lst (ts.map V.ref)) → RowsAt K H' ts (laterRows C S) → Q (.ref g) H'
theorem cal_law_map_later (T : Txt mg) (D : Def K mg "_law_map_later" s_law_map_later) (c_law_map_piece : Cal P w K mg base 2 "_law_map_piece" (sp_law_map_piece K)) (c_law_map_comes : Cal P w K mg base 1 "_law_map_comes" (sp_law_map_comes K)) : Cal P w K mg base 3 "_law_map_later" (sp_law_map_later K) := by
  refine cal_of D sc_law_map_later (fun _ _ _ _ _ _ us hl => match us, hl with | [_, _, _], _ => rfl) (fun vs H Q E h => ?_) (fun f cdv A outer s H vs Q E hr h => ?_)
  · obtain ⟨c, tb, t, C, rows, S, rfl, _⟩ := h
    rfl
  · obtain ⟨c, tb, t, C, rows, S, rfl, hC, ok, hT, hS, inS, l3, q⟩ := h
    have n60 := ok.n60
    refine ⟨_, (pss_cons (ps_set (i := 3) sc_law_map_later.nd rfl (Or.inl rfl) (pe_lst (pa_cons (pe_tup pa_nil) pa_nil)))
      (pss_cons (ps_for PassesOwn.never rfl (show PI _ _ _ (iTup K _) from pi_tup (pv 2)) (pg_name (i := 4) sc_law_map_later.nd rfl (Or.inl rfl)) (pss_cons (ps_set (i := 5) sc_law_map_later.nd rfl (Or.inl rfl) (pe_op (show OpR _ _ (rCatA K) from op_catA) (pe_c c_law_map_piece hr (by decide) (by rfl) (pa_cons (pv 0) (pa_cons (pv 1) (pa_cons (pv 4) pa_nil)))) (pe_c c_law_map_comes hr (by decide) (by rfl) (pa_cons (pv 0) (pa_cons (pv 1) (pa_cons (pv 4) pa_nil))))))
        (pss_cons (ps_set (i := 5) sc_law_map_later.nd rfl (Or.inl rfl) (pe_callB (show CallR _ _ (rSortedSet w) from cr_sortedSet rfl) (by rfl) T.sorted (by decide +kernel) (pa_cons (pe_callTy (show CallR _ _ (rSetN K w) from cr_setN rfl) (by rfl) T.set (by decide +kernel) (pa_cons (pe_lc (own := [("b", 8)]) rfl sc_law_map_later.nd (show PI _ _ _ (iTup K _) from pi_tup (pv 5)) (blkOk_by (N := ["chart", "table", "standing", "found", "a", "spots", "longer", "row", "b"]) (sc := L2.defScope s_law_map_later) (by decide +kernel)) (fun _ _ _ _ _ => (pg_name (i := 8) sc_law_map_later.nd rfl (Or.inl rfl))) (fun _ _ _ _ _ => pts_nil) (fun _ _ _ _ _ => (pe_ix (show IxR _ (rIxT K) from ix_tup) (pe_c c_law_map_piece hr (by decide) (by rfl) (pa_cons (pv 0) (pa_cons (pv 1) (pa_cons (pv 8) pa_nil)))) pe_int (fun _ _ => rfl)))) pa_nil)) pa_nil)))
        (pss_cons (ps_set (i := 6) sc_law_map_later.nd rfl (Or.inl rfl) (pe_lst pa_nil))
        (pss_cons (ps_for PassesOwn.never rfl (show PI _ _ _ (iList K _) from pi_list (pv 3)) (pg_name (i := 7) sc_law_map_later.nd rfl (Or.inr rfl)) (pss_one (ps_set (i := 6) sc_law_map_later.nd rfl (Or.inl rfl) (pe_op op_cat (pv 6) (pe_lc (own := [("b", 8)]) rfl sc_law_map_later.nd (show PI _ _ _ (iList K _) from pi_list (pv 5)) (blkOk_by (N := ["chart", "table", "standing", "found", "a", "spots", "longer", "row", "b"]) (sc := L2.defScope s_law_map_later) (by decide +kernel)) (fun _ _ _ _ _ => (pg_name (i := 8) sc_law_map_later.nd rfl (Or.inl rfl))) (fun _ _ _ _ _ => pts_nil) (fun _ _ _ _ _ => (pe_op (show OpR _ _ (rCatA K) from op_catA) (pv 7) (pe_tup (pa_cons (pv 8) pa_nil)))))))))
        (pss_one (ps_set (i := 3) sc_law_map_later.nd rfl (Or.inl rfl) (pv 6))))))))
      (pss_one (ps_ret (pv 3))))), ?_⟩
    refine ⟨Nat.zero_le _, fun u hu => ?_⟩
    have s4 : Same H (upd H u (.tup [])) := same_upd hu
    have hU4 : SqT K (upd H u (.tup [])) u (([] : List Nat).map vN) := .inl (.inl upd_same)
    generalize upd H u (.tup []) = H4 at s4 hU4
    refine ⟨by show 1 ≤ sizeLine; decide, fun g hg => ?_⟩
    have s5 : Same H4 (upd H4 g (.lst [.ref u])) := same_upd hg
    have hG5 : (upd H4 g (.lst [.ref u])) g = some (.lst (([u] : List Addr).map V.ref)) := upd_same
    have hR5 : RowsAt K (upd H4 g (.lst [.ref u])) [u] [[]] := .cons (Same.sqT s5 hU4) .nil
    generalize upd H4 g (.lst [.ref u]) = H5 at s5 hG5 hR5
    have s05 := s4.trans s5
    have hC5 := hC.same s05
    have hT5 := hT.same s05
    have hS5 := Same.sqT s05 hS
    refine ⟨_, rfl, t, rfl, ⟨_, hS5⟩, for_tup (K := K) (a := t) (xs := S.map vN) (fun i σ H' => ∃ (g : Addr) (ts : List Addr) (v4 v5 v6 v7 : Option V), σ = [some (.ref c), some (.ref tb), some (.ref t), some (.ref g), v4, v5, v6, v7, none] ∧ Same H5 H' ∧ H' g = some (.lst (ts.map V.ref)) ∧ RowsAt K H' ts (laterRows C (S.take i)))
      ⟨g, [u], _, _, _, _, rfl, (fun _ _ h => h), hG5, hR5⟩ (fun i σ H' _ ⟨_, _, _, _, _, _, _, s6, _⟩ => Same.sqT s6 hS5) ?_ ?_⟩
    · rintro i x σ H6 hx ⟨g6, ts6, v4, v5, v6, v7, rfl, s6, hG6, hR6⟩
      obtain ⟨a, ha, rfl⟩ := get_map hx
      have iS : i < S.length := (List.getElem?_eq_some_iff.mp ha).1
      have han := inS a (List.mem_of_getElem? ha)
      have hC6 := hC5.same s6
      have hT6 := hT5.same s6
      have ll := later_len ok han
      refine ⟨_, rfl, _, rfl, _, rfl, c, tb, C, rows, a, rfl, hC6, ok, han, hT6, fun tp H7 s7 hp7 => ?_⟩
      refine ⟨_, rfl, _, rfl, _, rfl, c, tb, C, rows, a, rfl, hC6.same s7, ok, han, hT6.same s7, fun tq H8 s8 hq8 => ?_⟩
      refine catA_of (Same.sqT s8 hp7) hq8 (by unfold laterL at ll; rw [List.length_append] at ll; rw [List.length_map, List.length_map]; omega) fun sp H9 s9 hSp => ?_
      rw [← List.map_append] at hSp
      have s79 := (s7.trans s8).trans s9
      have hC9 := hC6.same s79
      have hT9 := hT6.same s79
      have hSp : SqT K H9 sp ((laterL C a).map vN) := hSp
      refine ⟨_, rfl, sp, rfl, ⟨_, hSp⟩, fun D hD => ?_⟩
      have keep : ∀ {H' : Hp}, Kp [D] H9 H' → Same H9 H' := fun {H'} k b o e' => k b o (fun m => by rw [List.mem_singleton.mp m, hD] at e'; cases e') e'
      refine lc_tup (K := K) (a := sp) (xs := (laterL C a).map vN) (fun i H' => Kp [D] H9 H' ∧ H' D = some (.lst ((((laterL C a).take i).map (leastOf C)).map vN)))
        ⟨(fun b o x e' => by rw [upd_ne (ne_of_none e' hD)]; exact e'), upd_same⟩ (fun i H' _ ⟨k, _⟩ => Same.sqT (keep k) hSp) ?_ ?_
      · rintro j y H10 hy ⟨k10, hD10⟩
        obtain ⟨b, hb, rfl⟩ := get_map hy
        have hbn := later_lt han (List.mem_of_getElem? hb)
        have s10 := keep k10
        refine ⟨rfl, ?_⟩
        refine ⟨_, rfl, _, rfl, _, rfl, c, tb, C, rows, b, rfl, hC9.same s10, ok, hbn, hT9.same s10, fun tr H11 s11 hp11 => ?_⟩
        refine ⟨tr, _, _, _, rfl, rfl, hp11, atI_nat (j := 0) (v := vN (leastOf C b)) (by rw [List.getElem?_map, least_get hbn]; rfl), ?_⟩
        refine ⟨_, s11 _ _ hD10, ?_, ?_, ?_⟩
        · rw [List.length_map, List.length_map, List.length_take]
          exact small1000 (by omega)
        · intro b' o nb eb
          rw [upd_ne (fun z => nb (by rw [z]; simp))]
          exact s11 _ _ (k10 b' o nb eb)
        · rw [upd_same, take_more hb, List.map_append, List.map_append]
          rfl
      rintro H10 ⟨k10, hD10⟩
      rw [List.take_of_length_le (by rw [List.length_map]; exact Nat.le_refl _)] at hD10
      have s10 := keep k10
      refine ⟨D, iN ((laterL C a).map (leastOf C)), rfl, .inl (.inl (.inl (by rw [← vN_map]; exact hD10))), by rw [iN_length, List.length_map]; omega, fun sa n2 hsa hn2 => ?_⟩
      have few : n2 < 64 := by
        have := hn2 (iN (List.range C.n)) fun k hk => by
          unfold iN at hk
          obtain ⟨b, hb, rfl⟩ := List.mem_map.mp hk
          obtain ⟨y, hy, rfl⟩ := List.mem_map.mp hb
          exact iN_mem.mpr (List.mem_range.mpr (least_lt (later_lt han hy)))
        rw [iN_length, List.length_range] at this
        omega
      refine ⟨sa, _, n2, rfl, upd_same, few, fun gs fu up mem _ hfu => ?_⟩
      obtain ⟨wl, rfl, upw, memw⟩ := set_nat up mem
      have ew : wl = firstsOf C a := those_is upw fun x => by
        rw [memw x, List.mem_map]
        exact ⟨fun ⟨y, h1, h2⟩ => ⟨by rw [← h2]; exact least_lt (later_lt han h1), y, h1, h2⟩, fun ⟨_, h⟩ => h⟩
      subst ew
      have s11 : Same H10 (upd (upd H10 sa (SetO w sa (fun j => decide (j ∈ iN ((laterL C a).map (leastOf C)))) n2)) fu (.lst ((iN (firstsOf C a)).map V.int))) := (same_upd hsa).trans (same_upd hfu)
      have hF11 : (upd (upd H10 sa (SetO w sa (fun j => decide (j ∈ iN ((laterL C a).map (leastOf C)))) n2)) fu (.lst ((iN (firstsOf C a)).map V.int))) fu = some (.lst ((firstsOf C a).map vN)) := by rw [upd_same, ← vN_map]
      generalize upd (upd H10 sa (SetO w sa (fun j => decide (j ∈ iN ((laterL C a).map (leastOf C)))) n2)) fu (.lst ((iN (firstsOf C a)).map V.int)) = H11 at s11 hF11
      have s611 := (s79.trans s10).trans s11
      have hG11 := s611 _ _ hG6
      have hR11 : RowsAt K H11 ts6 (laterRows C (S.take i)) := hR6.same s611
      clear mem memw up hn2
      have len3 : (S.take i).length ≤ 3 := by rw [List.length_take]; omega
      have few' := laterRows_few ok len3
      have lf : (firstsOf C a).length ≤ C.n := firsts_len
      have each := laterRows_each (C := C) (S := S.take i)
      refine ⟨Nat.zero_le _, fun l0 hl0 => ?_⟩
      have s12 : Same H11 (upd H11 l0 (.lst [])) := same_upd hl0
      have hL12 : (upd H11 l0 (.lst [])) l0 = some (.lst (([] : List Addr).map V.ref)) := upd_same
      generalize upd H11 l0 (.lst []) = H12 at s12 hL12
      have hG12 := s12 _ _ hG11
      have hF12 := s12 _ _ hF11
      have hR12 := hR11.same s12
      have ln : ts6.length = (laterRows C (S.take i)).length := hR11.length
      refine ⟨_, rfl, g6, rfl, ⟨_, .inl (.inl hG12)⟩, for_list (K := K) (a := g6) (xs := ts6.map V.ref) (fun j σ H' => ∃ (lg : Addr) (ts2 : List Addr) (v7 : Option V), σ = [some (.ref c), some (.ref tb), some (.ref t), some (.ref g6), some (vN a), some (.ref fu), some (.ref lg), v7, none] ∧ Same H12 H' ∧ H' lg = some (.lst (ts2.map V.ref)) ∧ RowsAt K H' ts2 (grow ((laterRows C (S.take i)).take j) (firstsOf C a)))
        ⟨l0, [], _, rfl, (fun _ _ h => h), hL12, .nil⟩ (fun j σ H' _ ⟨_, _, _, _, s, _⟩ => .inl (.inl (s _ _ hG12))) ?_ ?_⟩
      · rintro j y σ H13 hy ⟨lg, ts2, v7, rfl, s13, hL13, hR13⟩
        obtain ⟨tr, htr, rfl⟩ := get_map hy
        obtain ⟨r, hr12, hrow12⟩ := paired_getL hR12 htr
        have hF13 := s13 _ _ hF12
        have hrow13 := Same.sqT s13 hrow12
        have lr := each r (List.mem_of_getElem? hr12)
        have l1 : (grow ((laterRows C (S.take i)).take j) (firstsOf C a)).length ≤ 216000 * 60 := by
          rw [grow_len, List.length_take]
          exact Nat.mul_le_mul (by omega) (by omega)
        have l2 : ts2.length = (grow ((laterRows C (S.take i)).take j) (firstsOf C a)).length := hR13.length
        refine ⟨_, rfl, _, rfl, fu, rfl, ⟨_, .inl (.inl hF13)⟩, fun D2 hD2 => ?_⟩
        have keep13 : ∀ {H' : Hp}, Kp [D2] H13 H' → Same H13 H' := fun {H'} k b o e' => k b o (fun m => by rw [List.mem_singleton.mp m, hD2] at e'; cases e') e'
        refine lc_list (K := K) (xs := (firstsOf C a).map vN) (fun k H' => ∃ ts3 : List Addr, Kp [D2] H13 H' ∧ H' D2 = some (.lst (ts3.map V.ref)) ∧ RowsAt K H' ts3 (((firstsOf C a).take k).map fun f => r ++ [f]))
          ⟨[], (fun b o x e' => by rw [upd_ne (ne_of_none e' hD2)]; exact e'), upd_same, .nil⟩ (fun k H' _ ⟨_, kk, _⟩ => .inl (.inl (keep13 kk _ _ hF13))) ?_ ?_
        · rintro k z H14 hz ⟨ts3, k14, hD14, hR14⟩
          obtain ⟨fv, hfv, rfl⟩ := get_map hz
          have s14 := keep13 k14
          have kl : k < (firstsOf C a).length := (List.getElem?_eq_some_iff.mp hfv).1
          refine ⟨rfl, ?_⟩
          refine ⟨_, rfl, _, rfl, (by show 1 ≤ sizeLine; decide), fun o ho => ?_⟩
          have s15 : Same H14 (upd H14 o (.tup [vN fv])) := same_upd ho
          have hO : SqT K (upd H14 o (.tup [vN fv])) o ([fv].map vN) := .inl (.inl upd_same)
          generalize upd H14 o (.tup [vN fv]) = H15 at s15 hO
          refine catA_of (Same.sqT s15 (Same.sqT s14 hrow13)) hO (by rw [List.length_map, lr]; show (S.take i).length + 1 ≤ 1000; omega) fun np H16 s16 hN => ?_
          rw [← List.map_append] at hN
          have s1416 := s15.trans s16
          have hD16 := s1416 _ _ hD14
          have l3' : ts3.length = (((firstsOf C a).take k).map fun f => r ++ [f]).length := hR14.length
          rw [List.length_map, List.length_take] at l3'
          refine ⟨_, hD16, by rw [List.length_map]; exact small1000 (by omega), ts3 ++ [np], ?_, by rw [upd_same, List.map_append]; rfl, ?_⟩
          · intro b o' nb eb
            rw [upd_ne (fun z => nb (by rw [z]; simp))]
            exact s1416 _ _ (k14 b o' nb eb)
          · rw [take_more hfv, List.map_append]
            exact paired_app (rowsAt_upd hD16 (hR14.same s1416)) (.cons (sqT_upd hD16 hN) .nil)
        · rintro H14 ⟨ts3, k14, hD14, hR14⟩
          have e9 : (firstsOf C a).take ((firstsOf C a).map vN).length = firstsOf C a := by rw [List.length_map, List.take_length]
          rw [e9] at hR14
          have l3' : ts3.length = ((firstsOf C a).map fun f => r ++ [f]).length := hR14.length
          rw [List.length_map] at l3'
          have s14 := keep13 k14
          refine ⟨lg, D2, _, _, rfl, rfl, s14 _ _ hL13, hD14, by rw [List.length_map, List.length_map, sizeLine_eq]; omega, fun np hnp => ?_⟩
          have s15 : Same H14 (upd H14 np (.lst (ts2.map V.ref ++ ts3.map V.ref))) := same_upd hnp
          refine ⟨np, ts2 ++ ts3, _, rfl, s13.trans (s14.trans s15), by rw [upd_same, List.map_append], ?_⟩
          rw [grow_take hr12]
          exact RowsAt.same s15 (paired_app (hR13.same s14) hR14)
      · rintro σ H13 ⟨lg, ts2, v7, rfl, s13, hL13, hR13⟩
        rw [List.length_map, ln, List.take_length, ← foldl_take ha] at hR13
        exact ⟨_, rfl, lg, ts2, _, _, _, _, rfl, s6.trans (s611.trans (s12.trans s13)), hL13, hR13⟩
    · rintro σ H6 ⟨g6, ts6, v4, v5, v6, v7, rfl, s6, hG6, hR6⟩
      rw [List.length_map, List.take_of_length_le (Nat.le_refl _)] at hR6
      exact ⟨_, rfl, q g6 ts6 _ (s05.trans s6) hG6 hR6⟩
end
end Ft

set_option Elab.async false
set_option linter.all false
set_option maxRecDepth 100000
set_option maxHeartbeats 8000000
namespace Ft
open PySem PySem.Spec PyProof.Rows L2
open LamX (TabB TabS Tabs ExtN CodeO)
theorem stand_bad {n : Nat} {ds : List PyData} {d : PyData} (m : d ∈ ds) (h : rngD n d = false) : ∃ i, standErr n (.tuple ds) = some i := by
  cases e : standErr n (.tuple ds) with
  | some i => exact ⟨i, rfl⟩
  | none =>
    obtain ⟨S, eS, lt, _⟩ := standErr_none e
    unfold lotD at eS
    cases eS
    obtain ⟨x, hx, rfl⟩ := List.mem_map.mp m
    rw [rngD_nat (lt x hx)] at h
    cases h
theorem noPlace_le {n : Nat} : ∀ {ds : List PyData} {i j : Nat}, noPlace n i ds = some j → j < i + ds.length
  | [], _, _, h => by cases h
  | d :: ds, i, j, h => by
    rw [noPlace_cons] at h
    split at h
    · have := noPlace_le h
      rw [List.length_cons]
      omega
    · cases h
      rw [List.length_cons]
      omega
theorem standErr_small {n : Nat} {d : PyData} {i : Int} (h : standErr n d = some i) : i.natAbs ≤ 3 := by
  cases d with
  | tuple ds =>
    unfold standErr at h
    simp only [] at h
    split at h
    · rename_i l
      cases e : noPlace n 0 ds with
      | none => rw [e] at h; cases h
      | some j =>
        rw [e] at h
        cases h
        have := noPlace_le e
        omega
    · cases h
      decide
  | _ =>
    cases h
    decide
theorem dp_get {K : PySem.W.Frag} {H : Hp} {xs : List V} {ds : List PyData} {j : Nat} (h : DpAll K H xs ds) (hj : j < xs.length) : ∃ x d, xs[j]? = some x ∧ d ∈ ds ∧ Dp K H x d := by
  obtain ⟨x, hx⟩ : ∃ x, xs[j]? = some x := ⟨_, List.getElem?_eq_getElem hj⟩
  obtain ⟨d, hd, dd⟩ := dpAll_get h hx
  exact ⟨x, d, hx, List.mem_of_getElem? hd, dd⟩
section
variable {P : Program} {w : World} {K : PySem.W.Frag} {mg : Str → Option Value} {base : Heap} {ca : Str → Addr}
/-! ### _law_stand_bent -/
def sp_law_stand_bent (K : PySem.W.Frag) : Sp := fun vs H Q _ => ∃ (p l c st : Addr) (C : Chart) (S : List Nat), vs = [.ref p, .ref c, .ref st] ∧ PoolAt H p l ∧ IsChart K H c C ∧ C.Ok ∧ 0 < C.n ∧ SqT K H st (S.map vN) ∧ (∀ x ∈ S, x < C.n) ∧ 1 ≤ S.length ∧ S.length ≤ 3 ∧
  ∀ (b : Addr) (xs : List V) (ds : List PyData) (H' : Hp), H' b = some (.lst xs) → DpAll K H' xs ds → (∀ d ∈ ds, ∃ i, standErr C.n d = some i) → PoolAt H' p l → Kp [p, l] H H' → Q (.ref b) H'
end
end Ft

set_option Elab.async false
set_option linter.all false
set_option maxRecDepth 100000
set_option maxHeartbeats 8000000
namespace Ft
open PySem PySem.Spec PyProof.Rows L2
open RZ
theorem shows_bl (b : Bool) : Shows (.bool b) := shows_tame rfl (by simp [nodes]) (by simp [PyData.depth])
theorem row_lt' {C : Chart} {S : List Nat} (lt : ∀ x ∈ S, x < C.n) : ∀ x ∈ rowOf C S, x < C.n := fun x hx => by
  obtain ⟨a, ha, rfl⟩ := List.mem_map.mp hx
  exact least_lt (lt a ha)
theorem stand_not {C : Chart} {U : List Nat} (ok : C.Ok) (h : ¬ (1 ≤ U.length ∧ U.length ≤ 3)) : isStand (chartD C) (lotD U) = false := by
  rw [isStand_chart ok]
  have : standErr C.n (lotD U) = some (-1) := if_neg (by rw [List.length_map]; exact h)
  rw [this]
  rfl
section
variable {P : Program} {w : World} {K : PySem.W.Frag} {mg : Str → Option Value} {base : Heap} {ca : Str → Addr}
/-! ### _law_late_other -/
def sp_law_late_other (K : PySem.W.Frag) : Sp := fun vs H Q _ => ∃ (p l c tb t : Addr) (C : Chart) (rows : List Addr) (S : List Nat), vs = [.ref p, .ref c, .ref tb, .ref t] ∧ PoolAt H p l ∧ IsChart K H c C ∧ C.Ok ∧ 0 < C.n ∧ TabAt H C tb rows ∧ tb ∉ [p, l] ∧ (∀ r ∈ rows, r ∉ [p, l]) ∧ SqT K H t (S.map vN) ∧ (∀ x ∈ S, x < C.n) ∧ S.length ≤ 3 ∧
  ∀ (q : Addr) (U : List Nat) (H' : Hp), SqT K H' q (U.map vN) → (∀ x ∈ U, x < C.n) → U.length = S.length → PoolAt H' p l → Kp [p, l] H H' → Q (.ref q) H'
theorem cal_law_late_other (T : Txt mg) (D : Def K mg "_law_late_other" s_law_late_other) (c_law_draw : Cal P w K mg base 2 "_law_draw" sp_law_draw) (c_law_pick : Cal P w K mg base 3 "_law_pick" (sp_law_pick K)) (c_law_map_piece : Cal P w K mg base 2 "_law_map_piece" (sp_law_map_piece K)) (c_law_map_comes : Cal P w K mg base 1 "_law_map_comes" (sp_law_map_comes K)) : Cal P w K mg base 4 "_law_late_other" (sp_law_late_other K) := by
  refine cal_of D sc_law_late_other (fun _ _ _ _ _ _ us hl => match us, hl with | [_, _, _, _], _ => rfl) (fun vs H Q E h => ?_) (fun f cdv A outer s H vs Q E hr h => ?_)
  · obtain ⟨p, l, c, tb, t, C, rows, S, rfl, _⟩ := h
    rfl
  · obtain ⟨p, l, c, tb, t, C, rows, S, rfl, hP, hC, ok, n0, hT, tbn, rown, hS, inS, l3, q⟩ := h
    have n60 := ok.n60
    refine ⟨_, (pss_cons (ps_set (i := 4) sc_law_late_other.nd rfl (Or.inl rfl) (pe_lst pa_nil))
      (pss_cons (ps_for PassesOwn.never rfl (show PI _ _ _ (iTup K _) from pi_tup (pv 3)) (pg_name (i := 5) sc_law_late_other.nd rfl (Or.inl rfl)) (pss_cons (ps_set (i := 6) sc_law_late_other.nd rfl (Or.inl rfl) (pe_op (show OpR _ _ (rCatA K) from op_catA) (pe_c c_law_map_piece hr (by decide) (by rfl) (pa_cons (pv 1) (pa_cons (pv 2) (pa_cons (pv 5) pa_nil)))) (pe_c c_law_map_comes hr (by decide) (by rfl) (pa_cons (pv 1) (pa_cons (pv 2) (pa_cons (pv 5) pa_nil))))))
        (pss_one (ps_expr (pe_bm PySem.F.plainAttrs_list PySem.F.slot_list_append PySem.F.type_list_append mt_append (pv 4) (pa_cons (pe_mid (pe_ifExp (pt_cmpR op_eq (pe_c c_law_draw hr (by decide) (by rfl) (pa_cons (pv 0) (pa_cons pe_int pa_nil))) pe_int (nomark _)) (pe_c c_law_draw hr (by decide) (by rfl) (pa_cons (pv 0) (pa_cons (pe_ix (show IxR _ (rIxT K) from ix_tup) (pv 1) pe_int (fun _ _ => rfl)) pa_nil))) (pe_c c_law_pick hr (by decide) (by rfl) (pa_cons (pv 0) (pa_cons (pv 6) pa_nil))))) pa_nil))))))
      (pss_one (ps_ret (pe_callTy (show CallR _ _ (rTupleOf K) from call_tupleOf) (by rfl) T.tuple (by decide +kernel) (pa_cons (pv 4) pa_nil)))))), ?_⟩
    refine ⟨Nat.zero_le _, fun d hd => ?_⟩
    have s1 : Same H (upd H d (.lst [])) := same_upd hd
    have hD1 : (upd H d (.lst [])) d = some (.lst (([] : List Nat).map vN)) := upd_same
    have dpl : d ∉ [p, l] := hP.free hd
    have hP1 := hP.same s1
    generalize upd H d (.lst []) = H1 at s1 hD1 hP1
    have hS1 := Same.sqT s1 hS
    refine ⟨_, rfl, t, rfl, ⟨_, hS1⟩, for_tup (K := K) (a := t) (xs := S.map vN) (fun i σ H' => ∃ (U : List Nat) (v5 v6 : Option V), σ = [some (.ref p), some (.ref c), some (.ref tb), some (.ref t), some (.ref d), v5, v6] ∧ PoolAt H' p l ∧ Kp [p, l] H H' ∧ H' d = some (.lst (U.map vN)) ∧ (∀ x ∈ U, x < C.n) ∧ U.length = i)
      ⟨[], _, _, rfl, hP1, Same.kp s1, hD1, (fun _ h => nomatch h), rfl⟩ (fun i σ H' _ ⟨_, _, _, _, _, k, _⟩ => k.sqT hP.lists hS) ?_ ?_⟩
    · rintro i x σ H2 hx ⟨U, v5, v6, rfl, hP2, k2, hD2, inU, lU⟩
      obtain ⟨a, ha, rfl⟩ := get_map hx
      have iS : i < S.length := (List.getElem?_eq_some_iff.mp ha).1
      have han := inS a (List.mem_of_getElem? ha)
      have hC2 : IsChart K H2 c C := hC.keep k2 hP.lists
      have hT2 : TabAt H2 C tb rows := hT.kp k2 tbn rown
      have ll := later_len ok han
      refine ⟨_, rfl, _, rfl, _, rfl, c, tb, C, rows, a, rfl, hC2, ok, han, hT2, fun tp H3 s3 hp3 => ?_⟩
      refine ⟨_, rfl, _, rfl, _, rfl, c, tb, C, rows, a, rfl, hC2.same s3, ok, han, hT2.same s3, fun tq H4 s4 hq4 => ?_⟩
      refine catA_of (Same.sqT s4 hp3) hq4 (by unfold laterL at ll; rw [List.length_append] at ll; rw [List.length_map, List.length_map]; omega) fun sp H5 s5 hSp => ?_
      rw [← List.map_append] at hSp
      have s25 := (s3.trans s4).trans s5
      have hSp : SqT K H5 sp ((laterL C a).map vN) := hSp
      have hP5 := hP2.same s25
      have hD5 := s25 _ _ hD2
      have hC5 := hC2.same s25
      have k5 : Kp [p, l] H H5 := k2.trans (Same.kp s25)
      have ne : 0 < (laterL C a).length := by
        unfold laterL
        rw [List.length_append]
        have := List.length_pos_of_mem (piece_has han)
        omega
      obtain ⟨r, wd, cs, hCc⟩ := id hC5
      refine ⟨_, rfl, .inl ⟨rfl, _, .inl (.inl hD5)⟩, ?_⟩
      refine ⟨fun v H' => ∃ x : Nat, v = vN x ∧ x < C.n ∧ PoolAt H' p l ∧ Kp [p, l] H5 H', ⟨_, rfl, p, l, 3, rfl, hP5, by decide, by decide, fun y H6 _ hP6 k6 => ⟨rfl, _, rfl, ite_any (fun _ => ?_) (fun _ => ?_)⟩⟩, ?_⟩
      · have hC6 : ChartAt K H6 c C r wd cs := hCc.keep k6 hP5.lists
        exact ⟨_, rfl, _, rfl, _, _, _, _, rfl, rfl, hC6.top, rfl, p, l, C.n, rfl, hP6, n0, by omega, fun x H7 hx7 hP7 k7 => ⟨x, rfl, hx7, hP7, k6.trans k7⟩⟩
      · refine ⟨_, rfl, _, rfl, p, l, sp, _, rfl, hP6, k6.sqT hP5.lists hSp, by rw [List.length_map]; exact ne, by rw [List.length_map]; omega, fun v H7 hv hP7 k7 => ?_⟩
        obtain ⟨x, hx7, rfl⟩ := List.mem_map.mp hv
        exact ⟨x, rfl, later_lt han hx7, hP7, k6.trans k7⟩
      rintro v H6 ⟨x, rfl, hx6, hP6, k6⟩
      have hD6 := k6 _ _ dpl hD5
      have hd0 : H d = none := hd
      refine ⟨d, _, _, rfl, rfl, hD6, by rw [List.length_map]; exact small1000 (by omega), U ++ [x], _, _, rfl, hP6.set dpl, ?_, by rw [upd_same, List.map_append]; rfl, ?_, by rw [List.length_append, lU]; rfl⟩
      · intro b o nb eb
        rw [upd_ne (ne_of_none eb hd0)]
        exact k6 _ _ nb (k5 b o nb eb)
      · intro y hy
        rcases List.mem_append.mp hy with hy | hy
        · exact inU y hy
        · rw [List.mem_singleton.mp hy]
          exact hx6
    · rintro σ H2 ⟨U, v5, v6, rfl, hP2, k2, hD2, inU, lU⟩
      refine ⟨_, rfl, d, _, rfl, .inl ⟨.inl (.inl hD2), fun tp htp => ?_⟩⟩
      exact q tp U _ (.inl (.inl upd_same)) inU (by rw [lU, List.length_map]) (hP2.same (same_upd htp)) (k2.trans (Same.kp (same_upd htp)))
/-! ### _law_late_says -/
def sp_law_late_says (K : PySem.W.Frag) : Sp := fun vs H Q _ => ∃ (c tb t1 t2 : Addr) (C : Chart) (rows : List Addr) (S U : List Nat), vs = [.ref c, .ref tb, .ref t1, .ref t2] ∧ IsChart K H c C ∧ C.Ok ∧ TabAt H C tb rows ∧ SqT K H t1 (S.map vN) ∧ SqT K H t2 (U.map vN) ∧ (∀ x ∈ S, x < C.n) ∧ 1 ≤ S.length ∧ S.length ≤ 3 ∧ (∀ x ∈ U, x < C.n) ∧ 1 ≤ U.length ∧ U.length ≤ 3 ∧ ∀ H', Same H H' → Q (.bl true) H'
theorem cal_law_late_says (T : Txt mg) (D : Def K mg "_law_late_says" s_law_late_says) (c_is_later : Cal P w K mg base 8 "is_later" (sp_is_later K)) (c_law_map_is_later : Cal P w K mg base 3 "_law_map_is_later" (sp_law_map_is_later K)) : CalG P w K mg base 9 "_law_late_says" (sp_law_late_says K) := by
  refine calG_of D sc_law_late_says (fun _ _ _ _ _ _ us hl => match us, hl with | [_, _, _, _], _ => rfl) (fun vs H Q E h => ?_) (fun f cdv A outer s H vs Q E hg hr h => ?_)
  · obtain ⟨c, tb, t1, t2, C, rows, S, U, rfl, _⟩ := h
    rfl
  · obtain ⟨c, tb, t1, t2, C, rows, S, U, rfl, hC, ok, hT, hS, hU', inS, k1, k3, inU, m1, m3, q⟩ := h
    have hU := hr.units
    have hG := hg
    refine ⟨_, (pss_one (ps_ret (pe_cmpR op_eq (pe_callB (show CallR _ _ (rRepr K) from cr_repr hG hU) (by rfl) T.repr (by decide +kernel) (pa_cons (pe_c c_is_later hr (by decide) (by rfl) (pa_cons (pv 0) (pa_cons (pv 2) (pa_cons (pv 3) pa_nil)))) pa_nil)) (pe_callB (show CallR _ _ (rRepr K) from cr_repr hG hU) (by rfl) T.repr (by decide +kernel) (pa_cons (pe_c c_law_map_is_later hr (by decide) (by rfl) (pa_cons (pv 0) (pa_cons (pv 1) (pa_cons (pv 2) (pa_cons (pv 3) pa_nil))))) pa_nil)) (nomark _)))), ?_⟩
    refine ⟨_, rfl, _, rfl, _, rfl, .ref c, .ref t1, .ref t2, _, _, _, rfl, dp_chart hC, dp_lot hS, dp_lot hU', (fun h => ?_), fun C' S' U' ok' ec es eu _ _ _ _ _ _ H1 s1 => ?_⟩
    · rw [isStand_ok ok inS k1 k3, isStand_ok ok inU m1 m3] at h
      rcases h with h | h <;> cases h
    · have e1 := chartD_inj ec
      have e2 := lotD_inj es
      have e3 := lotD_inj eu
      subst e1 e2 e3
      refine ⟨_, .bool (laterB C S U), rfl, .bl _, shows_bl _, ?_⟩
      refine ⟨_, rfl, _, rfl, _, rfl, _, rfl, c, tb, t1, t2, C, rows, S, U, rfl, hC.same s1, ok, hT.same s1, Same.sqT s1 hS, Same.sqT s1 hU', inS, fun H2 s2 => ?_⟩
      refine ⟨_, .bool (laterB C S U), rfl, .bl _, shows_bl _, ?_⟩
      refine ⟨rfl, ?_⟩
      have z := q _ (s1.trans s2)
      simpa using z
/-! ### _law_late_pairs -/
def sp_law_late_pairs (K : PySem.W.Frag) : Sp := fun vs H Q _ => ∃ (p l c tb t : Addr) (C : Chart) (rows : List Addr) (S : List Nat), vs = [.ref p, .ref c, .ref tb, .ref t] ∧ PoolAt H p l ∧ IsChart K H c C ∧ C.Ok ∧ 0 < C.n ∧ TabAt H C tb rows ∧ tb ∉ [p, l] ∧ (∀ r ∈ rows, r ∉ [p, l]) ∧ SqT K H t (S.map vN) ∧ (∀ x ∈ S, x < C.n) ∧ 1 ≤ S.length ∧ S.length ≤ 3 ∧
  ∀ (H' : Hp), PoolAt H' p l → Kp [p, l] H H' → Q (.bl true) H'
theorem cal_law_late_pairs (T : Txt mg) (D : Def K mg "_law_late_pairs" s_law_late_pairs) (c_law_map_row : Cal P w K mg base 3 "_law_map_row" (sp_law_map_row K)) (c_law_late_other : Cal P w K mg base 4 "_law_late_other" (sp_law_late_other K)) (c_is_later : Cal P w K mg base 8 "is_later" (sp_is_later K)) (c_law_late_says : CalG P w K mg base 9 "_law_late_says" (sp_law_late_says K)) : CalG P w K mg base 10 "_law_late_pairs" (sp_law_late_pairs K) := by
  refine calG_of D sc_law_late_pairs (fun _ _ _ _ _ _ us hl => match us, hl with | [_, _, _, _], _ => rfl) (fun vs H Q E h => ?_) (fun f cdv A outer s H vs Q E hg hr h => ?_)
  · obtain ⟨p, l, c, tb, t, C, rows, S, rfl, _⟩ := h
    rfl
  · obtain ⟨p, l, c, tb, t, C, rows, S, rfl, hP, hC, ok, n0, hT, tbn, rown, hS, inS, k1, k3, q⟩ := h
    have hU := hr.units
    have hG := hg
    have n60 := ok.n60
    refine ⟨_, (pss_cons (ps_set (i := 4) sc_law_late_pairs.nd rfl (Or.inl rfl) (pe_lst (pa_cons (pv 3) (pa_cons (pe_c c_law_map_row hr (by decide) (by rfl) (pa_cons (pv 1) (pa_cons (pv 2) (pa_cons (pv 3) pa_nil)))) (pa_cons (pe_op (show OpR _ _ (rCatA K) from op_catA) (pv 3) (pe_slice (show SlR _ (rSlA K) from sl_tupA) (pv 3) po_none (po_some pe_int))) (pa_cons (pe_slice (show SlR _ (rSlA K) from sl_tupA) (pv 3) (po_some pe_int) po_none) pa_nil))))))
      (pss_cons (ps_for PassesOwn.never rfl (pi_range1 (by rfl) T.range (pa_cons pe_int pa_nil)) (pg_name (i := 5) sc_law_late_pairs.nd rfl (Or.inl rfl)) (pss_one (ps_expr (pe_bm PySem.F.plainAttrs_list PySem.F.slot_list_append PySem.F.type_list_append mt_append (pv 4) (pa_cons (pe_c c_law_late_other hr (by decide) (by rfl) (pa_cons (pv 0) (pa_cons (pv 1) (pa_cons (pv 2) (pa_cons (pv 3) pa_nil))))) pa_nil)))))
      (pss_cons (ps_for PassesOwn.never rfl (show PI _ _ _ (iList K _) from pi_list (pv 4)) (pg_name (i := 6) sc_law_late_pairs.nd rfl (Or.inl rfl)) (pss_one (ps_if (PW.pt (pw_or (pt_cmpR op_lt (pe_callB (show CallR _ _ (rLenS K) from call_lenS) (by rfl) T.len (by decide +kernel) (pa_cons (pv 6) pa_nil)) pe_int (nomark _)) (pw_or1 (pt_cmpR op_gt (pe_callB (show CallR _ _ (rLenS K) from call_lenS) (by rfl) T.len (by decide +kernel) (pa_cons (pv 6) pa_nil)) pe_int (nomark _))))) (pss_one (ps_if (PW.pt (pw_or (pt_cmpR op_notBl (pe_c c_is_later hr (by decide) (by rfl) (pa_cons (pv 1) (pa_cons (pv 3) (pa_cons (pv 6) pa_nil)))) pe_bl (nomark _)) (pw_or1 (pt_cmpR op_notBl (pe_c c_is_later hr (by decide) (by rfl) (pa_cons (pv 1) (pa_cons (pv 6) (pa_cons (pv 3) pa_nil)))) pe_bl (nomark _))))) (pss_one (ps_ret pe_bl)) pss_nil)) (pss_one (ps_if (PW.pt (pw_or (pt_not (pt_val (pe_g c_law_late_says hG hr (by decide) (by rfl) (pa_cons (pv 1) (pa_cons (pv 2) (pa_cons (pv 3) (pa_cons (pv 6) pa_nil))))))) (pw_or1 (pt_not (pt_val (pe_g c_law_late_says hG hr (by decide) (by rfl) (pa_cons (pv 1) (pa_cons (pv 2) (pa_cons (pv 6) (pa_cons (pv 3) pa_nil)))))))))) (pss_one (ps_ret pe_bl)) pss_nil)))))
      (pss_one (ps_ret pe_bl))))), ?_⟩
    refine ⟨_, rfl, _, rfl, _, rfl, _, rfl, c, tb, t, C, rows, S, rfl, hC, ok, hT, hS, inS, by omega, fun rw_ H1 s1 hRow => ?_⟩
    have hS1 := Same.sqT s1 hS
    refine ⟨_, rfl, _, rfl, _, rfl, slA_of (hi := some ((1 : Nat) : Int)) hS1 fun c1 H2 s2 hC1 => ?_⟩
    rw [cutG_take, ← List.map_take] at hC1
    refine catA_of (Same.sqT s2 hS1) hC1 (by rw [List.length_map, List.length_map, List.length_take]; omega) fun c2 H3 s3 hC2 => ?_
    rw [← List.map_append] at hC2
    have s13 := s2.trans s3
    refine ⟨_, rfl, _, rfl, no_part ?_⟩
    refine slA_of (lo := some ((1 : Nat) : Int)) (Same.sqT s13 hS1) fun c3 H4 s4 hC3 => ?_
    rw [cutG_drop, ← List.map_drop] at hC3
    have s04 := s1.trans (s13.trans s4)
    refine ⟨by show 4 ≤ sizeLine; decide, fun o ho => ?_⟩
    have opl : o ∉ [p, l] := (hP.same s04).free ho
    generalize eH5 : upd H4 o _ = H5
    have s5 : Same H4 H5 := by rw [← eH5]; exact same_upd ho
    obtain ⟨us, eus⟩ : ∃ us : List Addr, us = [t, rw_, c2, c3] := ⟨_, rfl⟩
    obtain ⟨Us, eUs⟩ : ∃ Us : List (List Nat), Us = [S, rowOf C S, S ++ S.take 1, S.drop 1] := ⟨_, rfl⟩
    have hO5 : H5 o = some (.lst (us.map V.ref)) := by rw [← eH5, eus]; exact upd_same
    have s05 := s04.trans s5
    have hR5 : RowsAt K H5 us Us := by
      rw [eus, eUs]
      exact .cons (Same.sqT s05 hS) (.cons (Same.sqT (s13.trans (s4.trans s5)) hRow) (.cons (Same.sqT (s4.trans s5) hC2) (.cons (Same.sqT s5 hC3) .nil)))
    have inU5 : ∀ U ∈ Us, ∀ x ∈ U, x < C.n := by
      rw [eUs]
      intro U hm
      simp only [List.mem_cons, List.not_mem_nil, or_false] at hm
      rcases hm with rfl | rfl | rfl | rfl
      · exact inS
      · exact row_lt' inS
      · intro x hx
        rcases List.mem_append.mp hx with hx | hx
        · exact inS x hx
        · exact inS x (List.mem_of_mem_take hx)
      · exact fun x hx => inS x (List.mem_of_mem_drop hx)
    have l5 : us.length = 4 := by rw [eus]; rfl
    have hP5 := hP.same s05
    have hO0 : H o = none := s04.free ho
    clear eH5 eus eUs ho hC1 hC2 hC3 hRow
    refine ⟨_, rfl, by omega, by omega, for_range (lo := 0) (n := 2) (fun i σ H' => ∃ (us : List Addr) (Us : List (List Nat)) (v5 : Option V), σ = [some (.ref p), some (.ref c), some (.ref tb), some (.ref t), some (.ref o), v5, none] ∧ PoolAt H' p l ∧ Kp [p, l] H H' ∧ H' o = some (.lst (us.map V.ref)) ∧ RowsAt K H' us Us ∧ (∀ U ∈ Us, ∀ x ∈ U, x < C.n) ∧ us.length = 4 + i)
      ⟨us, Us, _, rfl, hP5, Same.kp s05, hO5, hR5, inU5, l5⟩ ?_ ?_⟩
    · rintro i σ H6 hi ⟨us6, Us6, v5, rfl, hP6, k6, hO6, hR6, inU6, l6⟩
      refine ⟨_, rfl, .inl ⟨rfl, _, .inl (.inl hO6)⟩, ?_⟩
      refine ⟨_, rfl, _, rfl, _, rfl, _, rfl, p, l, c, tb, t, C, rows, S, rfl, hP6, hC.keep k6 hP.lists, ok, n0, hT.kp k6 tbn rown, tbn, rown, k6.sqT hP.lists hS, inS, k3, fun ot U H7 hOt inU lU hP7 k7 => ?_⟩
      have hO7 := k7 _ _ opl hO6
      refine ⟨o, _, _, rfl, rfl, hO7, by rw [List.length_map]; exact small1000 (by omega), us6 ++ [ot], Us6 ++ [U], _, rfl, hP7.set opl, ?_, by rw [upd_same, List.map_append]; rfl, ?_, ?_, by rw [List.length_append, l6]; rfl⟩
      · intro b o' nb eb
        rw [upd_ne (ne_of_none eb hO0)]
        exact k7 _ _ nb (k6 b o' nb eb)
      · exact paired_app (rowsAt_upd hO7 (hR6.keep k7 hP6.lists)) (.cons (sqT_upd hO7 hOt) .nil)
      · intro V hV
        rcases List.mem_append.mp hV with hV | hV
        · exact inU6 V hV
        · rw [List.mem_singleton.mp hV]
          exact inU
    rintro σ H6 ⟨us6, Us6, v5, rfl, hP6, k6, hO6, hR6, inU6, l6⟩
    have hC6 : IsChart K H6 c C := hC.keep k6 hP.lists
    have hT6 := hT.kp k6 tbn rown
    have hS6 := k6.sqT hP.lists hS
    refine ⟨_, rfl, o, rfl, ⟨_, .inl (.inl hO6)⟩, for_list (K := K) (xs := us6.map V.ref) (fun i σ H' => ∃ v6 : Option V, σ = [some (.ref p), some (.ref c), some (.ref tb), some (.ref t), some (.ref o), v5, v6] ∧ Same H6 H') ⟨_, rfl, fun _ _ h => h⟩ (fun i σ H' _ ⟨_, _, s⟩ => .inl (.inl (s _ _ hO6))) ?_ ?_⟩
    · rintro i x σ H7 hx ⟨v6, rfl, s7⟩
      obtain ⟨u, hu, rfl⟩ := get_map hx
      obtain ⟨U, hU6, hrow⟩ := paired_getL hR6 hu
      have inU := inU6 U (List.mem_of_getElem? hU6)
      have hU7 := Same.sqT s7 hrow
      have hS7 := Same.sqT s7 hS6
      have hC7 := hC6.same s7
      have hT7 := hT6.same s7
      have out : ¬ (1 ≤ U.length ∧ U.length ≤ 3) → (tIfS (tOr (tTest (tOp rNotB (tCall (sp_is_later K) [] L2.E0 (tCons (tVar 1) (tCons (tVar 3) (tCons (tVar 6) tNil)))) (tC (V.bl false)))) (tTest (tOp rNotB (tCall (sp_is_later K) [] L2.E0 (tCons (tVar 1) (tCons (tVar 6) (tCons (tVar 3) tNil)))) (tC (V.bl false))))) (tRet (tC (V.bl false))) tNext)
          { nx := fun σ H' => ∃ v6 : Option V, σ = [some (.ref p), some (.ref c), some (.ref tb), some (.ref t), some (.ref o), v5, v6] ∧ Same H6 H', rt := Q } [some (.ref p), some (.ref c), some (.ref tb), some (.ref t), some (.ref o), v5, some (.ref u)] H7 := fun hb => by
        refine ⟨_, rfl, _, rfl, _, rfl, .ref c, .ref t, .ref u, _, _, _, rfl, dp_chart hC7, dp_lot hS7, dp_lot hU7, (fun _ H8 s8' => ?_), fun C' S' U' ok' ec es eu _ _ _ _ m1 m3 => absurd ⟨by rw [lotD_inj eu]; exact m1, by rw [lotD_inj eu]; exact m3⟩ hb⟩
        have s8 := s7.trans s8'
        refine ⟨_, _, rfl, rfl, _, rfl, iteF ?_⟩
        refine ⟨_, rfl, _, rfl, _, rfl, .ref c, .ref u, .ref t, _, _, _, rfl, dp_chart (hC6.same s8), dp_lot (Same.sqT s8 hrow), dp_lot (Same.sqT s8 hS6), (fun _ H9 s9' => ?_), fun C' S' U' ok' ec es eu _ m1 m3 _ _ _ => absurd ⟨by rw [lotD_inj es]; exact m1, by rw [lotD_inj es]; exact m3⟩ hb⟩
        have s9 := s8.trans s9'
        exact ⟨_, _, rfl, rfl, _, rfl, iteF ⟨_, rfl, s9⟩⟩
      have lu : (U.map vN).length = U.length := List.length_map ..
      refine ⟨_, rfl, u, _, rfl, .inr hU7, _, _, rfl, rfl, _, rfl, ?_⟩
      by_cases m1 : 1 ≤ U.length
      · rw [decide_eq_false (show ¬ (((U.map vN).length : Nat) : Int) < 1 by rw [lu]; omega)]
        refine iteF ?_
        refine ⟨_, rfl, u, _, rfl, .inr hU7, _, _, rfl, rfl, _, rfl, ?_⟩
        by_cases m3 : U.length ≤ 3
        · rw [decide_eq_false (show ¬ (3 : Int) < (((U.map vN).length : Nat) : Int) by rw [lu]; omega)]
          refine iteF ?_
          refine ⟨_, rfl, _, rfl, _, rfl, _, rfl, c, tb, t, u, C, rows, S, U, rfl, hC7, ok, hT7, hS7, hU7, inS, k1, k3, inU, m1, m3, fun H8 s8 => ⟨_, rfl, iteF ?_⟩⟩
          have s78 := s7.trans s8
          exact ⟨_, rfl, _, rfl, _, rfl, _, rfl, c, tb, u, t, C, rows, U, S, rfl, hC6.same s78, ok, hT6.same s78, Same.sqT s78 hrow, Same.sqT s78 hS6, inU, m1, m3, inS, k1, k3, fun H9 s9 => ⟨_, rfl, iteF ⟨_, rfl, s78.trans s9⟩⟩⟩
        · rw [decide_eq_true (show (3 : Int) < (((U.map vN).length : Nat) : Int) by rw [lu]; omega)]
          refine iteT ?_
          exact out fun h => m3 h.2
      · rw [decide_eq_true (show (((U.map vN).length : Nat) : Int) < 1 by rw [lu]; omega)]
        refine iteT (iteT ?_)
        exact out fun h => m1 h.1
    · rintro σ H7 ⟨v6, rfl, s7⟩
      exact q H7 (hP6.same s7) (k6.trans (Same.kp s7))
end
end Ft

set_option Elab.async false
set_option linter.all false
set_option maxRecDepth 100000
set_option maxHeartbeats 8000000
namespace Ft
open PySem PySem.Spec PyProof.Rows L2
open LamX (TabB TabS Tabs ExtN CodeO)
/-! ### rows: their own rows, with the same members -/
theorem piece_least {C : Chart} (ok : C.Ok) {a : Nat} (ha : a < C.n) : pieceOf C (leastOf C a) = pieceOf C a := by
  have hm := least_mem ha
  exact piece_eq hm
theorem least_least {C : Chart} (ok : C.Ok) {a : Nat} (ha : a < C.n) : leastOf C (leastOf C a) = leastOf C a := by
  have e := piece_least ok ha
  unfold leastOf at e ⊢
  rw [e]
theorem row_row {C : Chart} (ok : C.Ok) {S : List Nat} (lt : ∀ x ∈ S, x < C.n) : rowOf C (rowOf C S) = rowOf C S := by
  unfold rowOf
  rw [List.map_map]
  exact List.map_congr_left fun a ha => least_least ok (lt a ha)
theorem row_members {C : Chart} (ok : C.Ok) {S : List Nat} (lt : ∀ x ∈ S, x < C.n) : membersOf C (rowOf C S) = membersOf C S := by
  unfold membersOf rowOf
  refine those_is (those_up _ _) fun b => ?_
  rw [those_mem]
  refine and_congr_right fun _ => ?_
  constructor
  · rintro ⟨x, hx, hb⟩
    obtain ⟨a, ha, rfl⟩ := List.mem_map.mp hx
    exact ⟨a, ha, by rw [← piece_least ok (lt a ha)]; exact hb⟩
  · rintro ⟨a, ha, hb⟩
    exact ⟨leastOf C a, List.mem_map.mpr ⟨a, ha, rfl⟩, by rw [piece_least ok (lt a ha)]; exact hb⟩
theorem row_lt {C : Chart} {S : List Nat} (lt : ∀ x ∈ S, x < C.n) : ∀ x ∈ rowOf C S, x < C.n := fun x hx => by
  obtain ⟨a, ha, rfl⟩ := List.mem_map.mp hx
  exact least_lt (lt a ha)
inductive HW : Str → Str → Prop
  | map : HW "BadMap" "map"
  | wish : HW "BadWish" "wish"
  | standing : HW "BadStanding" "standing"
  | many : HW "TooMany" "many"
/-- what hearing a call says -/
def TTHeard (ca : Str → Addr) : (XK → Hp → VK → Prop) → Hp → VK → Prop := fun tl H Q => ∃ (Ech : XK) (M : VK), tl Ech H M ∧ (∀ v H1, M v H1 → ∀ p, H1 p = none → Q (.ref p) (upd H1 p (.tup [.str "is", v]))) ∧
  ∀ cls d H', Ech cls d H' → ∃ (x y : Str) (dd : Addr) (v : V), cls = .ref (ca x) ∧ d = some dd ∧ H' dd = some (.xd [("what", v)]) ∧ HW x y ∧ ∀ p, H' p = none → Q (.ref p) (upd H' p (.tup [.str y, v]))
/-- what a function of a map and a standing refuses -/
def SErr (dc ds : PyData) (x : Str) (i : Int) : Prop := mapErr dc = some (x, i) ∨ ∃ C, C.Ok ∧ dc = chartD C ∧ x = "BadStanding" ∧ standErr C.n ds = some i
theorem SErr.word {dc ds : PyData} {x : Str} {i : Int} (h : SErr dc ds x i) : ∃ y, HW x y := by
  rcases h with h | ⟨_, _, _, rfl, _⟩
  · rcases mapErr_name h with rfl | rfl
    · exact ⟨_, .map⟩
    · exact ⟨_, .wish⟩
  · exact ⟨_, .standing⟩
theorem SErr.isStand {dc ds : PyData} {x : Str} {i : Int} (h : SErr dc ds x i) : isStand dc ds = false := by
  rcases h with h | ⟨C, ok, rfl, _, h⟩
  · unfold Ft.isStand
    rw [h]
    rfl
  · rw [isStand_chart ok, h]
    rfl
theorem DueS.of_err {K : PySem.W.Frag} {ca : Str → Addr} {H : Hp} {E : XK} {dc ds : PyData} {x : Str} {i : Int} {ok : Chart → List Nat → Prop} (h : SErr dc ds x i) (r : Raised K ca H E (x, .int i)) : DueS K ca H E dc ds ok := by
  rcases h with h | ⟨C, o, rfl, rfl, h⟩
  · refine ⟨fun x' i' h' => ?_, fun C ec o => ?_⟩
    · rw [h] at h'
      cases h'
      exact r
    · rw [ec, mapErr_chart o] at h
      cases h
  · refine ⟨fun x' i' h' => ?_, fun C' ec o' => ⟨fun i' h' => ?_, fun S es lt l1 l3 => ?_⟩⟩
    · rw [mapErr_chart o] at h'
      cases h'
    · rw [chartD_inj ec, h'] at h
      cases h
      exact r
    · rw [chartD_inj ec, es, standErr_ok lt l1 l3] at h
      cases h
theorem str_tame {y : Str} {x : Str} (h : HW x y) : shortS y = true := by cases h <;> decide
theorem told_shows {y : Str} {x : Str} {i : Int} (h : HW x y) (hi : i.natAbs ≤ 1000) : Shows (.tuple [.str y, .int i]) := by
  refine shows_tame ?_ (by simp [nodes, nodess]) (by simp [PyData.depth, PyData.depthAll])
  simp only [tame, tames, str_tame h, Bool.true_and, Bool.and_true, decide_eq_true_eq]
  exact hi
section
variable {P : Program} {w : World} {K : PySem.W.Frag} {mg : Str → Option Value} {base : Heap} {ca : Str → Addr}
theorem calL_law_heard (T : Txt mg) (D : Def K mg "_law_heard" s_law_heard) (e_BadMap : Er P w K mg base ca "BadMap") (e_BadWish : Er P w K mg base ca "BadWish") (e_BadNumber : Er P w K mg base ca "BadNumber") (e_BadPlace : Er P w K mg base ca "BadPlace") (e_BadStanding : Er P w K mg base ca "BadStanding") (e_TooMany : Er P w K mg base ca "TooMany")
    (x_BadMap_BadMap : Exm K ca "BadMap" "BadMap" true) (x_BadWish_BadMap : Exm K ca "BadWish" "BadMap" false) (x_BadWish_BadWish : Exm K ca "BadWish" "BadWish" true) (x_BadStanding_BadMap : Exm K ca "BadStanding" "BadMap" false) (x_BadStanding_BadWish : Exm K ca "BadStanding" "BadWish" false)
    (x_BadStanding_BadNumber : Exm K ca "BadStanding" "BadNumber" false) (x_BadStanding_BadPlace : Exm K ca "BadStanding" "BadPlace" false) (x_BadStanding_BadStanding : Exm K ca "BadStanding" "BadStanding" true)
    (x_TooMany_BadMap : Exm K ca "TooMany" "BadMap" false) (x_TooMany_BadWish : Exm K ca "TooMany" "BadWish" false) (x_TooMany_BadNumber : Exm K ca "TooMany" "BadNumber" false) (x_TooMany_BadPlace : Exm K ca "TooMany" "BadPlace" false) (x_TooMany_BadStanding : Exm K ca "TooMany" "BadStanding" false) (x_TooMany_TooMany : Exm K ca "TooMany" "TooMany" true) : CalL P w K mg base "_law_heard" (TTHeard ca) := by
  refine calL_of D sc_law_heard rfl (.inl rfl) (fun _ _ _ _ _ _ us hl => match us, hl with | [_], _ => rfl) (fun X q e1 e2 e3 e4 e5 g cdv f c' s H Q tl act hc h => ?_)
  obtain ⟨Ech, M, ht, hM, hE⟩ := h
  refine ⟨_, (pss_one (ps_try_ms rfl rfl sc_law_heard.nd takes0 (fun W pn xe tk po => (pss_one (ps_ret (pe_tup (pa_cons pe_str (pa_cons (pe_mid (pe_actE (fun E hW => act W pn xe E _ _ tk hW))) pa_nil)))))) (.as (i := 1) rfl rfl ⟨rfl, by decide, .inl (Er.g e_BadMap)⟩ (fun a oe cls d pn hz hf => (pss_one (ps_ret (pe_tup (pa_cons pe_str (pa_cons (pe_what hz hf (pv 1)) pa_nil))))))
      (.as (i := 1) rfl rfl ⟨rfl, by decide, .inl (Er.g e_BadWish)⟩ (fun a oe cls d pn hz hf => (pss_one (ps_ret (pe_tup (pa_cons pe_str (pa_cons (pe_what hz hf (pv 1)) pa_nil))))))
      (.as (i := 1) rfl rfl ⟨rfl, by decide, .inl (Er.g e_BadNumber)⟩ (fun a oe cls d pn hz hf => (pss_one (ps_ret (pe_tup (pa_cons pe_str (pa_cons (pe_what hz hf (pv 1)) pa_nil))))))
      (.as (i := 1) rfl rfl ⟨rfl, by decide, .inl (Er.g e_BadPlace)⟩ (fun a oe cls d pn hz hf => (pss_one (ps_ret (pe_tup (pa_cons pe_str (pa_cons (pe_what hz hf (pv 1)) pa_nil))))))
      (.as (i := 1) rfl rfl ⟨rfl, by decide, .inl (Er.g e_BadStanding)⟩ (fun a oe cls d pn hz hf => (pss_one (ps_ret (pe_tup (pa_cons pe_str (pa_cons (pe_what hz hf (pv 1)) pa_nil))))))
      (.as (i := 1) rfl rfl ⟨rfl, by decide, .inl (Er.g e_TooMany)⟩ (fun a oe cls d pn hz hf => (pss_one (ps_ret (pe_tup (pa_cons pe_str (pa_cons (pe_what hz hf (pv 1)) pa_nil))))))
      .nil)))))))), ?_⟩
  have two : 2 ≤ sizeLine := by decide
  refine ⟨M, ⟨Ech, fun cls d σ' H' hx => ?_, rfl, hc, ht⟩, fun v H1 hm => ⟨two, fun p hp => hM v H1 hm p hp⟩⟩
  obtain ⟨x, y, dd, v, rfl, rfl, hd, hw, hq⟩ := hE cls d H' hx
  have suite : ∀ (z : Str) (C : Addr), WhatC K C → (∀ p, H' p = none → Q (.ref p) (upd H' p (.tup [.str z, v]))) → ∀ (a : Addr), σ'.length = 2 →
      wHd (some 1) (fun a cls d => tRet (tTup (tCons (tC (.str z)) (tCons (tWhat K a cls d (tVar 1)) tNil)))) a (.ref C) (some dd) { nx := fun _ H' => Q .non H', rt := Q } σ' H' := fun z C wc hq a hl => by
    refine ⟨.ref a, ?_, rfl, C, dd, v, rfl, wc, rfl, hd, two, hq⟩
    rw [List.getElem?_set_self (by rw [hl]; decide)]
  cases hw with
  | map => exact ⟨true, x_BadMap_BadMap, fun _ a _ hl => suite _ _ (Er.w e_BadMap) hq a hl, fun h => nomatch h⟩
  | wish => exact ⟨false, x_BadWish_BadMap, (fun h => nomatch h), fun _ => ⟨true, x_BadWish_BadWish, fun _ a _ hl => suite _ _ (Er.w e_BadWish) hq a hl, fun h => nomatch h⟩⟩
  | standing => exact ⟨false, x_BadStanding_BadMap, (fun h => nomatch h), fun _ => ⟨false, x_BadStanding_BadWish, (fun h => nomatch h), fun _ => ⟨false, x_BadStanding_BadNumber, (fun h => nomatch h), fun _ => ⟨false, x_BadStanding_BadPlace, (fun h => nomatch h), fun _ =>
      ⟨true, x_BadStanding_BadStanding, fun _ a _ hl => suite _ _ (Er.w e_BadStanding) hq a hl, fun h => nomatch h⟩⟩⟩⟩⟩
  | many => exact ⟨false, x_TooMany_BadMap, (fun h => nomatch h), fun _ => ⟨false, x_TooMany_BadWish, (fun h => nomatch h), fun _ => ⟨false, x_TooMany_BadNumber, (fun h => nomatch h), fun _ => ⟨false, x_TooMany_BadPlace, (fun h => nomatch h), fun _ =>
      ⟨false, x_TooMany_BadStanding, (fun h => nomatch h), fun _ => ⟨true, x_TooMany_TooMany, fun _ a _ hl => suite _ _ (Er.w e_TooMany) hq a hl, fun h => nomatch h⟩⟩⟩⟩⟩⟩
end
end Ft

set_option Elab.async false
set_option linter.all false
set_option maxRecDepth 100000
set_option maxHeartbeats 8000000
namespace Ft
open PySem PySem.Spec PyProof.Rows L2
theorem badPlace_app {n : Nat} : ∀ {ws : List Nat} {b : Int} {i : Nat}, ws.Pairwise (· < ·) → (∀ x ∈ ws, x < n) → (∀ x ∈ ws, b < (x : Int)) → badPlace n b i (ws.map nD ++ [nD n]) = some (i + ws.length)
  | [], b, i, _, _, _ => by
    show (if numIn (b + 1) ((n : Int) - 1) (nD n) = true then badPlace n (numOf (nD n)) (i + 1) [] else some i) = some (i + 0)
    rw [if_neg]
    · rfl
    · intro h
      have := numIn_nat.mp h
      omega
  | w :: ws, b, i, up, lt, ab => by
    have h1 := lt w List.mem_cons_self
    have h2 := ab w List.mem_cons_self
    obtain ⟨u1, u2⟩ := List.pairwise_cons.mp up
    show (if numIn (b + 1) ((n : Int) - 1) (nD w) = true then badPlace n (numOf (nD w)) (i + 1) (ws.map nD ++ [nD n]) else some i) = some (i + (ws.length + 1))
    rw [if_pos (numIn_nat.mpr ⟨by omega, by omega⟩)]
    have := badPlace_app (b := numOf (nD w)) (i := i + 1) u2 (fun x hx => lt x (List.mem_cons_of_mem _ hx)) fun x hx => by
      have := u1 x hx
      show (w : Int) < x
      omega
    rw [this]
    congr 1
    omega
theorem err_chart {C : Chart} (ok : C.Ok) (r w : PyData) : mapErr (.tuple [nD C.n, r, w]) = mapErrN C.n r w := by
  have n60 := ok.n60
  show mapErr3 (nD C.n) r w = _
  unfold mapErr3 mapErrN
  rw [if_pos (by rw [numIn_nat]; omega), nD_toNat]
  cases roadsErr C.n r with
  | some i => rfl
  | none => cases wishErr C.n w <;> rfl
theorem roads_none {C : Chart} (ok : C.Ok) : roadsErr C.n (.tuple (C.roads.map pairD)) = none := by
  unfold roadsErr
  simp only []
  rw [if_pos (by rw [List.length_map]; exact ok.many), badRoad_ok ok.upR ok.inR (fun _ _ => rfl)]
  rfl
end Ft

set_option Elab.async false
set_option linter.all false
set_option maxRecDepth 100000
set_option maxHeartbeats 4000000
/-! Expressions over data that change nothing: what data they give. -/
namespace Ft
open PySem PySem.Spec PyProof.Rows L2
def Gv (K : PySem.W.Frag) (σ : L2.St) (H : Hp) (t : TE) (d : PyData) : Prop := ∀ H1, Same H H1 → ∀ Q : VK, (∀ v H', Same H1 H' → Dp K H' v d → Q v H') → t σ H1 Q
def GvA (K : PySem.W.Frag) (σ : L2.St) (H : Hp) (t : TA) (ds : List PyData) : Prop := ∀ H1, Same H H1 → ∀ Q : List V → Hp → Prop, (∀ vs H', Same H1 H' → DpAll K H' vs ds → Q vs H') → t σ H1 Q
theorem Same.rfl' (H : Hp) : Same H H := fun _ _ h => h
section
variable {K : PySem.W.Frag} {σ : L2.St} {H : Hp} {t ta tb te : TE} {tr : TA} {d : PyData} {ds es : List PyData} {Q : VK}
theorem Gv.go (g : Gv K σ H t d) (q : ∀ v H', Same H H' → Dp K H' v d → Q v H') : t σ H Q := g H (Same.rfl' H) Q q
theorem Gv.same {H' : Hp} (s : Same H H') (g : Gv K σ H t d) : Gv K σ H' t d := fun H1 s1 Q q => g H1 (s.trans s1) Q q
theorem gv_int {i : Int} : Gv K σ H (tC (.int i)) (.int i) := fun H1 _ Q q => q _ H1 (Same.rfl' _) (.int _)
theorem gv_bl {b : Bool} : Gv K σ H (tC (.bl b)) (.bool b) := fun H1 _ Q q => q _ H1 (Same.rfl' _) (.bl _)
theorem gv_non : Gv K σ H (tC .non) .none := fun H1 _ Q q => q _ H1 (Same.rfl' _) .non
theorem gv_str {z : Str} : Gv K σ H (tC (.str z)) (.str z) := fun H1 _ Q q => q _ H1 (Same.rfl' _) (.str _)
theorem gv_var {i : Nat} {v : V} (e : σ[i]? = some (some v)) (h : Dp K H v d) : Gv K σ H (tVar i) d := fun H1 s Q q => ⟨v, e, q v H1 (Same.rfl' _) (Dp.same s h)⟩
theorem gv_neg {i : Int} (g : Gv K σ H t (.int i)) : Gv K σ H (tUn (rU fun i => V.int (-i)) t) (.int (-i)) := fun H1 s Q q => g H1 s _ fun v H' s' h => by
  cases dp_int h
  exact ⟨i, rfl, q _ H' s' (.int _)⟩
theorem gva_nil : GvA K σ H tNil [] := fun H1 _ Q q => q _ H1 (Same.rfl' _) .nil
theorem gva_cons (g : Gv K σ H t d) (gs : GvA K σ H tr ds) : GvA K σ H (tCons t tr) (d :: ds) := fun H1 s Q q => g H1 s _ fun v H2 s2 h => gs H2 (s.trans s2) _ fun vs H3 s3 hs => q _ H3 (s2.trans s3) (.cons (Dp.same s3 h) hs)
theorem gv_tup (g : GvA K σ H tr ds) (few : ds.length ≤ 1000) : Gv K σ H (tTup tr) (.tuple ds) := fun H1 s Q q => g H1 s _ fun vs H2 s2 hs => by
  have big : (1000 : Nat) ≤ sizeLine := by decide
  have len := dpAll_length hs
  exact ⟨by omega, fun p hp => q _ _ (s2.trans (same_upd hp)) (.tup (.inl (.inl upd_same)) (DpAll.same (same_upd hp) hs))⟩
theorem gv_lst (g : GvA K σ H tr ds) (few : ds.length ≤ 1000) : Gv K σ H (tLst tr) (.list ds) := fun H1 s Q q => g H1 s _ fun vs H2 s2 hs => by
  have big : (1000 : Nat) ≤ sizeLine := by decide
  have len := dpAll_length hs
  exact ⟨by omega, fun p hp => q _ _ (s2.trans (same_upd hp)) (.lst (.inl (.inl upd_same)) (DpAll.same (same_upd hp) hs))⟩
theorem gv_ixT {j : Nat} (g : Gv K σ H ta (.tuple ds)) (g2 : Gv K σ H tb (.int (j : Int))) (e : ds[j]? = some d) : Gv K σ H (tOp (rIxT K) ta tb) d := fun H1 s Q q => g H1 s _ fun v H2 s2 h => g2 H2 (s.trans s2) _ fun u H3 s3 h3 => by
  cases dp_int h3
  obtain ⟨a, xs, rfl, hs, ha⟩ := dp_tup (Dp.same s3 h)
  obtain ⟨x, hx, dx⟩ := dpAll_getD ha e
  exact ⟨a, xs, (j : Int), x, rfl, rfl, hs, atI_nat hx, q _ _ (s2.trans s3) dx⟩
theorem gv_cat (g : Gv K σ H ta (.tuple ds)) (g2 : Gv K σ H tb (.tuple es)) (few : ds.length + es.length ≤ 1000) : Gv K σ H (tOp (rCatA K) ta tb) (.tuple (ds ++ es)) := fun H1 s Q q => g H1 s _ fun v H2 s2 h => g2 H2 (s.trans s2) _ fun u H3 s3 h3 => by
  obtain ⟨a, xs, rfl, hs, ha⟩ := dp_tup (Dp.same s3 h)
  obtain ⟨b, ys, rfl, hs2, ha2⟩ := dp_tup h3
  exact catA_of hs hs2 (by rw [dpAll_length ha, dpAll_length ha2]; exact few) fun p H4 s4 hp => q _ _ ((s2.trans s3).trans s4) (.tup hp (dpAll_app (DpAll.same s4 ha) (DpAll.same s4 ha2)))
theorem dpAll_cut {H : Hp} {xs : List V} {lo hi : Option Int} (h : DpAll K H xs ds) : DpAll K H (cutG xs lo hi) (cutG ds lo hi) := by
  unfold cutG
  rw [dpAll_length h]
  exact dpAll_take (dpAll_drop h)
theorem gv_slTo {i : Int} (g : Gv K σ H te (.tuple ds)) (g2 : Gv K σ H tb (.int i)) : Gv K σ H (tSl (rSlA K) te tNoPart (tPart tb)) (.tuple (cutG ds none (some i))) := fun H1 s Q q => g H1 s _ fun v H2 s2 h => g2 H2 (s.trans s2) _ fun u H3 s3 h3 => by
  cases dp_int h3
  obtain ⟨a, xs, rfl, hs, ha⟩ := dp_tup (Dp.same s3 h)
  exact ⟨i, rfl, slA_of hs fun p H4 s4 hp => q _ _ ((s2.trans s3).trans s4) (.tup hp (dpAll_cut (DpAll.same s4 ha)))⟩
theorem gv_slFrom {i : Int} (g : Gv K σ H te (.tuple ds)) (g2 : Gv K σ H tb (.int i)) : Gv K σ H (tSl (rSlA K) te (tPart tb) tNoPart) (.tuple (cutG ds (some i) none)) := fun H1 s Q q => g H1 s _ fun v H2 s2 h => g2 H2 (s.trans s2) _ fun u H3 s3 h3 => by
  cases dp_int h3
  obtain ⟨a, xs, rfl, hs, ha⟩ := dp_tup (Dp.same s3 h)
  exact ⟨i, rfl, no_part (slA_of hs fun p H4 s4 hp => q _ _ ((s2.trans s3).trans s4) (.tup hp (dpAll_cut (DpAll.same s4 ha))))⟩
theorem gv_take {k : Nat} (g : Gv K σ H te (.tuple ds)) (g2 : Gv K σ H tb (.int (k : Int))) : Gv K σ H (tSl (rSlA K) te tNoPart (tPart tb)) (.tuple (ds.take k)) := by
  have := gv_slTo g g2
  rwa [cutG_take] at this
theorem gv_drop {k : Nat} (g : Gv K σ H te (.tuple ds)) (g2 : Gv K σ H tb (.int (k : Int))) : Gv K σ H (tSl (rSlA K) te (tPart tb) tNoPart) (.tuple (ds.drop k)) := by
  have := gv_slFrom g g2
  rwa [cutG_drop] at this
theorem gv_len (g : Gv K σ H t (.tuple ds)) : Gv K σ H (tCB (rLenS K) (tCons t tNil)) (.int (ds.length : Int)) := fun H1 s Q q => g H1 s _ fun v H2 s2 h => by
  obtain ⟨a, xs, rfl, hs, ha⟩ := dp_tup h
  have := q (.int ((xs.length : Nat) : Int)) H2 s2 (by rw [dpAll_length ha]; exact .int _)
  exact ⟨a, xs, rfl, .inr hs, this⟩
theorem gv_add {i j : Int} (g : Gv K σ H ta (.int i)) (g2 : Gv K σ H tb (.int j)) : Gv K σ H (tOp (rI0 fun i j => V.int (i + j)) ta tb) (.int (i + j)) := fun H1 s Q q => g H1 s _ fun v H2 s2 h => g2 H2 (s.trans s2) _ fun u H3 s3 h3 => by
  cases dp_int h
  cases dp_int h3
  exact ⟨i, j, rfl, rfl, q _ _ (s2.trans s3) (.int _)⟩
theorem gv_sub {i j : Int} (g : Gv K σ H ta (.int i)) (g2 : Gv K σ H tb (.int j)) : Gv K σ H (tOp (rI0 fun i j => V.int (i - j)) ta tb) (.int (i - j)) := fun H1 s Q q => g H1 s _ fun v H2 s2 h => g2 H2 (s.trans s2) _ fun u H3 s3 h3 => by
  cases dp_int h
  cases dp_int h3
  exact ⟨i, j, rfl, rfl, q _ _ (s2.trans s3) (.int _)⟩
/-! ### where they stand -/
theorem asg_gv {i : Nat} {D : Ends} (g : Gv K σ H te d) (q : ∀ v H', Same H H' → Dp K H' v d → D.nx (σ.set i (some v)) H') : tAsg te (gName i) D σ H := g.go q
theorem seq_gv {i : Nat} {D : Ends} {u : TS} (g : Gv K σ H te d) (q : ∀ v H', Same H H' → Dp K H' v d → u D (σ.set i (some v)) H') : tSeq (tAsg te (gName i)) u D σ H := g.go q
theorem lst_gv (g : GvA K σ H tr ds) (few : ds.length ≤ 1000) (q : ∀ p xs H', Same H H' → H' p = some (.lst xs) → DpAll K H' xs ds → Q (.ref p) H') : tLst tr σ H Q := g H (Same.rfl' H) _ fun vs H2 s2 hs => by
  have big : (1000 : Nat) ≤ sizeLine := by decide
  have len := dpAll_length hs
  exact ⟨by omega, fun p hp => q p vs _ (s2.trans (same_upd hp)) upd_same (DpAll.same (same_upd hp) hs)⟩
/-- for x in [..], a row of data -/
theorem for_lit {g : TG} {tb : TS} {D : Ends} (gs : GvA K σ H tr ds) (few : ds.length ≤ 1000) (q : ∀ p xs H1, Same H H1 → H1 p = some (.lst xs) → DpAll K H1 xs ds → ∃ Pv : Nat → L2.St → Hp → Prop, Pv 0 σ H1 ∧ (∀ i σ H, i ≤ xs.length → Pv i σ H → SqL K H p xs) ∧
      (∀ i x σ H, xs[i]? = some x → Pv i σ H → g x σ H fun σ2 H2 => tb { D with nx := Pv (i + 1), ct := Pv (i + 1), bk := D.nx } σ2 H2) ∧ ∀ σ H, Pv xs.length σ H → D.nx σ H) : tFor (iList K (tLst tr)) g tb D σ H := by
  have big : (1000 : Nat) ≤ sizeLine := by decide
  refine gs H (Same.rfl' H) _ fun xs H0 s0 hd0 => ⟨by have := dpAll_length hd0; omega, fun p hnew => ?_⟩
  have s1 := s0.trans (same_upd (o := .lst xs) hnew)
  have hp : (upd H0 p (.lst xs)) p = some (.lst xs) := upd_same
  obtain ⟨Pv, h0, hl, hs, hn⟩ := q p xs _ s1 hp (DpAll.same (same_upd hnew) hd0)
  exact ⟨p, rfl, ⟨xs, .inl (.inl hp)⟩, for_list Pv h0 hl hs hn⟩
end
end Ft

set_option Elab.async false
set_option linter.all false
set_option maxRecDepth 100000
set_option maxHeartbeats 4000000
namespace Ft
open PySem PySem.Spec PyProof.Rows L2
theorem dpAll_rep {K : PySem.W.Frag} {H : Hp} {xs : List V} {ds : List PyData} (h : DpAll K H xs ds) : ∀ k : Nat, DpAll K H (List.replicate k xs).flatten (List.replicate k ds).flatten
  | 0 => .nil
  | k + 1 => by
    rw [List.replicate_succ, List.replicate_succ, List.flatten_cons, List.flatten_cons]
    exact dpAll_app h (dpAll_rep h k)
theorem gv_rep {K : PySem.W.Frag} {σ : L2.St} {H : Hp} {ta tb : TE} {ds : List PyData} {k : Nat} (g : Gv K σ H ta (.tuple ds)) (g2 : Gv K σ H tb (.int (k : Int))) (ne : ds ≠ []) (h1 : 1 ≤ k) (h2 : k ≤ 1000) (few : ds.length ≤ 1000) : Gv K σ H (tOp (rRepA K) ta tb) (.tuple (List.replicate k ds).flatten) := fun H1 s Q q => g H1 s _ fun v H2 s2 h => g2 H2 (s.trans s2) _ fun u H3 s3 h3 => by
  cases dp_int h3
  obtain ⟨a, xs, rfl, hs, ha⟩ := dp_tup (Dp.same s3 h)
  have len := dpAll_length ha
  exact ⟨a, (k : Int), xs, rfl, rfl, hs, (fun e => ne (by rw [e] at len; exact List.length_eq_zero_iff.mp len.symm)), by omega, by omega, by omega, fun p H4 s4 hp => q _ _ ((s2.trans s3).trans s4) (.tup hp (dpAll_rep (DpAll.same s4 ha) _))⟩
end Ft

set_option Elab.async false
set_option linter.all false
set_option maxRecDepth 100000
set_option maxHeartbeats 8000000
namespace Ft
open PySem PySem.Spec PyProof.Rows L2
open RZ
theorem no_later {dc d1 d2 : PyData} (no : isStand dc d1 = false ∨ isStand dc d2 = false) {C : Chart} {S U : List Nat} (ok : C.Ok) (ec : dc = chartD C) (es : d1 = lotD S) (eu : d2 = lotD U) (inS : ∀ x ∈ S, x < C.n) (k1 : 1 ≤ S.length) (k3 : S.length ≤ 3) (inU : ∀ x ∈ U, x < C.n) (m1 : 1 ≤ U.length) (m3 : U.length ≤ 3) : False := by
  subst ec es eu
  rw [isStand_ok ok inS k1 k3, isStand_ok ok inU m1 m3] at no
  rcases no with h | h <;> cases h
theorem stand_map {dc ds : PyData} {y : Str × Int} (h : mapErr dc = some y) : isStand dc ds = false := by
  unfold isStand
  rw [h]
  rfl
theorem stand_err {C : Chart} (ok : C.Ok) {ds : PyData} {i : Int} (h : standErr C.n ds = some i) : isStand (chartD C) ds = false := by
  rw [isStand_chart ok, h]
  rfl
section
variable {P : Program} {w : World} {K : PySem.W.Frag} {mg : Str → Option Value} {base : Heap} {ca : Str → Addr}
/-! ### _law_late_bent -/
def sp_law_late_bent (K : PySem.W.Frag) : Sp := fun vs H Q _ => ∃ (c t : Addr) (C : Chart) (S : List Nat), vs = [.ref c, .ref t] ∧ IsChart K H c C ∧ C.Ok ∧ SqT K H t (S.map vN) ∧ (∀ x ∈ S, x < C.n) ∧ 1 ≤ S.length ∧ S.length ≤ 3 ∧ ∀ H', Same H H' → Q (.bl true) H'
theorem cal_law_late_bent (T : Txt mg) (D : Def K mg "_law_late_bent" s_law_late_bent) (c_is_later : Cal P w K mg base 8 "is_later" (sp_is_later K)) : Cal P w K mg base 9 "_law_late_bent" (sp_law_late_bent K) := by
  refine cal_of D sc_law_late_bent (fun _ _ _ _ _ _ us hl => match us, hl with | [_, _], _ => rfl) (fun vs H Q E h => ?_) (fun f cdv A outer s H vs Q E hr h => ?_)
  · obtain ⟨c, t, C, S, rfl, _⟩ := h
    rfl
  · obtain ⟨c, t, C, S, rfl, hC, ok, hS, inS, k1, k3, q⟩ := h
    have n60 := ok.n60
    have dC : Dp K H (.ref c) (.tuple [nD C.n, .tuple (C.roads.map pairD), lotD C.wished]) := dp_chart hC
    have dS : Dp K H (.ref t) (.tuple (S.map nD)) := dp_lot hS
    have lS : (S.map nD).length = S.length := List.length_map ..
    have lcut : ∀ {α : Type} (xs : List α) (lo hi : Option Int), (cutG xs lo hi).length ≤ xs.length := fun xs lo hi => by
      unfold cutG
      rw [List.length_take, List.length_drop]
      omega
    have lc := lcut (S.map nD) none (some (-1))
    refine ⟨_, (pss_cons (ps_set (i := 2) sc_law_late_bent.nd rfl (Or.inl rfl) (pe_lst (pa_cons pe_non (pa_cons (pe_tup pa_nil) (pa_cons (pe_op (show OpR _ _ (rCatA K) from op_catA) (pe_slice (show SlR _ (rSlA K) from sl_tupA) (pv 1) po_none (po_some (pe_un un_neg pe_int))) (pe_tup (pa_cons (pe_ix (show IxR _ (rIxT K) from ix_tup) (pv 0) pe_int (fun _ _ => rfl)) pa_nil))) (pa_cons (pe_op (show OpR _ _ (rCatA K) from op_catA) (pe_slice (show SlR _ (rSlA K) from sl_tupA) (pv 1) po_none (po_some (pe_un un_neg pe_int))) (pe_tup (pa_cons (pe_un un_neg pe_int) pa_nil))) (pa_cons (pe_op (show OpR _ _ (rRepA K) from op_repA) (pe_tup (pa_cons pe_bl pa_nil)) (pe_callB (show CallR _ _ (rLenS K) from call_lenS) (by rfl) T.len (by decide +kernel) (pa_cons (pv 1) pa_nil))) (pa_cons pe_str pa_nil))))))))
      (pss_cons (ps_for PassesOwn.never rfl (show PI _ _ _ (iList K _) from pi_list (pv 2)) (pg_name (i := 3) sc_law_late_bent.nd rfl (Or.inl rfl)) (pss_cons (ps_if (PW.pt (pw_or (pt_cmpR op_notBl (pe_c c_is_later hr (by decide) (by rfl) (pa_cons (pv 0) (pa_cons (pv 1) (pa_cons (pv 3) pa_nil)))) pe_bl (nomark _)) (pw_or1 (pt_cmpR op_notBl (pe_c c_is_later hr (by decide) (by rfl) (pa_cons (pv 0) (pa_cons (pv 3) (pa_cons (pv 1) pa_nil)))) pe_bl (nomark _))))) (pss_one (ps_ret pe_bl)) pss_nil)
        (pss_one (ps_if (pt_cmpR op_notBl (pe_c c_is_later hr (by decide) (by rfl) (pa_cons (pv 0) (pa_cons (pv 3) (pa_cons (pv 3) pa_nil)))) pe_bl (nomark _)) (pss_one (ps_ret pe_bl)) pss_nil))))
      (pss_one (ps_ret (pe_and (pe_cmpR op_isBl (pe_c c_is_later hr (by decide) (by rfl) (pa_cons pe_non (pa_cons (pv 1) (pa_cons (pv 1) pa_nil)))) pe_bl (nomark _)) (pe_one (pe_cmpR op_isBl (pe_c c_is_later hr (by decide) (by rfl) (pa_cons (pe_op (show OpR _ _ (rCatA K) from op_catA) (pe_slice (show SlR _ (rSlA K) from sl_tupA) (pv 0) po_none (po_some pe_int)) (pe_tup (pa_cons pe_non pa_nil))) (pa_cons (pv 1) (pa_cons (pv 1) pa_nil)))) pe_bl (nomark _)))))))), ?_⟩
    unfold tAsg
    have gs : GvA K (L2.start ["chart", "standing", "bad", "thing"] [V.ref c, V.ref t]) H (tCons (tC .non) (tCons (tTup tNil) (tCons (tOp (rCatA K) (tSl (rSlA K) (tVar 1) tNoPart (tPart (tUn (rU fun i => V.int (-i)) (tC (.int 1))))) (tTup (tCons (tOp (rIxT K) (tVar 0) (tC (.int 0))) tNil)))
        (tCons (tOp (rCatA K) (tSl (rSlA K) (tVar 1) tNoPart (tPart (tUn (rU fun i => V.int (-i)) (tC (.int 1))))) (tTup (tCons (tUn (rU fun i => V.int (-i)) (tC (.int 1))) tNil)))
        (tCons (tOp (rRepA K) (tTup (tCons (tC (.bl true)) tNil)) (tCB (rLenS K) (tCons (tVar 1) tNil))) (tCons (tC (.str "0")) tNil))))))
        [.none, .tuple [], .tuple (cutG (S.map nD) none (some (-1)) ++ [nD C.n]), .tuple (cutG (S.map nD) none (some (-1)) ++ [.int (-1)]), .tuple (List.replicate (S.map nD).length [PyData.bool true]).flatten, .str "0"] := by
      refine gva_cons gv_non (gva_cons (gv_tup gva_nil (by decide)) (gva_cons ?_ (gva_cons ?_ (gva_cons ?_ (gva_cons gv_str gva_nil)))))
      · exact gv_cat (gv_slTo (gv_var rfl dS) (gv_neg gv_int)) (gv_tup (gva_cons (gv_ixT (j := 0) (gv_var rfl dC) gv_int rfl) gva_nil) (by show 1 ≤ 1000; decide)) (by show _ + 1 ≤ 1000; omega)
      · exact gv_cat (gv_slTo (gv_var rfl dS) (gv_neg gv_int)) (gv_tup (gva_cons (gv_neg gv_int) gva_nil) (by show 1 ≤ 1000; decide)) (by show _ + 1 ≤ 1000; omega)
      · exact gv_rep (gv_tup (gva_cons gv_bl gva_nil) (by decide)) (gv_len (gv_var rfl dS)) (by simp) (by omega) (by omega) (by decide)
    have bads : ∀ d ∈ [PyData.none, .tuple [], .tuple (cutG (S.map nD) none (some (-1)) ++ [nD C.n]), .tuple (cutG (S.map nD) none (some (-1)) ++ [.int (-1)]), .tuple (List.replicate (S.map nD).length [PyData.bool true]).flatten, .str "0"], ∃ i, standErr C.n d = some i := by
      have int_bad : ∀ z : Int, (z < 0 ∨ (C.n : Int) ≤ z) → rngD C.n (.int z) = false := fun z hz => by
        cases e : rngD C.n (.int z) with
        | false => rfl
        | true =>
          have := numIn_int.mp e
          omega
      intro d hd
      simp only [List.mem_cons, List.not_mem_nil, or_false] at hd
      rcases hd with rfl | rfl | rfl | rfl | rfl | rfl
      · exact ⟨-1, rfl⟩
      · exact ⟨-1, rfl⟩
      · exact stand_bad (d := nD C.n) (by simp) (int_bad _ (by omega))
      · exact stand_bad (d := .int (-1)) (by simp) (int_bad _ (by omega))
      · refine stand_bad (d := .bool true) (List.mem_flatten.mpr ⟨[.bool true], List.mem_replicate.mpr ⟨by omega, rfl⟩, List.mem_singleton.mpr rfl⟩) rfl
      · exact ⟨-1, rfl⟩
    refine at_seq (lst_gv (K := K) gs (by show 6 ≤ 1000; decide) fun g xs H1 s1 hG1 hd1 => ?_)
    have hC1 := hC.same s1
    have hS1 := Same.sqT s1 hS
    refine ⟨_, rfl, g, rfl, ⟨_, .inl (.inl hG1)⟩, for_list (K := K) (xs := xs) (fun i σ H' => ∃ v3 : Option V, σ = [some (.ref c), some (.ref t), some (.ref g), v3] ∧ Same H1 H') ⟨_, rfl, fun _ _ h => h⟩ (fun i σ H' _ ⟨_, _, s⟩ => .inl (.inl (s _ _ hG1))) ?_ ?_⟩
    · rintro i x σ H2 hx ⟨v3, rfl, s2⟩
      obtain ⟨d, hd, dx⟩ := dpAll_get hd1 hx
      obtain ⟨j, hj⟩ := bads d (List.mem_of_getElem? hd)
      have no := stand_err ok hj
      refine ⟨_, rfl, _, rfl, _, rfl, .ref c, .ref t, x, _, _, _, rfl, dp_chart (hC1.same s2), dp_lot (Same.sqT s2 hS1), Dp.same s2 dx, (fun _ H3 s3' => ?_), fun C' S' U' ok' ec es eu a1 a2 a3 a4 a5 a6 => (no_later (.inr no) ok' ec es eu a1 a2 a3 a4 a5 a6).elim⟩
      have s3 := s2.trans s3'
      refine ⟨_, _, rfl, rfl, _, rfl, iteF ?_⟩
      refine ⟨_, rfl, _, rfl, _, rfl, .ref c, x, .ref t, _, _, _, rfl, dp_chart (hC1.same s3), Dp.same s3 dx, dp_lot (Same.sqT s3 hS1), (fun _ H4 s4' => ?_), fun C' S' U' ok' ec es eu a1 a2 a3 a4 a5 a6 => (no_later (.inl no) ok' ec es eu a1 a2 a3 a4 a5 a6).elim⟩
      have s4 := s3.trans s4'
      refine ⟨_, _, rfl, rfl, _, rfl, iteF ?_⟩
      refine ⟨_, rfl, _, rfl, _, rfl, .ref c, x, x, _, _, _, rfl, dp_chart (hC1.same s4), Dp.same s4 dx, Dp.same s4 dx, (fun _ H5 s5' => ?_), fun C' S' U' ok' ec es eu a1 a2 a3 a4 a5 a6 => (no_later (.inl no) ok' ec es eu a1 a2 a3 a4 a5 a6).elim⟩
      refine ⟨_, _, rfl, rfl, _, rfl, iteF ?_⟩
      exact ⟨_, rfl, s4.trans s5'⟩
    · rintro σ H2 ⟨v3, rfl, s2⟩
      have s02 := s1.trans s2
      have hS2 := Same.sqT s02 hS
      refine ⟨_, rfl, _, rfl, .non, .ref t, .ref t, .none, _, _, rfl, .non, dp_lot hS2, dp_lot hS2, (fun _ H3 s3 => ?_), fun C' S' U' ok' ec es eu a1 a2 a3 a4 a5 a6 => (no_later (.inl (stand_map (dc := .none) rfl)) ok' ec es eu a1 a2 a3 a4 a5 a6).elim⟩
      refine ⟨_, _, rfl, rfl, _, rfl, iteT ?_⟩
      have s03 := s02.trans s3
      have dC3 : Dp K H3 (.ref c) (.tuple [nD C.n, .tuple (C.roads.map pairD), lotD C.wished]) := dp_chart (hC.same s03)
      refine Gv.go (K := K) (σ := [some (.ref c), some (.ref t), some (.ref g), v3]) (t := tOp (rCatA K) (tSl (rSlA K) (tVar 0) tNoPart (tPart (tC (V.int 2)))) (tTup (tCons (tC V.non) tNil))) (d := .tuple (([nD C.n, .tuple (C.roads.map pairD), lotD C.wished] : List PyData).take 2 ++ [.none]))
        (gv_cat (gv_take (k := 2) (gv_var rfl dC3) gv_int) (gv_tup (gva_cons gv_non gva_nil) (by decide)) (by show 2 + 1 ≤ 1000; decide)) fun v H4 s4 dv => ?_
      have hS4 := Same.sqT (s03.trans s4) hS
      have em := (err_chart ok (.tuple (C.roads.map pairD)) .none).trans (mapErrN_wish (roads_none ok) rfl)
      refine ⟨_, rfl, _, rfl, v, .ref t, .ref t, _, _, _, rfl, dv, dp_lot hS4, dp_lot hS4, (fun _ H5 s5 => ?_), fun C' S' U' ok' ec es eu a1 a2 a3 a4 a5 a6 => (no_later (.inl (stand_map em)) ok' ec es eu a1 a2 a3 a4 a5 a6).elim⟩
      refine ⟨_, _, rfl, rfl, ?_⟩
      have z := q _ ((s03.trans s4).trans s5)
      simpa using z
end
end Ft

set_option Elab.async false
set_option linter.all false
set_option maxRecDepth 100000
set_option maxHeartbeats 8000000
namespace Ft
open PySem PySem.Spec PyProof.Rows L2
/-! ### later rows are no more than pieces and wished places to the power of threads -/
theorem least_in {C : Chart} {b : Nat} (hb : b < C.n) : leastOf C b ∈ C.wished ++ (unw C).filter (isLeast C) := by
  by_cases hw : b ∈ C.wished
  · have e : leastOf C b = b := by
      unfold leastOf pieceOf
      rw [if_pos hw]
      rfl
    rw [e]
    exact List.mem_append_left _ hw
  · refine List.mem_append_right _ (List.mem_filter.mpr ?_)
    have hm := least_mem hb
    have hp := (piece_mem hw).mp hm
    refine ⟨unw_mem.mpr ⟨hp.1, hp.2.1⟩, ?_⟩
    unfold isLeast
    refine decide_eq_true ?_
    rw [piece_eq hm]
    have := least_get hb
    rw [← List.head?_eq_getElem?] at this
    exact this
theorem firsts_single {C : Chart} {a : Nat} (ha : a < C.n) : (firstsOf C a).length ≤ singleOf C := by
  have h1 := nodup_sub_len (firstsOf C a) (C.wished ++ (unw C).filter (isLeast C)) ((those_up _ _).imp fun h => Nat.ne_of_lt h) fun f hf => by
    obtain ⟨_, b, hb, rfl⟩ := those_mem.mp hf
    exact least_in (later_lt ha hb)
  rw [List.length_append] at h1
  unfold singleOf piecesL
  rw [List.length_map]
  omega
theorem rows_single {C : Chart} : ∀ (S : List Nat) (rows : List (List Nat)) (m : Nat), (∀ x ∈ S, x < C.n) → rows.length ≤ m → (S.foldl (fun rows a => grow rows (firstsOf C a)) rows).length ≤ m * singleOf C ^ S.length
  | [], rows, m, _, h => by
    show rows.length ≤ m * 1
    omega
  | a :: S, rows, m, lt, h => by
    have h1 : (grow rows (firstsOf C a)).length ≤ m * singleOf C := by
      rw [grow_len]
      exact Nat.mul_le_mul h (firsts_single (lt a List.mem_cons_self))
    have := rows_single S (grow rows (firstsOf C a)) (m * singleOf C) (fun x hx => lt x (List.mem_cons_of_mem _ hx)) h1
    show _ ≤ m * singleOf C ^ (S.length + 1)
    rw [Nat.pow_succ, Nat.mul_comm (singleOf C ^ S.length) (singleOf C), ← Nat.mul_assoc]
    exact this
theorem laterRows_single {C : Chart} {S : List Nat} (lt : ∀ x ∈ S, x < C.n) : (laterRows C S).length ≤ singleOf C ^ S.length := by
  have h1 := rows_single S [[]] 1 lt (Nat.le_refl _)
  rw [Nat.one_mul] at h1
  exact h1
theorem grow_lt {rows : List (List Nat)} {fs : List Nat} {n : Nat} (h : ∀ r ∈ rows, ∀ x ∈ r, x < n) (hf : ∀ x ∈ fs, x < n) : ∀ r ∈ grow rows fs, ∀ x ∈ r, x < n := by
  intro r hr x hx
  obtain ⟨y, hy, h2⟩ := List.mem_flatMap.mp hr
  obtain ⟨f, hf', rfl⟩ := List.mem_map.mp h2
  rcases List.mem_append.mp hx with hx | hx
  · exact h y hy x hx
  · rw [List.mem_singleton.mp hx]
    exact hf f hf'
theorem rows_lt {C : Chart} : ∀ (S : List Nat) (rows : List (List Nat)), (∀ r ∈ rows, ∀ x ∈ r, x < C.n) → ∀ r ∈ S.foldl (fun rows a => grow rows (firstsOf C a)) rows, ∀ x ∈ r, x < C.n
  | [], rows, h => h
  | a :: S, rows, h => rows_lt S (grow rows (firstsOf C a)) (grow_lt h fun x hx => firsts_lt hx)
theorem laterRows_lt {C : Chart} {S : List Nat} : ∀ r ∈ laterRows C S, ∀ x ∈ r, x < C.n := rows_lt S [[]] fun r hr x hx => by
  rw [List.mem_singleton.mp hr] at hx
  cases hx
/-! ### what repr shows of them -/
theorem nats_tame : ∀ (l : List Nat), (∀ x ∈ l, x ≤ 1000) → tames (l.map fun (n : Nat) => .int (n : Int)) = true ∧ nodess (l.map fun (n : Nat) => .int (n : Int)) = l.length
  | [], _ => ⟨rfl, rfl⟩
  | x :: l, h => by
    obtain ⟨h1, h2⟩ := nats_tame l fun y hy => h y (List.mem_cons_of_mem _ hy)
    have hx := h x List.mem_cons_self
    rw [List.map_cons]
    simp only [tames, nodess, tame, nodes, h1, h2, Bool.and_true, decide_eq_true_eq, List.length_cons]
    exact ⟨by omega, by omega⟩
theorem nats_depth : ∀ (l : List Nat), PyData.depthAll (l.map fun (n : Nat) => .int (n : Int)) ≤ 1
  | [] => by simp [PyData.depthAll]
  | x :: l => by
    have := nats_depth l
    rw [List.map_cons]
    simp only [PyData.depthAll, PyData.depth]
    omega
theorem rows_tame : ∀ (rows : List (List Nat)), (∀ r ∈ rows, r.length ≤ 3 ∧ ∀ x ∈ r, x ≤ 1000) → tames (rows.map encL) = true ∧ nodess (rows.map encL) ≤ 4 * rows.length
  | [], _ => ⟨rfl, Nat.le_refl _⟩
  | r :: rows, h => by
    obtain ⟨h1, h2⟩ := rows_tame rows fun y hy => h y (List.mem_cons_of_mem _ hy)
    obtain ⟨l3, lt⟩ := h r List.mem_cons_self
    obtain ⟨t1, t2⟩ := nats_tame r lt
    rw [List.map_cons]
    simp only [tames, nodess, encL, tame, nodes, h1, t1, t2, Bool.and_self, List.length_cons]
    refine ⟨trivial, ?_⟩
    omega
theorem rows_depth : ∀ (rows : List (List Nat)), PyData.depthAll (rows.map encL) ≤ 2
  | [] => by simp [PyData.depthAll]
  | r :: rows => by
    have h1 := rows_depth rows
    have h2 := nats_depth r
    rw [List.map_cons]
    simp only [PyData.depthAll, encL, PyData.depth]
    omega
theorem shows_later {rows : List (List Nat)} (h : ∀ r ∈ rows, r.length ≤ 3 ∧ ∀ x ∈ r, x ≤ 1000) (few : rows.length ≤ 400) : Shows (.tuple (rows.map encL)) := by
  obtain ⟨h1, h2⟩ := rows_tame rows h
  refine shows_tame ?_ ?_ ?_
  · simp only [tame]
    exact h1
  · simp only [nodes]
    omega
  · have := rows_depth rows
    simp only [PyData.depth]
    omega
theorem shows_many {n : Nat} (h : n ≤ 1728000) : Shows (.tuple [.str "many", .int (n : Int)]) := by
  have lg : n.log2 < 21 := by
    by_cases e : n = 0
    · subst e; decide
    · rw [Nat.log2_lt e]
      exact Nat.lt_of_le_of_lt h (by decide)
  refine ⟨?_, ?_, ?_, ?_⟩
  · simp only [PyData.showable, PyData.showableAll, Int.natAbs_natCast, Bool.true_and, Bool.and_true, decide_eq_true_eq]
    omega
  · simp only [PyData.leavesShort, PyData.leavesShortAll, Bool.and_true, Bool.and_eq_true, decide_eq_true_eq]
    refine ⟨by decide, PyData.shown_int_le ?_⟩
    rw [Int.natAbs_natCast]
    exact Nat.lt_of_le_of_lt h (by decide)
  · simp only [PyData.weight, PyData.weightAll, Int.natAbs_natCast]
    have e : ("many" : Str).cps.size = 4 := by decide
    rw [e]
    split <;> omega
  · simp [PyData.depth, PyData.depthAll]
theorem dp_rows {K : PySem.W.Frag} {H : Hp} : ∀ {ts : List Addr} {lls : List (List Nat)}, RowsAt K H ts lls → DpAll K H (ts.map V.ref) (lls.map encL)
  | [], [], _ => .nil
  | _ :: _, _ :: _, .cons h r => .cons (dp_row h) (dp_rows r)
end Ft

set_option Elab.async false
set_option linter.all false
set_option maxRecDepth 100000
set_option maxHeartbeats 4000000
namespace Ft
open PySem PySem.Spec PyProof.Rows L2
open LamX (TabB TabS Tabs ExtN CodeO LamS lamSB lamS_by lamCx lamEnv GivesTo tLam)
/-- as pe_l, beside the tables of other defs -/
theorem pe_lT {X : Cx} {T : List (Addr × Str)} {TT : (XK → Hp → VK → Prop) → Hp → VK → Prop} {x : Str} {c P : Addr} (k : Nat) {j : Nat} {params : Arguments} {body : Expr} {scope : Scope} {t : XK → TE} {p lpos pos : Pos} (cl : CalL X.prog X.w X.K X.mg X.base x TT) (hg : Gl X x)
    (TB : TabB X.base X.mg c P) (hcode : X.env.code = .ref c) (hmT : (P, X.env.qual ++ "<lambda>") ∈ T) (hu : ∀ p ∈ T, p.1 = P → p.2 = X.env.qual ++ "<lambda>") (hr : Room j X.A) (hk : k + 2 ≤ j) (L : LamS X.env.scope scope) (hdef : defaultsOf params X.env = ([], []))
    (hbind : ∀ (q : Str) (cl : List (Str × Addr)) (pm cv ctv : Value), bindArgs (PySem.W.kla_fn "<lambda>" q params body scope cl pm cv ctv) ⟨[], []⟩ = pure [])
    (hbody : ∀ (A : Around) (outer : List Env) (s : Shared) (H : Hp) (E : XK) (f c' : Addr), Room k (A.deeper (lamEnv X scope s.heap.objs.size f c')) → PE (lamCx X A outer s H E scope f c') body (t E))
    (hdb : (x == ("__debug__" : Str)) = false := by decide) :
    PE X (.Call (.Name x p) [.Lambda params body scope lpos] [] pos) (tLam T TT t) := by
  obtain ⟨g, oc, od, kV, doc, pm, an, cdv, ct, osl, st, Ng, a, lk, hcd, kp, hm, b, S, h0, hv, hd, hcl, hG⟩ := cl.ex
  exact LamX.pe_lamcall (k := k) hg hm kp lk hcd b S h0 hv (hG X _ rfl rfl rfl rfl rfl) TB hcode hmT hu (hr.mono hk) L hdef hbind hbody hdb hd hcl
end Ft

set_option Elab.async false
set_option linter.all false
set_option maxRecDepth 100000
set_option maxHeartbeats 8000000
namespace Ft
open PySem PySem.Spec PyProof.Rows L2
open RZ
open LamX (TabB TabS Tabs ExtN CodeO)
theorem ext_tab {H H' : Hp} (e : ExtN H H') {C : Chart} {q : Addr} {rows : List Addr} (h : TabAt H C q rows) : TabAt H' C q rows :=
  ⟨h.len, e _ _ h.at_.top (fun _ z => nomatch z), fun a l z => e _ _ (h.at_.each a l z) (fun _ z => nomatch z)⟩
theorem metU_least {C : Chart} (ok : C.Ok) {a : Nat} (ha : a < C.n) : metU C [leastOf C a] = metU C [a] := by
  by_cases hw : a ∈ C.wished
  · have e : leastOf C a = a := by
      unfold leastOf pieceOf
      rw [if_pos hw]
      rfl
    rw [e]
  · have hm := (piece_mem hw).mp (least_mem ha)
    rcases hm.2.2 with e | ⟨r1, r2⟩
    · rw [e]
    · unfold metU
      refine those_is (those_up _ _) fun x => ?_
      rw [those_mem]
      refine and_congr_right fun _ => and_congr_right fun _ => ?_
      constructor
      · rintro ⟨y, hy, r⟩
        rw [List.mem_singleton.mp hy] at r
        exact ⟨a, List.mem_singleton.mpr rfl, r1.trans hm.2.1 r⟩
      · rintro ⟨y, hy, r⟩
        rw [List.mem_singleton.mp hy] at r
        exact ⟨leastOf C a, List.mem_singleton.mpr rfl, r2.trans hw r⟩
theorem firsts_least {C : Chart} (ok : C.Ok) {a : Nat} (ha : a < C.n) : firstsOf C (leastOf C a) = firstsOf C a := by
  unfold firstsOf laterL
  rw [metU_least ok ha, piece_least ok ha]
theorem fold_least {C : Chart} (ok : C.Ok) : ∀ (S : List Nat) (rows : List (List Nat)), (∀ x ∈ S, x < C.n) → S.foldl (fun rows a => grow rows (firstsOf C (leastOf C a))) rows = S.foldl (fun rows a => grow rows (firstsOf C a)) rows
  | [], _, _ => rfl
  | a :: S, rows, lt => by
    show S.foldl _ (grow rows (firstsOf C (leastOf C a))) = S.foldl _ (grow rows (firstsOf C a))
    rw [firsts_least ok (lt a List.mem_cons_self)]
    exact fold_least ok S _ fun x hx => lt x (List.mem_cons_of_mem _ hx)
theorem laterRows_row {C : Chart} (ok : C.Ok) {S : List Nat} (lt : ∀ x ∈ S, x < C.n) : laterRows C (rowOf C S) = laterRows C S := by
  unfold laterRows rowOf
  rw [List.foldl_map]
  exact fold_least ok S _ lt
def lamT2 (P1 P2 : Addr) : List (Addr × Str) := [(P1, (("_law_late_rows" : Str) ++ ".<locals>.") ++ "<lambda>"), (P2, (("_law_late_refused" : Str) ++ ".<locals>.") ++ "<lambda>")]
section
variable {P : Program} {w : World} {K : PySem.W.Frag} {mg : Str → Option Value} {base : Heap} {ca : Str → Addr} {cc P1 P2 : Addr}
/-! ### later_rows, of what is valid -/
def sp_later_rows (K : PySem.W.Frag) : Sp := fun vs H Q _ => ∃ (c t : Addr) (C : Chart) (S : List Nat), vs = [.ref c, .ref t] ∧ IsChart K H c C ∧ C.Ok ∧ SqT K H t (S.map vN) ∧ (∀ x ∈ S, x < C.n) ∧ 1 ≤ S.length ∧ S.length ≤ 3 ∧ singleOf C ^ S.length ≤ 400 ∧ ∀ q ts H', Same H H' → SqT K H' q (ts.map V.ref) → RowsAt K H' ts (laterRows C S) → Q (.ref q) H'
theorem calv_later_rows (c_later_rows : CalX P w K mg base 7 "later_rows" (spX_later_rows K ca)) : Cal P w K mg base 7 "later_rows" (sp_later_rows K) :=
  c_later_rows.valid fun vs H Q E ⟨c, t, C, S, e, isC, ok, hS, lt, l1, l3, small, q⟩ => ⟨_, _, _, _, e, dp_chart isC, dp_lot hS, .valid ok lt l1 l3 ⟨fun big => by omega, fun _ => q⟩⟩
/-! ### _law_late_rows -/
def sp_law_late_rows (K : PySem.W.Frag) (P1 P2 : Addr) : Sp := fun vs H Q _ => ∃ (c tb t : Addr) (C : Chart) (rows : List Addr) (S : List Nat), vs = [.ref c, .ref tb, .ref t] ∧ IsChart K H c C ∧ C.Ok ∧ TabAt H C tb rows ∧ SqT K H t (S.map vN) ∧ (∀ x ∈ S, x < C.n) ∧ 1 ≤ S.length ∧ S.length ≤ 3 ∧ Tabs (lamT2 P1 P2) H ∧
  ∀ H', ExtN H H' → Tabs (lamT2 P1 P2) H' → Q (.bl true) H'
theorem cal_law_late_rows (T : Txt mg) (D : DefT K mg "_law_late_rows" s_law_late_rows cc) (tb : TabB base mg cc P1) (ne : P1 ≠ P2) (l_law_heard : CalL P w K mg base "_law_heard" (TTHeard ca)) (c_law_map_size : Cal P w K mg base 4 "_law_map_size" (sp_law_map_size K)) (c_later_rows : CalX P w K mg base 7 "later_rows" (spX_later_rows K ca)) (v_later_rows : Cal P w K mg base 7 "later_rows" (sp_later_rows K))
    (c_law_map_later : Cal P w K mg base 3 "_law_map_later" (sp_law_map_later K)) (c_law_map_row : Cal P w K mg base 3 "_law_map_row" (sp_law_map_row K)) : CalG P w K mg base 20 "_law_late_rows" (sp_law_late_rows K P1 P2) := by
  refine calG_ofT D sc_law_late_rows (fun _ _ _ _ _ _ us hl => match us, hl with | [_, _, _], _ => rfl) (fun vs H Q E h => ?_) (fun f A outer s H vs Q E hg hr h => ?_)
  · obtain ⟨c, tbl, t, C, rows, S, rfl, _⟩ := h
    rfl
  · obtain ⟨c, tbl, t, C, rows, S, rfl, hC, ok, hT, hS, inS, k1, k3, tabs, q⟩ := h
    have hU := hr.units
    have hG := hg
    have n60 := ok.n60
    obtain ⟨T0, eT0⟩ : ∃ T0, T0 = lamT2 P1 P2 := ⟨_, rfl⟩
    have lmem : (P1, (("_law_late_rows" : Str) ++ ".<locals>.") ++ "<lambda>") ∈ T0 := by rw [eT0]; exact List.mem_cons_self
    have luniq : ∀ p ∈ T0, p.1 = P1 → p.2 = (("_law_late_rows" : Str) ++ ".<locals>.") ++ "<lambda>" := by
      intro p hp e
      rw [eT0] at hp
      simp only [lamT2, List.mem_cons, List.not_mem_nil, or_false] at hp
      rcases hp with rfl | rfl
      · rfl
      · exact absurd e.symm ne
    refine ⟨_, (pss_cons (ps_set (i := 3) sc_law_late_rows.nd rfl (Or.inl rfl) (pe_c c_law_map_size hr (by decide) (by rfl) (pa_cons (pv 0) (pa_cons (pv 1) (pa_cons (pe_callB (show CallR _ _ (rLenS K) from call_lenS) (by rfl) T.len (by decide +kernel) (pa_cons (pv 2) pa_nil)) pa_nil)))))
      (pss_cons (ps_if (pt_cmpR op_gt (pv 3) pe_int (nomark _)) (pss_one (ps_ret (pe_cmpR op_eq (pe_callB (show CallR _ _ (rRepr K) from cr_repr hG hU) (by rfl) T.repr (by decide +kernel) (pa_cons (pe_lT (T := T0) 12 l_law_heard (by rfl) tb rfl lmem luniq hr (by decide) (lam_scope (sc := L2.defScope s_law_late_rows) rfl (by decide +kernel)) (by rfl) (fun _ _ _ _ _ => by rfl) (fun A outer s H E f c' hr => (pe_x lam_takes c_later_rows hr (by decide) (by rfl) (pa_cons (pv 0) (pa_cons (pv 2) pa_nil))))) pa_nil)) (pe_callB (show CallR _ _ (rRepr K) from cr_repr hG hU) (by rfl) T.repr (by decide +kernel) (pa_cons (pe_tup (pa_cons pe_str (pa_cons (pv 3) pa_nil))) pa_nil)) (nomark _)))) pss_nil)
      (pss_cons (ps_set (i := 4) sc_law_late_rows.nd rfl (Or.inl rfl) (pe_callB (show CallR _ _ (rRepr K) from cr_repr hG hU) (by rfl) T.repr (by decide +kernel) (pa_cons (pe_callTy (show CallR _ _ (rTupleOf K) from call_tupleOf) (by rfl) T.tuple (by decide +kernel) (pa_cons (pe_c c_law_map_later hr (by decide) (by rfl) (pa_cons (pv 0) (pa_cons (pv 1) (pa_cons (pv 2) pa_nil)))) pa_nil)) pa_nil)))
      (pss_one (ps_ret (pe_and (pe_cmpR op_eq (pe_callB (show CallR _ _ (rRepr K) from cr_repr hG hU) (by rfl) T.repr (by decide +kernel) (pa_cons (pe_c v_later_rows hr (by decide) (by rfl) (pa_cons (pv 0) (pa_cons (pv 2) pa_nil))) pa_nil)) (pv 4) (nomark _)) (pe_one (pe_cmpR op_eq (pe_callB (show CallR _ _ (rRepr K) from cr_repr hG hU) (by rfl) T.repr (by decide +kernel) (pa_cons (pe_c v_later_rows hr (by decide) (by rfl) (pa_cons (pv 0) (pa_cons (pe_c c_law_map_row hr (by decide) (by rfl) (pa_cons (pv 0) (pa_cons (pv 1) (pa_cons (pv 2) pa_nil)))) pa_nil))) pa_nil)) (pv 4) (nomark _))))))))), ?_⟩
    have s120 := single_le ok
    have pw : singleOf C ^ S.length ≤ 1728000 := by
      calc singleOf C ^ S.length ≤ 120 ^ S.length := Nat.pow_le_pow_left s120 _
        _ ≤ 120 ^ 3 := Nat.pow_le_pow_right (by omega) (by omega)
        _ ≤ 1728000 := by decide
    refine ⟨_, rfl, _, rfl, _, rfl, t, _, rfl, .inr hS, c, tbl, C, rows, S.length, by rw [List.length_map]; rfl, hC, ok, hT, k3, fun H1 s1 => ?_⟩
    have hC1 := hC.same s1
    have hS1 := Same.sqT s1 hS
    have tabs1 := tabs_same tabs s1
    refine ⟨_, rfl, _, _, rfl, rfl, _, rfl, ?_⟩
    by_cases big : 400 < singleOf C ^ S.length
    · rw [decide_eq_true (show (400 : Int) < ((singleOf C ^ S.length : Nat) : Int) by omega)]
      refine iteT ?_
      subst eT0
      refine ⟨tabs1, fun H2 e2 t2 => ?_⟩
      have hC2 := ext_chart e2 hC1
      have hS2 := ext_sqT e2 hS1
      refine ⟨fun cls d H' => cls = .ref (ca "TooMany") ∧ ∃ dd, d = some dd ∧ H' dd = some (.xd [("what", vN (singleOf C ^ S.length))]) ∧ Same H2 H', fun _ _ => False, ⟨_, rfl, _, rfl, _, _, _, _, rfl, dp_chart hC2, dp_lot hS2, .valid ok inS k1 k3 ⟨fun _ => ?_, fun small => by omega⟩⟩, (fun _ _ z => z.elim), ?_⟩
      · intro d H' v s' hd hv
        cases dp_int hv
        exact ⟨rfl, d, rfl, hd, s'⟩
      · rintro cls d H' ⟨rfl, dd, rfl, hd, s'⟩
        refine ⟨"TooMany", "many", dd, _, rfl, rfl, hd, .many, fun p hp => ?_⟩
        have s3 : Same H2 (upd H' p (.tup [.str "many", vN (singleOf C ^ S.length)])) := s'.trans (same_upd hp)
        have hp3 : SqT K (upd H' p (.tup [.str "many", vN (singleOf C ^ S.length)])) p [.str "many", vN (singleOf C ^ S.length)] := .inl (.inl upd_same)
        generalize upd H' p (.tup [.str "many", vN (singleOf C ^ S.length)]) = H3 at s3 hp3
        refine ⟨_, .tuple [.str "many", .int ((singleOf C ^ S.length : Nat) : Int)], rfl, .tup hp3 (.cons (.str _) (.cons (.int _) .nil)), shows_many pw, ?_⟩
        refine ⟨_, rfl, (by show 2 ≤ sizeLine; decide), fun p4 hp4 => ?_⟩
        have s4 : Same H3 (upd H3 p4 (.tup [.str "many", vN (singleOf C ^ S.length)])) := same_upd hp4
        refine ⟨_, .tuple [.str "many", .int ((singleOf C ^ S.length : Nat) : Int)], rfl, .tup (.inl (.inl upd_same)) (.cons (.str _) (.cons (.int _) .nil)), shows_many pw, ?_⟩
        refine ⟨rfl, ?_⟩
        have z := q _ (ExtN.trans (ext_same s1) (ExtN.trans e2 (ext_same (s3.trans s4)))) (tabs_same t2 (s3.trans s4))
        simpa using z
    · rw [decide_eq_false (show ¬ (400 : Int) < ((singleOf C ^ S.length : Nat) : Int) by omega)]
      refine iteF ?_
      have small : singleOf C ^ S.length ≤ 400 := by omega
      have shR : Shows (.tuple ((laterRows C S).map encL)) := shows_later (fun r hr => ⟨by rw [laterRows_each r hr]; exact k3, fun x hx => by have := laterRows_lt r hr x hx; omega⟩) (Nat.le_trans (laterRows_single inS) small)
      refine ⟨_, rfl, _, rfl, _, rfl, c, tbl, t, C, rows, S, rfl, hC1, ok, hT.same s1, hS1, inS, k3, fun g ts H2 s2 hG2 hR2 => ?_⟩
      refine ⟨g, _, rfl, .inl ⟨.inl (.inl hG2), fun tp htp => ?_⟩⟩
      have s3 : Same H2 (upd H2 tp (.tup (ts.map V.ref))) := same_upd htp
      have hP3 : SqT K (upd H2 tp (.tup (ts.map V.ref))) tp (ts.map V.ref) := .inl (.inl upd_same)
      generalize upd H2 tp (.tup (ts.map V.ref)) = H3 at s3 hP3
      have s13 := s2.trans s3
      refine ⟨_, .tuple ((laterRows C S).map encL), rfl, .tup hP3 (dp_rows (hR2.same s3)), shR, ?_⟩
      have hC3 := hC1.same s13
      have hS3 := Same.sqT s13 hS1
      refine ⟨_, rfl, _, rfl, c, t, C, S, rfl, hC3, ok, hS3, inS, k1, k3, small, fun q4 ts4 H4 s4 hq4 hr4 => ?_⟩
      refine ⟨_, .tuple ((laterRows C S).map encL), rfl, .tup hq4 (dp_rows hr4), shR, ?_⟩
      refine ⟨_, rfl, rfl, _, rfl, ite_any (fun _ => ?_) (fun h => absurd h (by simp))⟩
      have s14 := s13.trans s4
      have s04 := s1.trans s14
      refine ⟨_, rfl, _, rfl, _, rfl, _, rfl, c, tbl, t, C, rows, S, rfl, hC.same s04, ok, hT.same s04, Same.sqT s04 hS, inS, by omega, fun rq H5 s5 hrow => ?_⟩
      have lr : (rowOf C S).length = S.length := row_len
      refine ⟨c, rq, C, rowOf C S, rfl, hC.same (s04.trans s5), ok, hrow, row_lt' inS, by omega, by omega, by rw [lr]; exact small, fun q6 ts6 H6 s6 hq6 hr6 => ?_⟩
      rw [laterRows_row ok inS] at hr6
      refine ⟨_, .tuple ((laterRows C S).map encL), rfl, .tup hq6 (dp_rows hr6), shR, ?_⟩
      refine ⟨_, rfl, rfl, ?_⟩
      have z := q _ (ext_same ((s04.trans s5).trans s6)) (tabs_same tabs ((s04.trans s5).trans s6))
      simpa using z
end
end Ft

set_option Elab.async false
set_option linter.all false
set_option maxRecDepth 100000
set_option maxHeartbeats 8000000
namespace Ft
open PySem PySem.Spec PyProof.Rows L2
open RZ
open LamX (TabB TabS Tabs ExtN CodeO)
theorem noPlace_app {n : Nat} : ∀ {ws : List Nat} {i : Nat}, (∀ x ∈ ws, x < n) → noPlace n i (ws.map nD ++ [nD n]) = some (i + ws.length)
  | [], i, _ => by
    show noPlace n i (nD n :: []) = some (i + 0)
    rw [noPlace_cons, if_neg]
    · rfl
    · intro h
      have := numIn_nat.mp h
      omega
  | w :: ws, i, lt => by
    show noPlace n i (nD w :: (ws.map nD ++ [nD n])) = some (i + (ws.length + 1))
    rw [noPlace_cons, if_pos (rngD_nat (lt w List.mem_cons_self)), noPlace_app fun x hx => lt x (List.mem_cons_of_mem _ hx)]
    congr 1
    omega
theorem dpAll_two' {K : PySem.W.Frag} {H : Hp} {xs : List V} {d e : PyData} (h : DpAll K H xs [d, e]) : ∃ x y, xs = [x, y] ∧ Dp K H x d ∧ Dp K H y e := by
  cases h with
  | cons h1 r =>
    cases r with
    | cons h2 r =>
      cases r
      exact ⟨_, _, rfl, h1, h2⟩
section
variable {P : Program} {w : World} {K : PySem.W.Frag} {mg : Str → Option Value} {base : Heap} {ca : Str → Addr} {cc P1 P2 : Addr}
/-! ### _law_late_refused -/
def sp_law_late_refused (K : PySem.W.Frag) (P1 P2 : Addr) : Sp := fun vs H Q _ => ∃ (c t : Addr) (C : Chart) (S : List Nat), vs = [.ref c, .ref t] ∧ IsChart K H c C ∧ C.Ok ∧ SqT K H t (S.map vN) ∧ (∀ x ∈ S, x < C.n) ∧ 1 ≤ S.length ∧ S.length ≤ 3 ∧ Tabs (lamT2 P1 P2) H ∧
  ∀ H', ExtN H H' → Tabs (lamT2 P1 P2) H' → Q (.bl true) H'
theorem cal_law_late_refused (T : Txt mg) (D : DefT K mg "_law_late_refused" s_law_late_refused cc) (tb : TabB base mg cc P2) (ne : P1 ≠ P2) (l_law_heard : CalL P w K mg base "_law_heard" (TTHeard ca)) (c_later_rows : CalX P w K mg base 7 "later_rows" (spX_later_rows K ca)) : CalG P w K mg base 20 "_law_late_refused" (sp_law_late_refused K P1 P2) := by
  refine calG_ofT D sc_law_late_refused (fun _ _ _ _ _ _ us hl => match us, hl with | [_, _], _ => rfl) (fun vs H Q E h => ?_) (fun f A outer s H vs Q E hg hr h => ?_)
  · obtain ⟨c, t, C, S, rfl, _⟩ := h
    rfl
  · obtain ⟨c, t, C, S, rfl, hC, ok, hS, inS, k1, k3, tabs, q⟩ := h
    have hU := hr.units
    have hG := hg
    have n60 := ok.n60
    obtain ⟨T0, eT0⟩ : ∃ T0, T0 = lamT2 P1 P2 := ⟨_, rfl⟩
    have lmem : (P2, (("_law_late_refused" : Str) ++ ".<locals>.") ++ "<lambda>") ∈ T0 := by rw [eT0]; exact List.mem_cons_of_mem _ List.mem_cons_self
    have luniq : ∀ p ∈ T0, p.1 = P2 → p.2 = (("_law_late_refused" : Str) ++ ".<locals>.") ++ "<lambda>" := by
      intro p hp e
      rw [eT0] at hp
      simp only [lamT2, List.mem_cons, List.not_mem_nil, or_false] at hp
      rcases hp with rfl | rfl
      · exact absurd e ne
      · rfl
    have dC : Dp K H (.ref c) (.tuple [nD C.n, .tuple (C.roads.map pairD), lotD C.wished]) := dp_chart hC
    have dS : Dp K H (.ref t) (.tuple (S.map nD)) := dp_lot hS
    have lS : (S.map nD).length = S.length := List.length_map ..
    have lc : (cutG (S.map nD) none (some (-1))).length ≤ 3 := by
      unfold cutG
      rw [List.length_take, List.length_drop]
      omega
    refine ⟨_, (pss_cons (ps_set (i := 2) sc_law_late_refused.nd rfl (Or.inl rfl) (pe_lst (pa_cons (pe_tup (pa_cons (pe_tup (pa_cons pe_non (pa_cons pe_non pa_nil))) (pa_cons (pe_tup (pa_cons pe_str (pa_cons (pe_un un_neg pe_int) pa_nil))) pa_nil))) (pa_cons (pe_tup (pa_cons (pe_tup (pa_cons (pe_op (show OpR _ _ (rCatA K) from op_catA) (pe_slice (show SlR _ (rSlA K) from sl_tupA) (pv 0) po_none (po_some pe_int)) (pe_tup (pa_cons pe_non pa_nil))) (pa_cons pe_non pa_nil))) (pa_cons (pe_tup (pa_cons pe_str (pa_cons (pe_un un_neg pe_int) pa_nil))) pa_nil))) (pa_cons (pe_tup (pa_cons (pe_tup (pa_cons (pv 0) (pa_cons pe_non pa_nil))) (pa_cons (pe_tup (pa_cons pe_str (pa_cons (pe_un un_neg pe_int) pa_nil))) pa_nil))) (pa_cons (pe_tup (pa_cons (pe_tup (pa_cons (pv 0) (pa_cons (pe_op (show OpR _ _ (rCatA K) from op_catA) (pe_slice (show SlR _ (rSlA K) from sl_tupA) (pv 1) po_none (po_some (pe_un un_neg pe_int))) (pe_tup (pa_cons (pe_ix (show IxR _ (rIxT K) from ix_tup) (pv 0) pe_int (fun _ _ => rfl)) pa_nil))) pa_nil))) (pa_cons (pe_tup (pa_cons pe_str (pa_cons (pe_op op_sub (pe_callB (show CallR _ _ (rLenS K) from call_lenS) (by rfl) T.len (by decide +kernel) (pa_cons (pv 1) pa_nil)) pe_int) pa_nil))) pa_nil))) (pa_cons (pe_tup (pa_cons (pe_tup (pa_cons (pv 0) (pa_cons (pe_tup pa_nil) pa_nil))) (pa_cons (pe_tup (pa_cons pe_str (pa_cons (pe_un un_neg pe_int) pa_nil))) pa_nil))) pa_nil)))))))
      (pss_cons (ps_for PassesOwn.never rfl (show PI _ _ _ (iList K _) from pi_list (pv 2)) (show PG _ _ (gTup K 2 _) from pg_tup (by rfl) (pgs_cons (pg_name (i := 3) sc_law_late_refused.nd rfl (Or.inr rfl)) (pgs_cons (pg_name (i := 4) sc_law_late_refused.nd rfl (Or.inl rfl)) pgs_nil))) (pss_one (ps_if (pt_cmpR op_ne (pe_callB (show CallR _ _ (rRepr K) from cr_repr hG hU) (by rfl) T.repr (by decide +kernel) (pa_cons (pe_lT (T := T0) 12 l_law_heard (by rfl) tb rfl lmem luniq hr (by decide) (lam_scope (sc := L2.defScope s_law_late_refused) rfl (by decide +kernel)) (by rfl) (fun _ _ _ _ _ => by rfl) (fun A outer s H E f c' hr => (pe_x lam_takes c_later_rows hr (by decide) (by rfl) (pa_cons (pe_ix (show IxR _ (rIxT K) from ix_tup) (pv 3) pe_int (fun _ _ => rfl)) (pa_cons (pe_ix (show IxR _ (rIxT K) from ix_tup) (pv 3) pe_int (fun _ _ => rfl)) pa_nil))))) pa_nil)) (pe_callB (show CallR _ _ (rRepr K) from cr_repr hG hU) (by rfl) T.repr (by decide +kernel) (pa_cons (pv 4) pa_nil)) (nomark _)) (pss_one (ps_ret pe_bl)) pss_nil)))
      (pss_one (ps_ret pe_bl)))), ?_⟩
    rw [← eT0] at tabs q
    clear eT0
    unfold tAsg
    refine at_seq ?_
    refine lst_gv (K := K) (ds := [.tuple [.tuple [.none, .none], .tuple [.str "map", .int (-1)]], .tuple [.tuple [.tuple (([nD C.n, .tuple (C.roads.map pairD), lotD C.wished] : List PyData).take 2 ++ [.none]), .none], .tuple [.str "wish", .int (-1)]],
        .tuple [.tuple [.tuple [nD C.n, .tuple (C.roads.map pairD), lotD C.wished], .none], .tuple [.str "standing", .int (-1)]], .tuple [.tuple [.tuple [nD C.n, .tuple (C.roads.map pairD), lotD C.wished], .tuple (cutG (S.map nD) none (some (-1)) ++ [nD C.n])], .tuple [.str "standing", .int (((S.map nD).length : Nat) - 1)]],
        .tuple [.tuple [.tuple [nD C.n, .tuple (C.roads.map pairD), lotD C.wished], .tuple []], .tuple [.str "standing", .int (-1)]]]) ?_ (by show 5 ≤ 1000; decide) fun g xs H1 s1 hG1 hd1 => ?_
    · have two : ∀ {a b : PyData}, [a, b].length ≤ 1000 := by intro a b; show 2 ≤ 1000; decide
      have g1 : GvA K (L2.start ["chart", "standing", "bent", "arguments", "due"] [V.ref c, V.ref t]) H (tCons (tC (.str "standing")) (tCons (tUn (rU fun i => V.int (-i)) (tC (.int 1))) tNil)) [.str "standing", .int (-1)] := gva_cons gv_str (gva_cons (gv_neg gv_int) gva_nil)
      refine gva_cons (gv_tup (gva_cons (gv_tup (gva_cons gv_non (gva_cons gv_non gva_nil)) two) (gva_cons (gv_tup (gva_cons gv_str (gva_cons (gv_neg gv_int) gva_nil)) two) gva_nil)) two) (gva_cons ?_ (gva_cons ?_ (gva_cons ?_ (gva_cons ?_ gva_nil))))
      · exact gv_tup (gva_cons (gv_tup (gva_cons (gv_cat (gv_take (k := 2) (gv_var rfl dC) gv_int) (gv_tup (gva_cons gv_non gva_nil) (by decide)) (by show 2 + 1 ≤ 1000; decide)) (gva_cons gv_non gva_nil)) two) (gva_cons (gv_tup (gva_cons gv_str (gva_cons (gv_neg gv_int) gva_nil)) two) gva_nil)) two
      · exact gv_tup (gva_cons (gv_tup (gva_cons (gv_var rfl dC) (gva_cons gv_non gva_nil)) two) (gva_cons (gv_tup g1 two) gva_nil)) two
      · exact gv_tup (gva_cons (gv_tup (gva_cons (gv_var rfl dC) (gva_cons (gv_cat (gv_slTo (gv_var rfl dS) (gv_neg gv_int)) (gv_tup (gva_cons (gv_ixT (j := 0) (gv_var rfl dC) gv_int rfl) gva_nil) (by show 1 ≤ 1000; decide)) (by show _ + 1 ≤ 1000; omega)) gva_nil)) two) (gva_cons (gv_tup (gva_cons gv_str (gva_cons (gv_sub (gv_len (gv_var rfl dS)) gv_int) gva_nil)) two) gva_nil)) two
      · exact gv_tup (gva_cons (gv_tup (gva_cons (gv_var rfl dC) (gva_cons (gv_tup gva_nil (by decide)) gva_nil)) two) (gva_cons (gv_tup g1 two) gva_nil)) two
    have hC1 := hC.same s1
    have tabs1 := tabs_same tabs s1
    refine ⟨_, rfl, g, rfl, ⟨_, .inl (.inl hG1)⟩, for_list (K := K) (xs := xs) (fun i σ H' => ∃ v3 v4 : Option V, σ = [some (.ref c), some (.ref t), some (.ref g), v3, v4] ∧ ExtN H1 H' ∧ Tabs T0 H') ⟨_, _, rfl, ExtN.refl _, tabs1⟩ (fun i σ H' _ ⟨_, _, _, e, _⟩ => ext_sqL e (.inl (.inl hG1))) ?_ ?_⟩
    · rintro i x σ H2 hx ⟨v3, v4, rfl, e2, t2⟩
      obtain ⟨d, hd, dx⟩ := dpAll_get hd1 hx
      obtain ⟨dc, ds, x', y', j, ed, er, hw, hj⟩ : ∃ (dc ds : PyData) (x' y' : Str) (j : Int), d = .tuple [.tuple [dc, ds], .tuple [.str y', .int j]] ∧ SErr dc ds x' j ∧ HW x' y' ∧ j.natAbs ≤ 1000 := by
        match i, hd with
        | 0, hd => cases hd; exact ⟨_, _, _, _, _, rfl, .inl rfl, .map, by decide⟩
        | 1, hd => cases hd; exact ⟨_, _, _, _, _, rfl, .inl ((err_chart ok (.tuple (C.roads.map pairD)) .none).trans (mapErrN_wish (roads_none ok) rfl)), .wish, by decide⟩
        | 2, hd => cases hd; exact ⟨_, _, _, _, _, rfl, .inr ⟨C, ok, rfl, rfl, rfl⟩, .standing, by decide⟩
        | 3, hd =>
          cases hd
          refine ⟨_, _, _, _, _, rfl, .inr ⟨C, ok, rfl, rfl, ?_⟩, .standing, by rw [lS]; omega⟩
          rw [cutG_init, lS, ← List.map_take]
          have lt : ∀ x ∈ S.take (S.length - 1), x < C.n := fun x hx => inS x (List.mem_of_mem_take hx)
          have ll : ((S.take (S.length - 1)).map nD ++ [nD C.n]).length = S.length := by
            rw [List.length_append, List.length_map, List.length_take, List.length_singleton]
            omega
          show standErr C.n (.tuple ((S.take (S.length - 1)).map nD ++ [nD C.n])) = _
          have e1 : standErr C.n (.tuple ((S.take (S.length - 1)).map nD ++ [nD C.n])) = optI (noPlace C.n 0 ((S.take (S.length - 1)).map nD ++ [nD C.n])) := if_pos ⟨by omega, by omega⟩
          rw [e1, noPlace_app lt, List.length_take]
          show some _ = some _
          congr 1
          omega
        | 4, hd => cases hd; exact ⟨_, _, _, _, _, rfl, .inr ⟨C, ok, rfl, rfl, rfl⟩, .standing, by decide⟩
        | n + 5, hd => cases hd
      subst ed
      obtain ⟨tt, zs, rfl, hTt, hZ⟩ := dp_tup (dp_ext e2 _ _ dx)
      obtain ⟨va, vd, rfl, dva, dvd⟩ := dpAll_two' hZ
      obtain ⟨ta, zs2, rfl, hTa, hZ2⟩ := dp_tup dva
      obtain ⟨v1, v2, rfl, dv1, dv2⟩ := dpAll_two' hZ2
      have sh := told_shows hw hj
      refine ⟨tt, _, rfl, hTt, rfl, _, _, rfl, _, _, rfl, rfl, ?_⟩
      refine ⟨t2, fun H3 e3 t3 => ?_⟩
      have hTa3 := ext_sqT e3 hTa
      refine ⟨fun cls d H' => cls = .ref (ca x') ∧ ∃ dd, d = some dd ∧ H' dd = some (.xd [("what", .int j)]) ∧ Same H3 H', fun _ _ => False, ?_, (fun _ _ z => z.elim), ?_⟩
      · refine ⟨_, rfl, ta, _, (0 : Int), v1, rfl, rfl, hTa3, atI_nat (j := 0) rfl, _, rfl, ta, _, (1 : Int), v2, rfl, rfl, hTa3, atI_nat (j := 1) rfl, v1, v2, dc, ds, rfl, dp_ext e3 _ _ dv1, dp_ext e3 _ _ dv2, .of_err er fun d H' v s' hd hv => ?_⟩
        cases dp_int hv
        exact ⟨rfl, d, rfl, hd, s'⟩
      · rintro cls d H' ⟨rfl, dd, rfl, hd, s'⟩
        refine ⟨x', y', dd, _, rfl, rfl, hd, hw, fun p hp => ?_⟩
        have s4 : Same H3 (upd H' p (.tup [.str y', .int j])) := s'.trans (same_upd hp)
        refine ⟨_, .tuple [.str y', .int j], rfl, .tup (.inl (.inl upd_same)) (.cons (.str _) (.cons (.int _) .nil)), sh, ?_⟩
        have e34 := ExtN.trans e3 (ext_same s4)
        refine ⟨_, rfl, _, .tuple [.str y', .int j], rfl, dp_ext e34 _ _ dvd, sh, ?_⟩
        refine ⟨rfl, _, rfl, ite_any (fun h => absurd h (by simp)) (fun _ => ?_)⟩
        exact ⟨_, _, rfl, ExtN.trans e2 e34, tabs_same t3 s4⟩
    · rintro σ H2 ⟨v3, v4, rfl, e2, t2⟩
      exact q _ (ExtN.trans (ext_same s1) e2) t2
end
end Ft

set_option Elab.async false
set_option linter.all false
set_option maxRecDepth 100000
set_option maxHeartbeats 8000000
namespace Ft
open PySem PySem.Spec PyProof.Rows L2
open RZ
open LamX (TabB TabS Tabs ExtN CodeO)
def greatRoads (rg pl : Nat) : List (Nat × Nat) := ((List.range rg).map fun a => (a, (a + 1) % rg)) ++ [(rg - 1, rg), (rg, pl - 1)]
def greatChart (rg pl : Nat) (ws : List Nat) : Chart := ⟨pl, greatRoads rg pl, ws⟩
theorem great_four {rg : Nat} (h1 : 1 ≤ rg) (h4 : rg ≤ 4) {Pr : Nat → Prop} (p1 : Pr 1) (p2 : Pr 2) (p3 : Pr 3) (p4 : Pr 4) : Pr rg := by
  have : rg = 1 ∨ rg = 2 ∨ rg = 3 ∨ rg = 4 := by omega
  rcases this with rfl | rfl | rfl | rfl <;> assumption
theorem great_up {rg pl : Nat} (h1 : 1 ≤ rg) (h4 : rg ≤ 4) (h18 : 18 ≤ pl) : (greatRoads rg pl).Pairwise ltP :=
  great_four h1 h4 (Pr := fun rg => (greatRoads rg pl).Pairwise ltP) (by simp [greatRoads, List.range_succ, ltP]) (by simp [greatRoads, List.range_succ, ltP]) (by simp [greatRoads, List.range_succ, ltP]) (by simp [greatRoads, List.range_succ, ltP])
theorem great_in {rg pl : Nat} (h1 : 1 ≤ rg) (h4 : rg ≤ 4) (h18 : 18 ≤ pl) : ∀ p ∈ greatRoads rg pl, p.1 < pl ∧ p.2 < pl :=
  great_four h1 h4 (Pr := fun rg => ∀ p ∈ greatRoads rg pl, p.1 < pl ∧ p.2 < pl) (by simp [greatRoads, List.range_succ]; omega) (by simp [greatRoads, List.range_succ]; omega) (by simp [greatRoads, List.range_succ]; omega) (by simp [greatRoads, List.range_succ]; omega)
theorem great_ok {rg pl : Nat} {ws : List Nat} (h1 : 1 ≤ rg) (h4 : rg ≤ 4) (h18 : 18 ≤ pl) (h25 : pl ≤ 25) (hw : ws = [pl - 1] ∨ ws = []) : (greatChart rg pl ws).Ok := by
  refine ⟨by show pl ≤ 60; omega, ?_, great_in h1 h4 h18, great_up h1 h4 h18, ?_, ?_⟩
  · show (greatRoads rg pl).length ≤ 240
    unfold greatRoads
    rw [List.length_append, List.length_map, List.length_range]
    show rg + 2 ≤ 240
    omega
  · show ∀ a ∈ ws, a < pl
    rcases hw with rfl | rfl
    · intro a ha
      rw [List.mem_singleton.mp ha]
      omega
    · exact fun _ h => nomatch h
  · show ws.Pairwise (· < ·)
    rcases hw with rfl | rfl
    · exact List.pairwise_singleton _ _
    · exact .nil
theorem le_pair {p q : Nat × Nat} (h : ltP p q) : decide (iN [p.1, p.2] ≤ iN [q.1, q.2]) = true := by
  refine decide_eq_true ?_
  unfold iN
  rcases h with h | ⟨h1, h2⟩
  · exact List.le_of_lt (List.Lex.rel (by show (p.1 : Int) < q.1; omega))
  · rw [h1]
    exact List.le_of_lt (List.Lex.cons (List.Lex.rel (by show (p.2 : Int) < q.2; omega)))
/-- pairs that ascend are their own sorted row -/
theorem sort_pairs {L : List (Addr × (Nat × Nat))} (h : (L.map (·.2)).Pairwise ltP) : (L.map fun r => ((r.1, iN [r.2.1, r.2.2]) : Row)).mergeSort leR = L.map fun r => ((r.1, iN [r.2.1, r.2.2]) : Row) := by
  refine List.mergeSort_of_pairwise ?_
  rw [List.pairwise_map] at h ⊢
  exact h.imp fun q => le_pair q
section
variable {P : Program} {w : World} {K : PySem.W.Frag} {mg : Str → Option Value} {base : Heap} {ca : Str → Addr} {P1 P2 : Addr}
/-! ### _law_late_great -/
def sp_law_late_great (K : PySem.W.Frag) (P1 P2 : Addr) : Sp := fun vs H Q _ => ∃ (p l : Addr), vs = [.ref p] ∧ PoolAt H p l ∧ Tabs (lamT2 P1 P2) H ∧ ∀ H', Q (.bl true) H'
theorem cal_law_late_great (T : Txt mg) (D : Def K mg "_law_late_great" s_law_late_great) (c_law_draw : Cal P w K mg base 2 "_law_draw" sp_law_draw) (c_law_map_table : Cal P w K mg base 3 "_law_map_table" (sp_law_map_table K)) (c_law_late_rows : CalG P w K mg base 20 "_law_late_rows" (sp_law_late_rows K P1 P2)) (c_law_late_refused : CalG P w K mg base 20 "_law_late_refused" (sp_law_late_refused K P1 P2))
    (c_law_late_says : CalG P w K mg base 9 "_law_late_says" (sp_law_late_says K)) : CalG P w K mg base 21 "_law_late_great" (sp_law_late_great K P1 P2) := by
  refine calG_of D sc_law_late_great (fun _ _ _ _ _ _ us hl => match us, hl with | [_], _ => rfl) (fun vs H Q E h => ?_) (fun f cdv A outer s H vs Q E hg hr h => ?_)
  · obtain ⟨p, l, rfl, _⟩ := h
    rfl
  · obtain ⟨p, l, rfl, hP, tabs, q⟩ := h
    have hU := hr.units
    have hG := hg
    refine ⟨_, (pss_cons (ps_asg (pe_tup (pa_cons (pe_op op_add pe_int (pe_c c_law_draw hr (by decide) (by rfl) (pa_cons (pv 0) (pa_cons pe_int pa_nil)))) (pa_cons (pe_op op_add pe_int (pe_c c_law_draw hr (by decide) (by rfl) (pa_cons (pv 0) (pa_cons pe_int pa_nil)))) pa_nil))) (show PG _ _ (gTup K 2 _) from pg_tup (by rfl) (pgs_cons (pg_name (i := 1) sc_law_late_great.nd rfl (Or.inl rfl)) (pgs_cons (pg_name (i := 2) sc_law_late_great.nd rfl (Or.inr rfl)) pgs_nil))))
      (pss_cons (ps_set (i := 3) sc_law_late_great.nd rfl (Or.inl rfl) (pe_op op_cat (pe_lc (own := [("a", 8)]) rfl sc_law_late_great.nd (pi_range1 (by rfl) T.range (pa_cons (pv 2) pa_nil)) (blkOk_by (N := ["pool", "places", "ring", "roads", "chart", "table", "standing", "other", "a"]) (sc := L2.defScope s_law_late_great) (by decide +kernel)) (fun _ _ _ _ _ => (pg_name (i := 8) sc_law_late_great.nd rfl (Or.inl rfl))) (fun _ _ _ _ _ => pts_nil) (fun _ _ _ _ _ => (pe_tup (pa_cons (pv 8) (pa_cons (pe_op op_mod (pe_callTy call_int1 (by rfl) T.int (by decide +kernel) (pa_cons (pe_op op_add (pv 8) pe_int) pa_nil)) (pv 2)) pa_nil))))) (pe_lst (pa_cons (pe_tup (pa_cons (pe_op op_sub (pv 2) pe_int) (pa_cons (pv 2) pa_nil))) (pa_cons (pe_tup (pa_cons (pv 2) (pa_cons (pe_op op_sub (pv 1) pe_int) pa_nil))) pa_nil)))))
      (pss_cons (ps_set (i := 4) sc_law_late_great.nd rfl (Or.inl rfl) (pe_tup (pa_cons (pv 1) (pa_cons (pe_callTy (show CallR _ _ (rTupleOf K) from call_tupleOf) (by rfl) T.tuple (by decide +kernel) (pa_cons (pe_callB (show CallR _ _ (rSortedR K) from cr_sortedR hU) (by rfl) T.sorted (by decide +kernel) (pa_cons (pv 3) pa_nil)) pa_nil)) (pa_cons (pe_mid (pe_ifExp (pt_cmpR op_eq (pe_c c_law_draw hr (by decide) (by rfl) (pa_cons (pv 0) (pa_cons pe_int pa_nil))) pe_int (nomark _)) (pe_tup (pa_cons (pe_op op_sub (pv 1) pe_int) pa_nil)) (pe_tup pa_nil))) pa_nil)))))
      (pss_cons (ps_set (i := 5) sc_law_late_great.nd rfl (Or.inl rfl) (pe_c c_law_map_table hr (by decide) (by rfl) (pa_cons (pv 4) pa_nil)))
      (pss_cons (ps_for PassesOwn.never rfl (show PI _ _ _ (iList K _) from pi_list (pe_lst (pa_cons (pe_tup (pa_cons pe_int (pa_cons (pv 2) pa_nil))) (pa_cons (pe_tup (pa_cons (pe_op op_sub (pv 1) pe_int) (pa_cons pe_int pa_nil))) pa_nil)))) (pg_name (i := 6) sc_law_late_great.nd rfl (Or.inl rfl)) (pss_cons (ps_if (PW.pt (pw_or (pt_not (pt_val (pe_g c_law_late_rows hG hr (by decide) (by rfl) (pa_cons (pv 4) (pa_cons (pv 5) (pa_cons (pv 6) pa_nil)))))) (pw_or1 (pt_not (pt_val (pe_g c_law_late_refused hG hr (by decide) (by rfl) (pa_cons (pv 4) (pa_cons (pv 6) pa_nil)))))))) (pss_one (ps_ret pe_bl)) pss_nil)
        (pss_cons (ps_set (i := 7) sc_law_late_great.nd rfl (Or.inl rfl) (pe_tup (pa_cons (pe_ix (show IxR _ (rIxT K) from ix_tup) (pv 6) pe_int (fun _ _ => rfl)) (pa_cons (pe_op op_sub (pv 1) pe_int) (pa_cons (pv 2) pa_nil)))))
        (pss_cons (ps_if (pt_not (pt_val (pe_g c_law_late_says hG hr (by decide) (by rfl) (pa_cons (pv 4) (pa_cons (pv 5) (pa_cons (pv 7) (pa_cons (pe_tup (pa_cons (pv 2) (pa_cons (pe_op op_sub (pv 1) pe_int) (pa_cons (pe_op op_sub (pv 1) pe_int) pa_nil)))) pa_nil))))))) (pss_one (ps_ret pe_bl)) pss_nil)
        (pss_one (ps_if (pt_not (pt_val (pe_g c_law_late_says hG hr (by decide) (by rfl) (pa_cons (pv 4) (pa_cons (pv 5) (pa_cons (pv 7) (pa_cons (pe_tup (pa_cons (pv 2) (pa_cons (pe_op op_sub (pv 1) pe_int) (pa_cons (pv 2) pa_nil)))) pa_nil))))))) (pss_one (ps_ret pe_bl)) pss_nil))))))
      (pss_one (ps_ret pe_bl))))))), ?_⟩
    have pl_ : ∀ {H' : Hp}, PoolAt H' p l → ∀ b ∈ [p, l], ∃ xs, H' b = some (.lst xs) := fun {H'} hP b hb => by
      obtain ⟨_, _, _, h1, h2, _⟩ := hP
      simp only [List.mem_cons, List.not_mem_nil, or_false] at hb
      rcases hb with rfl | rfl
      · exact ⟨_, h1⟩
      · exact ⟨_, h2⟩
    refine ⟨_, rfl, p, l, 8, rfl, hP, by decide, by decide, fun r1 H1 hr1 hP1 k1 => ⟨_, _, rfl, rfl, ?_⟩⟩
    refine ⟨_, rfl, p, l, 4, rfl, hP1, by decide, by decide, fun r2 H2 hr2 hP2 k2 => ⟨_, _, rfl, rfl, (by show 2 ≤ sizeLine; decide), fun tp htp => ?_⟩⟩
    have tabs2 := tabs_kp (tabs_kp tabs k1 (pl_ hP)) k2 (pl_ hP1)
    obtain ⟨pl, epl⟩ : ∃ pl, pl = 18 + r1 := ⟨_, rfl⟩
    obtain ⟨rg, erg⟩ : ∃ rg, rg = 1 + r2 := ⟨_, rfl⟩
    have e1 : V.int ((18 : Int) + (r1 : Int)) = vN pl := by rw [epl]; rfl
    have e2 : V.int ((1 : Int) + (r2 : Int)) = vN rg := by rw [erg]; rfl
    dsimp only
    rw [e1, e2]
    have s3 : Same H2 (upd H2 tp (.tup [vN pl, vN rg])) := same_upd htp
    have hT3 : SqT K (upd H2 tp (.tup [vN pl, vN rg])) tp [vN pl, vN rg] := .inl (.inl upd_same)
    generalize upd H2 tp (.tup [vN pl, vN rg]) = H3 at s3 hT3
    refine ⟨tp, _, rfl, hT3, rfl, _, _, rfl, _, _, rfl, rfl, ?_⟩
    have hP3 := hP2.same s3
    have tabs3 := tabs_same tabs2 s3
    refine ⟨_, rfl, _, rfl, by omega, by omega, fun d hd => ?_⟩
    have b18 : 18 ≤ pl := by omega
    have b25 : pl ≤ 25 := by omega
    have c1 : 1 ≤ rg := by omega
    have c4 : rg ≤ 4 := by omega
    refine lc_range (lo := 0) (n := rg) (fun i H' => ∃ L : List (Addr × (Nat × Nat)), Kp [d] H3 H' ∧ H' d = some (.lst (L.map fun r => V.ref r.1)) ∧ TupsAt H' L ∧ L.map (·.2) = (List.range i).map fun a => (a, (a + 1) % rg))
      ⟨[], (fun b o x e' => by rw [upd_ne (ne_of_none e' hd)]; exact e'), upd_same, (fun _ h => nomatch h), rfl⟩ ?_ ?_
    · rintro i H4 hi ⟨L, k4, hD, hL, eL⟩
      have lenL : L.length = i := by
        have := congrArg List.length eL
        rwa [List.length_map, List.length_map, List.length_range] at this
      have e0 : (0 : Int) + (i : Nat) = (i : Nat) := by omega
      refine ⟨rfl, ?_⟩
      rw [e0]
      have r0 : (0 : Int) < (rg : Int) := by omega
      refine ⟨_, rfl, _, rfl, _, _, rfl, rfl, .inl ⟨_, rfl, _, rfl, _, _, rfl, rfl, r0, by show 2 ≤ sizeLine; decide, fun t ht => ?_⟩⟩
      have em : V.int (((i : Int) + 1) % (rg : Int)) = vN ((i + 1) % rg) := by
        unfold vN
        congr 1
      have hT : (upd H4 t (.tup [vN i, V.int (((i : Int) + 1) % (rg : Int))])) t = some (.tup [vN i, vN ((i + 1) % rg)]) := by rw [upd_same, em]
      have s5 : Same H4 (upd H4 t (.tup [vN i, V.int (((i : Int) + 1) % (rg : Int))])) := same_upd ht
      have hD2 := s5 _ _ hD
      refine ⟨_, hD2, by rw [List.length_map]; exact small1000 (by omega), L ++ [(t, (i, (i + 1) % rg))], ?_, by rw [upd_same, List.map_append]; rfl, ((hL.same s5).add hT).set hD2, by rw [List.map_append, eL, List.range_succ, List.map_append]; rfl⟩
      intro b o nb eb
      rw [upd_ne (fun z => nb (by rw [z]; simp))]
      exact s5 _ _ (k4 b o nb eb)
    rintro H4 ⟨L0, k4, hD4, hL4, eL0⟩
    have s4 : Same H3 H4 := fun b o eb => k4 b o (fun m => by rw [List.mem_singleton.mp m, hd] at eb; cases eb) eb
    have em1 : V.int ((rg : Int) - 1) = vN (rg - 1) := by unfold vN; congr 1; omega
    have em2 : V.int ((pl : Int) - 1) = vN (pl - 1) := by unfold vN; congr 1; omega
    refine ⟨_, rfl, _, _, rfl, rfl, _, rfl, (by show 2 ≤ sizeLine; decide), fun t1 ht1 => ?_⟩
    have s5 : Same H4 (upd H4 t1 (.tup [V.int ((rg : Int) - 1), vN rg])) := same_upd ht1
    have hA5 : (upd H4 t1 (.tup [V.int ((rg : Int) - 1), vN rg])) t1 = some (.tup [vN (rg - 1), vN rg]) := by rw [upd_same, em1]
    have hL5 := (hL4.same s5).add (p := (rg - 1, rg)) hA5
    have hD5 := s5 _ _ hD4
    generalize upd H4 t1 (.tup [V.int ((rg : Int) - 1), vN rg]) = H5 at s5 hA5 hL5 hD5
    refine ⟨_, rfl, _, rfl, _, _, rfl, rfl, (by show 2 ≤ sizeLine; decide), fun t2 ht2 => ?_⟩
    have s6 : Same H5 (upd H5 t2 (.tup [vN rg, V.int ((pl : Int) - 1)])) := same_upd ht2
    have hA6 : (upd H5 t2 (.tup [vN rg, V.int ((pl : Int) - 1)])) t2 = some (.tup [vN rg, vN (pl - 1)]) := by rw [upd_same, em2]
    have hL6 := (hL5.same s6).add (p := (rg, pl - 1)) hA6
    have hD6 := s6 _ _ hD5
    generalize upd H5 t2 (.tup [vN rg, V.int ((pl : Int) - 1)]) = H6 at s6 hA6 hL6 hD6
    refine ⟨(by show 2 ≤ sizeLine; decide), fun g hg => ?_⟩
    have s7 : Same H6 (upd H6 g (.lst [.ref t1, .ref t2])) := same_upd hg
    have hG7 : (upd H6 g (.lst [.ref t1, .ref t2])) g = some (.lst [.ref t1, .ref t2]) := upd_same
    have hL7 := hL6.same s7
    have hD7 := s7 _ _ hD6
    generalize upd H6 g (.lst [.ref t1, .ref t2]) = H7 at s7 hG7 hL7 hD7
    have lenL : L0.length = rg := by
      have := congrArg List.length eL0
      rwa [List.length_map, List.length_map, List.length_range] at this
    refine ⟨d, g, _, _, rfl, rfl, hD7, hG7, by rw [List.length_map, lenL]; exact Nat.le_of_lt (small1000 (by show rg + 2 ≤ 1000; omega)), fun z hz => ?_⟩
    obtain ⟨L, eL⟩ : ∃ L : List (Addr × (Nat × Nat)), L = L0 ++ [(t1, (rg - 1, rg))] ++ [(t2, (rg, pl - 1))] := ⟨_, rfl⟩
    have s8 : Same H7 (upd H7 z (.lst ((L0.map fun r => V.ref r.1) ++ [.ref t1, .ref t2]))) := same_upd hz
    have hZ8 : (upd H7 z (.lst ((L0.map fun r => V.ref r.1) ++ [.ref t1, .ref t2]))) z = some (.lst (L.map fun r => V.ref r.1)) := by rw [upd_same, eL, List.append_assoc, List.map_append]; rfl
    have hL8 : TupsAt (upd H7 z (.lst ((L0.map fun r => V.ref r.1) ++ [.ref t1, .ref t2]))) L := by rw [eL]; exact hL7.same s8
    generalize upd H7 z (.lst ((L0.map fun r => V.ref r.1) ++ [.ref t1, .ref t2])) = H8 at s8 hZ8 hL8
    have eR : L.map (·.2) = greatRoads rg pl := by
      rw [eL, List.append_assoc, List.map_append, eL0]
      rfl
    have s38 := s4.trans (s5.trans (s6.trans (s7.trans s8)))
    have hP8 := hP3.same s38
    have tabs8 := tabs_same tabs3 s38
    clear hD7 hG7 hL7 hD6 hL6 hA6 hD5 hL5 hA5 hL4 hD4 k4 hd eL
    refine ⟨_, rfl, _, rfl, z, L.map fun r => ((r.1, iN [r.2.1, r.2.2]) : Row), rfl, .inl (.inl (by rw [List.map_map]; exact hZ8)), ?_, ?_, fun sz hsz => ?_⟩
    · intro r hr
      obtain ⟨y, hy, rfl⟩ := List.mem_map.mp hr
      exact .inl (.inl (hL8 y hy))
    · intro r hr
      obtain ⟨y, hy, rfl⟩ := List.mem_map.mp hr
      exact fun e => nomatch e
    rw [sort_pairs (by rw [eR]; exact great_up c1 c4 b18)]
    rw [List.map_map]
    have s9 : Same H8 (upd H8 sz (.lst (L.map ((fun p => V.ref p.1) ∘ fun r => ((r.1, iN [r.2.1, r.2.2]) : Row))))) := same_upd hsz
    have hS9 : (upd H8 sz (.lst (L.map ((fun p => V.ref p.1) ∘ fun r => ((r.1, iN [r.2.1, r.2.2]) : Row))))) sz = some (.lst ((L.map (·.1)).map V.ref)) := by rw [upd_same, List.map_map]; rfl
    generalize upd H8 sz (.lst (L.map ((fun p => V.ref p.1) ∘ fun r => ((r.1, iN [r.2.1, r.2.2]) : Row)))) = H9 at s9 hS9
    refine ⟨sz, _, rfl, .inl ⟨.inl (.inl hS9), fun rt hrt => ?_⟩⟩
    have s10 : Same H9 (upd H9 rt (.tup ((L.map (·.1)).map V.ref))) := same_upd hrt
    have hR10 : SqT K (upd H9 rt (.tup ((L.map (·.1)).map V.ref))) rt ((L.map (·.1)).map V.ref) := .inl (.inl upd_same)
    generalize upd H9 rt (.tup ((L.map (·.1)).map V.ref)) = H10 at s10 hR10
    have s810 := s9.trans s10
    have hL10 := hL8.same s810
    have hP10 := hP8.same s810
    have tabs10 := tabs_same tabs8 s810
    have pairs : ∀ {M : List (Addr × (Nat × Nat))}, TupsAt H10 M → PairsAt K H10 (M.map (·.1)) (M.map (·.2)) := fun {M} hM => by
      induction M with
      | nil => exact .nil
      | cons r M ih => exact .cons (.inl (.inl (hM r List.mem_cons_self))) (ih fun x hx => hM x (List.mem_cons_of_mem _ hx))
    have hPr10 : PairsAt K H10 (L.map (·.1)) (greatRoads rg pl) := by rw [← eR]; exact pairs hL10
    refine ⟨fun v H' => ∃ (ws : List Nat) (wt : Addr), v = .ref wt ∧ SqT K H' wt (ws.map vN) ∧ (ws = [pl - 1] ∨ ws = []) ∧ Kp [p, l] H10 H', ⟨_, rfl, p, l, 2, rfl, hP10, by decide, by decide, fun y H11 _ hP11 k11 => ⟨rfl, _, rfl, ite_any (fun _ => ?_) (fun _ => ?_)⟩⟩, ?_⟩
    · refine ⟨_, rfl, _, _, rfl, rfl, (by show 1 ≤ sizeLine; decide), fun wt hwt => ⟨[pl - 1], wt, rfl, .inl (.inl ?_), .inl rfl, k11.trans (Same.kp (same_upd hwt))⟩⟩
      rw [upd_same]
      dsimp only
      rw [em2]
      rfl
    · exact ⟨Nat.zero_le _, fun wt hwt => ⟨[], wt, rfl, .inl (.inl upd_same), .inr rfl, k11.trans (Same.kp (same_upd hwt))⟩⟩
    rintro v H11 ⟨ws, wt, rfl, hW11, hws, k11⟩
    have tabs11 := tabs_kp tabs10 k11 (pl_ hP10)
    have hR11 := k11.sqT hP10.lists hR10
    have hPr11 : PairsAt K H11 (L.map (·.1)) (greatRoads rg pl) := hPr10.keep k11 hP10.lists
    refine ⟨(by show 3 ≤ sizeLine; decide), fun c hc => ?_⟩
    have s12 : Same H11 (upd H11 c (.tup [vN pl, .ref rt, .ref wt])) := same_upd hc
    have hPr12 : PairsAt K (upd H11 c (.tup [vN pl, .ref rt, .ref wt])) (L.map (·.1)) (greatRoads rg pl) := paired_imp (fun _ _ q => Same.sqT s12 q) hPr11
    have hC12 : IsChart K (upd H11 c (.tup [vN pl, .ref rt, .ref wt])) c (greatChart rg pl ws) := ⟨rt, wt, L.map (·.1), ⟨.inl (.inl upd_same), Same.sqT s12 hR11, hPr12, Same.sqT s12 hW11⟩⟩
    have tabs12 := tabs_same tabs11 s12
    generalize upd H11 c (.tup [vN pl, .ref rt, .ref wt]) = H12 at s12 hC12 tabs12
    have ok : (greatChart rg pl ws).Ok := great_ok c1 c4 b18 b25 hws
    obtain ⟨C, eC⟩ : ∃ C, C = greatChart rg pl ws := ⟨_, rfl⟩
    have en : C.n = pl := by rw [eC]; rfl
    rw [← eC] at hC12 ok
    clear hP10 hP8 hP3 hP2 hP1 hP hL10 hL8 hPr11 hPr10 hR11 hR10 k11 hZ8 hS9
    refine ⟨_, rfl, c, C, rfl, hC12, ok, fun tb rows H13 s13 _ _ hT13 => ?_⟩
    have hC13 := hC12.same s13
    have tabs13 := tabs_same tabs12 s13
    dsimp only
    refine at_seq (for_lit (K := K) (ds := [.tuple [.int 0, .int (rg : Int)], .tuple [.int ((pl : Int) - 1), .int 0]]) ?_ (by show 2 ≤ 1000; decide) fun g14 xs H14 s14 hG14 hd14 => ?_)
    · have two : ∀ {a b : PyData}, [a, b].length ≤ 1000 := by intro a b; show 2 ≤ 1000; decide
      exact gva_cons (gv_tup (gva_cons gv_int (gva_cons (gv_var rfl (.int _)) gva_nil)) two) (gva_cons (gv_tup (gva_cons (gv_sub (gv_var rfl (.int _)) gv_int) (gva_cons gv_int gva_nil)) two) gva_nil)
    have hC14 := hC13.same s14
    have hT14 := hT13.same s14
    have tabs14 := tabs_same tabs13 s14
    have lx : xs.length = 2 := dpAll_length hd14
    refine ⟨fun i σ H' => ∃ v6 v7 : Option V, σ = [some (.ref p), some (vN pl), some (vN rg), some (.ref z), some (.ref c), some (.ref tb), v6, v7, none] ∧ ExtN H14 H' ∧ Tabs (lamT2 P1 P2) H', ⟨_, _, rfl, ExtN.refl _, tabs14⟩, (fun i σ H' _ ⟨_, _, _, e, _⟩ => ext_sqL e (.inl (.inl hG14))), ?_, ?_⟩
    · rintro i x σ H15 hx ⟨v6, v7, rfl, e15, t15⟩
      obtain ⟨d', hd', dx⟩ := dpAll_get hd14 hx
      obtain ⟨S, a0, rfl, hS0, inS, l2⟩ : ∃ (S : List Nat) (a0 : Nat), d' = lotD S ∧ S[0]? = some a0 ∧ (∀ x ∈ S, x < C.n) ∧ S.length = 2 := by
        rw [en]
        match i, hd' with
        | 0, hd' => cases hd'; exact ⟨[0, rg], 0, rfl, rfl, (by simp; omega), rfl⟩
        | 1, hd' =>
          cases hd'
          refine ⟨[pl - 1, 0], pl - 1, ?_, rfl, (by simp; omega), rfl⟩
          show PyData.tuple [.int ((pl : Int) - 1), .int 0] = .tuple [.int ((pl - 1 : Nat) : Int), .int ((0 : Nat) : Int)]
          have : ((pl : Int) - 1) = ((pl - 1 : Nat) : Int) := by omega
          rw [this]
          rfl
        | n + 2, hd' => cases hd'
      obtain ⟨t, rfl, hS15⟩ := lot_dp (dp_ext e15 _ _ dx)
      have hC15 := ext_chart e15 hC14
      have hT15 := ext_tab e15 hT14
      refine ⟨_, rfl, _, rfl, _, rfl, c, tb, t, C, rows, S, rfl, hC15, ok, hT15, hS15, inS, by omega, by omega, t15, fun H16 e16 t16 => ⟨_, rfl, iteF ?_⟩⟩
      refine ⟨_, rfl, _, rfl, c, t, C, S, rfl, ext_chart e16 hC15, ok, ext_sqT e16 hS15, inS, by omega, by omega, t16, fun H17 e17 t17 => ⟨_, rfl, iteF ?_⟩⟩
      have e157 := ExtN.trans e16 e17
      have hC17 := ext_chart e157 hC15
      have hT17 := ext_tab e157 hT15
      have hS17 := ext_sqT e157 hS15
      have a0n := inS a0 (List.mem_of_getElem? hS0)
      rw [en] at a0n
      refine ⟨_, rfl, t, _, _, _, rfl, rfl, hS17, atI_nat (j := 0) (v := vN a0) (by rw [List.getElem?_map, hS0]; rfl), _, rfl, _, _, rfl, rfl, _, rfl, (by show 3 ≤ sizeLine; decide), fun o ho => ?_⟩
      have s18 : Same H17 (upd H17 o (.tup [vN a0, V.int ((pl : Int) - 1), vN rg])) := same_upd ho
      have hO18 : SqT K (upd H17 o (.tup [vN a0, V.int ((pl : Int) - 1), vN rg])) o ([a0, pl - 1, rg].map vN) := .inl (.inl (by rw [upd_same, em2]; rfl))
      generalize upd H17 o (.tup [vN a0, V.int ((pl : Int) - 1), vN rg]) = H18 at s18 hO18
      refine ⟨_, rfl, _, rfl, _, rfl, _, rfl, _, rfl, _, _, rfl, rfl, _, rfl, _, _, rfl, rfl, (by show 3 ≤ sizeLine; decide), fun u hu => ?_⟩
      have s19 : Same H18 (upd H18 u (.tup [vN rg, V.int ((pl : Int) - 1), V.int ((pl : Int) - 1)])) := same_upd hu
      have hU19 : SqT K (upd H18 u (.tup [vN rg, V.int ((pl : Int) - 1), V.int ((pl : Int) - 1)])) u ([rg, pl - 1, pl - 1].map vN) := .inl (.inl (by rw [upd_same, em2]; rfl))
      generalize upd H18 u (.tup [vN rg, V.int ((pl : Int) - 1), V.int ((pl : Int) - 1)]) = H19 at s19 hU19
      have s1719 := s18.trans s19
      have in3 : ∀ {a b c : Nat}, a < pl → b < pl → c < pl → ∀ x ∈ [a, b, c], x < C.n := by
        intro a b c ha hb hc x hx
        rw [en]
        simp only [List.mem_cons, List.not_mem_nil, or_false] at hx
        rcases hx with rfl | rfl | rfl <;> assumption
      have l3 : ∀ {a b c : Nat}, 1 ≤ [a, b, c].length ∧ [a, b, c].length ≤ 3 := by intro a b c; exact ⟨by show 1 ≤ 3; decide, by show 3 ≤ 3; decide⟩
      refine ⟨c, tb, o, u, C, rows, [a0, pl - 1, rg], [rg, pl - 1, pl - 1], rfl, hC17.same s1719, ok, hT17.same s1719, Same.sqT s19 hO18, hU19, in3 a0n (by omega) (by omega), l3.1, l3.2, in3 (by omega) (by omega) (by omega), l3.1, l3.2, fun H20 s20 => ⟨_, rfl, iteF ?_⟩⟩
      have s1720 := s1719.trans s20
      refine ⟨_, rfl, _, rfl, _, rfl, _, rfl, _, rfl, _, _, rfl, rfl, _, rfl, (by show 3 ≤ sizeLine; decide), fun u2 hu2 => ?_⟩
      have s21 : Same H20 (upd H20 u2 (.tup [vN rg, V.int ((pl : Int) - 1), vN rg])) := same_upd hu2
      have hU21 : SqT K (upd H20 u2 (.tup [vN rg, V.int ((pl : Int) - 1), vN rg])) u2 ([rg, pl - 1, rg].map vN) := .inl (.inl (by rw [upd_same, em2]; rfl))
      generalize upd H20 u2 (.tup [vN rg, V.int ((pl : Int) - 1), vN rg]) = H21 at s21 hU21
      have s1721 := s1720.trans s21
      refine ⟨c, tb, o, u2, C, rows, [a0, pl - 1, rg], [rg, pl - 1, rg], rfl, hC17.same s1721, ok, hT17.same s1721, Same.sqT (s19.trans (s20.trans s21)) hO18, hU21, in3 a0n (by omega) (by omega), l3.1, l3.2, in3 (by omega) (by omega) (by omega), l3.1, l3.2, fun H22 s22 => ⟨_, rfl, iteF ?_⟩⟩
      exact ⟨_, _, rfl, ExtN.trans e15 (ExtN.trans e157 (ext_same (s1721.trans s22))), tabs_same t17 (s1721.trans s22)⟩
    · rintro σ H15 ⟨v6, v7, rfl, e15, t15⟩
      exact q H15
end
end Ft

set_option Elab.async false
set_option linter.all false
set_option maxRecDepth 100000
set_option maxHeartbeats 8000000
namespace Ft
open PySem PySem.Spec PyProof.Rows L2
open RZ
open LamX (TabB TabS Tabs ExtN CodeO)
def chL : Chart := ⟨4, [(0, 1), (1, 0), (1, 2), (2, 3), (3, 3)], [3]⟩
theorem chL_ok : chL.Ok := by
  refine ⟨by decide, by decide, by decide, ?_, by decide, by decide⟩
  show [(0, 1), (1, 0), (1, 2), (2, 3), (3, 3)].Pairwise ltP
  simp [ltP]
theorem chL_23 {b : Nat} (r : Reach chL.roads chL.wished 2 b) : b = 3 :=
  r.within (S := fun x => x = 3) (fun x h => by simp [chL] at h; exact h) fun x y h hw _ => absurd (by rw [h]; decide) hw
theorem chL_33 {b : Nat} (r : Reach chL.roads chL.wished 3 b) : b = 3 :=
  r.within (S := fun x => x = 3) (fun x h => by simp [chL] at h; exact h) fun x y h hw _ => absurd (by rw [h]; decide) hw
theorem chL_10 : Reach chL.roads chL.wished 1 0 := .one (by decide)
theorem chL_01 : Reach chL.roads chL.wished 0 1 := .one (by decide)
theorem chL_12 : Reach chL.roads chL.wished 1 2 := .one (by decide)
theorem chL_p2 : pieceOf chL 2 = [2] := by
  unfold pieceOf
  rw [if_neg (by decide)]
  refine (those_is (List.pairwise_singleton _ _) fun x => ?_).symm
  rw [List.mem_singleton]
  constructor
  · rintro rfl
    exact ⟨by decide, by decide, .inl rfl⟩
  · rintro ⟨_, hw, rfl | ⟨r, _⟩⟩
    · rfl
    · rw [chL_23 r] at hw
      exact absurd (by decide) hw
theorem chL_p01 : pieceOf chL 1 = [0, 1] := by
  unfold pieceOf
  rw [if_neg (by decide)]
  refine (those_is (by decide) fun x => ?_).symm
  simp only [List.mem_cons, List.not_mem_nil, or_false]
  constructor
  · rintro (rfl | rfl)
    · exact ⟨by decide, by decide, .inr ⟨chL_10, chL_01⟩⟩
    · exact ⟨by decide, by decide, .inl rfl⟩
  · rintro ⟨hx, hw, rfl | ⟨_, r⟩⟩
    · exact .inr rfl
    · have h4 : x < 4 := hx
      have h3 : x ≠ 3 := fun e => hw (by rw [e]; decide)
      have h2 : x ≠ 2 := fun e => by
        rw [e] at r
        have := chL_23 r
        omega
      omega
theorem chL_p0 : pieceOf chL 0 = [0, 1] := by
  rw [← chL_p01]
  exact piece_eq (by rw [chL_p01]; decide)
theorem chL_p3 : pieceOf chL 3 = [3] := by
  unfold pieceOf
  rw [if_pos (by decide)]
theorem chL_l0 : leastOf chL 0 = 0 := by unfold leastOf; rw [chL_p0]; rfl
theorem chL_l1 : leastOf chL 1 = 0 := by unfold leastOf; rw [chL_p01]; rfl
theorem chL_l2 : leastOf chL 2 = 2 := by unfold leastOf; rw [chL_p2]; rfl
theorem chL_l3 : leastOf chL 3 = 3 := by unfold leastOf; rw [chL_p3]; rfl
theorem chL_m1 : metU chL [1] = [0, 1, 2] := by
  refine (those_is (by decide) fun x => ?_).symm
  simp only [List.mem_cons, List.not_mem_nil, or_false]
  constructor
  · rintro (rfl | rfl | rfl)
    · exact ⟨by decide, by decide, 1, rfl, chL_10⟩
    · exact ⟨by decide, by decide, 1, rfl, chL_10.trans (by decide) chL_01⟩
    · exact ⟨by decide, by decide, 1, rfl, chL_12⟩
  · rintro ⟨hx, hw, _⟩
    have h4 : x < 4 := hx
    have h3 : x ≠ 3 := fun e => hw (by rw [e]; decide)
    omega
theorem chL_m3 : metU chL [3] = [] := by
  refine (those_is .nil fun x => ?_).symm
  constructor
  · exact fun h => nomatch h
  · rintro ⟨_, hw, y, hy, r⟩
    rw [List.mem_singleton.mp hy] at r
    rw [chL_33 r] at hw
    exact absurd (by decide) hw
theorem chL_f1 : firstsOf chL 1 = [0, 2] := by
  refine (those_is (by decide) fun x => ?_).symm
  unfold laterL
  rw [chL_p01, chL_m1]
  simp only [List.mem_cons, List.not_mem_nil, or_false, List.mem_append]
  constructor
  · rintro (rfl | rfl)
    · exact ⟨by decide, 0, .inl (.inl rfl), chL_l0⟩
    · exact ⟨by decide, 2, .inr (.inr (.inr rfl)), chL_l2⟩
  · rintro ⟨_, b, hb, rfl⟩
    rcases hb with (rfl | rfl) | rfl | rfl | rfl
    · exact .inl chL_l0
    · exact .inl chL_l1
    · exact .inl chL_l0
    · exact .inl chL_l1
    · exact .inr chL_l2
theorem chL_f3 : firstsOf chL 3 = [3] := by
  refine (those_is (by decide) fun x => ?_).symm
  unfold laterL
  rw [chL_p3, chL_m3]
  simp only [List.mem_cons, List.not_mem_nil, or_false, List.mem_append]
  constructor
  · rintro rfl
    exact ⟨by decide, 3, rfl, chL_l3⟩
  · rintro ⟨_, b, rfl, rfl⟩
    exact chL_l3
theorem chL_rows : laterRows chL [1, 3] = [[0, 3], [2, 3]] := by
  show grow (grow [[]] (firstsOf chL 1)) (firstsOf chL 3) = _
  rw [chL_f1, chL_f3]
  rfl
theorem chL_later : laterB chL [1] [2] = true := laterB_t ⟨rfl, fun i a b h1 h2 => by
  match i, h1, h2 with
  | 0, h1, h2 =>
    cases h1
    cases h2
    unfold laterL
    rw [chL_m1]
    exact List.mem_append_right _ (by decide)
  | n + 1, h1, h2 => cases h1⟩
theorem chL_single : singleOf chL ≤ 4 := by
  unfold singleOf piecesL
  rw [List.length_map]
  have h1 := List.length_filter_le (isLeast chL) (unw chL)
  have h2 : (unw chL).length ≤ 3 := by decide
  have h3 : chL.wished.length = 1 := rfl
  omega
end Ft

set_option Elab.async false
set_option linter.all false
set_option maxRecDepth 100000
set_option maxHeartbeats 8000000
namespace Ft
open PySem PySem.Spec PyProof.Rows L2
open RZ
open LamX (TabB TabS Tabs ExtN CodeO)
theorem ext_pool {H H' : Hp} (e : ExtN H H') {p l : Addr} (h : PoolAt H p l) : PoolAt H' p l := by
  obtain ⟨a, b, cs, h1, h2, h3⟩ := h
  exact ⟨a, b, cs, e _ _ h1 (fun _ z => nomatch z), e _ _ h2 (fun _ z => nomatch z), h3⟩
def chM (m : Nat) : Chart := ⟨m, [(0, 1), (1, 2)], [m - 1]⟩
theorem chM_ok {m : Nat} (h7 : 7 ≤ m) (h8 : m ≤ 8) : (chM m).Ok := by
  refine ⟨by show m ≤ 60; omega, by show 2 ≤ 240; decide, ?_, ?_, ?_, List.pairwise_singleton _ _⟩
  · intro p hp
    simp only [chM, List.mem_cons, List.not_mem_nil, or_false] at hp
    show p.1 < m ∧ p.2 < m
    rcases hp with rfl | rfl
    · exact ⟨by show 0 < m; omega, by show 1 < m; omega⟩
    · exact ⟨by show 1 < m; omega, by show 2 < m; omega⟩
  · show [(0, 1), (1, 2)].Pairwise ltP
    simp [ltP]
  · intro a ha
    rw [List.mem_singleton.mp ha]
    show m - 1 < m
    omega
section
variable {P : Program} {w : World} {K : PySem.W.Frag} {mg : Str → Option Value} {base : Heap} {ca : Str → Addr} {P1 P2 : Addr}
def sp_law (K : PySem.W.Frag) (P1 P2 : Addr) : Sp := fun vs H Q _ => ∃ (a : Addr) (ns : List Int), vs = [.ref a] ∧ SqL K H a (ns.map V.int) ∧ Tabs (lamT2 P1 P2) H ∧ ∀ H', Q (.bl true) H'
theorem fn_law {f : Addr} {fd : FuncData} (T : Txt mg) (F : L2.Fun K "law" "law" s_law f fd) (v_later_rows : Cal P w K mg base 7 "later_rows" (sp_later_rows K)) (c_is_later : Cal P w K mg base 8 "is_later" (sp_is_later K)) (c_law_pool : Cal P w K mg base 2 "_law_pool" (sp_law_pool K)) (c_law_draw : Cal P w K mg base 2 "_law_draw" sp_law_draw)
    (c_law_map_drawn : Cal P w K mg base 5 "_law_map_drawn" (sp_law_map_drawn K)) (c_law_map_planted : Cal P w K mg base 5 "_law_map_planted" (sp_law_map_planted K)) (c_law_map_table : Cal P w K mg base 3 "_law_map_table" (sp_law_map_table K)) (c_law_map_standing : Cal P w K mg base 3 "_law_map_standing" (sp_law_map_standing K))
    (c_law_late_pairs : CalG P w K mg base 10 "_law_late_pairs" (sp_law_late_pairs K)) (c_law_late_bent : Cal P w K mg base 9 "_law_late_bent" (sp_law_late_bent K)) (c_law_late_rows : CalG P w K mg base 20 "_law_late_rows" (sp_law_late_rows K P1 P2)) (c_law_late_refused : CalG P w K mg base 20 "_law_late_refused" (sp_law_late_refused K P1 P2))
    (c_law_late_great : CalG P w K mg base 21 "_law_late_great" (sp_law_late_great K P1 P2)) : FnG P w K mg base 22 f fd ["script"] (sp_law K P1 P2) := by
  refine gfun F sc_law (fun vs H Q E h => ?_) (fun cdv A outer s H vs Q E hg hr h => ?_)
  · obtain ⟨a, ns, rfl, _⟩ := h
    rfl
  · obtain ⟨sa, ns, rfl, hS, tabs, q⟩ := h
    have hU := hr.units
    have hG := hg
    refine ⟨_, (pss_cons (ps_set (i := 1) sc_law.nd rfl (Or.inl rfl) (pe_tup (pa_cons pe_int (pa_cons (pe_tup (pa_cons (pe_tup (pa_cons pe_int (pa_cons pe_int pa_nil))) (pa_cons (pe_tup (pa_cons pe_int (pa_cons pe_int pa_nil))) (pa_cons (pe_tup (pa_cons pe_int (pa_cons pe_int pa_nil))) (pa_cons (pe_tup (pa_cons pe_int (pa_cons pe_int pa_nil))) (pa_cons (pe_tup (pa_cons pe_int (pa_cons pe_int pa_nil))) pa_nil)))))) (pa_cons (pe_tup (pa_cons pe_int pa_nil)) pa_nil)))))
      (pss_cons (ps_if (PW.pt (pw_or (pt_cmpR op_ne (pe_callB (show CallR _ _ (rRepr K) from cr_repr hG hU) (by rfl) T.repr (by decide +kernel) (pa_cons (pe_c v_later_rows hr (by decide) (by rfl) (pa_cons (pv 1) (pa_cons (pe_tup (pa_cons pe_int (pa_cons pe_int pa_nil))) pa_nil))) pa_nil)) (pe_callB (show CallR _ _ (rRepr K) from cr_repr hG hU) (by rfl) T.repr (by decide +kernel) (pa_cons (pe_tup (pa_cons (pe_tup (pa_cons pe_int (pa_cons pe_int pa_nil))) (pa_cons (pe_tup (pa_cons pe_int (pa_cons pe_int pa_nil))) pa_nil))) pa_nil)) (nomark _)) (pw_or1 (pt_cmpR op_notBl (pe_c c_is_later hr (by decide) (by rfl) (pa_cons (pv 1) (pa_cons (pe_tup (pa_cons pe_int pa_nil)) (pa_cons (pe_tup (pa_cons pe_int pa_nil)) pa_nil)))) pe_bl (nomark _))))) (pss_one (ps_ret pe_bl)) pss_nil)
      (pss_cons (ps_set (i := 2) sc_law.nd rfl (Or.inl rfl) (pe_c c_law_pool hr (by decide) (by rfl) (pa_cons (pv 0) pa_nil)))
      (pss_cons (ps_set (i := 3) sc_law.nd rfl (Or.inl rfl) (pe_cmpR op_eq (pe_c c_law_draw hr (by decide) (by rfl) (pa_cons (pv 2) (pa_cons pe_int pa_nil))) pe_int (nomark _)))
      (ps_cut (ps_if (pt_cmpR op_eq (pe_c c_law_draw hr (by decide) (by rfl) (pa_cons (pv 2) (pa_cons pe_int pa_nil))) pe_int (nomark _)) (pss_one (ps_set (i := 4) sc_law.nd rfl (Or.inl rfl) (pe_c c_law_map_drawn hr (by decide) (by rfl) (pa_cons (pv 2) (pa_cons pe_int pa_nil))))) (pss_one (ps_set (i := 4) sc_law.nd rfl (Or.inl rfl) (pe_ix (show IxR _ (rIxL K) from ix_list) (pe_c c_law_map_planted hr (by decide) (by rfl) (pa_cons (pv 2) (pa_cons (pe_op op_add pe_int (pe_c c_law_draw hr (by decide) (by rfl) (pa_cons (pv 2) (pa_cons pe_int pa_nil)))) (pa_cons (pe_c c_law_draw hr (by decide) (by rfl) (pa_cons (pv 2) (pa_cons pe_int pa_nil))) (pa_cons pe_int pa_nil))))) pe_int (fun _ _ => rfl)))))
      (ps_cut (ps_if (pt_cmpR op_gt (pe_ix (show IxR _ (rIxT K) from ix_tup) (pv 4) pe_int (fun _ _ => rfl)) pe_int (nomark _)) (pss_cons (ps_par (i := 5) (j := 6) (by rfl) sc_law.nd rfl rfl (by decide) rfl rfl (pa_cons (pe_c c_law_map_table hr (by decide) (by rfl) (pa_cons (pv 4) pa_nil)) (pa_cons (pe_c c_law_map_standing hr (by decide) (by rfl) (pa_cons (pv 2) (pa_cons (pv 4) (pa_cons (pe_mid (pe_ifExp (pt_cmpR op_gt (pe_ix (show IxR _ (rIxT K) from ix_tup) (pv 4) pe_int (fun _ _ => rfl)) pe_int (nomark _)) pe_int pe_int)) pa_nil)))) pa_nil)) (by rfl))
        (pss_cons (ps_if (PW.pt (pw_or (pt_not (pt_val (pe_g c_law_late_pairs hG hr (by decide) (by rfl) (pa_cons (pv 2) (pa_cons (pv 4) (pa_cons (pv 5) (pa_cons (pv 6) pa_nil))))))) (pw_or1 (pt_not (pt_val (pe_c c_law_late_bent hr (by decide) (by rfl) (pa_cons (pv 4) (pa_cons (pv 6) pa_nil)))))))) (pss_one (ps_ret pe_bl)) pss_nil)
        (pss_one (ps_if (PW.pt (pw_or (pt_not (pt_val (pe_g c_law_late_rows hG hr (by decide) (by rfl) (pa_cons (pv 4) (pa_cons (pv 5) (pa_cons (pv 6) pa_nil)))))) (pw_or1 (pt_not (pt_val (pe_g c_law_late_refused hG hr (by decide) (by rfl) (pa_cons (pv 4) (pa_cons (pv 6) pa_nil)))))))) (pss_one (ps_ret pe_bl)) pss_nil)))) pss_nil)
      (pss_cons (ps_if (pt_val (pv 3)) (pss_one (ps_ret (pe_g c_law_late_great hG hr (by decide) (by rfl) (pa_cons (pv 2) pa_nil)))) pss_nil)
      (pss_cons (ps_for PassesOwn.never rfl (show PI _ _ _ (iList K _) from pi_list (pe_lst (pa_cons pe_int (pa_cons pe_int pa_nil)))) (pg_name (i := 7) sc_law.nd rfl (Or.inl rfl)) (pss_cons (ps_set (i := 4) sc_law.nd rfl (Or.inl rfl) (pe_tup (pa_cons (pv 7) (pa_cons (pe_tup (pa_cons (pe_tup (pa_cons pe_int (pa_cons pe_int pa_nil))) (pa_cons (pe_tup (pa_cons pe_int (pa_cons pe_int pa_nil))) pa_nil))) (pa_cons (pe_tup (pa_cons (pe_op op_sub (pv 7) pe_int) pa_nil)) pa_nil)))))
        (pss_one (ps_if (pt_not (pt_val (pe_g c_law_late_rows hG hr (by decide) (by rfl) (pa_cons (pv 4) (pa_cons (pe_c c_law_map_table hr (by decide) (by rfl) (pa_cons (pv 4) pa_nil)) (pa_cons (pe_tup (pa_cons pe_int (pa_cons pe_int (pa_cons (pe_op op_sub (pv 7) pe_int) pa_nil)))) pa_nil)))))) (pss_one (ps_ret pe_bl)) pss_nil))))
      (pss_one (ps_ret pe_bl)))))))))), ?_⟩
    have pl : ∀ {H' : Hp} {p l : Addr}, PoolAt H' p l → ∀ b ∈ [p, l], ∃ xs, H' b = some (.lst xs) := fun {H' p l} hP b hb => by
      obtain ⟨_, _, _, h1, h2, _⟩ := hP
      simp only [List.mem_cons, List.not_mem_nil, or_false] at hb
      rcases hb with rfl | rfl
      · exact ⟨_, h1⟩
      · exact ⟨_, h2⟩
    refine seq_gv (K := K) (d := chartD chL) (by (repeat' first | exact gv_int | exact gv_non | exact gv_bl | exact gv_str | exact gva_nil | exact gv_var rfl (by assumption) | apply gva_cons | apply gv_tup | apply gv_lst | apply gv_neg | apply gv_cat | apply gv_take (k := 1) (g2 := gv_int) | apply gv_take (k := 2) (g2 := gv_int) | apply gv_drop (k := 1) (g2 := gv_int) | apply gv_drop (k := 2) (g2 := gv_int) | apply gv_slTo | apply gv_slFrom | apply gv_len | apply gv_ixT (j := 0) (g2 := gv_int) | apply gv_ixT (j := 1) (g2 := gv_int) | apply gv_ixT (j := 2) (g2 := gv_int) | exact rfl); all_goals (first | decide | (simp; done) | (simp; omega))) fun v0 H1 s1 hd0 => ?_
    obtain ⟨c0, rfl, hC0⟩ := chart_dp (C := chL) hd0
    have hS1 := Same.sqL s1 hS
    have tabs1 := tabs_same tabs s1
    refine ⟨_, rfl, (by show 2 ≤ sizeLine; decide), fun t1 ht1 => ?_⟩
    have s2 : Same H1 (upd H1 t1 (.tup [.int 1, .int 3])) := same_upd ht1
    have hT2 : SqT K (upd H1 t1 (.tup [.int 1, .int 3])) t1 ([1, 3].map vN) := .inl (.inl upd_same)
    generalize upd H1 t1 (.tup [.int 1, .int 3]) = H2 at s2 hT2
    have p4 : singleOf chL ^ [1, 3].length ≤ 400 := by
      have := Nat.pow_le_pow_left chL_single 2
      show singleOf chL ^ 2 ≤ 400
      omega
    refine ⟨c0, t1, chL, [1, 3], rfl, hC0.same s2, chL_ok, hT2, by decide, by decide, by decide, p4, fun rq ts H3 s3 hq hrs => ?_⟩
    rw [chL_rows] at hrs
    have shR : Shows (.tuple ([[0, 3], [2, 3]].map encL)) := shows_later (by decide) (by decide)
    refine ⟨_, .tuple ([[0, 3], [2, 3]].map encL), rfl, .tup hq (dp_rows hrs), shR, ?_⟩
    have hC3 := hC0.same (s2.trans s3)
    refine ⟨(by show 2 ≤ sizeLine; decide), fun u1 hu1 => ?_⟩
    have sA : Same H3 (upd H3 u1 (.tup [.int 0, .int 3])) := same_upd hu1
    have hU1 : SqT K (upd H3 u1 (.tup [.int 0, .int 3])) u1 ([0, 3].map vN) := .inl (.inl upd_same)
    generalize upd H3 u1 (.tup [.int 0, .int 3]) = HA at sA hU1
    refine ⟨(by show 2 ≤ sizeLine; decide), fun u2 hu2 => ?_⟩
    have sB : Same HA (upd HA u2 (.tup [.int 2, .int 3])) := same_upd hu2
    have hU2 : SqT K (upd HA u2 (.tup [.int 2, .int 3])) u2 ([2, 3].map vN) := .inl (.inl upd_same)
    generalize upd HA u2 (.tup [.int 2, .int 3]) = HB at sB hU2
    refine ⟨(by show 2 ≤ sizeLine; decide), fun u3 hu3 => ?_⟩
    have sC : Same HB (upd HB u3 (.tup [.ref u1, .ref u2])) := same_upd hu3
    have hU3 : SqT K (upd HB u3 (.tup [.ref u1, .ref u2])) u3 [.ref u1, .ref u2] := .inl (.inl upd_same)
    generalize upd HB u3 (.tup [.ref u1, .ref u2]) = H4 at sC hU3
    have s4 : Same H3 H4 := sA.trans (sB.trans sC)
    have dv4 : Dp K H4 (.ref u3) (.tuple ([[0, 3], [2, 3]].map encL)) := .tup hU3 (.cons (dp_row (Same.sqT (sB.trans sC) hU1)) (.cons (dp_row (Same.sqT sC hU2)) .nil))
    refine ⟨_, _, rfl, dv4, shR, ?_⟩
    refine ⟨rfl, _, rfl, ite_any (fun h => absurd h (by simp)) (fun _ => ?_)⟩
    have hC4 := hC3.same s4
    refine ⟨_, rfl, (by show 1 ≤ sizeLine; decide), fun ta hta => ?_⟩
    have s5 : Same H4 (upd H4 ta (.tup [.int 1])) := same_upd hta
    have hA5 : SqT K (upd H4 ta (.tup [.int 1])) ta ([1].map vN) := .inl (.inl upd_same)
    generalize upd H4 ta (.tup [.int 1]) = H5 at s5 hA5
    refine ⟨(by show 1 ≤ sizeLine; decide), fun tb htb => ?_⟩
    have s6 : Same H5 (upd H5 tb (.tup [.int 2])) := same_upd htb
    have hB6 : SqT K (upd H5 tb (.tup [.int 2])) tb ([2].map vN) := .inl (.inl upd_same)
    generalize upd H5 tb (.tup [.int 2]) = H6 at s6 hB6
    have s46 := s5.trans s6
    refine ⟨.ref c0, .ref ta, .ref tb, chartD chL, lotD [1], lotD [2], rfl, dp_chart (hC4.same s46), dp_lot (Same.sqT s6 hA5), dp_lot hB6, (fun h => ?_), fun C' S' U' ok' ec es eu _ _ _ _ _ _ H7 s7 => ?_⟩
    · rw [isStand_ok chL_ok (by decide) (by decide) (by decide), isStand_ok chL_ok (by decide) (by decide) (by decide)] at h
      rcases h with h | h <;> cases h
    have z1 := chartD_inj ec
    have z2 := lotD_inj es
    have z3 := lotD_inj eu
    subst z1 z2 z3
    rw [chL_later]
    refine ⟨_, _, rfl, rfl, _, rfl, iteF ?_⟩
    have s17 := s2.trans (s3.trans (s4.trans (s46.trans s7)))
    have hS7 := Same.sqL s17 hS1
    have tabs7 := tabs_same tabs1 s17
    clear hC4 hC3 hC0 hA5 hB6 hq hrs dv4 hd0 s5 s6 s46 s2 s3 s4 s7
    refine ⟨_, rfl, sa, ns, rfl, hS7, fun p l H8 s8 _ _ hP8 => ?_⟩
    have tabs8 := tabs_same tabs7 s8
    refine ⟨_, rfl, p, l, 3, rfl, hP8, by decide, by decide, fun rg H9 _ hP9 k9 => ?_⟩
    have tabs9 := tabs_kp tabs8 k9 (pl hP8)
    refine ⟨rfl, ?_⟩
    refine ⟨fun σ' H' => ∃ (c : Addr) (C : Chart) (gr : Bool), σ' = [some (.ref sa), some (.ref c0), some (.ref p), some (.bl gr), some (.ref c), none, none, none] ∧ IsChart K H' c C ∧ C.Ok ∧ PoolAt H' p l ∧ Tabs (lamT2 P1 P2) H', ?_, ?_⟩
    · refine ⟨_, rfl, p, l, 2, rfl, hP9, by decide, by decide, fun r H10 hr10 hP10 k10 => ?_⟩
      have tabs10 := tabs_kp tabs9 k10 (pl hP9)
      refine ⟨rfl, _, rfl, ite_any (fun _ => ?_) (fun _ => ?_)⟩
      · exact ⟨_, rfl, p, l, 8, rfl, hP10, by decide, fun c C H11 hC11 ok _ hP11 k11 => ⟨c, C, _, rfl, hC11, ok, hP11, tabs_kp tabs10 k11 (pl hP10)⟩⟩
      · refine ⟨_, rfl, _, rfl, p, l, 3, rfl, hP10, by decide, by decide, fun r1 H11 hr11 hP11 k11 => ⟨1, r1, rfl, rfl, ?_⟩⟩
        refine ⟨_, rfl, p, l, 4, rfl, hP11, by decide, by decide, fun r2 H12 hr12 hP12 k12 => ?_⟩
        have tabs12 := tabs_kp (tabs_kp tabs10 k11 (pl hP10)) k12 (pl hP11)
        refine ⟨p, l, 1 + r1, r2, 1, rfl, hP12, by omega, by omega, by omega, by decide, by decide, fun q0 c ri wa tl C ring wts H13 hq hC13 ok _ _ _ _ _ _ _ hP13 k13 => ?_⟩
        exact ⟨q0, _, _, _, rfl, rfl, .inl (.inl hq), atI_nat (j := 0) (v := V.ref c) rfl, c, C, _, rfl, hC13, ok, hP13, tabs_kp tabs12 k13 (pl hP12)⟩
    rintro σ H10 ⟨c, C, gr, rfl, hC10, ok, hP10, tabs10⟩
    have n60 := ok.n60
    obtain ⟨r0, w0, ts0, hA10⟩ := id hC10
    refine ⟨fun σ' H' => ∃ v5 v6 : Option V, σ' = [some (.ref sa), some (.ref c0), some (.ref p), some (.bl gr), some (.ref c), v5, v6, none] ∧ PoolAt H' p l ∧ Tabs (lamT2 P1 P2) H', ?_, ?_⟩
    · refine ⟨_, rfl, _, _, _, _, rfl, rfl, hA10.top, rfl, _, _, rfl, rfl, _, rfl, ite_any (fun hz => ?_) (fun hz => ?_)⟩
      · have n0 : 0 < C.n := by
          have := of_decide_eq_true hz
          omega
        refine ⟨_, rfl, c, C, rfl, hC10, ok, fun tb rows H11 s11 htb new hT11 => ?_⟩
        have hP11 := hP10.same s11
        have hC11 := hC10.same s11
        have tabs11 := tabs_same tabs10 s11
        have hA11 := hA10.same s11
        refine ⟨_, rfl, _, rfl, ?_⟩
        refine ⟨fun v H' => ∃ most : Nat, v = vN most ∧ 0 < most ∧ most ≤ 3 ∧ H' = H11, ⟨_, rfl, _, _, _, _, rfl, rfl, hA11.top, rfl, _, _, rfl, rfl, _, rfl, ite_any (fun _ => ⟨2, rfl, by decide, by decide, rfl⟩) (fun _ => ⟨3, rfl, by decide, by decide, rfl⟩)⟩, ?_⟩
        rintro v H11' ⟨most, rfl, m0, m3, rfl⟩
        refine ⟨p, l, c, C, most, rfl, hP11, hC11, ok, n0, m0, by omega, fun st S H12 hS12 inS l1 l3 hP12 k12 => ?_⟩
        have tabs12 := tabs_kp tabs11 k12 (pl hP11)
        have hC12 : IsChart K H12 c C := hC11.keep k12 hP11.lists
        have tbn : tb ∉ [p, l] := hP10.free htb
        have rown : ∀ r ∈ rows, r ∉ [p, l] := fun r hr => hP10.free (new r hr)
        have hT12 : TabAt H12 C tb rows := hT11.kp k12 tbn rown
        refine ⟨_, _, rfl, ?_⟩
        refine ⟨_, rfl, _, rfl, _, rfl, _, rfl, p, l, c, tb, st, C, rows, S, rfl, hP12, hC12, ok, n0, hT12, tbn, rown, hS12, inS, l1, by omega, fun H13 hP13 k13 => ⟨_, rfl, iteF ?_⟩⟩
        have hC13 : IsChart K H13 c C := hC12.keep k13 hP12.lists
        have hS13 := k13.sqT hP12.lists hS12
        have hT13 := hT12.kp k13 tbn rown
        have tabs13 := tabs_kp tabs12 k13 (pl hP12)
        refine ⟨_, rfl, _, rfl, c, st, C, S, rfl, hC13, ok, hS13, inS, l1, by omega, fun H14 s14 => ⟨_, rfl, iteF ?_⟩⟩
        refine ⟨_, rfl, _, rfl, _, rfl, c, tb, st, C, rows, S, rfl, hC13.same s14, ok, hT13.same s14, Same.sqT s14 hS13, inS, l1, by omega, tabs_same tabs13 s14, fun H15 e15 t15 => ⟨_, rfl, iteF ?_⟩⟩
        have e145 := ExtN.trans (ext_same s14) e15
        refine ⟨_, rfl, _, rfl, c, st, C, S, rfl, ext_chart e145 hC13, ok, ext_sqT e145 hS13, inS, l1, by omega, t15, fun H16 e16 t16 => ⟨_, rfl, iteF ?_⟩⟩
        exact ⟨_, _, rfl, ext_pool (ExtN.trans e145 e16) hP13, t16⟩
      · exact ⟨_, _, rfl, hP10, tabs10⟩
    rintro σ H11 ⟨v5, v6, rfl, hP11, tabs11⟩
    refine ⟨_, rfl, _, rfl, ite_any (fun _ => ?_) (fun _ => ?_)⟩
    · exact ⟨_, rfl, p, l, rfl, hP11, tabs11, q⟩
    dsimp only
    refine at_seq (for_lit (K := K) (ds := [.int 7, .int 8]) (gva_cons gv_int (gva_cons gv_int gva_nil)) (by decide) fun g xs H12 s12 hG12 hd12 => ?_)
    have tabs12 := tabs_same tabs11 s12
    refine ⟨fun i σ H' => ∃ v4 v5 v6 v7 : Option V, σ = [some (.ref sa), some (.ref c0), some (.ref p), some (.bl gr), v4, v5, v6, v7] ∧ ExtN H12 H' ∧ Tabs (lamT2 P1 P2) H', ⟨_, _, _, _, rfl, ExtN.refl _, tabs12⟩, (fun i σ H' _ ⟨_, _, _, _, _, e, _⟩ => ext_sqL e (.inl (.inl hG12))), ?_, ?_⟩
    · rintro i x σ H13 hx ⟨v4, v5', v6', v7, rfl, e13, t13⟩
      obtain ⟨d, hd, dx⟩ := dpAll_get hd12 hx
      obtain ⟨m, rfl, h7, h8⟩ : ∃ m : Nat, d = .int (m : Int) ∧ 7 ≤ m ∧ m ≤ 8 := by
        match i, hd with
        | 0, hd => cases hd; exact ⟨7, rfl, by decide, by decide⟩
        | 1, hd => cases hd; exact ⟨8, rfl, by decide, by decide⟩
        | n + 2, hd => cases hd
      cases dp_int dx
      have em : V.int ((m : Int) - 1) = vN (m - 1) := by unfold vN; congr 1; omega
      have two : ∀ {a b : PyData}, [a, b].length ≤ 1000 := by intro a b; show 2 ≤ 1000; decide
      refine seq_gv (K := K) (d := .tuple [.int (m : Int), .tuple [.tuple [.int 0, .int 1], .tuple [.int 1, .int 2]], .tuple [.int ((m : Int) - 1)]]) ?_ fun v0 H14 s14 hd14 => ?_
      · exact gv_tup (gva_cons (gv_var rfl (.int _)) (gva_cons (gv_tup (gva_cons (gv_tup (gva_cons gv_int (gva_cons gv_int gva_nil)) two) (gva_cons (gv_tup (gva_cons gv_int (gva_cons gv_int gva_nil)) two) gva_nil)) two) (gva_cons (gv_tup (gva_cons (gv_sub (gv_var rfl (.int _)) gv_int) gva_nil) (by show 1 ≤ 1000; decide)) gva_nil))) (by show 3 ≤ 1000; decide)
      have ed : (PyData.tuple [.int (m : Int), .tuple [.tuple [.int 0, .int 1], .tuple [.int 1, .int 2]], .tuple [.int ((m : Int) - 1)]]) = chartD (chM m) := by
        show _ = PyData.tuple [.int (m : Int), .tuple [.tuple [.int 0, .int 1], .tuple [.int 1, .int 2]], .tuple [.int ((m - 1 : Nat) : Int)]]
        have : ((m : Int) - 1) = ((m - 1 : Nat) : Int) := by omega
        rw [this]
      rw [ed] at hd14
      obtain ⟨c, rfl, hC14⟩ := chart_dp hd14
      have ok := chM_ok h7 h8
      refine ⟨_, rfl, _, rfl, c, chM m, rfl, hC14, ok, fun tb rows H15 s15 _ _ hT15 => ?_⟩
      refine ⟨_, rfl, _, _, rfl, rfl, (by show 3 ≤ sizeLine; decide), fun t ht => ?_⟩
      have s16 : Same H15 (upd H15 t (.tup [.int 0, .int 1, V.int ((m : Int) - 1)])) := same_upd ht
      have hT16 : SqT K (upd H15 t (.tup [.int 0, .int 1, V.int ((m : Int) - 1)])) t ([0, 1, m - 1].map vN) := .inl (.inl (by rw [upd_same, em]; rfl))
      generalize upd H15 t (.tup [.int 0, .int 1, V.int ((m : Int) - 1)]) = H16 at s16 hT16
      have s1416 := s14.trans (s15.trans s16)
      have in3 : ∀ x ∈ [0, 1, m - 1], x < (chM m).n := by
        intro x hx
        show x < m
        simp only [List.mem_cons, List.not_mem_nil, or_false] at hx
        rcases hx with rfl | rfl | rfl <;> omega
      refine ⟨c, tb, t, chM m, rows, [0, 1, m - 1], rfl, hC14.same (s15.trans s16), ok, hT15.same s16, hT16, in3, by show 1 ≤ 3; decide, by show 3 ≤ 3; decide, tabs_same t13 s1416, fun H17 e17 t17 => ⟨_, rfl, iteF ?_⟩⟩
      exact ⟨_, _, _, _, rfl, ExtN.trans e13 (ExtN.trans (ext_same s1416) e17), t17⟩
    · rintro σ H13 ⟨v4, v5', v6', v7, rfl, e13, t13⟩
      exact q H13
end
end Ft

set_option Elab.async false
set_option linter.all false
set_option maxRecDepth 100000
set_option maxHeartbeats 8000000
namespace Ft
open PySem PySem.Spec PyProof.Rows L2
open LamX (TabB TabS Tabs ExtN CodeO)
/-! ### all together -/
theorem def_mk {K : PySem.W.Frag} {h : Heap} {mg : Str → Option Value} {x : Str} {st : Stmt} {f : Addr} {oc : Value} {od an : Option Addr} {osl : Array (Option Value)} {kV doc pm cdv ct : Value} (X : K.In h) (G : h.Ns mainGlobals mg) (a : PySem.W.nsIn K mainGlobals x = some (some (.ref f)))
    (l : K.lookup f = some ⟨oc, od, .func (PySem.W.fnOf x x (L2.defArgs st) (L2.defBody st) (L2.defScope st) .none kV doc pm an cdv ct), osl⟩) (c : PySem.W.codeIn K cdv x = true) (k : PySem.W.keepIn K (.ref f) = true) : Def K mg x st :=
  ⟨f, _, fun_mk l c k, PySem.W.mg_of X G a⟩
theorem defT_mk {K : PySem.W.Frag} {h : Heap} {mg : Str → Option Value} {x : Str} {st : Stmt} {f cc : Addr} {oc : Value} {od an : Option Addr} {osl : Array (Option Value)} {kV doc pm ct : Value} (X : K.In h) (G : h.Ns mainGlobals mg) (a : PySem.W.nsIn K mainGlobals x = some (some (.ref f)))
    (l : K.lookup f = some ⟨oc, od, .func (PySem.W.fnOf x x (L2.defArgs st) (L2.defBody st) (L2.defScope st) .none kV doc pm an (.ref cc) ct), osl⟩) (c : PySem.W.codeIn K (.ref cc) x = true) (k : PySem.W.keepIn K (.ref f) = true) : DefT K mg x st cc :=
  ⟨f, oc, od, kV, doc, pm, an, ct, osl, l, c, k, PySem.W.mg_of X G a⟩
theorem txt_mk {K : PySem.W.Frag} {h : Heap} {mg : Str → Option Value} (X : K.In h) (G : h.Ns mainGlobals mg) (z0 : PySem.W.nsIn K mainGlobals "isinstance" = some none) (z1 : PySem.W.nsIn K mainGlobals "len" = some none) (z2 : PySem.W.nsIn K mainGlobals "tuple" = some none) (z3 : PySem.W.nsIn K mainGlobals "int" = some none) (z4 : PySem.W.nsIn K mainGlobals "bool" = some none) (z5 : PySem.W.nsIn K mainGlobals "enumerate" = some none) (z6 : PySem.W.nsIn K mainGlobals "range" = some none) (z7 : PySem.W.nsIn K mainGlobals "set" = some none) (z8 : PySem.W.nsIn K mainGlobals "list" = some none) (z9 : PySem.W.nsIn K mainGlobals "sorted" = some none) (z10 : PySem.W.nsIn K mainGlobals "min" = some none) (z11 : PySem.W.nsIn K mainGlobals "max" = some none) (z12 : PySem.W.nsIn K mainGlobals "repr" = some none) (z13 : PySem.W.nsIn K mainGlobals "dict" = some none) (z14 : PySem.W.nsIn K mainGlobals "str" = some none) (z15 : PySem.W.nsIn K mainGlobals "any" = some none) (z16 : PySem.W.nsIn K mainGlobals "all" = some none) (z17 : PySem.W.nsIn K mainGlobals "sum" = some none) (z18 : PySem.W.nsIn K mainGlobals "zip" = some none) : Txt mg :=
  ⟨PySem.W.mg_none_of X G z0, PySem.W.mg_none_of X G z1, PySem.W.mg_none_of X G z2, PySem.W.mg_none_of X G z3, PySem.W.mg_none_of X G z4, PySem.W.mg_none_of X G z5, PySem.W.mg_none_of X G z6, PySem.W.mg_none_of X G z7, PySem.W.mg_none_of X G z8, PySem.W.mg_none_of X G z9, PySem.W.mg_none_of X G z10, PySem.W.mg_none_of X G z11, PySem.W.mg_none_of X G z12, PySem.W.mg_none_of X G z13, PySem.W.mg_none_of X G z14, PySem.W.mg_none_of X G z15, PySem.W.mg_none_of X G z16, PySem.W.mg_none_of X G z17, PySem.W.mg_none_of X G z18⟩
theorem mgI_mk {K : PySem.W.Frag} {h : Heap} {mg : Str → Option Value} {x : Str} {n : Int} {t : Tok} (X : K.In h) (G : h.Ns mainGlobals mg) (a : PySem.W.nsIn K mainGlobals x = some (some (.int n t))) : MgI mg x n := ⟨t, PySem.W.mg_of X G a⟩
theorem ok_init {P : Program} {w : World} {K : PySem.W.Frag} {mg : Str → Option Value} {base : Heap} {fI : Addr} {fd : FuncData} (F : L2.Fun K "__init__" "Refused.__init__" s_init fI fd) : FnOk P w K mg base L2.CX0 1 fI fd ["self", "what"] (spInit K) := by
  refine F.ok sc_init (fun vs H Q E h => ?_) (fun cdv A outer s H vs Q E hr h => ?_)
  · obtain ⟨a, C, v, rfl, _⟩ := h
    rfl
  · obtain ⟨a, C, v, rfl, oe, no, ha, q⟩ := h
    refine ⟨_, (pss_one (ps_ost (pv 0) (pv 1))), ?_⟩
    exact ⟨_, rfl, _, rfl, a, C, rfl, oe, no, .inl ⟨ha, fun dx n ne => q dx n ne⟩⟩
/-- what the head tells of a class of errors -/
structure ErrH (K : PySem.W.Frag) (C fI : Addr) (x : Str) : Prop where
  a : PySem.W.nsIn K mainGlobals x = some (some (.ref C))
  cl : ∃ nm q N bs bm sn sub ab col dd k0 k1 k2 k3 k5, K.lookup C = some (excClassObj nm q C N bs bm true sn sub ab col dd k0 k1 k2 k3 k5 "ValueError.__new__") ∧ PySem.HandSPX.refsVE bm = true
  sa : PySem.W.findIn K (.ref C) "__setattr__" = some (some (.builtin "object.__setattr__"))
  ga : PySem.W.findIn K (.ref C) "__getattribute__" = some (some (.builtin "BaseException.__getattribute__"))
  gg : PySem.W.findIn K (.ref C) "__getattr__" = some none
  nw : PySem.W.findIn K (.ref C) "what" = some none
  ii : PySem.W.findIn K (.ref C) "__init__" = some (some (.ref fI))
  ex : PySem.W.subIn K (.ref C) (.type "BaseException") = some true
  ty : PySem.W.typeIn K (.ref C) = some (.type "type")
  kp : PySem.W.keepIn K (.ref C) = true
  hd : PySem.W.hasDictIn K C = true
  ic : PySem.W.isClsIn K C = true
theorem errH_mk {K : PySem.W.Frag} {C fI : Addr} {x : Str} {nm q : Str} {N : Addr} {bs bm : List Value} {sn : List Str} {sub : List Value} {ab : Bool} {col : Option Bool} {dd : Option Addr} {k0 k1 k2 k3 k5 : Option Value}
    (a : PySem.W.nsIn K mainGlobals x = some (some (.ref C))) (cl : K.lookup C = some (excClassObj nm q C N bs bm true sn sub ab col dd k0 k1 k2 k3 k5 "ValueError.__new__")) (r : PySem.HandSPX.refsVE bm = true)
    (sa : PySem.W.findIn K (.ref C) "__setattr__" = some (some (.builtin "object.__setattr__"))) (ga : PySem.W.findIn K (.ref C) "__getattribute__" = some (some (.builtin "BaseException.__getattribute__"))) (gg : PySem.W.findIn K (.ref C) "__getattr__" = some none) (nw : PySem.W.findIn K (.ref C) "what" = some none)
    (ii : PySem.W.findIn K (.ref C) "__init__" = some (some (.ref fI))) (ex : PySem.W.subIn K (.ref C) (.type "BaseException") = some true) (ty : PySem.W.typeIn K (.ref C) = some (.type "type")) (kp : PySem.W.keepIn K (.ref C) = true) (hd : PySem.W.hasDictIn K C = true) (ic : PySem.W.isClsIn K C = true) : ErrH K C fI x :=
  ⟨a, ⟨nm, q, N, bs, bm, sn, sub, ab, col, dd, k0, k1, k2, k3, k5, cl, r⟩, sa, ga, gg, nw, ii, ex, ty, kp, hd, ic⟩
theorem er_mk {P : Program} {w : World} {K : PySem.W.Frag} {h : Heap} {mg : Str → Option Value} {base : Heap} {ca : Str → Addr} {x : Str} {C fI : Addr} {fd : FuncData} (X : K.In h) (G : h.Ns mainGlobals mg) (e : ErrH K C fI x) (tI : PySem.W.typeIn K (.ref fI) = some (.type "function")) (F : L2.Fun K "__init__" "Refused.__init__" s_init fI fd)
    (b : Binds K fd ["self", "what"] []) (hc : ca x = C) : Er P w K mg base ca x := by
  subst hc
  exact ⟨fI, fd, ⟨PySem.W.mg_of X G e.a, ⟨e.cl, e.sa, e.ex, e.ty, e.kp⟩, e.ii, tI, e.nw, ⟨e.ga, e.gg, e.ex, e.hd⟩⟩, ok_init F, b⟩
theorem exm_mk {K : PySem.W.Frag} {ca : Str → Addr} {x y : Str} {C D fI fJ : Addr} {b : Bool} (e : ErrH K D fJ y) (h : PySem.W.subIn K (.ref C) (.ref D) = some b) (hc : ca x = C) (hd : ca y = D) : Exm K ca x y b := by
  subst hc hd
  unfold Exm
  have h1 : (PySem.W.subIn K (.ref (ca y)) (.type "BaseException") == some true) = true := by rw [e.ex]; rfl
  have h2 : ((PySem.W.clsIn K (ca y)).isSome && PySem.W.typeIn K (.ref (ca y)) == some (.type "type")) = true := by
    have z : (PySem.W.clsIn K (ca y)).isSome = true := e.ic
    rw [z, e.ty]
    rfl
  show (if (PySem.W.subIn K (.ref (ca y)) (.type "BaseException") == some true) = true then (if ((PySem.W.clsIn K (ca y)).isSome && PySem.W.typeIn K (.ref (ca y)) == some (.type "type")) = true then PySem.W.subIn K (.ref (ca x)) (.ref (ca y)) else none) else none) = some b
  rw [if_pos h1, if_pos h2]
  exact h
def caOf (l : List (Str × Addr)) (x : Str) : Addr := (l.lookup x).getD 0
theorem all_mk {l : PySem.W.OpenLaw} {w : World} {K : PySem.W.Frag} {h : Heap} {mg : Str → Option Value} {fa f : Addr} {oc : Value} {od an : Option Addr} {osl : Array (Option Value)} {kV doc pm cdv ct : Value} {fI : Addr} {fdI : FuncData} {C_BadMap : Addr} {C_BadNumber : Addr} {C_BadPlace : Addr} {C_BadStanding : Addr} {C_BadWish : Addr} {C_Refused : Addr} {C_TooMany : Addr} {cc_law_late_rows Pt_law_late_rows : Addr} {cc_law_late_refused Pt_law_late_refused : Addr} (X : K.In h) (G : h.Ns mainGlobals mg) (hfa : mg "law" = some (.ref fa)) (T : Txt mg)
    (D_is_number : Def K mg "is_number" s_is_number) (D_number_within : Def K mg "number_within" s_number_within) (D_road_fits : Def K mg "road_fits" s_road_fits) (D_check_roads : Def K mg "check_roads" s_check_roads) (D_first_bad_place : Def K mg "first_bad_place" s_first_bad_place) (D_made_map : Def K mg "made_map" s_made_map) (D_place_fits : Def K mg "place_fits" s_place_fits) (D_made_standing : Def K mg "made_standing" s_made_standing) (D_unwished_of : Def K mg "unwished_of" s_unwished_of) (D_roads_from : Def K mg "roads_from" s_roads_from) (D_reached : Def K mg "reached" s_reached) (D_reached_unwished : Def K mg "reached_unwished" s_reached_unwished) (D_piece_table : Def K mg "piece_table" s_piece_table) (D_unwished_pieces : Def K mg "unwished_pieces" s_unwished_pieces) (D_check_size : Def K mg "check_size" s_check_size) (D_later_places : Def K mg "later_places" s_later_places) (D_later_rows : Def K mg "later_rows" s_later_rows) (D_is_standing : Def K mg "is_standing" s_is_standing) (D_is_later : Def K mg "is_later" s_is_later) (D_law_pool : Def K mg "_law_pool" s_law_pool) (D_law_draw : Def K mg "_law_draw" s_law_draw) (D_law_turned : Def K mg "_law_turned" s_law_turned) (D_law_map_named : Def K mg "_law_map_named" s_law_map_named) (D_law_map_some_wished : Def K mg "_law_map_some_wished" s_law_map_some_wished) (D_law_map_drawn : Def K mg "_law_map_drawn" s_law_map_drawn) (D_law_map_planted : Def K mg "_law_map_planted" s_law_map_planted) (D_law_map_met : Def K mg "_law_map_met" s_law_map_met) (D_law_map_table : Def K mg "_law_map_table" s_law_map_table) (D_law_map_standing : Def K mg "_law_map_standing" s_law_map_standing) (D_law_map_piece : Def K mg "_law_map_piece" s_law_map_piece) (D_law_map_row : Def K mg "_law_map_row" s_law_map_row) (D_law_pick : Def K mg "_law_pick" s_law_pick) (D_law_map_comes : Def K mg "_law_map_comes" s_law_map_comes) (D_law_late_other : Def K mg "_law_late_other" s_law_late_other) (D_law_map_is_later : Def K mg "_law_map_is_later" s_law_map_is_later) (D_law_late_says : Def K mg "_law_late_says" s_law_late_says) (D_law_late_pairs : Def K mg "_law_late_pairs" s_law_late_pairs) (D_law_late_bent : Def K mg "_law_late_bent" s_law_late_bent) (D_law_heard : Def K mg "_law_heard" s_law_heard) (D_law_map_pieces : Def K mg "_law_map_pieces" s_law_map_pieces) (D_law_map_size : Def K mg "_law_map_size" s_law_map_size) (D_law_map_later : Def K mg "_law_map_later" s_law_map_later) (D_law_late_rows : DefT K mg "_law_late_rows" s_law_late_rows cc_law_late_rows) (D_law_late_refused : DefT K mg "_law_late_refused" s_law_late_refused cc_law_late_refused) (D_law_late_great : Def K mg "_law_late_great" s_law_late_great)
    (m_MOST_PLACES : MgI mg "MOST_PLACES" 60) (m_MOST_ROADS : MgI mg "MOST_ROADS" 240) (m_MOST_ROWS : MgI mg "MOST_ROWS" 400) (m_MOST_THREADS : MgI mg "MOST_THREADS" 3) (E_BadMap : ErrH K C_BadMap fI "BadMap") (E_BadNumber : ErrH K C_BadNumber fI "BadNumber") (E_BadPlace : ErrH K C_BadPlace fI "BadPlace") (E_BadStanding : ErrH K C_BadStanding fI "BadStanding") (E_BadWish : ErrH K C_BadWish fI "BadWish") (E_Refused : ErrH K C_Refused fI "Refused") (E_TooMany : ErrH K C_TooMany fI "TooMany") (tI : PySem.W.typeIn K (.ref fI) = some (.type "function")) (FI : L2.Fun K "__init__" "Refused.__init__" s_init fI fdI) (bI : Binds K fdI ["self", "what"] []) (X_BadMap_BadMap : PySem.W.subIn K (.ref C_BadMap) (.ref C_BadMap) = some true) (X_BadMap_Refused : PySem.W.subIn K (.ref C_BadMap) (.ref C_Refused) = some true) (X_BadStanding_BadMap : PySem.W.subIn K (.ref C_BadStanding) (.ref C_BadMap) = some false) (X_BadStanding_BadNumber : PySem.W.subIn K (.ref C_BadStanding) (.ref C_BadNumber) = some false) (X_BadStanding_BadPlace : PySem.W.subIn K (.ref C_BadStanding) (.ref C_BadPlace) = some false) (X_BadStanding_BadStanding : PySem.W.subIn K (.ref C_BadStanding) (.ref C_BadStanding) = some true) (X_BadStanding_BadWish : PySem.W.subIn K (.ref C_BadStanding) (.ref C_BadWish) = some false) (X_BadStanding_Refused : PySem.W.subIn K (.ref C_BadStanding) (.ref C_Refused) = some true) (X_BadWish_BadMap : PySem.W.subIn K (.ref C_BadWish) (.ref C_BadMap) = some false) (X_BadWish_BadWish : PySem.W.subIn K (.ref C_BadWish) (.ref C_BadWish) = some true) (X_BadWish_Refused : PySem.W.subIn K (.ref C_BadWish) (.ref C_Refused) = some true) (X_TooMany_BadMap : PySem.W.subIn K (.ref C_TooMany) (.ref C_BadMap) = some false) (X_TooMany_BadNumber : PySem.W.subIn K (.ref C_TooMany) (.ref C_BadNumber) = some false) (X_TooMany_BadPlace : PySem.W.subIn K (.ref C_TooMany) (.ref C_BadPlace) = some false) (X_TooMany_BadStanding : PySem.W.subIn K (.ref C_TooMany) (.ref C_BadStanding) = some false) (X_TooMany_BadWish : PySem.W.subIn K (.ref C_TooMany) (.ref C_BadWish) = some false) (X_TooMany_TooMany : PySem.W.subIn K (.ref C_TooMany) (.ref C_TooMany) = some true) (gT_law_late_rows : h.get? Pt_law_late_rows = some { cls := .none, data := .fields #[] }) (nT_law_late_rows : K.lookup Pt_law_late_rows = none) (hT_law_late_rows : PySem.W.codeHdIn K cc_law_late_rows Pt_law_late_rows = true) (gT_law_late_refused : h.get? Pt_law_late_refused = some { cls := .none, data := .fields #[] }) (nT_law_late_refused : K.lookup Pt_law_late_refused = none) (hT_law_late_refused : PySem.W.codeHdIn K cc_law_late_refused Pt_law_late_refused = true) (ne : Pt_law_late_rows ≠ Pt_law_late_refused)
    (a : PySem.W.nsIn K mainGlobals "law" = some (some (.ref f))) (lk : K.lookup f = some ⟨oc, od, .func (PySem.W.fnOf "law" "law" (L2.defArgs s_law) (L2.defBody s_law) (L2.defScope s_law) .none kV doc pm an cdv ct), osl⟩) (c : PySem.W.codeIn K cdv "law" = true) (k : PySem.W.keepIn K (.ref f) = true) :
    ∃ (fd : FuncData) (cs : List (Addr × Addr)) (sp : Sp), (∀ p ∈ cs, h.get? p.2 = some { cls := .none, data := .fields #[] }) ∧ (∀ p ∈ cs, K.lookup p.2 = none) ∧ (∀ p ∈ cs, PySem.W.CodeHd h p.1 p.2) ∧ (∀ (s : Shared) (u : Value), BindsTo s fd ⟨[u], []⟩ [("script", u)]) ∧
      (∀ (H : Hp) (a : Addr) (ns : List Int), ns.length ≤ 63 → (∀ p ∈ cs, H p.2 = some (.tbl #[])) → SqL K H a (ns.map V.int) → sp [.ref a] H (fun v _ => v = .bl true) fun _ _ _ => False) ∧
      ∀ base : Heap, K.In base → base.Ns mainGlobals mg → (∀ p ∈ cs, TabB base mg p.1 p.2) → FnG l.prog w K mg base 22 fa fd ["script"] sp := by
  have e := hfa.symm.trans (PySem.W.mg_of X G a)
  cases e
  have F := fun_mk (st := s_law) lk c k
  refine ⟨PySem.W.fnOf "law" "law" (L2.defArgs s_law) (L2.defBody s_law) (L2.defScope s_law) .none kV doc pm an cdv ct, [(cc_law_late_rows, Pt_law_late_rows), (cc_law_late_refused, Pt_law_late_refused)], (sp_law K Pt_law_late_rows Pt_law_late_refused), ?_, ?_, ?_, fun s v => .of_eq rfl, fun H a ns _ hH hS => ?_, fun base _ _ tbs => ?_⟩
  · intro p hp
    simp only [List.mem_cons, List.not_mem_nil, or_false] at hp
    rcases hp with rfl | rfl
    · exact gT_law_late_rows
    · exact gT_law_late_refused
  · intro p hp
    simp only [List.mem_cons, List.not_mem_nil, or_false] at hp
    rcases hp with rfl | rfl
    · exact nT_law_late_rows
    · exact nT_law_late_refused
  · intro p hp
    simp only [List.mem_cons, List.not_mem_nil, or_false] at hp
    rcases hp with rfl | rfl
    · exact PySem.W.codeHd_of_K X hT_law_late_rows
    · exact PySem.W.codeHd_of_K X hT_law_late_refused
  · exact ⟨a, ns, rfl, hS, (fun p hp => by simp only [lamT2, List.mem_cons, List.not_mem_nil, or_false] at hp; rcases hp with rfl | rfl <;> first | exact LamX.TabS.nil (hH (cc_law_late_rows, Pt_law_late_rows) (by simp)) | exact LamX.TabS.nil (hH (cc_law_late_refused, Pt_law_late_refused) (by simp))), fun _ => rfl⟩
  have tb_law_late_rows := tbs (cc_law_late_rows, Pt_law_late_rows) (by simp)
  have tb_law_late_refused := tbs (cc_law_late_refused, Pt_law_late_refused) (by simp)
  let ca : Str → Addr := caOf [("BadMap", C_BadMap), ("BadNumber", C_BadNumber), ("BadPlace", C_BadPlace), ("BadStanding", C_BadStanding), ("BadWish", C_BadWish), ("Refused", C_Refused), ("TooMany", C_TooMany)]
  have h_BadMap : ca "BadMap" = C_BadMap := by rfl
  have h_BadNumber : ca "BadNumber" = C_BadNumber := by rfl
  have h_BadPlace : ca "BadPlace" = C_BadPlace := by rfl
  have h_BadStanding : ca "BadStanding" = C_BadStanding := by rfl
  have h_BadWish : ca "BadWish" = C_BadWish := by rfl
  have h_Refused : ca "Refused" = C_Refused := by rfl
  have h_TooMany : ca "TooMany" = C_TooMany := by rfl
  have e_BadMap : Er l.prog w K mg base ca "BadMap" := er_mk X G E_BadMap tI FI bI h_BadMap
  have e_BadNumber : Er l.prog w K mg base ca "BadNumber" := er_mk X G E_BadNumber tI FI bI h_BadNumber
  have e_BadPlace : Er l.prog w K mg base ca "BadPlace" := er_mk X G E_BadPlace tI FI bI h_BadPlace
  have e_BadStanding : Er l.prog w K mg base ca "BadStanding" := er_mk X G E_BadStanding tI FI bI h_BadStanding
  have e_BadWish : Er l.prog w K mg base ca "BadWish" := er_mk X G E_BadWish tI FI bI h_BadWish
  have e_Refused : Er l.prog w K mg base ca "Refused" := er_mk X G E_Refused tI FI bI h_Refused
  have e_TooMany : Er l.prog w K mg base ca "TooMany" := er_mk X G E_TooMany tI FI bI h_TooMany
  have x_BadMap_BadMap : Exm K ca "BadMap" "BadMap" true := exm_mk (fI := fI) E_BadMap X_BadMap_BadMap h_BadMap h_BadMap
  have x_BadMap_Refused : Exm K ca "BadMap" "Refused" true := exm_mk (fI := fI) E_Refused X_BadMap_Refused h_BadMap h_Refused
  have x_BadStanding_BadMap : Exm K ca "BadStanding" "BadMap" false := exm_mk (fI := fI) E_BadMap X_BadStanding_BadMap h_BadStanding h_BadMap
  have x_BadStanding_BadNumber : Exm K ca "BadStanding" "BadNumber" false := exm_mk (fI := fI) E_BadNumber X_BadStanding_BadNumber h_BadStanding h_BadNumber
  have x_BadStanding_BadPlace : Exm K ca "BadStanding" "BadPlace" false := exm_mk (fI := fI) E_BadPlace X_BadStanding_BadPlace h_BadStanding h_BadPlace
  have x_BadStanding_BadStanding : Exm K ca "BadStanding" "BadStanding" true := exm_mk (fI := fI) E_BadStanding X_BadStanding_BadStanding h_BadStanding h_BadStanding
  have x_BadStanding_BadWish : Exm K ca "BadStanding" "BadWish" false := exm_mk (fI := fI) E_BadWish X_BadStanding_BadWish h_BadStanding h_BadWish
  have x_BadStanding_Refused : Exm K ca "BadStanding" "Refused" true := exm_mk (fI := fI) E_Refused X_BadStanding_Refused h_BadStanding h_Refused
  have x_BadWish_BadMap : Exm K ca "BadWish" "BadMap" false := exm_mk (fI := fI) E_BadMap X_BadWish_BadMap h_BadWish h_BadMap
  have x_BadWish_BadWish : Exm K ca "BadWish" "BadWish" true := exm_mk (fI := fI) E_BadWish X_BadWish_BadWish h_BadWish h_BadWish
  have x_BadWish_Refused : Exm K ca "BadWish" "Refused" true := exm_mk (fI := fI) E_Refused X_BadWish_Refused h_BadWish h_Refused
  have x_TooMany_BadMap : Exm K ca "TooMany" "BadMap" false := exm_mk (fI := fI) E_BadMap X_TooMany_BadMap h_TooMany h_BadMap
  have x_TooMany_BadNumber : Exm K ca "TooMany" "BadNumber" false := exm_mk (fI := fI) E_BadNumber X_TooMany_BadNumber h_TooMany h_BadNumber
  have x_TooMany_BadPlace : Exm K ca "TooMany" "BadPlace" false := exm_mk (fI := fI) E_BadPlace X_TooMany_BadPlace h_TooMany h_BadPlace
  have x_TooMany_BadStanding : Exm K ca "TooMany" "BadStanding" false := exm_mk (fI := fI) E_BadStanding X_TooMany_BadStanding h_TooMany h_BadStanding
  have x_TooMany_BadWish : Exm K ca "TooMany" "BadWish" false := exm_mk (fI := fI) E_BadWish X_TooMany_BadWish h_TooMany h_BadWish
  have x_TooMany_TooMany : Exm K ca "TooMany" "TooMany" true := exm_mk (fI := fI) E_TooMany X_TooMany_TooMany h_TooMany h_TooMany
  have c_is_number := cal_is_number (P := l.prog) (w := w) (base := base) T D_is_number 
  have c_number_within := cal_number_within (P := l.prog) (w := w) (base := base) T D_number_within c_is_number
  have c_road_fits := cal_road_fits (P := l.prog) (w := w) (base := base) T D_road_fits c_number_within
  have c_check_roads := cal_check_roads (P := l.prog) (w := w) (base := base) T D_check_roads m_MOST_ROADS e_BadMap c_road_fits
  have c_first_bad_place := cal_first_bad_place (P := l.prog) (w := w) (base := base) T D_first_bad_place c_number_within
  have c_made_map := cal_made_map (P := l.prog) (w := w) (base := base) T D_made_map m_MOST_PLACES e_BadMap e_BadWish c_number_within c_check_roads c_first_bad_place
  have c_place_fits := cal_place_fits (P := l.prog) (w := w) (base := base) T D_place_fits c_number_within
  have c_made_standing := cal_made_standing (P := l.prog) (w := w) (base := base) T D_made_standing m_MOST_THREADS e_BadStanding c_made_map c_place_fits
  have c_unwished_of := cal_unwished_of (P := l.prog) (w := w) (base := base) T D_unwished_of 
  have c_roads_from := cal_roads_from (P := l.prog) (w := w) (base := base) T D_roads_from 
  have c_reached := cal_reached (P := l.prog) (w := w) (base := base) T D_reached c_roads_from
  have c_reached_unwished := cal_reached_unwished (P := l.prog) (w := w) (base := base) T D_reached_unwished c_reached
  have c_piece_table := cal_piece_table (P := l.prog) (w := w) (base := base) T D_piece_table c_unwished_of c_reached_unwished
  have c_unwished_pieces := cal_unwished_pieces (P := l.prog) (w := w) (base := base) T D_unwished_pieces c_unwished_of
  have c_check_size := cal_check_size (P := l.prog) (w := w) (base := base) T D_check_size m_MOST_ROWS e_TooMany c_unwished_pieces
  have c_later_places := cal_later_places (P := l.prog) (w := w) (base := base) T D_later_places c_reached_unwished
  have c_later_rows := cal_later_rows (P := l.prog) (w := w) (base := base) T D_later_rows c_made_standing c_piece_table c_check_size c_later_places
  have v_later_rows := calv_later_rows (P := l.prog) (w := w) (base := base) c_later_rows
  have c_is_standing := cal_is_standing (P := l.prog) (w := w) (base := base) T D_is_standing e_Refused x_BadMap_Refused x_BadWish_Refused x_BadStanding_Refused c_made_standing
  have c_is_later := cal_is_later (P := l.prog) (w := w) (base := base) T D_is_later c_is_standing c_piece_table c_later_places
  have c_law_pool := cal_law_pool (P := l.prog) (w := w) (base := base) T D_law_pool 
  have c_law_draw := cal_law_draw (P := l.prog) (w := w) (base := base) T D_law_draw 
  have c_law_turned := cal_law_turned (P := l.prog) (w := w) (base := base) T D_law_turned c_law_draw
  have c_law_map_named := cal_law_map_named (P := l.prog) (w := w) (base := base) T D_law_map_named c_law_turned
  have c_law_map_some_wished := cal_law_map_some_wished (P := l.prog) (w := w) (base := base) T D_law_map_some_wished c_law_draw
  have c_law_map_drawn := cal_law_map_drawn (P := l.prog) (w := w) (base := base) T D_law_map_drawn c_law_draw c_law_map_named c_law_map_some_wished
  have c_law_map_planted := cal_law_map_planted (P := l.prog) (w := w) (base := base) T D_law_map_planted c_law_draw c_law_map_named
  have c_law_map_met := cal_law_map_met (P := l.prog) (w := w) (base := base) T D_law_map_met 
  have c_law_map_table := cal_law_map_table (P := l.prog) (w := w) (base := base) T D_law_map_table c_law_map_met
  have c_law_map_standing := cal_law_map_standing (P := l.prog) (w := w) (base := base) T D_law_map_standing c_law_draw
  have c_law_map_piece := cal_law_map_piece (P := l.prog) (w := w) (base := base) T D_law_map_piece 
  have c_law_map_row := cal_law_map_row (P := l.prog) (w := w) (base := base) T D_law_map_row c_law_map_piece
  have c_law_pick := cal_law_pick (P := l.prog) (w := w) (base := base) T D_law_pick c_law_draw
  have c_law_map_comes := cal_law_map_comes (P := l.prog) (w := w) (base := base) T D_law_map_comes 
  have c_law_late_other := cal_law_late_other (P := l.prog) (w := w) (base := base) T D_law_late_other c_law_draw c_law_pick c_law_map_piece c_law_map_comes
  have c_law_map_is_later := cal_law_map_is_later (P := l.prog) (w := w) (base := base) T D_law_map_is_later c_law_map_piece c_law_map_comes
  have c_law_late_says := cal_law_late_says (P := l.prog) (w := w) (base := base) T D_law_late_says c_is_later c_law_map_is_later
  have c_law_late_pairs := cal_law_late_pairs (P := l.prog) (w := w) (base := base) T D_law_late_pairs c_law_map_row c_law_late_other c_is_later c_law_late_says
  have c_law_late_bent := cal_law_late_bent (P := l.prog) (w := w) (base := base) T D_law_late_bent c_is_later
  have l_law_heard := calL_law_heard (P := l.prog) (w := w) (base := base) T D_law_heard e_BadMap e_BadWish e_BadNumber e_BadPlace e_BadStanding e_TooMany x_BadMap_BadMap x_BadWish_BadMap x_BadWish_BadWish x_BadStanding_BadMap x_BadStanding_BadWish x_BadStanding_BadNumber x_BadStanding_BadPlace x_BadStanding_BadStanding x_TooMany_BadMap x_TooMany_BadWish x_TooMany_BadNumber x_TooMany_BadPlace x_TooMany_BadStanding x_TooMany_TooMany
  have c_law_map_pieces := cal_law_map_pieces (P := l.prog) (w := w) (base := base) T D_law_map_pieces c_law_map_piece
  have c_law_map_size := cal_law_map_size (P := l.prog) (w := w) (base := base) T D_law_map_size c_law_map_pieces
  have c_law_map_later := cal_law_map_later (P := l.prog) (w := w) (base := base) T D_law_map_later c_law_map_piece c_law_map_comes
  have c_law_late_rows := cal_law_late_rows (P := l.prog) (w := w) (base := base) T D_law_late_rows tb_law_late_rows ne l_law_heard c_law_map_size c_later_rows v_later_rows c_law_map_later c_law_map_row
  have c_law_late_refused := cal_law_late_refused (P := l.prog) (w := w) (base := base) T D_law_late_refused tb_law_late_refused ne l_law_heard c_later_rows
  have c_law_late_great := cal_law_late_great (P := l.prog) (w := w) (base := base) T D_law_late_great c_law_draw c_law_map_table c_law_late_rows c_law_late_refused c_law_late_says
  exact fn_law T F v_later_rows c_is_later c_law_pool c_law_draw c_law_map_drawn c_law_map_planted c_law_map_table c_law_map_standing c_law_late_pairs c_law_late_bent c_law_late_rows c_law_late_refused c_law_late_great
theorem walk {l : PySem.W.OpenLaw} {q : Program} {loose : List Str} {XP : (Str → Option Value) → Heap → Prop} {YP : World → Heap → Prop} {d : DefRec} {K : Params → PySem.W.Frag} (hn : l.most = some 63) (hdf : d.params.defaults = [])
    (hY : ∀ (w : World) (h : Heap), YP w h → (K w.params).In h)
    (F : ∀ (w : World) (mg : Str → Option Value) (fa : Addr) (h : Heap), YP w h → (K w.params).In h → h.Ns mainGlobals mg → mg d.name = some (.ref fa) →
      ∃ (fd : FuncData) (cs : List (Addr × Addr)) (sp : Sp), (∀ p ∈ cs, h.get? p.2 = some { cls := .none, data := .fields #[] }) ∧ (∀ p ∈ cs, (K w.params).lookup p.2 = none) ∧ (∀ p ∈ cs, PySem.W.CodeHd h p.1 p.2) ∧ (∀ (s : Shared) (u : Value), BindsTo s fd ⟨[u], []⟩ [("script", u)]) ∧
        (∀ (H : Hp) (a : Addr) (ns : List Int), ns.length ≤ 63 → (∀ p ∈ cs, H p.2 = some (.tbl #[])) → SqL (K w.params) H a (ns.map V.int) → sp [.ref a] H (fun v _ => v = .bl true) fun _ _ _ => False) ∧
        ∀ base : Heap, (K w.params).In base → base.Ns mainGlobals mg → (∀ p ∈ cs, TabB base mg p.1 p.2) → FnG l.prog w (K w.params) mg base 22 fa fd ["script"] sp) :
    PySem.W.WalkO q loose XP YP l.row.toRowW d [] (fun f vs => PySem.call f vs) :=
  gwalkT (n := 63) (k := 22) (x := "script") hn (by decide) hdf ⟨rfl, by decide, by decide⟩ hY F
end Ft

open PySem PySem.W PyProof.Rows
set_option maxRecDepth 100000 in
set_option maxHeartbeats 0 in
theorem PySem.Challenge.cw_fewtraps_k11_later_standings_holds : PySem.Challenge.rw_fewtraps_k11_later_standings.Holds := by
  w_on; o_law; k_head; (case hw => w_witness2)
  k_fill
  refine Ft.walk (l := PySem.Challenge.rw_fewtraps_k11_later_standings) rfl rfl (fun w h Y => PySem.W.km_in_of Y) ?F
  case F =>
    intro w mg fa h Y KX G hmg
    have hT8 := PySem.W.km_tabs_of Y
    refine' Ft.all_mk KX G hmg (Ft.txt_mk KX G ?z0 ?z1 ?z2 ?z3 ?z4 ?z5 ?z6 ?z7 ?z8 ?z9 ?z10 ?z11 ?z12 ?z13 ?z14 ?z15 ?z16 ?z17 ?z18) (Ft.def_mk KX G ?a_is_number ?l_is_number ?c_is_number ?k_is_number) (Ft.def_mk KX G ?a_number_within ?l_number_within ?c_number_within ?k_number_within) (Ft.def_mk KX G ?a_road_fits ?l_road_fits ?c_road_fits ?k_road_fits) (Ft.def_mk KX G ?a_check_roads ?l_check_roads ?c_check_roads ?k_check_roads) (Ft.def_mk KX G ?a_first_bad_place ?l_first_bad_place ?c_first_bad_place ?k_first_bad_place) (Ft.def_mk KX G ?a_made_map ?l_made_map ?c_made_map ?k_made_map) (Ft.def_mk KX G ?a_place_fits ?l_place_fits ?c_place_fits ?k_place_fits) (Ft.def_mk KX G ?a_made_standing ?l_made_standing ?c_made_standing ?k_made_standing) (Ft.def_mk KX G ?a_unwished_of ?l_unwished_of ?c_unwished_of ?k_unwished_of) (Ft.def_mk KX G ?a_roads_from ?l_roads_from ?c_roads_from ?k_roads_from) (Ft.def_mk KX G ?a_reached ?l_reached ?c_reached ?k_reached) (Ft.def_mk KX G ?a_reached_unwished ?l_reached_unwished ?c_reached_unwished ?k_reached_unwished) (Ft.def_mk KX G ?a_piece_table ?l_piece_table ?c_piece_table ?k_piece_table) (Ft.def_mk KX G ?a_unwished_pieces ?l_unwished_pieces ?c_unwished_pieces ?k_unwished_pieces) (Ft.def_mk KX G ?a_check_size ?l_check_size ?c_check_size ?k_check_size) (Ft.def_mk KX G ?a_later_places ?l_later_places ?c_later_places ?k_later_places) (Ft.def_mk KX G ?a_later_rows ?l_later_rows ?c_later_rows ?k_later_rows) (Ft.def_mk KX G ?a_is_standing ?l_is_standing ?c_is_standing ?k_is_standing) (Ft.def_mk KX G ?a_is_later ?l_is_later ?c_is_later ?k_is_later) (Ft.def_mk KX G ?a_law_pool ?l_law_pool ?c_law_pool ?k_law_pool) (Ft.def_mk KX G ?a_law_draw ?l_law_draw ?c_law_draw ?k_law_draw) (Ft.def_mk KX G ?a_law_turned ?l_law_turned ?c_law_turned ?k_law_turned) (Ft.def_mk KX G ?a_law_map_named ?l_law_map_named ?c_law_map_named ?k_law_map_named) (Ft.def_mk KX G ?a_law_map_some_wished ?l_law_map_some_wished ?c_law_map_some_wished ?k_law_map_some_wished) (Ft.def_mk KX G ?a_law_map_drawn ?l_law_map_drawn ?c_law_map_drawn ?k_law_map_drawn) (Ft.def_mk KX G ?a_law_map_planted ?l_law_map_planted ?c_law_map_planted ?k_law_map_planted) (Ft.def_mk KX G ?a_law_map_met ?l_law_map_met ?c_law_map_met ?k_law_map_met) (Ft.def_mk KX G ?a_law_map_table ?l_law_map_table ?c_law_map_table ?k_law_map_table) (Ft.def_mk KX G ?a_law_map_standing ?l_law_map_standing ?c_law_map_standing ?k_law_map_standing) (Ft.def_mk KX G ?a_law_map_piece ?l_law_map_piece ?c_law_map_piece ?k_law_map_piece) (Ft.def_mk KX G ?a_law_map_row ?l_law_map_row ?c_law_map_row ?k_law_map_row) (Ft.def_mk KX G ?a_law_pick ?l_law_pick ?c_law_pick ?k_law_pick) (Ft.def_mk KX G ?a_law_map_comes ?l_law_map_comes ?c_law_map_comes ?k_law_map_comes) (Ft.def_mk KX G ?a_law_late_other ?l_law_late_other ?c_law_late_other ?k_law_late_other) (Ft.def_mk KX G ?a_law_map_is_later ?l_law_map_is_later ?c_law_map_is_later ?k_law_map_is_later) (Ft.def_mk KX G ?a_law_late_says ?l_law_late_says ?c_law_late_says ?k_law_late_says) (Ft.def_mk KX G ?a_law_late_pairs ?l_law_late_pairs ?c_law_late_pairs ?k_law_late_pairs) (Ft.def_mk KX G ?a_law_late_bent ?l_law_late_bent ?c_law_late_bent ?k_law_late_bent) (Ft.def_mk KX G ?a_law_heard ?l_law_heard ?c_law_heard ?k_law_heard) (Ft.def_mk KX G ?a_law_map_pieces ?l_law_map_pieces ?c_law_map_pieces ?k_law_map_pieces) (Ft.def_mk KX G ?a_law_map_size ?l_law_map_size ?c_law_map_size ?k_law_map_size) (Ft.def_mk KX G ?a_law_map_later ?l_law_map_later ?c_law_map_later ?k_law_map_later) (Ft.defT_mk KX G ?a_law_late_rows ?l_law_late_rows ?c_law_late_rows ?k_law_late_rows) (Ft.defT_mk KX G ?a_law_late_refused ?l_law_late_refused ?c_law_late_refused ?k_law_late_refused) (Ft.def_mk KX G ?a_law_late_great ?l_law_late_great ?c_law_late_great ?k_law_late_great) (Ft.mgI_mk KX G ?m_MOST_PLACES) (Ft.mgI_mk KX G ?m_MOST_ROADS) (Ft.mgI_mk KX G ?m_MOST_ROWS) (Ft.mgI_mk KX G ?m_MOST_THREADS) (Ft.errH_mk ?ea_BadMap ?ecl_BadMap ?r_BadMap ?esa_BadMap ?ega_BadMap ?egg_BadMap ?enw_BadMap ?eii_BadMap ?eex_BadMap ?ety_BadMap ?ekp_BadMap ?ehd_BadMap ?eic_BadMap) (Ft.errH_mk ?ea_BadNumber ?ecl_BadNumber ?r_BadNumber ?esa_BadNumber ?ega_BadNumber ?egg_BadNumber ?enw_BadNumber ?eii_BadNumber ?eex_BadNumber ?ety_BadNumber ?ekp_BadNumber ?ehd_BadNumber ?eic_BadNumber) (Ft.errH_mk ?ea_BadPlace ?ecl_BadPlace ?r_BadPlace ?esa_BadPlace ?ega_BadPlace ?egg_BadPlace ?enw_BadPlace ?eii_BadPlace ?eex_BadPlace ?ety_BadPlace ?ekp_BadPlace ?ehd_BadPlace ?eic_BadPlace) (Ft.errH_mk ?ea_BadStanding ?ecl_BadStanding ?r_BadStanding ?esa_BadStanding ?ega_BadStanding ?egg_BadStanding ?enw_BadStanding ?eii_BadStanding ?eex_BadStanding ?ety_BadStanding ?ekp_BadStanding ?ehd_BadStanding ?eic_BadStanding) (Ft.errH_mk ?ea_BadWish ?ecl_BadWish ?r_BadWish ?esa_BadWish ?ega_BadWish ?egg_BadWish ?enw_BadWish ?eii_BadWish ?eex_BadWish ?ety_BadWish ?ekp_BadWish ?ehd_BadWish ?eic_BadWish) (Ft.errH_mk ?ea_Refused ?ecl_Refused ?r_Refused ?esa_Refused ?ega_Refused ?egg_Refused ?enw_Refused ?eii_Refused ?eex_Refused ?ety_Refused ?ekp_Refused ?ehd_Refused ?eic_Refused) (Ft.errH_mk ?ea_TooMany ?ecl_TooMany ?r_TooMany ?esa_TooMany ?ega_TooMany ?egg_TooMany ?enw_TooMany ?eii_TooMany ?eex_TooMany ?ety_TooMany ?ekp_TooMany ?ehd_TooMany ?eic_TooMany) ?tI (L2.fun_mk ?lI ?cI ?kI) (L2.Fun.binds (st := Ft.s_init) (L2.fun_mk ?lI ?cI ?kI) fun _ _ _ _ _ _ us hl => match us, hl with | [_, _], _ => rfl) ?X_BadMap_BadMap ?X_BadMap_Refused ?X_BadStanding_BadMap ?X_BadStanding_BadNumber ?X_BadStanding_BadPlace ?X_BadStanding_BadStanding ?X_BadStanding_BadWish ?X_BadStanding_Refused ?X_BadWish_BadMap ?X_BadWish_BadWish ?X_BadWish_Refused ?X_TooMany_BadMap ?X_TooMany_BadNumber ?X_TooMany_BadPlace ?X_TooMany_BadStanding ?X_TooMany_BadWish ?X_TooMany_TooMany (hT8 _ ?mT_law_late_rows) ?nT_law_late_rows ?hT_law_late_rows (hT8 _ ?mT_law_late_refused) ?nT_law_late_refused ?hT_law_late_refused ?ne ?a ?l ?c ?k
    (case a_is_number => k_is); (case l_is_number => k_is); (case c_is_number => k_is); (case k_is_number => k_is)
    (case a_number_within => k_is); (case l_number_within => k_is); (case c_number_within => k_is); (case k_number_within => k_is)
    (case a_road_fits => k_is); (case l_road_fits => k_is); (case c_road_fits => k_is); (case k_road_fits => k_is)
    (case a_check_roads => k_is); (case l_check_roads => k_is); (case c_check_roads => k_is); (case k_check_roads => k_is)
    (case a_first_bad_place => k_is); (case l_first_bad_place => k_is); (case c_first_bad_place => k_is); (case k_first_bad_place => k_is)
    (case a_made_map => k_is); (case l_made_map => k_is); (case c_made_map => k_is); (case k_made_map => k_is)
    (case a_place_fits => k_is); (case l_place_fits => k_is); (case c_place_fits => k_is); (case k_place_fits => k_is)
    (case a_made_standing => k_is); (case l_made_standing => k_is); (case c_made_standing => k_is); (case k_made_standing => k_is)
    (case a_unwished_of => k_is); (case l_unwished_of => k_is); (case c_unwished_of => k_is); (case k_unwished_of => k_is)
    (case a_roads_from => k_is); (case l_roads_from => k_is); (case c_roads_from => k_is); (case k_roads_from => k_is)
    (case a_reached => k_is); (case l_reached => k_is); (case c_reached => k_is); (case k_reached => k_is)
    (case a_reached_unwished => k_is); (case l_reached_unwished => k_is); (case c_reached_unwished => k_is); (case k_reached_unwished => k_is)
    (case a_piece_table => k_is); (case l_piece_table => k_is); (case c_piece_table => k_is); (case k_piece_table => k_is)
    (case a_unwished_pieces => k_is); (case l_unwished_pieces => k_is); (case c_unwished_pieces => k_is); (case k_unwished_pieces => k_is)
    (case a_check_size => k_is); (case l_check_size => k_is); (case c_check_size => k_is); (case k_check_size => k_is)
    (case a_later_places => k_is); (case l_later_places => k_is); (case c_later_places => k_is); (case k_later_places => k_is)
    (case a_later_rows => k_is); (case l_later_rows => k_is); (case c_later_rows => k_is); (case k_later_rows => k_is)
    (case a_is_standing => k_is); (case l_is_standing => k_is); (case c_is_standing => k_is); (case k_is_standing => k_is)
    (case a_is_later => k_is); (case l_is_later => k_is); (case c_is_later => k_is); (case k_is_later => k_is)
    (case a_law_pool => k_is); (case l_law_pool => k_is); (case c_law_pool => k_is); (case k_law_pool => k_is)
    (case a_law_draw => k_is); (case l_law_draw => k_is); (case c_law_draw => k_is); (case k_law_draw => k_is)
    (case a_law_turned => k_is); (case l_law_turned => k_is); (case c_law_turned => k_is); (case k_law_turned => k_is)
    (case a_law_map_named => k_is); (case l_law_map_named => k_is); (case c_law_map_named => k_is); (case k_law_map_named => k_is)
    (case a_law_map_some_wished => k_is); (case l_law_map_some_wished => k_is); (case c_law_map_some_wished => k_is); (case k_law_map_some_wished => k_is)
    (case a_law_map_drawn => k_is); (case l_law_map_drawn => k_is); (case c_law_map_drawn => k_is); (case k_law_map_drawn => k_is)
    (case a_law_map_planted => k_is); (case l_law_map_planted => k_is); (case c_law_map_planted => k_is); (case k_law_map_planted => k_is)
    (case a_law_map_met => k_is); (case l_law_map_met => k_is); (case c_law_map_met => k_is); (case k_law_map_met => k_is)
    (case a_law_map_table => k_is); (case l_law_map_table => k_is); (case c_law_map_table => k_is); (case k_law_map_table => k_is)
    (case a_law_map_standing => k_is); (case l_law_map_standing => k_is); (case c_law_map_standing => k_is); (case k_law_map_standing => k_is)
    (case a_law_map_piece => k_is); (case l_law_map_piece => k_is); (case c_law_map_piece => k_is); (case k_law_map_piece => k_is)
    (case a_law_map_row => k_is); (case l_law_map_row => k_is); (case c_law_map_row => k_is); (case k_law_map_row => k_is)
    (case a_law_pick => k_is); (case l_law_pick => k_is); (case c_law_pick => k_is); (case k_law_pick => k_is)
    (case a_law_map_comes => k_is); (case l_law_map_comes => k_is); (case c_law_map_comes => k_is); (case k_law_map_comes => k_is)
    (case a_law_late_other => k_is); (case l_law_late_other => k_is); (case c_law_late_other => k_is); (case k_law_late_other => k_is)
    (case a_law_map_is_later => k_is); (case l_law_map_is_later => k_is); (case c_law_map_is_later => k_is); (case k_law_map_is_later => k_is)
    (case a_law_late_says => k_is); (case l_law_late_says => k_is); (case c_law_late_says => k_is); (case k_law_late_says => k_is)
    (case a_law_late_pairs => k_is); (case l_law_late_pairs => k_is); (case c_law_late_pairs => k_is); (case k_law_late_pairs => k_is)
    (case a_law_late_bent => k_is); (case l_law_late_bent => k_is); (case c_law_late_bent => k_is); (case k_law_late_bent => k_is)
    (case a_law_heard => k_is); (case l_law_heard => k_is); (case c_law_heard => k_is); (case k_law_heard => k_is)
    (case a_law_map_pieces => k_is); (case l_law_map_pieces => k_is); (case c_law_map_pieces => k_is); (case k_law_map_pieces => k_is)
    (case a_law_map_size => k_is); (case l_law_map_size => k_is); (case c_law_map_size => k_is); (case k_law_map_size => k_is)
    (case a_law_map_later => k_is); (case l_law_map_later => k_is); (case c_law_map_later => k_is); (case k_law_map_later => k_is)
    (case a_law_late_rows => k_is); (case l_law_late_rows => k_is); (case c_law_late_rows => k_is); (case k_law_late_rows => k_is)
    (case a_law_late_refused => k_is); (case l_law_late_refused => k_is); (case c_law_late_refused => k_is); (case k_law_late_refused => k_is)
    (case a_law_late_great => k_is); (case l_law_late_great => k_is); (case c_law_late_great => k_is); (case k_law_late_great => k_is)
    (case m_MOST_PLACES => k_is)
    (case m_MOST_ROADS => k_is)
    (case m_MOST_ROWS => k_is)
    (case m_MOST_THREADS => k_is)
    (case ea_BadMap => k_is); (case ecl_BadMap => k_is); (case esa_BadMap => k_is); (case ega_BadMap => k_is); (case egg_BadMap => k_is); (case enw_BadMap => k_is); (case eii_BadMap => k_is); (case eex_BadMap => k_is); (case ety_BadMap => k_is); (case ekp_BadMap => k_is); (case ehd_BadMap => k_is); (case eic_BadMap => k_is); (case r_BadMap => decide +kernel)
    (case ea_BadNumber => k_is); (case ecl_BadNumber => k_is); (case esa_BadNumber => k_is); (case ega_BadNumber => k_is); (case egg_BadNumber => k_is); (case enw_BadNumber => k_is); (case eii_BadNumber => k_is); (case eex_BadNumber => k_is); (case ety_BadNumber => k_is); (case ekp_BadNumber => k_is); (case ehd_BadNumber => k_is); (case eic_BadNumber => k_is); (case r_BadNumber => decide +kernel)
    (case ea_BadPlace => k_is); (case ecl_BadPlace => k_is); (case esa_BadPlace => k_is); (case ega_BadPlace => k_is); (case egg_BadPlace => k_is); (case enw_BadPlace => k_is); (case eii_BadPlace => k_is); (case eex_BadPlace => k_is); (case ety_BadPlace => k_is); (case ekp_BadPlace => k_is); (case ehd_BadPlace => k_is); (case eic_BadPlace => k_is); (case r_BadPlace => decide +kernel)
    (case ea_BadStanding => k_is); (case ecl_BadStanding => k_is); (case esa_BadStanding => k_is); (case ega_BadStanding => k_is); (case egg_BadStanding => k_is); (case enw_BadStanding => k_is); (case eii_BadStanding => k_is); (case eex_BadStanding => k_is); (case ety_BadStanding => k_is); (case ekp_BadStanding => k_is); (case ehd_BadStanding => k_is); (case eic_BadStanding => k_is); (case r_BadStanding => decide +kernel)
    (case ea_BadWish => k_is); (case ecl_BadWish => k_is); (case esa_BadWish => k_is); (case ega_BadWish => k_is); (case egg_BadWish => k_is); (case enw_BadWish => k_is); (case eii_BadWish => k_is); (case eex_BadWish => k_is); (case ety_BadWish => k_is); (case ekp_BadWish => k_is); (case ehd_BadWish => k_is); (case eic_BadWish => k_is); (case r_BadWish => decide +kernel)
    (case ea_Refused => k_is); (case ecl_Refused => k_is); (case esa_Refused => k_is); (case ega_Refused => k_is); (case egg_Refused => k_is); (case enw_Refused => k_is); (case eii_Refused => k_is); (case eex_Refused => k_is); (case ety_Refused => k_is); (case ekp_Refused => k_is); (case ehd_Refused => k_is); (case eic_Refused => k_is); (case r_Refused => decide +kernel)
    (case ea_TooMany => k_is); (case ecl_TooMany => k_is); (case esa_TooMany => k_is); (case ega_TooMany => k_is); (case egg_TooMany => k_is); (case enw_TooMany => k_is); (case eii_TooMany => k_is); (case eex_TooMany => k_is); (case ety_TooMany => k_is); (case ekp_TooMany => k_is); (case ehd_TooMany => k_is); (case eic_TooMany => k_is); (case r_TooMany => decide +kernel)
    (case tI => k_is); (case lI => k_is); (case cI => k_is); (case kI => k_is)
    (case X_BadMap_BadMap => first | rfl | k_is)
    (case X_BadMap_Refused => first | rfl | k_is)
    (case X_BadStanding_BadMap => first | rfl | k_is)
    (case X_BadStanding_BadNumber => first | rfl | k_is)
    (case X_BadStanding_BadPlace => first | rfl | k_is)
    (case X_BadStanding_BadStanding => first | rfl | k_is)
    (case X_BadStanding_BadWish => first | rfl | k_is)
    (case X_BadStanding_Refused => first | rfl | k_is)
    (case X_BadWish_BadMap => first | rfl | k_is)
    (case X_BadWish_BadWish => first | rfl | k_is)
    (case X_BadWish_Refused => first | rfl | k_is)
    (case X_TooMany_BadMap => first | rfl | k_is)
    (case X_TooMany_BadNumber => first | rfl | k_is)
    (case X_TooMany_BadPlace => first | rfl | k_is)
    (case X_TooMany_BadStanding => first | rfl | k_is)
    (case X_TooMany_BadWish => first | rfl | k_is)
    (case X_TooMany_TooMany => first | rfl | k_is)
    (case mT_law_late_rows => refine List.mem_cons_of_mem _ ?_; exact List.mem_cons_self); (case nT_law_late_rows => first | kernel_rfl | k_is); (case hT_law_late_rows => kernel_rfl)
    (case mT_law_late_refused => exact List.mem_cons_self); (case nT_law_late_refused => first | kernel_rfl | k_is); (case hT_law_late_refused => kernel_rfl)
    (case ne => decide)
    (case z0 => k_is)
    (case z1 => k_is)
    (case z2 => k_is)
    (case z3 => k_is)
    (case z4 => k_is)
    (case z5 => k_is)
    (case z6 => k_is)
    (case z7 => k_is)
    (case z8 => k_is)
    (case z9 => k_is)
    (case z10 => k_is)
    (case z11 => k_is)
    (case z12 => k_is)
    (case z13 => k_is)
    (case z14 => k_is)
    (case z15 => k_is)
    (case z16 => k_is)
    (case z17 => k_is)
    (case z18 => k_is)
    (case a => k_is); (case l => k_is); (case c => k_is); (case k => k_is)
