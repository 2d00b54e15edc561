import PyProof.Rows.All
import Wide.All
import OpenK.AllK
import Wide.FinOn
import HandS.ForMost
import HandS.Strs
import HandS.TupSets
import HandS.SortInts
import HandS.IsInst
import HandS.TupLe
import HandS.TupAny
import HandS.DictComp
import HandS.Style
import HandS.Walk
import HandS.Conv
import KE.SortData
import KE.GoesMore
import HandS.Exc
import HandS.ExcOwn
import HandS.ExcInit
import HandS.ExcField
import HandS.TryOnly
import HandS.TryMany
import HandS.WordsExc
import KE.KExcIs
import HandS.ExcIs
import HandS.Deep
import PySem.Challenge.RW_fewtraps_k04_pieces_of_maps
set_option Elab.async false
set_option linter.all false
set_option maxRecDepth 100000
set_option maxHeartbeats 4000000
/-! The layer's additions: repr of data, calls of defs that ask for it, sets of ints, a dict comprehension given to a name. -/
namespace Ft
open PySem PySem.Spec PyProof.Rows L2

/-! ### repr of data -/
mutual
theorem dp_plain {K : PySem.W.Frag} {H : Hp} : ∀ (d : PyData) (v : V), Dp K H v d → d.hasDict = false
  | .none, _, _ => by simp only [PyData.hasDict]
  | .bool _, _, _ => by simp only [PyData.hasDict]
  | .int _, _, _ => by simp only [PyData.hasDict]
  | .str _, _, _ => by simp only [PyData.hasDict]
  | .list ds, _, h => by
    cases h with
    | lst _ a => simp only [PyData.hasDict]; exact dp_plains ds _ a
  | .tuple ds, _, h => by
    cases h with
    | tup _ a => simp only [PyData.hasDict]; exact dp_plains ds _ a
  | .dict _, _, h => by cases h
theorem dp_plains {K : PySem.W.Frag} {H : Hp} : ∀ (ds : List PyData) (vs : List V), DpAll K H vs ds → PyData.hasDictAll ds = false
  | [], _, _ => by simp only [PyData.hasDictAll]
  | d :: ds, _, h => by
    cases h with
    | cons h1 h2 => simp only [PyData.hasDictAll, dp_plain d _ h1, dp_plains ds _ h2, Bool.or_self]
end

/-- data that repr shows without meeting a bound -/
structure Shows (d : PyData) : Prop where
  sh : d.showable = true
  lv : d.leavesShort 13 = true
  wt : d.weight ≤ 2 ^ 20
  dp : d.depth ≤ 60

def rRepr (K : PySem.W.Frag) : List V → Hp → VK → Prop := fun xs H Q => ∃ x d, xs = [x] ∧ Dp K H x d ∧ Shows d ∧ Q (.str d.shown) H
theorem cr_repr {X : Cx} (hg : X.A.guards = some []) (hu : X.A.units + 64 < cLine) : CallR X (.builtin "repr") (rRepr X.K) := by
  intro pins s σ H xs us Q I r h
  obtain ⟨x, d, rfl, hd, S, q⟩ := h
  obtain ⟨u, rfl, rx⟩ := vals1 r
  have fits := PyData.shown_fits (by decide) (by decide) S.lv S.wt
  cases hd with
  | non =>
    cases rx
    simp only [PyData.shown] at q
    exact PySem.P.repr_of_none ⟨.str _, H, I.tok _, ⟨_, rfl⟩, q⟩
  | bl b =>
    cases rx
    simp only [PyData.shown] at q
    exact PySem.P.repr_of_bool ⟨.str _, H, I.tok _, ⟨_, rfl⟩, q⟩
  | int i =>
    obtain ⟨t, rfl⟩ := rx
    have hs := S.sh
    simp only [PyData.showable, decide_eq_true_eq] at hs
    simp only [PyData.shown] at q
    exact PySem.P.repr_of_int hs ⟨.str _, H, I.tok _, ⟨_, rfl⟩, q⟩
  | str z =>
    obtain ⟨t, rfl⟩ := rx
    simp only [PyData.shown] at q fits
    exact PySem.P.repr_of_str ⟨.str _, H, I.tok _, ⟨_, rfl⟩, q⟩ fits
  | lst h1 h2 =>
    obtain ⟨as, rd⟩ := Dp.reads I _ _ u (.lst h1 h2) rx
    cases rx
    exact repr_of_reads' rd S.sh (PyData.noDict_hsm (dp_plain _ _ (Dp.lst h1 h2))) hg (by have := S.dp; omega) (fun _ _ e => e) (fun h' v tk k => ⟨.str _, H, I.kept k, ⟨_, rfl⟩, q⟩) fits
  | tup h1 h2 =>
    obtain ⟨as, rd⟩ := Dp.reads I _ _ u (.tup h1 h2) rx
    cases rx
    exact repr_of_reads' rd S.sh (PyData.noDict_hsm (dp_plain _ _ (Dp.tup h1 h2))) hg (by have := S.dp; omega) (fun _ _ e => e) (fun h' v tk k => ⟨.str _, H, I.kept k, ⟨_, rfl⟩, q⟩) fits
end Ft

set_option Elab.async false
set_option linter.all false
set_option maxRecDepth 100000
set_option maxHeartbeats 4000000
namespace Ft
open PySem PySem.Spec PyProof.Rows L2
/-! ### defs that are called where no repr is under way -/
structure FnG (P : Program) (w : World) (K : PySem.W.Frag) (mg : Str → Option Value) (base : Heap) (k : Nat) (f : Addr) (fd : FuncData) (ps : List Str) (sp : Sp) : Prop where
  many : ∀ vs H Q E, sp vs H Q E → vs.length = ps.length
  goes : ∀ (A : Around) (out : List Env) (s : Shared) (H : Hp) (args : Args) (us : List Value) (vs : List V) (Q : VK) (E : XK), A.guards = some [] → Room k A → Env0 P w K mg base A out s H →
    BindsTo s fd args (ps.zip us) → Vals vs us → sp vs H Q E → codeAny (model P w) A (.call (.ref f) args) (CR CX0 out P w H s Q E) s
section
variable {P : Program} {w : World} {K : PySem.W.Frag} {mg : Str → Option Value} {base : Heap}
/-- by its body -/
theorem gfun {x : Str} {st : Stmt} {f : Addr} {fd : FuncData} {N ps : List Str} {k : Nat} {sp : Sp} (F : L2.Fun K x x st f fd) (S : FnScope N ps (L2.defScope st)) (many : ∀ vs H Q E, sp vs H Q E → vs.length = ps.length)
    (body : ∀ (cdv : Value) (A : Around) (out : List Env) (s : Shared) (H : Hp) (vs : List V) (Q : VK) (E : XK), A.guards = some [] → Room k (A.deeper (envOfC x (L2.defScope st) s.heap.objs.size f cdv)) → sp vs H Q E →
      ∃ t, PSs (cxOf L2.CX0 P w K mg base N x (L2.defScope st) f cdv A out s H E).nox (L2.defBody st) t ∧ t { nx := fun _ H' => Q .non H', rt := Q } (start N vs) H) :
    FnG P w K mg base (k + 1) f fd ps sp := by
  obtain ⟨oc, od, kV, doc, pm, an, cdv, ct, osl, rfl, lk, hcd⟩ := F.ex
  refine ⟨many, ?_⟩
  intro A out s H args us vs Q E hg hr e0 hb r hsp
  have hin : K.In s.heap := e0.mod.kin.keeps (fun b o q => (e0.bs b o q).1)
  have nolim : s.heap.NoLimit := e0.mod.nolimit.keeps (fun b o q => (e0.bs b o q).1)
  have kinds : ∀ y ∈ ps.zip us, (L2.defScope st).names.lookup y.1 = some .local ∨ ((L2.defScope st).names.lookup y.1 = some .cell ∧ ((cellsFrom (s.heap.objs.size + 1) (L2.defScope st).names []).lookup y.1).isSome = true) := by
    intro y hy
    cases S.par y.1 (List.of_mem_zip (a := y.1) (b := y.2) hy).1 with
    | inl q => exact .inl q
    | inr q => exact .inr ⟨q, PySem.W.cellsFrom_some _ _ _ (.inl q)⟩
  refine codeAny_call_function hr.depth (hin _ _ lk) rfl S.co S.gen rfl (PySem.W.codeRec_of hin hcd) (hb _ _ _ _ ?_)
  refine wpAny_newFunctionEnv_cells S.kind kinds fun env he s1 z => ?_
  subst he
  refine ⟨nolim.keeps z.toInCall.keep, codeAny_func ?_⟩
  obtain ⟨t, ht, hq⟩ := body cdv A out s H vs Q E hg (hr.deeper _) hsp
  have I := inv_start (CX := L2.CX0) (E := E) (f := f) (cd := cdv) (qual := x) S hr.hd e0 (many _ _ _ _ hsp) r z
  refine wpAny_mono (ht.nox.run [] s1 (start N vs) H _ I hq) ?_ (fun e s' hs => hs)
  intro fl s' hs
  have ends : ∀ {σ' : L2.St} {H' : Hp} {v : V} {u : Value}, Inv (cxOf L2.CX0 P w K mg base N x (L2.defScope st) f cdv A out s H E) [] σ' H' s' → RelV v u → Q v H' → CE out P w H s Q u s' := by
    intro σ' H' v u J rv q
    exact ⟨v, H', J.os, J.bare, J.base, J.hok, rv, q⟩
  cases fl with
  | ret u => exact let ⟨v, σ', H', J, rv, q⟩ := hs; ends J rv q
  | next => exact let ⟨σ', H', J, q⟩ := hs; ends (v := V.non) (u := Value.none) J rfl q
  | brk => exact let ⟨_, _, _, q⟩ := hs; q.elim
  | cont => exact let ⟨_, _, _, q⟩ := hs; q.elim
end
/-- called by its name -/
structure CalG (P : Program) (w : World) (K : PySem.W.Frag) (mg : Str → Option Value) (base : Heap) (k : Nat) (x : Str) (sp : Sp) : Prop where
  ex : ∃ (f : Addr) (fd : FuncData) (ps : List Str), FnG P w K mg base k f fd ps sp ∧ mg x = some (.ref f) ∧ PySem.W.keepIn K (.ref f) = true ∧ Binds K fd ps []
section
variable {X : Cx} {k j : Nat} {x : Str} {sp : Sp} {p pos : Pos} {e : Expr} {es : List Expr} {t : TA}
theorem pe_g (c : CalG X.prog X.w X.K X.mg X.base k x sp) (hgd : X.A.guards = some []) (hr : Room j X.A) (hk : k ≤ j) (hg : Gl X x) (ha : PA X (e :: es) t)
    (hdb : (x == ("__debug__" : Str)) = false := by decide) (he : starEach (e :: es) X.env = (false, eval e X.env) :: starEach es X.env := by rfl) (hpl : (backTo pos (starEach es X.env)).any (·.1) = false := by rfl) :
    PE X (.Call (.Name x p) (e :: es) [] pos) (tCall sp [] L2.E0 t) := by
  obtain ⟨f, fd, ps, F, hm, kp, b⟩ := c.ex
  refine ⟨fun pins s σ H Q I h => ?_⟩
  refine wpAny_Call_Name_kw (ld_glob I hg hm ?_ hdb)
  refine PySem.W.callWith_K (h₀ := X.base) I.ok.mod.kin kp (thn (ha.run pos pins s σ H _ I h) fun us s1 ⟨vs, H1, I1, r, q⟩ => ⟨I1.kIn, ?_⟩) he hpl
  have q2 : sp vs H1 Q L2.E0 := by
    have z : sp (vs ++ []) H1 Q L2.E0 := q
    rw [List.append_nil] at z
    exact z
  have hl : (us ++ []).length = ps.length := by rw [List.append_nil, ← r.length]; exact F.many _ _ _ _ q2
  have hb := b s1 us I1.kIn hl
  rw [List.append_nil] at hb
  refine wpAny_call (codeAny_mono (F.goes X.A X.stack s1 H1 ⟨us, []⟩ us vs Q L2.E0 hgd (hr.mono hk) I1.env0 hb r q2) ?_)
  intro o s' hq
  cases o with
  | error e => exact hq.elim
  | ok fl =>
    cases fl with
    | ret u => exact I1.after hq
    | next => exact hq.elim
    | brk => exact hq.elim
    | cont => exact hq.elim
end
/-! ### the end of a law row whose def asks for repr -/
theorem glaw {P : Program} {w : World} {K : PySem.W.Frag} {mg mb : Str → Option Value} {k : Nat} {fa a : Addr} {fd : FuncData} {x : Str} {sp : Sp} {s₁ : Shared} {vs : List Value} {ns : List Int}
    (KX : K.In s₁.heap) (hns : s₁.heap.Ns mainGlobals mg) (hb : s₁.heap.Ns builtinsNs mb) (hbb : ∀ x : Str, x ≠ "__name__" → mb x = bootBuiltins x) (hlim : s₁.heap.NoLimit) (hg : s₁.gens = #[])
    (ha : s₁.heap.get? a = some { cls := .type "list", data := .seq vs.toArray }) (hi : IntsAre vs ns) (hl : ns.length ≤ sizeLine) (hr : Room k callerA)
    (F : ∀ base : Heap, K.In base → base.Ns mainGlobals mg → FnG P w K mg base k fa fd [x] sp) (hbind : ∀ (s : Shared) (u : Value), BindsTo s fd ⟨[u], []⟩ [(x, u)])
    (hsp : ∀ H : Hp, Only H → SqL K H a (ns.map V.int) → sp [.ref a] H (fun v _ => v = .bl true) fun _ _ _ => False) :
    codeAny (model P w) callerA (.call (.ref fa) ⟨[.ref a], []⟩) (fun r s' => r = .ok (.ret (.bool true)) ∧ OldK s₁.heap s'.heap ∧ s'.os = s₁.os ∧ AllBare s'.gens) s₁ := by
  have rv := vals_ints hi
  have heart : ∀ H : Hp, Only H → SqL K H a (ns.map V.int) → HOk P w H s₁.heap → (∀ b, H b ≠ none → b = a) → (H a ≠ none → K.lookup a = none) →
      codeAny (model P w) callerA (.call (.ref fa) ⟨[.ref a], []⟩) (fun r s' => r = .ok (.ret (.bool true)) ∧ OldK s₁.heap s'.heap ∧ s'.os = s₁.os ∧ AllBare s'.gens) s₁ := by
    intro H only hS hok hA hK
    have same : ∀ {b : Addr} {u : HO}, H b = some u → b = a := fun {b u} q => hA b (by rw [q]; exact fun z => nomatch z)
    have stays : ∀ {b : Addr} {o : Obj}, s₁.heap.get? b = some o → H b = none → (hidT s₁.heap H).get? b = some o := fun q n => hidT_get q n
    have dictOff : ∀ {b : Addr} {o : Obj} {es : Array DictEntry} {ep : Nat}, s₁.heap.get? b = some o → o.data = .dict es ep → H b = none := by
      intro b o es ep q d
      cases z : H b with
      | none => rfl
      | some u =>
        have hba := same z
        subst hba
        have eo := Option.some.inj (ha.symm.trans q)
        rw [← eo] at d
        exact nomatch d
    have nsIn : ∀ {b : Addr} {m : Str → Option Value}, s₁.heap.Ns b m → (hidT s₁.heap H).Ns b m := fun ⟨o, es, ep, q, d, r⟩ => ⟨o, es, ep, stays q (dictOff q d), d, r⟩
    have kIn : K.In (hidT s₁.heap H) := by
      intro b o q
      refine stays (KX b o q) ?_
      cases z : H b with
      | none => rfl
      | some u =>
        have hba := same z
        subst hba
        have := hK (by rw [z]; exact fun y => nomatch y)
        rw [this] at q
        exact nomatch q
    have hM : Mod K mg (hidT s₁.heap H) := by
      obtain ⟨mc, l1, l2⟩ := hlim
      exact ⟨kIn, nsIn hns, ⟨mb, nsIn hb, hbb⟩, ⟨mc, nsIn l1, l2⟩⟩
    have e0 : Env0 P w K mg (hidT s₁.heap H) callerA [] s₁ H :=
      ⟨rfl, hM, fun b o q => of_hidT q, Nat.le_of_eq (hidT_size _ _), trivial, fun b hb => absurd (show b ∈ ([] : List Addr) from hb) List.not_mem_nil, hok, .of_eq hg⟩
    refine codeAny_mono ((F _ kIn (nsIn hns)).goes callerA [] s₁ H ⟨[.ref a], []⟩ [.ref a] [.ref a] _ _ rfl hr e0 (hbind s₁ (.ref a)) (.cons rfl .nil) (hsp H only hS)) ?_
    intro r s' h
    cases r with
    | error e => exact h.elim
    | ok fl =>
      cases fl with
      | next => exact h.elim
      | brk => exact h.elim
      | cont => exact h.elim
      | ret u =>
        obtain ⟨v, H', os, bare, un, hok', rr, q⟩ := h
        have q' : v = V.bl true := q
        subst q'
        have eu : u = Value.bool true := rr
        subst eu
        refine ⟨rfl, OldK.of_keep ?_, os, bare⟩
        intro b o q
        cases z : H b with
        | none => exact un.keep b o q z (fun y => absurd (show b ∈ ([] : List Addr) from y) List.not_mem_nil) (fun y => absurd y List.not_mem_nil)
        | some u =>
          rcases only b with y | ⟨ob, xs, y⟩
          · exact nomatch (z.symm.trans y)
          · obtain ⟨e1, _⟩ := hok b _ y
            obtain ⟨e2, _⟩ := hok' b _ (un.frzs b ob _ y)
            have eo := Option.some.inj (q.symm.trans e1)
            rw [eo]
            exact e2
  cases hk : K.lookup a with
  | some o =>
    have eo := Option.some.inj ((KX a o hk).symm.trans ha)
    subst eo
    exact heart (fun _ => none) (fun _ => .inl rfl) (.inr ⟨_, vs.toArray, _, hk, rfl, rfl, rfl, by rw [List.size_toArray, hi.length]; exact hl, by simpa using rv⟩) (fun b u z => nomatch (show (none : Option HO) = some u from z)) (fun b z => absurd rfl z) (fun z => absurd rfl z)
  | none =>
    have there : ∀ b u, (if b = a then some (HO.frz { cls := .type "list", data := .seq vs.toArray } (.lst (ns.map V.int))) else none) = some u → b = a ∧ u = HO.frz { cls := .type "list", data := .seq vs.toArray } (.lst (ns.map V.int)) := by
      intro b u z
      by_cases hba : b = a
      · rw [if_pos hba] at z
        exact ⟨hba, (Option.some.inj z).symm⟩
      · rw [if_neg hba] at z
        exact nomatch z
    refine heart (fun b => if b = a then some (.frz { cls := .type "list", data := .seq vs.toArray } (.lst (ns.map V.int))) else none) ?_ (.inl (.inr ⟨{ cls := .type "list", data := .seq vs.toArray }, if_pos rfl⟩)) ?_ ?_ (fun _ => hk)
    · intro b
      by_cases hba : b = a
      · exact .inr ⟨_, _, if_pos hba⟩
      · exact .inl (if_neg hba)
    · intro b u z
      obtain ⟨e1, e2⟩ := there b u z
      subst e1
      subst e2
      exact ⟨ha, by rw [List.length_map]; exact hl, vs, _, rv, ha⟩
    · intro b z
      by_cases hba : b = a
      · exact hba
      · exact absurd (if_neg hba) z
theorem gwalk {l : PySem.W.OpenLaw} {n k : Nat} {q : Program} {loose : List Str} {XP : (Str → Option Value) → Heap → Prop} {YP : World → Heap → Prop} {d : DefRec} {K : Params → PySem.W.Frag} {sp : World → Sp} {x : Str}
    (hn : l.most = some n) (hn2 : n ≤ sizeLine) (hdf : d.params.defaults = []) (hr : Room k callerA) (hY : ∀ (w : World) (h : Heap), YP w h → (K w.params).In h)
    (F : ∀ (w : World) (mg : Str → Option Value) (fa : Addr) (h : Heap), (K w.params).In h → h.Ns mainGlobals mg → mg d.name = some (.ref fa) →
      ∃ fd : FuncData, (∀ (s : Shared) (u : Value), BindsTo s fd ⟨[u], []⟩ [(x, u)]) ∧ ∀ base : Heap, (K w.params).In base → base.Ns mainGlobals mg → FnG l.prog w (K w.params) mg base k fa fd [x] (sp w))
    (hsp : ∀ (w : World) (H : Hp) (a : Addr) (ns : List Int), ns.length ≤ n → Only H → SqL (K w.params) H a (ns.map V.int) → sp w [.ref a] H (fun v _ => v = .bl true) fun _ _ _ => False) :
    PySem.W.WalkO q loose XP YP l.row.toRowW d [] (fun f vs => PySem.call f vs) := by
  refine Att.attach_call hn hdf ?_
  intro w s₀ s₁ mg mb fa o pm cd doc a vs ns G Y ho hd hcd hmg hobj hints hlen hg
  have KX := hY w _ Y
  obtain ⟨fd, hb, hF⟩ := F w mg fa _ KX G.T.g hmg
  exact glaw KX G.T.g G.T.b G.T.builtins G.T.nolimit hg hobj hints (Nat.le_trans hlen hn2) hr hF hb (fun H only hS => hsp w H a ns hlen only hS)
end Ft

set_option Elab.async false
set_option linter.all false
set_option maxRecDepth 100000
set_option maxHeartbeats 4000000
namespace Ft
open PySem PySem.Spec PyProof.Rows L2
/-! ### set(xs), xs a list of ints -/
/-- an empty set, as it is made -/
abbrev bareSet (w : World) : Obj := { cls := .type "set", dict := none, data := .set #[] 0 (.fresh 0 0 (!w.params.followText "set-order")) }
section
variable {P : Program} {w : World} {A : Around} {E : Value → Shared → Prop} {s : Shared}
set_option maxRecDepth 100000 in
theorem set_of_list {l : Addr} {its : Array Value} (ns : List Int) {Q : Value → Shared → Prop} (calm : A.handled = none) (isl : s.heap.IsList l its) (pIs : IntsAre its.toList ns) (few : ns.length + 1 < scanBound)
    (done : ∀ (h' : Heap) (tk c : Nat), SetR w h' s.heap.objs.size (fun j => decide (j ∈ ns)) c → c ≤ ns.length → (∀ b o, s.heap.get? b = some o → h'.get? b = some o) → Q (.ref s.heap.objs.size) { s with heap := h', toks := tk }) :
    wpAny (model P w) A (call (.type "set") [.ref l]) Q E s := by
  have size : its.size = ns.length := by rw [← IntsAre.length pIs, Array.length_toList]
  obtain ⟨c, tl, way⟩ := F.called_set.mro
  have made := F.called_set.made
  have under := F.called_set.sub
  refine wpAny_call (codeAny_of_tree ?_)
  show wpAny _ _ (callAny (.type "set") _) _ _ _
  refine wpAny_pure (And.intro (Code.quiet_builtin _ (by decide +kernel)) (codeAny_builtin F.entry_type_call ?_))
  rw [Around.under_plain (weight_type_call_type "set" [Value.ref l] []) rfl]
  have k1 := F.called_set.notType
  have k2 := F.called_set.canCreate
  have k3 := F.typeCall_set_1 (Value.ref l)
  repeat (any_goals (first | assumption | wp_step))
  refine codeAny_mono (code_set_led1 (.ref l) (E := E) (Q₁ := fun obj t => obj = .ref s.heap.objs.size ∧ t = { s with heap := s.heap.push (bareSet w) }) ⟨rfl, rfl⟩) fun r t ht => ?_
  match r, ht with
  | .error e, ht => exact ht
  | .ok .next, ht => exact ht
  | .ok .brk, ht => exact ht
  | .ok .cont, ht => exact ht
  | .ok (.ret obj), ht =>
    obtain ⟨e1, e2⟩ := ht
    subst e1 e2
    have atS : (s.heap.push (bareSet w)).get? s.heap.objs.size = some (bareSet w) := Heap.get?_push_size _ rfl
    have tyS : Shared.TypeIs { s with heap := s.heap.push (bareSet w) } (.ref s.heap.objs.size) "set" := ⟨_, atS, rfl⟩
    have look := F.called_set.init.lookup
    have binds := F.called_set.init.bind (.ref s.heap.objs.size)
    repeat (any_goals (first | assumption | wp_step))
    refine codeAny_mono (codeAny_call_builtin (R := wants (fun r u => r = .none ∧ ∃ h' tk c, u = { s with heap := h', toks := tk } ∧ SetR w h' s.heap.objs.size (fun j => decide (j ∈ ns)) c ∧ c ≤ ns.length ∧ (∀ b o, s.heap.get? b = some o → h'.get? b = some o)) E)
      F.called_set.init.plain F.entry_set_init (check_set_init_1 tyS ?_)) fun r2 u hu => ?_
    · obtain ⟨⟨oc, od, dat, osl⟩, hol, hcl, nl, hdl⟩ := isl
      simp only at hcl hdl
      subst hcl hdl
      have atL : (s.heap.push (bareSet w)).get? l = some { cls := .type "list", dict := od, data := .seq its nl, slots := osl } := Heap.get?_push_of_some _ hol
      have q1 := F.sub_list_set
      have q2 := F.sub_list_frozenset
      have q3 : (Value.type "list" == Value.type "dict") = false := by decide
      have isl1 : (s.heap.push (bareSet w)).IsList l its := ⟨_, atL, rfl, nl, rfl⟩
      unfold Builtin.«set.__init__» noKeywords Builtin.Frozenset.updateFrom
      generalize hit : pyIter = it
      wp_walk
      subst hit
      refine wpAny_pyIter_list isl1 ?_
      refine wpAny_bind (wpAny_runValue ?_)
      have below : l < s.heap.objs.size := Heap.lt_size hol
      have calm3 : A.in1.in1.in1.handled = none := by simp [calm]
      have apart : l ≠ (s.heap.push (bareSet w)).objs.size := by
        rw [Heap.size_push]
        exact Nat.ne_of_lt (Nat.lt_succ_of_lt below)
      have apartS : s.heap.objs.size ∉ [(s.heap.push (bareSet w)).objs.size, l] := by
        rw [Heap.size_push]
        simp only [List.mem_cons, List.mem_singleton, List.not_mem_nil, or_false, not_or]
        exact And.intro (Nat.ne_of_lt (Nat.lt_succ_self _)) (Nat.ne_of_gt below)
      have vals : ∀ (i : Nat) (v : Value), its[i]? = some v → ∃ k t, ns[i]? = some k ∧ v = .int k t := by
        intro i v hv
        have hi : i < ns.length := by
          rw [← size]
          exact (Array.getElem?_eq_some_iff.mp hv).1
        obtain ⟨t, e⟩ := PyProof.Rows.IntsAre.int_at pIs i v (by rw [Array.getElem?_toList]; exact hv)
        refine ⟨ns[i], t, List.getElem?_eq_getElem hi, ?_⟩
        rw [e, List.getD_eq_getElem?_getD, List.getElem?_eq_getElem hi]
        rfl
      refine set_update_ints ((Walks.list calm3 _ l apart its).toS) s.heap.objs.size apartS ns size few vals (its.size - 0) 0 _ (by omega) (Nat.zero_le _) ⟨⟨_, Heap.get?_push_size _ rfl, rfl, rfl⟩, isl1.push _⟩ ?start ?ends
      case start =>
        exact ⟨0, Nat.le_refl 0, setR_new_at (Heap.get?_push_of_some _ atS)⟩
      case ends =>
        intro v c' hm hc' hS'
        obtain ⟨h', g2, d', tk', os'⟩ := v
        have eg : g2 = s.gens := hm.gens
        have ed : d' = s.drawn := hm.drawn
        have eo : os' = s.os := hm.os
        subst eg ed eo
        show wpAny _ _ _ _ _ _
        refine wpAny_pure ?_
        show wpAny _ _ (ret Value.none) _ _ _
        rw [size] at hc'
        refine wpAny_pure ⟨rfl, h', tk', c', rfl, hS', hc', ?_⟩
        intro b o e
        have hb0 : b < s.heap.objs.size := Heap.lt_size e
        refine hm.heap b o ?_ (Heap.get?_push_of_some _ (Heap.get?_push_of_some _ e))
        rw [Heap.size_push]
        simp only [List.mem_cons, List.mem_singleton, List.not_mem_nil, or_false, not_or]
        exact And.intro (Nat.ne_of_lt hb0) (Nat.ne_of_lt (Nat.lt_succ_of_lt hb0))
    · match r2, hu with
      | .error e, hu => exact hu
      | .ok .next, hu => exact hu
      | .ok .brk, hu => exact hu
      | .ok .cont, hu => exact hu
      | .ok (.ret u0), hu =>
        obtain ⟨e1, h', tk, c2, e2, hS, hc2, hk⟩ := hu
        subst e1 e2
        repeat (any_goals (first | assumption | wp_step))
        exact done h' tk c2 hS hc2 hk
/-- set(xs) over the layer: a list or a tuple of ints -/
def rSetI (K : PySem.W.Frag) (w : World) : List V → Hp → VK → Prop := fun xs H Q => ∃ (l : Addr) (ns : List Int), xs = [V.ref l] ∧ (SqL K H l (ns.map V.int) ∨ SqT K H l (ns.map V.int)) ∧ ns.length ≤ 1000 ∧
  ∀ (p : Addr) (n : Nat), H p = none → n ≤ ns.length → Q (.ref p) (upd H p (SetO w p (fun j => decide (j ∈ ns)) n))
theorem cr_setI {X : Cx} (hc : X.calm = true) : CallR X (.type "set") (rSetI X.K X.w) := by
  intro pins s σ H xs us Q I r h
  obtain ⟨l, ns, rfl, hl, few, q⟩ := h
  have few1 : ns.length + 1 < scanBound := Nat.lt_of_le_of_lt (Nat.succ_le_succ few) (by decide)
  have free : H s.heap.objs.size = none := I.hok.fresh (Nat.le_refl _)
  rw [Vals.ref1 r]
  rcases hl with hl | hl
  · obtain ⟨its, rv, pl, hz⟩ := I.list hl
    refine set_of_list ns (I.ok.hd hc) pl.isList (by simpa using rv.ints) few1 fun h' tk c hS hc2 hk => ?_
    exact ⟨.ref _, upd H s.heap.objs.size (SetO X.w s.heap.objs.size (fun j => decide (j ∈ ns)) c), I.laid (t' := tk) hk (Nat.le_refl _) (setO_new hS), rfl, q _ _ free hc2⟩
  · obtain ⟨its, rv, pt, hz⟩ := I.tuple hl
    have pt2 : s.heap.IsTuple l its.toArray := pt
    refine call_set_tupI ns (I.ok.hd hc) pt2 (by simpa using ints_of_vals rv) few1 fun h' tk c hS hc2 hk => ?_
    exact ⟨.ref _, upd H s.heap.objs.size (SetO X.w s.heap.objs.size (fun j => decide (j ∈ ns)) c), I.laid (t' := tk) hk (Nat.le_refl _) (setO_new hS), rfl, q _ _ free hc2⟩
end
end Ft

set_option Elab.async false
set_option linter.all false
set_option maxRecDepth 100000
set_option maxHeartbeats 4000000
namespace Ft
open PySem PySem.Spec PyProof.Rows L2
/-! ### sorted of tuples of ints, whatever their lengths -/
abbrev Row := Addr × List Int
def leR (p q : Row) : Bool := decide (p.2 ≤ q.2)
def encR (p : Row) : PyData := .tuple (p.2.map .int)
theorem leR_is : PySem.W.dataLe false encR = leR := by
  funext p q
  show (!PySem.W.dataLt (.tuple (q.2.map .int)) (.tuple (p.2.map .int))) = decide (p.2 ≤ q.2)
  rw [PySem.W.dataLt_tuple]
  have e := PySem.W.dataLt_ints q.2 p.2
  unfold PySem.W.rowLt at e
  rw [e]
  by_cases h : q.2 < p.2
  · have h' : ¬ p.2 ≤ q.2 := fun r => List.not_lt.mpr r h
    simp [h, h']
  · have h' : p.2 ≤ q.2 := List.not_lt.mp h
    simp [h, h']
theorem leR_trans (a b c : Row) (h1 : leR a b = true) (h2 : leR b c = true) : leR a c = true :=
  decide_eq_true (List.le_trans (of_decide_eq_true h1) (of_decide_eq_true h2))
theorem leR_total (a b : Row) : (leR a b || leR b a) = true := by
  rcases List.le_total a.2 b.2 with h | h
  · simp [leR, h]
  · simp [leR, h]
theorem rows_alike (L : List Row) : PySem.W.AllAlike (L.map encR) :=
  PySem.W.AllAlike.of fun b b' => by
    show PySem.W.alike (.tuple (b.2.map .int)) (.tuple (b'.2.map .int)) = true
    simp only [PySem.W.alike]
    exact PySem.W.alike_ints _ _
theorem rows_sortable {L : List Row} (h : ∀ p ∈ L, p.2 ≠ []) : PySem.W.Sortable (L.map encR) := .inl fun d hd => by
  obtain ⟨b, hb, rfl⟩ := List.mem_map.mp hd
  have := h b hb
  show ∃ x r, PyData.tuple (b.2.map .int) = .tuple (x :: r)
  cases e : b.2 with
  | nil => exact absurd e this
  | cons x r => exact ⟨.int x, r.map .int, rfl⟩
theorem rows_deep {A : Around} {k : Nat} {L : List Row} (hu : A.units + k + 1 < cLine) : ∀ b, b ∈ L → A.units + k + (encR b).depth < cLine := by
  intro b _
  have e : (encR b).depth = 1 := by
    show PyData.depth (.tuple (b.2.map .int)) = 1
    simp only [PyData.depth, PySem.W.depth_ints]
  rw [e]
  exact hu
theorem rows_each : ∀ (L : List Row), PySem.W.EachIs (fun v (p : Row) => v = Value.ref p.1) (L.map fun p => Value.ref p.1) L
  | [] => .nil
  | p :: L => .cons rfl (rows_each L)
theorem rows_back : ∀ {vs : List Value} {L : List Row}, PySem.W.EachIs (fun v (p : Row) => v = Value.ref p.1) vs L → vs = L.map fun p => Value.ref p.1
  | _, _, .nil => rfl
  | _, _, .cons h t => by rw [h, rows_back t]; rfl
section
variable {X : Cx} {pins : List (Addr × Obj)} {σ : L2.St} {H : Hp} {s : Shared}
theorem dpAll_ints {K : PySem.W.Frag} {H : Hp} : ∀ ns : List Int, DpAll K H (ns.map V.int) (ns.map PyData.int)
  | [] => .nil
  | n :: ns => .cons (.int n) (dpAll_ints ns)
theorem rows_read (I : Inv X pins σ H s) : ∀ (L : List Row), (∀ p ∈ L, SqT X.K H p.1 (p.2.map V.int)) → PySem.W.EachIs (fun v b => ∃ as, Reads s.heap v (encR b) as) (L.map fun p => Value.ref p.1) L
  | [], _ => .nil
  | p :: L, h => .cons (Dp.reads I (encR p) (.ref p.1) (.ref p.1) (.tup (h p List.mem_cons_self) (dpAll_ints p.2)) rfl) (rows_read I L fun q hq => h q (List.mem_cons_of_mem _ hq))
end
/-- sorted(xs), xs a list of tuples of ints -/
def rSortedR (K : PySem.W.Frag) : List V → Hp → VK → Prop := fun vs H Q => ∃ (a : Addr) (L : List Row), vs = [V.ref a] ∧ SqL K H a (L.map fun p => V.ref p.1) ∧ (∀ p ∈ L, SqT K H p.1 (p.2.map V.int)) ∧ (∀ p ∈ L, p.2 ≠ []) ∧
  ∀ p, H p = none → Q (.ref p) (upd H p (.lst ((L.mergeSort leR).map fun p => V.ref p.1)))
theorem cr_sortedR {X : Cx} (hu : X.A.units + 64 < cLine) : CallR X (.builtin "sorted") (rSortedR X.K) := by
  intro pins s σ H xs us Q I r h
  obtain ⟨a, L, rfl, hl, hk, hne, q⟩ := h
  rw [Vals.ref1 r]
  obtain ⟨its, rv, pl, hz⟩ := I.list hl
  have ei : its = L.map fun p => Value.ref p.1 := refs_of_vals rv
  subst ei
  have hz2 : L.length ≤ sizeLine := by simpa using hz
  refine PySem.W.sorted_data (bs := L) (enc := encR) pl.isList (rows_each L) (rows_read I L hk) (rows_alike L) (rows_sortable hne) hz2 (rows_deep (k := 2) (by omega)) fun out hlen he => ?_
  rw [leR_is] at he
  have eo := rows_back he
  subst eo
  obtain ⟨ep, ho⟩ := PyProof.Rows.sortedAll_at s.heap (L.map fun p => Value.ref p.1) ((L.mergeSort leR).map fun p => Value.ref p.1).toArray
  refine ⟨.ref _, upd H (s.heap.objs.size + 1) (.lst ((L.mergeSort leR).map fun p => V.ref p.1)), I.laid (t' := s.toks) (fun _ _ => PyProof.Rows.sortedAll_old) (Nat.le_succ _) ⟨?_, _, ep, vals_of_refs _, ho⟩, rfl, q _ (I.hok.fresh (Nat.le_succ _))⟩
  rw [List.length_map, List.length_mergeSort]
  exact hz2
/-- sorted of a set of tuples of ints -/
theorem rows_order {L : List Row} : ∀ {vs : List Value}, (∀ v ∈ vs, ∃ q ∈ L, v = Value.ref q.1) → ∃ L1 : List Row, vs = L1.map (fun q => Value.ref q.1) ∧ ∀ q ∈ L1, q ∈ L
  | [], _ => ⟨[], rfl, fun q hq => nomatch hq⟩
  | v :: vs, h => by
    obtain ⟨q, hq, e⟩ := h v List.mem_cons_self
    obtain ⟨L1, e1, h1⟩ := rows_order (vs := vs) fun u hu => h u (List.mem_cons_of_mem _ hu)
    refine ⟨q :: L1, by rw [e, e1]; rfl, fun r hr => ?_⟩
    cases hr with
    | head => exact hq
    | tail _ z => exact h1 r z
section
variable {P : Program} {w : World} {A : Around} {E : Value → Shared → Prop} {s : Shared}
theorem nodup_back {α β : Type} {f : α → β} : ∀ {l : List α}, (l.map f).Nodup → l.Nodup
  | [], _ => List.nodup_nil
  | a :: l, h => by
    obtain ⟨h1, h2⟩ := List.nodup_cons.mp h
    exact List.nodup_cons.mpr ⟨fun z => h1 (List.mem_map.mpr ⟨a, z, rfl⟩), nodup_back h2⟩
theorem sorted_rows {a : Addr} {L : List Row} {es : Array (Int × Value)} {ep : Nat} {t : SetTable} {Q : Value → Shared → Prop} (R : SetTR P w s.heap a L es ep t) (hh : A.handled = none) (hu : A.units + 64 < cLine) (hne : ∀ p ∈ L, p.2 ≠ [])
    (rd : ∀ p ∈ L, ∃ as, Reads s.heap (.ref p.1) (encR p) as)
    (done : ∀ s' p (c : Nat) (L' : List Row), (∀ b o, s.heap.get? b = some o → s'.heap.get? b = some o) → s'.gens = s.gens → s'.os = s.os → s.heap.objs.size ≤ p →
      s'.heap.get? p = some (seqObj "list" (L'.map fun q => Value.ref q.1).toArray c) → L'.Perm L → L'.Pairwise (fun q r => q.2 ≤ r.2) → Q (.ref p) s') :
    wpAny (model P w) A (call (.builtin "sorted") [.ref a]) Q E s := by
  obtain ⟨o, ho, hex, hd⟩ := R.ob
  have size := R.size
  have few := R.few
  refine Calls.call_function_entry kind_sorted plain_sorted entry_sorted (args_sorted1 _) ?_
  unfold Builtin.«sorted»
  refine wpAny_bind (m := checkCount "sorted" 1 1 _) (wpAny_pure ?_)
  refine wpAny_bind (collect_set (A := A.in1) hh ⟨o, ho, hex.1, hd⟩ R.fits (by rw [size]; exact Nat.lt_trans few (by decide)) R.tab.ris R.led fun s1 vs k1 hz g1 o1 pm => ?_)
  have rows : es.toList.map (·.2) = L.map fun q => Value.ref q.1 := by
    rw [R.rows]
    unfold rowsOf
    rw [List.map_map]
    rfl
  rw [rows] at pm
  obtain ⟨L1, e1, sub1⟩ := rows_order (L := L) (vs := vs) fun v hv => by
    obtain ⟨q, hq, e⟩ := List.mem_map.mp (pm.mem_iff.mp hv)
    exact ⟨q, hq, e.symm⟩
  have apart : ∀ q ∈ L, ∀ r ∈ L, q.1 = r.1 → q = r := by
    intro q hq r hr e
    have t1 := R.tup q hq
    have t2 := R.tup r hr
    rw [e] at t1
    exact Prod.ext e (t1.inj t2)
  have pm1 : L1.Perm L := by
    have nL : L.Nodup := nodup_back R.nd
    have nR : (L.map fun q => Value.ref q.1).Nodup := by
      refine List.pairwise_map.mpr (List.Pairwise.imp_of_mem (fun {q r} hq hr hn e => ?_) nL)
      injection e with e
      exact hn (apart q hq r hr e)
    rw [e1] at pm
    refine (List.perm_ext_iff_of_nodup (nodup_back (pm.nodup_iff.mpr nR)) nL).mpr fun q => ⟨sub1 q, fun hq => ?_⟩
    obtain ⟨r, hr, e⟩ := List.mem_map.mp (pm.mem_iff.mpr (List.mem_map.mpr ⟨q, hq, rfl⟩))
    injection e with e
    rw [← apart r (sub1 r hr) q hq e]
    exact hr
  subst e1
  have len1 : L1.length < 64 := by rw [pm1.length_eq]; exact few
  have line1 : L1.length ≤ sizeLine := by rw [sizeLine_eq]; omega
  refine wpAny_bind (wpAny_newList ?_ (by simpa using line1))
  have hoL : (s1.heap.push (seqObj "list" (L1.map fun q => Value.ref q.1).toArray 0)).get? s1.heap.objs.size = some (seqObj "list" (L1.map fun q => Value.ref q.1).toArray 0) := Heap.get?_push_size _ rfl
  have er : ∀ (M : List Row), (∀ q ∈ M, q ∈ L) → PySem.W.EachIs (fun v b => ∃ as, Reads (s1.heap.push (seqObj "list" (L1.map fun q => Value.ref q.1).toArray 0)) v (encR b) as ∧ s1.heap.objs.size ∉ as) (M.map fun p => Value.ref p.1) M := by
    intro M
    induction M with
    | nil => intro _; exact .nil
    | cons p M ih =>
      intro hM
      obtain ⟨as, r0⟩ := rd p (hM p List.mem_cons_self)
      have r1 := PyProof.Rows.Reads.keeps (h' := s1.heap.push (seqObj "list" (L1.map fun q => Value.ref q.1).toArray 0)) (fun b u e => Heap.get?_push_of_some _ (k1 b u e)) r0
      refine .cons ⟨as, r1, ?_⟩ (ih fun q hq => hM q (List.mem_cons_of_mem _ hq))
      have flat : ∀ {h : Heap} {ns : List Int} {us : List Value} {bs : List Addr}, ReadsAll h us (ns.map PyData.int) bs → bs = [] := by
        intro h ns
        induction ns with
        | nil => intro us bs z; cases z; rfl
        | cons n ns ih2 =>
          intro us bs z
          cases z with
          | cons z1 z2 =>
            cases z1
            rw [ih2 z2]
            rfl
      have e0 : as = [] := by
        cases r0 with
        | tuple _ _ _ z => exact flat z
      rw [e0]
      exact List.not_mem_nil
  refine wpAny_bind (wpAny_holding (PySem.W.list_sort_data (s := { s1 with heap := s1.heap.push (seqObj "list" (L1.map fun q => Value.ref q.1).toArray 0) }) (R := fun v (p : Row) => v = Value.ref p.1) (bs := L1) (enc := encR) hoL (rows_each L1) (er L1 sub1) (rows_alike L1)
    (rows_sortable fun p hp => hne p (sub1 p hp)) line1 (rows_deep (k := 1) (by show A.units + 1 + 1 + 1 < cLine; omega)) fun out hlen he => ?_))
  rw [leR_is] at he
  have eo := rows_back he
  subst eo
  obtain ⟨c, hc⟩ := sortedHeap_at (vs := L1.map fun q => Value.ref q.1) (out := ((L1.mergeSort leR).map fun q => Value.ref q.1).toArray) hoL
  refine wpAny_pure ⟨_, rfl, done _ s1.heap.objs.size c (L1.mergeSort leR) (fun b u e => ?_) g1 o1 hz hc ((List.mergeSort_perm L1 leR).trans pm1) ?_⟩
  · have q := k1 b u e
    have hlt := Heap.lt_size q
    show (sortedHeap (s1.heap.push (seqObj "list" (L1.map fun q => Value.ref q.1).toArray 0)) s1.heap.objs.size (L1.map fun q => Value.ref q.1) _).get? b = some u
    rw [sortedHeap_old (Nat.ne_of_lt hlt) (by rw [size_push']; exact Nat.lt_succ_of_lt hlt)]
    exact Heap.get?_push_of_some _ q
  · exact (List.pairwise_mergeSort leR_trans leR_total L1).imp fun h => of_decide_eq_true h
end
/-- sorted(set), any tuples of ints -/
def rSortedS (K : PySem.W.Frag) (P : Program) (w : World) : List V → Hp → VK → Prop := fun vs H Q => ∃ (a : Addr) (L : List Row), vs = [V.ref a] ∧ H a = some (SetTO P w a L) ∧ (∀ p ∈ L, SqT K H p.1 (p.2.map V.int)) ∧ (∀ p ∈ L, p.2 ≠ []) ∧
  ∀ (L' : List Row) (p : Addr), L'.Perm L → (L'.map (·.2)).Nodup → L'.length < 64 → L'.Pairwise (fun q r => q.2 ≤ r.2) → H p = none → Q (.ref p) (upd H p (.lst (L'.map fun q => V.ref q.1)))
theorem cr_sortedSR {X : Cx} (hc : X.calm = true) (hu : X.A.units + 64 < cLine) : CallR X (.builtin "sorted") (rSortedS X.K X.prog X.w) := by
  intro pins s σ H xs us Q I r h
  obtain ⟨a, L, rfl, ha, hk, hne, q⟩ := h
  obtain ⟨es, ep, t, R⟩ := SetT0.full (I.hok a _ ha).1 fun p hp => I.isT (hk p hp)
  rw [Vals.ref1 r]
  refine sorted_rows R (I.ok.hd hc) hu hne (fun p hp => Dp.reads I (encR p) (.ref p.1) (.ref p.1) (.tup (hk p hp) (dpAll_ints p.2)) rfl) fun s' p c L' k g o hp hg pm pw => ?_
  have few : L'.length < 64 := by rw [pm.length_eq]; exact R.few
  have line : (L'.map fun q => V.ref q.1).length ≤ sizeLine := by rw [List.length_map, sizeLine_eq]; omega
  have free : H p = none := I.hok.fresh hp
  have J : Inv X pins σ (upd H p (.lst (L'.map fun q => V.ref q.1))) s' := I.call' (s' := s') (ch := []) o (Un.laid k hp free) (I.hok.laid k hp ⟨line, _, c, vals_of_refs L', hg⟩) (by rw [g]; exact I.bare) (fun _ z => nomatch z)
  exact ⟨.ref p, _, J, rfl, q L' p pm ((pm.map (·.2)).nodup_iff.mpr R.nd) few pw free⟩
end Ft

set_option Elab.async false
set_option linter.all false
set_option maxRecDepth 100000
set_option maxHeartbeats 4000000
namespace Ft
open PySem PySem.Spec PyProof.Rows L2
/-! ### a def that may be called by its name -/
structure Cal (P : Program) (w : World) (K : PySem.W.Frag) (mg : Str → Option Value) (base : Heap) (k : Nat) (x : Str) (sp : Sp) : Prop where
  ex : ∃ (f : Addr) (fd : FuncData) (ps : List Str), FnOk P w K mg base L2.CX0 k f fd ps sp ∧ mg x = some (.ref f) ∧ PySem.W.keepIn K (.ref f) = true ∧ Binds K fd ps []
theorem pe_c {X : Cx} {k j : Nat} {x : Str} {sp : Sp} {p pos : Pos} {e : Expr} {es : List Expr} {t : TA} (c : Cal X.prog X.w X.K X.mg X.base k x sp) (hr : Room j X.A) (hk : k ≤ j) (hg : Gl X x) (ha : PA X (e :: es) t)
    (hdb : (x == ("__debug__" : Str)) = false := by decide) (he : starEach (e :: es) X.env = (false, eval e X.env) :: starEach es X.env := by rfl) (hpl : (backTo pos (starEach es X.env)).any (·.1) = false := by rfl) :
    PE X (.Call (.Name x p) (e :: es) [] pos) (tCall sp [] L2.E0 t) := by
  obtain ⟨f, fd, ps, F, hm, kp, b⟩ := c.ex
  exact pe_call F (hr.mono hk) hg hm kp b .nil L2.pass0 ha hdb he hpl
/-- a def of the module as it stands behind the top, under its name -/
structure Def (K : PySem.W.Frag) (mg : Str → Option Value) (x : Str) (st : Stmt) : Prop where
  ex : ∃ (f : Addr) (fd : FuncData), L2.Fun K x x st f fd ∧ mg x = some (.ref f)
theorem cal_of {P : Program} {w : World} {K : PySem.W.Frag} {mg : Str → Option Value} {base : Heap} {x : Str} {st : Stmt} {N ps : List Str} {k : Nat} {sp : Sp} (D : Def K mg x st) (S : FnScope N ps (L2.defScope st))
    (bd : ∀ (kV doc pm : Value) (an : Option Addr) (cdv ct : Value) (us : List Value), us.length = ps.length → bindArgs (PySem.W.fnOf x x (L2.defArgs st) (L2.defBody st) (L2.defScope st) .none kV doc pm an cdv ct) ⟨us, []⟩ = pure (ps.zip us))
    (len : ∀ vs H Q E, sp vs H Q E → vs.length = ps.length)
    (body : ∀ (f : Addr) (cdv : Value) (A : Around) (outer : List Env) (s : Shared) (H : Hp) (vs : List V) (Q : VK) (E : XK), Room k (A.deeper (envOfC x (L2.defScope st) s.heap.objs.size f cdv)) → sp vs H Q E →
      ∃ t, PSs (cxOf L2.CX0 P w K mg base N x (L2.defScope st) f cdv A outer s H E).nox (L2.defBody st) t ∧ t { nx := fun _ H' => Q .non H', rt := Q } (start N vs) H) : Cal P w K mg base (k + 1) x sp := by
  obtain ⟨f, fd, F, hm⟩ := D.ex
  exact ⟨f, fd, ps, F.ok S len (body f), hm, F.kp, F.binds bd⟩
theorem calG_of {P : Program} {w : World} {K : PySem.W.Frag} {mg : Str → Option Value} {base : Heap} {x : Str} {st : Stmt} {N ps : List Str} {k : Nat} {sp : Sp} (D : Def K mg x st) (S : FnScope N ps (L2.defScope st))
    (bd : ∀ (kV doc pm : Value) (an : Option Addr) (cdv ct : Value) (us : List Value), us.length = ps.length → bindArgs (PySem.W.fnOf x x (L2.defArgs st) (L2.defBody st) (L2.defScope st) .none kV doc pm an cdv ct) ⟨us, []⟩ = pure (ps.zip us))
    (len : ∀ vs H Q E, sp vs H Q E → vs.length = ps.length)
    (body : ∀ (f : Addr) (cdv : Value) (A : Around) (out : List Env) (s : Shared) (H : Hp) (vs : List V) (Q : VK) (E : XK), A.guards = some [] → Room k (A.deeper (envOfC x (L2.defScope st) s.heap.objs.size f cdv)) → sp vs H Q E →
      ∃ t, PSs (cxOf L2.CX0 P w K mg base N x (L2.defScope st) f cdv A out s H E).nox (L2.defBody st) t ∧ t { nx := fun _ H' => Q .non H', rt := Q } (start N vs) H) : CalG P w K mg base (k + 1) x sp := by
  obtain ⟨f, fd, F, hm⟩ := D.ex
  exact ⟨f, fd, ps, gfun F S len (body f), hm, F.kp, F.binds bd⟩

/-! ### enumerate(tuple) -/
theorem enum_newT (l : Addr) (items : Array Value) (n : Nat) (dct : Option Addr) (sl : Array (Option Value)) :
    Meets (Builtin.«enumerate.__new__» ⟨[.type "enumerate", .ref l], []⟩) (fun _ R s => s.heap.get? l = some { cls := .type "tuple", dict := dct, data := .seq items n, slots := sl } ∧
      R (.ok (.ret (.ref (s.heap.push { cls := .type "tuple_iterator", data := .fields #[.ref l, .int 0 0] }).objs.size)))
        { s with heap := (s.heap.push { cls := .type "tuple_iterator", data := .fields #[.ref l, .int 0 0] }).push { cls := .type "enumerate", data := .fields #[.none, .bool false, .ref s.heap.objs.size, rawInt 0, .none, .none] } }) :=
  .of_wp fun prog w A R s h => by
    obtain ⟨hp, g, d, tk, os⟩ := s
    obtain ⟨hl, h⟩ := h
    have sub := sub_enumerate
    have tup : Heap.IsTuple (Shared.heap ⟨hp, g, d, tk, os⟩) l items := ⟨_, hl, rfl, n, rfl⟩
    wp_walk using PySem.AutoSeq1.wpAny_loadPart' hl
    refine wpAny_stack_any fun st => wpAny_pure ?_
    split
    · rename_i c _ _ _ _ _
      cases (c == Value.type "enumerate")
      · wp_walk using PySem.AutoSeq1.wpAny_loadPart' hl, wpAny_pyIter_tuple tup
        exact ⟨_, rfl, h⟩
      · wp_walk using PySem.AutoSeq1.wpAny_loadPart' hl, wpAny_pyIter_tuple tup
        exact ⟨_, rfl, h⟩
    · wp_walk using PySem.AutoSeq1.wpAny_loadPart' hl, wpAny_pyIter_tuple tup
      exact ⟨_, rfl, h⟩
theorem enum_tuple {prog : Program} {w : World} {A : Around} {E : Value → Shared → Prop} {s : Shared} {l : Addr} {items : Array Value} {Q : Value → Shared → Prop} (hL : s.heap.IsTuple l items)
    (h : ∀ h', IsEnum h' (s.heap.objs.size + 1) s.heap.objs.size 0 .none → h'.IsTupleIter s.heap.objs.size l 0 → h'.objs.size = s.heap.objs.size + 2 → (∀ b o, s.heap.get? b = some o → h'.get? b = some o) → Q (.ref (s.heap.objs.size + 1)) { s with heap := h' }) :
    wpAny (model prog w) A (call (.type "enumerate") [.ref l]) Q E s := by
  obtain ⟨⟨c, dct, dt, sl⟩, hl, hc, n, hd⟩ := hL
  replace hc : c = .type "tuple" := hc
  replace hd : dt = .seq items n := hd
  subst hc hd
  refine callType_new F.called_enumerate (by decide) (F.typeCall_enumerate_1 _) (F.newCall_enumerate_1 _) (fun obj => F.args_object_init_2 obj _) F.entry_enumerate_new (enum_newT l items n dct sl) ⟨hl, ?_⟩
  have hz : (s.heap.push { cls := .type "tuple_iterator", data := .fields #[.ref l, .int 0 0] }).objs.size = s.heap.objs.size + 1 := Heap.size_push ..
  show _ ∧ _
  rw [hz]
  have he : IsEnum ((s.heap.push { cls := .type "tuple_iterator", data := .fields #[.ref l, .int 0 0] }).push { cls := .type "enumerate", data := .fields #[.none, .bool false, .ref s.heap.objs.size, rawInt 0, .none, .none] }) (s.heap.objs.size + 1) s.heap.objs.size 0 .none := by
    have q := Heap.get?_push_size (s.heap.push { cls := .type "tuple_iterator", data := .fields #[.ref l, .int 0 0] }) (o := { cls := .type "enumerate", data := .fields #[.none, .bool false, .ref s.heap.objs.size, rawInt 0, .none, .none] }) rfl
    rw [hz] at q
    exact q
  exact ⟨⟨_, he, rfl⟩, h _ he ⟨_, Heap.get?_push_of_some _ (Heap.get?_push_size _ rfl), rfl, rfl⟩ (by rw [Heap.size_push, hz]) fun b o x => Heap.get?_push_of_some _ (Heap.get?_push_of_some _ x)⟩
def IteT (K : PySem.W.Frag) (a : Addr) : It :=
  ⟨fun i H => ∃ (xs : List V) (x : V), SqT K H a xs ∧ xs[i]? = some x, fun i H v H' => ∃ T x, v = .ref T ∧ H T = none ∧ H' = upd H T (.tup [.int (i : Nat), x]) ∧ ∀ xs, SqT K H a xs → xs[i]? = some x, fun i H => ∃ xs : List V, SqT K H a xs ∧ xs.length = i⟩
theorem turn_enumT {P : Program} {w : World} {K : PySem.W.Frag} {elts : List Expr} {kk : Nat} {tpos : Pos} (a e it : Addr) :
    Turn P w K (.Tuple elts kk tpos) (IteT K a) [e, it] e (fun i h => (∃ old, IsEnum h e it ((i : Nat) : Int) old) ∧ h.IsTupleIter it a i ∧ e ≠ it ∧ a ≠ it ∧ e ≠ a) where
  mem := by simp
  obj := fun i h st b hb => by
    obtain ⟨⟨old, he⟩, ⟨o, ho, hc, hd⟩, _⟩ := st
    have e' : b = e ∨ b = it := by simpa using hb
    rcases e' with z | z
    · rw [z]; exact ⟨_, he, fun v q => nomatch q⟩
    · rw [z]; exact ⟨o, ho, fun v q => by rw [hd] at q; cases q⟩
  keep := fun i h h' st k => let ⟨⟨old, he⟩, hi, hne⟩ := st; ⟨⟨old, k e (by simp) _ he⟩, hi.at fun o q => k it (by simp) o q, hne⟩
  item := by
    intro X hP hw hK hc i pins s σ H E I hf st hg
    subst hP hw hK
    obtain ⟨⟨old, he⟩, hit, hne, hai, hea⟩ := st
    obtain ⟨xs, x, hq, hx⟩ := hg
    obtain ⟨its, rv, p, hz⟩ := I.tuple hq
    have pt : s.heap.IsTuple a its.toArray := p
    obtain ⟨u, hu, ru⟩ := rv.get hx
    have hel : e < s.heap.objs.size := Heap.lt_size he
    have hil : it < s.heap.objs.size := by obtain ⟨_, q, _⟩ := hit; exact Heap.lt_size q
    have hlt : i < its.toArray.size := by
      have := (List.getElem?_eq_some_iff.mp hu).1
      simpa using this
    refine wpAny_pyNext_enum_itemD (Draws.tuple (A := X.A.in1) (by simpa using I.ok.hd hc) it a hai its.toArray) he ⟨hit, pt⟩ hlt hne (by simp [hne, hea]) fun y h' tk hy ho hit' hT hsz hk => ?_
    have eu : y = u := by
      have z : its[i]? = some y := by simpa using hy
      exact Option.some.inj (z.symm.trans hu)
    subst eu
    refine ⟨_, rfl, wpAny_letOwnedTupleGo_enum (s := { s with heap := h', toks := tk + 1 }) ho fun h'' he' sb => ?_⟩
    have hT2 : h''.get? s.heap.objs.size = some { cls := .type "tuple", data := .seq #[.int i tk, y] } := (sb.2 _ (Nat.ne_of_gt hel)).trans hT
    have new : ObjOk X.prog X.w (upd H s.heap.objs.size (.tup [.int (i : Nat), x])) h'' s.heap.objs.size (.tup [.int (i : Nat), x]) :=
      ⟨by show 2 ≤ sizeLine; decide, [.int i tk, y], .cons ⟨_, rfl⟩ (.cons ru .nil), ⟨_, hT2, rfl, _, rfl⟩⟩
    have I1 : Inv X pins σ (upd H s.heap.objs.size (.tup [.int (i : Nat), x])) { s with heap := h'', toks := tk + 1 } :=
      I.turnedNew (ch := [e, it]) (fun b ob hb q => (sb.2 b (fun z => hb (by simp [z]))).trans (hk b ob (fun z => hb (by simp [z])) (fun z => hb (by simp [z])) q)) hf (Nat.le_refl _) new
    refine ⟨.ref s.heap.objs.size, _, I1, rfl, ⟨_, x, rfl, I.hok.fresh (Nat.le_refl _), rfl, fun ys hy => by rw [I.tuple_inj hy hq]; exact hx⟩, ⟨⟨y, ?_⟩, hit'.1.at fun o q => (sb.2 it (Ne.symm hne)).trans q, hne, hai, hea⟩, fun b hb => ?_⟩
    · have e1 : ((i + 1 : Nat) : Int) = (i : Int) + 1 := by omega
      rw [e1]; exact he'
    · have e' : b = e ∨ b = it := by simpa using hb
      have hb' : b < s.heap.objs.size := by
        rcases e' with z | z
        · rw [z]; exact hel
        · rw [z]; exact hil
      rw [upd_ne (Nat.ne_of_lt hb')]
      exact (hf b hb).1
  done := by
    intro X hP hw hK hc i pins s σ H E I hf st hg
    subst hP hw hK
    obtain ⟨⟨old, he⟩, hit, hne, hai, hea⟩ := st
    obtain ⟨xs, hq, hx⟩ := hg
    obtain ⟨its, rv, p, hz⟩ := I.tuple hq
    have pt : s.heap.IsTuple a its.toArray := p
    obtain ⟨f0, f1, f2, f3, f4, f5⟩ := hf it (by simp)
    have hl : its.toArray.size = i := by
      rw [← hx, rv.length]
      simp
    refine wpAny_pyNext_enum_endD (Draws.tuple (A := X.A.in1) (by simpa using I.ok.hd hc) it a hai its.toArray) he ⟨by rw [hl]; exact hit, pt⟩ fun h' eb => ⟨rfl, I.turned (t' := s.toks) (fun b o hb q => eb b o hb q) f0 f1 f3 f4 f5⟩
  self := fun A i s Q E st h => let ⟨⟨_, he⟩, _⟩ := st; wpAny_pyIter_enum he h
def iEnumT (K : PySem.W.Frag) (ta : TA) : TI := fun σ H R => ta σ H fun vs H1 => ∃ a xs, vs = [.ref a] ∧ SqT K H1 a xs ∧ R (IteT K a) H1
theorem pi_enumT {X : Cx} {e : Expr} {ta : TA} {p pos tpos : Pos} {elts : List Expr} {kk : Nat} (hg : Gl X "enumerate") (hm : X.mg "enumerate" = none) (ha : PA X [e] ta) (hs : starEach [e] X.env = [(false, eval e X.env)] := by rfl) :
    PI X (.Tuple elts kk tpos) (.Call (.Name "enumerate" p) [e] [] pos) (iEnumT X.K ta) := by
  refine ⟨fun pins s σ H R I h => ?_⟩
  refine Call_ (ld_blt I hg hm boot_enumerate (PyProof.Rows.callWith_type1 (thn (ha.run pos pins s σ H _ I h) fun us s1 ⟨vs, H1, I1, r1, q1⟩ => ?_) hs rfl))
  obtain ⟨a, xs, ex, hq, q⟩ := q1
  subst ex
  cases r1 with
  | cons r rr =>
    cases rr
    cases r
    obtain ⟨its, rv, p', hz⟩ := I1.tuple hq
    have pt : s1.heap.IsTuple a its.toArray := p'
    have below : a < s1.heap.objs.size := by obtain ⟨_, q, _⟩ := pt; exact Heap.lt_size q
    refine enum_tuple pt fun h' he hit hsz hk => wpAny_pyIter_enum he ?_
    have I2 : Inv X pins σ H1 { s1 with heap := h' } := I1.kept (t' := s1.toks) hk
    refine ⟨s1.heap.objs.size + 1, [s1.heap.objs.size + 1, s1.heap.objs.size], _, _, H1, rfl, I2, turn_enumT a (s1.heap.objs.size + 1) s1.heap.objs.size, ⟨⟨.none, he⟩, hit, Nat.succ_ne_self _, Nat.ne_of_lt below, Nat.ne_of_gt (Nat.lt_succ_of_lt below)⟩, fun b hb => ?_, q⟩
    have e' : b = s1.heap.objs.size + 1 ∨ b = s1.heap.objs.size := by simpa using hb
    have hle : s1.heap.objs.size ≤ b := by
      rcases e' with z | z
      · rw [z]; exact Nat.le_add_right _ _
      · rw [z]; exact Nat.le_refl _
    exact I1.fpOk hle (I1.hok.fresh hle)
theorem walk_enumT {K : PySem.W.Frag} {a : Addr} {xs : List V} : L2.Walk (IteT K a) xs.length (fun H => SqT K H a xs) (YPair (fun i => some (.int (i : Nat))) (fun i => xs[i]?)) :=
  ⟨fun i H hi q => ⟨xs, xs[i], q, by simp [hi]⟩, fun H q => ⟨xs, q, rfl⟩, fun i H x H' hi q ⟨T, y, e1, e2, e3, e4⟩ => ⟨T, _, y, e1, e2, e3, rfl, e4 xs q⟩⟩

/-! ### a dict comprehension over any walk -/
theorem dc_it {J : It} {n : Nat} {G : Hp → Prop} {Y : Nat → Hp → V → Hp → Prop} (w : L2.Walk J n G Y) {g : TG} {tt : TT} {tk tv : TE} {vs : List Nat} {σ : L2.St} {H1 : Hp} {D : Addr} {Qd : Hp → Prop} (Pv : Nat → Hp → Prop) (h0 : Pv 0 (upd H1 D (.dK []))) (hG : ∀ i H, i ≤ n → Pv i H → G H)
    (hs : ∀ i x H H', i < n → Pv i H → Y i H x H' → g x (wipe σ vs) H' fun σ2 H2 => wipe σ2 vs = wipe σ vs ∧ tt σ2 H2 fun b H3 =>
      if b = true then tk σ2 H3 fun y H4 => tv σ2 H4 fun z H5 => ∃ kvs k, y = kV k ∧ H5 D = some (.dK kvs) ∧ kvs.length < sizeLine ∧ Pv (i + 1) (upd H5 D (.dK (putK kvs k z))) else Pv (i + 1) H3) (hd : ∀ H, Pv n H → Qd H) :
    ∃ W : Nat → Nat → Hp → Prop, (∃ m, W 0 m (upd H1 D (.dK []))) ∧ ∀ i m H, W i m H →
      (J.stop i H ∧ Qd H) ∨ (J.go i H ∧ ∃ Nx : Hp → Prop, (∀ H', Nx H' → ∃ m', m' < m ∧ W (i + 1) m' H') ∧ ∀ x H', J.yld i H x H' → g x (wipe σ vs) H' fun σ2 H2 => wipe σ2 vs = wipe σ vs ∧ tt σ2 H2 fun b H3 =>
        if b = true then tk σ2 H3 fun y H4 => tv σ2 H4 fun z H5 => ∃ kvs k, y = kV k ∧ H5 D = some (.dK kvs) ∧ kvs.length < sizeLine ∧ Nx (upd H5 D (.dK (putK kvs k z))) else Nx H3) := by
  refine ⟨fun i m H => m = n - i ∧ i ≤ n ∧ Pv i H, ⟨n, rfl, Nat.zero_le _, h0⟩, fun i m H ⟨em, hi, p⟩ => ?_⟩
  subst em
  have q := hG i H hi p
  rcases Nat.lt_or_eq_of_le hi with hlt | e
  · exact .inr ⟨w.goes i H hlt q, Pv (i + 1), fun H' p' => ⟨n - (i + 1), by omega, rfl, hlt, p'⟩, fun x H' y => hs i x H H' hlt p (w.yields i H x H' hlt q y)⟩
  · subst e
    exact .inl ⟨w.stops H q, hd H p⟩

/-! ### isinstance, one class -/
theorem isi_tuple {K : PySem.W.Frag} {H : Hp} {a : Addr} {xs : List V} (h : SqT K H a xs) : TyX K H (.ref a) (.type "tuple") := by
  rcases h with (h | ⟨o, h⟩) | ⟨o, _, _, e, c, _⟩
  · exact .base (.tup h)
  · exact .fTuple h
  · exact .kTuple e c
end Ft
namespace Ft
open PySem PySem.Spec PyProof.Rows L2
/-- a block within a block -/
theorem blkIn {N : List Str} {env : Env} {cl : List (Str × Addr)} {C : Addr} {scope inner sc : Scope} {own : List (Str × Nat)} (he : env.scope = sc) (h : blkC N (relS scope sc) inner own = true) : BlkOk N (compEnvC scope cl C env).scope inner own := by
  subst he
  exact blkOk_by h
end Ft
namespace Ft
open PySem PySem.Spec PyProof.Rows L2
/-! ### the layer's rules whose reading names the written part, under names of their own -/
def rLenS (K : PySem.W.Frag) : List V → Hp → VK → Prop := fun xs H Q => ∃ p ys, xs = [.ref p] ∧ (SqL K H p ys ∨ SqT K H p ys) ∧ Q (.int ys.length) H
theorem call_lenS {X : Cx} : CallR X (.builtin "len") (rLenS X.K) := call_len_seq
def rListOf (K : PySem.W.Frag) : List V → Hp → VK → Prop := fun xs H Q => ∃ p ys, xs = [.ref p] ∧ (SqL K H p ys ∨ SqT K H p ys) ∧ ∀ l, H l = none → Q (.ref l) (upd H l (.lst ys))
theorem call_listOf {X : Cx} : CallR X (.type "list") (rListOf X.K) := call_list_of
def rTupleOf (K : PySem.W.Frag) : List V → Hp → VK → Prop := fun xs H Q => ∃ p ys, xs = [.ref p] ∧ ((SqL K H p ys ∧ ∀ l, H l = none → Q (.ref l) (upd H l (.tup ys))) ∨ (SqT K H p ys ∧ Q (.ref p) H))
theorem call_tupleOf {X : Cx} : CallR X (.type "tuple") (rTupleOf X.K) := call_tuple_of
end Ft
namespace Ft
open PySem PySem.Spec PyProof.Rows L2
theorem at_name {i : Nat} {v : V} {σ : L2.St} {H : Hp} {Q : L2.St → Hp → Prop} (h : Q (σ.set i (some v)) H) : gName i v σ H Q := h
theorem at_seq {a b : TS} {D : Ends} {σ : L2.St} {H : Hp} (h : a { D with nx := b D } σ H) : tSeq a b D σ H := h
end Ft
namespace Ft
open PySem PySem.Spec PyProof.Rows L2
/-! ### a word between two statements, and behind an expression -/
def tCut (t u : TS) : TS := fun D σ H => ∃ M : L2.St → Hp → Prop, t { D with nx := M } σ H ∧ ∀ σ' H', M σ' H' → u D σ' H'
theorem ps_cut {X : Cx} {st : Stmt} {rest : List Stmt} {t u : TS} (h1 : PS X st t) (h2 : PSs X rest u) : PSs X (st :: rest) (tCut t u) := by
  refine ⟨fun pins s σ H D I h => ?_⟩
  obtain ⟨M, hm, hu⟩ := h
  refine wpAny_execs_cons (thn (h1.run pins s σ H { D with nx := M } I hm) ?_)
  intro f s1 q
  match f, q with
  | .next, q =>
    obtain ⟨σ', H', I', q⟩ := q
    exact h2.run pins s1 σ' H' D I' (hu σ' H' q)
  | .ret v, q => exact q
  | .brk, q => exact q
  | .cont, q => exact q
def tMid (te : TE) : TE := fun σ H Q => ∃ M : V → Hp → Prop, te σ H M ∧ ∀ v H', M v H' → Q v H'
theorem pe_mid {X : Cx} {e : Expr} {te : TE} (h : PE X e te) : PE X e (tMid te) := by
  refine ⟨fun pins s σ H Q I ⟨M, hm, hu⟩ => ?_⟩
  exact thn (h.run pins s σ H M I hm) fun u s1 ⟨v, H1, I1, r, m⟩ => ⟨v, H1, I1, r, hu v H1 m⟩
def tMidT (tt : TT) : TT := fun σ H Q => ∃ M : Bool → Hp → Prop, tt σ H M ∧ ∀ b H', M b H' → Q b H'
theorem pt_mid {X : Cx} {e : Expr} {tt : TT} (h : PT X e tt) : PT X e (tMidT tt) := by
  refine ⟨fun pins s σ H Q I ⟨M, hm, hu⟩ => ?_⟩
  exact thn (h.run pins s σ H M I hm) fun b s1 ⟨H1, I1, m⟩ => ⟨H1, I1, hu b H1 m⟩
theorem ite_any {c : Bool} {A B : Prop} (a : c = true → A) (b : c = false → B) : if c = true then A else B := by
  cases c with
  | true => exact iteT (a rfl)
  | false => exact iteF (b rfl)
end Ft

set_option Elab.async false
set_option linter.all false
set_option maxRecDepth 100000
set_option maxHeartbeats 4000000
namespace Ft
open PySem PySem.Spec PyProof.Rows L2
/-! ### the heap: what stays, and maps as they lie in it -/
def vN (n : Nat) : V := .int (n : Int)
def iN (l : List Nat) : List Int := l.map fun (n : Nat) => (n : Int)
theorem vN_map (l : List Nat) : l.map vN = (iN l).map V.int := by
  unfold iN
  rw [List.map_map]
  rfl
theorem iN_length (l : List Nat) : (iN l).length = l.length := List.length_map ..
theorem iN_mem {l : List Nat} {n : Nat} : (n : Int) ∈ iN l ↔ n ∈ l := by
  unfold iN
  constructor
  · intro h
    obtain ⟨m, hm, e⟩ := List.mem_map.mp h
    have : m = n := by omega
    exact this ▸ hm
  · intro h
    exact List.mem_map.mpr ⟨n, h, rfl⟩
/-- all but the objects in ex stay as they are -/
def Kp (ex : List Addr) (H H' : Hp) : Prop := ∀ b o, b ∉ ex → H b = some o → H' b = some o
theorem Kp.refl (ex : List Addr) (H : Hp) : Kp ex H H := fun _ _ _ h => h
theorem Kp.trans {ex : List Addr} {H H1 H2 : Hp} (a : Kp ex H H1) (b : Kp ex H1 H2) : Kp ex H H2 := fun c o n h => b c o n (a c o n h)
theorem Kp.of_same {ex : List Addr} {H H1 : Hp} (a : Same H H1) : Kp ex H H1 := fun c o _ h => a c o h
theorem Same.kp {ex : List Addr} {H H1 : Hp} (a : Same H H1) : Kp ex H H1 := fun c o _ h => a c o h
theorem same_upd {H : Hp} {p : Addr} {o : HO} (n : H p = none) : Same H (upd H p o) := fun b u e => by
  rw [upd_ne (ne_of_none e n)]
  exact e
theorem same_free {H H' : Hp} (a : Same H H') {p : Addr} (n : H' p = none) : H p = none := a.free n
theorem kp_free {ex : List Addr} {H H' : Hp} (a : Kp ex H H') {p : Addr} (hp : p ∉ ex) (n : H' p = none) : H p = none := by
  cases q : H p with
  | none => rfl
  | some o =>
    rw [a p o hp q] at n
    cases n
/-- a tuple stays where only lists and dicts change -/
def Lists (ex : List Addr) (H : Hp) : Prop := ∀ b ∈ ex, ∃ o, H b = some o ∧ (∀ xs, o ≠ .tup xs) ∧ ∀ q xs, o ≠ .frz q (.tup xs)
theorem Kp.sqT {K : PySem.W.Frag} {ex : List Addr} {H H' : Hp} (k : Kp ex H H') (l : Lists ex H) {a : Addr} {xs : List V} (h : SqT K H a xs) : SqT K H' a xs := by
  have off : ∀ o, H a = some o → ((∃ ys, o = .tup ys) ∨ ∃ q ys, o = .frz q (.tup ys)) → a ∉ ex := by
    intro o e t m
    obtain ⟨u, e1, n1, n2⟩ := l a m
    have : o = u := Option.some.inj (e.symm.trans e1)
    subst this
    rcases t with ⟨ys, t⟩ | ⟨q, ys, t⟩
    · exact n1 ys t
    · exact n2 q ys t
  rcases h with (h | ⟨o, h⟩) | h
  · exact .inl (.inl (k _ _ (off _ h (.inl ⟨_, rfl⟩)) h))
  · exact .inl (.inr ⟨o, k _ _ (off _ h (.inr ⟨_, _, rfl⟩)) h⟩)
  · exact .inr h
theorem Kp.sqL {K : PySem.W.Frag} {ex : List Addr} {H H' : Hp} (k : Kp ex H H') {a : Addr} {xs : List V} (n : a ∉ ex) (h : SqL K H a xs) : SqL K H' a xs := by
  rcases h with (h | ⟨o, h⟩) | h
  · exact .inl (.inl (k _ _ n h))
  · exact .inl (.inr ⟨o, k _ _ n h⟩)
  · exact .inr h
theorem lists_nil (H : Hp) : Lists [] H := fun _ h => nomatch h
theorem Same.sqT {K : PySem.W.Frag} {H H' : Hp} (k : Same H H') {a : Addr} {xs : List V} (h : SqT K H a xs) : SqT K H' a xs := (Same.kp (ex := []) k).sqT (lists_nil H) h

/-- a map -/
structure Chart where
  n : Nat
  roads : List (Nat × Nat)
  wished : List Nat
/-- a row of pairs at the addresses ts -/
def PairsAt (K : PySem.W.Frag) (H : Hp) (ts : List Addr) (ps : List (Nat × Nat)) : Prop := Paired (fun (t : Addr) (p : Nat × Nat) => SqT K H t [vN p.1, vN p.2]) ts ps
structure ChartAt (K : PySem.W.Frag) (H : Hp) (c : Addr) (C : Chart) (r w : Addr) (ts : List Addr) : Prop where
  top : SqT K H c [vN C.n, .ref r, .ref w]
  row : SqT K H r (ts.map V.ref)
  prs : PairsAt K H ts C.roads
  wis : SqT K H w (C.wished.map vN)
def IsChart (K : PySem.W.Frag) (H : Hp) (c : Addr) (C : Chart) : Prop := ∃ r w ts, ChartAt K H c C r w ts
theorem paired_imp {α β : Type} {R S : α → β → Prop} (h : ∀ a b, R a b → S a b) : ∀ {as : List α} {bs : List β}, Paired R as bs → Paired S as bs
  | _, _, .nil => .nil
  | _, _, .cons r t => .cons (h _ _ r) (paired_imp h t)
theorem PairsAt.keep {K : PySem.W.Frag} {ex : List Addr} {H H' : Hp} (k : Kp ex H H') (l : Lists ex H) {ts : List Addr} {ps : List (Nat × Nat)} (h : PairsAt K H ts ps) : PairsAt K H' ts ps :=
  paired_imp (fun _ _ q => k.sqT l q) h
theorem ChartAt.keep {K : PySem.W.Frag} {ex : List Addr} {H H' : Hp} (k : Kp ex H H') (l : Lists ex H) {c r w : Addr} {C : Chart} {ts : List Addr} (h : ChartAt K H c C r w ts) : ChartAt K H' c C r w ts :=
  ⟨k.sqT l h.top, k.sqT l h.row, h.prs.keep k l, k.sqT l h.wis⟩
theorem IsChart.keep {K : PySem.W.Frag} {ex : List Addr} {H H' : Hp} (k : Kp ex H H') (l : Lists ex H) {c : Addr} {C : Chart} (h : IsChart K H c C) : IsChart K H' c C := let ⟨r, w, ts, q⟩ := h; ⟨r, w, ts, q.keep k l⟩
theorem IsChart.same {K : PySem.W.Frag} {H H' : Hp} (k : Same H H') {c : Addr} {C : Chart} (h : IsChart K H c C) : IsChart K H' c C := h.keep (Same.kp (ex := []) k) (lists_nil H)
theorem ChartAt.same {K : PySem.W.Frag} {H H' : Hp} (k : Same H H') {c r w : Addr} {C : Chart} {ts : List Addr} (h : ChartAt K H c C r w ts) : ChartAt K H' c C r w ts := h.keep (Same.kp (ex := []) k) (lists_nil H)
theorem paired_get {α β : Type} {R : α → β → Prop} : ∀ {as : List α} {bs : List β} {i : Nat} {b : β}, Paired R as bs → bs[i]? = some b → ∃ a, as[i]? = some a ∧ R a b
  | _, _, _, _, .nil, e => by simp at e
  | _, _, 0, _, .cons r _, e => by
    simp at e
    subst e
    exact ⟨_, rfl, r⟩
  | _, _, i + 1, b, .cons _ t, e => by
    obtain ⟨a, h1, h2⟩ := paired_get (i := i) t (by simpa using e)
    exact ⟨a, by simpa using h1, h2⟩
theorem paired_getL {α β : Type} {R : α → β → Prop} : ∀ {as : List α} {bs : List β} {i : Nat} {a : α}, Paired R as bs → as[i]? = some a → ∃ b, bs[i]? = some b ∧ R a b
  | _, _, _, _, .nil, e => by simp at e
  | _, _, 0, _, .cons r _, e => by
    simp at e
    subst e
    exact ⟨_, rfl, r⟩
  | _, _, i + 1, b, .cons _ t, e => by
    obtain ⟨a, h1, h2⟩ := paired_getL (i := i) t (by simpa using e)
    exact ⟨a, by simpa using h1, h2⟩
/-- the order of pairs -/
def ltP (p q : Nat × Nat) : Prop := p.1 < q.1 ∨ (p.1 = q.1 ∧ p.2 < q.2)
structure Chart.Ok (C : Chart) : Prop where
  n60 : C.n ≤ 60
  many : C.roads.length ≤ 240
  inR : ∀ p ∈ C.roads, p.1 < C.n ∧ p.2 < C.n
  upR : C.roads.Pairwise ltP
  inW : ∀ a ∈ C.wished, a < C.n
  upW : C.wished.Pairwise (· < ·)
/-- the builtins' names that the top has left alone, and its own two numbers -/
structure Txt (mg : Str → Option Value) : Prop where
  isinstance : mg "isinstance" = none
  len : mg "len" = none
  tuple : mg "tuple" = none
  int : mg "int" = none
  bool : mg "bool" = none
  enumerate : mg "enumerate" = none
  range : mg "range" = none
  set : mg "set" = none
  list : mg "list" = none
  sorted : mg "sorted" = none
  min : mg "min" = none
  max : mg "max" = none
  repr : mg "repr" = none
  dict : mg "dict" = none
  str : mg "str" = none
  any : mg "any" = none
  all : mg "all" = none
  sum : mg "sum" = none
  zip : mg "zip" = none
end Ft

set_option Elab.async false
set_option linter.all false
set_option maxRecDepth 100000
set_option maxHeartbeats 4000000
/-! Errors of own classes that share one __init__(self, what): raised, let through by a def, caught. -/
namespace Ft
open PySem PySem.Spec PyProof.Rows L2
/-- the class x of the text, at C; fI: the __init__ that it has -/
structure ErrC (K : PySem.W.Frag) (mg : Str → Option Value) (x : Str) (C fI : Addr) : Prop where
  g : mg x = some (.ref C)
  oex : OexC K C
  iC : PySem.W.findIn K (.ref C) "__init__" = some (some (.ref fI))
  tI : PySem.W.typeIn K (.ref fI) = some (.type "function")
  noW : PySem.W.findIn K (.ref C) "what" = some none
  xf : XfC K C
/-- __init__(self, what) -/
def spInit (K : PySem.W.Frag) : Sp := fun vs H Q _ => ∃ (a C : Addr) (v : V), vs = [.ref a, v] ∧ OexC K C ∧ PySem.W.findIn K (.ref C) "what" = some none ∧ H a = some (exo a C none) ∧
  ∀ dx, H dx = none → dx ≠ a → Q .non (upd (upd H dx (exd dx [("what", v)])) a (exo a C (some dx)))
/-- an error that may be raised -/
structure Er (P : Program) (w : World) (K : PySem.W.Frag) (mg : Str → Option Value) (base : Heap) (ca : Str → Addr) (x : Str) : Prop where
  ex : ∃ (fI : Addr) (fd : FuncData), ErrC K mg x (ca x) fI ∧ FnOk P w K mg base L2.CX0 1 fI fd ["self", "what"] (spInit K) ∧ Binds K fd ["self", "what"] []
theorem Er.c {P : Program} {w : World} {K : PySem.W.Frag} {mg : Str → Option Value} {base : Heap} {ca : Str → Addr} {x : Str} (e : Er P w K mg base ca x) : ∃ fI, ErrC K mg x (ca x) fI := let ⟨fI, _, h, _⟩ := e.ex; ⟨fI, h⟩
theorem upd_del {H : Hp} {a d : Addr} {o : HO} {u v : HO} {w : HO} (na : H a = none) (hd : d ≠ a) : upd (del (upd (upd (upd H a o) d u) a v) a) d w = upd H d w := by
  funext b
  by_cases h1 : b = d
  · rw [h1, upd_same, upd_same]
  · rw [upd_ne h1, upd_ne h1]
    by_cases h2 : b = a
    · rw [h2, del_same, na]
    · rw [del_ne h2, upd_ne h2, upd_ne h1, upd_ne h2]
theorem passF {X : Cx} {E : XK} : Passes L2.CX0 X E := fun _ _ _ _ _ _ _ h => h.elim
def tMidA (ta : TA) : TA := fun σ H Q => ∃ M : List V → Hp → Prop, ta σ H M ∧ ∀ vs H', M vs H' → Q vs H'
theorem pa_mid {X : Cx} {es : List Expr} {ta : TA} (h : PA X es ta) : PA X es (tMidA ta) := by
  refine ⟨fun pos pins s σ H Q I ⟨M, hm, hu⟩ => ?_⟩
  exact thn (h.run pos pins s σ H M I hm) fun us s1 ⟨vs, H1, I1, r, m⟩ => ⟨vs, H1, I1, r, hu vs H1 m⟩
/-- raise x(e) -/
def tRaise (C : Addr) (W : WX) (ta : TA) : TS := fun _ σ H => ta σ H fun vs H1 => ∃ v, vs = [v] ∧ ∀ d, H1 d = none → W (.ref C) (some d) σ (upd H1 d (.xd [("what", v)]))
section
variable {X : Cx} {ca : Str → Addr} {x : Str} {W : WX} {e : Expr} {es : List Expr} {ta : TA} {p pos pos2 : Pos} {k : Nat}
theorem ps_raiseE (hc : X.calm = true) (er : Er X.prog X.w X.K X.mg X.base ca x) (hr : Room k X.A) (hk : 2 ≤ k) (tk : Takes X W) (hg : Gl X x) (ha : PA X (e :: es) ta)
    (hdb : (x == ("__debug__" : Str)) = false := by decide) (he : starEach (e :: es) X.env = (false, eval e X.env) :: starEach es X.env := by rfl) (hpl : (backTo pos (starEach es X.env)).any (·.1) = false := by rfl) :
    PS X (.Raise (some (.Call (.Name x p) (e :: es) [] pos)) none pos2) (tRaise (ca x) W ta) := by
  obtain ⟨fI, fd, c, F, b⟩ := er.ex
  refine ⟨fun pins s σ H D I h => ?_⟩
  refine (ps_raise (pos := pos2) hc tk (pmk_oex (pos := pos) (p := p) c.oex c.iC c.tI F (hr.mono hk) b .nil passF hg c.g (pa_mid ha) hdb he hpl)).run pins s σ H D I ?_
  have imp : ∀ vs H1, (∃ v, vs = [v] ∧ ∀ d, H1 d = none → W (.ref (ca x)) (some d) σ (upd H1 d (.xd [("what", v)]))) →
      vs.length ≤ 1000 ∧ ∀ a, H1 a = none → spInit X.K (.ref a :: (vs ++ [])) (upd H1 a (exo a (ca x) none)) (fun v H2 => v = .non ∧ ∃ (d : Addr) (fs : List (Str × V)), H2 a = some (exo a (ca x) (some d)) ∧ H2 d = some (exd d fs) ∧ H1 d = none ∧ W (.ref (ca x)) (some d) σ (upd (del H2 a) d (.xd fs))) (fun _ _ _ => False) := by
    rintro vs H1 ⟨v, rfl, q⟩
    refine ⟨by simp, fun a na => ⟨a, ca x, v, rfl, c.oex, c.noW, upd_same, fun dx ndx hda => ⟨rfl, dx, [("what", v)], upd_same, ?_, ?_, ?_⟩⟩⟩
    · rw [upd_ne hda, upd_same]
    · rwa [upd_ne hda] at ndx
    · rw [upd_del na hda]
      rw [upd_ne hda] at ndx
      exact q dx ndx
  exact ⟨_, h, imp⟩
end
/-! ### defs that may raise -/
structure CalX (P : Program) (w : World) (K : PySem.W.Frag) (mg : Str → Option Value) (base : Heap) (k : Nat) (x : Str) (sp : Sp) : Prop where
  ex : ∃ (f : Addr) (fd : FuncData) (ps : List Str), FnOk P w K mg base (L2.CX P w) k f fd ps sp ∧ mg x = some (.ref f) ∧ PySem.W.keepIn K (.ref f) = true ∧ Binds K fd ps []
theorem pe_x {X : Cx} {k j : Nat} {x : Str} {sp : Sp} {W : WX} {p pos : Pos} {e : Expr} {es : List Expr} {t : TA} (tk : Takes X W) (c : CalX X.prog X.w X.K X.mg X.base k x sp) (hr : Room j X.A) (hk : k ≤ j) (hg : Gl X x) (ha : PA X (e :: es) t)
    (hdb : (x == ("__debug__" : Str)) = false := by decide) (he : starEach (e :: es) X.env = (false, eval e X.env) :: starEach es X.env := by rfl) (hpl : (backTo pos (starEach es X.env)).any (·.1) = false := by rfl) :
    PE X (.Call (.Name x p) (e :: es) [] pos) (tCallS sp (WE W) t) := by
  obtain ⟨f, fd, ps, F, hm, kp, b⟩ := c.ex
  exact pe_callS F (hr.mono hk) hg hm kp b (fun σ => passAt tk σ) ha hdb he hpl
theorem calx_of {P : Program} {w : World} {K : PySem.W.Frag} {mg : Str → Option Value} {base : Heap} {x : Str} {st : Stmt} {N ps : List Str} {k : Nat} {sp : Sp} (D : Def K mg x st) (S : FnScope N ps (L2.defScope st))
    (bd : ∀ (kV doc pm : Value) (an : Option Addr) (cdv ct : Value) (us : List Value), us.length = ps.length → bindArgs (PySem.W.fnOf x x (L2.defArgs st) (L2.defBody st) (L2.defScope st) .none kV doc pm an cdv ct) ⟨us, []⟩ = pure (ps.zip us))
    (len : ∀ vs H Q E, sp vs H Q E → vs.length = ps.length)
    (body : ∀ (f : Addr) (cdv : Value) (A : Around) (outer : List Env) (s : Shared) (H : Hp) (vs : List V) (Q : VK) (E : XK), Room k (A.deeper (envOfC x (L2.defScope st) s.heap.objs.size f cdv)) → sp vs H Q E →
      ∃ t, PSs (cxOf (L2.CX P w) P w K mg base N x (L2.defScope st) f cdv A outer s H E) (L2.defBody st) t ∧ t { nx := fun _ H' => Q .non H', rt := Q } (start N vs) H) : CalX P w K mg base (k + 1) x sp := by
  obtain ⟨f, fd, F, hm⟩ := D.ex
  exact ⟨f, fd, ps, F.okX S len (body f), hm, F.kp, F.binds bd⟩
/-- .. where nothing is raised -/
theorem fnOk_valid {P : Program} {w : World} {K : PySem.W.Frag} {mg : Str → Option Value} {base : Heap} {k : Nat} {f : Addr} {fd : FuncData} {ps : List Str} {sp sp' : Sp} (F : FnOk P w K mg base (L2.CX P w) k f fd ps sp)
    (h : ∀ vs H Q E, sp' vs H Q E → sp vs H Q L2.E0) : FnOk P w K mg base L2.CX0 k f fd ps sp' :=
  ⟨fun vs H Q E q => F.len vs H Q _ (h _ _ _ _ q), fun A outer s H args us vs Q E hr he hb hv hs => codeAny_mono (F.run A outer s H args us vs Q L2.E0 hr he hb hv (h _ _ _ _ hs)) fun r s' hq => by
    cases r with
    | error e =>
      obtain ⟨_, _, _, _, _, _, _, _, _, _, _, _, z⟩ := hq
      exact z.elim
    | ok fl => cases fl <;> exact hq⟩
theorem CalX.valid {P : Program} {w : World} {K : PySem.W.Frag} {mg : Str → Option Value} {base : Heap} {k : Nat} {x : Str} {sp sp' : Sp} (c : CalX P w K mg base k x sp) (h : ∀ vs H Q E, sp' vs H Q E → sp vs H Q L2.E0) : Cal P w K mg base k x sp' := by
  obtain ⟨f, fd, ps, F, hm, kp, b⟩ := c.ex
  exact ⟨f, fd, ps, fnOk_valid F h, hm, kp, b⟩
theorem Cal.imp {P : Program} {w : World} {K : PySem.W.Frag} {mg : Str → Option Value} {base : Heap} {k : Nat} {x : Str} {sp sp' : Sp} (c : Cal P w K mg base k x sp) (h : ∀ vs H Q E, sp' vs H Q E → sp vs H Q E) : Cal P w K mg base k x sp' := by
  obtain ⟨f, fd, ps, F, hm, kp, b⟩ := c.ex
  exact ⟨f, fd, ps, F.imp h, hm, kp, b⟩
/-- what is wanted of an error e, of all that may leave -/
def Raised (K : PySem.W.Frag) (ca : Str → Addr) (H : Hp) (E : XK) (e : Str × PyData) : Prop := ∀ (d : Addr) (H' : Hp) (v : V), Same H H' → H' d = some (.xd [("what", v)]) → Dp K H' v e.2 → E (.ref (ca e.1)) (some d) H'
theorem Raised.same {K : PySem.W.Frag} {ca : Str → Addr} {H H1 : Hp} {E : XK} {e : Str × PyData} (r : Raised K ca H E e) (s : Same H H1) : Raised K ca H1 E e := fun d H' v s' hd hv => r d H' v (s.trans s') hd hv
end Ft

set_option Elab.async false
set_option linter.all false
set_option maxRecDepth 100000
set_option maxHeartbeats 4000000
/-! Several except clauses, each with a name or without. -/
namespace Ft
open PySem PySem.Spec PyProof.Rows L2
abbrev Hd := Value × Option Nat × (Addr → Value → Option Addr → TS)
def gone (i : Nat) (D : Ends) : Ends := { nx := fun σ' H' => D.nx (σ'.set i none) H', rt := D.rt, bk := fun σ' H' => D.bk (σ'.set i none) H', ct := fun σ' H' => D.ct (σ'.set i none) H' }
def wHd (o : Option Nat) (ts : Addr → Value → Option Addr → TS) (a : Addr) (cls : Value) (d : Option Addr) (D : Ends) (σ : L2.St) (H : Hp) : Prop := match o with
  | none => ts a cls d D σ H
  | some i => ts a cls d (gone i D) (σ.set i (some (.ref a))) H
/-- what the clauses wish of an exception of the body -/
def wMs (K : PySem.W.Frag) (n : Nat) (Wout : WX) (D : Ends) : List Hd → WX
  | [] => Wout
  | (c, o, ts) :: r => fun cls d σ H => ∃ b, PySem.W.exmOne K cls c = some b ∧ (b = true → ∀ a, H a = none → σ.length = n → wHd o ts a cls d D σ H) ∧ (b = false → wMs K n Wout D r cls d σ H)
inductive HdsA (X : Cx) : List ExceptHandler → List Hd → Prop
  | nil : HdsA X [] []
  | no {x : Str} {c : Value} {ts : Addr → Value → Option Addr → TS} {b₀ : Stmt} {suite : List Stmt} {np pos' : Pos} {hds : List ExceptHandler} {l : List Hd} (hc : Names X x c)
      (hsu : ∀ (a : Addr) (oe : Obj) (cls : Value) (d : Option Addr) (pn : List (Addr × Obj)), Zc cls d oe → (∃ vs, oe.data = .fields vs) → PSs (X.suite a ((a, oe) :: pn)) (b₀ :: suite) (ts a cls d)) (r : HdsA X hds l) :
      HdsA X (.ExceptHandler (some (.Name x np)) none (b₀ :: suite) pos' :: hds) ((c, none, ts) :: l)
  | as {x n : Str} {c : Value} {i : Nat} {ts : Addr → Value → Option Addr → TS} {b₀ : Stmt} {suite : List Stmt} {np pos' : Pos} {hds : List ExceptHandler} {l : List Hd} (hi : X.N[i]? = some n) (hln : X.env.kindOf n = some .local) (hc : Names X x c)
      (hsu : ∀ (a : Addr) (oe : Obj) (cls : Value) (d : Option Addr) (pn : List (Addr × Obj)), Zc cls d oe → (∃ vs, oe.data = .fields vs) → PSs (X.suite a ((a, oe) :: pn)) (b₀ :: suite) (ts a cls d)) (r : HdsA X hds l) :
      HdsA X (.ExceptHandler (some (.Name x np)) (some n) (b₀ :: suite) pos' :: hds) ((c, some i, ts) :: l)
section
variable {X : Cx} {body : List Stmt} {h₀ : ExceptHandler} {hds : List ExceptHandler} {l : List Hd} {pos : Pos} {tb : WX → TS} {Wout : WX}
theorem ps_try_ms (hs : X.stack = X.env :: X.outer) (hf : X.env.frame = some X.env.locals) (hN : X.N.Nodup) (tk : Takes X Wout)
    (hb : ∀ (W : WX) (pn : List (Addr × Obj)) (xe : Value → Shared → Prop), Takes (X.tr pn xe) W → PassesOwn (model X.prog X.w) X.A X.env xe → PSs (X.tr pn xe) body (tb W))
    (hh : HdsA X (h₀ :: hds) l) : PS X (.Try body (h₀ :: hds) [] [] pos) (fun D σ H => tb (wMs X.K X.N.length Wout D l) D σ H) := by
  refine ⟨fun pins s σ H D I h => ?_⟩
  have ok := I.ok
  have hfr : X.A.frames = some (X.env :: X.outer) := by rw [ok.frames, hs]
  refine wpAny_Try_except ?_
  refine wpAny_mono ((hb (wMs X.K X.N.length Wout D l) (X.pn ++ pins) (fun e s₁ => wpAny (model X.prog X.w) X.A (noteFrame e X.env) (fun _ s₂ => wpAny (model X.prog X.w) X.A (setFlight e none) (fun _ s₃ =>
    wpAny (model X.prog X.w) X.A (handleBy e X.env (h₀ :: hds)) (SP X pins D) X.xe s₃) X.xe s₂) X.xe s₁) (fun u s' xx => ?_) PassesOwn.looking).run [] s σ H D (I.toTry _) h) (fun f s1 hsp => ?_) (fun e s1 he => he)
  · -- the catch
    obtain ⟨a, B, sI, pins', σ', H', cls, d, rfl, J', nb, up, sky, na, os, ag, w⟩ := xx
    have J : Inv X pins σ' H' sI := J'.ofTry ok
    have sky' : Sky B (X.env :: X.outer) a (Zc cls d) X.env.locals s'.heap := by rw [← hs]; exact sky
    show wpAny (model X.prog X.w) X.A (noteFrame (.ref a) X.env) _ _ _
    refine Sky.land Zc.steady hfr hf sky' fun h3 fl3 up3 => ?_
    have J3 : Inv X pins σ' H' { s' with heap := h3 } := J.landed nb fl3.1 (up.trans up3) os ag
    obtain ⟨oe3, vs3, he3, hz3, hd3⟩ := fl3.there
    have notFr : ∀ {h : Heap} {o : Obj} {vs : Array Value}, h.FunFrames B (X.env :: X.outer) → h.get? a = some o → o.data = .fields vs → a ∉ frs (X.env :: X.outer) := fun {h o vs} ff e dd hm => by
      obtain ⟨_, o', e', hnf⟩ := ff.mem hm
      rw [e] at e'; cases e'
      exact hnf _ dd
    have nfr := notFr fl3.2.2.1 he3 hd3
    have nL : a ≠ X.env.locals := fun z => nfr (List.mem_filterMap.mpr ⟨X.env, List.mem_cons_self, by rw [hf, z]⟩)
    have nF : a ∉ X.fs := fun hm => by
      obtain ⟨e, he, q⟩ := List.mem_filterMap.mp hm
      exact nfr (List.mem_filterMap.mpr ⟨e, List.mem_cons_of_mem _ he, q⟩)
    have S3 := J3.suite he3 hd3 na nL nF
    have LT : PySem.W.Looks (model X.prog X.w) h3 (typeOf (.ref a)) cls := fun A Q E s k q => wpAny_typeOf_ref (k _ _ he3) (by rw [hz3.1]; exact q)
    have test : ∀ {x : Str} {c : Value} {np : Pos} (hc : Names X x c) {Q : Value → Shared → Prop} {E : Value → Shared → Prop}, Q c { s' with heap := h3 } → wpAny (model X.prog X.w) (X.A.mark (some (.ref a))) (eval (.Name x np) X.env) Q E { s' with heap := h3 } := fun {x c np} hc {Q E} q => by
      obtain ⟨hg, hdbg, hm | ⟨hm, hv, hnn⟩⟩ := hc
      · exact ld_glob (X := X.suite a ((a, oe3) :: (X.pn ++ pins))) S3 hg hm q hdbg
      · exact ld_blt (X := X.suite a ((a, oe3) :: (X.pn ++ pins))) S3 hg hm hv q hnn hdbg
    have go : ∀ {hds' : List ExceptHandler} {l' : List Hd}, HdsA X hds' l' → wMs X.K X.N.length Wout D l' cls d σ' H' →
        wpAny (model X.prog X.w) X.A (handleBy (.ref a) X.env hds') (SP X pins D) X.xe { s' with heap := h3 } := by
      intro hds' l' hk
      induction hk with
      | nil =>
        intro w
        refine wpAny_handleBy_nil ?_
        obtain ⟨k1, k2, k3, oe, vs, T, oT, ts', he, hz, hd, h1, hr⟩ := id fl3
        unfold PySem.passOn
        refine wpAny_bind (wpAny_field he hd h1 ?_)
        rw [if_neg (show ¬ ((Value.ref T == Value.none) = true) from by simp)]
        have fin : wpAny (model X.prog X.w) X.A (setFlight (.ref a) X.env.frame) (fun _ s4 => wpAny (model X.prog X.w) X.A (throw (.ref a) : Sem Flow) (SP X pins D) X.xe s4) X.xe { s' with heap := h3 } := by
          rw [hf]
          refine HandSPX.setFlight_upZ fl3 fun h4 hh4 up4 => wpAny_throw (tk _ _ ?_)
          exact ⟨a, B, sI, pins, σ', H', cls, d, rfl, J, nb, (up.trans up3).trans up4, .inr (.inr (by rw [hs]; exact hh4)), na, os, ag, w⟩
        first
          | exact wpAny_bind (wpAny_pure (wpAny_bind fin))
          | exact wpAny_bind fin
      | @no x c ts b₀ suite np pos' hds2 l2 hc hsu r ih =>
        intro w
        obtain ⟨b, hb1, hyes, hno⟩ := w
        have LM := PySem.W.exm_one (M := model X.prog X.w) (J3.kIn) LT hb1
        refine wpAny_handleBy_cons (codeAny_handlers_test ?_) (by intro q; cases q)
        refine test hc (LM.here ?_)
        cases b with
        | true =>
          refine codeAny_handlers_suite ?_
          refine HandSPX.lands_againZ fl3 fun h4 fl4 up4 => ?_
          have J4 : Inv X pins σ' H' { s' with heap := h4 } := J.landed nb fl4.1 ((up.trans up3).trans up4) os ag
          obtain ⟨oe4, vs4, he4, hz4, hd4⟩ := fl4.there
          have S4 := J4.suite he4 hd4 na nL nF
          refine wpAny_mono ((hsu a oe4 cls d (X.pn ++ pins) hz4 ⟨_, hd4⟩).run [] _ _ H' _ S4 (hyes rfl a na J.len)) (fun f s6 hsp => ?_) (fun _ _ z => False.elim z)
          cases f with
          | next =>
            obtain ⟨σ6, H6, S6, q6⟩ := hsp
            exact ⟨_, _, S6.unsuite ok, q6⟩
          | brk =>
            obtain ⟨σ6, H6, S6, q6⟩ := hsp
            exact ⟨_, _, S6.unsuite ok, q6⟩
          | cont =>
            obtain ⟨σ6, H6, S6, q6⟩ := hsp
            exact ⟨_, _, S6.unsuite ok, q6⟩
          | ret u =>
            obtain ⟨v6, σ6, H6, S6, r6, q6⟩ := hsp
            exact ⟨_, _, _, S6.unsuite ok, r6, q6⟩
        | false =>
          show wpAny _ X.A (handleBy (.ref a) X.env hds2) _ _ _
          exact ih (hno rfl)
      | @as x n c i ts b₀ suite np pos' hds2 l2 hi hln hc hsu r ih =>
        intro w
        obtain ⟨b, hb1, hyes, hno⟩ := w
        have LM := PySem.W.exm_one (M := model X.prog X.w) (J3.kIn) LT hb1
        refine wpAny_handleBy_cons (codeAny_handlers_test ?_) (by intro q; cases q)
        refine test hc (LM.here ?_)
        cases b with
        | true =>
          refine codeAny_handlers_suite_as ?_
          refine HandSPX.lands_againZ fl3 fun h4 fl4 up4 => ?_
          have J4 : Inv X pins σ' H' { s' with heap := h4 } := J.landed nb fl4.1 ((up.trans up3).trans up4) os ag
          obtain ⟨oe4, vs4, he4, hz4, hd4⟩ := fl4.there
          have S4 := J4.suite he4 hd4 na nL nF
          refine store_ok (X := X.suite a ((a, oe4) :: (X.pn ++ pins))) (v := .ref a) S4 hN hi (.inl hln) rfl (fun s5 S5 => ?_) (.inr hln)
          refine wpAny_mono ((hsu a oe4 cls d (X.pn ++ pins) hz4 ⟨_, hd4⟩).run [] s5 _ H' _ S5 (hyes rfl a na J.len)) (fun f s6 hsp => ?_) (fun _ _ z => False.elim z)
          have end_ : ∀ {σ6 : L2.St} {H6 : Hp} {Q : Shared → Prop}, Inv (X.suite a ((a, oe4) :: (X.pn ++ pins))) [] σ6 H6 s6 → (∀ s7, Inv X pins (σ6.set i none) H6 s7 → Q s7) →
              wpAny (model X.prog X.w) X.A (do bindName X.env n .none; unbindBehindTheSuite X.env n pos') (fun _ s7 => Q s7) X.xe s6 := fun {σ6 H6 Q} S6 hq => gone_ok (S6.unsuite ok) hN hi hln hq
          cases f with
          | next =>
            obtain ⟨σ6, H6, S6, q6⟩ := hsp
            exact end_ S6 fun s7 J7 => ⟨_, _, J7, q6⟩
          | brk =>
            obtain ⟨σ6, H6, S6, q6⟩ := hsp
            exact end_ S6 fun s7 J7 => ⟨_, _, J7, q6⟩
          | cont =>
            obtain ⟨σ6, H6, S6, q6⟩ := hsp
            exact end_ S6 fun s7 J7 => ⟨_, _, J7, q6⟩
          | ret u =>
            obtain ⟨v6, σ6, H6, S6, r6, q6⟩ := hsp
            exact end_ S6 fun s7 J7 => ⟨_, _, _, J7, r6, q6⟩
        | false =>
          show wpAny _ X.A (handleBy (.ref a) X.env hds2) _ _ _
          exact ih (hno rfl)
    exact go hh w
  · cases f with
    | next =>
      obtain ⟨σ', H', J', q⟩ := hsp
      exact wpAny_execs_nil ⟨σ', H', J'.ofTry ok, q⟩
    | brk =>
      obtain ⟨σ', H', J', q⟩ := hsp
      exact ⟨σ', H', J'.ofTry ok, q⟩
    | cont =>
      obtain ⟨σ', H', J', q⟩ := hsp
      exact ⟨σ', H', J'.ofTry ok, q⟩
    | ret u =>
      obtain ⟨v, σ', H', J', r, q⟩ := hsp
      exact ⟨v, σ', H', J'.ofTry ok, r, q⟩
end
end Ft

set_option Elab.async false
set_option linter.all false
set_option maxRecDepth 100000
set_option maxHeartbeats 4000000
/-! Data as it lies in the heap, and what the program's judges say of it. -/
namespace Ft
open PySem PySem.Spec PyProof.Rows L2
/-! ### data stay -/
theorem Same.sqL {K : PySem.W.Frag} {H H' : Hp} (k : Same H H') {a : Addr} {xs : List V} (h : SqL K H a xs) : SqL K H' a xs := (Same.kp (ex := []) k).sqL (by simp) h
mutual
theorem dp_same {K : PySem.W.Frag} {H H' : Hp} (s : Same H H') : ∀ (d : PyData) (v : V), Dp K H v d → Dp K H' v d
  | .none, _, h => by cases h; exact .non
  | .bool _, _, h => by cases h; exact .bl _
  | .int _, _, h => by cases h; exact .int _
  | .str _, _, h => by cases h; exact .str _
  | .list ds, _, h => by
    cases h with
    | lst h a => exact .lst (Same.sqL s h) (dp_sames s ds _ a)
  | .tuple ds, _, h => by
    cases h with
    | tup h a => exact .tup (Same.sqT s h) (dp_sames s ds _ a)
  | .dict _, _, h => by cases h
theorem dp_sames {K : PySem.W.Frag} {H H' : Hp} (s : Same H H') : ∀ (ds : List PyData) (vs : List V), DpAll K H vs ds → DpAll K H' vs ds
  | [], _, h => by cases h; exact .nil
  | d :: ds, _, h => by
    cases h with
    | cons h1 h2 => exact .cons (dp_same s d _ h1) (dp_sames s ds _ h2)
end
theorem Dp.same {K : PySem.W.Frag} {H H' : Hp} (s : Same H H') {d : PyData} {v : V} (h : Dp K H v d) : Dp K H' v d := dp_same s d v h
theorem DpAll.same {K : PySem.W.Frag} {H H' : Hp} (s : Same H H') {ds : List PyData} {vs : List V} (h : DpAll K H vs ds) : DpAll K H' vs ds := dp_sames s ds vs h
/-! no list in it -/
mutual
def noList : PyData → Bool
  | .list _ => false
  | .tuple ds => noLists ds
  | _ => true
def noLists : List PyData → Bool
  | [] => true
  | d :: ds => noList d && noLists ds
end
mutual
theorem dp_kp {K : PySem.W.Frag} {ex : List Addr} {H H' : Hp} (k : Kp ex H H') (l : Lists ex H) : ∀ (d : PyData) (v : V), noList d = true → Dp K H v d → Dp K H' v d
  | .none, _, _, h => by cases h; exact .non
  | .bool _, _, _, h => by cases h; exact .bl _
  | .int _, _, _, h => by cases h; exact .int _
  | .str _, _, _, h => by cases h; exact .str _
  | .list ds, _, n, h => by simp [noList] at n
  | .tuple ds, _, n, h => by
    cases h with
    | tup h a => exact .tup (k.sqT l h) (dp_kps k l ds _ (by simpa [noList] using n) a)
  | .dict _, _, _, h => by cases h
theorem dp_kps {K : PySem.W.Frag} {ex : List Addr} {H H' : Hp} (k : Kp ex H H') (l : Lists ex H) : ∀ (ds : List PyData) (vs : List V), noLists ds = true → DpAll K H vs ds → DpAll K H' vs ds
  | [], _, _, h => by cases h; exact .nil
  | d :: ds, _, n, h => by
    simp only [noLists, Bool.and_eq_true] at n
    cases h with
    | cons h1 h2 => exact .cons (dp_kp k l d _ n.1 h1) (dp_kps k l ds _ n.2 h2)
end
theorem dpAll_length {K : PySem.W.Frag} {H : Hp} : ∀ {vs : List V} {ds : List PyData}, DpAll K H vs ds → vs.length = ds.length
  | _, _, .nil => rfl
  | _, _, .cons _ t => by rw [List.length_cons, List.length_cons, dpAll_length t]
theorem dpAll_get {K : PySem.W.Frag} {H : Hp} : ∀ {vs : List V} {ds : List PyData} {i : Nat} {v : V}, DpAll K H vs ds → vs[i]? = some v → ∃ d, ds[i]? = some d ∧ Dp K H v d
  | _, _, _, _, .nil, e => by simp at e
  | _, _, 0, _, .cons r _, e => by
    simp at e
    subst e
    exact ⟨_, rfl, r⟩
  | _, _, i + 1, _, .cons _ t, e => by
    obtain ⟨d, h1, h2⟩ := dpAll_get (i := i) t (by simpa using e)
    exact ⟨d, by simpa using h1, h2⟩
theorem dpAll_getD {K : PySem.W.Frag} {H : Hp} : ∀ {vs : List V} {ds : List PyData} {i : Nat} {d : PyData}, DpAll K H vs ds → ds[i]? = some d → ∃ v, vs[i]? = some v ∧ Dp K H v d
  | _, _, _, _, .nil, e => by simp at e
  | _, _, 0, _, .cons r _, e => by
    simp at e
    subst e
    exact ⟨_, rfl, r⟩
  | _, _, i + 1, _, .cons _ t, e => by
    obtain ⟨d, h1, h2⟩ := dpAll_getD (i := i) t (by simpa using e)
    exact ⟨d, by simpa using h1, h2⟩
/-! ### isinstance of data -/
def tyD : PyData → String
  | .none => "NoneType"
  | .bool _ => "bool"
  | .int _ => "int"
  | .str _ => "str"
  | .list _ => "list"
  | .tuple _ => "tuple"
  | .dict _ => "dict"
theorem isi_dp {K : PySem.W.Frag} {H : Hp} {v : V} {d : PyData} (h : Dp K H v d) : TyX K H v (.type (tyD d)) := by
  cases h with
  | non => exact .base .non
  | bl b => exact .base (.bl b)
  | int i => exact .base (.int i)
  | str x => exact .base (.str x)
  | lst h _ =>
    rcases h with (h | ⟨o, h⟩) | ⟨o, _, _, e, c, _⟩
    · exact .base (.lst h)
    · exact .base (.frz h)
    · exact .kList e c
  | tup h _ => exact isi_tuple h
def isTup : PyData → Bool
  | .tuple _ => true
  | _ => false
def isIntB : PyData → Bool
  | .int _ => true
  | .bool _ => true
  | _ => false
def isBl : PyData → Bool
  | .bool _ => true
  | _ => false
def isNum : PyData → Bool
  | .int _ => true
  | _ => false
theorem kit_tup {K : PySem.W.Frag} (d : PyData) : PySem.W.kitOne K (.type (tyD d)) (.type "tuple") = some (isTup d) := by
  cases d with
  | none => exact kit_ty (show kitB "NoneType" "tuple" = some false by decide +kernel)
  | bool b => exact kit_ty (show kitB "bool" "tuple" = some false by decide +kernel)
  | int i => exact kit_ty (show kitB "int" "tuple" = some false by decide +kernel)
  | str z => exact kit_ty (show kitB "str" "tuple" = some false by decide +kernel)
  | list l => exact kit_ty (show kitB "list" "tuple" = some false by decide +kernel)
  | tuple l => exact kit_ty (show kitB "tuple" "tuple" = some true by decide +kernel)
  | dict l => exact kit_ty (show kitB "dict" "tuple" = some false by decide +kernel)
theorem kit_int {K : PySem.W.Frag} (d : PyData) : PySem.W.kitOne K (.type (tyD d)) (.type "int") = some (isIntB d) := by
  cases d with
  | none => exact kit_ty (show kitB "NoneType" "int" = some false by decide +kernel)
  | bool b => exact kit_ty (show kitB "bool" "int" = some true by decide +kernel)
  | int i => exact kit_ty (show kitB "int" "int" = some true by decide +kernel)
  | str z => exact kit_ty (show kitB "str" "int" = some false by decide +kernel)
  | list l => exact kit_ty (show kitB "list" "int" = some false by decide +kernel)
  | tuple l => exact kit_ty (show kitB "tuple" "int" = some false by decide +kernel)
  | dict l => exact kit_ty (show kitB "dict" "int" = some false by decide +kernel)
theorem kit_bool {K : PySem.W.Frag} (d : PyData) : PySem.W.kitOne K (.type (tyD d)) (.type "bool") = some (isBl d) := by
  cases d with
  | none => exact kit_ty (show kitB "NoneType" "bool" = some false by decide +kernel)
  | bool b => exact kit_ty (show kitB "bool" "bool" = some true by decide +kernel)
  | int i => exact kit_ty (show kitB "int" "bool" = some false by decide +kernel)
  | str z => exact kit_ty (show kitB "str" "bool" = some false by decide +kernel)
  | list l => exact kit_ty (show kitB "list" "bool" = some false by decide +kernel)
  | tuple l => exact kit_ty (show kitB "tuple" "bool" = some false by decide +kernel)
  | dict l => exact kit_ty (show kitB "dict" "bool" = some false by decide +kernel)
theorem isTup_not {d : PyData} (h : isTup d = false) : ∀ ds, d ≠ .tuple ds := by
  intro ds z
  subst z
  cases h
theorem isTup_is {d : PyData} (h : isTup d = true) : ∃ ds, d = .tuple ds := by
  cases d with
  | tuple ds => exact ⟨ds, rfl⟩
  | _ => cases h
theorem isNum_is {d : PyData} (h : isNum d = true) : ∃ i, d = .int i := by
  cases d with
  | int i => exact ⟨i, rfl⟩
  | _ => cases h
theorem dp_int {K : PySem.W.Frag} {H : Hp} {v : V} {i : Int} (h : Dp K H v (.int i)) : v = .int i := by cases h; rfl
theorem dp_tup {K : PySem.W.Frag} {H : Hp} {v : V} {ds : List PyData} (h : Dp K H v (.tuple ds)) : ∃ a xs, v = .ref a ∧ SqT K H a xs ∧ DpAll K H xs ds := by
  cases h with
  | tup h1 h2 => exact ⟨_, _, rfl, h1, h2⟩
/-! ### numbers, places, lots -/
def numOf : PyData → Int
  | .int i => i
  | _ => 0
def numIn (lo hi : Int) (d : PyData) : Bool := isNum d && (decide (lo ≤ numOf d) && decide (numOf d ≤ hi))
theorem numIn_is {lo hi : Int} {d : PyData} (h : numIn lo hi d = true) : ∃ i, d = .int i ∧ lo ≤ i ∧ i ≤ hi := by
  unfold numIn at h
  simp only [Bool.and_eq_true, decide_eq_true_eq] at h
  obtain ⟨i, rfl⟩ := isNum_is h.1
  exact ⟨i, rfl, h.2.1, h.2.2⟩
theorem numIn_int {lo hi i : Int} : numIn lo hi (.int i) = true ↔ lo ≤ i ∧ i ≤ hi := by
  unfold numIn
  simp only [isNum, numOf, Bool.true_and, Bool.and_eq_true]
  exact ⟨fun h => ⟨of_decide_eq_true h.1, of_decide_eq_true h.2⟩, fun h => ⟨decide_eq_true h.1, decide_eq_true h.2⟩⟩
def nD (n : Nat) : PyData := .int (n : Int)
theorem numIn_nat {lo hi : Int} {n : Nat} : numIn lo hi (nD n) = true ↔ lo ≤ (n : Int) ∧ (n : Int) ≤ hi := numIn_int
theorem dp_nat {K : PySem.W.Frag} {H : Hp} (n : Nat) : Dp K H (vN n) (nD n) := .int _
theorem dp_nats {K : PySem.W.Frag} {H : Hp} : ∀ (ws : List Nat), DpAll K H (ws.map vN) (ws.map nD)
  | [] => .nil
  | _ :: ws => .cons (dp_nat _) (dp_nats ws)
theorem nats_dp {K : PySem.W.Frag} {H : Hp} : ∀ {ws : List Nat} {xs : List V}, DpAll K H xs (ws.map nD) → xs = ws.map vN
  | [], _, h => by cases h; rfl
  | w :: ws, _, h => by
    cases h with
    | cons h1 h2 =>
      have := nats_dp (ws := ws) h2
      subst this
      cases h1
      rfl
def lotD (ws : List Nat) : PyData := .tuple (ws.map nD)
theorem dp_lot {K : PySem.W.Frag} {H : Hp} {a : Addr} {ws : List Nat} (h : SqT K H a (ws.map vN)) : Dp K H (.ref a) (lotD ws) := .tup h (dp_nats ws)
theorem lot_dp {K : PySem.W.Frag} {H : Hp} {v : V} {ws : List Nat} (h : Dp K H v (lotD ws)) : ∃ a, v = .ref a ∧ SqT K H a (ws.map vN) := by
  obtain ⟨a, xs, rfl, h1, h2⟩ := dp_tup h
  rw [nats_dp h2] at h1
  exact ⟨a, rfl, h1⟩
/-- the first that is no place or not above the one before it -/
def badPlace (n : Nat) : Int → Nat → List PyData → Option Nat
  | _, _, [] => none
  | b, i, d :: ds => if numIn (b + 1) ((n : Int) - 1) d = true then badPlace n (numOf d) (i + 1) ds else some i
theorem badPlace_ok {n : Nat} : ∀ {ws : List Nat} {b : Int} {i : Nat}, ws.Pairwise (· < ·) → (∀ x ∈ ws, x < n) → (∀ x ∈ ws, b < (x : Int)) → badPlace n b i (ws.map nD) = none
  | [], _, _, _, _, _ => rfl
  | w :: ws, b, i, up, lt, ab => by
    have h1 := lt w List.mem_cons_self
    have h2 := ab w List.mem_cons_self
    show (if numIn (b + 1) ((n : Int) - 1) (nD w) = true then badPlace n (numOf (nD w)) (i + 1) (ws.map nD) else some i) = none
    rw [if_pos (numIn_nat.mpr ⟨by omega, by omega⟩)]
    obtain ⟨u1, u2⟩ := List.pairwise_cons.mp up
    exact badPlace_ok u2 (fun x hx => lt x (List.mem_cons_of_mem _ hx)) fun x hx => by
      have := u1 x hx
      show (w : Int) < x
      omega
theorem badPlace_none {n : Nat} : ∀ {ds : List PyData} {b : Int} {i : Nat}, -1 ≤ b → badPlace n b i ds = none → ∃ ws : List Nat, ds = ws.map nD ∧ ws.Pairwise (· < ·) ∧ (∀ x ∈ ws, x < n) ∧ ∀ x ∈ ws, b < (x : Int)
  | [], _, _, _, _ => ⟨[], rfl, List.Pairwise.nil, (fun _ h => nomatch h), (fun _ h => nomatch h)⟩
  | d :: ds, b, i, hb, h => by
    unfold badPlace at h
    by_cases c : numIn (b + 1) ((n : Int) - 1) d = true
    · rw [if_pos c] at h
      obtain ⟨x, rfl, l1, l2⟩ := numIn_is c
      obtain ⟨ws, rfl, up, lt, ab⟩ := badPlace_none (b := x) (by omega) h
      refine ⟨x.toNat :: ws, ?_, List.pairwise_cons.mpr ⟨fun y hy => ?_, up⟩, fun y hy => ?_, fun y hy => ?_⟩
      · have : (x.toNat : Int) = x := by omega
        simp only [List.map_cons, nD]
        rw [this]
      · have := ab y hy
        omega
      · rcases List.mem_cons.mp hy with rfl | hy
        · omega
        · exact lt y hy
      · rcases List.mem_cons.mp hy with rfl | hy
        · omega
        · have := ab y hy
          omega
    · rw [if_neg c] at h
      cases h
def lotOk (n : Nat) : PyData → Bool
  | .tuple ds => (badPlace n (-1) 0 ds).isNone
  | _ => false
theorem lotOk_lot {n : Nat} {ws : List Nat} (up : ws.Pairwise (· < ·)) (lt : ∀ x ∈ ws, x < n) : lotOk n (lotD ws) = true := by
  unfold lotOk lotD
  simp only []
  rw [badPlace_ok up lt (fun x _ => by omega)]
  rfl
theorem lotOk_is {n : Nat} {d : PyData} (h : lotOk n d = true) : ∃ ws, d = lotD ws ∧ ws.Pairwise (· < ·) ∧ ∀ x ∈ ws, x < n := by
  cases d with
  | tuple ds =>
    unfold lotOk at h
    simp only [Option.isNone_iff_eq_none] at h
    obtain ⟨ws, rfl, up, lt, _⟩ := badPlace_none (by omega) h
    exact ⟨ws, rfl, up, lt⟩
  | _ => cases h
def optI : Option Nat → Option Int
  | none => none
  | some i => some (i : Int)
theorem optI_none {o : Option Nat} (h : optI o = none) : o = none := by
  cases o with
  | none => rfl
  | some i => cases h
/-! ### roads -/
def pairD (p : Nat × Nat) : PyData := .tuple [nD p.1, nD p.2]
def pairOf (n : Nat) : PyData → Option (Nat × Nat)
  | .tuple [a, b] => if (numIn 0 ((n : Int) - 1) a && numIn 0 ((n : Int) - 1) b) = true then some ((numOf a).toNat, (numOf b).toNat) else none
  | _ => none
theorem pairOf_pair {n : Nat} {p : Nat × Nat} (h : p.1 < n ∧ p.2 < n) : pairOf n (pairD p) = some p := by
  unfold pairOf pairD
  simp only []
  rw [if_pos]
  · rfl
  · rw [Bool.and_eq_true, numIn_nat, numIn_nat]
    omega
theorem pairOf_is {n : Nat} {d : PyData} {p : Nat × Nat} (h : pairOf n d = some p) : d = pairD p ∧ p.1 < n ∧ p.2 < n := by
  unfold pairOf at h
  split at h
  · rename_i a b
    split at h
    · rename_i c
      rw [Bool.and_eq_true] at c
      obtain ⟨i, rfl, i1, i2⟩ := numIn_is c.1
      obtain ⟨j, rfl, j1, j2⟩ := numIn_is c.2
      cases h
      refine ⟨?_, ?_, ?_⟩
      · unfold pairD nD
        simp only [numOf]
        rw [show ((i.toNat : Nat) : Int) = i by omega, show ((j.toNat : Nat) : Int) = j by omega]
      · simp only [numOf]
        omega
      · simp only [numOf]
        omega
    · cases h
  · cases h
instance (p q : Nat × Nat) : Decidable (ltP p q) := by unfold ltP; exact inferInstance
def above (p : Option (Nat × Nat)) (q : Nat × Nat) : Bool := match p with
  | none => true
  | some p => decide (ltP p q)
def badRoad (n : Nat) : Option (Nat × Nat) → Nat → List PyData → Option Nat
  | _, _, [] => none
  | p, i, d :: ds => match pairOf n d with
    | none => some i
    | some q => if above p q = true then badRoad n (some q) (i + 1) ds else some i
theorem badRoad_ok {n : Nat} : ∀ {ps : List (Nat × Nat)} {p : Option (Nat × Nat)} {i : Nat}, ps.Pairwise ltP → (∀ q ∈ ps, q.1 < n ∧ q.2 < n) → (∀ q ∈ ps, above p q = true) → badRoad n p i (ps.map pairD) = none
  | [], _, _, _, _, _ => rfl
  | q :: ps, p, i, up, lt, ab => by
    obtain ⟨u1, u2⟩ := List.pairwise_cons.mp up
    show (match pairOf n (pairD q) with
      | none => some i
      | some q => if above p q = true then badRoad n (some q) (i + 1) (ps.map pairD) else some i) = none
    rw [pairOf_pair (lt q List.mem_cons_self)]
    simp only []
    rw [if_pos (ab q List.mem_cons_self)]
    exact badRoad_ok u2 (fun x hx => lt x (List.mem_cons_of_mem _ hx)) fun x hx => decide_eq_true (u1 x hx)
theorem ltP_trans {a b c : Nat × Nat} (h1 : ltP a b) (h2 : ltP b c) : ltP a c := by
  unfold ltP at *
  omega
theorem badRoad_none {n : Nat} : ∀ {ds : List PyData} {p : Option (Nat × Nat)} {i : Nat}, badRoad n p i ds = none → ∃ ps : List (Nat × Nat), ds = ps.map pairD ∧ ps.Pairwise ltP ∧ (∀ q ∈ ps, q.1 < n ∧ q.2 < n) ∧ ∀ q ∈ ps, above p q = true
  | [], _, _, _ => ⟨[], rfl, List.Pairwise.nil, (fun _ h => nomatch h), (fun _ h => nomatch h)⟩
  | d :: ds, p, i, h => by
    unfold badRoad at h
    cases e : pairOf n d with
    | none => rw [e] at h; cases h
    | some q =>
      rw [e] at h
      simp only [] at h
      obtain ⟨e1, e2⟩ := pairOf_is e
      subst e1
      by_cases c : above p q = true
      · rw [if_pos c] at h
        obtain ⟨ps, rfl, up, lt, ab⟩ := badRoad_none h
        have ab' : ∀ x ∈ ps, ltP q x := fun x hx => of_decide_eq_true (ab x hx)
        refine ⟨q :: ps, rfl, List.pairwise_cons.mpr ⟨ab', up⟩, fun x hx => ?_, fun x hx => ?_⟩
        · rcases List.mem_cons.mp hx with rfl | hx
          · exact e2
          · exact lt x hx
        · rcases List.mem_cons.mp hx with rfl | hx
          · exact c
          · cases p with
            | none => rfl
            | some p => exact decide_eq_true (ltP_trans (of_decide_eq_true c) (ab' x hx))
      · rw [if_neg c] at h
        cases h
def roadsErr (n : Nat) : PyData → Option Int
  | .tuple ds => if ds.length ≤ 240 then optI (badRoad n none 0 ds) else some (-3)
  | _ => some (-3)
/-! ### maps -/
def chartD (C : Chart) : PyData := .tuple [nD C.n, .tuple (C.roads.map pairD), lotD C.wished]
def wishErr (n : Nat) : PyData → Option Int
  | .tuple ds => optI (badPlace n (-1) 0 ds)
  | _ => some (-1)
def mapErr3 (p r w : PyData) : Option (Str × Int) :=
  if numIn 0 60 p = true then
    match roadsErr (numOf p).toNat r with
    | some i => some ("BadMap", i)
    | none => (wishErr (numOf p).toNat w).map fun i => ("BadWish", i)
  else some ("BadMap", -2)
def mapErr : PyData → Option (Str × Int)
  | .tuple [p, r, w] => mapErr3 p r w
  | _ => some ("BadMap", -1)
theorem mapErr_chart {C : Chart} (ok : C.Ok) : mapErr (chartD C) = none := by
  have n60 := ok.n60
  unfold chartD mapErr mapErr3
  simp only []
  rw [if_pos (by rw [numIn_nat]; omega)]
  have e : (numOf (nD C.n)).toNat = C.n := by simp [nD, numOf]
  rw [e]
  have e1 : roadsErr C.n (.tuple (C.roads.map pairD)) = none := by
    unfold roadsErr
    simp only []
    rw [if_pos (by rw [List.length_map]; exact ok.many), badRoad_ok ok.upR ok.inR (fun _ _ => rfl)]
    rfl
  have e2 : wishErr C.n (lotD C.wished) = none := by
    unfold wishErr lotD
    simp only []
    rw [badPlace_ok ok.upW ok.inW (fun _ _ => by omega)]
    rfl
  rw [e1, e2]
  rfl
theorem mapErr3_none {p r w : PyData} (h : mapErr3 p r w = none) : ∃ C : Chart, C.Ok ∧ p = nD C.n ∧ r = .tuple (C.roads.map pairD) ∧ w = lotD C.wished := by
  unfold mapErr3 at h
  split at h
  · rename_i c
    obtain ⟨i, rfl, i1, i2⟩ := numIn_is c
    have ei : ((numOf (PyData.int i)).toNat : Int) = i := by simp only [numOf]; omega
    cases e : roadsErr (numOf (.int i)).toNat r with
    | some j => rw [e] at h; cases h
    | none =>
      rw [e] at h
      simp only [Option.map_eq_none_iff] at h
      cases r with
      | tuple rs =>
        unfold roadsErr at e
        simp only [] at e
        split at e
        · rename_i l
          have e := optI_none e
          obtain ⟨ps, rfl, up, lt, _⟩ := badRoad_none e
          cases w with
          | tuple ws =>
            unfold wishErr at h
            have h := optI_none h
            obtain ⟨vs, rfl, upv, ltv, _⟩ := badPlace_none (by omega) h
            refine ⟨⟨(numOf (.int i)).toNat, ps, vs⟩, ⟨?_, ?_, lt, up, ltv, upv⟩, ?_, rfl, rfl⟩
            · show (numOf (.int i)).toNat ≤ 60
              omega
            · rw [List.length_map] at l
              exact l
            · show PyData.int i = .int ((numOf (.int i)).toNat : Int)
              rw [ei]
          | _ => cases h
        · cases e
      | _ => cases e
  · cases h
theorem mapErr_none {d : PyData} (h : mapErr d = none) : ∃ C : Chart, C.Ok ∧ d = chartD C := by
  unfold mapErr at h
  split at h
  · obtain ⟨C, ok, rfl, rfl, rfl⟩ := mapErr3_none h
    exact ⟨C, ok, rfl⟩
  · cases h
theorem dp_pairs {K : PySem.W.Frag} {H : Hp} : ∀ {ts : List Addr} {ps : List (Nat × Nat)}, PairsAt K H ts ps → DpAll K H (ts.map V.ref) (ps.map pairD)
  | _, _, .nil => .nil
  | _, _, .cons r t => .cons (.tup r (.cons (dp_nat _) (.cons (dp_nat _) .nil))) (dp_pairs t)
theorem pairs_dp {K : PySem.W.Frag} {H : Hp} : ∀ {ps : List (Nat × Nat)} {xs : List V}, DpAll K H xs (ps.map pairD) → ∃ ts, xs = ts.map V.ref ∧ PairsAt K H ts ps
  | [], _, h => by cases h; exact ⟨[], rfl, .nil⟩
  | p :: ps, _, h => by
    cases h with
    | cons h1 h2 =>
      obtain ⟨ts, rfl, q⟩ := pairs_dp (ps := ps) h2
      obtain ⟨a, xs, rfl, hs, ha⟩ := dp_tup h1
      have e : xs = [p.1, p.2].map vN := nats_dp (ws := [p.1, p.2]) ha
      subst e
      exact ⟨a :: ts, rfl, .cons hs q⟩
theorem dp_chart {K : PySem.W.Frag} {H : Hp} {c : Addr} {C : Chart} (h : IsChart K H c C) : Dp K H (.ref c) (chartD C) := by
  obtain ⟨r, w, ts, q⟩ := h
  exact .tup q.top (.cons (dp_nat _) (.cons (.tup q.row (dp_pairs q.prs)) (.cons (dp_lot q.wis) .nil)))
theorem chart_dp {K : PySem.W.Frag} {H : Hp} {v : V} {C : Chart} (h : Dp K H v (chartD C)) : ∃ c, v = .ref c ∧ IsChart K H c C := by
  obtain ⟨c, xs, rfl, hs, ha⟩ := dp_tup h
  cases ha with
  | cons h1 ha =>
    cases ha with
    | cons h2 ha =>
      cases ha with
      | cons h3 ha =>
        cases ha
        cases h1
        obtain ⟨r, ys, rfl, hr, har⟩ := dp_tup h2
        obtain ⟨w, rfl, hw⟩ := lot_dp h3
        obtain ⟨ts, rfl, pr⟩ := pairs_dp har
        exact ⟨c, rfl, r, w, ts, hs, hr, pr, hw⟩
/-! ### standings -/
/-- the first that is no place -/
def noPlace (n : Nat) : Nat → List PyData → Option Nat
  | _, [] => none
  | i, d :: ds => if numIn 0 ((n : Int) - 1) d = true then noPlace n (i + 1) ds else some i
def standErr (n : Nat) : PyData → Option Int
  | .tuple ds => if 1 ≤ ds.length ∧ ds.length ≤ 3 then optI (noPlace n 0 ds) else some (-1)
  | _ => some (-1)
theorem noPlace_ok {n : Nat} : ∀ {ws : List Nat} {i : Nat}, (∀ x ∈ ws, x < n) → noPlace n i (ws.map nD) = none
  | [], _, _ => rfl
  | w :: ws, i, lt => by
    have h1 := lt w List.mem_cons_self
    show (if numIn 0 ((n : Int) - 1) (nD w) = true then noPlace n (i + 1) (ws.map nD) else some i) = none
    rw [if_pos (numIn_nat.mpr ⟨by omega, by omega⟩)]
    exact noPlace_ok fun x hx => lt x (List.mem_cons_of_mem _ hx)
theorem noPlace_none {n : Nat} : ∀ {ds : List PyData} {i : Nat}, noPlace n i ds = none → ∃ ws : List Nat, ds = ws.map nD ∧ ∀ x ∈ ws, x < n
  | [], _, _ => ⟨[], rfl, (fun _ h => nomatch h)⟩
  | d :: ds, i, h => by
    unfold noPlace at h
    by_cases c : numIn 0 ((n : Int) - 1) d = true
    · rw [if_pos c] at h
      obtain ⟨x, rfl, l1, l2⟩ := numIn_is c
      obtain ⟨ws, rfl, lt⟩ := noPlace_none h
      refine ⟨x.toNat :: ws, ?_, fun y hy => ?_⟩
      · have : (x.toNat : Int) = x := by omega
        simp only [List.map_cons, nD]
        rw [this]
      · rcases List.mem_cons.mp hy with rfl | hy
        · omega
        · exact lt y hy
    · rw [if_neg c] at h
      cases h
theorem standErr_ok {n : Nat} {S : List Nat} (lt : ∀ x ∈ S, x < n) (l1 : 1 ≤ S.length) (l3 : S.length ≤ 3) : standErr n (lotD S) = none := by
  unfold standErr lotD
  simp only []
  rw [if_pos (by rw [List.length_map]; exact ⟨l1, l3⟩), noPlace_ok lt]
  rfl
theorem standErr_none {n : Nat} {d : PyData} (h : standErr n d = none) : ∃ S : List Nat, d = lotD S ∧ (∀ x ∈ S, x < n) ∧ 1 ≤ S.length ∧ S.length ≤ 3 := by
  cases d with
  | tuple ds =>
    unfold standErr at h
    simp only [] at h
    split at h
    · rename_i c
      have h := optI_none h
      obtain ⟨ws, rfl, lt⟩ := noPlace_none h
      rw [List.length_map] at c
      exact ⟨ws, rfl, lt, c.1, c.2⟩
    · cases h
  | _ => cases h
end Ft

set_option Elab.async false
set_option linter.all false
set_option maxRecDepth 100000
set_option maxHeartbeats 4000000
namespace Ft
open PySem PySem.Spec PyProof.Rows L2
theorem Er.g {P : Program} {w : World} {K : PySem.W.Frag} {mg : Str → Option Value} {base : Heap} {ca : Str → Addr} {x : Str} (e : Er P w K mg base ca x) : mg x = some (.ref (ca x)) := let ⟨_, _, h, _⟩ := e.ex; h.g
/-- the errors of a class keep what they were made with -/
structure WhatC (K : PySem.W.Frag) (C : Addr) : Prop where
  xf : XfC K C
  no : PySem.W.findIn K (.ref C) "what" = some none
theorem Er.w {P : Program} {w : World} {K : PySem.W.Frag} {mg : Str → Option Value} {base : Heap} {ca : Str → Addr} {x : Str} (e : Er P w K mg base ca x) : WhatC K (ca x) := let ⟨_, _, h, _⟩ := e.ex; ⟨h.xf, h.noW⟩
/-- error.what, in the suite of a clause -/
def tWhat (K : PySem.W.Frag) (a : Addr) (cls : Value) (d : Option Addr) (te : TE) : TE := fun σ H Q => te σ H fun x H1 => x = .ref a ∧ ∃ (C dd : Addr) (v : V), cls = .ref C ∧ WhatC K C ∧ d = some dd ∧ H1 dd = some (.xd [("what", v)]) ∧ Q v H1
theorem pe_what {X : Cx} {a : Addr} {oe : Obj} {cls : Value} {d : Option Addr} {pn : List (Addr × Obj)} {e : Expr} {te : TE} {pos : Pos}
    (hz : Zc cls d oe) (hf : ∃ vs, oe.data = .fields vs) (he : PE (X.suite a ((a, oe) :: pn)) e te) (hb : attributeBase e "what" X.env (eval e X.env) = eval e X.env := by rfl) :
    PE (X.suite a ((a, oe) :: pn)) (.Attribute e "what" pos) (tWhat X.K a cls d te) := by
  refine ⟨fun pins s σ H Q I h => ?_⟩
  have he2 : PE (X.suite a ((a, oe) :: pn)) e (fun σ H Q => ∃ M : V → Hp → Prop, te σ H M ∧ ∀ v H', M v H' → Q v H') := ⟨fun pins s σ H Q I ⟨M, hm, hu⟩ => thn (he.run pins s σ H M I hm) fun u s1 ⟨v, H1, I1, r, m⟩ => ⟨v, H1, I1, r, hu v H1 m⟩⟩
  refine attr_of hb (thn (he2.run pins s σ H (fun x H1 => x = .ref a ∧ ∃ (C dd : Addr) (v : V), cls = .ref C ∧ WhatC X.K C ∧ d = some dd ∧ H1 dd = some (.xd [("what", v)]) ∧ Q v H1) I ⟨_, h, fun _ _ z => z⟩) fun u s1 hh => ?_)
  obtain ⟨x, H1, I1, rx, ex, C, dd, v, ec, T, ed, ea, q⟩ := hh
  subst ex
  obtain rfl : u = Value.ref a := rx
  subst ec
  subst ed
  obtain ⟨ha, _⟩ := I1.pin (a, oe) (List.mem_append_left _ List.mem_cons_self)
  obtain ⟨vs, hd⟩ := hf
  have hx : ObjOk X.prog X.w H1 s1.heap dd (.xd [("what", v)]) := I1.hok dd _ ea
  obtain ⟨mA, hns, hr⟩ := hx
  obtain ⟨od, ho, hl⟩ := lookIn_ns hns
  have l : List.lookup ("what" : Str) [(("what" : Str), v)] = some v := by simp [List.lookup]
  obtain ⟨u, hu, ru⟩ := RelO.some_of (v := v) (o := mA "what") (by rw [← l]; exact hr "what")
  have J : PySem.W.InstAt s1.heap a oe C (some od) := ⟨ha, hz.1, by unfold PySem.W.notCls; rw [hd] <;> rfl, by rw [hz.2]; exact ho⟩
  exact HandSPX.exc_get I1.kIn J T.xf.ga T.xf.gg T.xf.exC (PySem.W.findObj_own T.xf.hdC T.no rfl (by rw [hl, hu])) (handed_of ru) ⟨v, H1, I1.tok _, ru, q⟩
/-- an error of the class c is one that «except d» names, or is not -/
def Exm (K : PySem.W.Frag) (ca : Str → Addr) (c d : Str) (b : Bool) : Prop := PySem.W.exmOne K (.ref (ca c)) (.ref (ca d)) = some b
/-- a module's number -/
def MgI (mg : Str → Option Value) (x : Str) (n : Int) : Prop := ∃ t, mg x = some (.int n t)
theorem pe_globI {X : Cx} {x : Str} {n : Int} {pos : Pos} (hg : Gl X x) (h : MgI X.mg x n) (hd : (x == ("__debug__" : Str)) = false := by decide) : PE X (.Name x pos) (tC (.int n)) := by
  obtain ⟨t, h⟩ := h
  exact pe_glob (v := .int n) hg h ⟨_, rfl⟩ hd
end Ft

set_option Elab.async false
set_option linter.all false
set_option maxRecDepth 100000
set_option maxHeartbeats 4000000
namespace Ft
open PySem PySem.Spec PyProof.Rows L2
def top (i : Nat) : Stmt := PySem.Challenge.pw_fewtraps_k04_pieces_of_maps.main.body.getD i (.Pass ⟨0, 0, 0, 0⟩)
abbrev s_made_map : Stmt := top 8
theorem sc_made_map : FnScope ["thing", "places", "roads", "wished", "index"] ["thing"] (L2.defScope s_made_map) := ⟨rfl, rfl, rfl, by decide +kernel, rfl, by decide +kernel, by decide +kernel⟩
abbrev s_is_number : Stmt := top 9
theorem sc_is_number : FnScope ["thing"] ["thing"] (L2.defScope s_is_number) := ⟨rfl, rfl, rfl, by decide +kernel, rfl, by decide +kernel, by decide +kernel⟩
abbrev s_number_within : Stmt := top 10
theorem sc_number_within : FnScope ["thing", "low", "high"] ["thing", "low", "high"] (L2.defScope s_number_within) := ⟨rfl, rfl, rfl, by decide +kernel, rfl, by decide +kernel, by decide +kernel⟩
abbrev s_first_bad_place : Stmt := top 11
theorem sc_first_bad_place : FnScope ["places", "items", "before", "index", "item"] ["places", "items"] (L2.defScope s_first_bad_place) := ⟨rfl, rfl, rfl, by decide +kernel, rfl, by decide +kernel, by decide +kernel⟩
abbrev s_check_roads : Stmt := top 12
theorem sc_check_roads : FnScope ["places", "roads", "index", "road"] ["places", "roads"] (L2.defScope s_check_roads) := ⟨rfl, rfl, rfl, by decide +kernel, rfl, by decide +kernel, by decide +kernel⟩
abbrev s_road_fits : Stmt := top 13
theorem sc_road_fits : FnScope ["places", "thing"] ["places", "thing"] (L2.defScope s_road_fits) := ⟨rfl, rfl, rfl, by decide +kernel, rfl, by decide +kernel, by decide +kernel⟩
abbrev s_place_fits : Stmt := top 14
theorem sc_place_fits : FnScope ["chart", "thing"] ["chart", "thing"] (L2.defScope s_place_fits) := ⟨rfl, rfl, rfl, by decide +kernel, rfl, by decide +kernel, by decide +kernel⟩
abbrev s_check_place : Stmt := top 15
theorem sc_check_place : FnScope ["chart", "thing"] ["chart", "thing"] (L2.defScope s_check_place) := ⟨rfl, rfl, rfl, by decide +kernel, rfl, by decide +kernel, by decide +kernel⟩
abbrev s_roads_from : Stmt := top 16
theorem sc_roads_from : FnScope ["chart", "targets", "a", "b", "_"] ["chart"] (L2.defScope s_roads_from) := ⟨rfl, rfl, rfl, by decide +kernel, rfl, by decide +kernel, by decide +kernel⟩
abbrev s_unwished_of : Stmt := top 17
theorem sc_unwished_of : FnScope ["chart", "wished", "place"] ["chart"] (L2.defScope s_unwished_of) := ⟨rfl, rfl, rfl, by decide +kernel, rfl, by decide +kernel, by decide +kernel⟩
abbrev s_reached : Stmt := top 19
theorem sc_reached : FnScope ["chart", "starts", "targets", "wished", "found", "waiting", "place", "target"] ["chart", "starts"] (L2.defScope s_reached) := ⟨rfl, rfl, rfl, by decide +kernel, rfl, by decide +kernel, by decide +kernel⟩
abbrev s_reached_unwished : Stmt := top 20
theorem sc_reached_unwished : FnScope ["chart", "starts", "wished", "place"] ["chart", "starts"] (L2.defScope s_reached_unwished) := ⟨rfl, rfl, rfl, by decide +kernel, rfl, by decide +kernel, by decide +kernel⟩
abbrev s_piece : Stmt := top 22
theorem sc_piece : FnScope ["chart", "a"] ["chart", "a"] (L2.defScope s_piece) := ⟨rfl, rfl, rfl, by decide +kernel, rfl, by decide +kernel, by decide +kernel⟩
abbrev s_pieces : Stmt := top 23
theorem sc_pieces : FnScope ["chart"] ["chart"] (L2.defScope s_pieces) := ⟨rfl, rfl, rfl, by decide +kernel, rfl, by decide +kernel, by decide +kernel⟩
abbrev s_piece_table : Stmt := top 24
theorem sc_piece_table : FnScope ["chart", "unwished", "comes_to", "table", "a", "b"] ["chart"] (L2.defScope s_piece_table) := ⟨rfl, rfl, rfl, by decide +kernel, rfl, by decide +kernel, by decide +kernel⟩
abbrev s_unwished_pieces : Stmt := top 25
theorem sc_unwished_pieces : FnScope ["chart", "table", "place"] ["chart", "table"] (L2.defScope s_unwished_pieces) := ⟨rfl, rfl, rfl, by decide +kernel, rfl, by decide +kernel, by decide +kernel⟩
abbrev s_law_pool : Stmt := top 27
theorem sc_law_pool : FnScope ["script", "first", "size"] ["script"] (L2.defScope s_law_pool) := ⟨rfl, rfl, rfl, by decide +kernel, rfl, by decide +kernel, by decide +kernel⟩
abbrev s_law_draw : Stmt := top 28
theorem sc_law_draw : FnScope ["pool", "many", "cell", "size", "found"] ["pool", "many"] (L2.defScope s_law_draw) := ⟨rfl, rfl, rfl, by decide +kernel, rfl, by decide +kernel, by decide +kernel⟩
abbrev s_law_pick : Stmt := top 29
theorem sc_law_pick : FnScope ["pool", "things"] ["pool", "things"] (L2.defScope s_law_pick) := ⟨rfl, rfl, rfl, by decide +kernel, rfl, by decide +kernel, by decide +kernel⟩
abbrev s_law_turned : Stmt := top 30
theorem sc_law_turned : FnScope ["pool", "many", "left", "found", "turn"] ["pool", "many"] (L2.defScope s_law_turned) := ⟨rfl, rfl, rfl, by decide +kernel, rfl, by decide +kernel, by decide +kernel⟩
abbrev s_law_map_named : Stmt := top 31
theorem sc_law_map_named : FnScope ["pool", "places", "roads", "wished", "names", "told", "a", "b"] ["pool", "places", "roads", "wished"] (L2.defScope s_law_map_named) := ⟨rfl, rfl, rfl, by decide +kernel, rfl, by decide +kernel, by decide +kernel⟩
abbrev s_law_map_some_wished : Stmt := top 32
theorem sc_law_map_some_wished : FnScope ["pool", "places", "roads", "way", "last", "a", "road"] ["pool", "places", "roads"] (L2.defScope s_law_map_some_wished) := ⟨rfl, rfl, rfl, by decide +kernel, rfl, by decide +kernel, by decide +kernel⟩
abbrev s_law_map_drawn : Stmt := top 33
theorem sc_law_map_drawn : FnScope ["pool", "most", "places", "way", "roads", "turn", "a", "b", "ahead", "size"] ["pool", "most"] (L2.defScope s_law_map_drawn) := ⟨rfl, rfl, rfl, by decide +kernel, rfl, by decide +kernel, by decide +kernel⟩
abbrev s_law_map_planted : Stmt := top 34
theorem sc_law_map_planted : FnScope ["pool", "ring", "ways", "behind", "places", "roads", "last", "way", "turn", "wished", "lot", "chart", "names", "told", "a"] ["pool", "ring", "ways", "behind"] (L2.defScope s_law_map_planted) := ⟨rfl, rfl, rfl, by decide +kernel, rfl, by decide +kernel, by decide +kernel⟩
abbrev s_law_map_met : Stmt := top 35
theorem sc_law_map_met : FnScope ["chart", "a", "found", "left", "turn", "ahead", "road", "b"] ["chart", "a"] (L2.defScope s_law_map_met) := ⟨rfl, rfl, rfl, by decide +kernel, rfl, by decide +kernel, by decide +kernel⟩
abbrev s_law_map_table : Stmt := top 36
theorem sc_law_map_table : FnScope ["chart", "a"] ["chart"] (L2.defScope s_law_map_table) := ⟨rfl, rfl, rfl, by decide +kernel, rfl, by decide +kernel, by decide +kernel⟩
abbrev s_law_map_piece : Stmt := top 37
theorem sc_law_map_piece : FnScope ["chart", "table", "a", "b"] ["chart", "table", "a"] (L2.defScope s_law_map_piece) := ⟨rfl, rfl, rfl, by decide +kernel, rfl, by decide +kernel, by decide +kernel⟩
abbrev s_law_map_pieces : Stmt := top 38
theorem sc_law_map_pieces : FnScope ["chart", "table", "lots", "a"] ["chart", "table"] (L2.defScope s_law_map_pieces) := ⟨rfl, rfl, rfl, by decide +kernel, rfl, by decide +kernel, by decide +kernel⟩
abbrev s_law_parted : Stmt := top 39
theorem sc_law_parted : FnScope ["pool", "chart", "table", "turn", "a"] ["pool", "chart"] (L2.defScope s_law_parted) := ⟨rfl, rfl, rfl, by decide +kernel, rfl, by decide +kernel, by decide +kernel⟩
abbrev s_law : Stmt := top 40
theorem sc_law : FnScope ["script", "roads", "pool", "size", "chart", "ring", "waists", "last", "lots", "gone", "cut", "alone", "a"] ["script"] (L2.defScope s_law) := ⟨rfl, rfl, rfl, by decide +kernel, rfl, by decide +kernel, by decide +kernel⟩
abbrev s_init : Stmt := L2.inClass (top 1) 0
theorem sc_init : FnScope ["self", "what"] ["self", "what"] (L2.defScope s_init) := ⟨rfl, rfl, rfl, by decide +kernel, rfl, by decide +kernel, by decide +kernel⟩
end Ft

set_option Elab.async false
set_option linter.all false
set_option maxRecDepth 100000
set_option maxHeartbeats 4000000
namespace Ft
open PySem PySem.Spec PyProof.Rows L2
section
variable {P : Program} {w : World} {K : PySem.W.Frag} {mg : Str → Option Value} {base : Heap} {ca : Str → Addr}
/-! ### is_number, number_within, of data -/
def sp_is_number (K : PySem.W.Frag) : Sp := fun vs H Q _ => ∃ (v : V) (d : PyData), vs = [v] ∧ Dp K H v d ∧ Q (.bl (isNum d)) H
theorem cal_is_number (T : Txt mg) (D : Def K mg "is_number" s_is_number) : Cal P w K mg base 1 "is_number" (sp_is_number K) := by
  refine cal_of D sc_is_number (fun _ _ _ _ _ _ us hl => match us, hl with | [_], _ => rfl) (fun vs H Q E h => ?_) (fun f cdv A outer s H vs Q E hr h => ?_)
  · obtain ⟨v, d, rfl, _⟩ := h
    rfl
  · obtain ⟨v, d, rfl, hd, q⟩ := h
    refine ⟨_, (pss_one (ps_ret (pe_and (pe_callB (show CallR _ _ (rIsi K) from call_isi) (by rfl) T.isinstance (by decide +kernel) (pa_cons (pv 0) (pa_cons (pe_bltn (v := .ty "int") (u := .type "int") (by rfl) T.int (by decide +kernel) rfl) pa_nil))) (pe_one (pe_not (pe_callB (show CallR _ _ (rIsi K) from call_isi) (by rfl) T.isinstance (by decide +kernel) (pa_cons (pv 0) (pa_cons (pe_bltn (v := .ty "bool") (u := .type "bool") (by rfl) T.bool (by decide +kernel) rfl) pa_nil)))))))), ?_⟩
    refine ⟨_, rfl, _, _, _, _, isIntB d, rfl, .ty "int", isi_dp hd, kit_int d, isIntB d, rfl, ?_⟩
    cases e : isIntB d with
    | false =>
      have : isNum d = false := by cases d <;> first | rfl | cases e
      rw [this] at q
      exact iteF q
    | true =>
      refine iteT ?_
      refine ⟨_, rfl, _, _, _, _, isBl d, rfl, .ty "bool", isi_dp hd, kit_bool d, isBl d, rfl, ?_⟩
      have : isNum d = !isBl d := by cases d <;> first | rfl | cases e
      rw [this] at q
      exact q
def sp_number_within (K : PySem.W.Frag) : Sp := fun vs H Q _ => ∃ (v : V) (d : PyData) (lo hi : Int), vs = [v, .int lo, .int hi] ∧ Dp K H v d ∧ Q (.bl (numIn lo hi d)) H
theorem cal_number_within (T : Txt mg) (D : Def K mg "number_within" s_number_within) (c_is_number : Cal P w K mg base 1 "is_number" (sp_is_number K)) : Cal P w K mg base 2 "number_within" (sp_number_within K) := by
  refine cal_of D sc_number_within (fun _ _ _ _ _ _ us hl => match us, hl with | [_, _, _], _ => rfl) (fun vs H Q E h => ?_) (fun f cdv A outer s H vs Q E hr h => ?_)
  · obtain ⟨v, d, lo, hi, rfl, _⟩ := h
    rfl
  · obtain ⟨v, d, lo, hi, rfl, hd, q⟩ := h
    refine ⟨_, (pss_one (ps_ret (pe_and (pe_c c_is_number hr (by decide) (by rfl) (pa_cons (pv 0) pa_nil)) (pe_one (pe_chain op_le op_le (pv 1) (pv 0) (pv 2)))))), ?_⟩
    refine ⟨_, rfl, v, d, rfl, hd, isNum d, rfl, ?_⟩
    cases e : isNum d with
    | false =>
      have : numIn lo hi d = false := by unfold numIn; rw [e]; rfl
      rw [this] at q
      exact iteF q
    | true =>
      refine iteT ?_
      obtain ⟨i, rfl⟩ := isNum_is e
      cases dp_int hd
      have e2 : numIn lo hi (.int i) = (decide (lo ≤ i) && decide (i ≤ hi)) := by unfold numIn; rw [e]; rfl
      rw [e2] at q
      refine ⟨_, rfl, _, rfl, _, _, rfl, rfl, _, rfl, ?_⟩
      by_cases h1 : lo ≤ i
      · rw [decide_eq_true h1] at q ⊢
        exact iteT ⟨_, rfl, _, _, rfl, rfl, q⟩
      · rw [decide_eq_false h1] at q ⊢
        exact iteF q
end
end Ft

set_option Elab.async false
set_option linter.all false
set_option maxRecDepth 100000
set_option maxHeartbeats 4000000
namespace Ft
open PySem PySem.Spec PyProof.Rows L2
section
variable {P : Program} {w : World} {K : PySem.W.Frag} {mg : Str → Option Value} {base : Heap} {ca : Str → Addr}
theorem get_map {α β : Type} {f : α → β} {l : List α} {i : Nat} {y : β} (h : (l.map f)[i]? = some y) : ∃ x, l[i]? = some x ∧ y = f x := by
  rw [List.getElem?_map] at h
  cases e : l[i]? with
  | none => rw [e] at h; cases h
  | some x => rw [e] at h; exact ⟨x, rfl, (Option.some.inj h).symm⟩
theorem up_get {ws : List Nat} (up : ws.Pairwise (· < ·)) {i j a b : Nat} (hi : ws[i]? = some a) (hj : ws[j]? = some b) (h : i < j) : a < b := by
  obtain ⟨h1, e1⟩ := List.getElem?_eq_some_iff.mp hi
  obtain ⟨h2, e2⟩ := List.getElem?_eq_some_iff.mp hj
  rw [← e1, ← e2]
  exact List.pairwise_iff_getElem.mp up i j h1 h2 h
/-! ### first_bad_place, of data -/
def optV : Option Nat → V
  | none => .non
  | some i => .int (i : Int)
theorem drop_get {α : Type} {l : List α} {i : Nat} {x : α} (h : l[i]? = some x) : l.drop i = x :: l.drop (i + 1) := by
  obtain ⟨hi, e⟩ := List.getElem?_eq_some_iff.mp h
  rw [← e]
  exact List.drop_eq_getElem_cons hi
theorem badPlace_cons {n : Nat} {b : Int} {i : Nat} {d : PyData} {ds : List PyData} : badPlace n b i (d :: ds) = if numIn (b + 1) ((n : Int) - 1) d = true then badPlace n (numOf d) (i + 1) ds else some i := rfl
def sp_first_bad_place (K : PySem.W.Frag) : Sp := fun vs H Q _ => ∃ (n : Nat) (a : Addr) (xs : List V) (ds : List PyData), vs = [vN n, .ref a] ∧ SqT K H a xs ∧ DpAll K H xs ds ∧ ∀ H', Same H H' → Q (optV (badPlace n (-1) 0 ds)) H'
theorem cal_first_bad_place (T : Txt mg) (D : Def K mg "first_bad_place" s_first_bad_place) (c_number_within : Cal P w K mg base 2 "number_within" (sp_number_within K)) : Cal P w K mg base 3 "first_bad_place" (sp_first_bad_place K) := by
  refine cal_of D sc_first_bad_place (fun _ _ _ _ _ _ us hl => match us, hl with | [_, _], _ => rfl) (fun vs H Q E h => ?_) (fun f cdv A outer s H vs Q E hr h => ?_)
  · obtain ⟨n, a, xs, ds, rfl, _⟩ := h
    rfl
  · obtain ⟨n, a, xs, ds, rfl, hW, hD, q⟩ := h
    refine ⟨_, (pss_cons (ps_set (i := 2) sc_first_bad_place.nd rfl (Or.inl rfl) (pe_un un_neg pe_int))
      (pss_cons (ps_for PassesOwn.never rfl (show PI _ _ _ (iEnumT K _) from pi_enumT (by rfl) T.enumerate (pa_cons (pv 1) pa_nil)) (show PG _ _ (gTup K 2 _) from pg_tup (by rfl) (pgs_cons (pg_name (i := 3) sc_first_bad_place.nd rfl (Or.inl rfl)) (pgs_cons (pg_name (i := 4) sc_first_bad_place.nd rfl (Or.inl rfl)) pgs_nil))) (pss_cons (ps_if (pt_not (pt_val (pe_c c_number_within hr (by decide) (by rfl) (pa_cons (pv 4) (pa_cons (pe_op op_add (pv 2) pe_int) (pa_cons (pe_op op_sub (pv 0) pe_int) pa_nil)))))) (pss_one (ps_ret (pv 3))) pss_nil)
        (pss_one (ps_set (i := 2) sc_first_bad_place.nd rfl (Or.inl rfl) (pv 4)))))
      (pss_one (ps_ret pe_non)))), ?_⟩
    refine ⟨_, rfl, _, rfl, a, _, rfl, hW, for_it walk_enumT (fun i σ H' => ∃ (b : Int) (v3 v4 : Option V), σ = [some (vN n), some (.ref a), some (.int b), v3, v4] ∧ Same H H' ∧ badPlace n (-1) 0 ds = badPlace n b i (ds.drop i)) ⟨-1, _, _, rfl, fun _ _ h => h, rfl⟩ (fun i σ H' _ ⟨_, _, _, _, s1, _⟩ => Same.sqT s1 hW) ?_ ?_⟩
    · rintro i x σ H1 H2 hi ⟨b, v3, v4, rfl, s1, eb⟩ ⟨t, x0, y, rfl, nt, rfl, e1, e2⟩
      obtain ⟨d, hd, dd⟩ := dpAll_get hD e2
      have s2 := s1.trans (same_upd (o := .tup [.int (i : Nat), y]) nt)
      rw [drop_get hd, badPlace_cons] at eb
      cases e1
      refine ⟨t, _, rfl, .inl (.inl upd_same), rfl, _, _, rfl, _, _, rfl, rfl, ?_⟩
      refine ⟨_, rfl, _, rfl, _, _, rfl, rfl, _, rfl, _, _, rfl, rfl, _, d, _, _, rfl, Dp.same s2 dd, numIn (b + 1) ((n : Int) - 1) d, rfl, ?_⟩
      cases c : numIn (b + 1) ((n : Int) - 1) d with
      | false =>
        rw [c, if_neg Bool.false_ne_true] at eb
        refine iteT ?_
        have := q _ s2
        rw [eb] at this
        exact ⟨_, rfl, this⟩
      | true =>
        rw [c, if_pos rfl] at eb
        obtain ⟨z, rfl, _, _⟩ := numIn_is c
        cases dp_int dd
        refine iteF ?_
        exact ⟨_, rfl, z, _, _, rfl, s2, eb⟩
    · rintro σ H1 ⟨b, v3, v4, rfl, s1, eb⟩
      rw [dpAll_length hD, List.drop_length] at eb
      have := q H1 s1
      rw [eb] at this
      exact this
/-! ### road_fits, of data -/
def sp_road_fits (K : PySem.W.Frag) : Sp := fun vs H Q _ => ∃ (n : Nat) (v : V) (d : PyData), vs = [vN n, v] ∧ Dp K H v d ∧ Q (.bl (pairOf n d).isSome) H
theorem pairOf_two {n : Nat} {a b : PyData} : (pairOf n (.tuple [a, b])).isSome = (numIn 0 ((n : Int) - 1) a && numIn 0 ((n : Int) - 1) b) := by
  unfold pairOf
  simp only []
  split
  · rename_i h
    rw [h]
    rfl
  · rename_i h
    rw [Bool.not_eq_true] at h
    rw [h]
    rfl
theorem pairOf_len {n : Nat} {ds : List PyData} (h : ds.length ≠ 2) : pairOf n (.tuple ds) = none := by
  unfold pairOf
  split
  · rename_i a b e
    cases e
    exact absurd rfl h
  · rfl
theorem pairOf_not {n : Nat} {d : PyData} (h : isTup d = false) : pairOf n d = none := by
  cases d <;> first | rfl | cases h
theorem cal_road_fits (T : Txt mg) (D : Def K mg "road_fits" s_road_fits) (c_number_within : Cal P w K mg base 2 "number_within" (sp_number_within K)) : Cal P w K mg base 3 "road_fits" (sp_road_fits K) := by
  refine cal_of D sc_road_fits (fun _ _ _ _ _ _ us hl => match us, hl with | [_, _], _ => rfl) (fun vs H Q E h => ?_) (fun f cdv A outer s H vs Q E hr h => ?_)
  · obtain ⟨n, v, d, rfl, _⟩ := h
    rfl
  · obtain ⟨n, v, d, rfl, hd, q⟩ := h
    refine ⟨_, (pss_cons (ps_if (PW.pt (pw_or (pt_not (pt_val (pe_callB (show CallR _ _ (rIsi K) from call_isi) (by rfl) T.isinstance (by decide +kernel) (pa_cons (pv 1) (pa_cons (pe_bltn (v := .ty "tuple") (u := .type "tuple") (by rfl) T.tuple (by decide +kernel) rfl) pa_nil))))) (pw_or1 (pt_cmpR op_ne (pe_callB (show CallR _ _ (rLenS K) from call_lenS) (by rfl) T.len (by decide +kernel) (pa_cons (pv 1) pa_nil)) pe_int (nomark _))))) (pss_one (ps_ret pe_bl)) pss_nil)
      (pss_one (ps_ret (pe_and (pe_c c_number_within hr (by decide) (by rfl) (pa_cons (pe_ix (show IxR _ (rIxT K) from ix_tup) (pv 1) pe_int (fun _ _ => rfl)) (pa_cons pe_int (pa_cons (pe_op op_sub (pv 0) pe_int) pa_nil)))) (pe_one (pe_c c_number_within hr (by decide) (by rfl) (pa_cons (pe_ix (show IxR _ (rIxT K) from ix_tup) (pv 1) pe_int (fun _ _ => rfl)) (pa_cons pe_int (pa_cons (pe_op op_sub (pv 0) pe_int) pa_nil))))))))), ?_⟩
    refine ⟨_, rfl, _, _, _, _, isTup d, rfl, .ty "tuple", isi_dp hd, kit_tup d, isTup d, rfl, ?_⟩
    cases e : isTup d with
    | false =>
      rw [pairOf_not e] at q
      exact iteT (iteT q)
    | true =>
      obtain ⟨ds, rfl⟩ := isTup_is e
      obtain ⟨t, xs, rfl, ht, ha⟩ := dp_tup hd
      refine iteF ?_
      refine ⟨_, rfl, _, _, rfl, .inr ht, rfl, _, rfl, ?_⟩
      by_cases l : ds.length = 2
      · have e2 : (!decide (V.int ((xs.length : Nat) : Int) = V.int 2)) = false := by
          rw [dpAll_length ha, l]
          rfl
        obtain ⟨a, b, rfl⟩ : ∃ a b, ds = [a, b] := by
          match ds, l with
          | [a, b], _ => exact ⟨a, b, rfl⟩
        cases ha with
        | cons h1 h2 =>
          cases h2 with
          | cons h2 h3 =>
            cases h3
            rename_i x y
            refine iteF ?_
            rw [pairOf_two] at q
            refine ⟨_, rfl, _, _, _, _, rfl, rfl, ht, rfl, _, rfl, _, _, rfl, rfl, x, a, _, _, rfl, h1, numIn 0 ((n : Int) - 1) a, rfl, ?_⟩
            cases c : numIn 0 ((n : Int) - 1) a with
            | false =>
              rw [c] at q
              exact iteF q
            | true =>
              rw [c] at q
              refine iteT ?_
              exact ⟨_, rfl, _, _, _, _, rfl, rfl, ht, rfl, _, rfl, _, _, rfl, rfl, y, b, _, _, rfl, h2, q⟩
      · rw [pairOf_len l] at q
        have e2 : (!decide (V.int ((xs.length : Nat) : Int) = V.int 2)) = true := by
          rw [dpAll_length ha, decide_eq_false]
          · rfl
          · intro z
            have z' := V.int.inj z
            omega
        exact ite_any (fun _ => q) (fun z => absurd (show (!decide (V.int ((xs.length : Nat) : Int) = V.int 2)) = false from z) (by rw [e2]; exact fun h => nomatch h))
end
end Ft

set_option Elab.async false
set_option linter.all false
set_option maxRecDepth 100000
set_option maxHeartbeats 4000000
namespace Ft
open PySem PySem.Spec PyProof.Rows L2
section
variable {P : Program} {w : World} {K : PySem.W.Frag} {mg : Str → Option Value} {base : Heap} {ca : Str → Addr}
/-! ### check_roads, of data -/
theorem upP_get {ps : List (Nat × Nat)} (up : ps.Pairwise ltP) {i j : Nat} {a b : Nat × Nat} (hi : ps[i]? = some a) (hj : ps[j]? = some b) (h : i < j) : ltP a b := by
  obtain ⟨h1, e1⟩ := List.getElem?_eq_some_iff.mp hi
  obtain ⟨h2, e2⟩ := List.getElem?_eq_some_iff.mp hj
  rw [← e1, ← e2]
  exact List.pairwise_iff_getElem.mp up i j h1 h2 h
theorem lex_two {a b c d : Nat} :
    Ob.lexAt (fun j => decide (([(c : Int), (d : Int)] : List Int).getD j 0 = ([(a : Int), (b : Int)] : List Int).getD j 0)) (fun j => decide (([(c : Int), (d : Int)] : List Int).getD j 0 ≤ ([(a : Int), (b : Int)] : List Int).getD j 0)) (decide (([(c : Int), (d : Int)] : List Int).length ≤ ([(a : Int), (b : Int)] : List Int).length)) 0 (min ([(c : Int), (d : Int)] : List Int).length ([(a : Int), (b : Int)] : List Int).length) = !decide (ltP (a, b) (c, d)) := by
  simp only [List.length_cons, List.length_nil, Nat.min_self, Ob.lexAt, List.getD_cons_zero, List.getD_cons_succ]
  have e : decide (ltP (a, b) (c, d)) = decide (a < c ∨ (a = c ∧ b < d)) := by
    by_cases h : ltP (a, b) (c, d)
    · rw [decide_eq_true h]
      exact (decide_eq_true h).symm
    · rw [decide_eq_false h]
      exact (decide_eq_false h).symm
  rw [e]
  rcases Nat.lt_trichotomy a c with h | h | h
  · have n1 : ¬ ((c : Int) = a) := by omega
    have n2 : ¬ ((c : Int) ≤ a) := by omega
    have n3 : a < c ∨ (a = c ∧ b < d) := .inl h
    simp [n1, n2, n3]
  · have n1 : ((c : Int) = a) := by omega
    rcases Nat.lt_trichotomy b d with h2 | h2 | h2
    · have n2 : ¬ ((d : Int) = b) := by omega
      have n3 : ¬ ((d : Int) ≤ b) := by omega
      have n4 : a < c ∨ (a = c ∧ b < d) := .inr ⟨h, h2⟩
      simp [n1, n2, n3, n4]
    · have n2 : ((d : Int) = b) := by omega
      have n4 : ¬ (a < c ∨ (a = c ∧ b < d)) := by omega
      simp [n1, n2, n4]
    · have n2 : ¬ ((d : Int) = b) := by omega
      have n3 : ((d : Int) ≤ b) := by omega
      have n4 : ¬ (a < c ∨ (a = c ∧ b < d)) := by omega
      simp [n1, n2, n3, n4]
  · have n1 : ¬ ((c : Int) = a) := by omega
    have n2 : ((c : Int) ≤ a) := by omega
    have n3 : ¬ (a < c ∨ (a = c ∧ b < d)) := by omega
    simp [n1, n2, n3]
theorem badRoad_cons {n : Nat} {p : Option (Nat × Nat)} {i : Nat} {d : PyData} {ds : List PyData} : badRoad n p i (d :: ds) = match pairOf n d with
    | none => some i
    | some q => if above p q = true then badRoad n (some q) (i + 1) ds else some i := rfl
theorem pair_dp {K : PySem.W.Frag} {H : Hp} {v : V} {p : Nat × Nat} (h : Dp K H v (pairD p)) : ∃ t, v = .ref t ∧ SqT K H t [vN p.1, vN p.2] := by
  obtain ⟨a, xs, rfl, hs, ha⟩ := dp_tup h
  have e : xs = [p.1, p.2].map vN := nats_dp (ws := [p.1, p.2]) ha
  subst e
  exact ⟨a, rfl, hs⟩
def spX_check_roads (K : PySem.W.Frag) (ca : Str → Addr) : Sp := fun vs H Q E => ∃ (n : Nat) (v : V) (d : PyData), vs = [vN n, v] ∧ Dp K H v d ∧ (roadsErr n d = none → ∀ H', Same H H' → Q .non H') ∧ ∀ i, roadsErr n d = some i → Raised K ca H E ("BadMap", .int i)
theorem cal_check_roads (T : Txt mg) (D : Def K mg "check_roads" s_check_roads) (m_MOST_ROADS : MgI mg "MOST_ROADS" 240) (e_BadMap : Er P w K mg base ca "BadMap") (c_road_fits : Cal P w K mg base 3 "road_fits" (sp_road_fits K)) : CalX P w K mg base 4 "check_roads" (spX_check_roads K ca) := by
  refine calx_of D sc_check_roads (fun _ _ _ _ _ _ us hl => match us, hl with | [_, _], _ => rfl) (fun vs H Q E h => ?_) (fun f cdv A outer s H vs Q E hr h => ?_)
  · obtain ⟨n, v, d, rfl, _⟩ := h
    rfl
  · obtain ⟨n, v, d, rfl, hd, q, r⟩ := h
    refine ⟨_, (pss_cons (ps_if (PW.pt (pw_or (pt_not (pt_val (pe_callB (show CallR _ _ (rIsi K) from call_isi) (by rfl) T.isinstance (by decide +kernel) (pa_cons (pv 1) (pa_cons (pe_bltn (v := .ty "tuple") (u := .type "tuple") (by rfl) T.tuple (by decide +kernel) rfl) pa_nil))))) (pw_or1 (pt_cmpR op_gt (pe_callB (show CallR _ _ (rLenS K) from call_lenS) (by rfl) T.len (by decide +kernel) (pa_cons (pv 1) pa_nil)) (pe_globI (n := 240) rfl m_MOST_ROADS) (nomark _))))) (pss_one (ps_raiseE rfl e_BadMap hr (by decide) (takes_of rfl rfl rfl rfl) (by rfl) (pa_cons (pe_un un_neg pe_int) pa_nil))) pss_nil)
      (pss_one (ps_for (passes_of rfl) rfl (show PI _ _ _ (iEnumT K _) from pi_enumT (by rfl) T.enumerate (pa_cons (pv 1) pa_nil)) (show PG _ _ (gTup K 2 _) from pg_tup (by rfl) (pgs_cons (pg_name (i := 2) sc_check_roads.nd rfl (Or.inl rfl)) (pgs_cons (pg_name (i := 3) sc_check_roads.nd rfl (Or.inl rfl)) pgs_nil))) (pss_cons (ps_if (pt_not (pt_val (pe_c c_road_fits hr (by decide) (by rfl) (pa_cons (pv 0) (pa_cons (pv 3) pa_nil))))) (pss_one (ps_raiseE rfl e_BadMap hr (by decide) (takes_of rfl rfl rfl rfl) (by rfl) (pa_cons (pv 2) pa_nil))) pss_nil)
        (pss_one (ps_if (PW.pt (pw_and (pt_cmpR op_gt (pv 2) pe_int (nomark _)) (pw_and1 (pt_cmpR (show OpR _ _ (rLeT K) from op_leT hr.units0) (pv 3) (pe_ix (show IxR _ (rIxT K) from ix_tup) (pv 1) (pe_op op_sub (pv 2) pe_int) (fun _ _ => rfl)) (nomark _))))) (pss_one (ps_raiseE rfl e_BadMap hr (by decide) (takes_of rfl rfl rfl rfl) (by rfl) (pa_cons (pv 2) pa_nil))) pss_nil)))))), ?_⟩
    refine ⟨_, rfl, _, _, _, _, isTup d, rfl, .ty "tuple", isi_dp hd, kit_tup d, isTup d, rfl, ?_⟩
    cases e : isTup d with
    | false =>
      refine iteT (iteT ?_)
      refine ⟨_, rfl, _, rfl, fun dd hdd => ?_⟩
      exact r (-3) (by cases d <;> first | rfl | cases e) dd _ _ (same_upd hdd) upd_same (.int _)
    | true =>
      obtain ⟨ds, rfl⟩ := isTup_is e
      obtain ⟨a, xs, rfl, hR, hP⟩ := dp_tup hd
      have len := dpAll_length hP
      refine iteF ?_
      refine ⟨_, rfl, _, _, rfl, .inr hR, _, _, rfl, rfl, _, rfl, ?_⟩
      by_cases many : ds.length ≤ 240
      · rw [decide_eq_false (show ¬ ((240 : Int) < (xs.length : Nat)) by rw [len]; omega)]
        have er : roadsErr n (.tuple ds) = optI (badRoad n none 0 ds) := if_pos many
        rw [er] at q
        have r : ∀ i, optI (badRoad n none 0 ds) = some i → _ := fun i h => r i (er.trans h)
        refine iteF ?_
        refine ⟨_, rfl, a, _, rfl, hR, for_it walk_enumT (fun i σ H' => ∃ (v3 v4 : Option V) (p : Option (Nat × Nat)), σ = [some (vN n), some (.ref a), v3, v4] ∧ Same H H' ∧ badRoad n none 0 ds = badRoad n p i (ds.drop i) ∧ (i = 0 → p = none) ∧ ∀ i', i = i' + 1 → ∃ q, p = some q ∧ ds[i']? = some (pairD q)) ⟨_, _, none, rfl, (fun _ _ h => h), rfl, (fun _ => rfl), fun i' h => nomatch h⟩ (fun i σ H' _ ⟨_, _, _, _, s1, _⟩ => Same.sqT s1 hR) ?_ ?_⟩
        · rintro i x σ H1 H2 hi ⟨v3, v4, p, rfl, s1, eb, p0, pp⟩ ⟨t, x0, y, rfl, nt, rfl, e1, e2⟩
          obtain ⟨dy, hdy, dd⟩ := dpAll_get hP e2
          have s2 := s1.trans (same_upd (o := .tup [.int (i : Nat), y]) nt)
          rw [drop_get hdy, badRoad_cons] at eb
          cases e1
          refine ⟨t, _, rfl, .inl (.inl upd_same), rfl, _, _, rfl, _, _, rfl, rfl, ?_⟩
          refine ⟨_, rfl, _, rfl, n, y, dy, rfl, Dp.same s2 dd, (pairOf n dy).isSome, rfl, ?_⟩
          cases ep : pairOf n dy with
          | none =>
            rw [ep] at eb
            refine iteT ?_
            refine ⟨_, rfl, _, rfl, fun dx hdx => ?_⟩
            exact r i (by rw [eb]; rfl) dx _ _ (s2.trans (same_upd hdx)) upd_same (.int _)
          | some qr =>
            rw [ep] at eb
            simp only [] at eb
            obtain ⟨rfl, b1, b2⟩ := pairOf_is ep
            obtain ⟨z, rfl, pz⟩ := pair_dp dd
            refine iteF ?_
            refine ⟨_, rfl, _, _, rfl, rfl, _, rfl, ?_⟩
            cases i with
            | zero =>
              rw [decide_eq_false (show ¬ ((0 : Int) < ((0 : Nat) : Int)) by omega)]
              rw [p0 rfl] at eb
              rw [if_pos (show above none qr = true from rfl)] at eb
              refine iteF (iteF ⟨_, _, some qr, rfl, s2, eb, (fun h => nomatch h), fun i' h => ⟨qr, rfl, ?_⟩⟩)
              cases h
              exact hdy
            | succ i' =>
              rw [decide_eq_true (show (0 : Int) < ((i' + 1 : Nat) : Int) by omega)]
              refine iteT ?_
              obtain ⟨q0, rfl, hq0⟩ := pp i' rfl
              obtain ⟨y0, hy0, dy0⟩ := dpAll_getD hP hq0
              obtain ⟨z0, rfl, pz0⟩ := pair_dp dy0
              have ei : atI xs (((i' + 1 : Nat) : Int) - 1) = some (.ref z0) := by
                have e : ((i' + 1 : Nat) : Int) - 1 = (i' : Nat) := by omega
                rw [e]
                exact atI_nat hy0
              refine ⟨_, rfl, _, rfl, _, rfl, _, _, rfl, rfl, a, _, _, _, rfl, rfl, Same.sqT s2 hR, ei, z, z0, [(qr.1 : Int), (qr.2 : Int)], [(q0.1 : Int), (q0.2 : Int)], rfl, rfl, Same.sqT s2 pz, Same.sqT s2 pz0, _, rfl, ?_⟩
              rw [lex_two]
              by_cases lt : ltP q0 qr
              · have e3 : (!decide (ltP (q0.1, q0.2) (qr.1, qr.2))) = false := by rw [decide_eq_true (show ltP (q0.1, q0.2) (qr.1, qr.2) from lt)]; rfl
                rw [e3]
                rw [if_pos (show above (some q0) qr = true from decide_eq_true lt)] at eb
                refine iteF ⟨_, _, some qr, rfl, s2, eb, (fun h => nomatch h), fun j h => ⟨qr, rfl, ?_⟩⟩
                cases h
                exact hdy
              · have e3 : (!decide (ltP (q0.1, q0.2) (qr.1, qr.2))) = true := by rw [decide_eq_false (show ¬ ltP (q0.1, q0.2) (qr.1, qr.2) from lt)]; rfl
                rw [e3]
                rw [if_neg (show ¬ above (some q0) qr = true from fun h => lt (of_decide_eq_true h))] at eb
                refine iteT ?_
                refine ⟨_, rfl, _, rfl, fun dx hdx => ?_⟩
                exact r ((i' + 1 : Nat) : Int) (by rw [eb]; rfl) dx _ _ (s2.trans (same_upd hdx)) upd_same (.int _)
        · rintro σ H1 ⟨v3, v4, p, rfl, s1, eb, _⟩
          rw [len, List.drop_length] at eb
          exact q (by rw [eb]; rfl) H1 s1
      · rw [decide_eq_true (show ((240 : Int) < (xs.length : Nat)) by rw [len]; omega)]
        refine iteT ?_
        refine ⟨_, rfl, _, rfl, fun dx hdx => ?_⟩
        exact r (-3) (if_neg many) dx _ _ (same_upd hdx) upd_same (.int _)
end
end Ft

set_option Elab.async false
set_option linter.all false
set_option maxRecDepth 100000
set_option maxHeartbeats 4000000
namespace Ft
open PySem PySem.Spec PyProof.Rows L2
section
variable {P : Program} {w : World} {K : PySem.W.Frag} {mg : Str → Option Value} {base : Heap} {ca : Str → Addr}
/-! ### made_map, of data -/
theorem mapErr_not {d : PyData} (h : isTup d = false) : mapErr d = some (("BadMap" : Str), -1) := by
  cases d <;> first | rfl | cases h
theorem mapErr_len {ds : List PyData} (h : ds.length ≠ 3) : mapErr (.tuple ds) = some (("BadMap" : Str), -1) := by
  unfold mapErr
  split
  · rename_i a b c e
    cases e
    exact absurd rfl h
  · rfl
theorem mapErr_name {d : PyData} {x : Str} {i : Int} (h : mapErr d = some (x, i)) : x = "BadMap" ∨ x = "BadWish" := by
  unfold mapErr at h
  split at h
  · rename_i p r w
    unfold mapErr3 at h
    split at h
    · cases e : roadsErr (numOf p).toNat r with
      | some j => rw [e] at h; cases h; exact .inl rfl
      | none =>
        rw [e] at h
        cases e2 : wishErr (numOf p).toNat w with
        | some j => rw [e2] at h; cases h; exact .inr rfl
        | none => rw [e2] at h; cases h
    · cases h
      exact .inl rfl
  · cases h
    exact .inl rfl
/-- what is wanted behind a check: the answer, or the error that is due -/
def Due (K : PySem.W.Frag) (ca : Str → Addr) (H : Hp) (E : XK) (e : Option (Str × Int)) (ok : Prop) : Prop := (e = none → ok) ∧ ∀ x i, e = some (x, i) → Raised K ca H E (x, .int i)
def spX_made_map (K : PySem.W.Frag) (ca : Str → Addr) : Sp := fun vs H Q E => ∃ (v : V) (d : PyData), vs = [v] ∧ Dp K H v d ∧ Due K ca H E (mapErr d) (∀ c C c' H', v = .ref c → d = chartD C → C.Ok → Same H H' → IsChart K H' c' C → Q (.ref c') H')
def mapErrN (n : Nat) (rd wd : PyData) : Option (Str × Int) := match roadsErr n rd with
  | some i => some ("BadMap", i)
  | none => match wishErr n wd with
    | some i => some ("BadWish", i)
    | none => none
theorem mapErrN_map {n : Nat} {rd wd : PyData} {i : Int} (h : roadsErr n rd = some i) : mapErrN n rd wd = some (("BadMap" : Str), i) := by unfold mapErrN; rw [h]
theorem mapErrN_wish {n : Nat} {rd wd : PyData} {i : Int} (h : roadsErr n rd = none) (h2 : wishErr n wd = some i) : mapErrN n rd wd = some (("BadWish" : Str), i) := by unfold mapErrN; rw [h, h2]
theorem mapErrN_none {n : Nat} {rd wd : PyData} (h : roadsErr n rd = none) (h2 : wishErr n wd = none) : mapErrN n rd wd = none := by unfold mapErrN; rw [h, h2]
theorem dpAll_three {K : PySem.W.Frag} {H : Hp} {xs : List V} {a b c : PyData} (h : DpAll K H xs [a, b, c]) : ∃ x y z, xs = [x, y, z] ∧ Dp K H x a ∧ Dp K H y b ∧ Dp K H z c := by
  cases h with
  | cons h1 h =>
    cases h with
    | cons h2 h =>
      cases h with
      | cons h3 h =>
        cases h
        exact ⟨_, _, _, rfl, h1, h2, h3⟩
theorem dpAll_two {K : PySem.W.Frag} {H : Hp} {xs : List V} {a b : PyData} (h : DpAll K H xs [a, b]) : ∃ x y, xs = [x, y] ∧ Dp K H x a ∧ Dp K H y b := by
  cases h with
  | cons h1 h =>
    cases h with
    | cons h2 h =>
      cases h
      exact ⟨_, _, rfl, h1, h2⟩
theorem nD_toNat (n : Nat) : (numOf (nD n)).toNat = n := by simp [nD, numOf]
theorem int_nD {i : Int} (h : 0 ≤ i) : PyData.int i = nD (numOf (.int i)).toNat := by
  show PyData.int i = .int ((numOf (.int i)).toNat : Int)
  have : ((numOf (PyData.int i)).toNat : Int) = i := by
    simp only [numOf]
    omega
  rw [this]
theorem cal_made_map (T : Txt mg) (D : Def K mg "made_map" s_made_map) (m_MOST_PLACES : MgI mg "MOST_PLACES" 60) (e_BadMap : Er P w K mg base ca "BadMap") (e_BadWish : Er P w K mg base ca "BadWish") (c_number_within : Cal P w K mg base 2 "number_within" (sp_number_within K)) (c_check_roads : CalX P w K mg base 4 "check_roads" (spX_check_roads K ca))
    (c_first_bad_place : Cal P w K mg base 3 "first_bad_place" (sp_first_bad_place K)) : CalX P w K mg base 5 "made_map" (spX_made_map K ca) := by
  refine calx_of D sc_made_map (fun _ _ _ _ _ _ us hl => match us, hl with | [_], _ => rfl) (fun vs H Q E h => ?_) (fun f cdv A outer s H vs Q E hr h => ?_)
  · obtain ⟨v, d, rfl, _⟩ := h
    rfl
  · obtain ⟨v, d, rfl, hd, q, r⟩ := h
    have r : ∀ x i, mapErr d = some (x, i) → Raised K ca H E (x, .int i) := r
    refine ⟨_, (pss_cons (ps_if (PW.pt (pw_or (pt_not (pt_val (pe_callB (show CallR _ _ (rIsi K) from call_isi) (by rfl) T.isinstance (by decide +kernel) (pa_cons (pv 0) (pa_cons (pe_bltn (v := .ty "tuple") (u := .type "tuple") (by rfl) T.tuple (by decide +kernel) rfl) pa_nil))))) (pw_or1 (pt_cmpR op_ne (pe_callB (show CallR _ _ (rLenS K) from call_lenS) (by rfl) T.len (by decide +kernel) (pa_cons (pv 0) pa_nil)) pe_int (nomark _))))) (pss_one (ps_raiseE rfl e_BadMap hr (by decide) (takes_of rfl rfl rfl rfl) (by rfl) (pa_cons (pe_un un_neg pe_int) pa_nil))) pss_nil)
      (pss_cons (ps_asg (pv 0) (show PG _ _ (gTup K 3 _) from pg_tup (by rfl) (pgs_cons (pg_name (i := 1) sc_made_map.nd rfl (Or.inl rfl)) (pgs_cons (pg_name (i := 2) sc_made_map.nd rfl (Or.inl rfl)) (pgs_cons (pg_name (i := 3) sc_made_map.nd rfl (Or.inl rfl)) pgs_nil)))))
      (pss_cons (ps_if (pt_not (pt_val (pe_c c_number_within hr (by decide) (by rfl) (pa_cons (pv 1) (pa_cons pe_int (pa_cons (pe_globI (n := 60) rfl m_MOST_PLACES) pa_nil)))))) (pss_one (ps_raiseE rfl e_BadMap hr (by decide) (takes_of rfl rfl rfl rfl) (by rfl) (pa_cons (pe_un un_neg pe_int) pa_nil))) pss_nil)
      (pss_cons (ps_expr (pe_x (takes_of rfl rfl rfl rfl) c_check_roads hr (by decide) (by rfl) (pa_cons (pv 1) (pa_cons (pv 2) pa_nil))))
      (pss_cons (ps_if (pt_not (pt_val (pe_callB (show CallR _ _ (rIsi K) from call_isi) (by rfl) T.isinstance (by decide +kernel) (pa_cons (pv 3) (pa_cons (pe_bltn (v := .ty "tuple") (u := .type "tuple") (by rfl) T.tuple (by decide +kernel) rfl) pa_nil))))) (pss_one (ps_raiseE rfl e_BadWish hr (by decide) (takes_of rfl rfl rfl rfl) (by rfl) (pa_cons (pe_un un_neg pe_int) pa_nil))) pss_nil)
      (pss_cons (ps_set (i := 4) sc_made_map.nd rfl (Or.inl rfl) (pe_c c_first_bad_place hr (by decide) (by rfl) (pa_cons (pv 1) (pa_cons (pv 3) pa_nil))))
      (pss_cons (ps_if (pt_cmpR op_notN (pv 4) pe_non (nomark _)) (pss_one (ps_raiseE rfl e_BadWish hr (by decide) (takes_of rfl rfl rfl rfl) (by rfl) (pa_cons (pv 4) pa_nil))) pss_nil)
      (pss_one (ps_ret (pe_tup (pa_cons (pv 1) (pa_cons (pv 2) (pa_cons (pv 3) pa_nil))))))))))))), ?_⟩
    refine ⟨_, rfl, _, _, _, _, isTup d, rfl, .ty "tuple", isi_dp hd, kit_tup d, isTup d, rfl, ?_⟩
    cases e : isTup d with
    | false =>
      refine iteT (iteT ?_)
      exact ⟨_, rfl, _, rfl, fun dd hdd => r _ _ (mapErr_not e) dd _ _ (same_upd hdd) upd_same (.int _)⟩
    | true =>
      obtain ⟨ds, rfl⟩ := isTup_is e
      obtain ⟨c, xs, rfl, hC, hP⟩ := dp_tup hd
      have len := dpAll_length hP
      refine iteF ?_
      refine ⟨_, rfl, _, _, rfl, .inr hC, rfl, _, rfl, ?_⟩
      by_cases l : ds.length = 3
      · have e2 : (!decide (V.int ((xs.length : Nat) : Int) = V.int 3)) = false := by
          rw [len, l]
          rfl
        refine ite_any (fun z => absurd (show (!decide (V.int ((xs.length : Nat) : Int) = V.int 3)) = true from z) (by rw [e2]; exact fun h => nomatch h)) (fun _ => ?_)
        obtain ⟨p, rd, wd, rfl⟩ : ∃ a b c, ds = [a, b, c] := by
          match ds, l with
          | [a, b, c], _ => exact ⟨a, b, c, rfl⟩
        obtain ⟨vp, vr, vw, rfl, h1, h2, h3⟩ := dpAll_three hP
        refine ⟨_, rfl, c, _, rfl, hC, rfl, _, _, rfl, _, _, rfl, _, _, rfl, rfl, ?_⟩
        refine ⟨_, rfl, _, p, _, _, rfl, h1, numIn 0 60 p, rfl, ?_⟩
        have em : mapErr (.tuple [p, rd, wd]) = mapErr3 p rd wd := rfl
        rw [em] at q
        have r : ∀ x i, mapErr3 p rd wd = some (x, i) → _ := fun x i h => r x i (em.trans h)
        cases cn : numIn 0 60 p with
        | false =>
          refine iteT ?_
          exact ⟨_, rfl, _, rfl, fun dd hdd => r _ _ (by unfold mapErr3; rw [cn]; rfl) dd _ _ (same_upd hdd) upd_same (.int _)⟩
        | true =>
          obtain ⟨i, rfl, i1, i2⟩ := numIn_is cn
          cases dp_int h1
          obtain ⟨n, ep⟩ : ∃ n : Nat, PyData.int i = nD n := ⟨_, int_nD i1⟩
          have ei : i = (n : Int) := by
            have z : PyData.int i = .int (n : Int) := ep
            cases z
            rfl
          subst ei
          refine iteF ?_
          have e3 : mapErr3 (nD n) rd wd = mapErrN n rd wd := by
            unfold mapErr3 mapErrN
            rw [if_pos (by rw [numIn_nat]; omega), nD_toNat]
            cases roadsErr n rd with
            | some i => rfl
            | none => cases wishErr n wd <;> rfl
          have r : ∀ x i, mapErrN n rd wd = some (x, i) → Raised K ca H E (x, .int i) := fun x i h => r x i (e3.trans h)
          have q : mapErrN n rd wd = none → _ := fun h => q (e3.trans h)
          refine ⟨_, rfl, _, rfl, n, vr, rd, rfl, h2, fun er H1 s1 => ?_, fun j er => ?_⟩
          · have h31 := Dp.same s1 h3
            refine ⟨_, rfl, _, _, _, _, isTup wd, rfl, .ty "tuple", isi_dp h31, kit_tup wd, isTup wd, rfl, ?_⟩
            cases ew : isTup wd with
            | false =>
              have ew' : wishErr n wd = some (-1) := by cases wd <;> first | rfl | cases ew
              refine iteT ?_
              exact ⟨_, rfl, _, rfl, fun dd hdd => r _ _ (mapErrN_wish er ew') dd _ _ (s1.trans (same_upd hdd)) upd_same (.int _)⟩
            | true =>
              obtain ⟨wds, rfl⟩ := isTup_is ew
              obtain ⟨wa, ys, rfl, hW, hWs⟩ := dp_tup h31
              refine iteF ?_
              refine ⟨_, rfl, _, rfl, n, wa, ys, wds, rfl, hW, hWs, fun H2 s2 => ?_⟩
              have s12 := s1.trans s2
              have ew2 : wishErr n (.tuple wds) = optI (badPlace n (-1) 0 wds) := rfl
              cases eb : badPlace n (-1) 0 wds with
              | some k =>
                refine ⟨_, rfl, rfl, _, rfl, iteT ?_⟩
                exact ⟨_, rfl, _, rfl, fun dd hdd => r _ _ (mapErrN_wish er (by rw [ew2, eb]; rfl)) dd _ _ (s12.trans (same_upd hdd)) upd_same (.int _)⟩
              | none =>
                refine ⟨_, rfl, rfl, _, rfl, iteF ?_⟩
                have e1 : mapErrN n rd (.tuple wds) = none := mapErrN_none er (by rw [ew2, eb]; rfl)
                have e0 : mapErr3 (nD n) rd (.tuple wds) = none := e3.trans e1
                obtain ⟨C, ok, p1, p2, p3⟩ := mapErr3_none e0
                refine ⟨_, rfl, _, rfl, _, rfl, (by show 3 ≤ sizeLine; decide), fun p' hp => ?_⟩
                have s3 := s12.trans (same_upd (o := .tup [vN n, vr, .ref wa]) hp)
                have dd : Dp K (upd H2 p' (.tup [vN n, vr, .ref wa])) (.ref p') (chartD C) := by
                  have z : chartD C = .tuple [nD n, rd, .tuple wds] := by
                    unfold chartD
                    rw [← p1, ← p2, ← p3]
                  rw [z]
                  exact .tup (.inl (.inl upd_same)) (.cons (.int _) (.cons (Dp.same s3 h2) (.cons (Dp.same (s2.trans (same_upd hp)) h31) .nil)))
                obtain ⟨c2, ec, isC⟩ := chart_dp dd
                cases ec
                refine q e1 c C p' _ rfl ?_ ok s3 isC
                show PyData.tuple [nD n, rd, .tuple wds] = _
                unfold chartD
                rw [← p1, ← p2, ← p3]
          · intro dd H' v s' hdd hv
            exact r _ _ (mapErrN_map er) dd H' v s' hdd hv
      · refine ite_any (fun _ => ?_) (fun z => absurd (show (!decide (V.int ((xs.length : Nat) : Int) = V.int 3)) = false from z) (by
          rw [len, decide_eq_false]
          · exact fun h => nomatch h
          · intro z
            have z' := V.int.inj z
            omega))
        exact ⟨_, rfl, _, rfl, fun dd hdd => r _ _ (mapErr_len l) dd _ _ (same_upd hdd) upd_same (.int _)⟩
/-- of a map -/
def sp_made_map (K : PySem.W.Frag) : Sp := fun vs H Q _ => ∃ (c : Addr) (C : Chart), vs = [.ref c] ∧ IsChart K H c C ∧ C.Ok ∧ ∀ c' H', Same H H' → IsChart K H' c' C → Q (.ref c') H'
theorem chartD_inj {C C' : Chart} (h : chartD C = chartD C') : C = C' := by
  obtain ⟨n, rs, ws⟩ := C
  obtain ⟨n', rs', ws'⟩ := C'
  unfold chartD lotD at h
  simp only [PyData.tuple.injEq, List.cons.injEq, and_true] at h
  obtain ⟨h1, h2, h3⟩ := h
  have inN : ∀ {a b : Nat}, nD a = nD b → a = b := fun {a b} z => by
    have z' : PyData.int (a : Int) = .int (b : Int) := z
    cases z'
    rfl
  have inL : ∀ {f : Nat → PyData} {g : Nat → PyData}, True := fun {_ _} => trivial
  have e3 : ws = ws' := by
    refine List.map_inj_right (f := nD) (fun {a b} z => inN z) |>.mp h3
  have e2 : rs = rs' := by
    refine List.map_inj_right (f := pairD) (fun {a b} z => ?_) |>.mp h2
    unfold pairD at z
    simp only [PyData.tuple.injEq, List.cons.injEq, and_true] at z
    exact Prod.ext (inN z.1) (inN z.2)
  rw [inN h1, e2, e3]
theorem lotD_inj {ws ws' : List Nat} (h : lotD ws = lotD ws') : ws = ws' := by
  unfold lotD at h
  simp only [PyData.tuple.injEq] at h
  exact List.map_inj_right (f := nD) (fun {a b} z => by
    have z' : PyData.int (a : Int) = .int (b : Int) := z
    cases z'
    rfl) |>.mp h
theorem calv_made_map (c_made_map : CalX P w K mg base 5 "made_map" (spX_made_map K ca)) : Cal P w K mg base 5 "made_map" (sp_made_map K) :=
  c_made_map.valid fun vs H Q E ⟨c, C, e, isC, ok, q⟩ => ⟨_, _, e, dp_chart isC, fun _ c0 C' c' H' ec eC _ s' isC' => q c' H' s' (by rw [chartD_inj eC]; exact isC'), fun x i h => by rw [mapErr_chart ok] at h; cases h⟩
end
end Ft

set_option Elab.async false
set_option linter.all false
set_option maxRecDepth 100000
set_option maxHeartbeats 4000000
namespace Ft
open PySem PySem.Spec PyProof.Rows L2
section
variable {P : Program} {w : World} {K : PySem.W.Frag} {mg : Str → Option Value} {base : Heap} {ca : Str → Addr}
/-! ### place_fits, check_place, lot_fits, check_lot, of data -/
def rngD (n : Nat) (d : PyData) : Bool := numIn 0 ((n : Int) - 1) d
theorem rngD_nat {n i : Nat} (h : i < n) : rngD n (nD i) = true := numIn_nat.mpr ⟨by omega, by omega⟩
theorem rngD_is {n : Nat} {d : PyData} (h : rngD n d = true) : ∃ i, d = nD i ∧ i < n := by
  obtain ⟨i, rfl, h1, h2⟩ := numIn_is h
  refine ⟨i.toNat, ?_, by omega⟩
  show PyData.int i = .int (i.toNat : Int)
  rw [show ((i.toNat : Nat) : Int) = i by omega]
def sp_place_fits (K : PySem.W.Frag) : Sp := fun vs H Q _ => ∃ (c : Addr) (n : Nat) (v : V) (d : PyData) (r wd : Addr), vs = [.ref c, v] ∧ SqT K H c [vN n, .ref r, .ref wd] ∧ Dp K H v d ∧ Q (.bl (rngD n d)) H
theorem cal_place_fits (T : Txt mg) (D : Def K mg "place_fits" s_place_fits) (c_number_within : Cal P w K mg base 2 "number_within" (sp_number_within K)) : Cal P w K mg base 3 "place_fits" (sp_place_fits K) := by
  refine cal_of D sc_place_fits (fun _ _ _ _ _ _ us hl => match us, hl with | [_, _], _ => rfl) (fun vs H Q E h => ?_) (fun f cdv A outer s H vs Q E hr h => ?_)
  · obtain ⟨c, n, v, d, r, wd, rfl, _⟩ := h
    rfl
  · obtain ⟨c, n, v, d, r, wd, rfl, hc, hd, q⟩ := h
    refine ⟨_, (pss_one (ps_ret (pe_c c_number_within hr (by decide) (by rfl) (pa_cons (pv 1) (pa_cons pe_int (pa_cons (pe_op op_sub (pe_ix (show IxR _ (rIxT K) from ix_tup) (pv 0) pe_int (fun _ _ => rfl)) pe_int) pa_nil)))))), ?_⟩
    exact ⟨_, rfl, _, rfl, _, _, _, _, rfl, rfl, hc, rfl, _, _, rfl, rfl, v, d, _, _, rfl, hd, q⟩
def spX_check_place (K : PySem.W.Frag) (ca : Str → Addr) : Sp := fun vs H Q E => ∃ (c : Addr) (n : Nat) (v : V) (d : PyData) (r wd : Addr), vs = [.ref c, v] ∧ SqT K H c [vN n, .ref r, .ref wd] ∧ Dp K H v d ∧ (rngD n d = true → Q .non H) ∧ (rngD n d = false → Raised K ca H E ("BadPlace", d))
theorem cal_check_place (T : Txt mg) (D : Def K mg "check_place" s_check_place) (e_BadPlace : Er P w K mg base ca "BadPlace") (c_place_fits : Cal P w K mg base 3 "place_fits" (sp_place_fits K)) : CalX P w K mg base 4 "check_place" (spX_check_place K ca) := by
  refine calx_of D sc_check_place (fun _ _ _ _ _ _ us hl => match us, hl with | [_, _], _ => rfl) (fun vs H Q E h => ?_) (fun f cdv A outer s H vs Q E hr h => ?_)
  · obtain ⟨c, n, v, d, r, wd, rfl, _⟩ := h
    rfl
  · obtain ⟨c, n, v, d, r, wd, rfl, hc, hd, q1, q2⟩ := h
    refine ⟨_, (pss_one (ps_if (pt_not (pt_val (pe_c c_place_fits hr (by decide) (by rfl) (pa_cons (pv 0) (pa_cons (pv 1) pa_nil))))) (pss_one (ps_raiseE rfl e_BadPlace hr (by decide) (takes_of rfl rfl rfl rfl) (by rfl) (pa_cons (pv 1) pa_nil))) pss_nil)), ?_⟩
    refine ⟨_, rfl, _, rfl, c, n, v, d, r, wd, rfl, hc, hd, rngD n d, rfl, ?_⟩
    cases e : rngD n d with
    | true => exact iteF (q1 e)
    | false => exact iteT ⟨_, rfl, _, rfl, fun dd hdd => q2 e dd _ _ (same_upd hdd) upd_same (Dp.same (same_upd hdd) hd)⟩
def sp_check_place (K : PySem.W.Frag) : Sp := fun vs H Q _ => ∃ (c : Addr) (n i : Nat) (r wd : Addr), vs = [.ref c, vN i] ∧ SqT K H c [vN n, .ref r, .ref wd] ∧ i < n ∧ Q .non H
theorem calv_check_place (c_check_place : CalX P w K mg base 4 "check_place" (spX_check_place K ca)) : Cal P w K mg base 4 "check_place" (sp_check_place K) :=
  c_check_place.valid fun vs H Q E ⟨c, n, i, r, wd, e, hc, hi, q⟩ => ⟨c, n, _, _, r, wd, e, hc, dp_nat i, fun _ => q, fun h => by rw [rngD_nat hi] at h; cases h⟩
end
end Ft

set_option Elab.async false
set_option linter.all false
set_option maxRecDepth 100000
set_option maxHeartbeats 4000000
namespace Ft
open PySem PySem.Spec PyProof.Rows L2
/-- the places to which roads of the row lead from a, in the row's order -/
def succs (rs : List (Nat × Nat)) (a : Nat) : List Nat := (rs.filter fun p => p.1 == a).map (·.2)
theorem succs_more (rs : List (Nat × Nat)) (p : Nat × Nat) (a : Nat) : succs (rs ++ [p]) a = if p.1 = a then succs rs a ++ [p.2] else succs rs a := by
  unfold succs
  rw [List.filter_append, List.map_append]
  by_cases h : p.1 = a
  · rw [if_pos h]
    have : (p.1 == a) = true := by simp [h]
    simp [List.filter_cons, this]
  · rw [if_neg h]
    have : (p.1 == a) = false := by simp [h]
    simp [List.filter_cons, this]
theorem succs_len (rs : List (Nat × Nat)) (a : Nat) : (succs rs a).length ≤ rs.length := by
  unfold succs
  rw [List.length_map]
  exact List.length_filter_le _ _
theorem succs_mem {rs : List (Nat × Nat)} {a b : Nat} : b ∈ succs rs a ↔ (a, b) ∈ rs := by
  unfold succs
  simp only [List.mem_map, List.mem_filter, beq_iff_eq]
  constructor
  · rintro ⟨⟨x, y⟩, ⟨h1, h2⟩, h3⟩
    dsimp at h2 h3
    subst h2 h3
    exact h1
  · intro h
    exact ⟨(a, b), ⟨h, rfl⟩, rfl⟩
theorem nodup_inj {α : Type} {l : List α} (nd : l.Nodup) {i j : Nat} {a : α} (hi : l[i]? = some a) (hj : l[j]? = some a) : i = j := by
  obtain ⟨h1, e1⟩ := List.getElem?_eq_some_iff.mp hi
  obtain ⟨h2, e2⟩ := List.getElem?_eq_some_iff.mp hj
  have ap := List.pairwise_iff_getElem.mp nd
  rcases Nat.lt_trichotomy i j with h | h | h
  · exact absurd (e1.trans e2.symm) (ap i j h1 h2 h)
  · exact h
  · exact absurd (e2.trans e1.symm) (ap j i h2 h1 h)
theorem take_more {α : Type} {l : List α} {i : Nat} {x : α} (h : l[i]? = some x) : l.take (i + 1) = l.take i ++ [x] := by
  rw [List.take_add_one, h]
  rfl
section
variable {P : Program} {w : World} {K : PySem.W.Frag} {mg : Str → Option Value} {base : Heap} {t1 t2 : Tok}
/-! ### roads_from -/
/-- a list of lists of places stands at q -/
structure LotsAt (H : Hp) (q : Addr) (ls : List Addr) (f : Nat → List Nat) : Prop where
  top : H q = some (.lst (ls.map V.ref))
  each : ∀ a l, ls[a]? = some l → H l = some (.lst ((f a).map vN))
def sp_roads_from (K : PySem.W.Frag) : Sp := fun vs H Q _ => ∃ (c : Addr) (C : Chart), vs = [.ref c] ∧ IsChart K H c C ∧ C.Ok ∧ ∀ q ls H', Same H H' → ls.length = C.n → LotsAt H' q ls (succs C.roads) → Q (.ref q) H'
theorem cal_roads_from (T : Txt mg) (D : Def K mg "roads_from" s_roads_from) : Cal P w K mg base 2 "roads_from" (sp_roads_from K) := by
  refine cal_of D sc_roads_from (fun _ _ _ _ _ _ us hl => match us, hl with | [_], _ => rfl) (fun vs H Q E h => ?_) (fun f cdv A outer s H vs Q E hr h => ?_)
  · obtain ⟨c, C, rfl, _⟩ := h
    rfl
  · obtain ⟨c, C, rfl, ⟨r, wd, ts, hC⟩, ok, q⟩ := h
    have n60 := ok.n60
    refine ⟨_, (pss_cons (ps_setLc (i := 1) (own := [("_", 4)]) rfl sc_roads_from.nd rfl rfl (sw_true rfl rfl rfl (by decide +kernel)) (pi_range1 (by rfl) T.range (pa_cons (pe_ix (show IxR _ (rIxT K) from ix_tup) (pv 0) pe_int (fun _ _ => rfl)) pa_nil)) (blkOk_by (N := ["chart", "targets", "a", "b", "_"]) (sc := L2.defScope s_roads_from) (by decide +kernel)) (fun _ _ _ _ _ => (pg_name (i := 4) sc_roads_from.nd rfl (Or.inl rfl))) (fun _ _ _ _ _ => pts_nil) (fun _ _ _ _ _ => (pe_lst pa_nil)))
      (pss_cons (ps_for PassesOwn.never rfl (show PI _ _ _ (iTup K _) from pi_tup (pe_ix (show IxR _ (rIxT K) from ix_tup) (pv 0) pe_int (fun _ _ => rfl))) (show PG _ _ (gTup K 2 _) from pg_tup (by rfl) (pgs_cons (pg_name (i := 2) sc_roads_from.nd rfl (Or.inl rfl)) (pgs_cons (pg_name (i := 3) sc_roads_from.nd rfl (Or.inl rfl)) pgs_nil))) (pss_one (ps_expr (pe_bm PySem.F.plainAttrs_list PySem.F.slot_list_append PySem.F.type_list_append mt_append (pe_ix (show IxR _ (rIxL K) from ix_list) (pv 1) (pv 2) (fun _ _ => rfl)) (pa_cons (pv 3) pa_nil)))))
      (pss_one (ps_ret (pv 1))))), ?_⟩
    refine ⟨_, rfl, _, _, _, _, rfl, rfl, hC.top, rfl, _, rfl, by omega, by omega, fun d hd => ?_⟩
    refine lc_range (lo := 0) (n := C.n) (fun i H' => ∃ ls : List Addr, ls.length = i ∧ ls.Nodup ∧ Same H H' ∧ (∀ l ∈ ls, H l = none ∧ l ≠ d ∧ H' l = some (.lst [])) ∧ H' d = some (.lst (ls.map V.ref))) ⟨[], rfl, List.nodup_nil, same_upd hd, (fun l z => nomatch z), upd_same⟩ ?_ ?_
    · rintro i H1 hi ⟨ls, el, nd, s1, all, hD⟩
      refine ⟨rfl, ?_⟩
      refine ⟨Nat.zero_le _, fun p hp => ?_⟩
      have npd : d ≠ p := ne_of_none hD hp
      have new : ∀ l ∈ ls, l ≠ p := fun l hl => ne_of_none (all l hl).2.2 hp
      refine ⟨_, Eq.trans (upd_ne npd) hD, by rw [List.length_map, el]; exact small1000 (by omega), ls ++ [p], by rw [List.length_append, el]; rfl, ?_, ?_, ?_, ?_⟩
      · rw [List.nodup_append]
        refine ⟨nd, by simp, fun x hx y hy => ?_⟩
        rw [List.mem_singleton.mp hy]
        exact new x hx
      · intro b o e
        have n1 : b ≠ d := ne_of_none e hd
        have n2 : b ≠ p := ne_of_none (s1 b o e) hp
        rw [upd_ne n1, upd_ne n2]
        exact s1 b o e
      · intro l hl
        rcases List.mem_append.mp hl with hl | hl
        · obtain ⟨a1, a2, a3⟩ := all l hl
          exact ⟨a1, a2, by rw [upd_ne a2, upd_ne (new l hl)]; exact a3⟩
        · rw [List.mem_singleton.mp hl]
          exact ⟨s1.free hp, npd.symm, by rw [upd_ne npd.symm, upd_same]⟩
      · rw [upd_same, List.map_append]
        rfl
    · rintro H1 ⟨ls, el, nd, s1, all, hD⟩
      have hC1 := hC.same s1
      refine ⟨_, rfl, _, _, _, _, rfl, rfl, hC1.top, rfl, r, rfl, ⟨_, hC1.row⟩, for_tup (xs := ts.map V.ref) (fun i σ H' => ∃ (v2 v3 v4 : Option V), σ = [some (.ref c), some (.ref d), v2, v3, v4] ∧ Same H H' ∧ H' d = some (.lst (ls.map V.ref)) ∧ ∀ a l, ls[a]? = some l → H' l = some (.lst ((succs (C.roads.take i) a).map vN)))
        ⟨_, _, _, rfl, s1, hD, fun a l e => (all l (List.mem_of_getElem? e)).2.2⟩ (fun i σ H' _ ⟨_, _, _, _, s2, _⟩ => Same.sqT s2 hC.row) ?_ ?_⟩
      · rintro i x σ H2 hx ⟨v2, v3, v4, rfl, s2, hD2, each⟩
        obtain ⟨t, ht, rfl⟩ := get_map hx
        obtain ⟨p, hp, pt⟩ := paired_getL hC.prs ht
        obtain ⟨b1, b2⟩ := ok.inR p (List.mem_of_getElem? hp)
        obtain ⟨l, hl⟩ : ∃ l, ls[p.1]? = some l := ⟨_, List.getElem?_eq_getElem (by rw [el]; exact b1)⟩
        have el2 := each p.1 l hl
        have hlm := all l (List.mem_of_getElem? hl)
        refine ⟨t, _, rfl, Same.sqT s2 pt, rfl, _, _, rfl, _, _, rfl, rfl, ?_⟩
        refine ⟨_, rfl, _, rfl, d, _, _, _, rfl, rfl, (.inl (.inl hD2)), atI_nat (v := V.ref l) (by rw [List.getElem?_map, hl]; rfl), .inl ⟨rfl, _, .inl (.inl el2)⟩, _, rfl, l, _, _, rfl, rfl, el2, ?_, ?_⟩
        · rw [List.length_map]
          have := succs_len (C.roads.take i) p.1
          have h2 : (C.roads.take i).length ≤ C.roads.length := by rw [List.length_take]; omega
          exact small1000 (by have := ok.many; omega)
        · refine ⟨_, _, _, rfl, fun b o e => ?_, by rw [upd_ne hlm.2.1.symm]; exact hD2, fun a m hm => ?_⟩
          · rw [upd_ne (ne_of_none e hlm.1)]
            exact s2 b o e
          · rw [take_more hp, succs_more]
            by_cases ha : p.1 = a
            · subst ha
              have : m = l := Option.some.inj (hm.symm.trans hl)
              subst this
              rw [upd_same, if_pos rfl, List.map_append]
              rfl
            · have nml : m ≠ l := by
                intro e
                subst e
                exact ha (nodup_inj nd hl hm)
              rw [upd_ne nml, if_neg ha]
              exact each a m hm
      · rintro σ H2 ⟨v2, v3, v4, rfl, s2, hD2, each⟩
        refine ⟨_, rfl, q d ls H2 s2 el ⟨hD2, fun a l e => ?_⟩⟩
        have := each a l e
        rwa [List.take_of_length_le (by rw [List.length_map]; exact Nat.le_of_eq (Paired.length hC.prs).symm)] at this
end
end Ft

set_option Elab.async false
set_option linter.all false
set_option maxRecDepth 100000
set_option maxHeartbeats 4000000
namespace Ft
open PySem PySem.Spec PyProof.Rows L2
section
variable {P : Program} {w : World} {K : PySem.W.Frag} {mg : Str → Option Value} {base : Heap} {t1 t2 : Tok}
theorem up_nodup {l : List Nat} (h : l.Pairwise (· < ·)) : l.Nodup := h.imp fun h e => by omega
theorem up_len {l : List Nat} {n : Nat} (h : l.Pairwise (· < ·)) (b : ∀ a ∈ l, a < n) : l.length ≤ n := by
  have := nat_nodup_len l (List.range n) (up_nodup h) fun x hx => List.mem_range.mpr (b x hx)
  rwa [List.length_range] at this
/-! ### unwished_of -/
def unw (C : Chart) : List Nat := (List.range C.n).filter fun a => !decide (a ∈ C.wished)
theorem range_more (n i : Nat) (h : i < n) : (List.range n).take (i + 1) = (List.range n).take i ++ [i] := by
  refine take_more ?_
  rw [List.getElem?_range h]
theorem range_take_mem {n i a : Nat} (h : i ≤ n) : a ∈ (List.range n).take i ↔ a < i := by
  have e : (List.range n).take i = List.range i := by
    rw [List.take_range, Nat.min_eq_left h]
  rw [e, List.mem_range]
def sp_unwished_of (K : PySem.W.Frag) : Sp := fun vs H Q _ => ∃ (c : Addr) (C : Chart), vs = [.ref c] ∧ IsChart K H c C ∧ C.Ok ∧ ∀ q H', Same H H' → H q = none → H' q = some (.lst ((unw C).map vN)) → Q (.ref q) H'
theorem cal_unwished_of (T : Txt mg) (D : Def K mg "unwished_of" s_unwished_of) : Cal P w K mg base 2 "unwished_of" (sp_unwished_of K) := by
  refine cal_of D sc_unwished_of (fun _ _ _ _ _ _ us hl => match us, hl with | [_], _ => rfl) (fun vs H Q E h => ?_) (fun f cdv A outer s H vs Q E hr h => ?_)
  · obtain ⟨c, C, rfl, _⟩ := h
    rfl
  · obtain ⟨c, C, rfl, ⟨r, wd, ts, hC⟩, ok, q⟩ := h
    have n60 := ok.n60
    refine ⟨_, (pss_cons (ps_set (i := 1) sc_unwished_of.nd rfl (Or.inr rfl) (pe_callTy (show CallR _ _ (rSetI K w) from cr_setI rfl) (by rfl) T.set (by decide +kernel) (pa_cons (pe_ix (show IxR _ (rIxT K) from ix_tup) (pv 0) pe_int (fun _ _ => rfl)) pa_nil)))
      (pss_one (ps_ret (pe_lc (own := [("place", 2)]) rfl sc_unwished_of.nd (pi_range1 (by rfl) T.range (pa_cons (pe_ix (show IxR _ (rIxT K) from ix_tup) (pv 0) pe_int (fun _ _ => rfl)) pa_nil)) (blkOk_by (N := ["chart", "wished", "place"]) (sc := L2.defScope s_unwished_of) (by decide +kernel)) (fun _ _ _ _ _ => (pg_name (i := 2) sc_unwished_of.nd rfl (Or.inl rfl))) (fun _ _ _ _ _ => pts_one (pt_cmpR (show OpR _ _ (rSNotIn w) from or_snotin) (pv 2) (pv 1) (by rfl))) (fun _ _ _ _ _ => (pv 2)))))), ?_⟩
    have lenW : (iN C.wished).length ≤ 1000 := by
      rw [iN_length]
      have := up_len ok.upW ok.inW
      omega
    refine ⟨_, rfl, _, _, _, _, rfl, rfl, hC.top, rfl, wd, iN C.wished, rfl, .inr (by rw [← vN_map]; exact hC.wis), lenW, fun p n0 hp hn0 => ?_⟩
    have s1 : Same H (upd H p (SetO w p (fun j => decide (j ∈ iN C.wished)) n0)) := same_upd hp
    have hC1 := hC.same s1
    refine ⟨_, rfl, _, _, _, _, rfl, rfl, hC1.top, rfl, _, rfl, by omega, by omega, fun d hd => ?_⟩
    have npd : p ≠ d := ne_of_none upd_same hd
    refine lc_range (lo := 0) (n := C.n) (fun i H' => Same H H' ∧ H' p = some (SetO w p (fun j => decide (j ∈ iN C.wished)) n0) ∧ H' d = some (.lst ((((List.range C.n).take i).filter fun a => !decide (a ∈ C.wished)).map vN)))
      ⟨s1.trans (same_upd hd), by rw [upd_ne npd]; exact upd_same, upd_same⟩ ?_ ?_
    · rintro i H1 hi ⟨s2, hp2, hd2⟩
      refine ⟨rfl, ?_⟩
      refine ⟨_, rfl, _, rfl, _, _, _, _, rfl, rfl, hp2, _, rfl, ?_⟩
      have e0 : (0 : Int) + (i : Nat) = (i : Nat) := by omega
      have e1 : decide ((0 : Int) + (i : Nat) ∈ iN C.wished) = decide (i ∈ C.wished) := by
        rw [e0]
        exact decide_eq_decide.mpr iN_mem
      rw [e1, range_more _ _ hi, List.filter_append]
      by_cases hw : i ∈ C.wished
      · rw [decide_eq_true hw]
        refine iteF ⟨s2, hp2, ?_⟩
        rw [hd2]
        simp [hw]
      · rw [decide_eq_false hw]
        refine iteT ?_
        refine ⟨_, rfl, _, hd2, ?_, ?_, ?_, ?_⟩
        · rw [List.length_map]
          have h1 := List.length_filter_le (fun a => !decide (a ∈ C.wished)) ((List.range C.n).take i)
          have h2 : ((List.range C.n).take i).length ≤ i := by rw [List.length_take]; omega
          exact small1000 (by omega)
        · intro b o e
          rw [upd_ne (ne_of_none e (s1.free hd))]
          exact s2 b o e
        · rw [upd_ne npd]
          exact hp2
        · rw [upd_same, List.map_append, e0]
          simp [hw]
          rfl
    · rintro H1 ⟨s2, hp2, hd2⟩
      rw [List.take_of_length_le (by rw [List.length_range]; exact Nat.le_refl _)] at hd2
      exact q d H1 s2 (s1.free hd) hd2
end
end Ft

set_option Elab.async false
set_option linter.all false
set_option maxRecDepth 100000
set_option maxHeartbeats 4000000
/-! Plain mathematics: ascending lists, reach -/
namespace Ft
theorem asc_ext : ∀ {l1 l2 : List Nat}, l1.Pairwise (· < ·) → l2.Pairwise (· < ·) → (∀ x, x ∈ l1 ↔ x ∈ l2) → l1 = l2
  | [], [], _, _, _ => rfl
  | [], b :: l2, _, _, h => absurd ((h b).mpr List.mem_cons_self) List.not_mem_nil
  | a :: l1, [], _, _, h => absurd ((h a).mp List.mem_cons_self) List.not_mem_nil
  | a :: l1, b :: l2, h1, h2, h => by
    obtain ⟨a1, p1⟩ := List.pairwise_cons.mp h1
    obtain ⟨a2, p2⟩ := List.pairwise_cons.mp h2
    have e : a = b := by
      rcases List.mem_cons.mp ((h a).mp List.mem_cons_self) with e | m
      · exact e
      · rcases List.mem_cons.mp ((h b).mpr List.mem_cons_self) with e | m'
        · exact e.symm
        · have := a2 a m
          have := a1 b m'
          omega
    subst e
    refine congrArg (a :: ·) (asc_ext p1 p2 fun x => ⟨fun m => ?_, fun m => ?_⟩)
    · rcases List.mem_cons.mp ((h x).mp (List.mem_cons_of_mem _ m)) with e | m'
      · have := a1 x m
        omega
      · exact m'
    · rcases List.mem_cons.mp ((h x).mpr (List.mem_cons_of_mem _ m)) with e | m'
      · have := a2 x m
        omega
      · exact m'
/-- the places below n with a property, ascending -/
noncomputable def those (n : Nat) (P : Nat → Prop) : List Nat := (List.range n).filter fun b => @decide (P b) (Classical.propDecidable _)
theorem range_up (n : Nat) : (List.range n).Pairwise (· < ·) := List.pairwise_lt_range
theorem those_up (n : Nat) (P : Nat → Prop) : (those n P).Pairwise (· < ·) := (range_up n).filter _
theorem those_mem {n : Nat} {P : Nat → Prop} {b : Nat} : b ∈ those n P ↔ b < n ∧ P b := by
  unfold those
  rw [List.mem_filter, List.mem_range]
  simp
theorem those_is {n : Nat} {P : Nat → Prop} {l : List Nat} (up : l.Pairwise (· < ·)) (h : ∀ x, x ∈ l ↔ x < n ∧ P x) : l = those n P :=
  asc_ext up (those_up n P) fun x => (h x).trans those_mem.symm
/-- a sorted copy of numbers -/
theorem sorted_iN {F : List Nat} (nd : F.Nodup) {ys : List Int} (pm : ys.Perm (F.map fun (n : Nat) => (n : Int))) (up : ys.Pairwise (· ≤ ·)) :
    ∃ l : List Nat, ys = l.map (fun (n : Nat) => (n : Int)) ∧ l.Pairwise (· < ·) ∧ ∀ x, x ∈ l ↔ x ∈ F := by
  have nn : ∀ y ∈ ys, 0 ≤ y := by
    intro y hy
    obtain ⟨n, _, e⟩ := List.mem_map.mp (pm.mem_iff.mp hy)
    omega
  have e : ys = (ys.map Int.toNat).map (fun (n : Nat) => (n : Int)) := by
    rw [List.map_map]
    conv => lhs; rw [← List.map_id ys]
    exact List.map_congr_left fun y hy => (Int.toNat_of_nonneg (nn y hy)).symm
  have ndy : ys.Nodup := by
    refine pm.nodup_iff.mpr ?_
    exact List.pairwise_map.mpr (nd.imp fun h e => h (by omega))
  refine ⟨ys.map Int.toNat, e, ?_, fun x => ?_⟩
  · refine List.pairwise_map.mpr ?_
    have both : ys.Pairwise fun a b => a ≤ b ∧ a ≠ b := List.Pairwise.and up ndy
    refine List.Pairwise.imp_of_mem (fun {a b} ha hb h => ?_) both
    have h1 := nn a ha
    have h2 := nn b hb
    omega
  · constructor
    · intro h
      obtain ⟨y, hy, e1⟩ := List.mem_map.mp h
      obtain ⟨n, hn, e2⟩ := List.mem_map.mp (pm.mem_iff.mp hy)
      have : n = x := by omega
      exact this ▸ hn
    · intro h
      have : (x : Int) ∈ ys := pm.mem_iff.mpr (List.mem_map.mpr ⟨x, h, rfl⟩)
      exact List.mem_map.mpr ⟨(x : Int), this, by omega⟩
/-- from a place along roads over unwished places -/
inductive Reach (rs : List (Nat × Nat)) (ws : List Nat) : Nat → Nat → Prop
  | one {a b : Nat} : (a, b) ∈ rs → Reach rs ws a b
  | more {a b c : Nat} : Reach rs ws a b → b ∉ ws → (b, c) ∈ rs → Reach rs ws a c
theorem Reach.cons {rs : List (Nat × Nat)} {ws : List Nat} {a b c : Nat} (h : (a, b) ∈ rs) (hb : b ∉ ws) (r : Reach rs ws b c) : Reach rs ws a c := by
  induction r with
  | one h2 => exact .more (.one h) hb h2
  | more _ h2 h3 ih => exact .more ih h2 h3
theorem Reach.trans {rs : List (Nat × Nat)} {ws : List Nat} {a b c : Nat} (r : Reach rs ws a b) (hb : b ∉ ws) (q : Reach rs ws b c) : Reach rs ws a c := by
  induction q with
  | one h2 => exact .more r hb h2
  | more _ h2 h3 ih => exact .more ih h2 h3
/-- what is closed and holds the first steps holds all -/
theorem Reach.within {rs : List (Nat × Nat)} {ws : List Nat} {S : Nat → Prop} {a b : Nat} (r : Reach rs ws a b) (h1 : ∀ x, (a, x) ∈ rs → S x) (h2 : ∀ x y, S x → x ∉ ws → (x, y) ∈ rs → S y) : S b := by
  induction r with
  | one h => exact h1 _ h
  | more _ hb h ih => exact h2 _ _ ih hb h
/-- the places that some place of S comes to -/
noncomputable def met (n : Nat) (rs : List (Nat × Nat)) (ws S : List Nat) : List Nat := those n fun b => ∃ a ∈ S, Reach rs ws a b
end Ft

set_option Elab.async false
set_option linter.all false
set_option maxRecDepth 100000
set_option maxHeartbeats 4000000
namespace Ft
open PySem PySem.Spec PyProof.Rows L2
/-- a dict of places, each with True -/
def keysOf (F : List Nat) : List (Key × V) := F.map fun (n : Nat) => ((Sum.inl (n : Int) : Key), V.bl true)
theorem keysOf_val : ∀ (F : List Nat) (x : Nat), valV (keysOf F) (Sum.inl (x : Int) : Key) = if x ∈ F then some (.bl true) else none
  | [], x => by simp [keysOf, valV]
  | a :: F, x => by
    have ih := keysOf_val F x
    unfold valV keysOf at ih ⊢
    rw [List.map_cons, List.find?_cons]
    by_cases h : a = x
    · subst h
      simp
    · have e : decide (((Sum.inl (a : Int) : Key)) = Sum.inl (x : Int)) = false := by
        refine decide_eq_false fun q => h ?_
        have := Sum.inl.inj q
        omega
      have hx : x ≠ a := fun q => h q.symm
      simp only [e, List.mem_cons, hx, false_or]
      exact ih
theorem keysOf_put (F : List Nat) (x : Nat) (h : x ∉ F) : putK (keysOf F) (Sum.inl (x : Int) : Key) (.bl true) = keysOf (F ++ [x]) := by
  rw [putK_new _ (by rw [keysOf_val, if_neg h])]
  unfold keysOf
  rw [List.map_append]
  rfl
theorem keysOf_len (F : List Nat) : (keysOf F).length = F.length := List.length_map ..
theorem keysOf_keys (F : List Nat) : (keysOf F).map (·.1) = (iN F).map Sum.inl := by
  unfold keysOf iN
  rw [List.map_map, List.map_map]
  rfl
theorem nodup_lt {F : List Nat} {n : Nat} (nd : F.Nodup) (b : ∀ x ∈ F, x < n) : F.length ≤ n := by
  have := nat_nodup_len F (List.range n) nd fun x hx => List.mem_range.mpr (b x hx)
  rwa [List.length_range] at this
/-- what holds between two turns of the search -/
structure Hunt (C : Chart) (S F W : List Nat) : Prop where
  nd : F.Nodup
  lt : ∀ b ∈ F, b < C.n
  fair : ∀ b ∈ F, ∃ a ∈ S, Reach C.roads C.wished a b
  wait : ∀ x ∈ W, x ∈ S ∨ (x ∈ F ∧ x ∉ C.wished)
structure Done (C : Chart) (S F W : List Nat) (off : Nat → Prop) : Prop where
  ok : ∀ x, (x ∈ S ∨ (x ∈ F ∧ x ∉ C.wished)) → x ∈ W ∨ off x ∨ ∀ b, (x, b) ∈ C.roads → b ∈ F
theorem hunt_end {C : Chart} {S F : List Nat} (h : Hunt C S F []) (d : Done C S F [] fun _ => False) : ∀ x, x ∈ F ↔ x < C.n ∧ ∃ a ∈ S, Reach C.roads C.wished a x := by
  intro x
  constructor
  · intro m
    exact ⟨h.lt x m, h.fair x m⟩
  · rintro ⟨_, a, ha, r⟩
    have all : ∀ y, (y ∈ S ∨ (y ∈ F ∧ y ∉ C.wished)) → ∀ b, (y, b) ∈ C.roads → b ∈ F := by
      intro y hy
      rcases d.ok y hy with z | z | z
      · exact absurd z List.not_mem_nil
      · exact z.elim
      · exact z
    exact r.within (S := (· ∈ F)) (fun y hy => all a (.inl ha) y hy) fun y z hy hw hz => all y (.inr ⟨hy, hw⟩) z hz
section
variable {P : Program} {w : World} {K : PySem.W.Frag} {mg : Str → Option Value} {base : Heap} {t1 t2 : Tok}
/-! ### reached -/
def hungry (n : Nat) (d wt : Addr) (H : Hp) : Nat := match H d, H wt with
  | some (.dK kvs), some (.lst ws) => 2 * (n - kvs.length) + ws.length
  | _, _ => 0
theorem hungry_is {n : Nat} {d wt : Addr} {H : Hp} {kvs : List (Key × V)} {ws : List V} (h1 : H d = some (.dK kvs)) (h2 : H wt = some (.lst ws)) : hungry n d wt H = 2 * (n - kvs.length) + ws.length := by
  unfold hungry
  rw [h1, h2]
def sp_reached (K : PySem.W.Frag) : Sp := fun vs H Q _ => ∃ (c st : Addr) (C : Chart) (S : List Nat), vs = [.ref c, .ref st] ∧ IsChart K H c C ∧ C.Ok ∧ SqT K H st (S.map vN) ∧ (∀ a ∈ S, a < C.n) ∧ S.length ≤ 60 ∧
  ∀ q H', Same H H' → H q = none → H' q = some (.lst ((met C.n C.roads C.wished S).map vN)) → Q (.ref q) H'
theorem cal_reached (T : Txt mg) (D : Def K mg "reached" s_reached) (c_roads_from : Cal P w K mg base 2 "roads_from" (sp_roads_from K)) : Cal P w K mg base 3 "reached" (sp_reached K) := by
  refine cal_of D sc_reached (fun _ _ _ _ _ _ us hl => match us, hl with | [_, _], _ => rfl) (fun vs H Q E h => ?_) (fun f cdv A outer s H vs Q E hr h => ?_)
  · obtain ⟨c, st, C, S, rfl, _⟩ := h
    rfl
  · obtain ⟨c, st, C, S, rfl, ⟨r, wd, ts, hC⟩, ok, hS, inS, fewS, q⟩ := h
    have hu := hu_of hr
    have n60 := ok.n60
    refine ⟨_, (pss_cons (ps_set (i := 2) sc_reached.nd rfl (Or.inl rfl) (pe_c c_roads_from hr (by decide) (by rfl) (pa_cons (pv 0) pa_nil)))
      (pss_cons (ps_set (i := 3) sc_reached.nd rfl (Or.inl rfl) (pe_callTy (show CallR _ _ (rSetI K w) from cr_setI rfl) (by rfl) T.set (by decide +kernel) (pa_cons (pe_ix (show IxR _ (rIxT K) from ix_tup) (pv 0) pe_int (fun _ _ => rfl)) pa_nil)))
      (pss_cons (ps_set (i := 4) sc_reached.nd rfl (Or.inl rfl) pe_dnewK)
      (pss_cons (ps_set (i := 5) sc_reached.nd rfl (Or.inl rfl) (pe_callTy (show CallR _ _ (rListOf K) from call_listOf) (by rfl) T.list (by decide +kernel) (pa_cons (pv 1) pa_nil)))
      (pss_cons (ps_while PassesOwn.never (pt_truth (pv 5) (by intro _; rfl)) (pss_cons (ps_set (i := 6) sc_reached.nd rfl (Or.inl rfl) (pe_bm0 PySem.F.plainAttrs_list PySem.F.slot_list_pop PySem.F.type_list_pop mt_pop (pv 5)))
        (pss_one (ps_for PassesOwn.never rfl (show PI _ _ _ (iList K _) from pi_list (pe_ix (show IxR _ (rIxL K) from ix_list) (pv 2) (pv 6) (fun _ _ => rfl))) (pg_name (i := 7) sc_reached.nd rfl (Or.inl rfl)) (pss_one (ps_if (pt_cmp (pc_dnotin hu (pv 7) (pv 4))) (pss_cons (ps_dput hu (pv 4) (pv 7) pe_bl rfl)
            (pss_one (ps_if (pt_cmpR (show OpR _ _ (rSNotIn w) from or_snotin) (pv 7) (pv 3) (by rfl)) (pss_one (ps_expr (pe_bm PySem.F.plainAttrs_list PySem.F.slot_list_append PySem.F.type_list_append mt_append (pv 5) (pa_cons (pv 7) pa_nil)))) pss_nil))) pss_nil))))))
      (pss_one (ps_ret (pe_callB (call_sortedDI rfl) (by rfl) T.sorted (by decide +kernel) (pa_cons (pv 4) pa_nil))))))))), ?_⟩
    refine ⟨_, rfl, c, C, rfl, ⟨r, wd, ts, hC⟩, ok, fun g ls H1 s1 el hL => ?_⟩
    have hC1 := hC.same s1
    have lenW : (iN C.wished).length ≤ 1000 := by
      rw [iN_length]
      have := up_len ok.upW ok.inW
      omega
    refine ⟨_, rfl, _, _, _, _, rfl, rfl, hC1.top, rfl, wd, iN C.wished, rfl, .inr (by rw [← vN_map]; exact hC1.wis), lenW, fun p n0 hp hn0 => ?_⟩
    have hp2 : (upd H1 p (SetO w p (fun j => decide (j ∈ iN C.wished)) n0)) p = some (SetO w p (fun j => decide (j ∈ iN C.wished)) n0) := upd_same
    have s2 : Same H (upd H1 p (SetO w p (fun j => decide (j ∈ iN C.wished)) n0)) := s1.trans (same_upd hp)
    have L2' : LotsAt (upd H1 p (SetO w p (fun j => decide (j ∈ iN C.wished)) n0)) g ls (succs C.roads) :=
      ⟨by rw [upd_ne (ne_of_none hL.top hp)]; exact hL.top, fun a l e => by rw [upd_ne (ne_of_none (hL.each a l e) hp)]; exact hL.each a l e⟩
    generalize (upd H1 p (SetO w p (fun j => decide (j ∈ iN C.wished)) n0)) = H2 at hp2 s2 L2'
    intro d hd
    have s3 : Same H2 (upd H2 d (.dK [])) := same_upd hd
    refine ⟨_, rfl, st, _, rfl, .inr (Same.sqT (s2.trans s3) hS), fun wt hwt => ?_⟩
    have ndw : d ≠ wt := ne_of_none upd_same hwt
    have nd2 : H2 wt = none := by rw [upd_ne ndw.symm] at hwt; exact hwt
    have apart : ∀ b o, H2 b = some o → b ∉ [d, wt] := by
      intro b o e m
      rcases List.mem_cons.mp m with z | z
      · rw [z, hd] at e
        cases e
      · rw [List.mem_singleton.mp z, nd2] at e
        cases e
    have k0 : Kp [d, wt] H2 (upd (upd H2 d (.dK [])) wt (.lst (S.map vN))) := by
      intro b o n e
      rw [upd_ne (fun z => n (by rw [z]; simp)), upd_ne (fun z => n (by rw [z]; simp))]
      exact e
    refine at_name ?_
    dsimp only
    refine at_seq ?_
    refine while_by (fun σ H' => ∃ (F W : List Nat) (v6 v7 : Option V), σ = [some (.ref c), some (.ref st), some (.ref g), some (.ref p), some (.ref d), some (.ref wt), v6, v7] ∧ Kp [d, wt] H2 H' ∧ H' d = some (.dK (keysOf F)) ∧ H' wt = some (.lst (W.map vN)) ∧ Hunt C S F W ∧ Done C S F W (fun _ => False) ∧ 2 * (C.n - F.length) + W.length ≤ 180) (fun _ H' => hungry C.n d wt H') ?_ ?_ ?_
    · refine ⟨[], S, _, _, rfl, k0, by rw [upd_ne ndw]; exact upd_same, upd_same, ⟨List.nodup_nil, (fun b z => nomatch z), (fun b z => nomatch z), fun x hx => .inl hx⟩, ⟨fun x hx => ?_⟩, by rw [List.length_nil]; omega⟩
      rcases hx with hx | hx
      · exact .inl hx
      · exact absurd hx.1 List.not_mem_nil
    · rintro σ H3 ⟨F, W, v6, v7, rfl, k3, hF, hW, hunt, dn, cap⟩
      refine ⟨_, rfl, _, .inl ⟨_, .inl (.inl hW), rfl⟩, ?_⟩
      by_cases he : W = []
      · subst he
        refine iteF ?_
        refine ⟨_, rfl, d, keysOf F, iN F, rfl, .inl hF, keysOf_keys F, ?_, fun ys q0 pm up hq0 => ?_⟩
        · rw [iN_length]
          have := nodup_lt hunt.nd hunt.lt
          omega
        · obtain ⟨l, el2, upl, ml⟩ := sorted_iN hunt.nd pm up
          have e : l = met C.n C.roads C.wished S := those_is upl fun x => (ml x).trans (hunt_end hunt dn x)
          refine q q0 _ ?_ ?_ ?_
          · intro b o e1
            have e2 := s2 b o e1
            have e3 := k3 b o (apart b o e2) e2
            rw [upd_ne (ne_of_none e3 hq0)]
            exact e3
          · have n1 : q0 ≠ d := fun z => by rw [z, hF] at hq0; cases hq0
            have n2 : q0 ≠ wt := fun z => by rw [z, hW] at hq0; cases hq0
            exact s2.free (kp_free k3 (by simp [n1, n2]) hq0)
          · rw [upd_same, el2, ← e, vN_map]
            rfl
      · have hb : (!(W.map vN).isEmpty) = true := by
          cases W with
          | nil => exact absurd rfl he
          | cons a W => rfl
        rw [hb]
        refine iteT ?_
        obtain ⟨W0, x, rfl⟩ : ∃ W0 x, W = W0 ++ [x] := ⟨W.dropLast, W.getLast he, (List.dropLast_concat_getLast he).symm⟩
        rw [List.length_append, List.length_singleton] at cap
        have hlast : ((W0 ++ [x]).map vN)[((W0 ++ [x]).map vN).length - 1]? = some (vN x) := by simp
        refine ⟨_, rfl, .inl ⟨rfl, _, .inl (.inl hW)⟩, wt, _, _, rfl, rfl, hW, hlast, ?_⟩
        have hdl : ((W0 ++ [x]).map vN).dropLast = W0.map vN := by simp
        rw [hdl]
        have hx : x ∈ S ∨ (x ∈ F ∧ x ∉ C.wished) := hunt.wait x (by simp)
        have hxn : x < C.n := by
          rcases hx with h | h
          · exact inS x h
          · exact hunt.lt x h.1
        obtain ⟨l, hl⟩ : ∃ l, ls[x]? = some l := ⟨_, List.getElem?_eq_getElem (by rw [el]; exact hxn)⟩
        have kW : Kp [d, wt] H2 (upd H3 wt (.lst (W0.map vN))) := by
          intro b o n e
          rw [upd_ne (fun z => n (by rw [z]; simp))]
          exact k3 b o n e
        have kept : ∀ {H' : Hp}, Kp [d, wt] H2 H' → LotsAt H' g ls (succs C.roads) := fun {H'} k => ⟨k _ _ (apart _ _ L2'.top) L2'.top, fun a m e => k _ _ (apart _ _ (L2'.each a m e)) (L2'.each a m e)⟩
        have mu0 : hungry C.n d wt H3 = 2 * (C.n - F.length) + (W0.length + 1) := by
          rw [hungry_is hF hW, keysOf_len]
          simp
        refine ⟨_, rfl, _, rfl, g, _, _, _, rfl, rfl, .inl (.inl (kept kW).top), atI_nat (v := V.ref l) (by rw [List.getElem?_map, hl]; rfl), l, rfl, ⟨_, .inl (.inl ((kept kW).each x l hl))⟩, ?_⟩
        refine for_list (K := K) (xs := (succs C.roads x).map vN) (fun i σ H' => ∃ (F1 W1 : List Nat) (v7 : Option V), σ = [some (.ref c), some (.ref st), some (.ref g), some (.ref p), some (.ref d), some (.ref wt), some (vN x), v7] ∧ Kp [d, wt] H2 H' ∧ H' d = some (.dK (keysOf F1)) ∧ H' wt = some (.lst (W1.map vN)) ∧ Hunt C S F1 W1 ∧
            Done C S F1 W1 (· = x) ∧ (∀ b ∈ (succs C.roads x).take i, b ∈ F1) ∧ 2 * (C.n - F1.length) + W1.length ≤ 2 * (C.n - F.length) + W0.length) ?_ (fun i σ H' _ ⟨F1, W1, _, _, k4, _⟩ => .inl (.inl ((kept k4).each x l hl))) ?_ ?_
        · refine ⟨F, W0, _, rfl, kW, ?_, upd_same, ⟨hunt.nd, hunt.lt, hunt.fair, fun y hy => hunt.wait y (by simp [hy])⟩, ⟨fun y hy => ?_⟩, fun b hb => ?_, Nat.le_refl _⟩
          · rw [upd_ne ndw]
            exact hF
          · rcases dn.ok y hy with z | z | z
            · rcases List.mem_append.mp z with z | z
              · exact .inl z
              · exact .inr (.inl (List.mem_singleton.mp z))
            · exact z.elim
            · exact .inr (.inr z)
          · rw [List.take_zero] at hb
            exact absurd hb List.not_mem_nil
        · rintro i y σ H4 hy ⟨F1, W1, v7', rfl, k4, hF1, hW1, hunt1, dn1, took, mu1⟩
          obtain ⟨b, hb, rfl⟩ := get_map hy
          have hbr : (x, b) ∈ C.roads := succs_mem.mp (List.mem_of_getElem? hb)
          have hbn : b < C.n := (ok.inR _ hbr).2
          have rb : ∃ a ∈ S, Reach C.roads C.wished a b := by
            rcases hx with h | ⟨h, hw⟩
            · exact ⟨x, h, .one hbr⟩
            · obtain ⟨a, ha, ra⟩ := hunt.fair x h
              exact ⟨a, ha, .more ra hw hbr⟩
          refine ⟨_, rfl, _, rfl, d, _, rfl, DGet.k (k := Sum.inl (b : Int)) hF1, _, rfl, ?_⟩
          rw [keysOf_val]
          by_cases hf : b ∈ F1
          · rw [if_pos hf]
            refine iteF ?_
            refine ⟨F1, W1, _, rfl, k4, hF1, hW1, hunt1, dn1, fun z hz => ?_, mu1⟩
            rw [take_more hb] at hz
            rcases List.mem_append.mp hz with hz | hz
            · exact took z hz
            · rw [List.mem_singleton.mp hz]
              exact hf
          · rw [if_neg hf]
            refine iteT ?_
            have len1 : F1.length < C.n := by
              have := nodup_lt (F := F1 ++ [b]) (n := C.n) (by
                rw [List.nodup_append]
                exact ⟨hunt1.nd, by simp, fun u hu v hv e => hf (by rw [← List.mem_singleton.mp hv, ← e]; exact hu)⟩) (fun u hu => by
                  rcases List.mem_append.mp hu with hu | hu
                  · exact hunt1.lt u hu
                  · rw [List.mem_singleton.mp hu]; exact hbn)
              rw [List.length_append, List.length_singleton] at this
              omega
            have nd1 : (F1 ++ [b]).Nodup := by
              rw [List.nodup_append]
              exact ⟨hunt1.nd, by simp, fun u hu v hv e => hf (by rw [← List.mem_singleton.mp hv, ← e]; exact hu)⟩
            refine ⟨_, rfl, _, rfl, d, _, rfl, DPut.k (k := Sum.inl (b : Int)) hF1 (by rw [keysOf_len]; exact small1000 (by omega)), ?_⟩
            rw [keysOf_put F1 b hf]
            have kD : Kp [d, wt] H2 (upd H4 d (.dK (keysOf (F1 ++ [b])))) := by
              intro u o n e
              rw [upd_ne (fun z => n (by rw [z]; simp))]
              exact k4 u o n e
            have hp5 : (upd H4 d (.dK (keysOf (F1 ++ [b])))) p = some (SetO w p (fun j => decide (j ∈ iN C.wished)) n0) := kD _ _ (apart _ _ hp2) hp2
            have huntF : ∀ z ∈ F1 ++ [b], z < C.n ∧ ∃ a ∈ S, Reach C.roads C.wished a z := by
              intro z hz
              rcases List.mem_append.mp hz with hz | hz
              · exact ⟨hunt1.lt z hz, hunt1.fair z hz⟩
              · rw [List.mem_singleton.mp hz]
                exact ⟨hbn, rb⟩
            have took' : ∀ z ∈ (succs C.roads x).take (i + 1), z ∈ F1 ++ [b] := by
              intro z hz
              rw [take_more hb] at hz
              rcases List.mem_append.mp hz with hz | hz
              · exact List.mem_append_left _ (took z hz)
              · exact List.mem_append_right _ hz
            refine ⟨_, rfl, _, rfl, _, p, _, _, rfl, rfl, hp5, _, rfl, ?_⟩
            have e1 : decide ((b : Int) ∈ iN C.wished) = decide (b ∈ C.wished) := decide_eq_decide.mpr iN_mem
            rw [e1]
            by_cases hw : b ∈ C.wished
            · rw [decide_eq_true hw]
              refine iteF ?_
              refine ⟨F1 ++ [b], W1, _, rfl, kD, upd_same, by rw [upd_ne ndw.symm]; exact hW1, ⟨nd1, fun z hz => (huntF z hz).1, fun z hz => (huntF z hz).2, fun z hz => ?_⟩, ⟨fun z hz => ?_⟩, took', ?_⟩
              · rcases hunt1.wait z hz with h | ⟨h, h'⟩
                · exact .inl h
                · exact .inr ⟨List.mem_append_left _ h, h'⟩
              · have hz' : z ∈ S ∨ (z ∈ F1 ∧ z ∉ C.wished) := by
                  rcases hz with h | ⟨h, h'⟩
                  · exact .inl h
                  · rcases List.mem_append.mp h with h | h
                    · exact .inr ⟨h, h'⟩
                    · rw [List.mem_singleton.mp h] at h'
                      exact absurd hw h'
                rcases dn1.ok z hz' with h | h | h
                · exact .inl h
                · exact .inr (.inl h)
                · exact .inr (.inr fun u hu => List.mem_append_left _ (h u hu))
              · rw [List.length_append, List.length_singleton]
                omega
            · rw [decide_eq_false hw]
              refine iteT ?_
              have hW5 : (upd H4 d (.dK (keysOf (F1 ++ [b])))) wt = some (.lst (W1.map vN)) := by rw [upd_ne ndw.symm]; exact hW1
              refine ⟨_, rfl, .inl ⟨rfl, _, .inl (.inl hW5)⟩, _, rfl, wt, _, _, rfl, rfl, hW5, ?_, ?_⟩
              · rw [List.length_map]
                exact small1000 (by omega)
              · refine ⟨F1 ++ [b], W1 ++ [b], _, rfl, ?_, ?_, ?_, ⟨nd1, fun z hz => (huntF z hz).1, fun z hz => (huntF z hz).2, fun z hz => ?_⟩, ⟨fun z hz => ?_⟩, took', ?_⟩
                · intro u o n e
                  rw [upd_ne (fun z => n (by rw [z]; simp))]
                  exact kD u o n e
                · rw [upd_ne ndw]
                  exact upd_same
                · rw [upd_same, List.map_append]
                  rfl
                · rcases List.mem_append.mp hz with hz | hz
                  · rcases hunt1.wait z hz with h | ⟨h, h'⟩
                    · exact .inl h
                    · exact .inr ⟨List.mem_append_left _ h, h'⟩
                  · rw [List.mem_singleton.mp hz]
                    exact .inr ⟨by simp, hw⟩
                · rcases hz with h | ⟨h, h'⟩
                  · rcases dn1.ok z (.inl h) with h | h | h
                    · exact .inl (List.mem_append_left _ h)
                    · exact .inr (.inl h)
                    · exact .inr (.inr fun u hu => List.mem_append_left _ (h u hu))
                  · rcases List.mem_append.mp h with h | h
                    · rcases dn1.ok z (.inr ⟨h, h'⟩) with h | h | h
                      · exact .inl (List.mem_append_left _ h)
                      · exact .inr (.inl h)
                      · exact .inr (.inr fun u hu => List.mem_append_left _ (h u hu))
                    · exact .inl (List.mem_append_right _ h)
                · rw [List.length_append, List.length_append, List.length_singleton]
                  omega
        · rintro σ H4 ⟨F1, W1, v7', rfl, k4, hF1, hW1, hunt1, dn1, took, mu1⟩
          refine ⟨⟨F1, W1, _, _, rfl, k4, hF1, hW1, hunt1, ⟨fun z hz => ?_⟩, by omega⟩, ?_⟩
          · rcases dn1.ok z hz with h | h | h
            · exact .inl h
            · subst h
              refine .inr (.inr fun b hb => took b ?_)
              rw [List.take_of_length_le (by rw [List.length_map]; exact Nat.le_refl _)]
              exact succs_mem.mpr hb
            · exact .inr (.inr h)
          · show hungry C.n d wt H4 < hungry C.n d wt H3
            rw [mu0, hungry_is hF1 hW1, keysOf_len, List.length_map]
            omega
    · rintro σ H' Q1 Q2 hQ ⟨v, e, k, tr, q1⟩
      exact ⟨v, e, k, tr, hQ _ _ q1⟩
end
end Ft

set_option Elab.async false
set_option linter.all false
set_option maxRecDepth 100000
set_option maxHeartbeats 4000000
namespace Ft
open PySem PySem.Spec PyProof.Rows L2
/-- the unwished places that some place of S comes to -/
noncomputable def metU (C : Chart) (S : List Nat) : List Nat := those C.n fun b => b ∉ C.wished ∧ ∃ a ∈ S, Reach C.roads C.wished a b
/-- the piece of a place -/
noncomputable def pieceOf (C : Chart) (a : Nat) : List Nat := if a ∈ C.wished then [a] else those C.n fun b => b ∉ C.wished ∧ (b = a ∨ (Reach C.roads C.wished a b ∧ Reach C.roads C.wished b a))
theorem unw_mem {C : Chart} {a : Nat} : a ∈ unw C ↔ a < C.n ∧ a ∉ C.wished := by
  unfold unw
  simp [List.mem_filter]
theorem unw_up (C : Chart) : (unw C).Pairwise (· < ·) := (range_up C.n).filter _
theorem unw_len (C : Chart) : (unw C).length ≤ C.n := by
  have := List.length_filter_le (fun a => !decide (a ∈ C.wished)) (List.range C.n)
  rwa [List.length_range] at this
theorem those_len (n : Nat) (P : Nat → Prop) : (those n P).length ≤ n := up_len (those_up n P) fun a h => (those_mem.mp h).1
/-- a dict of places, each with an object -/
def dictOf : List Nat → List Addr → List (Key × V)
  | a :: l, d :: ds => (Sum.inl (a : Int), .ref d) :: dictOf l ds
  | _, _ => []
theorem dictOf_more : ∀ (l : List Nat) (ds : List Addr) (a : Nat) (d : Addr), l.length = ds.length → dictOf (l ++ [a]) (ds ++ [d]) = dictOf l ds ++ [(Sum.inl (a : Int), .ref d)]
  | [], [], _, _, _ => rfl
  | x :: l, y :: ds, a, d, h => by
    have := dictOf_more l ds a d (Nat.succ.inj h)
    show _ :: dictOf (l ++ [a]) (ds ++ [d]) = _ :: (dictOf l ds ++ _)
    rw [this]
  | [], _ :: _, _, _, h => nomatch h
  | _ :: _, [], _, _, h => nomatch h
theorem dictOf_len : ∀ (l : List Nat) (ds : List Addr), l.length = ds.length → (dictOf l ds).length = l.length
  | [], [], _ => rfl
  | x :: l, y :: ds, h => congrArg (· + 1) (dictOf_len l ds (Nat.succ.inj h))
  | [], _ :: _, h => nomatch h
  | _ :: _, [], h => nomatch h
theorem dictOf_none : ∀ (l : List Nat) (ds : List Addr) (x : Nat), x ∉ l → valV (dictOf l ds) (Sum.inl (x : Int) : Key) = none
  | [], _, _, _ => by simp [dictOf, valV]
  | _ :: _, [], _, _ => by simp [dictOf, valV]
  | a :: l, d :: ds, x, h => by
    have ih := dictOf_none l ds x fun m => h (List.mem_cons_of_mem _ m)
    unfold valV at ih ⊢
    show ((((Sum.inl (a : Int) : Key), V.ref d) :: dictOf l ds).find? fun kv => decide (kv.1 = Sum.inl (x : Int))).map (·.2) = none
    rw [List.find?_cons]
    have e : decide (((Sum.inl (a : Int) : Key)) = Sum.inl (x : Int)) = false := by
      refine decide_eq_false fun q => h ?_
      have := Sum.inl.inj q
      have : a = x := by omega
      rw [this]
      exact List.mem_cons_self
    simp only [e]
    exact ih
theorem dictOf_val : ∀ (l : List Nat) (ds : List Addr) (i x : Nat) (d : Addr), l.Nodup → l[i]? = some x → ds[i]? = some d → valV (dictOf l ds) (Sum.inl (x : Int) : Key) = some (.ref d)
  | [], _, _, _, _, _, h, _ => by simp at h
  | _ :: _, [], _, _, _, _, _, h => by simp at h
  | a :: l, e :: ds, 0, x, d, _, h1, h2 => by
    simp at h1 h2
    subst h1 h2
    unfold valV
    show ((((Sum.inl (a : Int) : Key), V.ref e) :: dictOf l ds).find? fun kv => decide (kv.1 = Sum.inl (a : Int))).map (·.2) = some (.ref e)
    rw [List.find?_cons]
    simp
  | a :: l, e :: ds, i + 1, x, d, nd, h1, h2 => by
    obtain ⟨n1, n2⟩ := List.nodup_cons.mp nd
    have ih := dictOf_val l ds i x d n2 (by simpa using h1) (by simpa using h2)
    have hx : x ∈ l := List.mem_of_getElem? (by simpa using h1 : l[i]? = some x)
    unfold valV at ih ⊢
    show ((((Sum.inl (a : Int) : Key), V.ref e) :: dictOf l ds).find? fun kv => decide (kv.1 = Sum.inl (x : Int))).map (·.2) = some (.ref d)
    rw [List.find?_cons]
    have e2 : decide (((Sum.inl (a : Int) : Key)) = Sum.inl (x : Int)) = false := by
      refine decide_eq_false fun q => n1 ?_
      have := Sum.inl.inj q
      have : a = x := by omega
      rw [this]
      exact hx
    simp only [e2]
    exact ih
section
variable {P : Program} {w : World} {K : PySem.W.Frag} {mg : Str → Option Value} {base : Heap} {t1 t2 : Tok}
/-! ### reached_unwished -/
def sp_reached_unwished (K : PySem.W.Frag) : Sp := fun vs H Q _ => ∃ (c st : Addr) (C : Chart) (S : List Nat), vs = [.ref c, .ref st] ∧ IsChart K H c C ∧ C.Ok ∧ SqT K H st (S.map vN) ∧ (∀ a ∈ S, a < C.n) ∧ S.length ≤ 60 ∧
  ∀ q H', Same H H' → H q = none → H' q = some (.lst ((metU C S).map vN)) → Q (.ref q) H'
theorem cal_reached_unwished (T : Txt mg) (D : Def K mg "reached_unwished" s_reached_unwished) (c_reached : Cal P w K mg base 3 "reached" (sp_reached K)) : Cal P w K mg base 4 "reached_unwished" (sp_reached_unwished K) := by
  refine cal_of D sc_reached_unwished (fun _ _ _ _ _ _ us hl => match us, hl with | [_, _], _ => rfl) (fun vs H Q E h => ?_) (fun f cdv A outer s H vs Q E hr h => ?_)
  · obtain ⟨c, st, C, S, rfl, _⟩ := h
    rfl
  · obtain ⟨c, st, C, S, rfl, ⟨r, wd, ts, hC⟩, ok, hS, inS, fewS, q⟩ := h
    have n60 := ok.n60
    refine ⟨_, (pss_cons (ps_set (i := 2) sc_reached_unwished.nd rfl (Or.inr rfl) (pe_callTy (show CallR _ _ (rSetI K w) from cr_setI rfl) (by rfl) T.set (by decide +kernel) (pa_cons (pe_ix (show IxR _ (rIxT K) from ix_tup) (pv 0) pe_int (fun _ _ => rfl)) pa_nil)))
      (pss_one (ps_ret (pe_lc (own := [("place", 3)]) rfl sc_reached_unwished.nd (show PI _ _ _ (iList K _) from pi_list (pe_c c_reached hr (by decide) (by rfl) (pa_cons (pv 0) (pa_cons (pv 1) pa_nil)))) (blkOk_by (N := ["chart", "starts", "wished", "place"]) (sc := L2.defScope s_reached_unwished) (by decide +kernel)) (fun _ _ _ _ _ => (pg_name (i := 3) sc_reached_unwished.nd rfl (Or.inl rfl))) (fun _ _ _ _ _ => pts_one (pt_cmpR (show OpR _ _ (rSNotIn w) from or_snotin) (pv 3) (pv 2) (by rfl))) (fun _ _ _ _ _ => (pv 3)))))), ?_⟩
    have lenW : (iN C.wished).length ≤ 1000 := by
      rw [iN_length]
      have := up_len ok.upW ok.inW
      omega
    refine ⟨_, rfl, _, _, _, _, rfl, rfl, hC.top, rfl, wd, iN C.wished, rfl, .inr (by rw [← vN_map]; exact hC.wis), lenW, fun p n0 hp hn0 => ?_⟩
    have s1 : Same H (upd H p (SetO w p (fun j => decide (j ∈ iN C.wished)) n0)) := same_upd hp
    refine ⟨_, rfl, _, rfl, c, st, C, S, rfl, ⟨r, wd, ts, hC.same s1⟩, ok, Same.sqT s1 hS, inS, fewS, fun g H1 s2 hg hG => ?_⟩
    have hp1 : H1 p = some (SetO w p (fun j => decide (j ∈ iN C.wished)) n0) := s2 _ _ upd_same
    refine ⟨g, rfl, ⟨_, .inl (.inl hG)⟩, fun d hd => ?_⟩
    have npd : p ≠ d := ne_of_none hp1 hd
    have ngd : g ≠ d := ne_of_none hG hd
    refine lc_list (K := K) (xs := (met C.n C.roads C.wished S).map vN) (fun i H' => Same H1 (upd H' d (.lst [])) ∧ (∀ b o, H1 b = some o → H' b = some o) ∧ H' d = some (.lst ((((met C.n C.roads C.wished S).take i).filter fun a => !decide (a ∈ C.wished)).map vN)))
      ⟨fun b o e => ?_, same_upd hd, upd_same⟩ (fun i H' _ ⟨_, s3, _⟩ => .inl (.inl (s3 _ _ hG))) ?_ ?_
    · rw [upd_ne (ne_of_none e hd), upd_ne (ne_of_none e hd)]
      exact e
    · rintro i x H2 hx ⟨_, s3, hd2⟩
      obtain ⟨b, hb, rfl⟩ := get_map hx
      refine ⟨rfl, ?_⟩
      refine ⟨_, rfl, _, rfl, _, _, _, _, rfl, rfl, s3 _ _ hp1, _, rfl, ?_⟩
      have e1 : decide ((b : Int) ∈ iN C.wished) = decide (b ∈ C.wished) := decide_eq_decide.mpr iN_mem
      rw [e1, take_more hb, List.filter_append]
      by_cases hw : b ∈ C.wished
      · rw [decide_eq_true hw]
        refine iteF ⟨fun u o e => ?_, s3, ?_⟩
        · rw [upd_ne (ne_of_none e hd)]
          exact s3 u o e
        · rw [hd2]
          simp [hw]
      · rw [decide_eq_false hw]
        refine iteT ?_
        refine ⟨_, rfl, _, hd2, ?_, ?_, ?_, ?_⟩
        · rw [List.length_map]
          have h1 := List.length_filter_le (fun a => !decide (a ∈ C.wished)) ((met C.n C.roads C.wished S).take i)
          have h2 : ((met C.n C.roads C.wished S).take i).length ≤ (met C.n C.roads C.wished S).length := by rw [List.length_take]; omega
          have h3 : (met C.n C.roads C.wished S).length ≤ C.n := those_len _ _
          exact small1000 (by omega)
        · intro u o e
          rw [upd_ne (ne_of_none e hd), upd_ne (ne_of_none e hd)]
          exact s3 u o e
        · intro u o e
          rw [upd_ne (ne_of_none e hd)]
          exact s3 u o e
        · rw [upd_same, List.map_append]
          simp [hw]
    · rintro H2 ⟨_, s3, hd2⟩
      rw [List.take_of_length_le (by rw [List.length_map]; exact Nat.le_refl _)] at hd2
      have e : ((met C.n C.roads C.wished S).filter fun a => !decide (a ∈ C.wished)) = metU C S := by
        refine those_is ((those_up _ _).filter _) fun x => ?_
        rw [List.mem_filter]
        unfold met
        rw [those_mem]
        simp only [Bool.not_eq_true', decide_eq_false_iff_not]
        exact ⟨fun h => ⟨h.1.1, h.2, h.1.2⟩, fun h => ⟨⟨h.1, h.2.2⟩, h.2.1⟩⟩
      rw [e] at hd2
      exact q d H2 (fun b o eb => s3 b o (s2 b o (s1 b o eb))) ((s1.trans s2).free hd) hd2
end
end Ft

set_option Elab.async false
set_option linter.all false
set_option maxRecDepth 100000
set_option maxHeartbeats 8000000
namespace Ft
open PySem PySem.Spec PyProof.Rows L2
section
variable {P : Program} {w : World} {K : PySem.W.Frag} {mg : Str → Option Value} {base : Heap} {t1 t2 : Tok}
/-! ### piece_table -/
/-- the pieces at the addresses rows -/
def PiecesAt (K : PySem.W.Frag) (H : Hp) (C : Chart) (rows : List Addr) : Prop := rows.length = C.n ∧ ∀ x t, rows[x]? = some t → SqT K H t ((pieceOf C x).map vN)
theorem piece_filter {C : Chart} {a : Nat} (ha : a < C.n) (hw : a ∉ C.wished) : (unw C).filter (fun b => decide (a = b) || (decide (b ∈ metU C [a]) && decide (a ∈ metU C [b]))) = pieceOf C a := by
  unfold pieceOf
  rw [if_neg hw]
  refine those_is ((unw_up C).filter _) fun x => ?_
  rw [List.mem_filter, unw_mem]
  unfold metU
  simp only [Bool.or_eq_true, Bool.and_eq_true, decide_eq_true_eq, those_mem, List.mem_singleton, exists_eq_left]
  constructor
  · rintro ⟨⟨h1, h2⟩, h3⟩
    refine ⟨h1, h2, ?_⟩
    rcases h3 with e | ⟨⟨_, _, r1⟩, ⟨_, _, r2⟩⟩
    · exact .inl e.symm
    · exact .inr ⟨r1, r2⟩
  · rintro ⟨h1, h2, h3⟩
    refine ⟨⟨h1, h2⟩, ?_⟩
    rcases h3 with e | ⟨r1, r2⟩
    · exact .inl e.symm
    · exact .inr ⟨⟨h1, h2, r1⟩, ⟨ha, hw, r2⟩⟩
def sp_piece_table (K : PySem.W.Frag) : Sp := fun vs H Q _ => ∃ (c : Addr) (C : Chart), vs = [.ref c] ∧ IsChart K H c C ∧ C.Ok ∧ ∀ q rows H', Same H H' → H q = none → H' q = some (.lst (rows.map V.ref)) → PiecesAt K H' C rows → Q (.ref q) H'
theorem cal_piece_table (T : Txt mg) (D : Def K mg "piece_table" s_piece_table) (c_unwished_of : Cal P w K mg base 2 "unwished_of" (sp_unwished_of K)) (c_reached_unwished : Cal P w K mg base 4 "reached_unwished" (sp_reached_unwished K)) :
    Cal P w K mg base 5 "piece_table" (sp_piece_table K) := by
  refine cal_of D sc_piece_table (fun _ _ _ _ _ _ us hl => match us, hl with | [_], _ => rfl) (fun vs H Q E h => ?_) (fun f cdv A outer s H vs Q E hr h => ?_)
  · obtain ⟨c, C, rfl, _⟩ := h
    rfl
  · obtain ⟨c, C, rfl, ⟨r, wd, ts, hC⟩, ok, q⟩ := h
    have hu := hu_of hr
    have n60 := ok.n60
    have ulen := unw_len C
    refine ⟨_, (pss_cons (ps_set (i := 1) sc_piece_table.nd rfl (Or.inl rfl) (pe_c c_unwished_of hr (by decide) (by rfl) (pa_cons (pv 0) pa_nil)))
      (pss_cons (ps_set (i := 2) sc_piece_table.nd rfl (Or.inr rfl) (pe_dc (own := [("a", 4)]) rfl sc_piece_table.nd (show PI _ _ _ (iList K _) from pi_list (pv 1)) (blkOk_by (N := ["chart", "unwished", "comes_to", "table", "a", "b"]) (sc := L2.defScope s_piece_table) (by decide +kernel)) (fun _ _ _ _ _ => (pg_name (i := 4) sc_piece_table.nd rfl (Or.inl rfl))) (fun _ _ _ _ _ => pts_nil) (fun _ _ _ _ _ => (pv 4)) (fun _ _ _ _ _ => (pe_dc (own := [("b", 5)]) rfl sc_piece_table.nd (show PI _ _ _ (iList K _) from pi_list (pe_c c_reached_unwished hr (by decide) (by rfl) (pa_cons (pv 0) (pa_cons (pe_tup (pa_cons (pv 4) pa_nil)) pa_nil)))) (blkIn (N := ["chart", "unwished", "comes_to", "table", "a", "b"]) (sc := L2.defScope s_piece_table) rfl (by decide +kernel)) (fun _ _ _ _ _ => (pg_name (i := 5) sc_piece_table.nd rfl (Or.inl rfl))) (fun _ _ _ _ _ => pts_nil) (fun _ _ _ _ _ => (pv 5)) (fun _ _ _ _ _ => pe_bl)))))
      (pss_cons (ps_setLc (i := 3) (own := [("a", 4)]) rfl sc_piece_table.nd rfl rfl (sw_true rfl rfl rfl (by decide +kernel)) (pi_range1 (by rfl) T.range (pa_cons (pe_ix (show IxR _ (rIxT K) from ix_tup) (pv 0) pe_int (fun _ _ => rfl)) pa_nil)) (blkOk_by (N := ["chart", "unwished", "comes_to", "table", "a", "b"]) (sc := L2.defScope s_piece_table) (by decide +kernel)) (fun _ _ _ _ _ => (pg_name (i := 4) sc_piece_table.nd rfl (Or.inl rfl))) (fun _ _ _ _ _ => pts_nil) (fun _ _ _ _ _ => (pe_tup (pa_cons (pv 4) pa_nil))))
      (pss_cons (ps_for PassesOwn.never rfl (show PI _ _ _ (iList K _) from pi_list (pv 1)) (pg_name (i := 4) sc_piece_table.nd rfl (Or.inr rfl)) (pss_one (ps_asg (pe_callTy (show CallR _ _ (rTupleOf K) from call_tupleOf) (by rfl) T.tuple (by decide +kernel) (pa_cons (pe_lc (own := [("b", 5)]) rfl sc_piece_table.nd (show PI _ _ _ (iList K _) from pi_list (pv 1)) (blkOk_by (N := ["chart", "unwished", "comes_to", "table", "a", "b"]) (sc := L2.defScope s_piece_table) (by decide +kernel)) (fun _ _ _ _ _ => (pg_name (i := 5) sc_piece_table.nd rfl (Or.inl rfl))) (fun _ _ _ _ _ => pts_one (PW.pt (pw_or (pt_cmpR op_eq (pv 4) (pv 5) (nomark _)) (pw_or1 (PW.pt (pw_and (pt_cmp (pc_din hu (pv 5) (pe_dget hu (pv 2) (pv 4) (fun _ _ => rfl)))) (pw_and1 (pt_cmp (pc_din hu (pv 4) (pe_dget hu (pv 2) (pv 5) (fun _ _ => rfl))))))))))) (fun _ _ _ _ _ => (pv 5))) pa_nil)) (pg_sub (pv 3) (pv 4) set_list))))
      (pss_one (ps_ret (pv 3))))))), ?_⟩
    refine ⟨_, rfl, c, C, rfl, ⟨r, wd, ts, hC⟩, ok, fun u H1 s1 hu0 hU => ?_⟩
    have hC1 := hC.same s1
    refine ⟨_, rfl, u, rfl, ⟨_, .inl (.inl hU)⟩, fun d hd => ?_⟩
    have nud : u ≠ d := ne_of_none hU hd
    refine dc_it (walk_list (K := K) (a := u) (xs := (unw C).map vN)) (fun i H' => ∃ ds : List Addr, ds.length = i ∧ Kp [d] H1 H' ∧ H' d = some (.dK (dictOf ((unw C).take i) ds)) ∧ ∀ (j a : Nat) (e : Addr), (unw C)[j]? = some a → ds[j]? = some e → H' e = some (.dK (keysOf (metU C [a]))) ∧ e ≠ d)
      ⟨[], rfl, (fun b o n e => by rw [upd_ne (ne_of_none e hd)]; exact e), by rw [upd_same]; rfl, fun j a e _ z => by simp at z⟩
      (fun i H' _ ⟨_, _, k, _⟩ => .inl (.inl (k _ _ (by simp [nud]) hU))) ?_ ?_
    · rintro i x Hx H2 hi ⟨ds, el, k2, hD, each⟩ ⟨rfl, hx⟩
      obtain ⟨a, ha, rfl⟩ := get_map hx
      have ham := unw_mem.mp (List.mem_of_getElem? ha)
      refine ⟨rfl, ?_⟩
      refine ⟨_, rfl, ?_⟩
      have hl1 : Lists [d] H2 := by
        intro b hb
        rw [List.mem_singleton.mp hb]
        exact ⟨_, hD, (fun _ z => nomatch z), (fun _ _ z => nomatch z)⟩
      have hl0 : ∀ b ∈ [d], H1 b = none := by
        intro b hb
        rw [List.mem_singleton.mp hb]
        exact hd
      have s12 : Same H1 H2 := fun b o e => k2 b o (fun m => by rw [hl0 b m] at e; cases e) e
      refine ⟨_, rfl, _, rfl, (by show 1 ≤ sizeLine; decide), fun t ht => ?_⟩
      have s23 : Same H2 (upd H2 t (.tup [vN a])) := same_upd ht
      refine ⟨c, t, C, [a], rfl, ⟨r, wd, ts, (hC1.same s12).same s23⟩, ok, .inl (.inl upd_same), (fun b hb => by rw [List.mem_singleton.mp hb]; exact ham.1), (by show 1 ≤ 60; decide), fun g H3 s3 hg hG => ?_⟩
      have s3' : Same H2 H3 := s23.trans s3
      refine ⟨g, rfl, ⟨_, .inl (.inl hG)⟩, fun e he => ?_⟩
      have nge : g ≠ e := ne_of_none hG he
      have nde : d ≠ e := ne_of_none (s3' _ _ hD) he
      have mlen : (metU C [a]).length ≤ C.n := those_len _ _
      refine dc_it (walk_list (K := K) (a := g) (xs := (metU C [a]).map vN)) (fun j H' => Kp [e] H3 H' ∧ H' e = some (.dK (keysOf ((metU C [a]).take j))))
        ⟨fun b o n e1 => by rw [upd_ne (ne_of_none e1 he)]; exact e1, by rw [upd_same]; rfl⟩ (fun j H' _ ⟨k, _⟩ => .inl (.inl (k _ _ (by simp [nge]) hG))) ?_ ?_
      · rintro j y Hy H4 hj ⟨k4, hE⟩ ⟨rfl, hy⟩
        obtain ⟨b, hb, rfl⟩ := get_map hy
        have fresh : b ∉ (metU C [a]).take j := by
          intro m
          obtain ⟨j', hj', e1⟩ := List.getElem_of_mem m
          have lt : j' < j := by
            rw [List.length_take] at hj'
            omega
          have e2 : (metU C [a])[j']? = some b := by
            rw [← e1, List.getElem_take]
            exact List.getElem?_eq_getElem _
          have := up_get (those_up _ _) e2 hb lt
          omega
        refine ⟨rfl, ?_⟩
        refine ⟨_, rfl, _, Sum.inl (b : Int), rfl, hE, ?_, ?_, ?_⟩
        · rw [keysOf_len, List.length_take]
          exact small1000 (by omega)
        · intro x o n e1
          rw [upd_ne (fun z => n (by rw [z]; simp))]
          exact k4 x o n e1
        · rw [upd_same, keysOf_put _ _ fresh, take_more hb]
      · rintro H4 ⟨k4, hE⟩
        rw [List.take_of_length_le (by rw [List.length_map]; exact Nat.le_refl _)] at hE
        have s34 : Same H3 H4 := fun x o e1 => k4 x o (fun m => by rw [List.mem_singleton.mp m, he] at e1; cases e1) e1
        have hD4 : H4 d = some (.dK (dictOf ((unw C).take i) ds)) := s34 _ _ (s3' _ _ hD)
        have elT : ((unw C).take i).length = ds.length := by
          rw [List.length_take, el]
          have : i < (unw C).length := by rw [List.length_map] at hi; exact hi
          omega
        refine ⟨_, Sum.inl (a : Int), rfl, hD4, ?_, ds ++ [e], by rw [List.length_append, el]; rfl, ?_, ?_, ?_⟩
        · rw [dictOf_len _ _ elT, List.length_take]
          exact small1000 (by omega)
        · intro x o n e1
          rw [upd_ne (fun z => n (by rw [z]; simp))]
          exact s34 _ _ (s3' _ _ (s12 _ _ e1))
        · have fresh : a ∉ (unw C).take i := by
            intro m
            obtain ⟨j', hj', e1⟩ := List.getElem_of_mem m
            have lt : j' < i := by
              rw [List.length_take] at hj'
              omega
            have e2 : (unw C)[j']? = some a := by
              rw [← e1, List.getElem_take]
              exact List.getElem?_eq_getElem _
            have := up_get (unw_up C) e2 ha lt
            omega
          rw [upd_same, putK_new _ (dictOf_none _ _ _ fresh), take_more ha, dictOf_more _ _ _ _ elT]
        · intro j b m hb hm
          rw [List.getElem?_append] at hm
          by_cases hj : j < ds.length
          · rw [if_pos hj] at hm
            obtain ⟨e1, e2⟩ := each j b m hb hm
            exact ⟨by rw [upd_ne e2]; exact s34 _ _ (s3' _ _ e1), e2⟩
          · rw [if_neg hj] at hm
            have ej : j = i := by
              have := (List.getElem?_eq_some_iff.mp hm).1
              rw [List.length_singleton] at this
              omega
            subst ej
            have eb : b = a := Option.some.inj (hb.symm.trans ha)
            subst eb
            have em : m = e := by
              rw [el, Nat.sub_self] at hm
              exact (Option.some.inj hm).symm
            subst em
            exact ⟨by rw [upd_ne nde.symm]; exact hE, nde.symm⟩
    · rintro H2 ⟨ds, el, k2, hD, each⟩
      rw [List.length_map] at el
      rw [List.take_of_length_le (by rw [List.length_map]; exact Nat.le_refl _)] at hD
      have s12 : Same H1 H2 := fun b o e => k2 b o (fun m => by rw [List.mem_singleton.mp m, hd] at e; cases e) e
      have hU2 := s12 _ _ hU
      have hC2 := hC1.same s12
      refine ⟨_, rfl, _, _, _, _, rfl, rfl, hC2.top, rfl, _, rfl, by omega, by omega, fun tb htb => ?_⟩
      refine lc_range (lo := 0) (n := C.n) (fun i H' => ∃ rows : List Addr, rows.length = i ∧ Kp [tb] H2 H' ∧ H' tb = some (.lst (rows.map V.ref)) ∧ ∀ (x : Nat) (t : Addr), rows[x]? = some t → H' t = some (.tup [vN x]))
        ⟨[], rfl, (fun b o n e => by rw [upd_ne (ne_of_none e htb)]; exact e), upd_same, fun x t z => by simp at z⟩ ?_ ?_
      · rintro i H3 hi ⟨rows, er, k3, hT, each3⟩
        refine ⟨rfl, ?_⟩
        refine ⟨_, rfl, (by show 1 ≤ sizeLine; decide), fun t ht => ?_⟩
        have ntt : tb ≠ t := ne_of_none hT ht
        have e0 : (0 : Int) + (i : Nat) = (i : Nat) := by omega
        refine ⟨_, Eq.trans (upd_ne ntt) hT, by rw [List.length_map, er]; exact small1000 (by omega), rows ++ [t], by rw [List.length_append, er]; rfl, ?_, by rw [upd_same, List.map_append]; rfl, ?_⟩
        · intro b o n e
          have e3 := k3 b o n e
          rw [upd_ne (fun z => n (by rw [z]; simp)), upd_ne (ne_of_none e3 ht)]
          exact e3
        · intro x m hm
          rw [List.getElem?_append] at hm
          by_cases hj : x < rows.length
          · rw [if_pos hj] at hm
            have e1 := each3 x m hm
            have n1 : m ≠ tb := fun z => by rw [z, hT] at e1; cases e1
            rw [upd_ne n1, upd_ne (ne_of_none e1 ht)]
            exact e1
          · rw [if_neg hj] at hm
            have ej : x = i := by
              have := (List.getElem?_eq_some_iff.mp hm).1
              rw [List.length_singleton] at this
              omega
            subst ej
            have em : m = t := by
              rw [er, Nat.sub_self] at hm
              exact (Option.some.inj hm).symm
            subst em
            rw [upd_ne ntt.symm, upd_same, e0]
            rfl
      · rintro H3 ⟨rows, er, k3, hT, each3⟩
        have s23 : Same H2 H3 := fun b o e => k3 b o (fun m => by rw [List.mem_singleton.mp m, htb] at e; cases e) e
        have hU3 := s23 _ _ hU2
        have nut : u ≠ tb := ne_of_none hU2 htb
        refine ⟨_, rfl, u, rfl, ⟨_, .inl (.inl hU3)⟩, for_list (K := K) (xs := (unw C).map vN) (fun i σ H' => ∃ (rws : List Addr) (v4 v5 : Option V), σ = [some (.ref c), some (.ref u), some (.ref d), some (.ref tb), v4, v5] ∧ Kp [tb] H3 H' ∧ rws.length = C.n ∧ H' tb = some (.lst (rws.map V.ref)) ∧
            ∀ (x : Nat) (t : Addr), rws[x]? = some t → SqT K H' t ((if x ∈ C.wished ∨ x ∈ (unw C).take i then pieceOf C x else [x]).map vN)) ?_ (fun i σ H' _ ⟨_, _, _, _, k, _⟩ => .inl (.inl (k _ _ (by simp [nut]) hU3))) ?_ ?_⟩
        · refine ⟨rows, _, _, rfl, Kp.refl _ _, er, hT, fun x t hx => ?_⟩
          have := each3 x t hx
          rw [List.take_zero]
          have e : (if x ∈ C.wished ∨ x ∈ ([] : List Nat) then pieceOf C x else [x]) = [x] := by
            by_cases hw : x ∈ C.wished
            · rw [if_pos (.inl hw)]
              unfold pieceOf
              rw [if_pos hw]
            · rw [if_neg (by simp [hw])]
          rw [e]
          exact .inl (.inl this)
        · rintro i x σ H4 hx ⟨rws, v4, v5, rfl, k4, er4, hT4, each4⟩
          obtain ⟨a, ha, rfl⟩ := get_map hx
          have ham := unw_mem.mp (List.mem_of_getElem? ha)
          have hT3 : H3 tb = some (.lst (rows.map V.ref)) := hT
          have off : ∀ b o, H2 b = some o → H4 b = some o := fun b o e => k4 b o (by
            intro m
            rw [List.mem_singleton.mp m, htb] at e
            cases e) (s23 b o e)
          refine ⟨_, rfl, u, rfl, ⟨_, .inl (.inl (off _ _ hU2))⟩, fun e he => ?_⟩
          have keep5 : ∀ {H' : Hp}, Kp [e] H4 H' → ∀ b o, H4 b = some o → H' b = some o := fun {H'} k b o q => k b o (fun m => by rw [List.mem_singleton.mp m, he] at q; cases q) q
          refine lc_list (K := K) (xs := (unw C).map vN) (fun j H' => Kp [e] H4 H' ∧ H' e = some (.lst ((((unw C).take j).filter (fun b => decide (a = b) || (decide (b ∈ metU C [a]) && decide (a ∈ metU C [b])))).map vN)))
            ⟨fun b o n q => by rw [upd_ne (ne_of_none q he)]; exact q, upd_same⟩ (fun j H' _ ⟨k, _⟩ => .inl (.inl (keep5 k _ _ (off _ _ hU2)))) ?_ ?_
          · rintro j y H5 hy ⟨k5, hE⟩
            obtain ⟨b, hb, rfl⟩ := get_map hy
            have hbm := unw_mem.mp (List.mem_of_getElem? hb)
            have jl : j < (unw C).length := (List.getElem?_eq_some_iff.mp hb).1
            have il : i < (unw C).length := (List.getElem?_eq_some_iff.mp ha).1
            obtain ⟨da, hda⟩ : ∃ m, ds[i]? = some m := ⟨_, List.getElem?_eq_getElem (by rw [el]; exact il)⟩
            obtain ⟨db, hdb⟩ : ∃ m, ds[j]? = some m := ⟨_, List.getElem?_eq_getElem (by rw [el]; exact jl)⟩
            have hD5 : H5 d = some (.dK (dictOf (unw C) ds)) := keep5 k5 _ _ (off _ _ hD)
            have va := dictOf_val (unw C) ds i a da (up_nodup (unw_up C)) ha hda
            have vb := dictOf_val (unw C) ds j b db (up_nodup (unw_up C)) hb hdb
            have ea : H5 da = some (.dK (keysOf (metU C [a]))) := keep5 k5 _ _ (off _ _ (each i a da ha hda).1)
            have eb : H5 db = some (.dK (keysOf (metU C [b]))) := keep5 k5 _ _ (off _ _ (each j b db hb hdb).1)
            have more : Kp [e] H4 (upd H5 e (.lst ((((unw C).take j).filter (fun b => decide (a = b) || (decide (b ∈ metU C [a]) && decide (a ∈ metU C [b])))).map vN ++ [vN b]))) := by
              intro z o n q
              rw [upd_ne (fun y => n (by rw [y]; simp))]
              exact k5 z o n q
            have short : ((((unw C).take j).filter (fun b => decide (a = b) || (decide (b ∈ metU C [a]) && decide (a ∈ metU C [b])))).map vN).length < sizeLine := by
              rw [List.length_map]
              have h1 := List.length_filter_le (fun b => decide (a = b) || (decide (b ∈ metU C [a]) && decide (a ∈ metU C [b]))) ((unw C).take j)
              have h2 : ((unw C).take j).length ≤ (unw C).length := by rw [List.length_take]; omega
              exact small1000 (by omega)
            have yes : (decide (a = b) || (decide (b ∈ metU C [a]) && decide (a ∈ metU C [b]))) = true → Kp [e] H4 (upd H5 e (.lst ((((unw C).take j).filter (fun b => decide (a = b) || (decide (b ∈ metU C [a]) && decide (a ∈ metU C [b])))).map vN ++ [vN b]))) ∧
                (upd H5 e (.lst ((((unw C).take j).filter (fun b => decide (a = b) || (decide (b ∈ metU C [a]) && decide (a ∈ metU C [b])))).map vN ++ [vN b]))) e = some (.lst ((((unw C).take (j + 1)).filter (fun b => decide (a = b) || (decide (b ∈ metU C [a]) && decide (a ∈ metU C [b])))).map vN)) := by
              intro hc
              refine ⟨more, ?_⟩
              rw [upd_same, take_more hb, List.filter_append, List.filter_cons, hc, if_pos rfl, List.map_append]
              rfl
            have no : (decide (a = b) || (decide (b ∈ metU C [a]) && decide (a ∈ metU C [b]))) = false → Kp [e] H4 H5 ∧ H5 e = some (.lst ((((unw C).take (j + 1)).filter (fun b => decide (a = b) || (decide (b ∈ metU C [a]) && decide (a ∈ metU C [b])))).map vN)) := by
              intro hc
              refine ⟨k5, ?_⟩
              rw [hE, take_more hb, List.filter_append, List.filter_cons, hc, if_neg Bool.false_ne_true, List.filter_nil, List.append_nil]
            refine ⟨rfl, ?_⟩
            refine ⟨_, rfl, _, rfl, rfl, _, rfl, ?_⟩
            have e1 : decide (vN a = vN b) = decide (a = b) := by
              refine decide_eq_decide.mpr ⟨fun z => ?_, fun z => by rw [z]⟩
              have z' : (a : Int) = b := V.int.inj z
              omega
            rw [e1]
            by_cases hab : a = b
            · rw [decide_eq_true hab]
              refine iteT ?_
              exact ⟨_, rfl, _, hE, short, yes (by rw [decide_eq_true hab]; rfl)⟩
            · rw [decide_eq_false hab]
              refine iteF ?_
              have ga : DGet H5 d (vN a) (some (.ref da)) := by
                have z := DGet.k (k := Sum.inl (a : Int)) hD5
                rw [va] at z
                exact z
              have gb : DGet H5 d (vN b) (some (.ref db)) := by
                have z := DGet.k (k := Sum.inl (b : Int)) hD5
                rw [vb] at z
                exact z
              refine ⟨_, rfl, _, rfl, _, rfl, d, _, rfl, ga, da, _, rfl, DGet.k (k := Sum.inl (b : Int)) ea, _, rfl, ?_⟩
              rw [keysOf_val]
              by_cases h1 : b ∈ metU C [a]
              · rw [if_pos h1]
                refine iteT ?_
                refine ⟨_, rfl, _, rfl, _, rfl, d, _, rfl, gb, db, _, rfl, DGet.k (k := Sum.inl (a : Int)) eb, _, rfl, ?_⟩
                rw [keysOf_val]
                by_cases h2 : a ∈ metU C [b]
                · rw [if_pos h2]
                  refine iteT ?_
                  exact ⟨_, rfl, _, hE, short, yes (by rw [decide_eq_true h1, decide_eq_true h2]; simp)⟩
                · rw [if_neg h2]
                  refine iteF ?_
                  exact no (by rw [decide_eq_false hab, decide_eq_false h2]; simp)
              · rw [if_neg h1]
                refine iteF ?_
                refine iteF ?_
                exact no (by rw [decide_eq_false hab, decide_eq_false h1]; simp)
          · rintro H5 ⟨k5, hE⟩
            rw [List.take_of_length_le (by rw [List.length_map]; exact Nat.le_refl _), piece_filter ham.1 ham.2] at hE
            refine ⟨e, _, rfl, .inl ⟨.inl (.inl hE), fun tp htp => ?_⟩⟩
            have kT := keep5 k5 _ _ hT4
            have ntp : tb ≠ tp := ne_of_none kT htp
            have hix : ixN ((rws.map V.ref)).length (a : Int) = some a := by
              unfold ixN
              rw [if_pos (by omega), if_pos (by rw [List.length_map, er4]; exact_mod_cast ham.1)]
              rfl
            refine ⟨_, rfl, _, rfl, tb, _, _, a, rfl, rfl, Eq.trans (upd_ne ntp) kT, hix, ?_⟩
            refine ⟨rws.set a tp, _, _, rfl, ?_, by rw [List.length_set]; exact er4, by rw [upd_same, List.map_set], fun x t hxt => ?_⟩
            · intro b o n q
              have q5 := keep5 k5 _ _ (k4 b o n q)
              rw [upd_ne (fun y => n (by rw [y]; simp)), upd_ne (ne_of_none q5 htp)]
              exact q5
            · rw [List.getElem?_set] at hxt
              by_cases hxa : a = x
              · subst hxa
                rw [if_pos rfl, er4, if_pos ham.1] at hxt
                have et : t = tp := (Option.some.inj hxt).symm
                subst et
                rw [if_pos (.inr (by rw [take_more ha]; simp))]
                refine .inl (.inl ?_)
                rw [upd_ne ntp.symm, upd_same]
              · rw [if_neg hxa] at hxt
                have old := each4 x t hxt
                have ex : (if x ∈ C.wished ∨ x ∈ (unw C).take (i + 1) then pieceOf C x else [x]) = (if x ∈ C.wished ∨ x ∈ (unw C).take i then pieceOf C x else [x]) := by
                  rw [take_more ha]
                  simp only [List.mem_append, List.mem_singleton, fun z : x = a => hxa z.symm, or_false]
                  have nx : ¬ (x = a) := fun z => hxa z.symm
                  simp [nx]
                rw [ex]
                have kk : Kp [tb] H4 (upd (upd H5 tp (.tup ((pieceOf C a).map vN))) tb (.lst ((rws.map V.ref).set a (.ref tp)))) := by
                  intro b o n q
                  have q5 := keep5 k5 _ _ q
                  rw [upd_ne (fun y => n (by rw [y]; simp)), upd_ne (ne_of_none q5 htp)]
                  exact q5
                refine kk.sqT (fun b hb => ?_) old
                rw [List.mem_singleton.mp hb]
                exact ⟨_, hT4, (fun _ z => nomatch z), (fun _ _ z => nomatch z)⟩
        · rintro σ H4 ⟨rws, v4, v5, rfl, k4, er4, hT4, each4⟩
          rw [List.take_of_length_le (by rw [List.length_map]; exact Nat.le_refl _)] at each4
          have all : Same H2 H4 := fun b o e => k4 b o (fun m => by rw [List.mem_singleton.mp m, htb] at e; cases e) (s23 b o e)
          refine ⟨_, rfl, q tb rws H4 (fun b o e => all b o (s12 b o (s1 b o e))) (s1.free (s12.free htb)) hT4 ⟨er4, fun x t hxt => ?_⟩⟩
          have hx := each4 x t hxt
          have hxn : x < C.n := by rw [← er4]; exact (List.getElem?_eq_some_iff.mp hxt).1
          rw [if_pos] at hx
          · exact hx
          · by_cases hw : x ∈ C.wished
            · exact .inl hw
            · exact .inr (unw_mem.mpr ⟨hxn, hw⟩)
end
end Ft

set_option Elab.async false
set_option linter.all false
set_option maxRecDepth 100000
set_option maxHeartbeats 8000000
namespace Ft
open PySem PySem.Spec PyProof.Rows L2
theorem piece_self {C : Chart} {a : Nat} (h : a < C.n) : a ∈ pieceOf C a := by
  unfold pieceOf
  by_cases hw : a ∈ C.wished
  · rw [if_pos hw]
    exact List.mem_singleton.mpr rfl
  · rw [if_neg hw]
    exact those_mem.mpr ⟨h, hw, .inl rfl⟩
theorem piece_up (C : Chart) (a : Nat) : (pieceOf C a).Pairwise (· < ·) := by
  unfold pieceOf
  by_cases hw : a ∈ C.wished
  · rw [if_pos hw]
    exact List.pairwise_singleton _ _
  · rw [if_neg hw]
    exact those_up _ _
theorem piece_lt {C : Chart} {a b : Nat} (ha : a < C.n) (h : b ∈ pieceOf C a) : b < C.n := by
  unfold pieceOf at h
  by_cases hw : a ∈ C.wished
  · rw [if_pos hw] at h
    rw [List.mem_singleton.mp h]
    exact ha
  · rw [if_neg hw] at h
    exact (those_mem.mp h).1
/-- rows of places at the addresses ts -/
def RowsAt (K : PySem.W.Frag) (H : Hp) (ts : List Addr) (lls : List (List Nat)) : Prop := Paired (fun (t : Addr) (l : List Nat) => SqT K H t (l.map vN)) ts lls
theorem RowsAt.keep {K : PySem.W.Frag} {ex : List Addr} {H H' : Hp} (k : Kp ex H H') (l : Lists ex H) {ts : List Addr} {lls : List (List Nat)} (h : RowsAt K H ts lls) : RowsAt K H' ts lls := paired_imp (fun _ _ q => k.sqT l q) h
theorem RowsAt.same {K : PySem.W.Frag} {H H' : Hp} (k : Same H H') {ts : List Addr} {lls : List (List Nat)} (h : RowsAt K H ts lls) : RowsAt K H' ts lls := paired_imp (fun _ _ q => Same.sqT k q) h
theorem paired_app {α β : Type} {R : α → β → Prop} : ∀ {as as' : List α} {bs bs' : List β}, Paired R as bs → Paired R as' bs' → Paired R (as ++ as') (bs ++ bs')
  | _, _, _, _, .nil, h => h
  | _, _, _, _, .cons r t, h => .cons r (paired_app t h)
/-- whether a place is the least one of its piece -/
noncomputable def isLeast (C : Chart) (a : Nat) : Bool := decide ((pieceOf C a).head? = some a)
noncomputable def piecesL (C : Chart) : List (List Nat) := ((unw C).filter (isLeast C)).map (pieceOf C)
section
variable {P : Program} {w : World} {K : PySem.W.Frag} {mg : Str → Option Value} {base : Heap} {t1 t2 : Tok}
/-! ### unwished_pieces -/
def sp_unwished_pieces (K : PySem.W.Frag) : Sp := fun vs H Q _ => ∃ (c tb : Addr) (C : Chart) (rows : List Addr), vs = [.ref c, .ref tb] ∧ IsChart K H c C ∧ C.Ok ∧ H tb = some (.lst (rows.map V.ref)) ∧ PiecesAt K H C rows ∧
  ∀ q ts H', Same H H' → H q = none → H' q = some (.lst (ts.map V.ref)) → RowsAt K H' ts (piecesL C) → Q (.ref q) H'
theorem cal_unwished_pieces (T : Txt mg) (D : Def K mg "unwished_pieces" s_unwished_pieces) (c_unwished_of : Cal P w K mg base 2 "unwished_of" (sp_unwished_of K)) : Cal P w K mg base 3 "unwished_pieces" (sp_unwished_pieces K) := by
  refine cal_of D sc_unwished_pieces (fun _ _ _ _ _ _ us hl => match us, hl with | [_, _], _ => rfl) (fun vs H Q E h => ?_) (fun f cdv A outer s H vs Q E hr h => ?_)
  · obtain ⟨c, tb, C, rows, rfl, _⟩ := h
    rfl
  · obtain ⟨c, tb, C, rows, rfl, hC, ok, hT, ⟨er, each⟩, q⟩ := h
    have n60 := ok.n60
    have ulen := unw_len C
    refine ⟨_, (pss_one (ps_ret (pe_lc (own := [("place", 2)]) rfl sc_unwished_pieces.nd (show PI _ _ _ (iList K _) from pi_list (pe_c c_unwished_of hr (by decide) (by rfl) (pa_cons (pv 0) pa_nil))) (blkOk_by (N := ["chart", "table", "place"]) (sc := L2.defScope s_unwished_pieces) (by decide +kernel)) (fun _ _ _ _ _ => (pg_name (i := 2) sc_unwished_pieces.nd rfl (Or.inl rfl))) (fun _ _ _ _ _ => pts_one (pt_cmpR op_eq (pe_ix (show IxR _ (rIxT K) from ix_tup) (pe_ix (show IxR _ (rIxL K) from ix_list) (pv 1) (pv 2) (fun _ _ => rfl)) pe_int (fun _ _ => rfl)) (pv 2) (nomark _))) (fun _ _ _ _ _ => (pe_ix (show IxR _ (rIxL K) from ix_list) (pv 1) (pv 2) (fun _ _ => rfl)))))), ?_⟩
    refine ⟨_, rfl, c, C, rfl, hC, ok, fun u H1 s1 hu0 hU => ?_⟩
    refine ⟨u, rfl, ⟨_, .inl (.inl hU)⟩, fun e he => ?_⟩
    have keep : ∀ {H' : Hp}, Kp [e] H1 H' → Same H1 H' := fun {H'} k b o q => k b o (fun m => by rw [List.mem_singleton.mp m, he] at q; cases q) q
    refine lc_list (K := K) (xs := (unw C).map vN) (fun i H' => ∃ ts : List Addr, Kp [e] H1 H' ∧ H' e = some (.lst (ts.map V.ref)) ∧ RowsAt K H1 ts ((((unw C).take i).filter (isLeast C)).map (pieceOf C)))
      ⟨[], (fun b o n q => by rw [upd_ne (ne_of_none q he)]; exact q), upd_same, .nil⟩ (fun i H' _ ⟨_, k, _⟩ => .inl (.inl (keep k _ _ hU))) ?_ ?_
    · rintro i x H2 hx ⟨ts, k2, hE, rw2⟩
      obtain ⟨a, ha, rfl⟩ := get_map hx
      have ham := unw_mem.mp (List.mem_of_getElem? ha)
      obtain ⟨t, ht⟩ : ∃ t, rows[a]? = some t := ⟨_, List.getElem?_eq_getElem (by rw [er]; exact ham.1)⟩
      have hT2 : H2 tb = some (.lst (rows.map V.ref)) := keep k2 _ _ (s1 _ _ hT)
      have hrow1 : SqT K H1 t ((pieceOf C a).map vN) := Same.sqT s1 (each a t ht)
      have hrow : SqT K H2 t ((pieceOf C a).map vN) := Same.sqT (keep k2) hrow1
      obtain ⟨h0, rest, e0⟩ : ∃ h0 rest, pieceOf C a = h0 :: rest := by
        cases e : pieceOf C a with
        | nil =>
          have := piece_self ham.1
          rw [e] at this
          exact absurd this List.not_mem_nil
        | cons h0 rest => exact ⟨h0, rest, rfl⟩
      refine ⟨rfl, ?_⟩
      refine ⟨_, rfl, _, rfl, tb, _, _, _, rfl, rfl, .inl (.inl hT2), atI_nat (v := V.ref t) (by rw [List.getElem?_map, ht]; rfl), t, _, _, _, rfl, rfl, hrow, atI_nat (j := 0) (v := vN h0) (by rw [e0]; rfl), _, rfl, rfl, _, rfl, ?_⟩
      have e1 : decide (vN h0 = vN a) = isLeast C a := by
        unfold isLeast
        refine decide_eq_decide.mpr ?_
        rw [e0, List.head?_cons]
        constructor
        · intro z
          have z' : (h0 : Int) = a := V.int.inj z
          exact congrArg some (by omega)
        · intro z
          rw [Option.some.inj z]
      rw [e1, take_more ha, List.filter_append, List.map_append]
      cases hb : isLeast C a with
      | false =>
        refine iteF ⟨ts, k2, hE, ?_⟩
        rw [List.filter_cons, hb, if_neg Bool.false_ne_true, List.filter_nil, List.map_nil, List.append_nil]
        exact rw2
      | true =>
        refine iteT ?_
        refine ⟨_, rfl, _, rfl, tb, _, _, _, rfl, rfl, .inl (.inl hT2), atI_nat (v := V.ref t) (by rw [List.getElem?_map, ht]; rfl), _, hE, ?_, ts ++ [t], ?_, by rw [upd_same, List.map_append]; rfl, ?_⟩
        · rw [List.length_map, Paired.length rw2, List.length_map]
          have h1 := List.length_filter_le (isLeast C) ((unw C).take i)
          have h2 : ((unw C).take i).length ≤ (unw C).length := by rw [List.length_take]; omega
          exact small1000 (by omega)
        · intro b o n q
          rw [upd_ne (fun y => n (by rw [y]; simp))]
          exact k2 b o n q
        · rw [List.filter_cons, hb, if_pos rfl, List.filter_nil]
          exact paired_app rw2 (.cons hrow1 .nil)
    · rintro H2 ⟨ts, k2, hE, rw2⟩
      rw [List.take_of_length_le (by rw [List.length_map]; exact Nat.le_refl _)] at rw2
      exact q e ts H2 (fun b o z => keep k2 b o (s1 b o z)) (s1.free he) hE (rw2.same (keep k2))
/-! ### piece -/
def sp_piece (K : PySem.W.Frag) : Sp := fun vs H Q _ => ∃ (c : Addr) (C : Chart) (a : Nat), vs = [.ref c, vN a] ∧ IsChart K H c C ∧ C.Ok ∧ a < C.n ∧ ∀ t H', Same H H' → SqT K H' t ((pieceOf C a).map vN) → Q (.ref t) H'
theorem cal_piece (T : Txt mg) (D : Def K mg "piece" s_piece) (v_made_map : Cal P w K mg base 5 "made_map" (sp_made_map K)) (v_check_place : Cal P w K mg base 4 "check_place" (sp_check_place K)) (c_piece_table : Cal P w K mg base 5 "piece_table" (sp_piece_table K)) :
    Cal P w K mg base 6 "piece" (sp_piece K) := by
  refine cal_of D sc_piece (fun _ _ _ _ _ _ us hl => match us, hl with | [_, _], _ => rfl) (fun vs H Q E h => ?_) (fun f cdv A outer s H vs Q E hr h => ?_)
  · obtain ⟨c, C, a, rfl, _⟩ := h
    rfl
  · obtain ⟨c, C, a, rfl, ⟨r, wd, ts, hC⟩, ok, ha, q⟩ := h
    refine ⟨_, (pss_cons (ps_expr (pe_c v_made_map hr (by decide) (by rfl) (pa_cons (pv 0) pa_nil)))
      (pss_cons (ps_expr (pe_c v_check_place hr (by decide) (by rfl) (pa_cons (pv 0) (pa_cons (pv 1) pa_nil))))
      (pss_one (ps_ret (pe_ix (show IxR _ (rIxL K) from ix_list) (pe_c c_piece_table hr (by decide) (by rfl) (pa_cons (pv 0) pa_nil)) (pv 1) (fun _ _ => rfl)))))), ?_⟩
    refine ⟨_, rfl, c, C, rfl, ⟨r, wd, ts, hC⟩, ok, fun c' H1 s1 _ => ?_⟩
    refine ⟨_, rfl, _, rfl, c, C.n, a, r, wd, rfl, (hC.same s1).top, ha, ?_⟩
    refine ⟨_, rfl, c, C, rfl, ⟨r, wd, ts, hC.same s1⟩, ok, fun tb rows H2 s2 _ hT hP => ?_⟩
    obtain ⟨t, ht⟩ : ∃ t, rows[a]? = some t := ⟨_, List.getElem?_eq_getElem (by rw [hP.1]; exact ha)⟩
    exact ⟨_, rfl, tb, _, _, _, rfl, rfl, .inl (.inl hT), atI_nat (v := V.ref t) (by rw [List.getElem?_map, ht]; rfl), q t H2 (s1.trans s2) (hP.2 a t ht)⟩
/-! ### pieces -/
def sp_pieces (K : PySem.W.Frag) : Sp := fun vs H Q _ => ∃ (c : Addr) (C : Chart), vs = [.ref c] ∧ IsChart K H c C ∧ C.Ok ∧ ∀ q ts H', Same H H' → SqT K H' q (ts.map V.ref) → RowsAt K H' ts (piecesL C) → Q (.ref q) H'
theorem cal_pieces (T : Txt mg) (D : Def K mg "pieces" s_pieces) (v_made_map : Cal P w K mg base 5 "made_map" (sp_made_map K)) (c_unwished_pieces : Cal P w K mg base 3 "unwished_pieces" (sp_unwished_pieces K)) (c_piece_table : Cal P w K mg base 5 "piece_table" (sp_piece_table K)) :
    Cal P w K mg base 6 "pieces" (sp_pieces K) := by
  refine cal_of D sc_pieces (fun _ _ _ _ _ _ us hl => match us, hl with | [_], _ => rfl) (fun vs H Q E h => ?_) (fun f cdv A outer s H vs Q E hr h => ?_)
  · obtain ⟨c, C, rfl, _⟩ := h
    rfl
  · obtain ⟨c, C, rfl, hC, ok, q⟩ := h
    refine ⟨_, (pss_cons (ps_expr (pe_c v_made_map hr (by decide) (by rfl) (pa_cons (pv 0) pa_nil)))
      (pss_one (ps_ret (pe_callTy (show CallR _ _ (rTupleOf K) from call_tupleOf) (by rfl) T.tuple (by decide +kernel) (pa_cons (pe_c c_unwished_pieces hr (by decide) (by rfl) (pa_cons (pv 0) (pa_cons (pe_c c_piece_table hr (by decide) (by rfl) (pa_cons (pv 0) pa_nil)) pa_nil))) pa_nil))))), ?_⟩
    refine ⟨_, rfl, c, C, rfl, hC, ok, fun c' H1 s1 _ => ?_⟩
    refine ⟨_, rfl, _, rfl, c, C, rfl, hC.same s1, ok, fun tb rows H2 s2 _ hT hP => ?_⟩
    refine ⟨c, tb, C, rows, rfl, (hC.same s1).same s2, ok, hT, hP, fun u ts H3 s3 _ hU hR => ?_⟩
    refine ⟨u, _, rfl, .inl ⟨.inl (.inl hU), fun p hp => ?_⟩⟩
    have s4 : Same H3 (upd H3 p (.tup (ts.map V.ref))) := same_upd hp
    exact q p ts _ (((s1.trans s2).trans s3).trans s4) (.inl (.inl upd_same)) (hR.same s4)
end
end Ft

set_option Elab.async false
set_option linter.all false
set_option maxRecDepth 100000
set_option maxHeartbeats 8000000
namespace Ft
open PySem PySem.Spec PyProof.Rows L2
/-- the draws' pool stands at p, its further cells at l -/
def PoolAt (H : Hp) (p l : Addr) : Prop := ∃ (a b : Int) (cs : List Int), H p = some (.lst [.int a, .int b, .ref l]) ∧ H l = some (.lst (cs.map V.int)) ∧ 0 ≤ a ∧ 0 ≤ b
theorem PoolAt.ne {H : Hp} {p l : Addr} (h : PoolAt H p l) : p ≠ l := by
  obtain ⟨a, b, cs, h1, h2, _⟩ := h
  intro e
  subst e
  have z := Option.some.inj (h1.symm.trans h2)
  have z2 : ([V.int a, V.int b, V.ref p] : List V) = cs.map V.int := by injection z
  have z3 : V.ref p ∈ cs.map V.int := by rw [← z2]; simp
  obtain ⟨c, _, e⟩ := List.mem_map.mp z3
  exact nomatch e
theorem PoolAt.lists {H : Hp} {p l : Addr} (h : PoolAt H p l) : Lists [p, l] H := by
  obtain ⟨a, b, cs, h1, h2, _⟩ := h
  intro x hx
  rcases List.mem_cons.mp hx with e | hx
  · rw [e]
    exact ⟨_, h1, (fun _ z => nomatch z), (fun _ _ z => nomatch z)⟩
  · rw [List.mem_singleton.mp hx]
    exact ⟨_, h2, (fun _ z => nomatch z), (fun _ _ z => nomatch z)⟩
theorem PoolAt.same {H H' : Hp} {p l : Addr} (k : Same H H') (h : PoolAt H p l) : PoolAt H' p l := by
  obtain ⟨a, b, cs, h1, h2, h3⟩ := h
  exact ⟨a, b, cs, k _ _ h1, k _ _ h2, h3⟩
theorem PoolAt.free {H : Hp} {p l : Addr} (h : PoolAt H p l) {q : Addr} (n : H q = none) : q ∉ [p, l] := by
  obtain ⟨a, b, cs, h1, h2, _⟩ := h
  intro m
  rcases List.mem_cons.mp m with e | m
  · rw [e, h1] at n
    cases n
  · rw [List.mem_singleton.mp m, h2] at n
    cases n
theorem ints_shaped (cs : List Int) : SeqAt.shaped (.list (cs.map .int)) = true := by
  unfold SeqAt.shaped
  have h1 : ∀ cs : List Int, PyData.canLayAll0 (cs.map .int) = true := by
    intro cs
    induction cs with
    | nil => simp [PyData.canLayAll0]
    | cons c cs ih => simp [PyData.canLayAll0, PyData.canLay0, ih]
  have h2 : PyData.depth (.list (cs.map .int)) = 1 := by
    simp only [PyData.depth, PySem.W.depth_ints]
  rw [h2]
  simp [PyData.canLay0, h1]
section
variable {P : Program} {w : World} {K : PySem.W.Frag} {mg : Str → Option Value} {base : Heap} {t1 t2 : Tok}
/-! ### _law_pool -/
def sp_law_pool (K : PySem.W.Frag) : Sp := fun vs H Q _ => ∃ (a : Addr) (ns : List Int), vs = [.ref a] ∧ SqL K H a (ns.map V.int) ∧ ∀ p l H', Same H H' → H p = none → H l = none → PoolAt H' p l → Q (.ref p) H'
theorem cal_law_pool (T : Txt mg) (D : Def K mg "_law_pool" s_law_pool) : Cal P w K mg base 2 "_law_pool" (sp_law_pool K) := by
  refine cal_of D sc_law_pool (fun _ _ _ _ _ _ us hl => match us, hl with | [_], _ => rfl) (fun vs H Q E h => ?_) (fun f cdv A outer s H vs Q E hr h => ?_)
  · obtain ⟨a, ns, rfl, _⟩ := h
    rfl
  · obtain ⟨a, ns, rfl, hS, q⟩ := h
    refine ⟨_, (pss_cons (ps_set (i := 1) sc_law_pool.nd rfl (Or.inl rfl) (pe_mid (pe_ifExp (pt_cmpR op_gt (pe_callB (show CallR _ _ (rLenS K) from call_lenS) (by rfl) T.len (by decide +kernel) (pa_cons (pv 0) pa_nil)) pe_int (nomark _)) (pe_callTy call_int1 (by rfl) T.int (by decide +kernel) (pa_cons (pe_ix (show IxR _ (rIxL K) from ix_list) (pv 0) pe_int (fun _ _ => rfl)) pa_nil)) pe_int)))
      (pss_cons (ps_set (i := 2) sc_law_pool.nd rfl (Or.inl rfl) (pe_mid (pe_ifExp (pt_cmpR op_ge (pv 1) pe_int (nomark _)) (pe_op op_mul pe_int (pv 1)) (pe_op op_sub (pe_un un_neg pe_int) (pe_op op_mul pe_int (pv 1))))))
      (pss_one (ps_ret (pe_lst (pa_cons (pe_mid (pe_ifExp (pt_cmpR op_ge (pv 2) (pe_op op_pow pe_int pe_int) (nomark _)) (pv 2) pe_int)) (pa_cons (pe_op op_add (pe_op op_mod (pe_callTy call_int1 (by rfl) T.int (by decide +kernel) (pa_cons (pe_op op_add (pe_op op_mul (pv 2) pe_int) pe_int) pa_nil)) pe_int) pe_int) (pa_cons (pe_callTy (show CallR _ _ (rListOf K) from call_listOf) (by rfl) T.list (by decide +kernel) (pa_cons (pe_slice (show SlR _ (rSlL K) from sl_list) (pv 0) (po_some pe_int) po_none) pa_nil)) pa_nil)))))))), ?_⟩
    refine ⟨fun v H' => ∃ x : Int, v = .int x ∧ H' = H, ⟨_, rfl, a, _, rfl, .inl hS, _, _, rfl, rfl, _, rfl, ite_any (fun h => ?_) (fun h => ⟨0, rfl, rfl⟩)⟩, ?_⟩
    · have h0 := of_decide_eq_true h
      cases ns with
      | nil => exact absurd h0 (by simp)
      | cons n0 ns => exact ⟨_, rfl, a, _, _, _, rfl, rfl, hS, atI_nat (j := 0) (v := V.int n0) rfl, .inl ⟨_, rfl, _, rfl, rfl⟩⟩
    rintro v H1 ⟨x, rfl, rfl⟩
    refine ⟨fun v H' => ∃ x : Int, v = .int x ∧ H' = H1 ∧ 0 ≤ x, ⟨_, rfl, _, _, rfl, rfl, _, rfl, ite_any (fun h => ?_) (fun h => ?_)⟩, ?_⟩
    · have h0 := of_decide_eq_true h
      exact ⟨_, rfl, _, _, rfl, rfl, .inl ⟨by decide, by decide⟩, _, rfl, rfl, by omega⟩
    · have h0 := of_decide_eq_false h
      exact ⟨_, rfl, _, rfl, _, _, rfl, rfl, .inl ⟨by decide, by decide⟩, _, _, rfl, rfl, _, rfl, rfl, by omega⟩
    rintro v H2 ⟨y, rfl, rfl, hy⟩
    refine ⟨fun v H' => ∃ x : Int, v = .int x ∧ H' = H2 ∧ 0 ≤ x, ⟨_, rfl, _, _, rfl, rfl, ⟨by decide, by decide, by decide⟩, _, _, rfl, rfl, _, rfl, ite_any (fun h => ⟨_, rfl, y, rfl, rfl, hy⟩) (fun h => ⟨0, rfl, rfl, by decide⟩)⟩, ?_⟩
    rintro v H3 ⟨z, rfl, rfl, hz⟩
    refine ⟨_, rfl, _, _, rfl, rfl, .inr ⟨by decide, by decide⟩, _, _, rfl, rfl, .inl ⟨_, rfl, _, _, rfl, rfl, (by show (0 : Int) < 2147483629; decide), _, _, rfl, rfl, ?_⟩⟩
    refine ⟨_, rfl, _, rfl, a, _, rfl, hS, fun e he => ?_⟩
    refine ⟨e, _, rfl, .inl (.inl (.inl upd_same)), fun l hl => ?_⟩
    refine ⟨by show 3 ≤ sizeLine; decide, fun p hp => ?_⟩
    have nel : e ≠ l := ne_of_none upd_same hl
    have npl : l ≠ p := ne_of_none upd_same hp
    have hl0 : H3 l = none := by rw [upd_ne nel.symm] at hl; exact hl
    have s1 : Same H3 (upd (upd H3 e (.lst (cutV (ns.map V.int) (some 1) none))) l (.lst (cutV (ns.map V.int) (some 1) none))) := (same_upd he).trans (same_upd hl)
    refine q p l _ (s1.trans (same_upd hp)) (s1.free hp) hl0 ?_
    refine ⟨z, _, (cutV (ns.map V.int) (some 1) none).map (fun v => match v with | .int i => i | _ => 0), upd_same, ?_, hz, ?_⟩
    · rw [upd_ne npl, upd_same]
      congr 2
      rw [List.map_map]
      conv => lhs; rw [← List.map_id (cutV (ns.map V.int) (some 1) none)]
      refine List.map_congr_left fun v hv => ?_
      have : v ∈ ns.map V.int := by
        unfold cutV at hv
        exact List.mem_of_mem_drop (List.mem_of_mem_take hv)
      obtain ⟨i, _, rfl⟩ := List.mem_map.mp this
      rfl
    · have := Int.emod_nonneg (y * 48271 + 1009) (show (2147483629 : Int) ≠ 0 by decide)
      omega
/-! ### _law_draw -/
def sp_law_draw : Sp := fun vs H Q _ => ∃ (p l : Addr) (m : Nat), vs = [.ref p, vN m] ∧ PoolAt H p l ∧ 0 < m ∧ m < 1073741824 ∧ ∀ (r : Nat) H', r < m → PoolAt H' p l → Kp [p, l] H H' → Q (vN r) H'
theorem cal_law_draw (T : Txt mg) (D : Def K mg "_law_draw" s_law_draw) : Cal P w K mg base 2 "_law_draw" sp_law_draw := by
  refine cal_of D sc_law_draw (fun _ _ _ _ _ _ us hl => match us, hl with | [_, _], _ => rfl) (fun vs H Q E h => ?_) (fun f cdv A outer s H vs Q E hr h => ?_)
  · obtain ⟨p, l, m, rfl, _⟩ := h
    rfl
  · obtain ⟨p, l, m, rfl, hP, m0, m1, q⟩ := h
    have hU := hr.units
    have npl := hP.ne
    refine ⟨_, (ps_cut (ps_if (PW.pt (pw_and (pt_cmpR op_eq (pe_ix (show IxR _ (rIxL K) from ix_list) (pv 0) pe_int (fun _ _ => rfl)) pe_int (nomark _)) (pw_and1 (pt_cmpR (show OpR _ _ (rNeD K) from op_neD hU) (pe_ix (show IxR _ (rIxL K) from ix_list) (pv 0) pe_int (fun _ _ => rfl)) (pe_lst pa_nil) (nomark _))))) (pss_cons (ps_set (i := 2) sc_law_draw.nd rfl (Or.inl rfl) (pe_callTy call_int1 (by rfl) T.int (by decide +kernel) (pa_cons (pe_bm PySem.F.plainAttrs_list PySem.F.slot_list_pop PySem.F.type_list_pop mt_popAt (pe_ix (show IxR _ (rIxL K) from ix_list) (pv 0) pe_int (fun _ _ => rfl)) (pa_cons pe_int pa_nil)) pa_nil)))
        (pss_cons (ps_set (i := 3) sc_law_draw.nd rfl (Or.inl rfl) (pe_mid (pe_ifExp (pt_cmpR op_ge (pv 2) pe_int (nomark _)) (pe_op op_mul pe_int (pv 2)) (pe_op op_sub (pe_un un_neg pe_int) (pe_op op_mul pe_int (pv 2))))))
        (pss_cons (ps_asg (pe_mid (pe_ifExp (pt_cmpR op_ge (pv 3) (pe_op op_pow pe_int pe_int) (nomark _)) (pv 3) pe_int)) (pg_sub (pv 0) pe_int set_list))
        (pss_one (ps_asg (pe_op op_add (pe_op op_mod (pe_callTy call_int1 (by rfl) T.int (by decide +kernel) (pa_cons (pe_op op_add (pe_ix (show IxR _ (rIxL K) from ix_list) (pv 0) pe_int (fun _ _ => rfl)) (pe_op op_mul (pv 3) pe_int)) pa_nil)) pe_int) pe_int) (pg_sub (pv 0) pe_int set_list)))))) pss_nil)
      (pss_cons (ps_if (pt_cmpR op_gt (pe_ix (show IxR _ (rIxL K) from ix_list) (pv 0) pe_int (fun _ _ => rfl)) pe_int (nomark _)) (pss_cons (ps_set (i := 4) sc_law_draw.nd rfl (Or.inl rfl) (pe_op op_mod (pe_callTy call_int1 (by rfl) T.int (by decide +kernel) (pa_cons (pe_ix (show IxR _ (rIxL K) from ix_list) (pv 0) pe_int (fun _ _ => rfl)) pa_nil)) (pv 1)))
        (pss_cons (ps_asg (pe_op op_fdiv (pe_ix (show IxR _ (rIxL K) from ix_list) (pv 0) pe_int (fun _ _ => rfl)) (pv 1)) (pg_sub (pv 0) pe_int set_list))
        (pss_one (ps_ret (pv 4))))) pss_nil)
      (pss_cons (ps_asg (pe_op op_mod (pe_callTy call_int1 (by rfl) T.int (by decide +kernel) (pa_cons (pe_op op_add (pe_op op_mul (pe_ix (show IxR _ (rIxL K) from ix_list) (pv 0) pe_int (fun _ _ => rfl)) pe_int) pe_int) pa_nil)) pe_int) (pg_sub (pv 0) pe_int set_list))
      (pss_one (ps_ret (pe_op op_mod (pe_op op_fdiv (pe_op op_mod (pe_callTy call_int1 (by rfl) T.int (by decide +kernel) (pa_cons (pe_op op_mul (pe_ix (show IxR _ (rIxL K) from ix_list) (pv 0) pe_int (fun _ _ => rfl)) (pe_ix (show IxR _ (rIxL K) from ix_list) (pv 0) pe_int (fun _ _ => rfl))) pa_nil)) pe_int) pe_int) (pv 1))))))), ?_⟩
    refine ⟨fun σ' H' => ∃ v2 v3 : Option V, σ' = [some (.ref p), some (vN m), v2, v3, none] ∧ PoolAt H' p l ∧ Kp [p, l] H H', ?_, ?_⟩
    · obtain ⟨a, b, cs, h1, h2, ha, hb⟩ := id hP
      refine ⟨_, rfl, p, _, _, _, rfl, rfl, .inl (.inl h1), rfl, rfl, _, rfl, ite_any (fun _ => ?_) (fun _ => ?_)⟩
      · refine ⟨_, rfl, p, _, _, _, rfl, rfl, .inl (.inl h1), rfl, Nat.zero_le _, fun e he => ?_⟩
        have s1 : Same H (upd H e (.lst [])) := same_upd he
        have nep : p ≠ e := ne_of_none h1 he
        have nel : l ≠ e := ne_of_none h2 he
        have h1' := s1 _ _ h1
        have h2' := s1 _ _ h2
        refine ⟨.list (cs.map .int), .list [], .lst (.inl (.inl h2')) (dpAll_ints cs), .lst (.inl (.inl upd_same)) .nil, ints_shaped cs, rfl, _, rfl, ite_any (fun hc => ?_) (fun _ => ?_)⟩
        · cases cs with
          | nil => exact absurd hc (by decide)
          | cons c cs =>
            have n1 : (-(2 ^ 63) : Int) ≤ 0 := by decide
            have n2 : (0 : Int) < 2 ^ 63 := by decide
            refine ⟨_, rfl, p, _, _, _, rfl, rfl, .inl (.inl h1'), rfl, .inl ⟨rfl, _, .inl (.inl h2')⟩, l, _, 0, 0, .int c, rfl, rfl, h2', n1, n2, ?_, rfl, .inl ⟨_, rfl, ?_⟩⟩
            · simp [seqIndex?]
            have h1b : (upd (upd H e (.lst [])) l (.lst ((List.map V.int (c :: cs)).eraseIdx 0))) p = some (.lst [.int a, .int b, .ref l]) := by rw [upd_ne npl]; exact h1'
            obtain ⟨Hc, eHc⟩ : ∃ Hc, Hc = upd (upd H e (.lst [])) l (.lst ((List.map V.int (c :: cs)).eraseIdx 0)) := ⟨_, rfl⟩
            rw [← eHc] at h1b ⊢
            refine ⟨fun v H' => ∃ x : Int, v = .int x ∧ H' = Hc ∧ 0 ≤ x, ⟨_, rfl, _, _, rfl, rfl, _, rfl, ite_any (fun h => ?_) (fun h => ?_)⟩, ?_⟩
            · have h0 := of_decide_eq_true h
              exact ⟨_, rfl, _, _, rfl, rfl, .inl ⟨by decide, by decide⟩, _, rfl, rfl, by omega⟩
            · have h0 := of_decide_eq_false h
              exact ⟨_, rfl, _, rfl, _, _, rfl, rfl, .inl ⟨by decide, by decide⟩, _, _, rfl, rfl, _, rfl, rfl, by omega⟩
            rintro v H2 ⟨y, rfl, rfl, hy⟩
            refine ⟨fun v H' => ∃ x : Int, v = .int x ∧ H' = H2 ∧ 0 ≤ x, ⟨_, rfl, _, _, rfl, rfl, ⟨by decide, by decide, by decide⟩, _, _, rfl, rfl, _, rfl, ite_any (fun h => ⟨_, rfl, y, rfl, rfl, hy⟩) (fun h => ⟨0, rfl, rfl, by decide⟩)⟩, ?_⟩
            rintro v H3 ⟨z, rfl, rfl, hz⟩
            subst eHc
            refine ⟨_, rfl, p, _, _, 0, rfl, rfl, h1b, rfl, ?_⟩
            refine ⟨_, rfl, p, _, _, _, rfl, rfl, .inl (.inl upd_same), rfl, _, rfl, _, _, rfl, rfl, .inr ⟨by decide, by decide⟩, _, _, rfl, rfl, .inl ⟨_, rfl, _, _, rfl, rfl, (by show (0 : Int) < 2147483629; decide), _, _, rfl, rfl, ?_⟩⟩
            refine ⟨_, rfl, p, _, _, 1, rfl, rfl, upd_same, rfl, ?_⟩
            refine ⟨_, _, rfl, ⟨z, _, cs, upd_same, ?_, hz, ?_⟩, ?_⟩
            · rw [upd_ne npl.symm, upd_ne npl.symm, upd_same]
              rfl
            · have := Int.emod_nonneg (b + y * 69621) (show (2147483629 : Int) ≠ 0 by decide)
              omega
            · intro b' o n e'
              have n1 : b' ≠ p := fun z => n (by rw [z]; simp)
              have n2 : b' ≠ l := fun z => n (by rw [z]; simp)
              rw [upd_ne n1, upd_ne n1, upd_ne n2]
              exact s1 _ _ e'
        · exact ⟨_, _, rfl, hP.same s1, Same.kp s1⟩
      · exact ⟨_, _, rfl, hP, Kp.refl _ _⟩
    · rintro σ' H1 ⟨v2, v3, rfl, ⟨a, b, cs, h1, h2, ha, hb⟩, k1⟩
      refine ⟨_, rfl, p, _, _, _, rfl, rfl, .inl (.inl h1), rfl, _, _, rfl, rfl, _, rfl, ite_any (fun hc => ?_) (fun hc => ?_)⟩
      · refine ⟨_, rfl, p, _, _, _, rfl, rfl, .inl (.inl h1), rfl, .inl ⟨_, rfl, _, rfl, _, _, rfl, rfl, (by show (0 : Int) < (m : Int); omega), ?_⟩⟩
        refine ⟨_, rfl, p, _, _, _, rfl, rfl, .inl (.inl h1), rfl, _, rfl, _, _, rfl, rfl, ⟨by show (0 : Int) < (m : Int); omega, by show (m : Int) < 1073741824; omega⟩, ?_⟩
        refine ⟨_, rfl, p, _, _, 0, rfl, rfl, h1, rfl, ?_⟩
        have h3 := Int.emod_nonneg a (show (m : Int) ≠ 0 by omega)
        have h4 := Int.emod_lt_of_pos a (show (0 : Int) < m by omega)
        refine ⟨_, rfl, ?_⟩
        have e0 : V.int (a % (m : Int)) = vN (a % (m : Int)).toNat := by
          unfold vN
          rw [Int.toNat_of_nonneg h3]
        show Q (V.int (a % (m : Int))) _
        rw [e0]
        refine q _ _ (by omega) ⟨a / m, b, cs, upd_same, by rw [upd_ne npl.symm]; exact h2, Int.ediv_nonneg ha (by omega), hb⟩ ?_
        intro b' o n e'
        rw [upd_ne (fun z => n (by rw [z]; simp))]
        exact k1 _ _ n e'
      · refine ⟨_, rfl, p, _, _, _, rfl, rfl, .inl (.inl h1), rfl, _, _, rfl, rfl, .inr ⟨by decide, by decide⟩, _, _, rfl, rfl, .inl ⟨_, rfl, _, _, rfl, rfl, (by show (0 : Int) < 2147483647; decide), ?_⟩⟩
        refine ⟨_, rfl, p, _, _, 1, rfl, rfl, h1, rfl, ?_⟩
        have h3 := Int.emod_nonneg (b * 48271 + 11) (show (2147483647 : Int) ≠ 0 by decide)
        have h4 := Int.emod_lt_of_pos (b * 48271 + 11) (show (0 : Int) < 2147483647 by decide)
        refine ⟨_, rfl, p, _, _, _, rfl, rfl, .inl (.inl upd_same), rfl, _, rfl, p, _, _, _, rfl, rfl, .inl (.inl upd_same), rfl, _, _, rfl, rfl, .inl ⟨by omega, by omega⟩, .inl ⟨_, rfl, _, _, rfl, rfl, (by show (0 : Int) < 2147483629; decide), ?_⟩⟩
        refine ⟨_, _, rfl, rfl, ⟨by decide, by decide⟩, _, rfl, _, _, rfl, rfl, (by show (0 : Int) < (m : Int); omega), ?_⟩
        have h5 := Int.emod_nonneg ((b * 48271 + 11) % 2147483647 * ((b * 48271 + 11) % 2147483647) % 2147483629 / 32) (show (m : Int) ≠ 0 by omega)
        have h6 := Int.emod_lt_of_pos ((b * 48271 + 11) % 2147483647 * ((b * 48271 + 11) % 2147483647) % 2147483629 / 32) (show (0 : Int) < m by omega)
        show Q (V.int (((b * 48271 + 11) % 2147483647 * ((b * 48271 + 11) % 2147483647) % 2147483629 / 32) % (m : Int))) _
        generalize ((b * 48271 + 11) % 2147483647 * ((b * 48271 + 11) % 2147483647) % 2147483629 / 32) % (m : Int) = z at h5 h6 ⊢
        have e0 : V.int z = vN z.toNat := by
          unfold vN
          rw [Int.toNat_of_nonneg h5]
        rw [e0]
        refine q _ _ (by omega) ⟨a, (b * 48271 + 11) % 2147483647, cs, upd_same, by rw [upd_ne npl.symm]; exact h2, ha, h3⟩ ?_
        intro b' o n e'
        rw [upd_ne (fun z => n (by rw [z]; simp))]
        exact k1 _ _ n e'
end
end Ft

set_option Elab.async false
set_option linter.all false
set_option maxRecDepth 100000
set_option maxHeartbeats 4000000
/-! isinstance of the error that a suite holds, whose class is known only then and which has a dict of its own. -/
namespace Ft
open PySem PySem.Spec PyProof.Rows L2
/-- what a class says so that isinstance asks its errors rightly -/
structure IsC (K : PySem.W.Frag) (C : Addr) : Prop where
  cl : (PySem.W.clsIn K C).isSome = true
  ga : PySem.W.findIn K (.ref C) "__getattribute__" = some (some (.builtin "BaseException.__getattribute__"))
  gg : PySem.W.findIn K (.ref C) "__getattr__" = some none
  ex : PySem.W.subIn K (.ref C) (.type "BaseException") = some true
  ha : PySem.W.findIn K (.ref C) "__class__" = some (some (.builtin "object.__class__"))
  hn : PySem.W.specialIn K (.builtin "object.__class__") "__get__" = some (some (.builtin "getset_descriptor.__get__"))
  ht : PySem.W.takesIn K (.builtin "object.__class__") = some true
  hm : PySem.W.mroIn K C (.type "object") = some true
def rIsX (K : PySem.W.Frag) (a : Addr) (cls : Value) (d : Option Addr) (cv : Value) : List V → Hp → VK → Prop := fun xs H Q => ∃ (c : V) (b : Bool) (C dd : Addr) (v : V), xs = [.ref a, c] ∧ (∀ u, RelV c u → u = cv) ∧ cls = .ref C ∧ IsC K C ∧ d = some dd ∧ H dd = some (.xd [("what", v)]) ∧ PySem.W.kitOne K (.ref C) cv = some b ∧ Q (.bl b) H
theorem call_isX {X : Cx} {a : Addr} {oe : Obj} {cls : Value} {d : Option Addr} {cv : Value} {pn : List (Addr × Obj)} (hz : Zc cls d oe) (hf : ∃ vs, oe.data = .fields vs) : CallR (X.suite a ((a, oe) :: pn)) (.builtin "isinstance") (rIsX X.K a cls d cv) := by
  intro pins s σ H xs us Q I r h
  obtain ⟨c, b, C, dd, v, rfl, hcv, rfl, ic, rfl, hdd, e, q⟩ := h
  cases r with
  | cons rx rr =>
    cases rr with
    | cons rt rr =>
      cases rr
      cases rx
      have ec := hcv _ rt
      subst ec
      obtain ⟨ha, _⟩ := I.pin (a, oe) (List.mem_append_left _ List.mem_cons_self)
      obtain ⟨vs, hd⟩ := hf
      have hx : ObjOk X.prog X.w H s.heap dd (.xd [("what", v)]) := I.hok dd _ hdd
      obtain ⟨mA, hns, hr⟩ := hx
      obtain ⟨od, ho, hl⟩ := lookIn_ns hns
      have J : PySem.W.InstAt s.heap a oe C (some od) := ⟨ha, hz.1, by unfold PySem.W.notCls; rw [hd] <;> rfl, by rw [hz.2]; exact ho⟩
      exact PySem.W.kia_one (PySem.W.kitx_exc ic.cl ic.ga ic.gg ic.ex ic.ha ic.hn ic.ht ic.hm) I.kIn J e (fun z => nomatch z) fun tk => ⟨.bl b, H, I.kept (t' := tk) fun _ _ z => z, rfl, q⟩
/-- an error of class c is one of class d, too; of the builtin one d -/
def Kit (K : PySem.W.Frag) (ca : Str → Addr) (c d : Str) : Prop := PySem.W.kitOne K (.ref (ca c)) (.ref (ca d)) = some true
def KitB (K : PySem.W.Frag) (ca : Str → Addr) (c : Str) (d : String) : Prop := PySem.W.kitOne K (.ref (ca c)) (.type d) = some true
end Ft

set_option Elab.async false
set_option linter.all false
set_option maxRecDepth 100000
set_option maxHeartbeats 4000000
namespace Ft
open PySem PySem.Spec PyProof.Rows L2
/-! x in t, t a tuple of data of any depth; t[i], t a list or a tuple; a class as a value -/
def rInTD (K : PySem.W.Frag) : R2 := fun x y H Q => ∃ d ds, Dp K H x d ∧ Dp K H y (.tuple ds) ∧ SeqAt.shaped d = true ∧ SeqAt.shaped (.tuple ds) = true ∧ Q (.bl (ds.any fun z => PyData.eqv z d)) H
def rNotInTD (K : PySem.W.Frag) : R2 := fun x y H Q => ∃ d ds, Dp K H x d ∧ Dp K H y (.tuple ds) ∧ SeqAt.shaped d = true ∧ SeqAt.shaped (.tuple ds) = true ∧ Q (.bl (!ds.any fun z => PyData.eqv z d)) H
theorem op_inTD {X : Cx} (hu : X.A.units + 65 < cLine) : OpR X (compareOp .In) (rInTD X.K) := by
  intro pins s σ H x y v u Q I rx ry h
  obtain ⟨d, ds, hd, he, sd, se, q⟩ := h
  obtain ⟨as, r1⟩ := Dp.reads I d x v hd rx
  obtain ⟨bs, r2⟩ := Dp.reads I (.tuple ds) y u he ry
  exact SeqAt.in_tuple_reads r2 r1 (SeqAt.canLay_of_shaped se) (SeqAt.canLay_of_shaped sd) (room_in_shaped sd hu) ⟨.bl _, H, I, rfl, q⟩
theorem op_notInTD {X : Cx} (hu : X.A.units + 65 < cLine) : OpR X (compareOp .NotIn) (rNotInTD X.K) := by
  intro pins s σ H x y v u Q I rx ry h
  obtain ⟨d, ds, hd, he, sd, se, q⟩ := h
  obtain ⟨as, r1⟩ := Dp.reads I d x v hd rx
  obtain ⟨bs, r2⟩ := Dp.reads I (.tuple ds) y u he ry
  exact SeqAt.notIn_tuple_reads r2 r1 (SeqAt.canLay_of_shaped se) (SeqAt.canLay_of_shaped sd) (room_in_shaped sd hu) ⟨.bl _, H, I, rfl, q⟩
def rIxA (K : PySem.W.Frag) : R2 := fun x y H Q => rIxL K x y H Q ∨ rIxT K x y H Q
theorem ix_any {X : Cx} : IxR X (rIxA X.K) := fun value slice pins s σ H x y v u Q I rx ry h hs => h.elim (fun h => ix_list value slice pins s σ H x y v u Q I rx ry h hs) (fun h => ix_tup value slice pins s σ H x y v u Q I rx ry h hs)
theorem pe_globC {X : Cx} {x : Str} {C : Addr} {pos : Pos} (hg : Gl X x) (h : X.mg x = some (.ref C)) (hd : (x == ("__debug__" : Str)) = false := by decide) : PE X (.Name x pos) (tC (.ref C)) := pe_glob (v := .ref C) hg h rfl hd
end Ft

set_option Elab.async false
set_option linter.all false
set_option maxRecDepth 100000
set_option maxHeartbeats 8000000
namespace Ft
open PySem PySem.Spec PyProof.Rows L2
theorem seqIndex_nat {r n : Nat} (h : r < n) : seqIndex? (r : Int) n = some r := by
  unfold seqIndex?
  have h0 : ¬ ((r : Int) < 0) := by omega
  have h1 : (r : Int) < n := by omega
  have h2 : (0 : Int) ≤ (r : Int) := by omega
  simp [h0, h1, h2]
theorem map_erase {α β : Type} (f : α → β) : ∀ (l : List α) (i : Nat), (l.map f).eraseIdx i = (l.eraseIdx i).map f
  | [], _ => rfl
  | _ :: _, 0 => rfl
  | a :: l, i + 1 => congrArg (f a :: ·) (map_erase f l i)
theorem cons_erase {α : Type} : ∀ {l : List α} {r : Nat} {x : α}, l[r]? = some x → (x :: l.eraseIdx r).Perm l
  | [], _, _, h => by simp at h
  | a :: l, 0, x, h => by
    have e : a = x := by simpa using h
    rw [e]
    exact List.Perm.refl _
  | a :: l, r + 1, x, h => (List.Perm.swap a x (l.eraseIdx r)).trans ((cons_erase (l := l) (r := r) (by simpa using h)).cons a)
theorem rgV_nat (n : Nat) : rgV 0 (n : Int) = (List.range n).map vN := by
  unfold rgV
  have e : ((n : Int) - 0).toNat = n := by omega
  rw [e]
  refine List.map_congr_left fun i _ => ?_
  show V.int (0 + (i : Int)) = V.int (i : Int)
  rw [Int.zero_add]
section
variable {P : Program} {w : World} {K : PySem.W.Frag} {mg : Str → Option Value} {base : Heap} {t1 t2 : Tok}
/-! ### _law_pick, of a list -/
def sp_law_pick (K : PySem.W.Frag) : Sp := fun vs H Q _ => ∃ (p l t : Addr) (xs : List V), vs = [.ref p, .ref t] ∧ PoolAt H p l ∧ SqL K H t xs ∧ t ∉ [p, l] ∧ 0 < xs.length ∧ xs.length < 1073741824 ∧ ∀ x H', x ∈ xs → PoolAt H' p l → Kp [p, l] H H' → Q x H'
theorem cal_law_pick (T : Txt mg) (D : Def K mg "_law_pick" s_law_pick) (c_law_draw : Cal P w K mg base 2 "_law_draw" sp_law_draw) : Cal P w K mg base 3 "_law_pick" (sp_law_pick K) := by
  refine cal_of D sc_law_pick (fun _ _ _ _ _ _ us hl => match us, hl with | [_, _], _ => rfl) (fun vs H Q E h => ?_) (fun f cdv A outer s H vs Q E hr h => ?_)
  · obtain ⟨p, l, t, xs, rfl, _⟩ := h
    rfl
  · obtain ⟨p, l, t, xs, rfl, hP, hT, off, n0, n1, q⟩ := h
    refine ⟨_, (pss_one (ps_ret (pe_ix (show IxR _ (rIxL K) from ix_list) (pv 1) (pe_c c_law_draw hr (by decide) (by rfl) (pa_cons (pv 0) (pa_cons (pe_callB (show CallR _ _ (rLenS K) from call_lenS) (by rfl) T.len (by decide +kernel) (pa_cons (pv 1) pa_nil)) pa_nil))) (fun _ _ => rfl)))), ?_⟩
    refine ⟨_, rfl, _, rfl, _, rfl, t, xs, rfl, .inl hT, p, l, xs.length, rfl, hP, n0, n1, fun r H1 hr1 hP1 k1 => ?_⟩
    exact ⟨t, xs, (r : Int), _, rfl, rfl, k1.sqL off hT, atI_nat (List.getElem?_eq_getElem hr1), q _ _ (List.getElem_mem hr1) hP1 k1⟩
/-! ### _law_turned -/
def sp_law_turned (K : PySem.W.Frag) : Sp := fun vs H Q _ => ∃ (p l : Addr) (m : Nat), vs = [.ref p, vN m] ∧ PoolAt H p l ∧ m ≤ 1000 ∧ ∀ (q : Addr) (perm : List Nat) (H' : Hp), perm.Perm (List.range m) → H q = none → H' q = some (.lst (perm.map vN)) → PoolAt H' p l → Kp [p, l] H H' → Q (.ref q) H'
theorem cal_law_turned (T : Txt mg) (D : Def K mg "_law_turned" s_law_turned) (c_law_draw : Cal P w K mg base 2 "_law_draw" sp_law_draw) : Cal P w K mg base 3 "_law_turned" (sp_law_turned K) := by
  refine cal_of D sc_law_turned (fun _ _ _ _ _ _ us hl => match us, hl with | [_, _], _ => rfl) (fun vs H Q E h => ?_) (fun f cdv A outer s H vs Q E hr h => ?_)
  · obtain ⟨p, l, m, rfl, _⟩ := h
    rfl
  · obtain ⟨p, l, m, rfl, hP, m1, q⟩ := h
    refine ⟨_, (pss_cons (ps_par (i := 2) (j := 3) (by rfl) sc_law_turned.nd rfl rfl (by decide) rfl rfl (pa_cons (pe_listRg rfl (by rfl) T.list (prg_1 (by rfl) T.range (pv 1))) (pa_cons (pe_lst pa_nil) pa_nil)) (by rfl))
      (pss_cons (ps_for PassesOwn.never rfl (pi_range1 (by rfl) T.range (pa_cons (pv 1) pa_nil)) (pg_name (i := 4) sc_law_turned.nd rfl (Or.inl rfl)) (pss_one (ps_expr (pe_bm PySem.F.plainAttrs_list PySem.F.slot_list_append PySem.F.type_list_append mt_append (pv 3) (pa_cons (pe_bm PySem.F.plainAttrs_list PySem.F.slot_list_pop PySem.F.type_list_pop mt_popAt (pv 2) (pa_cons (pe_c c_law_draw hr (by decide) (by rfl) (pa_cons (pv 0) (pa_cons (pe_callB (show CallR _ _ (rLenS K) from call_lenS) (by rfl) T.len (by decide +kernel) (pa_cons (pv 2) pa_nil)) pa_nil))) pa_nil)) pa_nil)))))
      (pss_one (ps_ret (pv 3))))), ?_⟩
    refine ⟨_, rfl, _, rfl, .of_le (by omega) (by omega) (by omega) (by omega), fun a ha => ?_⟩
    have s1 : Same H (upd H a (.lst (rgV 0 (m : Int)))) := same_upd ha
    have hA : (upd H a (.lst (rgV 0 (m : Int)))) a = some (.lst ((List.range m).map vN)) := by rw [upd_same, rgV_nat]
    generalize upd H a (.lst (rgV 0 (m : Int))) = H1 at s1 hA
    refine ⟨Nat.zero_le _, fun d hd => ?_⟩
    have nad : a ≠ d := ne_of_none hA hd
    have s2 : Same H1 (upd H1 d (.lst [])) := same_upd hd
    refine ⟨_, _, rfl, ?_⟩
    have k0 : ∀ b, b ∈ [p, l] → b ≠ a ∧ b ≠ d := by
      intro b hb
      obtain ⟨o, e, _⟩ := hP.lists b hb
      exact ⟨ne_of_none e ha, ne_of_none (s1 _ _ e) hd⟩
    refine ⟨_, rfl, _, rfl, by omega, by omega, for_range (lo := 0) (n := m) (fun i σ H' => ∃ (L F : List Nat) (v4 : Option V), σ = [some (.ref p), some (vN m), some (.ref a), some (.ref d), v4] ∧ PoolAt H' p l ∧ Kp [p, l] H H' ∧ H' a = some (.lst (L.map vN)) ∧ H' d = some (.lst (F.map vN)) ∧ (F ++ L).Perm (List.range m) ∧ F.length = i)
      ⟨List.range m, [], _, rfl, (hP.same s1).same s2, Same.kp (s1.trans s2), s2 _ _ hA, upd_same, List.Perm.refl _, rfl⟩ ?_ ?_⟩
    · rintro i σ H2 hi ⟨L, F, v4, rfl, hP2, k2, hL, hF, pm, eF⟩
      have len := pm.length_eq
      rw [List.length_append, List.length_range, eF] at len
      refine ⟨_, rfl, .inl ⟨rfl, _, .inl (.inl hF)⟩, _, rfl, .inl ⟨rfl, _, .inl (.inl hL)⟩, ?_⟩
      refine ⟨_, rfl, _, rfl, a, _, rfl, .inl (.inl (.inl hL)), p, l, L.length, ?_, hP2, by omega, by omega, fun r H3 hr3 hP3 k3 => ?_⟩
      · rw [List.length_map]
        rfl
      have na : a ∉ [p, l] := fun m => (k0 a m).1 rfl
      have nd : d ∉ [p, l] := fun m => (k0 d m).2 rfl
      have hL3 := k3 _ _ na hL
      have hF3 := k3 _ _ nd hF
      obtain ⟨x, hx⟩ : ∃ x, L[r]? = some x := ⟨_, List.getElem?_eq_getElem hr3⟩
      refine ⟨a, _, (r : Int), r, vN x, rfl, rfl, hL3, by omega, by omega, seqIndex_nat (by rw [List.length_map]; exact hr3), by rw [List.getElem?_map, hx]; rfl, ?_⟩
      have hF4 : (upd H3 a (.lst ((L.map vN).eraseIdx r))) d = some (.lst (F.map vN)) := by rw [upd_ne nad.symm]; exact hF3
      refine ⟨d, _, _, rfl, rfl, hF4, by rw [List.length_map, eF]; exact small1000 (by omega), L.eraseIdx r, F ++ [x], _, rfl, ?_, ?_, ?_, ?_, ?_, by rw [List.length_append, eF]; rfl⟩
      · obtain ⟨a1, b1, cs, h1, h2, h3⟩ := hP3
        exact ⟨a1, b1, cs, by rw [upd_ne (k0 p (by simp)).2, upd_ne (k0 p (by simp)).1]; exact h1, by rw [upd_ne (k0 l (by simp)).2, upd_ne (k0 l (by simp)).1]; exact h2, h3⟩
      · intro b o n e
        have na1 : b ≠ a := ne_of_none e ha
        have nd1 : b ≠ d := ne_of_none (s1 _ _ e) hd
        rw [upd_ne nd1, upd_ne na1]
        exact k3 b o n (k2 b o n e)
      · rw [upd_ne nad, upd_same, map_erase]
      · rw [upd_same, List.map_append]
        rfl
      · have pe : (x :: L.eraseIdx r).Perm L := cons_erase hx
        have e1 : F ++ [x] ++ L.eraseIdx r = F ++ (x :: L.eraseIdx r) := by simp
        rw [e1]
        exact (List.Perm.append_left F pe).trans pm
    · rintro σ H2 ⟨L, F, v4, rfl, hP2, k2, hL, hF, pm, eF⟩
      have len := pm.length_eq
      rw [List.length_append, List.length_range, eF] at len
      have eL : L = [] := List.length_eq_zero_iff.mp (by omega)
      subst eL
      rw [List.append_nil] at pm
      exact ⟨_, rfl, q d F H2 pm (s1.free hd) hF hP2 k2⟩
end
end Ft

set_option Elab.async false
set_option linter.all false
set_option maxRecDepth 100000
set_option maxHeartbeats 8000000
namespace Ft
open PySem PySem.Spec PyProof.Rows L2
/-! ### rows of two numbers, sorted -/
def two (p : Nat × Nat) : List Int := [(p.1 : Int), (p.2 : Int)]
theorem two_lt {p q : Nat × Nat} (le : two p ≤ two q) (ne : two p ≠ two q) : ltP p q := by
  unfold two at le ne
  rw [List.cons_le_cons_iff] at le
  rcases le with h | ⟨h1, h2⟩
  · exact .inl (by omega)
  · rw [List.cons_le_cons_iff] at h2
    rcases h2 with h | ⟨h3, _⟩
    · exact .inr ⟨by omega, by omega⟩
    · exact absurd (by rw [h1, h3]) ne
theorem two_inj {p q : Nat × Nat} (h : two p = two q) : p = q := by
  unfold two at h
  simp only [List.cons.injEq, and_true] at h
  exact Prod.ext (by omega) (by omega)
theorem rows_two : ∀ (L : List Row), (∀ r ∈ L, ∃ p, r.2 = two p) → ∃ ps : List (Nat × Nat), L.map (·.2) = ps.map two
  | [], _ => ⟨[], rfl⟩
  | r :: L, h => by
    obtain ⟨p, hp⟩ := h r List.mem_cons_self
    obtain ⟨ps, hps⟩ := rows_two L fun q hq => h q (List.mem_cons_of_mem _ hq)
    exact ⟨p :: ps, by rw [List.map_cons, List.map_cons, hp, hps]⟩
theorem rows_up {L : List Row} {ps : List (Nat × Nat)} (e : L.map (·.2) = ps.map two) (up : L.Pairwise fun q r => q.2 ≤ r.2) (nd : (L.map (·.2)).Nodup) : ps.Pairwise ltP := by
  have h1 : (ps.map two).Pairwise (· ≤ ·) := by
    rw [← e]
    exact List.pairwise_map.mpr up
  rw [e] at nd
  have h2 := List.Pairwise.and h1 nd
  exact (List.pairwise_map.mp h2).imp fun h => two_lt h.1 h.2
theorem rows_pairs {K : PySem.W.Frag} {H : Hp} : ∀ {L : List Row} {ps : List (Nat × Nat)}, L.map (·.2) = ps.map two → (∀ r ∈ L, SqT K H r.1 (r.2.map V.int)) → PairsAt K H (L.map (·.1)) ps
  | [], [], _, _ => .nil
  | [], _ :: _, e, _ => nomatch e
  | _ :: _, [], e, _ => nomatch e
  | r :: L, p :: ps, e, h => by
    rw [List.map_cons, List.map_cons] at e
    injection e with e1 e2
    refine .cons ?_ (rows_pairs e2 fun q hq => h q (List.mem_cons_of_mem _ hq))
    have := h r List.mem_cons_self
    rw [e1] at this
    exact this
/-! ### maps whose places are named anew -/
/-- the new name of a place -/
def nm (perm : List Nat) (a : Nat) : Nat := perm.getD a 0
theorem nm_get {perm : List Nat} {a : Nat} (h : a < perm.length) : perm[a]? = some (nm perm a) := by
  unfold nm
  rw [List.getD_eq_getElem?_getD, List.getElem?_eq_getElem h]
  rfl
structure Named (n : Nat) (prs : List (Nat × Nat)) (ws perm : List Nat) (C : Chart) : Prop where
  n : C.n = n
  ok : C.Ok
  roads : ∀ x y, (x, y) ∈ C.roads ↔ ∃ a b, (a, b) ∈ prs ∧ x = nm perm a ∧ y = nm perm b
  wished : ∀ x, x ∈ C.wished ↔ ∃ a ∈ ws, x = nm perm a
theorem perm_lt {perm : List Nat} {n : Nat} (pm : perm.Perm (List.range n)) {a : Nat} (h : a < n) : nm perm a < n := by
  have len : perm.length = n := by rw [pm.length_eq, List.length_range]
  have := List.mem_of_getElem? (nm_get (perm := perm) (a := a) (by rw [len]; exact h))
  exact List.mem_range.mp (pm.mem_iff.mp this)
theorem nm_at {perm : List Nat} {n : Nat} (pm : perm.Perm (List.range n)) {a : Nat} (h : a < n) : atI (perm.map vN) (a : Int) = some (vN (nm perm a)) := by
  have len : perm.length = n := by rw [pm.length_eq, List.length_range]
  refine atI_nat ?_
  rw [List.getElem?_map, nm_get (by rw [len]; exact h)]
  rfl
section
variable {P : Program} {w : World} {K : PySem.W.Frag} {mg : Str → Option Value} {base : Heap} {t1 t2 : Tok}
/-! ### _law_map_named -/
def sp_law_map_named (K : PySem.W.Frag) : Sp := fun vs H Q _ => ∃ (p l ro wi : Addr) (n : Nat) (ts : List Addr) (prs : List (Nat × Nat)) (ws : List Nat), vs = [.ref p, vN n, .ref ro, .ref wi] ∧ PoolAt H p l ∧ n ≤ 60 ∧
  H ro = some (.lst (ts.map V.ref)) ∧ ro ∉ [p, l] ∧ PairsAt K H ts prs ∧ prs.length < 64 ∧ (∀ q ∈ prs, q.1 < n ∧ q.2 < n) ∧ H wi = some (.lst (ws.map vN)) ∧ wi ∉ [p, l] ∧ ws.length < 64 ∧ (∀ a ∈ ws, a < n) ∧
  ∀ (q c na : Addr) (perm : List Nat) (C : Chart) (H' : Hp), perm.Perm (List.range n) → H q = none → H na = none → H' q = some (.lst [.ref c, .ref na]) → IsChart K H' c C → H' na = some (.lst (perm.map vN)) → Named n prs ws perm C → PoolAt H' p l → Kp [p, l] H H' → Q (.ref q) H'
theorem cal_law_map_named (T : Txt mg) (D : Def K mg "_law_map_named" s_law_map_named) (c_law_turned : Cal P w K mg base 3 "_law_turned" (sp_law_turned K)) : Cal P w K mg base 4 "_law_map_named" (sp_law_map_named K) := by
  refine cal_of D sc_law_map_named (fun _ _ _ _ _ _ us hl => match us, hl with | [_, _, _, _], _ => rfl) (fun vs H Q E h => ?_) (fun f cdv A outer s H vs Q E hr h => ?_)
  · obtain ⟨p, l, ro, wi, n, ts, prs, ws, rfl, _⟩ := h
    rfl
  · obtain ⟨p, l, ro, wi, n, ts, prs, ws, rfl, hP, n60, hRo, oR, hPr, fewP, inP, hWi, oW, fewW, inW, q⟩ := h
    have hU := hr.units
    refine ⟨_, (pss_cons (ps_set (i := 4) sc_law_map_named.nd rfl (Or.inr rfl) (pe_c c_law_turned hr (by decide) (by rfl) (pa_cons (pv 0) (pa_cons (pv 1) pa_nil))))
      (pss_cons (ps_set (i := 5) sc_law_map_named.nd rfl (Or.inl rfl) (pe_callTy (show CallR _ _ (rTupleOf K) from call_tupleOf) (by rfl) T.tuple (by decide +kernel) (pa_cons (pe_callB (show CallR _ _ (rSortedS K P w) from cr_sortedSR rfl hU) (by rfl) T.sorted (by decide +kernel) (pa_cons (pe_callTy (show CallR _ _ (rSetOfT K P w) from cr_setOfT rfl hU) (by rfl) T.set (by decide +kernel) (pa_cons (pe_lc (own := [("a", 6), ("b", 7)]) rfl sc_law_map_named.nd (show PI _ _ _ (iList K _) from pi_list (pv 2)) (blkOk_by (N := ["pool", "places", "roads", "wished", "names", "told", "a", "b"]) (sc := L2.defScope s_law_map_named) (by decide +kernel)) (fun _ _ _ _ _ => (show PG _ _ (gTup K 2 _) from pg_tup (by rfl) (pgs_cons (pg_name (i := 6) sc_law_map_named.nd rfl (Or.inl rfl)) (pgs_cons (pg_name (i := 7) sc_law_map_named.nd rfl (Or.inl rfl)) pgs_nil)))) (fun _ _ _ _ _ => pts_nil) (fun _ _ _ _ _ => (pe_tup (pa_cons (pe_ix (show IxR _ (rIxL K) from ix_list) (pv 4) (pv 6) (fun _ _ => rfl)) (pa_cons (pe_ix (show IxR _ (rIxL K) from ix_list) (pv 4) (pv 7) (fun _ _ => rfl)) pa_nil))))) pa_nil)) pa_nil)) pa_nil)))
      (pss_one (ps_ret (pe_lst (pa_cons (pe_tup (pa_cons (pv 1) (pa_cons (pv 5) (pa_cons (pe_callTy (show CallR _ _ (rTupleOf K) from call_tupleOf) (by rfl) T.tuple (by decide +kernel) (pa_cons (pe_callB (show CallR _ _ (rSortedSet w) from cr_sortedSet rfl) (by rfl) T.sorted (by decide +kernel) (pa_cons (pe_callTy (show CallR _ _ (rSetI K w) from cr_setI rfl) (by rfl) T.set (by decide +kernel) (pa_cons (pe_lc (own := [("a", 6)]) rfl sc_law_map_named.nd (show PI _ _ _ (iList K _) from pi_list (pv 3)) (blkOk_by (N := ["pool", "places", "roads", "wished", "names", "told", "a", "b"]) (sc := L2.defScope s_law_map_named) (by decide +kernel)) (fun _ _ _ _ _ => (pg_name (i := 6) sc_law_map_named.nd rfl (Or.inl rfl))) (fun _ _ _ _ _ => pts_nil) (fun _ _ _ _ _ => (pe_ix (show IxR _ (rIxL K) from ix_list) (pv 4) (pv 6) (fun _ _ => rfl)))) pa_nil)) pa_nil)) pa_nil)) pa_nil)))) (pa_cons (pv 4) pa_nil))))))), ?_⟩
    refine ⟨_, rfl, _, rfl, p, l, n, rfl, hP, by omega, fun na perm H1 pm hna hN hP1 k1 => ?_⟩
    have hRo1 := k1 _ _ oR hRo
    have hWi1 := k1 _ _ oW hWi
    have hPr1 : PairsAt K H1 ts prs := hPr.keep k1 hP.lists
    refine ⟨_, rfl, ro, rfl, ⟨_, .inl (.inl hRo1)⟩, fun d hd => ?_⟩
    have keep : ∀ {H' : Hp}, Kp [d] H1 H' → Same H1 H' := fun {H'} k b o e => k b o (fun m => by rw [List.mem_singleton.mp m, hd] at e; cases e) e
    refine lc_list (K := K) (xs := ts.map V.ref) (fun i H' => ∃ rows : List Row, rows.map (·.2) = (prs.take i).map (fun q => two (nm perm q.1, nm perm q.2)) ∧ Kp [d] H1 H' ∧ H' d = some (.lst (rows.map fun r => V.ref r.1)) ∧ ∀ r ∈ rows, H' r.1 = some (.tup (r.2.map V.int)))
      ⟨[], rfl, (fun b o x e => by rw [upd_ne (ne_of_none e hd)]; exact e), upd_same, fun r h => nomatch h⟩ (fun i H' _ ⟨_, _, k, _⟩ => .inl (.inl (keep k _ _ hRo1))) ?_ ?_
    · rintro i x H2 hx ⟨rows, e2, k2, hD, all⟩
      obtain ⟨t, ht, rfl⟩ := get_map hx
      obtain ⟨q0, hq0, pt⟩ := paired_getL hPr1 ht
      obtain ⟨b1, b2⟩ := inP q0 (List.mem_of_getElem? hq0)
      have hN2 := keep k2 _ _ hN
      have il : i < prs.length := (List.getElem?_eq_some_iff.mp hq0).1
      have el : rows.length = i := by
        have := congrArg List.length e2
        rw [List.length_map, List.length_map, List.length_take] at this
        omega
      refine ⟨t, _, rfl, Same.sqT (keep k2) pt, rfl, _, _, rfl, _, _, rfl, rfl, rfl, ?_⟩
      refine ⟨_, rfl, _, rfl, na, _, _, _, rfl, rfl, .inl (.inl hN2), nm_at pm b1, _, rfl, _, rfl, na, _, _, _, rfl, rfl, .inl (.inl hN2), nm_at pm b2, (by show 2 ≤ sizeLine; decide), fun e he => ?_⟩
      have nde : d ≠ e := ne_of_none hD he
      refine ⟨_, Eq.trans (upd_ne nde) hD, by rw [List.length_map, el]; exact small1000 (by omega), rows ++ [(e, two (nm perm q0.1, nm perm q0.2))], ?_, ?_, by rw [upd_same, List.map_append]; rfl, ?_⟩
      · rw [List.map_append, e2, take_more hq0, List.map_append]
        rfl
      · intro b o nb eb
        have := k2 b o nb eb
        rw [upd_ne (fun z => nb (by rw [z]; simp)), upd_ne (ne_of_none this he)]
        exact this
      · intro r hr'
        rcases List.mem_append.mp hr' with hr' | hr'
        · have := all r hr'
          have n1 : r.1 ≠ d := fun z => by rw [z, hD] at this; cases this
          rw [upd_ne n1, upd_ne (ne_of_none this he)]
          exact this
        · rw [List.mem_singleton.mp hr', upd_ne nde.symm, upd_same]
          rfl
    rintro H2 ⟨rows, e2, k2, hD, all⟩
    rw [List.take_of_length_le (by rw [List.length_map]; exact Nat.le_of_eq (Paired.length hPr1).symm)] at e2
    have elen : rows.length = prs.length := by
      have := congrArg List.length e2
      rw [List.length_map, List.length_map] at this
      exact this
    have shape : ∀ r ∈ rows, ∃ z, r.2 = two z := by
      intro r hr'
      have : r.2 ∈ rows.map (·.2) := List.mem_map.mpr ⟨r, hr', rfl⟩
      rw [e2] at this
      obtain ⟨z, _, ez⟩ := List.mem_map.mp this
      exact ⟨_, ez.symm⟩
    refine ⟨d, rows, rfl, .inl (.inl hD), (fun r hr' => .inl (.inl (all r hr'))), by omega, fun a L ha sub sup => ?_⟩
    have s3 : Same H2 (upd H2 a (SetTO P w a L)) := same_upd ha
    refine ⟨a, L, rfl, upd_same, (fun r hr' => Same.sqT s3 (.inl (.inl (all r (sub r hr'))))), (fun r hr' => by obtain ⟨z, ez⟩ := shape r (sub r hr'); rw [ez]; exact fun y => nomatch y), fun L' u pm' nd few pw hu' => ?_⟩
    have s4 : Same H2 (upd (upd H2 a (SetTO P w a L)) u (.lst (L'.map fun r => V.ref r.1))) := s3.trans (same_upd hu')
    refine ⟨u, _, rfl, .inl ⟨.inl (.inl upd_same), fun tp htp => ?_⟩⟩
    have s5 := s4.trans (same_upd (o := .tup (L'.map fun r => V.ref r.1)) htp)
    have hTp : (upd (upd (upd H2 a (SetTO P w a L)) u (.lst (L'.map fun r => V.ref r.1))) tp (.tup (L'.map fun r => V.ref r.1))) tp = some (.tup (L'.map fun r => V.ref r.1)) := upd_same
    generalize upd (upd (upd H2 a (SetTO P w a L)) u (.lst (L'.map fun r => V.ref r.1))) tp (.tup (L'.map fun r => V.ref r.1)) = H3 at s5 hTp
    have sub' : ∀ r ∈ L', r ∈ rows := fun r hr' => sub r (pm'.mem_iff.mp hr')
    obtain ⟨rds, erds⟩ := rows_two L' fun r hr' => shape r (sub' r hr')
    have upR : rds.Pairwise ltP := rows_up erds pw nd
    have hRd : PairsAt K H3 (L'.map (·.1)) rds := rows_pairs erds fun r hr' => .inl (.inl (s5 _ _ (all r (sub' r hr'))))
    have memR : ∀ x y, (x, y) ∈ rds ↔ ∃ a b, (a, b) ∈ prs ∧ x = nm perm a ∧ y = nm perm b := by
      intro x y
      have h1 : (x, y) ∈ rds ↔ two (x, y) ∈ rds.map two := by
        constructor
        · intro h
          exact List.mem_map.mpr ⟨_, h, rfl⟩
        · intro h
          obtain ⟨z, hz, ez⟩ := List.mem_map.mp h
          rw [← two_inj ez]
          exact hz
      rw [h1, ← erds]
      constructor
      · intro h
        obtain ⟨r, hr', er⟩ := List.mem_map.mp h
        have : r.2 ∈ rows.map (·.2) := List.mem_map.mpr ⟨r, sub' r hr', rfl⟩
        rw [e2, er] at this
        obtain ⟨⟨a', b'⟩, hab, ez⟩ := List.mem_map.mp this
        have := two_inj ez
        injection this with z1 z2
        exact ⟨a', b', hab, z1.symm, z2.symm⟩
      · rintro ⟨a', b', hab, rfl, rfl⟩
        have : two (nm perm a', nm perm b') ∈ rows.map (·.2) := by
          rw [e2]
          exact List.mem_map.mpr ⟨(a', b'), hab, rfl⟩
        obtain ⟨r, hr', er⟩ := List.mem_map.mp this
        have h2 := sup r hr'
        rw [er] at h2
        exact (pm'.map (·.2)).mem_iff.mpr h2
    have s13 : Same H1 H3 := (keep k2).trans s5
    have hN3 := s13 _ _ hN
    have hWi3 := s13 _ _ hWi1
    refine ⟨_, rfl, _, rfl, _, rfl, wi, rfl, ⟨_, .inl (.inl hWi3)⟩, fun d2 hd2 => ?_⟩
    have keep2 : ∀ {H' : Hp}, Kp [d2] H3 H' → Same H3 H' := fun {H'} k b o e => k b o (fun m => by rw [List.mem_singleton.mp m, hd2] at e; cases e) e
    refine lc_list (K := K) (xs := ws.map vN) (fun i H' => Kp [d2] H3 H' ∧ H' d2 = some (.lst (((ws.take i).map (nm perm)).map vN)))
      ⟨(fun b o x e => by rw [upd_ne (ne_of_none e hd2)]; exact e), upd_same⟩ (fun i H' _ ⟨k, _⟩ => .inl (.inl (keep2 k _ _ hWi3))) ?_ ?_
    · rintro i x H4 hx ⟨k4, hD4⟩
      obtain ⟨a', ha', rfl⟩ := get_map hx
      have il : i < ws.length := (List.getElem?_eq_some_iff.mp ha').1
      refine ⟨rfl, ?_⟩
      refine ⟨_, rfl, _, rfl, na, _, _, _, rfl, rfl, .inl (.inl (keep2 k4 _ _ hN3)), nm_at pm (inW a' (List.mem_of_getElem? ha')), _, hD4, ?_, ?_, ?_⟩
      · rw [List.length_map, List.length_map, List.length_take]
        exact small1000 (by omega)
      · intro b o nb eb
        rw [upd_ne (fun z => nb (by rw [z]; simp))]
        exact k4 b o nb eb
      · rw [upd_same, take_more ha', List.map_append, List.map_append]
        rfl
    rintro H4 ⟨k4, hD4⟩
    rw [List.take_of_length_le (by rw [List.length_map]; exact Nat.le_refl _)] at hD4
    refine ⟨d2, iN (ws.map (nm perm)), rfl, .inl (.inl (.inl (by rw [← vN_map]; exact hD4))), by rw [iN_length, List.length_map]; omega, fun p2 n2 hp2 hn2 => ?_⟩
    rw [iN_length, List.length_map] at hn2
    refine ⟨p2, _, n2, rfl, upd_same, by omega, fun ns u2 up2 mem2 _ hu2 => ?_⟩
    refine ⟨u2, _, rfl, .inl ⟨.inl (.inl upd_same), fun tw htw => ?_⟩⟩
    have s6 : Same H4 (upd (upd (upd H4 p2 (SetO w p2 (fun j => decide (j ∈ iN (ws.map (nm perm)))) n2)) u2 (.lst (ns.map V.int))) tw (.tup (ns.map V.int))) := ((same_upd hp2).trans (same_upd hu2)).trans (same_upd htw)
    have hTw : (upd (upd (upd H4 p2 (SetO w p2 (fun j => decide (j ∈ iN (ws.map (nm perm)))) n2)) u2 (.lst (ns.map V.int))) tw (.tup (ns.map V.int))) tw = some (.tup (ns.map V.int)) := upd_same
    generalize upd (upd (upd H4 p2 (SetO w p2 (fun j => decide (j ∈ iN (ws.map (nm perm)))) n2)) u2 (.lst (ns.map V.int))) tw (.tup (ns.map V.int)) = H5 at s6 hTw
    have s15 : Same H1 H5 := s13.trans ((keep2 k4).trans s6)
    have s35 : Same H3 H5 := (keep2 k4).trans s6
    obtain ⟨wl, ewl, memW⟩ : ∃ wl : List Nat, ns = iN wl ∧ ∀ x, x ∈ wl ↔ x ∈ ws.map (nm perm) := by
      have nn : ∀ y ∈ ns, 0 ≤ y := by
        intro y hy
        have := of_decide_eq_true ((mem2 y).mp hy)
        unfold iN at this
        obtain ⟨z, _, ez⟩ := List.mem_map.mp this
        omega
      refine ⟨ns.map Int.toNat, ?_, fun x => ?_⟩
      · unfold iN
        rw [List.map_map]
        conv => lhs; rw [← List.map_id ns]
        exact List.map_congr_left fun y hy => (Int.toNat_of_nonneg (nn y hy)).symm
      · constructor
        · intro h
          obtain ⟨y, hy, ey⟩ := List.mem_map.mp h
          have h2 := of_decide_eq_true ((mem2 y).mp hy)
          have h3 : y = (x : Int) := by
            have := nn y hy
            omega
          rw [h3] at h2
          exact iN_mem.mp h2
        · intro h
          exact List.mem_map.mpr ⟨(x : Int), (mem2 _).mpr (decide_eq_true (iN_mem.mpr h)), by omega⟩
    have upW : wl.Pairwise (· < ·) := by
      rw [ewl] at up2
      unfold iN at up2
      exact (List.pairwise_map.mp up2).imp fun h => by omega
    refine ⟨by show 3 ≤ sizeLine; decide, fun ct hct => ?_⟩
    have s7 : Same H5 (upd H5 ct (.tup [vN n, .ref tp, .ref tw])) := same_upd hct
    refine ⟨_, rfl, by show 2 ≤ sizeLine; decide, fun qa hqa => ?_⟩
    have s8 := s7.trans (same_upd (o := .lst [.ref ct, .ref na]) hqa)
    have s18 := s15.trans s8
    have len : perm.length = n := by rw [pm.length_eq, List.length_range]
    refine q qa ct na perm ⟨n, rds, wl⟩ _ pm ?_ hna upd_same ⟨tp, tw, L'.map (·.1), ?_, ?_, ?_, ?_⟩ (s18 _ _ hN) ⟨rfl, ⟨n60, ?_, ?_, upR, ?_, upW⟩, memR, ?_⟩ (hP1.same s18) ?_
    · have h1 := (s15.trans s7).free hqa
      cases eq : H qa with
      | none => rfl
      | some o =>
        have : qa ∉ [p, l] := by
          intro m
          obtain ⟨o', e', _⟩ := hP1.lists qa m
          rw [e'] at h1
          cases h1
        rw [k1 _ _ this eq] at h1
        cases h1
    · exact .inl (.inl (by rw [upd_ne (ne_of_none upd_same hqa)]; exact upd_same))
    · refine .inl (.inl ?_)
      have := s8 _ _ (s35 _ _ hTp)
      rw [List.map_map]
      exact this
    · exact hRd.keep (Same.kp (ex := []) (s35.trans s8)) (lists_nil _)
    · refine .inl (.inl ?_)
      have := s8 _ _ hTw
      rw [vN_map, ← ewl]
      exact this
    · show rds.length ≤ 240
      have e := congrArg List.length erds
      rw [List.length_map, List.length_map] at e
      omega
    · rintro ⟨x, y⟩ hxy
      obtain ⟨a', b', hab, e1, e3⟩ := (memR x y).mp hxy
      obtain ⟨b1, b2⟩ := inP _ hab
      rw [e1, e3]
      exact ⟨perm_lt pm b1, perm_lt pm b2⟩
    · intro x hx
      obtain ⟨a', ha', e1⟩ := List.mem_map.mp ((memW x).mp hx)
      rw [← e1]
      exact perm_lt pm (inW a' ha')
    · intro x
      rw [memW x, List.mem_map]
      exact ⟨fun ⟨a', h1, h2⟩ => ⟨a', h1, h2.symm⟩, fun ⟨a', h1, h2⟩ => ⟨a', h1, h2.symm⟩⟩
    · exact k1.trans (Same.kp s18)
end
end Ft

set_option Elab.async false
set_option linter.all false
set_option maxRecDepth 100000
set_option maxHeartbeats 8000000
namespace Ft
open PySem PySem.Spec PyProof.Rows L2
/-- ascending places below i -/
structure Upto (F : List Nat) (i : Nat) : Prop where
  up : F.Pairwise (· < ·)
  lt : ∀ a ∈ F, a < i
theorem Upto.nil (i : Nat) : Upto [] i := ⟨.nil, fun _ h => nomatch h⟩
theorem Upto.wider {F : List Nat} {i : Nat} (h : Upto F i) : Upto F (i + 1) := ⟨h.up, fun a m => Nat.lt_succ_of_lt (h.lt a m)⟩
theorem Upto.more {F : List Nat} {i : Nat} (h : Upto F i) : Upto (F ++ [i]) (i + 1) := by
  refine ⟨List.pairwise_append.mpr ⟨h.up, List.pairwise_singleton _ _, fun a ha b hb => ?_⟩, fun a m => ?_⟩
  · rw [List.mem_singleton.mp hb]
    exact h.lt a ha
  · rcases List.mem_append.mp m with m | m
    · exact Nat.lt_succ_of_lt (h.lt a m)
    · rw [List.mem_singleton.mp m]
      omega
theorem Upto.len {F : List Nat} {i : Nat} (h : Upto F i) : F.length ≤ i := up_len h.up h.lt
theorem upto_range (n : Nat) : Upto (List.range n) n := ⟨range_up n, fun _ h => List.mem_range.mp h⟩
theorem nodup_lt_len {l : List Nat} {n : Nat} (nd : l.Nodup) (b : ∀ a ∈ l, a < n) : l.length ≤ n := by
  have := nat_nodup_len l (List.range n) nd fun x hx => List.mem_range.mpr (b x hx)
  rwa [List.length_range] at this
/-! ### a list of pairs as data -/
def encP (p : Nat × Nat) : PyData := .tuple [.int (p.1 : Int), .int (p.2 : Int)]
theorem pairs_shaped (ps : List (Nat × Nat)) : SeqAt.shaped (.list (ps.map encP)) = true := by
  unfold SeqAt.shaped
  have h1 : PyData.canLayAll0 (ps.map encP) = true := by
    induction ps with
    | nil => simp [PyData.canLayAll0]
    | cons c cs ih => simp [PyData.canLayAll0, PyData.canLay0, encP, ih]
  have h2 : PyData.depthAll (ps.map encP) ≤ 1 := by
    induction ps with
    | nil => simp [PyData.depthAll]
    | cons c cs ih =>
      have ih' := ih (by
        have := h1
        simp [PyData.canLayAll0, PyData.canLay0, encP] at this
        exact this)
      simp [PyData.depthAll, PyData.depth, encP]
      omega
  simp [PyData.canLay0, h1, PyData.depth]
  omega
theorem dpAll_pairs {K : PySem.W.Frag} {H : Hp} : ∀ (L : List (Addr × (Nat × Nat))), (∀ r ∈ L, SqT K H r.1 [vN r.2.1, vN r.2.2]) → DpAll K H (L.map fun r => V.ref r.1) (L.map fun r => encP r.2)
  | [], _ => .nil
  | r :: L, h => .cons (.tup (h r List.mem_cons_self) (.cons (.int _) (.cons (.int _) .nil))) (dpAll_pairs L fun q hq => h q (List.mem_cons_of_mem _ hq))
theorem in_vN {x : Nat} {F : List Nat} : inV (vN x) (F.map vN) = decide (x ∈ F) := by
  rw [Bool.eq_iff_iff]
  unfold inV
  rw [List.any_map, List.any_eq_true, decide_eq_true_eq]
  constructor
  · rintro ⟨y, hy, e⟩
    have : (y : Int) = x := by simpa [eqV, vN] using e
    have : y = x := by omega
    exact this ▸ hy
  · intro h
    exact ⟨x, h, by simp [eqV, vN]⟩
theorem all_vN (F : List Nat) : (F.map vN).all flatV = true := by
  rw [List.all_map, List.all_eq_true]
  intro x _
  rfl
theorem PoolAt.set {H : Hp} {p l e : Addr} {o : HO} (n : e ∉ [p, l]) (h : PoolAt H p l) : PoolAt (upd H e o) p l := by
  obtain ⟨a, b, cs, h1, h2, h3⟩ := h
  exact ⟨a, b, cs, by rw [upd_ne (fun z => n (by simp [z]))]; exact h1, by rw [upd_ne (fun z => n (by simp [z]))]; exact h2, h3⟩
/-- what was made on the way does not count -/
theorem kp_made {p l e : Addr} {H H1 H2 : Hp} (k : Kp [p, l] H H1) (he : H1 e = none) (k2 : Kp [p, l, e] H1 H2) : Kp [p, l] H H2 := fun b o nb eb => by
  have e1 := k b o nb eb
  refine k2 b o (fun m => ?_) e1
  simp only [List.mem_cons, List.not_mem_nil, or_false] at m nb
  rcases m with m | m | m
  · exact nb (.inl m)
  · exact nb (.inr m)
  · rw [m, he] at e1
    cases e1
section
variable {P : Program} {w : World} {K : PySem.W.Frag} {mg : Str → Option Value} {base : Heap} {t1 t2 : Tok}
/-! ### _law_map_some_wished -/
def sp_law_map_some_wished (K : PySem.W.Frag) : Sp := fun vs H Q _ => ∃ (p l ro : Addr) (n : Nat) (ts : List Addr) (prs : List (Nat × Nat)), vs = [.ref p, vN n, .ref ro] ∧ PoolAt H p l ∧ n ≤ 60 ∧
  H ro = some (.lst (ts.map V.ref)) ∧ ro ∉ [p, l] ∧ PairsAt K H ts prs ∧ prs.length < 64 ∧
  ∀ (q : Addr) (ws : List Nat) (H' : Hp), ws.Nodup → (∀ a ∈ ws, a < n) → H q = none → H' q = some (.lst (ws.map vN)) → PoolAt H' p l → Kp [p, l] H H' → Q (.ref q) H'
theorem cal_law_map_some_wished (T : Txt mg) (D : Def K mg "_law_map_some_wished" s_law_map_some_wished) (c_law_draw : Cal P w K mg base 2 "_law_draw" sp_law_draw) : Cal P w K mg base 3 "_law_map_some_wished" (sp_law_map_some_wished K) := by
  refine cal_of D sc_law_map_some_wished (fun _ _ _ _ _ _ us hl => match us, hl with | [_, _, _], _ => rfl) (fun vs H Q E h => ?_) (fun f cdv A outer s H vs Q E hr h => ?_)
  · obtain ⟨p, l, ro, n, ts, prs, rfl, _⟩ := h
    rfl
  · obtain ⟨p, l, ro, n, ts, prs, rfl, hP, n60, hRo, oR, hPr, fewP, q⟩ := h
    have hU := hr.units
    refine ⟨_, (pss_cons (ps_asg (pe_tup (pa_cons (pe_c c_law_draw hr (by decide) (by rfl) (pa_cons (pv 0) (pa_cons pe_int pa_nil))) (pa_cons (pe_lc (own := [("a", 5)]) rfl sc_law_map_some_wished.nd (pi_range1 (by rfl) T.range (pa_cons (pv 1) pa_nil)) (blkOk_by (N := ["pool", "places", "roads", "way", "last", "a", "road"]) (sc := L2.defScope s_law_map_some_wished) (by decide +kernel)) (fun _ _ _ _ _ => (pg_name (i := 5) sc_law_map_some_wished.nd rfl (Or.inr rfl))) (fun _ _ _ _ _ => pts_one (pt_cmpR (show OpR _ _ (rEqD K) from op_eqD hU) (pe_lc (own := [("road", 6)]) rfl sc_law_map_some_wished.nd (show PI _ _ _ (iList K _) from pi_list (pv 2)) (blkIn (N := ["pool", "places", "roads", "way", "last", "a", "road"]) (sc := L2.defScope s_law_map_some_wished) rfl (by decide +kernel)) (fun _ _ _ _ _ => (pg_name (i := 6) sc_law_map_some_wished.nd rfl (Or.inl rfl))) (fun _ _ _ _ _ => pts_one (pt_cmpR op_eq (pe_ix (show IxR _ (rIxT K) from ix_tup) (pv 6) pe_int (fun _ _ => rfl)) (pv 5) (nomark _))) (fun _ _ _ _ _ => (pv 6))) (pe_lst pa_nil) (nomark _))) (fun _ _ _ _ _ => (pv 5))) pa_nil))) (show PG _ _ (gTup K 2 _) from pg_tup (by rfl) (pgs_cons (pg_name (i := 3) sc_law_map_some_wished.nd rfl (Or.inr rfl)) (pgs_cons (pg_name (i := 4) sc_law_map_some_wished.nd rfl (Or.inr rfl)) pgs_nil))))
      (pss_cons (ps_if (pt_cmpR op_lt (pv 3) pe_int (nomark _)) (pss_one (ps_ret (pe_op op_cat (pv 4) (pe_lc (own := [("a", 5)]) rfl sc_law_map_some_wished.nd (pi_range1 (by rfl) T.range (pa_cons (pv 1) pa_nil)) (blkOk_by (N := ["pool", "places", "roads", "way", "last", "a", "road"]) (sc := L2.defScope s_law_map_some_wished) (by decide +kernel)) (fun _ _ _ _ _ => (pg_name (i := 5) sc_law_map_some_wished.nd rfl (Or.inl rfl))) (fun _ _ _ _ _ => pts_one (PW.pt (pw_and (pt_cmpR (show OpR _ _ (rIn K true) from op_notIn_seq) (pv 5) (pv 4) (by rfl)) (pw_and (pt_cmpR op_gt (pv 3) pe_int (nomark _)) (pw_and1 (pt_cmpR op_eq (pe_c c_law_draw hr (by decide) (by rfl) (pa_cons (pv 0) (pa_cons pe_int pa_nil))) pe_int (nomark _))))))) (fun _ _ _ _ _ => (pv 5)))))) pss_nil)
      (pss_cons (ps_if (pt_cmpR op_lt (pv 3) pe_int (nomark _)) (pss_one (ps_ret (pe_lc (own := [("a", 5)]) rfl sc_law_map_some_wished.nd (pi_range1 (by rfl) T.range (pa_cons (pv 1) pa_nil)) (blkOk_by (N := ["pool", "places", "roads", "way", "last", "a", "road"]) (sc := L2.defScope s_law_map_some_wished) (by decide +kernel)) (fun _ _ _ _ _ => (pg_name (i := 5) sc_law_map_some_wished.nd rfl (Or.inl rfl))) (fun _ _ _ _ _ => pts_one (pt_cmpR op_eq (pe_c c_law_draw hr (by decide) (by rfl) (pa_cons (pv 0) (pa_cons (pe_op op_sub (pv 3) pe_int) pa_nil))) pe_int (nomark _))) (fun _ _ _ _ _ => (pv 5))))) pss_nil)
      (pss_one (ps_ret (pe_ifExp (pt_cmpR op_gt (pe_c c_law_draw hr (by decide) (by rfl) (pa_cons (pv 0) (pa_cons pe_int pa_nil))) pe_int (nomark _)) (pe_lst pa_nil) (pe_listRg rfl (by rfl) T.list (prg_1 (by rfl) T.range (pv 1))))))))), ?_⟩
    refine ⟨_, rfl, p, l, 8, rfl, hP, by decide, by decide, fun way H1 hway hP1 k1 => ?_⟩
    have hRo1 := k1 _ _ oR hRo
    have hPr1 : PairsAt K H1 ts prs := hPr.keep k1 hP.lists
    refine ⟨_, rfl, _, rfl, by omega, by omega, fun d hd => ?_⟩
    have keep : ∀ {H' : Hp}, Kp [d] H1 H' → Same H1 H' := fun {H'} k b o e => k b o (fun m => by rw [List.mem_singleton.mp m, hd] at e; cases e) e
    refine lc_range (lo := 0) (n := n) (fun i H' => ∃ F : List Nat, Kp [d] H1 H' ∧ H' d = some (.lst (F.map vN)) ∧ Upto F i)
      ⟨[], (fun b o x e => by rw [upd_ne (ne_of_none e hd)]; exact e), upd_same, Upto.nil 0⟩ ?_ ?_
    · rintro i H2 hi ⟨F, k2, hD, hF⟩
      have e0 : (0 : Int) + (i : Nat) = (i : Nat) := by omega
      refine ⟨rfl, ?_⟩
      rw [e0]
      refine ⟨_, rfl, ro, rfl, ⟨_, .inl (.inl (keep k2 _ _ hRo1))⟩, fun e he => ?_⟩
      have keep2 : ∀ {H' : Hp}, Kp [e] H2 H' → Same H2 H' := fun {H'} k b o e' => k b o (fun m => by rw [List.mem_singleton.mp m, he] at e'; cases e') e'
      refine lc_list (K := K) (xs := ts.map V.ref) (fun j H' => ∃ L : List (Addr × (Nat × Nat)), Kp [e] H2 H' ∧ H' e = some (.lst (L.map fun r => V.ref r.1)) ∧ L.length ≤ j ∧ ∀ r ∈ L, SqT K H2 r.1 [vN r.2.1, vN r.2.2])
        ⟨[], (fun b o x e' => by rw [upd_ne (ne_of_none e' he)]; exact e'), upd_same, Nat.le_refl _, fun _ h => nomatch h⟩ (fun j H' _ ⟨_, k, _⟩ => .inl (.inl (keep2 k _ _ (keep k2 _ _ hRo1)))) ?_ ?_
      · rintro j x H3 hx ⟨L, k3, hE, fl, all⟩
        obtain ⟨t, ht, rfl⟩ := get_map hx
        obtain ⟨q0, hq0, pt⟩ := paired_getL hPr1 ht
        have jl : j < prs.length := (List.getElem?_eq_some_iff.mp hq0).1
        have pt2 := Same.sqT (keep k2) pt
        have pt3 := Same.sqT (keep2 k3) pt2
        refine ⟨rfl, ?_⟩
        refine ⟨_, rfl, t, _, _, _, rfl, rfl, pt3, rfl, _, rfl, rfl, _, rfl, ite_any (fun _ => ?_) (fun _ => ?_)⟩
        · refine ⟨_, rfl, _, hE, by rw [List.length_map]; exact small1000 (by omega), L ++ [(t, q0)], ?_, by rw [upd_same, List.map_append]; rfl, by rw [List.length_append]; exact Nat.succ_le_succ fl, ?_⟩
          · intro b o nb eb
            rw [upd_ne (fun z => nb (by rw [z]; simp))]
            exact k3 b o nb eb
          · intro r hr'
            rcases List.mem_append.mp hr' with hr' | hr'
            · exact all r hr'
            · rw [List.mem_singleton.mp hr']
              exact pt2
        · exact ⟨L, k3, hE, by omega, all⟩
      · rintro H3 ⟨L, k3, hE, fl, all⟩
        refine ⟨Nat.zero_le _, fun g hg => ?_⟩
        have s4 : Same H3 (upd H3 g (.lst [])) := same_upd hg
        have hD3 := keep2 k3 _ _ hD
        have kd : Kp [d] H1 (upd H3 g (.lst [])) := fun b o nb eb => s4 _ _ (keep2 k3 _ _ (k2 b o nb eb))
        refine ⟨.list (L.map fun r => encP r.2), .list [], .lst (.inl (.inl (s4 _ _ hE))) (dpAll_pairs L fun r hr' => Same.sqT ((keep2 k3).trans s4) (all r hr')), .lst (.inl (.inl upd_same)) .nil, by have z := pairs_shaped (L.map (·.2)); rw [List.map_map] at z; exact z, rfl, _, rfl, ite_any (fun _ => ?_) (fun _ => ?_)⟩
        · refine ⟨_, rfl, _, s4 _ _ hD3, by rw [List.length_map]; exact small1000 (by have := hF.len; omega), F ++ [i], ?_, by rw [upd_same, List.map_append]; rfl, hF.more⟩
          intro b o nb eb
          rw [upd_ne (fun z => nb (by rw [z]; simp))]
          exact kd b o nb eb
        · exact ⟨F, kd, s4 _ _ hD3, hF.wider⟩
    rintro H2 ⟨F, k2, hD, hF⟩
    refine ⟨by show 2 ≤ sizeLine; decide, fun tp htp => ?_⟩
    have hD' : (upd H2 tp (.tup [vN way, .ref d])) d = some (.lst (F.map vN)) := (same_upd htp) _ _ hD
    refine ⟨tp, _, rfl, .inl (.inl upd_same), rfl, _, _, rfl, _, _, rfl, rfl, ?_⟩
    have s3 : Same H1 (upd H2 tp (.tup [vN way, .ref d])) := (keep k2).trans (same_upd htp)
    generalize upd H2 tp (.tup [vN way, .ref d]) = H3 at s3 hD'
    have hP3 := hP1.same s3
    have k3 : Kp [p, l] H H3 := k1.trans (Same.kp s3)
    have dpl : d ∉ [p, l] := hP1.free hd
    have hd0 : H d = none := kp_free k1 dpl hd
    refine ⟨_, rfl, _, _, rfl, rfl, _, rfl, ite_any (fun _ => ?_) (fun hw4 => ?_)⟩
    · refine ⟨_, rfl, _, rfl, _, rfl, by omega, by omega, fun e he => ?_⟩
      have hde : d ≠ e := ne_of_none hD' he
      have epl : e ∉ [p, l] := hP3.free he
      refine lc_range (lo := 0) (n := n) (fun i H' => ∃ G : List Nat, Kp [p, l, e] H3 H' ∧ H' e = some (.lst (G.map vN)) ∧ PoolAt H' p l ∧ Upto G i ∧ ∀ x ∈ G, x ∉ F)
        ⟨[], (fun b o x e' => by rw [upd_ne (ne_of_none e' he)]; exact e'), upd_same, hP3.same (same_upd he), Upto.nil 0, fun _ h => nomatch h⟩ ?_ ?_
      · rintro i H4 hi ⟨G, k4, hE, hP4, hG, off⟩
        have e0 : (0 : Int) + (i : Nat) = (i : Nat) := by omega
        have hD4 : H4 d = some (.lst (F.map vN)) := k4 _ _ (by simp only [List.mem_cons, List.not_mem_nil, or_false] at dpl ⊢; simp [dpl, hde]) hD'
        refine ⟨rfl, ?_⟩
        rw [e0]
        refine ⟨_, rfl, _, rfl, d, _, rfl, .inl (.inl (.inl hD4)), rfl, all_vN F, _, rfl, ite_any (fun hn => ?_) (fun _ => ?_)⟩
        · have hn' : i ∉ F := by
            have hn2 : (!inV (vN i) (F.map vN)) = true := hn
            rw [in_vN] at hn2
            simpa using hn2
          refine ⟨_, rfl, _, _, rfl, rfl, _, rfl, ite_any (fun _ => ?_) (fun _ => ?_)⟩
          · refine ⟨_, rfl, p, l, 6, rfl, hP4, by decide, by decide, fun r H5 hr5 hP5 k5 => ?_⟩
            have k45 : Kp [p, l, e] H3 H5 := fun b o nb eb => k5 _ _ (fun m => nb (by simp only [List.mem_cons, List.not_mem_nil, or_false] at m ⊢; rcases m with m | m <;> simp [m])) (k4 b o nb eb)
            have hE5 := k5 _ _ epl hE
            refine ⟨rfl, _, rfl, ite_any (fun _ => ?_) (fun _ => ?_)⟩
            · refine ⟨_, rfl, _, hE5, by rw [List.length_map]; exact small1000 (by have := hG.len; omega), G ++ [i], ?_, by rw [upd_same, List.map_append]; rfl, ?_, hG.more, ?_⟩
              · intro b o nb eb
                rw [upd_ne (fun z => nb (by rw [z]; simp))]
                exact k45 b o nb eb
              · exact hP5.set epl
              · intro x hx
                rcases List.mem_append.mp hx with hx | hx
                · exact off x hx
                · rw [List.mem_singleton.mp hx]
                  exact hn'
            · exact ⟨G, k45, hE5, hP5, hG.wider, off⟩
          · exact ⟨G, k4, hE, hP4, hG.wider, off⟩
        · exact ⟨G, k4, hE, hP4, hG.wider, off⟩
      · rintro H4 ⟨G, k4, hE, hP4, hG, off⟩
        have hD4 : H4 d = some (.lst (F.map vN)) := k4 _ _ (by simp only [List.mem_cons, List.not_mem_nil, or_false] at dpl ⊢; simp [dpl, hde]) hD'
        refine ⟨d, e, _, _, rfl, rfl, hD4, hE, ?_, fun z hz => ?_⟩
        · rw [List.length_map, List.length_map]
          have h1 := hF.len
          have h2 := hG.len
          show F.length + G.length ≤ sizeLine
          have h3 : (1000 : Nat) ≤ sizeLine := by decide
          omega
        · have s5 : Same H4 (upd H4 z (.lst (F.map vN ++ G.map vN))) := same_upd hz
          have k34 : Kp [p, l] H H4 := kp_made k3 he k4
          refine q z (F ++ G) _ ?_ ?_ (kp_free k34 (hP4.free hz) hz) (by rw [upd_same, List.map_append]) (hP4.same s5) (k34.trans (Same.kp s5))
          · rw [List.nodup_append]
            exact ⟨up_nodup hF.up, up_nodup hG.up, fun x hx y hy z => off y hy (z ▸ hx)⟩
          · intro x hx
            rcases List.mem_append.mp hx with hx | hx
            · exact hF.lt x hx
            · exact hG.lt x hx
    · have hw4' := of_decide_eq_false hw4
      refine ⟨_, rfl, _, _, rfl, rfl, _, rfl, ite_any (fun hw => ?_) (fun _ => ?_)⟩
      · refine ⟨_, rfl, _, rfl, by omega, by omega, fun e he => ?_⟩
        have epl : e ∉ [p, l] := hP3.free he
        refine lc_range (lo := 0) (n := n) (fun i H' => ∃ G : List Nat, Kp [p, l, e] H3 H' ∧ H' e = some (.lst (G.map vN)) ∧ PoolAt H' p l ∧ Upto G i)
          ⟨[], (fun b o x e' => by rw [upd_ne (ne_of_none e' he)]; exact e'), upd_same, hP3.same (same_upd he), Upto.nil 0⟩ ?_ ?_
        · rintro i H4 hi ⟨G, k4, hE, hP4, hG⟩
          have e0 : (0 : Int) + (i : Nat) = (i : Nat) := by omega
          refine ⟨rfl, ?_⟩
          rw [e0]
          refine ⟨_, rfl, _, rfl, _, _, rfl, rfl, p, l, way - 2, ?_, hP4, by omega, by omega, fun r H5 hr5 hP5 k5 => ?_⟩
          · have : ((way : Nat) : Int) - 2 = ((way - 2 : Nat) : Int) := by omega
            show [V.ref p, V.int ((way : Nat) - 2)] = [V.ref p, V.int ((way - 2 : Nat) : Int)]
            rw [this]
          have k45 : Kp [p, l, e] H3 H5 := fun b o nb eb => k5 _ _ (fun m => nb (by simp only [List.mem_cons, List.not_mem_nil, or_false] at m ⊢; rcases m with m | m <;> simp [m])) (k4 b o nb eb)
          have hE5 := k5 _ _ epl hE
          refine ⟨rfl, _, rfl, ite_any (fun _ => ?_) (fun _ => ?_)⟩
          · refine ⟨_, rfl, _, hE5, by rw [List.length_map]; exact small1000 (by have := hG.len; omega), G ++ [i], ?_, by rw [upd_same, List.map_append]; rfl, hP5.set epl, hG.more⟩
            intro b o nb eb
            rw [upd_ne (fun z => nb (by rw [z]; simp))]
            exact k45 b o nb eb
          · exact ⟨G, k45, hE5, hP5, hG.wider⟩
        · rintro H4 ⟨G, k4, hE, hP4, hG⟩
          have k34 : Kp [p, l] H H4 := kp_made k3 he k4
          exact q e G _ (up_nodup hG.up) hG.lt (kp_free k3 epl he) hE hP4 k34
      · refine ⟨_, rfl, p, l, 3, rfl, hP3, by decide, by decide, fun r H4 hr4 hP4 k4 => ?_⟩
        refine ⟨_, _, rfl, rfl, _, rfl, ite_any (fun _ => ?_) (fun _ => ?_)⟩
        · refine ⟨Nat.zero_le _, fun e he => ?_⟩
          have epl : e ∉ [p, l] := hP4.free he
          exact q e [] _ .nil (fun _ h => nomatch h) (kp_free (k3.trans k4) epl he) upd_same (hP4.set epl) ((k3.trans k4).trans (Same.kp (same_upd he)))
        · refine ⟨_, rfl, _, rfl, .of_le (by omega) (by omega) (by omega) (by omega), fun e he => ?_⟩
          have epl : e ∉ [p, l] := hP4.free he
          exact q e (List.range n) _ (up_nodup (range_up n)) (fun _ h => List.mem_range.mp h) (kp_free (k3.trans k4) epl he) (by rw [upd_same, rgV_nat]) (hP4.set epl) ((k3.trans k4).trans (Same.kp (same_upd he)))
end
end Ft

set_option Elab.async false
set_option linter.all false
set_option maxRecDepth 100000
set_option maxHeartbeats 8000000
namespace Ft
open PySem PySem.Spec PyProof.Rows L2
/-- pairs as fresh tuples -/
def TupsAt (H : Hp) (L : List (Addr × (Nat × Nat))) : Prop := ∀ r ∈ L, H r.1 = some (.tup [vN r.2.1, vN r.2.2])
theorem TupsAt.keep {ex : List Addr} {H H' : Hp} (k : Kp ex H H') (l : Lists ex H) {L : List (Addr × (Nat × Nat))} (h : TupsAt H L) : TupsAt H' L := fun r hr => by
  refine k _ _ (fun m => ?_) (h r hr)
  obtain ⟨o, e, n, _⟩ := l _ m
  rw [h r hr] at e
  exact n _ (Option.some.inj e).symm
theorem TupsAt.same {H H' : Hp} (k : Same H H') {L : List (Addr × (Nat × Nat))} (h : TupsAt H L) : TupsAt H' L := fun r hr => k _ _ (h r hr)
theorem TupsAt.set {H : Hp} {d : Addr} {xs : List V} {o : HO} (hd : H d = some (.lst xs)) {L : List (Addr × (Nat × Nat))} (h : TupsAt H L) : TupsAt (upd H d o) L := fun r hr => by
  have := h r hr
  rw [upd_ne (fun z => by rw [z, hd] at this; cases this)]
  exact this
theorem TupsAt.add {H : Hp} {t : Addr} {p : Nat × Nat} {L : List (Addr × (Nat × Nat))} (h : TupsAt H L) (ht : H t = some (.tup [vN p.1, vN p.2])) : TupsAt H (L ++ [(t, p)]) := fun r hr => by
  rcases List.mem_append.mp hr with hr | hr
  · exact h r hr
  · rw [List.mem_singleton.mp hr]
    exact ht
theorem TupsAt.pairs {K : PySem.W.Frag} {H : Hp} : ∀ {L : List (Addr × (Nat × Nat))}, TupsAt H L → PairsAt K H (L.map (·.1)) (L.map (·.2))
  | [], _ => .nil
  | r :: L, h => .cons (.inl (.inl (h r List.mem_cons_self))) (TupsAt.pairs fun q hq => h q (List.mem_cons_of_mem _ hq))
theorem TupsAt.not {H : Hp} {d : Addr} {xs : List V} (hd : H d = some (.lst xs)) {L : List (Addr × (Nat × Nat))} (h : TupsAt H L) : ∀ r ∈ L, r.1 ≠ d := fun r hr z => by
  have := h r hr
  rw [z, hd] at this
  cases this
theorem floor_nat (i z : Nat) : (i : Int) / (1 + (z : Int)) * (1 + (z : Int)) = ((i / (1 + z) * (1 + z) : Nat) : Int) := by
  push_cast
  rfl
section
variable {P : Program} {w : World} {K : PySem.W.Frag} {mg : Str → Option Value} {base : Heap} {t1 t2 : Tok}
/-! ### _law_map_drawn -/
def sp_law_map_drawn (K : PySem.W.Frag) : Sp := fun vs H Q _ => ∃ (p l : Addr) (most : Nat), vs = [.ref p, vN most] ∧ PoolAt H p l ∧ most ≤ 20 ∧ ∀ (c : Addr) (C : Chart) (H' : Hp), IsChart K H' c C → C.Ok → C.n ≤ most → PoolAt H' p l → Kp [p, l] H H' → Q (.ref c) H'
theorem cal_law_map_drawn (T : Txt mg) (D : Def K mg "_law_map_drawn" s_law_map_drawn) (c_law_draw : Cal P w K mg base 2 "_law_draw" sp_law_draw) (c_law_map_named : Cal P w K mg base 4 "_law_map_named" (sp_law_map_named K))
    (c_law_map_some_wished : Cal P w K mg base 3 "_law_map_some_wished" (sp_law_map_some_wished K)) : Cal P w K mg base 5 "_law_map_drawn" (sp_law_map_drawn K) := by
  refine cal_of D sc_law_map_drawn (fun _ _ _ _ _ _ us hl => match us, hl with | [_, _], _ => rfl) (fun vs H Q E h => ?_) (fun f cdv A outer s H vs Q E hr h => ?_)
  · obtain ⟨p, l, most, rfl, _⟩ := h
    rfl
  · obtain ⟨p, l, most, rfl, hP, m20, q⟩ := h
    have hU := hr.units
    refine ⟨_, (pss_cons (ps_set (i := 2) sc_law_map_drawn.nd rfl (Or.inr rfl) (pe_c c_law_draw hr (by decide) (by rfl) (pa_cons (pv 0) (pa_cons (pe_op op_add (pv 1) pe_int) pa_nil))))
      (pss_cons (ps_if (pt_cmpR op_eq (pv 2) pe_int (nomark _)) (pss_one (ps_ret (pe_tup (pa_cons pe_int (pa_cons (pe_tup pa_nil) (pa_cons (pe_tup pa_nil) pa_nil)))))) pss_nil)
      (pss_cons (ps_par (i := 3) (j := 4) (by rfl) sc_law_map_drawn.nd rfl rfl (by decide) rfl rfl (pa_cons (pe_c c_law_draw hr (by decide) (by rfl) (pa_cons (pv 0) (pa_cons pe_int pa_nil))) (pa_cons (pe_lst pa_nil) pa_nil)) (by rfl))
      (pss_cons (ps_for PassesOwn.never rfl (pi_range1 (by rfl) T.range (pa_cons (pe_c c_law_draw hr (by decide) (by rfl) (pa_cons (pv 0) (pa_cons (pe_op op_add (pe_op op_mul pe_int (pv 2)) pe_int) pa_nil))) pa_nil)) (pg_name (i := 5) sc_law_map_drawn.nd rfl (Or.inl rfl)) (pss_cons (ps_par (i := 6) (j := 7) (by rfl) sc_law_map_drawn.nd rfl rfl (by decide) rfl rfl (pa_cons (pe_c c_law_draw hr (by decide) (by rfl) (pa_cons (pv 0) (pa_cons (pv 2) pa_nil))) (pa_cons (pe_c c_law_draw hr (by decide) (by rfl) (pa_cons (pv 0) (pa_cons (pv 2) pa_nil))) pa_nil)) (by rfl))
        (pss_cons (ps_set (i := 8) sc_law_map_drawn.nd rfl (Or.inl rfl) (pe_mid (pe_or (pe_cmpR op_eq (pv 3) pe_int (nomark _)) (pe_one (pe_and (pe_cmpR op_gt (pv 3) pe_int (nomark _)) (pe_one (pe_cmpR op_gt (pe_c c_law_draw hr (by decide) (by rfl) (pa_cons (pv 0) (pa_cons pe_int pa_nil))) pe_int (nomark _))))))))
        (pss_one (ps_expr (pe_bm PySem.F.plainAttrs_list PySem.F.slot_list_append PySem.F.type_list_append mt_append (pv 4) (pa_cons (pe_mid (pe_ifExp (pt_truth (pv 8) (by intro _; rfl)) (pe_tup (pa_cons (pe_callB (call_min2 rfl) (by rfl) T.min (by decide +kernel) (pa_cons (pv 6) (pa_cons (pv 7) pa_nil))) (pa_cons (pe_callB (call_max2 rfl) (by rfl) T.max (by decide +kernel) (pa_cons (pv 6) (pa_cons (pv 7) pa_nil))) pa_nil))) (pe_tup (pa_cons (pv 6) (pa_cons (pv 7) pa_nil))))) pa_nil)))))))
      (ps_cut (ps_if (pt_cmpR op_eq (pv 3) pe_int (nomark _)) (pss_cons (ps_set (i := 9) sc_law_map_drawn.nd rfl (Or.inr rfl) (pe_op op_add pe_int (pe_c c_law_draw hr (by decide) (by rfl) (pa_cons (pv 0) (pa_cons pe_int pa_nil)))))
        (pss_one (ps_set (i := 4) sc_law_map_drawn.nd rfl (Or.inl rfl) (pe_op op_cat (pv 4) (pe_lc (own := [("a", 6)]) rfl sc_law_map_drawn.nd (pi_range1 (by rfl) T.range (pa_cons (pe_op op_sub (pv 2) pe_int) pa_nil)) (blkOk_by (N := ["pool", "most", "places", "way", "roads", "turn", "a", "b", "ahead", "size"]) (sc := L2.defScope s_law_map_drawn) (by decide +kernel)) (fun _ _ _ _ _ => (pg_name (i := 6) sc_law_map_drawn.nd rfl (Or.inl rfl))) (fun _ _ _ _ _ => pts_nil) (fun _ _ _ _ _ => (pe_tup (pa_cons (pv 6) (pa_cons (pe_mid (pe_ifExp (PW.pt (pw_and (pt_cmpR op_gt (pe_op op_mod (pe_callTy call_int1 (by rfl) T.int (by decide +kernel) (pa_cons (pe_op op_add (pv 6) pe_int) pa_nil)) (pv 9)) pe_int (nomark _)) (pw_and1 (pt_cmpR op_lt (pe_op op_add (pv 6) pe_int) (pv 2) (nomark _))))) (pe_op op_add (pv 6) pe_int) (pe_op op_mul (pe_op op_fdiv (pv 6) (pv 9)) (pv 9)))) pa_nil))))))))) pss_nil)
      (pss_one (ps_ret (pe_ix (show IxR _ (rIxL K) from ix_list) (pe_c c_law_map_named hr (by decide) (by rfl) (pa_cons (pv 0) (pa_cons (pv 2) (pa_cons (pv 4) (pa_cons (pe_c c_law_map_some_wished hr (by decide) (by rfl) (pa_cons (pv 0) (pa_cons (pv 2) (pa_cons (pv 4) pa_nil)))) pa_nil))))) pe_int (fun _ _ => rfl))))))))), ?_⟩
    refine ⟨_, rfl, _, rfl, _, _, rfl, rfl, p, l, most + 1, rfl, hP, by omega, by omega, fun n H1 hn hP1 k1 => ?_⟩
    refine ⟨_, rfl, rfl, _, rfl, ite_any (fun h0 => ?_) (fun h0 => ?_)⟩
    · have hn0 : n = 0 := by
        have := of_decide_eq_true h0
        unfold vN at this
        have := V.int.inj this
        omega
      refine ⟨Nat.zero_le _, fun r1 h1 => ?_⟩
      have s1 : Same H1 (upd H1 r1 (.tup [])) := same_upd h1
      have hT1 : (upd H1 r1 (.tup [])) r1 = some (.tup []) := upd_same
      generalize upd H1 r1 (.tup []) = H2 at s1 hT1
      refine ⟨Nat.zero_le _, fun r2 h2 => ?_⟩
      have s2 : Same H2 (upd H2 r2 (.tup [])) := same_upd h2
      have hT2 : (upd H2 r2 (.tup [])) r2 = some (.tup []) := upd_same
      generalize upd H2 r2 (.tup []) = H3 at s2 hT2
      refine ⟨by show 3 ≤ sizeLine; decide, fun c hc => ?_⟩
      have s3 : Same H3 (upd H3 c (.tup [.int 0, .ref r1, .ref r2])) := same_upd hc
      have s13 := (s1.trans s2).trans s3
      refine q c ⟨0, [], []⟩ _ ⟨r1, r2, [], .inl (.inl upd_same), .inl (.inl (s3 _ _ (s2 _ _ hT1))), .nil, .inl (.inl (s3 _ _ hT2))⟩ ⟨by decide, by decide, (fun _ h => nomatch h), .nil, (fun _ h => nomatch h), .nil⟩ (Nat.zero_le _) (hP1.same s13) (k1.trans (Same.kp s13))
    have hn0 : 0 < n := by
      have := of_decide_eq_false h0
      unfold vN at this
      rcases Nat.eq_zero_or_pos n with e | e
      · exact absurd (by rw [e]; rfl) this
      · exact e
    refine ⟨_, rfl, p, l, 4, rfl, hP1, by decide, by decide, fun way H2 hway hP2 k2 => ?_⟩
    refine ⟨Nat.zero_le _, fun d hd => ?_⟩
    have s3 : Same H2 (upd H2 d (.lst [])) := same_upd hd
    have hD3 : (upd H2 d (.lst [])) d = some (.lst []) := upd_same
    have dpl : d ∉ [p, l] := hP2.free hd
    have hP3 := hP2.same s3
    have k3 : Kp [p, l] H (upd H2 d (.lst [])) := (k1.trans k2).trans (Same.kp s3)
    have hd0 : H d = none := kp_free (k1.trans k2) dpl hd
    generalize upd H2 d (.lst []) = H3 at s3 hD3 hP3 k3
    refine ⟨_, _, rfl, ?_⟩
    refine ⟨_, rfl, _, rfl, _, _, rfl, rfl, .inl ⟨by decide, by decide⟩, _, _, rfl, rfl, p, l, 2 * n + 2, rfl, hP3, by omega, by omega, fun m H4 hm hP4 k4 => ?_⟩
    have hD4 := k4 _ _ dpl hD3
    have kset : ∀ {H' : Hp} {o : HO}, Kp [p, l] H H' → Kp [p, l] H (upd H' d o) := fun {H' o} k b x nb e => by
      rw [upd_ne (ne_of_none e hd0)]
      exact k b x nb e
    refine ⟨_, rfl, by omega, by omega, for_range (lo := 0) (n := m) (fun i σ H' => ∃ (L : List (Addr × (Nat × Nat))) (v5 v6 v7 v8 : Option V), σ = [some (.ref p), some (vN most), some (vN n), some (vN way), some (.ref d), v5, v6, v7, v8, none] ∧ PoolAt H' p l ∧ Kp [p, l] H H' ∧ H' d = some (.lst (L.map fun r => V.ref r.1)) ∧ TupsAt H' L ∧ (∀ r ∈ L, r.2.1 < n ∧ r.2.2 < n) ∧ L.length = i)
      ⟨[], _, _, _, _, rfl, hP4, k3.trans k4, hD4, (fun _ h => nomatch h), (fun _ h => nomatch h), rfl⟩ ?_ ?_⟩
    · rintro i σ H5 hi ⟨L, v5, v6, v7, v8, rfl, hP5, k5, hD5, hL5, inL, eL⟩
      refine ⟨_, rfl, _, rfl, p, l, n, rfl, hP5, by omega, by omega, fun a H6 ha hP6 k6 => ?_⟩
      refine ⟨_, rfl, _, rfl, p, l, n, rfl, hP6, by omega, by omega, fun b H7 hb hP7 k7 => ?_⟩
      refine ⟨_, _, rfl, ?_⟩
      have k67 := k6.trans k7
      have hD7 := k67 _ _ dpl hD5
      have hL7 : TupsAt H7 L := hL5.keep k67 hP5.lists
      refine ⟨fun v H' => ∃ c : Bool, v = .bl c ∧ PoolAt H' p l ∧ Kp [p, l] H7 H', ⟨_, rfl, rfl, _, rfl, ite_any (fun _ => ⟨_, rfl, hP7, Kp.refl _ _⟩) (fun _ => ⟨_, rfl, _, _, rfl, rfl, _, rfl, ite_any (fun _ => ?_) (fun _ => ⟨_, rfl, hP7, Kp.refl _ _⟩)⟩)⟩, ?_⟩
      · exact ⟨_, rfl, p, l, 5, rfl, hP7, by decide, by decide, fun r H8 hr8 hP8 k8 => ⟨_, _, rfl, rfl, _, rfl, hP8, k8⟩⟩
      rintro v H8 ⟨c, rfl, hP8, k8⟩
      have hD8 := k8 _ _ dpl hD7
      have hL8 : TupsAt H8 L := hL7.keep k8 hP7.lists
      refine ⟨_, rfl, .inl ⟨rfl, _, .inl (.inl hD8)⟩, ?_⟩
      refine ⟨fun v H' => ∃ (t : Addr) (x y : Nat), v = .ref t ∧ H8 t = none ∧ H' = upd H8 t (.tup [vN x, vN y]) ∧ x < n ∧ y < n, ⟨_, rfl, _, rfl, ite_any (fun _ => ?_) (fun _ => ?_)⟩, ?_⟩
      · refine ⟨_, rfl, _, rfl, _, _, rfl, _, rfl, _, rfl, _, _, rfl, by show 2 ≤ sizeLine; decide, fun t ht => ?_⟩
        have e1 : V.int (if (b : Int) < (a : Int) then (b : Int) else (a : Int)) = vN (if b < a then b else a) := by
          by_cases h : b < a
          · rw [if_pos h, if_pos (by omega)]
            rfl
          · rw [if_neg h, if_neg (by omega)]
            rfl
        have e2 : V.int (if (a : Int) < (b : Int) then (b : Int) else (a : Int)) = vN (if a < b then b else a) := by
          by_cases h : a < b
          · rw [if_pos h, if_pos (by omega)]
            rfl
          · rw [if_neg h, if_neg (by omega)]
            rfl
        refine ⟨t, (if b < a then b else a), (if a < b then b else a), rfl, ht, by rw [← e1, ← e2], ?_, ?_⟩
        · by_cases h : b < a
          · rw [if_pos h]; exact hb
          · rw [if_neg h]; exact ha
        · by_cases h : a < b
          · rw [if_pos h]; exact hb
          · rw [if_neg h]; exact ha
      · exact ⟨_, rfl, _, rfl, by show 2 ≤ sizeLine; decide, fun t ht => ⟨t, a, b, rfl, ht, rfl, ha, hb⟩⟩
      rintro v H9 ⟨t, x, y, rfl, ht, rfl, hx, hy⟩
      have s9 : Same H8 (upd H8 t (.tup [vN x, vN y])) := same_upd ht
      have hT9 : (upd H8 t (.tup [vN x, vN y])) t = some (.tup [vN x, vN y]) := upd_same
      have hD9 := s9 _ _ hD8
      refine ⟨d, _, _, rfl, rfl, hD9, by rw [List.length_map]; exact small1000 (by omega), L ++ [(t, (x, y))], _, _, _, _, rfl, (hP8.same s9).set dpl, kset ((k5.trans (k67.trans k8)).trans (Same.kp s9)), by rw [upd_same, List.map_append]; rfl, ((hL8.same s9).add hT9).set hD9, ?_, by rw [List.length_append, eL]; rfl⟩
      intro r hr'
      rcases List.mem_append.mp hr' with hr' | hr'
      · exact inL r hr'
      · rw [List.mem_singleton.mp hr']
        exact ⟨hx, hy⟩
    rintro σ H5 ⟨L, v5, v6, v7, v8, rfl, hP5, k5, hD5, hL5, inL, eL⟩
    refine ⟨fun σ' H' => ∃ (ro : Addr) (L' : List (Addr × (Nat × Nat))) (v5 v6 v7 v8 v9 : Option V), σ' = [some (.ref p), some (vN most), some (vN n), some (vN way), some (.ref ro), v5, v6, v7, v8, v9] ∧ PoolAt H' p l ∧ Kp [p, l] H H' ∧ ro ∉ [p, l] ∧ H' ro = some (.lst (L'.map fun r => V.ref r.1)) ∧ TupsAt H' L' ∧ (∀ r ∈ L', r.2.1 < n ∧ r.2.2 < n) ∧ L'.length < 64, ?_, ?_⟩
    · refine ⟨_, rfl, rfl, _, rfl, ite_any (fun _ => ?_) (fun _ => ?_)⟩
      · refine ⟨_, rfl, p, l, 3, rfl, hP5, by decide, by decide, fun z H6 hz hP6 k6 => ?_⟩
        have hD6 := k6 _ _ dpl hD5
        have hL6 : TupsAt H6 L := hL5.keep k6 hP5.lists
        refine ⟨_, _, rfl, rfl, ?_⟩
        refine ⟨_, rfl, _, rfl, _, _, rfl, rfl, _, rfl, by omega, by omega, fun e he => ?_⟩
        have epl : e ∉ [p, l] := hP6.free he
        have hde : d ≠ e := ne_of_none hD6 he
        refine lc_range (lo := 0) (n := ((n : Int) - 1).toNat) (fun i H' => ∃ M : List (Addr × (Nat × Nat)), Kp [e] H6 H' ∧ H' e = some (.lst (M.map fun r => V.ref r.1)) ∧ TupsAt H' M ∧ (∀ r ∈ M, r.2.1 < n ∧ r.2.2 < n) ∧ M.length ≤ i)
          ⟨[], (fun b o x e' => by rw [upd_ne (ne_of_none e' he)]; exact e'), upd_same, (fun _ h => nomatch h), (fun _ h => nomatch h), Nat.zero_le _⟩ ?_ ?_
        · rintro i H7 hi ⟨M, k7, hE, hM, inM, eM⟩
          have e0 : (0 : Int) + (i : Nat) = (i : Nat) := by omega
          refine ⟨rfl, ?_⟩
          rw [e0]
          refine ⟨_, rfl, fun v H' => ∃ x : Nat, x < n ∧ v = vN x ∧ H' = H7, ?_, ?_⟩
          · have fl : ∃ x : Nat, x < n ∧ V.int ((i : Int) / (1 + (z : Int)) * (1 + (z : Int))) = vN x ∧ H7 = H7 := by
              refine ⟨i / (1 + z) * (1 + z), ?_, congrArg V.int (floor_nat i z), rfl⟩
              have := Nat.div_mul_le_self i (1 + z)
              omega
            have z1 : (0 : Int) < 1 + (z : Int) := by omega
            have z2 : (1 : Int) + (z : Int) < 1073741824 := by omega
            have z3 : -2 ^ 64 < (1 : Int) + (z : Int) := by omega
            have z4 : (1 : Int) + (z : Int) < 2 ^ 64 := by omega
            refine ⟨_, rfl, _, _, rfl, rfl, .inl ⟨_, rfl, _, rfl, _, _, rfl, rfl, z1, _, _, rfl, rfl, _, rfl, ite_any (fun _ => ?_) (fun _ => ?_)⟩⟩
            · refine ⟨_, rfl, _, _, rfl, rfl, _, rfl, _, _, rfl, rfl, _, rfl, ite_any (fun hx => ?_) (fun _ => ?_)⟩
              · have hx' := of_decide_eq_true hx
                exact ⟨_, rfl, _, _, rfl, rfl, i + 1, by omega, rfl, rfl⟩
              · exact ⟨_, rfl, _, rfl, _, _, rfl, rfl, ⟨z1, z2⟩, _, rfl, _, _, rfl, rfl, .inr ⟨z3, z4⟩, fl⟩
            · exact ⟨_, rfl, _, rfl, _, _, rfl, rfl, ⟨z1, z2⟩, _, rfl, _, _, rfl, rfl, .inr ⟨z3, z4⟩, fl⟩
          rintro v H8 ⟨x, hx, rfl, rfl⟩
          refine ⟨by show 2 ≤ sizeLine; decide, fun t ht => ?_⟩
          have s9 : Same H8 (upd H8 t (.tup [vN i, vN x])) := same_upd ht
          have hT9 : (upd H8 t (.tup [vN i, vN x])) t = some (.tup [vN i, vN x]) := upd_same
          have hE9 := s9 _ _ hE
          refine ⟨_, hE9, by rw [List.length_map]; exact small1000 (by omega), M ++ [(t, (i, x))], ?_, by rw [upd_same, List.map_append]; rfl, ((hM.same s9).add hT9).set hE9, ?_, by rw [List.length_append]; exact Nat.succ_le_succ eM⟩
          · intro b o nb eb
            rw [upd_ne (fun z => nb (by rw [z]; simp))]
            exact s9 _ _ (k7 b o nb eb)
          · intro r hr'
            rcases List.mem_append.mp hr' with hr' | hr'
            · exact inM r hr'
            · rw [List.mem_singleton.mp hr']
              exact ⟨by show i < n; omega, hx⟩
        · rintro H7 ⟨M, k7, hE, hM, inM, eM⟩
          have s7 : Same H6 H7 := fun b o eb => k7 b o (fun m => by rw [List.mem_singleton.mp m, he] at eb; cases eb) eb
          have hP7 := hP6.same s7
          refine ⟨d, e, _, _, rfl, rfl, s7 _ _ hD6, hE, ?_, fun ro hro => ?_⟩
          · rw [List.length_map, List.length_map]
            have h3 : (1000 : Nat) ≤ sizeLine := by decide
            omega
          · have s8 : Same H7 (upd H7 ro (.lst ((L.map fun r => V.ref r.1) ++ M.map fun r => V.ref r.1))) := same_upd hro
            refine ⟨ro, L ++ M, _, _, _, _, _, rfl, hP7.same s8, (k5.trans k6).trans (Same.kp (s7.trans s8)), hP7.free hro, by rw [upd_same, List.map_append], ?_, ?_, by rw [List.length_append]; omega⟩
            · intro r hr'
              rcases List.mem_append.mp hr' with hr' | hr'
              · exact (hL6.same (s7.trans s8)) r hr'
              · exact (hM.same s8) r hr'
            · intro r hr'
              rcases List.mem_append.mp hr' with hr' | hr'
              · exact inL r hr'
              · exact inM r hr'
      · exact ⟨d, L, _, _, _, _, _, rfl, hP5, k5, dpl, hD5, hL5, inL, by omega⟩
    · rintro σ' H6 ⟨ro, L', v5, v6, v7, v8, v9, rfl, hP6, k6, rpl, hRo, hL', inL', few⟩
      have ePr : (L'.map fun r => V.ref r.1) = (L'.map (·.1)).map V.ref := by rw [List.map_map]; rfl
      rw [ePr] at hRo
      have len : (L'.map (·.2)).length < 64 := by rw [List.length_map]; exact few
      refine ⟨_, rfl, _, rfl, _, rfl, _, rfl, _, rfl, _, rfl, p, l, ro, n, L'.map (·.1), L'.map (·.2), rfl, hP6, by omega, hRo, rpl, hL'.pairs, len, fun wi ws H7 nd ltw hw0 hW hP7 k7 => ?_⟩
      have hRo7 := k7 _ _ rpl hRo
      refine ⟨p, l, ro, wi, n, L'.map (·.1), L'.map (·.2), ws, rfl, hP7, by omega, hRo7, rpl, hL'.pairs.keep k7 hP6.lists, len, ?_, hW, hP6.free hw0, ?_, ltw, fun q' c na perm C H8 pm _ _ hQ hC _ nmd hP8 k8 => ?_⟩
      · intro r hr'
        obtain ⟨z, hz, rfl⟩ := List.mem_map.mp hr'
        exact inL' z hz
      · have := nodup_lt_len nd ltw
        omega
      · refine ⟨q', _, _, _, rfl, rfl, .inl (.inl hQ), rfl, ?_⟩
        exact q c C H8 hC nmd.ok (by rw [nmd.n]; omega) hP8 ((k6.trans k7).trans k8)
end
end Ft

set_option Elab.async false
set_option linter.all false
set_option maxRecDepth 100000
set_option maxHeartbeats 4000000
namespace Ft
open PySem PySem.Spec PyProof.Rows L2
/-! ### set(xs), xs many ints among few -/
theorem nodup_sub_len {α : Type} [DecidableEq α] : ∀ (l D : List α), l.Nodup → (∀ x ∈ l, x ∈ D) → l.length ≤ D.length
  | [], _, _, _ => Nat.zero_le _
  | x :: l, D, nd, h => by
    obtain ⟨n1, n2⟩ := List.nodup_cons.mp nd
    have hx := h x List.mem_cons_self
    have ih := nodup_sub_len l (D.erase x) n2 fun y hy => (List.mem_erase_of_ne (fun e : y = x => n1 (e ▸ hy))).mpr (h y (List.mem_cons_of_mem _ hy))
    rw [List.length_erase_of_mem hx] at ih
    have := List.length_pos_of_mem hx
    rw [List.length_cons]
    omega
theorem setR_count {w : World} {h : Heap} {a : Addr} {S : Int → Bool} {n : Nat} (R : SetR w h a S n) {D : List Int} (hD : ∀ k, S k = true → k ∈ D) : n ≤ D.length := by
  obtain ⟨o, es, ep, t, _, _, _, _, nd, mem, _, _, e, _⟩ := R
  have := nodup_sub_len _ D nd fun k hk => hD k ((mem k).mpr hk)
  rw [List.length_map, Array.length_toList] at this
  omega
def rSetN (K : PySem.W.Frag) (w : World) : List V → Hp → VK → Prop := fun xs H Q => ∃ (l : Addr) (ns : List Int), xs = [V.ref l] ∧ (SqL K H l (ns.map V.int) ∨ SqT K H l (ns.map V.int)) ∧ ns.length ≤ 1000 ∧
  ∀ (p : Addr) (n : Nat), H p = none → (∀ D : List Int, (∀ k ∈ ns, k ∈ D) → n ≤ D.length) → Q (.ref p) (upd H p (SetO w p (fun j => decide (j ∈ ns)) n))
theorem cr_setN {X : Cx} (hc : X.calm = true) : CallR X (.type "set") (rSetN X.K X.w) := by
  intro pins s σ H xs us Q I r h
  obtain ⟨l, ns, rfl, hl, few, q⟩ := h
  have few1 : ns.length + 1 < scanBound := Nat.lt_of_le_of_lt (Nat.succ_le_succ few) (by decide)
  have free : H s.heap.objs.size = none := I.hok.fresh (Nat.le_refl _)
  rw [Vals.ref1 r]
  rcases hl with hl | hl
  · obtain ⟨its, rv, pl, hz⟩ := I.list hl
    refine set_of_list ns (I.ok.hd hc) pl.isList (by simpa using rv.ints) few1 fun h' tk c hS hc2 hk => ?_
    exact ⟨.ref _, upd H s.heap.objs.size (SetO X.w s.heap.objs.size (fun j => decide (j ∈ ns)) c), I.laid (t' := tk) hk (Nat.le_refl _) (setO_new hS), rfl, q _ _ free fun D hD => setR_count hS fun k hk => hD k (of_decide_eq_true hk)⟩
  · obtain ⟨its, rv, pt, hz⟩ := I.tuple hl
    have pt2 : s.heap.IsTuple l its.toArray := pt
    refine call_set_tupI ns (I.ok.hd hc) pt2 (by simpa using ints_of_vals rv) few1 fun h' tk c hS hc2 hk => ?_
    exact ⟨.ref _, upd H s.heap.objs.size (SetO X.w s.heap.objs.size (fun j => decide (j ∈ ns)) c), I.laid (t' := tk) hk (Nat.le_refl _) (setO_new hS), rfl, q _ _ free fun D hD => setR_count hS fun k hk => hD k (of_decide_eq_true hk)⟩
end Ft

set_option Elab.async false
set_option linter.all false
set_option maxRecDepth 100000
set_option maxHeartbeats 4000000
/-! Plain mathematics: the law's own way of meeting places, row by row -/
namespace Ft
structure Layer (n : Nat) (rs : List (Nat × Nat)) (ws : List Nat) (a : Nat) (F W : List Nat) : Prop where
  nd : F.Nodup
  lt : ∀ b ∈ F, b < n
  fair : ∀ b ∈ F, Reach rs ws a b
  wait : ∀ x ∈ W, x = a ∨ (x ∈ F ∧ x ∉ ws)
  ok : ∀ x, (x = a ∨ (x ∈ F ∧ x ∉ ws)) → x ∈ W ∨ ∀ b, (x, b) ∈ rs → b ∈ F
theorem Layer.start {n : Nat} {rs : List (Nat × Nat)} {ws : List Nat} {a : Nat} : Layer n rs ws a [] [a] :=
  ⟨List.nodup_nil, fun _ h => absurd h List.not_mem_nil, fun _ h => absurd h List.not_mem_nil, fun x h => .inl (List.mem_singleton.mp h), fun x h => by
    rcases h with h | h
    · exact .inl (List.mem_singleton.mpr h)
    · exact absurd h.1 List.not_mem_nil⟩
theorem Layer.step {n : Nat} {rs : List (Nat × Nat)} {ws : List Nat} {a : Nat} {F W A : List Nat} (L : Layer n rs ws a F W) (inR : ∀ p ∈ rs, p.1 < n ∧ p.2 < n) (nd : A.Nodup) (hA : ∀ b, b ∈ A ↔ ∃ x ∈ W, (x, b) ∈ rs) :
    Layer n rs ws a (F ++ A.filter fun b => !decide (b ∈ F)) ((A.filter fun b => !decide (b ∈ F)).filter fun b => !decide (b ∈ ws)) := by
  have mem : ∀ b, b ∈ A.filter (fun b => !decide (b ∈ F)) ↔ b ∈ A ∧ b ∉ F := fun b => by simp [List.mem_filter]
  have fairA : ∀ b ∈ A, b < n ∧ Reach rs ws a b := by
    intro b hb
    obtain ⟨x, hx, hr⟩ := (hA b).mp hb
    refine ⟨(inR _ hr).2, ?_⟩
    rcases L.wait x hx with e | ⟨h1, h2⟩
    · rw [e] at hr
      exact .one hr
    · exact .more (L.fair x h1) h2 hr
  refine ⟨?_, ?_, ?_, ?_, ?_⟩
  · rw [List.nodup_append]
    refine ⟨L.nd, nd.filter _, fun x hx y hy e => ?_⟩
    exact ((mem y).mp hy).2 (e ▸ hx)
  · intro b hb
    rcases List.mem_append.mp hb with hb | hb
    · exact L.lt b hb
    · exact (fairA b ((mem b).mp hb).1).1
  · intro b hb
    rcases List.mem_append.mp hb with hb | hb
    · exact L.fair b hb
    · exact (fairA b ((mem b).mp hb).1).2
  · intro x hx
    rw [List.mem_filter] at hx
    exact .inr ⟨List.mem_append_right _ hx.1, by simpa using hx.2⟩
  · intro x hx
    have old : (x = a ∨ (x ∈ F ∧ x ∉ ws)) → ∀ b, (x, b) ∈ rs → b ∈ F ++ A.filter fun b => !decide (b ∈ F) := by
      intro h b hb
      rcases L.ok x h with h1 | h1
      · by_cases hf : b ∈ F
        · exact List.mem_append_left _ hf
        · exact List.mem_append_right _ ((mem b).mpr ⟨(hA b).mpr ⟨x, h1, hb⟩, hf⟩)
      · exact List.mem_append_left _ (h1 b hb)
    rcases hx with e | ⟨h1, h2⟩
    · exact .inr (old (.inl e))
    · rcases List.mem_append.mp h1 with h1 | h1
      · exact .inr (old (.inr ⟨h1, h2⟩))
      · exact .inl (List.mem_filter.mpr ⟨h1, by simpa using h2⟩)
theorem Layer.ends {n : Nat} {rs : List (Nat × Nat)} {ws : List Nat} {a : Nat} {F : List Nat} (L : Layer n rs ws a F []) (x : Nat) : x ∈ F ↔ x < n ∧ ∃ a' ∈ [a], Reach rs ws a' x := by
  constructor
  · intro h
    exact ⟨L.lt x h, a, List.mem_singleton.mpr rfl, L.fair x h⟩
  · rintro ⟨_, a', ha', r⟩
    rw [List.mem_singleton.mp ha'] at r
    refine r.within (S := (· ∈ F)) (fun y hy => ?_) fun y z hy hw hz => ?_
    · rcases L.ok a (.inl rfl) with h | h
      · exact absurd h List.not_mem_nil
      · exact h y hy
    · rcases L.ok y (.inr ⟨hy, hw⟩) with h | h
      · exact absurd h List.not_mem_nil
      · exact h z hz
/-- a sorted row of a set's numbers -/
theorem set_nat {ns : List Int} {A : List Nat} (up : ns.Pairwise (· < ·)) (mem : ∀ j : Int, j ∈ ns ↔ decide (j ∈ iN A) = true) : ∃ wl : List Nat, ns = iN wl ∧ wl.Pairwise (· < ·) ∧ ∀ x, x ∈ wl ↔ x ∈ A := by
  have nn : ∀ y ∈ ns, 0 ≤ y := by
    intro y hy
    have := of_decide_eq_true ((mem y).mp hy)
    unfold iN at this
    obtain ⟨z, _, ez⟩ := List.mem_map.mp this
    omega
  have e : ns = iN (ns.map Int.toNat) := by
    unfold iN
    rw [List.map_map]
    conv => lhs; rw [← List.map_id ns]
    exact List.map_congr_left fun y hy => (Int.toNat_of_nonneg (nn y hy)).symm
  refine ⟨ns.map Int.toNat, e, ?_, fun x => ?_⟩
  · rw [e] at up
    unfold iN at up
    exact (List.pairwise_map.mp up).imp fun h => by omega
  · constructor
    · intro h
      obtain ⟨y, hy, ey⟩ := List.mem_map.mp h
      have h2 := of_decide_eq_true ((mem y).mp hy)
      have h3 : y = (x : Int) := by
        have := nn y hy
        omega
      rw [h3] at h2
      exact iN_mem.mp h2
    · intro h
      exact List.mem_map.mpr ⟨(x : Int), (mem _).mpr (decide_eq_true (iN_mem.mpr h)), by omega⟩
end Ft

set_option Elab.async false
set_option linter.all false
set_option maxRecDepth 100000
set_option maxHeartbeats 8000000
namespace Ft
open PySem PySem.Spec PyProof.Rows L2
theorem ahead_mem {rs : List (Nat × Nat)} {W : List Nat} {b : Nat} : b ∈ (rs.filter fun p => decide (p.1 ∈ W)).map (·.2) ↔ ∃ x ∈ W, (x, b) ∈ rs := by
  simp only [List.mem_map, List.mem_filter, decide_eq_true_eq]
  constructor
  · rintro ⟨⟨x, y⟩, ⟨h1, h2⟩, rfl⟩
    exact ⟨x, h2, h1⟩
  · rintro ⟨x, h1, h2⟩
    exact ⟨(x, b), ⟨h2, h1⟩, rfl⟩
section
variable {P : Program} {w : World} {K : PySem.W.Frag} {mg : Str → Option Value} {base : Heap} {t1 t2 : Tok}
/-! ### _law_map_met -/
def sp_law_map_met (K : PySem.W.Frag) : Sp := fun vs H Q _ => ∃ (c : Addr) (C : Chart) (a : Nat), vs = [.ref c, vN a] ∧ IsChart K H c C ∧ C.Ok ∧ a < C.n ∧ ∀ q H', Same H H' → H q = none → H' q = some (.lst ((met C.n C.roads C.wished [a]).map vN)) → Q (.ref q) H'
theorem cal_law_map_met (T : Txt mg) (D : Def K mg "_law_map_met" s_law_map_met) : Cal P w K mg base 2 "_law_map_met" (sp_law_map_met K) := by
  refine cal_of D sc_law_map_met (fun _ _ _ _ _ _ us hl => match us, hl with | [_, _], _ => rfl) (fun vs H Q E h => ?_) (fun f cdv A outer s H vs Q E hr h => ?_)
  · obtain ⟨c, C, a, rfl, _⟩ := h
    rfl
  · obtain ⟨c, C, a, rfl, ⟨r, wd, ts, hC⟩, ok, ha, q⟩ := h
    have n60 := ok.n60
    have hU := hr.units
    refine ⟨_, (pss_cons (ps_asg (pe_tup (pa_cons (pe_lst pa_nil) (pa_cons (pe_lst (pa_cons (pv 1) pa_nil)) pa_nil))) (show PG _ _ (gTup K 2 _) from pg_tup (by rfl) (pgs_cons (pg_name (i := 2) sc_law_map_met.nd rfl (Or.inr rfl)) (pgs_cons (pg_name (i := 3) sc_law_map_met.nd rfl (Or.inr rfl)) pgs_nil))))
      (pss_cons (ps_for PassesOwn.never rfl (pi_range1 (by rfl) T.range (pa_cons (pe_op op_add (pe_ix (show IxR _ (rIxT K) from ix_tup) (pv 0) pe_int (fun _ _ => rfl)) pe_int) pa_nil)) (pg_name (i := 4) sc_law_map_met.nd rfl (Or.inl rfl)) (pss_cons (ps_setLc (i := 5) (own := [("road", 6)]) rfl sc_law_map_met.nd rfl rfl (sw_true rfl rfl rfl (by decide +kernel)) (show PI _ _ _ (iTup K _) from pi_tup (pe_ix (show IxR _ (rIxT K) from ix_tup) (pv 0) pe_int (fun _ _ => rfl))) (blkOk_by (N := ["chart", "a", "found", "left", "turn", "ahead", "road", "b"]) (sc := L2.defScope s_law_map_met) (by decide +kernel)) (fun _ _ _ _ _ => (pg_name (i := 6) sc_law_map_met.nd rfl (Or.inl rfl))) (fun _ _ _ _ _ => pts_one (pt_cmpR (show OpR _ _ (rIn K false) from op_in_seq) (pe_ix (show IxR _ (rIxT K) from ix_tup) (pv 6) pe_int (fun _ _ => rfl)) (pv 3) (by rfl))) (fun _ _ _ _ _ => (pe_ix (show IxR _ (rIxT K) from ix_tup) (pv 6) pe_int (fun _ _ => rfl))))
        (pss_cons (ps_setLc (i := 5) (own := [("b", 7)]) rfl sc_law_map_met.nd rfl rfl (sw_true rfl rfl rfl (by decide +kernel)) (show PI _ _ _ (iList K _) from pi_list (pe_callB (show CallR _ _ (rSortedSet w) from cr_sortedSet rfl) (by rfl) T.sorted (by decide +kernel) (pa_cons (pe_callTy (show CallR _ _ (rSetN K w) from cr_setN rfl) (by rfl) T.set (by decide +kernel) (pa_cons (pv 5) pa_nil)) pa_nil))) (blkOk_by (N := ["chart", "a", "found", "left", "turn", "ahead", "road", "b"]) (sc := L2.defScope s_law_map_met) (by decide +kernel)) (fun _ _ _ _ _ => (pg_name (i := 7) sc_law_map_met.nd rfl (Or.inl rfl))) (fun _ _ _ _ _ => pts_one (pt_cmpR (show OpR _ _ (rIn K true) from op_notIn_seq) (pv 7) (pv 2) (by rfl))) (fun _ _ _ _ _ => (pv 7)))
        (pss_cons (ps_set (i := 2) sc_law_map_met.nd rfl (Or.inr rfl) (pe_op op_cat (pv 2) (pv 5)))
        (pss_cons (ps_set (i := 3) sc_law_map_met.nd rfl (Or.inr rfl) (pe_lc (own := [("b", 7)]) rfl sc_law_map_met.nd (show PI _ _ _ (iList K _) from pi_list (pv 5)) (blkOk_by (N := ["chart", "a", "found", "left", "turn", "ahead", "road", "b"]) (sc := L2.defScope s_law_map_met) (by decide +kernel)) (fun _ _ _ _ _ => (pg_name (i := 7) sc_law_map_met.nd rfl (Or.inl rfl))) (fun _ _ _ _ _ => pts_one (pt_cmpR (show OpR _ _ (rIn K true) from op_notIn_seq) (pv 7) (pe_ix (show IxR _ (rIxT K) from ix_tup) (pv 0) pe_int (fun _ _ => rfl)) (by rfl))) (fun _ _ _ _ _ => (pv 7))))
        (pss_one (ps_if (pt_cmpR (show OpR _ _ (rEqD K) from op_eqD hU) (pv 3) (pe_lst pa_nil) (nomark _)) (pss_one ps_break) pss_nil)))))))
      (pss_one (ps_ret (pe_callB (show CallR _ _ (rSortedI K) from cr_sortedI) (by rfl) T.sorted (by decide +kernel) (pa_cons (pv 2) pa_nil)))))), ?_⟩
    refine ⟨Nat.zero_le _, fun f0 hf0 => ?_⟩
    have s1 : Same H (upd H f0 (.lst [])) := same_upd hf0
    have hF0 : (upd H f0 (.lst [])) f0 = some (.lst []) := upd_same
    generalize upd H f0 (.lst []) = H1 at s1 hF0
    refine ⟨_, rfl, by show 1 ≤ sizeLine; decide, fun w0 hw0 => ?_⟩
    have s2 : Same H1 (upd H1 w0 (.lst [vN a])) := same_upd hw0
    have hW0 : (upd H1 w0 (.lst [vN a])) w0 = some (.lst [vN a]) := upd_same
    generalize upd H1 w0 (.lst [vN a]) = H2 at s2 hW0
    refine ⟨by show 2 ≤ sizeLine; decide, fun tp htp => ?_⟩
    have s3 : Same H2 (upd H2 tp (.tup [.ref f0, .ref w0])) := same_upd htp
    refine ⟨tp, _, rfl, .inl (.inl upd_same), rfl, _, _, rfl, _, _, rfl, rfl, ?_⟩
    generalize upd H2 tp (.tup [.ref f0, .ref w0]) = H3 at s3
    have s13 := (s1.trans s2).trans s3
    have n1 : ((C.n : Int) + 1).toNat = C.n + 1 := by omega
    refine ⟨_, rfl, _, _, _, _, rfl, rfl, (hC.same s13).top, rfl, _, _, rfl, rfl, _, rfl, by show -2 ^ 62 ≤ (C.n : Int) + 1; omega, by show (C.n : Int) + 1 < 2 ^ 62; omega, for_range (lo := 0) (n := ((C.n : Int) + 1).toNat) (fun i σ H' => ∃ (fa wa : Addr) (F W : List Nat) (v4 v5 v6 v7 : Option V), σ = [some (.ref c), some (vN a), some (.ref fa), some (.ref wa), v4, v5, v6, v7] ∧ Same H H' ∧
      H' fa = some (.lst (F.map vN)) ∧ H' wa = some (.lst (W.map vN)) ∧ Layer C.n C.roads C.wished a F W ∧ i ≤ F.length) ?_ ?_ ?_⟩
    · exact ⟨f0, w0, [], [a], _, _, _, _, rfl, s13, s3 _ _ (s2 _ _ hF0), s3 _ _ hW0, Layer.start, Nat.zero_le _⟩
    · rintro i σ H4 hi ⟨fa, wa, F, W, v4, v5, v6, v7, rfl, s4, hF, hW, ly, cnt⟩
      have hC4 := hC.same s4
      have Fl := nodup_lt_len ly.nd ly.lt
      refine ⟨_, rfl, _, _, _, _, rfl, rfl, hC4.top, rfl, r, rfl, ⟨_, hC4.row⟩, fun e he => ?_⟩
      have keep4 : ∀ {H' : Hp}, Kp [e] H4 H' → Same H4 H' := fun {H'} k b o e' => k b o (fun m => by rw [List.mem_singleton.mp m, he] at e'; cases e') e'
      refine lc_tup (K := K) (xs := ts.map V.ref) (fun j H' => Kp [e] H4 H' ∧ H' e = some (.lst ((((C.roads.take j).filter fun p => decide (p.1 ∈ W)).map (·.2)).map vN)))
        ⟨(fun b o x e' => by rw [upd_ne (ne_of_none e' he)]; exact e'), upd_same⟩ (fun j H' _ ⟨k, _⟩ => Same.sqT (keep4 k) hC4.row) ?_ ?_
      · rintro j x H5 hx ⟨k5, hE⟩
        obtain ⟨t, ht, rfl⟩ := get_map hx
        obtain ⟨q0, hq0, pt⟩ := paired_getL hC4.prs ht
        have pt5 := Same.sqT (keep4 k5) pt
        have hW5 := keep4 k5 _ _ hW
        have jl : j < C.roads.length := (List.getElem?_eq_some_iff.mp hq0).1
        have m240 := ok.many
        refine ⟨rfl, ?_⟩
        refine ⟨_, rfl, t, _, _, _, rfl, rfl, pt5, rfl, _, rfl, wa, _, rfl, .inl (.inl (.inl hW5)), rfl, all_vN W, _, rfl, ?_⟩
        show if inV (vN q0.1) (W.map vN) = true then _ else _
        rw [in_vN]
        by_cases hw : q0.1 ∈ W
        · rw [decide_eq_true hw]
          refine iteT ?_
          refine ⟨_, rfl, t, _, _, _, rfl, rfl, pt5, rfl, _, hE, ?_, ?_, ?_⟩
          · rw [List.length_map, List.length_map]
            have h1 := List.length_filter_le (fun p : Nat × Nat => decide (p.1 ∈ W)) (C.roads.take j)
            have h2 : (C.roads.take j).length ≤ j := by rw [List.length_take]; omega
            exact small1000 (by omega)
          · intro b o nb eb
            rw [upd_ne (fun z => nb (by rw [z]; simp))]
            exact k5 b o nb eb
          · rw [upd_same, take_more hq0, List.filter_append, List.map_append, List.map_append]
            simp [hw]
        · rw [decide_eq_false hw]
          refine iteF ⟨k5, ?_⟩
          rw [hE, take_more hq0, List.filter_append]
          simp [hw]
      rintro H5 ⟨k5, hE⟩
      rw [List.take_of_length_le (by rw [List.length_map]; exact Nat.le_of_eq (Paired.length hC4.prs).symm)] at hE
      have s5 := keep4 k5
      refine ⟨_, rfl, e, iN ((C.roads.filter fun p => decide (p.1 ∈ W)).map (·.2)), rfl, .inl (.inl (.inl (by rw [← vN_map]; exact hE))), ?_, fun sa n2 hsa hn2 => ?_⟩
      · rw [iN_length, List.length_map]
        have h1 := List.length_filter_le (fun p : Nat × Nat => decide (p.1 ∈ W)) C.roads
        have := ok.many
        omega
      have few : n2 < 64 := by
        have := hn2 (iN (List.range C.n)) fun k hk => by
          unfold iN at hk
          obtain ⟨b, hb, rfl⟩ := List.mem_map.mp hk
          obtain ⟨x, _, hr'⟩ := ahead_mem.mp hb
          exact iN_mem.mpr (List.mem_range.mpr (ok.inR _ hr').2)
        rw [iN_length, List.length_range] at this
        omega
      refine ⟨sa, _, n2, rfl, upd_same, few, fun ns u2 up2 mem2 _ hu2 => ?_⟩
      obtain ⟨wl, rfl, upw, memw⟩ := set_nat up2 mem2
      have s6 : Same H5 (upd (upd H5 sa (SetO w sa (fun j => decide (j ∈ iN ((C.roads.filter fun p => decide (p.1 ∈ W)).map (·.2)))) n2)) u2 (.lst ((iN wl).map V.int))) := (same_upd hsa).trans (same_upd hu2)
      have hU2 : (upd (upd H5 sa (SetO w sa (fun j => decide (j ∈ iN ((C.roads.filter fun p => decide (p.1 ∈ W)).map (·.2)))) n2)) u2 (.lst ((iN wl).map V.int))) u2 = some (.lst (wl.map vN)) := by rw [upd_same, vN_map]
      generalize upd (upd H5 sa (SetO w sa (fun j => decide (j ∈ iN ((C.roads.filter fun p => decide (p.1 ∈ W)).map (·.2)))) n2)) u2 (.lst ((iN wl).map V.int)) = H6 at s6 hU2
      have memW : ∀ b, b ∈ wl ↔ ∃ x ∈ W, (x, b) ∈ C.roads := fun b => (memw b).trans ahead_mem
      have wll : wl.length ≤ C.n := up_len upw fun b hb => by
        obtain ⟨x, _, hr'⟩ := (memW b).mp hb
        exact (ok.inR _ hr').2
      have ly' := ly.step ok.inR (up_nodup upw) memW
      have hF6 := s6 _ _ (s5 _ _ hF)
      refine ⟨u2, rfl, ⟨_, .inl (.inl hU2)⟩, fun d hd => ?_⟩
      have keep6 : ∀ {H' : Hp}, Kp [d] H6 H' → Same H6 H' := fun {H'} k b o e' => k b o (fun m => by rw [List.mem_singleton.mp m, hd] at e'; cases e') e'
      refine lc_list (K := K) (xs := wl.map vN) (fun j H' => Kp [d] H6 H' ∧ H' d = some (.lst (((wl.take j).filter fun b => !decide (b ∈ F)).map vN)))
        ⟨(fun b o x e' => by rw [upd_ne (ne_of_none e' hd)]; exact e'), upd_same⟩ (fun j H' _ ⟨k, _⟩ => .inl (.inl (keep6 k _ _ hU2))) ?_ ?_
      · rintro j x H7 hx ⟨k7, hD⟩
        obtain ⟨b, hb, rfl⟩ := get_map hx
        refine ⟨rfl, ?_⟩
        refine ⟨_, rfl, _, rfl, fa, _, rfl, .inl (.inl (.inl (keep6 k7 _ _ hF6))), rfl, all_vN F, _, rfl, ?_⟩
        show if (!inV (vN b) (F.map vN)) = true then _ else _
        rw [in_vN]
        by_cases hw : b ∈ F
        · rw [decide_eq_true hw]
          refine iteF ⟨k7, ?_⟩
          rw [hD, take_more hb, List.filter_append]
          simp [hw]
        · rw [decide_eq_false hw]
          refine iteT ?_
          refine ⟨_, rfl, _, hD, ?_, ?_, ?_⟩
          · rw [List.length_map]
            have h1 := List.length_filter_le (fun b => !decide (b ∈ F)) (wl.take j)
            have h2 : (wl.take j).length ≤ wl.length := by rw [List.length_take]; omega
            exact small1000 (by omega)
          · intro b' o nb eb
            rw [upd_ne (fun z => nb (by rw [z]; simp))]
            exact k7 b' o nb eb
          · rw [upd_same, take_more hb, List.filter_append, List.map_append]
            simp [hw]
      rintro H7 ⟨k7, hD⟩
      rw [List.take_of_length_le (by rw [List.length_map]; exact Nat.le_refl _)] at hD
      obtain ⟨A3, eA3⟩ : ∃ A3, A3 = wl.filter fun b => !decide (b ∈ F) := ⟨_, rfl⟩
      rw [← eA3] at hD ly'
      have A3l : A3.length ≤ 60 := by
        rw [eA3]
        have := List.length_filter_le (fun b => !decide (b ∈ F)) wl
        omega
      have s7 := keep6 k7
      have hF7 := s7 _ _ hF6
      refine ⟨_, rfl, _, rfl, fa, d, _, _, rfl, rfl, hF7, hD, ?_, fun fa' hfa' => ?_⟩
      · rw [List.length_map, List.length_map]
        have : (1000 : Nat) ≤ sizeLine := by decide
        omega
      have s8 : Same H7 (upd H7 fa' (.lst (F.map vN ++ A3.map vN))) := same_upd hfa'
      have hF8 : (upd H7 fa' (.lst (F.map vN ++ A3.map vN))) fa' = some (.lst ((F ++ A3).map vN)) := by rw [upd_same, List.map_append]
      generalize upd H7 fa' (.lst (F.map vN ++ A3.map vN)) = H8 at s8 hF8
      have s48 : Same H4 H8 := (s5.trans s6).trans (s7.trans s8)
      have hD8 := s8 _ _ hD
      have hC8 := hC4.same s48
      refine ⟨_, rfl, d, rfl, ⟨_, .inl (.inl hD8)⟩, fun g hg => ?_⟩
      have keep8 : ∀ {H' : Hp}, Kp [g] H8 H' → Same H8 H' := fun {H'} k b o e' => k b o (fun m => by rw [List.mem_singleton.mp m, hg] at e'; cases e') e'
      refine lc_list (K := K) (xs := A3.map vN) (fun j H' => Kp [g] H8 H' ∧ H' g = some (.lst (((A3.take j).filter fun b => !decide (b ∈ C.wished)).map vN)))
        ⟨(fun b o x e' => by rw [upd_ne (ne_of_none e' hg)]; exact e'), upd_same⟩ (fun j H' _ ⟨k, _⟩ => .inl (.inl (keep8 k _ _ hD8))) ?_ ?_
      · rintro j x H9 hx ⟨k9, hG⟩
        obtain ⟨b, hb, rfl⟩ := get_map hx
        have hC9 := hC8.same (keep8 k9)
        refine ⟨rfl, ?_⟩
        refine ⟨_, rfl, _, rfl, _, _, _, _, rfl, rfl, hC9.top, rfl, wd, _, rfl, .inr hC9.wis, rfl, all_vN C.wished, _, rfl, ?_⟩
        show if (!inV (vN b) (C.wished.map vN)) = true then _ else _
        rw [in_vN]
        by_cases hw : b ∈ C.wished
        · rw [decide_eq_true hw]
          refine iteF ⟨k9, ?_⟩
          rw [hG, take_more hb, List.filter_append]
          simp [hw]
        · rw [decide_eq_false hw]
          refine iteT ?_
          refine ⟨_, rfl, _, hG, ?_, ?_, ?_⟩
          · rw [List.length_map]
            have h1 := List.length_filter_le (fun b => !decide (b ∈ C.wished)) (A3.take j)
            have h2 : (A3.take j).length ≤ A3.length := by rw [List.length_take]; omega
            exact small1000 (by omega)
          · intro b' o nb eb
            rw [upd_ne (fun z => nb (by rw [z]; simp))]
            exact k9 b' o nb eb
          · rw [upd_same, take_more hb, List.filter_append, List.map_append]
            simp [hw]
      rintro H9 ⟨k9, hG⟩
      rw [List.take_of_length_le (by rw [List.length_map]; exact Nat.le_refl _)] at hG
      obtain ⟨W', eW'⟩ : ∃ W', W' = A3.filter fun b => !decide (b ∈ C.wished) := ⟨_, rfl⟩
      rw [← eW'] at hG ly'
      have s9 := s48.trans (keep8 k9)
      have hF9 := keep8 k9 _ _ hF8
      refine ⟨_, rfl, Nat.zero_le _, fun z hz => ?_⟩
      have s10 : Same H9 (upd H9 z (.lst [])) := same_upd hz
      have s40 := s9.trans s10
      have hF10 := s10 _ _ hF9
      have hG10 := s10 _ _ hG
      refine ⟨.list ((iN W').map .int), .list [], .lst (.inl (.inl hG10)) (by rw [vN_map]; exact dpAll_ints _), .lst (.inl (.inl upd_same)) .nil, ints_shaped _, rfl, _, rfl, ite_any (fun hc => ?_) (fun hc => ?_)⟩
      · have e0 : W' = [] := by
          cases W' with
          | nil => rfl
          | cons b W' => exact absurd hc (by simp [iN, PyData.eqv, PyData.eqvAll])
        rw [e0] at ly'
        refine ⟨_, rfl, fa', iN (F ++ A3), rfl, .inl (.inl (by rw [← vN_map]; exact hF10)), fun ns' pq pm' pw hpq => ?_⟩
        obtain ⟨l, el, upl, ml⟩ := sorted_iN ly'.nd pm' pw
        have e1 : l = met C.n C.roads C.wished [a] := those_is upl fun x => (ml x).trans (ly'.ends x)
        have s11 := (s4.trans s40).trans (same_upd (o := .lst (ns'.map V.int)) hpq)
        refine q pq _ s11 ((s4.trans s40).free hpq) ?_
        rw [upd_same, el, ← e1, vN_map]
        rfl
      · have ne : W' ≠ [] := fun e0 => by
          rw [e0] at hc
          exact absurd hc (by simp [iN, PyData.eqv, PyData.eqvAll])
        refine ⟨fa', g, F ++ A3, W', _, _, _, _, rfl, s4.trans s40, hF10, hG10, ly', ?_⟩
        have : 0 < A3.length := by
          rcases Nat.eq_zero_or_pos A3.length with e0 | e0
          · rw [eW', List.length_eq_zero_iff.mp e0] at ne
            exact absurd rfl ne
          · exact e0
        rw [List.length_append]
        omega
    · rintro σ H4 ⟨fa, wa, F, W, v4, v5, v6, v7, rfl, s4, hF, hW, ly, cnt⟩
      have Fl := nodup_lt_len ly.nd ly.lt
      rw [n1] at cnt
      omega
end
end Ft

set_option Elab.async false
set_option linter.all false
set_option maxRecDepth 100000
set_option maxHeartbeats 4000000
/-! Plain mathematics: the pieces of a map, and rows in their order -/
namespace Ft
theorem piece_mem {C : Chart} {a b : Nat} (hw : a ∉ C.wished) : b ∈ pieceOf C a ↔ b < C.n ∧ b ∉ C.wished ∧ (b = a ∨ (Reach C.roads C.wished a b ∧ Reach C.roads C.wished b a)) := by
  unfold pieceOf
  rw [if_neg hw]
  exact those_mem
theorem piece_eq {C : Chart} {a b : Nat} (hb : b ∈ pieceOf C a) : pieceOf C b = pieceOf C a := by
  by_cases hw : a ∈ C.wished
  · have e : pieceOf C a = [a] := by
      unfold pieceOf
      rw [if_pos hw]
    rw [e] at hb
    rw [List.mem_singleton.mp hb]
  · obtain ⟨bn, bw, rel⟩ := (piece_mem hw).mp hb
    refine asc_ext (piece_up C b) (piece_up C a) fun x => ?_
    rw [piece_mem bw, piece_mem hw]
    constructor
    · rintro ⟨xn, xw, h⟩
      refine ⟨xn, xw, ?_⟩
      rcases rel with e | ⟨r1, r2⟩
      · rw [e] at h
        exact h
      · rcases h with e | ⟨q1, q2⟩
        · rw [e]
          exact .inr ⟨r1, r2⟩
        · exact .inr ⟨r1.trans bw q1, q2.trans bw r2⟩
    · rintro ⟨xn, xw, h⟩
      refine ⟨xn, xw, ?_⟩
      rcases rel with e | ⟨r1, r2⟩
      · rw [e]
        exact h
      · rcases h with e | ⟨q1, q2⟩
        · rw [e]
          exact .inr ⟨r2, r1⟩
        · exact .inr ⟨r2.trans hw q1, q2.trans hw r1⟩
theorem piecesL_mem {C : Chart} {l : List Nat} : l ∈ piecesL C ↔ ∃ a ∈ unw C, l = pieceOf C a := by
  unfold piecesL
  constructor
  · intro h
    obtain ⟨a, ha, rfl⟩ := List.mem_map.mp h
    exact ⟨a, (List.mem_filter.mp ha).1, rfl⟩
  · rintro ⟨a, ha, rfl⟩
    have ha' := unw_mem.mp ha
    cases e : pieceOf C a with
    | nil =>
      have := piece_self ha'.1
      rw [e] at this
      exact absurd this List.not_mem_nil
    | cons h rest =>
      have hh : h ∈ pieceOf C a := by
        rw [e]
        exact List.mem_cons_self
      have hm := (piece_mem ha'.2).mp hh
      have e2 := piece_eq hh
      refine List.mem_map.mpr ⟨h, List.mem_filter.mpr ⟨unw_mem.mpr ⟨hm.1, hm.2.1⟩, ?_⟩, by rw [e2, e]⟩
      unfold isLeast
      rw [e2, e]
      simp
/-- rows ascending as rows -/
def ltL (p q : List Int) : Prop := p ≤ q ∧ p ≠ q
theorem ltL_asym {p q : List Int} (h1 : ltL p q) (h2 : ltL q p) : False := h1.2 (List.le_antisymm h1.1 h2.1)
theorem rows_ext : ∀ {l1 l2 : List (List Int)}, l1.Pairwise ltL → l2.Pairwise ltL → (∀ x, x ∈ l1 ↔ x ∈ l2) → l1 = l2
  | [], [], _, _, _ => rfl
  | [], b :: l2, _, _, h => absurd ((h b).mpr List.mem_cons_self) List.not_mem_nil
  | a :: l1, [], _, _, h => absurd ((h a).mp List.mem_cons_self) List.not_mem_nil
  | a :: l1, b :: l2, h1, h2, h => by
    obtain ⟨a1, p1⟩ := List.pairwise_cons.mp h1
    obtain ⟨a2, p2⟩ := List.pairwise_cons.mp h2
    have e : a = b := by
      rcases List.mem_cons.mp ((h a).mp List.mem_cons_self) with e | m
      · exact e
      · rcases List.mem_cons.mp ((h b).mpr List.mem_cons_self) with e | m'
        · exact e.symm
        · exact (ltL_asym (a2 a m) (a1 b m')).elim
    subst e
    refine congrArg (a :: ·) (rows_ext p1 p2 fun x => ⟨fun m => ?_, fun m => ?_⟩)
    · rcases List.mem_cons.mp ((h x).mp (List.mem_cons_of_mem _ m)) with e | m'
      · exact ((a1 x m).2 e.symm).elim
      · exact m'
    · rcases List.mem_cons.mp ((h x).mpr (List.mem_cons_of_mem _ m)) with e | m'
      · exact ((a2 x m).2 e.symm).elim
      · exact m'
theorem cons_ltL {a b : Int} {p q : List Int} (h : a < b) : ltL (a :: p) (b :: q) := by
  refine ⟨List.cons_le_cons_iff.mpr (.inl h), fun e => ?_⟩
  injection e with e1 _
  omega
theorem piecesL_up (C : Chart) : ((piecesL C).map iN).Pairwise ltL := by
  unfold piecesL
  rw [List.map_map]
  refine List.pairwise_map.mpr ?_
  refine List.Pairwise.imp_of_mem (fun {a b} ha hb h => ?_) ((unw_up C).filter (isLeast C))
  have la := (List.mem_filter.mp ha).2
  have lb := (List.mem_filter.mp hb).2
  unfold isLeast at la lb
  have la := of_decide_eq_true la
  have lb := of_decide_eq_true lb
  show ltL (iN (pieceOf C a)) (iN (pieceOf C b))
  cases ea : pieceOf C a with
  | nil =>
    rw [ea] at la
    cases la
  | cons x p =>
    cases eb : pieceOf C b with
    | nil =>
      rw [eb] at lb
      cases lb
    | cons y q =>
      rw [ea] at la
      rw [eb] at lb
      have e1 : x = a := Option.some.inj la
      have e2 : y = b := Option.some.inj lb
      rw [e1, e2]
      exact cons_ltL (show (a : Int) < (b : Int) by omega)
theorem iN_inj : ∀ {l1 l2 : List Nat}, iN l1 = iN l2 → l1 = l2
  | [], [], _ => rfl
  | [], _ :: _, h => by simp [iN] at h
  | _ :: _, [], h => by simp [iN] at h
  | a :: l1, b :: l2, h => by
    unfold iN at h
    rw [List.map_cons, List.map_cons] at h
    injection h with h1 h2
    have e : a = b := by omega
    rw [e, iN_inj (l1 := l1) (l2 := l2) h2]
/-- what is met, one place more -/
theorem those_yes {j : Nat} {P : Nat → Prop} (h : P j) : those (j + 1) P = those j P ++ [j] := by
  unfold those
  rw [List.range_succ, List.filter_append]
  congr 1
  rw [List.filter_cons]
  simp [h]
theorem those_no {j : Nat} {P : Nat → Prop} (h : ¬ P j) : those (j + 1) P = those j P := by
  unfold those
  rw [List.range_succ, List.filter_append]
  simp [h]
theorem met_mem {n : Nat} {rs : List (Nat × Nat)} {ws : List Nat} {a b : Nat} : b ∈ met n rs ws [a] ↔ b < n ∧ Reach rs ws a b := by
  unfold met
  rw [those_mem]
  constructor
  · rintro ⟨h, x, hx, r⟩
    rw [List.mem_singleton.mp hx] at r
    exact ⟨h, r⟩
  · rintro ⟨h, r⟩
    exact ⟨h, a, List.mem_singleton.mpr rfl, r⟩
end Ft

set_option Elab.async false
set_option linter.all false
set_option maxRecDepth 100000
set_option maxHeartbeats 8000000
namespace Ft
open PySem PySem.Spec PyProof.Rows L2
/-- the rows of what each place comes to -/
structure TabAt (H : Hp) (C : Chart) (q : Addr) (rows : List Addr) : Prop where
  len : rows.length = C.n
  at_ : LotsAt H q rows fun a => met C.n C.roads C.wished [a]
theorem TabAt.same {H H' : Hp} (k : Same H H') {C : Chart} {q : Addr} {rows : List Addr} (h : TabAt H C q rows) : TabAt H' C q rows := ⟨h.len, k _ _ h.at_.top, fun a l e => k _ _ (h.at_.each a l e)⟩
theorem rows_at {K : PySem.W.Frag} {H : Hp} : ∀ {L : List Row} {lls : List (List Nat)}, L.map (·.2) = lls.map iN → (∀ p ∈ L, SqT K H p.1 (p.2.map V.int)) → RowsAt K H (L.map (·.1)) lls
  | [], [], _, _ => .nil
  | [], _ :: _, e, _ => by simp at e
  | _ :: _, [], e, _ => by simp at e
  | p :: L, l :: lls, e, h => by
    rw [List.map_cons, List.map_cons] at e
    injection e with e1 e2
    refine .cons ?_ (rows_at e2 fun q hq => h q (List.mem_cons_of_mem _ hq))
    have := h p List.mem_cons_self
    rw [e1, ← vN_map] at this
    exact this
section
variable {P : Program} {w : World} {K : PySem.W.Frag} {mg : Str → Option Value} {base : Heap} {t1 t2 : Tok}
/-! ### _law_map_table -/
def sp_law_map_table (K : PySem.W.Frag) : Sp := fun vs H Q _ => ∃ (c : Addr) (C : Chart), vs = [.ref c] ∧ IsChart K H c C ∧ C.Ok ∧ ∀ q rows H', Same H H' → H q = none → (∀ l ∈ rows, H l = none) → TabAt H' C q rows → Q (.ref q) H'
theorem cal_law_map_table (T : Txt mg) (D : Def K mg "_law_map_table" s_law_map_table) (c_law_map_met : Cal P w K mg base 2 "_law_map_met" (sp_law_map_met K)) : Cal P w K mg base 3 "_law_map_table" (sp_law_map_table K) := by
  refine cal_of D sc_law_map_table (fun _ _ _ _ _ _ us hl => match us, hl with | [_], _ => rfl) (fun vs H Q E h => ?_) (fun f cdv A outer s H vs Q E hr h => ?_)
  · obtain ⟨c, C, rfl, _⟩ := h
    rfl
  · obtain ⟨c, C, rfl, ⟨r, wd, ts, hC⟩, ok, q⟩ := h
    have n60 := ok.n60
    refine ⟨_, (pss_one (ps_ret (pe_lc (own := [("a", 1)]) rfl sc_law_map_table.nd (pi_range1 (by rfl) T.range (pa_cons (pe_ix (show IxR _ (rIxT K) from ix_tup) (pv 0) pe_int (fun _ _ => rfl)) pa_nil)) (blkOk_by (N := ["chart", "a"]) (sc := L2.defScope s_law_map_table) (by decide +kernel)) (fun _ _ _ _ _ => (pg_name (i := 1) sc_law_map_table.nd rfl (Or.inl rfl))) (fun _ _ _ _ _ => pts_nil) (fun _ _ _ _ _ => (pe_c c_law_map_met hr (by decide) (by rfl) (pa_cons (pv 0) (pa_cons (pv 1) pa_nil))))))), ?_⟩
    refine ⟨_, rfl, _, _, _, _, rfl, rfl, hC.top, rfl, _, rfl, by omega, by omega, fun d hd => ?_⟩
    have keep : ∀ {H' : Hp}, Kp [d] H H' → Same H H' := fun {H'} k b o e' => k b o (fun m => by rw [List.mem_singleton.mp m, hd] at e'; cases e') e'
    refine lc_range (lo := 0) (n := C.n) (fun j H' => ∃ rows : List Addr, Kp [d] H H' ∧ H' d = some (.lst (rows.map V.ref)) ∧ rows.length = j ∧ (∀ l ∈ rows, H l = none) ∧ ∀ a l, rows[a]? = some l → l ≠ d ∧ H' l = some (.lst ((met C.n C.roads C.wished [a]).map vN)))
      ⟨[], (fun b o x e' => by rw [upd_ne (ne_of_none e' hd)]; exact e'), upd_same, rfl, (fun _ h => nomatch h), fun a l h => by simp at h⟩ ?_ ?_
    · rintro j H1 hj ⟨rows, k1, hD, len, new, each⟩
      have e0 : (0 : Int) + (j : Nat) = (j : Nat) := by omega
      refine ⟨rfl, ?_⟩
      rw [e0]
      refine ⟨_, rfl, _, rfl, c, C, j, rfl, ⟨r, wd, ts, hC.same (keep k1)⟩, ok, hj, fun m H2 s2 hm hM => ?_⟩
      have hD2 := s2 _ _ hD
      have md : m ≠ d := (ne_of_none hD hm).symm
      refine ⟨_, hD2, by rw [List.length_map]; exact small1000 (by omega), rows ++ [m], ?_, by rw [upd_same, List.map_append]; rfl, by rw [List.length_append, len]; rfl, ?_, ?_⟩
      · intro b o nb eb
        rw [upd_ne (fun z => nb (by rw [z]; simp))]
        exact s2 _ _ (k1 b o nb eb)
      · intro l hl
        rcases List.mem_append.mp hl with hl | hl
        · exact new l hl
        · rw [List.mem_singleton.mp hl]
          exact (keep k1).free hm
      · intro a l hl
        by_cases ha : a < rows.length
        · rw [List.getElem?_append_left ha] at hl
          obtain ⟨n1, e1⟩ := each a l hl
          exact ⟨n1, by rw [upd_ne n1]; exact s2 _ _ e1⟩
        · have hl' := hl
          rw [List.getElem?_append_right (by omega)] at hl
          have a0 : a - rows.length = 0 := by
            rcases Nat.eq_zero_or_pos (a - rows.length) with e | e
            · exact e
            · have : (rows ++ [m]).length ≤ a := by
                rw [List.length_append, List.length_singleton]
                omega
              rw [List.getElem?_eq_none this] at hl'
              cases hl'
          rw [a0] at hl
          have e1 : m = l := by simpa using hl
          have e2 : a = j := by omega
          rw [← e1, e2]
          exact ⟨md, by rw [upd_ne md]; exact hM⟩
    · rintro H1 ⟨rows, k1, hD, len, new, each⟩
      exact q d rows H1 (keep k1) hd new ⟨len, hD, fun a l e => (each a l e).2⟩
/-! ### _law_map_piece -/
def sp_law_map_piece (K : PySem.W.Frag) : Sp := fun vs H Q _ => ∃ (c tb : Addr) (C : Chart) (rows : List Addr) (a : Nat), vs = [.ref c, .ref tb, vN a] ∧ IsChart K H c C ∧ C.Ok ∧ a < C.n ∧ TabAt H C tb rows ∧ ∀ t H', Same H H' → SqT K H' t ((pieceOf C a).map vN) → Q (.ref t) H'
theorem cal_law_map_piece (T : Txt mg) (D : Def K mg "_law_map_piece" s_law_map_piece) : Cal P w K mg base 2 "_law_map_piece" (sp_law_map_piece K) := by
  refine cal_of D sc_law_map_piece (fun _ _ _ _ _ _ us hl => match us, hl with | [_, _, _], _ => rfl) (fun vs H Q E h => ?_) (fun f cdv A outer s H vs Q E hr h => ?_)
  · obtain ⟨c, tb, C, rows, a, rfl, _⟩ := h
    rfl
  · obtain ⟨c, tb, C, rows, a, rfl, ⟨r, wd, ts, hC⟩, ok, ha, hT, q⟩ := h
    have n60 := ok.n60
    refine ⟨_, (pss_cons (ps_if (pt_cmpR (show OpR _ _ (rIn K false) from op_in_seq) (pv 2) (pe_ix (show IxR _ (rIxT K) from ix_tup) (pv 0) pe_int (fun _ _ => rfl)) (by rfl)) (pss_one (ps_ret (pe_tup (pa_cons (pv 2) pa_nil)))) pss_nil)
      (pss_one (ps_ret (pe_callTy (show CallR _ _ (rTupleOf K) from call_tupleOf) (by rfl) T.tuple (by decide +kernel) (pa_cons (pe_lc (own := [("b", 3)]) rfl sc_law_map_piece.nd (pi_range1 (by rfl) T.range (pa_cons (pe_ix (show IxR _ (rIxT K) from ix_tup) (pv 0) pe_int (fun _ _ => rfl)) pa_nil)) (blkOk_by (N := ["chart", "table", "a", "b"]) (sc := L2.defScope s_law_map_piece) (by decide +kernel)) (fun _ _ _ _ _ => (pg_name (i := 3) sc_law_map_piece.nd rfl (Or.inl rfl))) (fun _ _ _ _ _ => pts_one (PW.pt (pw_and (pt_cmpR (show OpR _ _ (rIn K true) from op_notIn_seq) (pv 3) (pe_ix (show IxR _ (rIxT K) from ix_tup) (pv 0) pe_int (fun _ _ => rfl)) (by rfl)) (pw_and1 (PW.pt (pw_or (pt_cmpR op_eq (pv 3) (pv 2) (nomark _)) (pw_or1 (PW.pt (pw_and (pt_cmpR (show OpR _ _ (rIn K false) from op_in_seq) (pv 3) (pe_ix (show IxR _ (rIxL K) from ix_list) (pv 1) (pv 2) (fun _ _ => rfl)) (by rfl)) (pw_and1 (pt_cmpR (show OpR _ _ (rIn K false) from op_in_seq) (pv 2) (pe_ix (show IxR _ (rIxL K) from ix_list) (pv 1) (pv 3) (fun _ _ => rfl)) (by rfl)))))))))))) (fun _ _ _ _ _ => (pv 3))) pa_nil))))), ?_⟩
    refine ⟨_, rfl, _, rfl, _, _, _, _, rfl, rfl, hC.top, rfl, wd, _, rfl, .inr hC.wis, rfl, all_vN C.wished, _, rfl, ?_⟩
    show if inV (vN a) (C.wished.map vN) = true then _ else _
    rw [in_vN]
    by_cases hw : a ∈ C.wished
    · rw [decide_eq_true hw]
      refine iteT ?_
      refine ⟨_, rfl, by show 1 ≤ sizeLine; decide, fun t ht => ?_⟩
      refine q t _ (same_upd ht) (.inl (.inl ?_))
      have e : pieceOf C a = [a] := by
        unfold pieceOf
        rw [if_pos hw]
      rw [upd_same, e]
      rfl
    · rw [decide_eq_false hw]
      refine iteF ?_
      refine ⟨_, rfl, _, _, _, _, rfl, rfl, hC.top, rfl, _, rfl, by omega, by omega, fun d hd => ?_⟩
      have keep : ∀ {H' : Hp}, Kp [d] H H' → Same H H' := fun {H'} k b o e' => k b o (fun m => by rw [List.mem_singleton.mp m, hd] at e'; cases e') e'
      obtain ⟨Pr, ePr⟩ : ∃ Pr : Nat → Prop, Pr = fun b => b ∉ C.wished ∧ (b = a ∨ (b ∈ met C.n C.roads C.wished [a] ∧ a ∈ met C.n C.roads C.wished [b])) := ⟨_, rfl⟩
      refine lc_range (lo := 0) (n := C.n) (fun j H' => Kp [d] H H' ∧ H' d = some (.lst ((those j Pr).map vN)))
        ⟨(fun b o x e' => by rw [upd_ne (ne_of_none e' hd)]; exact e'), upd_same⟩ ?_ ?_
      · rintro j H1 hj ⟨k1, hD⟩
        have e0 : (0 : Int) + (j : Nat) = (j : Nat) := by omega
        have hC1 := hC.same (keep k1)
        have hT1 := hT.same (keep k1)
        obtain ⟨ra, hra⟩ : ∃ t, rows[a]? = some t := ⟨_, List.getElem?_eq_getElem (by rw [hT.len]; exact ha)⟩
        obtain ⟨rj, hrj⟩ : ∃ t, rows[j]? = some t := ⟨_, List.getElem?_eq_getElem (by rw [hT.len]; exact hj)⟩
        refine ⟨rfl, ?_⟩
        rw [e0]
        have no : ¬ Pr j → Kp [d] H H1 ∧ H1 d = some (.lst ((those (j + 1) Pr).map vN)) := fun h => ⟨k1, by rw [those_no h]; exact hD⟩
        have len : (those j Pr).length ≤ j := those_len j Pr
        have yes : Pr j → (V.int (j : Int) = vN j) ∧ H1 d = some (.lst ((those j Pr).map vN)) ∧ ((those j Pr).map vN).length < sizeLine ∧ Kp [d] H (upd H1 d (.lst ((those j Pr).map vN ++ [vN j]))) ∧ (upd H1 d (.lst ((those j Pr).map vN ++ [vN j]))) d = some (.lst ((those (j + 1) Pr).map vN)) := fun h =>
          ⟨rfl, hD, by rw [List.length_map]; exact small1000 (by omega), fun b o nb eb => by rw [upd_ne (fun z => nb (by rw [z]; simp))]; exact k1 b o nb eb, by rw [upd_same, those_yes h, List.map_append]; rfl⟩
        refine ⟨_, rfl, _, rfl, _, _, _, _, rfl, rfl, hC1.top, rfl, wd, _, rfl, .inr hC1.wis, rfl, all_vN C.wished, _, rfl, ?_⟩
        show if (!inV (vN j) (C.wished.map vN)) = true then _ else _
        rw [in_vN]
        by_cases jw : j ∈ C.wished
        · rw [decide_eq_true jw]
          exact iteF (no (by rw [ePr]; exact fun h => h.1 jw))
        · rw [decide_eq_false jw]
          refine iteT ?_
          refine ⟨_, rfl, _, rfl, rfl, _, rfl, ?_⟩
          by_cases ja : j = a
          · have : decide (V.int (j : Int) = vN a) = true := by
              rw [ja]
              exact decide_eq_true rfl
            rw [this]
            refine iteT ?_
            obtain ⟨_, y1, y2, y3, y4⟩ := yes (by rw [ePr]; exact ⟨jw, .inl ja⟩)
            exact ⟨_, rfl, _, y1, y2, y3, y4⟩
          · have : decide (V.int (j : Int) = vN a) = false := by
              refine decide_eq_false fun e => ja ?_
              have := V.int.inj e
              omega
            rw [this]
            refine iteF ?_
            refine ⟨_, rfl, _, rfl, _, rfl, tb, _, _, _, rfl, rfl, .inl (.inl hT1.at_.top), atI_nat (v := V.ref ra) (by rw [List.getElem?_map, hra]; rfl), ra, _, rfl, .inl (.inl (.inl (hT1.at_.each a ra hra))), rfl, all_vN _, _, rfl, ?_⟩
            show if inV (vN j) ((met C.n C.roads C.wished [a]).map vN) = true then _ else _
            rw [in_vN]
            by_cases m1 : j ∈ met C.n C.roads C.wished [a]
            · rw [decide_eq_true m1]
              refine iteT ?_
              refine ⟨_, rfl, _, rfl, _, rfl, tb, _, _, _, rfl, rfl, .inl (.inl hT1.at_.top), atI_nat (v := V.ref rj) (by rw [List.getElem?_map, hrj]; rfl), rj, _, rfl, .inl (.inl (.inl (hT1.at_.each j rj hrj))), rfl, all_vN _, _, rfl, ?_⟩
              show if inV (vN a) ((met C.n C.roads C.wished [j]).map vN) = true then _ else _
              rw [in_vN]
              by_cases m2 : a ∈ met C.n C.roads C.wished [j]
              · rw [decide_eq_true m2]
                refine iteT ?_
                obtain ⟨_, y1, y2, y3, y4⟩ := yes (by rw [ePr]; exact ⟨jw, .inr ⟨m1, m2⟩⟩)
                exact ⟨_, rfl, _, y1, y2, y3, y4⟩
              · rw [decide_eq_false m2]
                exact iteF (no (by rw [ePr]; exact fun h => h.2.elim ja fun h => m2 h.2))
            · rw [decide_eq_false m1]
              exact iteF (no (by rw [ePr]; exact fun h => h.2.elim ja fun h => m1 h.1))
      · rintro H1 ⟨k1, hD⟩
        have e : those C.n Pr = pieceOf C a := by
          refine asc_ext (those_up _ _) (piece_up C a) fun x => ?_
          rw [those_mem, piece_mem hw, ePr]
          constructor
          · rintro ⟨xn, xw, h⟩
            exact ⟨xn, xw, h.imp id fun h => ⟨(met_mem.mp h.1).2, (met_mem.mp h.2).2⟩⟩
          · rintro ⟨xn, xw, h⟩
            exact ⟨xn, xw, h.imp id fun h => ⟨met_mem.mpr ⟨xn, h.1⟩, met_mem.mpr ⟨ha, h.2⟩⟩⟩
        rw [e] at hD
        refine ⟨d, _, rfl, .inl ⟨.inl (.inl hD), fun t ht => ?_⟩⟩
        exact q t _ ((keep k1).trans (same_upd ht)) (.inl (.inl upd_same))
/-! ### _law_map_pieces -/
def sp_law_map_pieces (K : PySem.W.Frag) : Sp := fun vs H Q _ => ∃ (c tb : Addr) (C : Chart) (rows : List Addr), vs = [.ref c, .ref tb] ∧ IsChart K H c C ∧ C.Ok ∧ TabAt H C tb rows ∧ ∀ q ts H', Same H H' → SqT K H' q (ts.map V.ref) → RowsAt K H' ts (piecesL C) → Q (.ref q) H'
theorem cal_law_map_pieces (T : Txt mg) (D : Def K mg "_law_map_pieces" s_law_map_pieces) (c_law_map_piece : Cal P w K mg base 2 "_law_map_piece" (sp_law_map_piece K)) : Cal P w K mg base 3 "_law_map_pieces" (sp_law_map_pieces K) := by
  refine cal_of D sc_law_map_pieces (fun _ _ _ _ _ _ us hl => match us, hl with | [_, _], _ => rfl) (fun vs H Q E h => ?_) (fun f cdv A outer s H vs Q E hr h => ?_)
  · obtain ⟨c, tb, C, rows, rfl, _⟩ := h
    rfl
  · obtain ⟨c, tb, C, rows, rfl, ⟨r, wd, ts, hC⟩, ok, hT, q⟩ := h
    have n60 := ok.n60
    have hU := hr.units
    refine ⟨_, (pss_cons (ps_setLc (i := 2) (own := [("a", 3)]) rfl sc_law_map_pieces.nd rfl rfl (sw_true rfl rfl rfl (by decide +kernel)) (pi_range1 (by rfl) T.range (pa_cons (pe_ix (show IxR _ (rIxT K) from ix_tup) (pv 0) pe_int (fun _ _ => rfl)) pa_nil)) (blkOk_by (N := ["chart", "table", "lots", "a"]) (sc := L2.defScope s_law_map_pieces) (by decide +kernel)) (fun _ _ _ _ _ => (pg_name (i := 3) sc_law_map_pieces.nd rfl (Or.inl rfl))) (fun _ _ _ _ _ => pts_one (pt_cmpR (show OpR _ _ (rIn K true) from op_notIn_seq) (pv 3) (pe_ix (show IxR _ (rIxT K) from ix_tup) (pv 0) pe_int (fun _ _ => rfl)) (by rfl))) (fun _ _ _ _ _ => (pe_c c_law_map_piece hr (by decide) (by rfl) (pa_cons (pv 0) (pa_cons (pv 1) (pa_cons (pv 3) pa_nil))))))
      (pss_one (ps_ret (pe_callTy (show CallR _ _ (rTupleOf K) from call_tupleOf) (by rfl) T.tuple (by decide +kernel) (pa_cons (pe_callB (show CallR _ _ (rSortedS K P w) from cr_sortedSR rfl hU) (by rfl) T.sorted (by decide +kernel) (pa_cons (pe_callTy (show CallR _ _ (rSetOfT K P w) from cr_setOfT rfl hU) (by rfl) T.set (by decide +kernel) (pa_cons (pv 2) pa_nil)) pa_nil)) pa_nil))))), ?_⟩
    refine ⟨_, rfl, _, _, _, _, rfl, rfl, hC.top, rfl, _, rfl, by omega, by omega, fun d hd => ?_⟩
    have keep : ∀ {H' : Hp}, Kp [d] H H' → Same H H' := fun {H'} k b o e' => k b o (fun m => by rw [List.mem_singleton.mp m, hd] at e'; cases e') e'
    refine lc_range (lo := 0) (n := C.n) (fun j H' => ∃ L : List Row, Kp [d] H H' ∧ H' d = some (.lst (L.map fun p => V.ref p.1)) ∧ L.length ≤ j ∧ (∀ p ∈ L, SqT K H' p.1 (p.2.map V.int)) ∧ (∀ p ∈ L, ∃ a ∈ unw C, p.2 = iN (pieceOf C a)) ∧ ∀ a ∈ unw C, a < j → ∃ p ∈ L, p.2 = iN (pieceOf C a))
      ⟨[], (fun b o x e' => by rw [upd_ne (ne_of_none e' hd)]; exact e'), upd_same, Nat.le_refl _, (fun _ h => nomatch h), (fun _ h => nomatch h), fun a _ h => absurd h (Nat.not_lt_zero _)⟩ ?_ ?_
    · rintro j H1 hj ⟨L, k1, hD, len, all, from_, to⟩
      have e0 : (0 : Int) + (j : Nat) = (j : Nat) := by omega
      have hC1 := hC.same (keep k1)
      refine ⟨rfl, ?_⟩
      rw [e0]
      refine ⟨_, rfl, _, rfl, _, _, _, _, rfl, rfl, hC1.top, rfl, wd, _, rfl, .inr hC1.wis, rfl, all_vN C.wished, _, rfl, ?_⟩
      show if (!inV (vN j) (C.wished.map vN)) = true then _ else _
      rw [in_vN]
      by_cases jw : j ∈ C.wished
      · rw [decide_eq_true jw]
        refine iteF ⟨L, k1, hD, by omega, all, from_, fun a ha haj => to a ha ?_⟩
        have : a ≠ j := fun e => (unw_mem.mp ha).2 (e ▸ jw)
        omega
      · rw [decide_eq_false jw]
        refine iteT ?_
        refine ⟨_, rfl, _, rfl, _, rfl, c, tb, C, rows, j, rfl, ⟨r, wd, ts, hC1⟩, ok, hj, hT.same (keep k1), fun t H2 s2 hP => ?_⟩
        have hD2 := s2 _ _ hD
        have keepU : ∀ {b : Addr} {ys : List V}, SqT K H2 b ys → SqT K (upd H2 d (.lst ((L.map fun p => V.ref p.1) ++ [V.ref t]))) b ys := fun {b ys} h => by
          refine Kp.sqT (ex := [d]) (fun b' o nb eb => ?_) (fun b' m => ?_) h
          · rw [upd_ne (fun z => nb (by rw [z]; simp))]
            exact eb
          · rw [List.mem_singleton.mp m]
            exact ⟨_, hD2, (fun _ z => nomatch z), (fun _ _ z => nomatch z)⟩
        refine ⟨_, hD2, by rw [List.length_map]; exact small1000 (by omega), L ++ [(t, iN (pieceOf C j))], ?_, by rw [upd_same, List.map_append]; rfl, by rw [List.length_append]; exact Nat.succ_le_succ len, ?_, ?_, ?_⟩
        · intro b o nb eb
          rw [upd_ne (fun z => nb (by rw [z]; simp))]
          exact s2 _ _ (k1 b o nb eb)
        · intro p hp
          rcases List.mem_append.mp hp with hp | hp
          · exact keepU (Same.sqT s2 (all p hp))
          · rw [List.mem_singleton.mp hp]
            refine keepU ?_
            rw [← vN_map]
            exact hP
        · intro p hp
          rcases List.mem_append.mp hp with hp | hp
          · exact from_ p hp
          · rw [List.mem_singleton.mp hp]
            exact ⟨j, unw_mem.mpr ⟨hj, jw⟩, rfl⟩
        · intro a ha haj
          by_cases e : a = j
          · rw [e]
            exact ⟨_, List.mem_append_right _ (List.mem_singleton.mpr rfl), rfl⟩
          · obtain ⟨p, hp, e1⟩ := to a ha (by omega)
            exact ⟨p, List.mem_append_left _ hp, e1⟩
    · rintro H1 ⟨L, k1, hD, len, all, from_, to⟩
      have ne : ∀ p ∈ L, p.2 ≠ [] := fun p hp e => by
        obtain ⟨a, ha, e1⟩ := from_ p hp
        have := piece_self (unw_mem.mp ha).1
        rw [e1] at e
        have e2 : pieceOf C a = [] := by
          unfold iN at e
          exact List.map_eq_nil_iff.mp e
        rw [e2] at this
        exact absurd this List.not_mem_nil
      refine ⟨_, rfl, d, L, rfl, .inl (.inl hD), all, by omega, fun a L1 ha sub sup => ?_⟩
      have s3 : Same H1 (upd H1 a (SetTO P w a L1)) := same_upd ha
      refine ⟨a, L1, rfl, upd_same, (fun p hp => Same.sqT s3 (all p (sub p hp))), (fun p hp => ne p (sub p hp)), fun L' u pm' nd few pw hu' => ?_⟩
      have s4 : Same H1 (upd (upd H1 a (SetTO P w a L1)) u (.lst (L'.map fun r => V.ref r.1))) := s3.trans (same_upd hu')
      refine ⟨u, _, rfl, .inl ⟨.inl (.inl upd_same), fun tp htp => ?_⟩⟩
      have s5 := s4.trans (same_upd (o := .tup (L'.map fun r => V.ref r.1)) htp)
      have e : L'.map (·.2) = (piecesL C).map iN := by
        refine rows_ext ?_ (piecesL_up C) fun x => ?_
        · exact List.Pairwise.and (List.pairwise_map.mpr pw) nd
        · constructor
          · intro hx
            obtain ⟨p, hp, rfl⟩ := List.mem_map.mp hx
            obtain ⟨a', ha', e1⟩ := from_ p (sub p (pm'.mem_iff.mp hp))
            rw [e1]
            exact List.mem_map.mpr ⟨_, piecesL_mem.mpr ⟨a', ha', rfl⟩, rfl⟩
          · intro hx
            obtain ⟨l, hl, rfl⟩ := List.mem_map.mp hx
            obtain ⟨a', ha', rfl⟩ := piecesL_mem.mp hl
            obtain ⟨p, hp, e1⟩ := to a' ha' (unw_mem.mp ha').1
            have h2 := sup p hp
            rw [e1] at h2
            exact (pm'.map (·.2)).mem_iff.mpr h2
      refine q tp (L'.map (·.1)) _ ((keep k1).trans s5) (.inl (.inl ?_)) ?_
      · rw [upd_same, List.map_map]
        rfl
      · exact rows_at e fun p hp => Same.sqT s5 (all p (sub p (pm'.mem_iff.mp hp)))
end
end Ft

set_option Elab.async false
set_option linter.all false
set_option maxRecDepth 100000
set_option maxHeartbeats 4000000
namespace Ft
open PySem PySem.Spec PyProof.Rows L2
/-! ### what repr shows of rows of places -/
def encL (l : List Nat) : PyData := .tuple (l.map fun (n : Nat) => .int (n : Int))
theorem small_int : ∀ n : Fin 64, (PyData.int ((n.1 : Nat) : Int)).showable = true ∧ (PyData.int ((n.1 : Nat) : Int)).leavesShort 13 = true ∧ (PyData.int ((n.1 : Nat) : Int)).weight ≤ 7 := by decide +kernel
theorem small_nat {n : Nat} (h : n < 64) : (PyData.int (n : Int)).showable = true ∧ (PyData.int (n : Int)).leavesShort 13 = true ∧ (PyData.int (n : Int)).weight ≤ 7 := small_int ⟨n, h⟩
theorem ints_shown : ∀ l : List Nat, (∀ n ∈ l, n < 64) → PyData.showableAll (l.map fun (n : Nat) => .int (n : Int)) = true ∧ PyData.leavesShortAll 13 (l.map fun (n : Nat) => .int (n : Int)) = true ∧ PyData.weightAll (l.map fun (n : Nat) => .int (n : Int)) ≤ 8 * l.length ∧ PyData.depthAll (l.map fun (n : Nat) => .int (n : Int)) = 0
  | [], _ => by simp [PyData.showableAll, PyData.leavesShortAll, PyData.weightAll, PyData.depthAll]
  | n :: l, h => by
    obtain ⟨a1, a2, a3⟩ := small_nat (h n List.mem_cons_self)
    obtain ⟨b1, b2, b3, b4⟩ := ints_shown l fun m hm => h m (List.mem_cons_of_mem _ hm)
    simp only [List.map_cons, PyData.showableAll, PyData.leavesShortAll, PyData.weightAll, PyData.depthAll, a1, a2, b1, b2, b4, List.length_cons, PyData.depth, Bool.and_self, Nat.max_self, true_and, and_true]
    omega
theorem shows_row {l : List Nat} (h : ∀ n ∈ l, n < 64) (few : l.length ≤ 64) : Shows (encL l) := by
  obtain ⟨b1, b2, b3, b4⟩ := ints_shown l h
  unfold encL
  refine ⟨?_, ?_, ?_, ?_⟩
  · simp only [PyData.showable, b1]
  · simp only [PyData.leavesShort, b2]
  · simp only [PyData.weight]
    omega
  · simp only [PyData.depth, b4]
    omega
theorem rows_shown : ∀ lls : List (List Nat), (∀ l ∈ lls, (∀ n ∈ l, n < 64) ∧ l.length ≤ 64) → PyData.showableAll (lls.map encL) = true ∧ PyData.leavesShortAll 13 (lls.map encL) = true ∧ PyData.weightAll (lls.map encL) ≤ 513 * lls.length ∧ PyData.depthAll (lls.map encL) ≤ 1
  | [], _ => by simp [PyData.showableAll, PyData.leavesShortAll, PyData.weightAll, PyData.depthAll]
  | l :: lls, h => by
    obtain ⟨a1, a2⟩ := h l List.mem_cons_self
    obtain ⟨c1, c2, c3, c4⟩ := ints_shown l a1
    obtain ⟨b1, b2, b3, b4⟩ := rows_shown lls fun m hm => h m (List.mem_cons_of_mem _ hm)
    have e : encL l = .tuple (l.map fun (n : Nat) => .int (n : Int)) := rfl
    simp only [List.map_cons, PyData.showableAll, PyData.leavesShortAll, PyData.weightAll, PyData.depthAll, b1, b2, List.length_cons, e, PyData.showable, PyData.leavesShort, PyData.weight, PyData.depth, c1, c2, c4, Bool.and_self, true_and]
    omega
theorem shows_rows {lls : List (List Nat)} (h : ∀ l ∈ lls, (∀ n ∈ l, n < 64) ∧ l.length ≤ 64) (few : lls.length ≤ 64) : Shows (.tuple (lls.map encL)) := by
  obtain ⟨b1, b2, b3, b4⟩ := rows_shown lls h
  refine ⟨?_, ?_, ?_, ?_⟩
  · simp only [PyData.showable, b1]
  · simp only [PyData.leavesShort, b2]
  · simp only [PyData.weight]
    omega
  · simp only [PyData.depth]
    omega
theorem dp_row {K : PySem.W.Frag} {H : Hp} {t : Addr} {l : List Nat} (h : SqT K H t (l.map vN)) : Dp K H (.ref t) (encL l) := by
  refine .tup h ?_
  have : DpAll K H ((iN l).map V.int) ((iN l).map PyData.int) := dpAll_ints _
  rw [← vN_map] at this
  unfold iN at this
  rw [List.map_map] at this
  exact this
end Ft

set_option Elab.async false
set_option linter.all false
set_option maxRecDepth 100000
set_option maxHeartbeats 8000000
namespace Ft
open PySem PySem.Spec PyProof.Rows L2
/-- the roads of a planted map, before its places are named anew -/
structure Plant (rg wy n : Nat) (prs : List (Nat × Nat)) : Prop where
  kind : ∀ q ∈ prs, (q.1 < rg ∧ q.2 = (q.1 + 1) % rg) ∨ (q.1 < rg ∧ rg ≤ q.2 ∧ q.2 < rg + wy) ∨ (rg ≤ q.1 ∧ q.1 < rg + wy ∧ rg + wy ≤ q.2 ∧ q.2 < n)
  ring : ∀ a, a < rg → (a, (a + 1) % rg) ∈ prs
/-- what a planted map is -/
structure Planted (C : Chart) (rg wy : Nat) (ring wts : List Nat) : Prop where
  to : ∃ (n : Nat) (prs : List (Nat × Nat)) (ws perm : List Nat), perm.Perm (List.range n) ∧ rg + wy ≤ n ∧ Plant rg wy n prs ∧ (∀ a, a ∈ ws ↔ rg + wy ≤ a ∧ a < n) ∧ Named n prs ws perm C ∧ ring.Pairwise (· < ·) ∧ (∀ x, x ∈ ring ↔ ∃ a, a < rg ∧ x = nm perm a) ∧ wts = (List.range wy).map fun k => nm perm (rg + k)
def LotsL (H : Hp) (as : List Addr) (ls : List (List Nat)) : Prop := Paired (fun (a : Addr) (l : List Nat) => H a = some (.lst (l.map vN))) as ls
theorem LotsL.imp {H H' : Hp} : ∀ {as : List Addr} {ls : List (List Nat)}, (∀ a ∈ as, ∀ o, H a = some o → H' a = some o) → LotsL H as ls → LotsL H' as ls
  | _, _, _, .nil => .nil
  | a :: as, _ :: _, h, .cons r t => .cons (h a List.mem_cons_self _ r) (LotsL.imp (fun b hb => h b (List.mem_cons_of_mem _ hb)) t)
theorem LotsL.has {H : Hp} : ∀ {as : List Addr} {ls : List (List Nat)}, LotsL H as ls → ∀ a ∈ as, ∃ l : List Nat, l ∈ ls ∧ H a = some (.lst (l.map vN))
  | _, _, .nil, _, m => nomatch m
  | a :: as, l :: _, .cons r t, b, m => by
    rcases List.mem_cons.mp m with e | m
    · exact ⟨l, List.mem_cons_self, e ▸ r⟩
    · obtain ⟨l', h1, h2⟩ := LotsL.has t b m
      exact ⟨l', List.mem_cons_of_mem _ h1, h2⟩
theorem PoolAt.keep {ex : List Addr} {H H' : Hp} {p l : Addr} (k : Kp ex H H') (n1 : p ∉ ex) (n2 : l ∉ ex) (h : PoolAt H p l) : PoolAt H' p l := by
  obtain ⟨a, b, cs, h1, h2, h3⟩ := h
  exact ⟨a, b, cs, k _ _ n1 h1, k _ _ n2 h2, h3⟩
theorem off2 {p l d z : Addr} (h1 : d ∉ [p, l]) (h2 : z ∉ [p, l]) : p ∉ [d, z] ∧ l ∉ [d, z] := by
  simp only [List.mem_cons, List.not_mem_nil, or_false, not_or] at h1 h2 ⊢
  exact ⟨⟨fun e => h1.1 e.symm, fun e => h2.1 e.symm⟩, ⟨fun e => h1.2 e.symm, fun e => h2.2 e.symm⟩⟩
theorem kp_new {ex0 ex : List Addr} {H H1 H2 : Hp} (k : Kp ex0 H H1) (he : ∀ e ∈ ex, H e = none) (k2 : Kp ex H1 H2) : Kp ex0 H H2 := fun b o nb eb => k2 b o (fun m => by rw [he b m] at eb; cases eb) (k b o nb eb)
theorem nm_inj {perm : List Nat} {n : Nat} (pm : perm.Perm (List.range n)) {a b : Nat} (ha : a < n) (hb : b < n) (e : nm perm a = nm perm b) : a = b := by
  have len : perm.length = n := by rw [pm.length_eq, List.length_range]
  have nd : perm.Nodup := pm.nodup_iff.mpr List.nodup_range
  refine (List.getElem?_inj (by rw [len]; exact ha) nd).mp ?_
  rw [nm_get (by rw [len]; exact ha), nm_get (by rw [len]; exact hb), e]
section
variable {P : Program} {w : World} {K : PySem.W.Frag} {mg : Str → Option Value} {base : Heap} {t1 t2 : Tok}
/-! ### _law_map_planted -/
def sp_law_map_planted (K : PySem.W.Frag) : Sp := fun vs H Q _ => ∃ (p l : Addr) (rg wy bh : Nat), vs = [.ref p, vN rg, vN wy, vN bh] ∧ PoolAt H p l ∧ 0 < rg ∧ rg ≤ 24 ∧ wy ≤ 3 ∧ 0 < bh ∧ bh ≤ 8 ∧
  ∀ (q c ri wa tl : Addr) (C : Chart) (ring wts : List Nat) (H' : Hp), H' q = some (.lst [.ref c, .ref ri, .ref wa, .ref tl]) → IsChart K H' c C → C.Ok → H' ri = some (.lst (ring.map vN)) → H' wa = some (.lst (wts.map vN)) → ring.length = rg → wts.length = wy → ri ∉ [p, l] → wa ∉ [p, l] → Planted C rg wy ring wts → PoolAt H' p l → Kp [p, l] H H' → Q (.ref q) H'
theorem cal_law_map_planted (T : Txt mg) (D : Def K mg "_law_map_planted" s_law_map_planted) (c_law_draw : Cal P w K mg base 2 "_law_draw" sp_law_draw) (c_law_map_named : Cal P w K mg base 4 "_law_map_named" (sp_law_map_named K)) : Cal P w K mg base 5 "_law_map_planted" (sp_law_map_planted K) := by
  refine cal_of D sc_law_map_planted (fun _ _ _ _ _ _ us hl => match us, hl with | [_, _, _, _], _ => rfl) (fun vs H Q E h => ?_) (fun f cdv A outer s H vs Q E hr h => ?_)
  · obtain ⟨p, l, rg, wy, bh, rfl, _⟩ := h
    rfl
  · obtain ⟨p, l, rg, wy, bh, rfl, hP, rg0, rg24, wy3, bh0, bh8, q⟩ := h
    have hU := hr.units
    refine ⟨_, (pss_cons (ps_par3 (i := 4) (j := 5) (l := 6) (by rfl) sc_law_map_planted.nd rfl rfl rfl (by decide) (by decide) (by decide) rfl rfl rfl (pa_cons (pe_op op_add (pv 1) (pv 2)) (pa_cons (pe_lc (own := [("a", 14)]) rfl sc_law_map_planted.nd (pi_range1 (by rfl) T.range (pa_cons (pv 1) pa_nil)) (blkOk_by (N := ["pool", "ring", "ways", "behind", "places", "roads", "last", "way", "turn", "wished", "lot", "chart", "names", "told", "a"]) (sc := L2.defScope s_law_map_planted) (by decide +kernel)) (fun _ _ _ _ _ => (pg_name (i := 14) sc_law_map_planted.nd rfl (Or.inl rfl))) (fun _ _ _ _ _ => pts_nil) (fun _ _ _ _ _ => (pe_tup (pa_cons (pv 14) (pa_cons (pe_op op_mod (pe_callTy call_int1 (by rfl) T.int (by decide +kernel) (pa_cons (pe_op op_add (pv 14) pe_int) pa_nil)) (pv 1)) pa_nil))))) (pa_cons (pe_lst pa_nil) pa_nil))) (by rfl))
      (pss_cons (ps_for PassesOwn.never rfl (pi_range1 (by rfl) T.range (pa_cons (pv 2) pa_nil)) (pg_name (i := 7) sc_law_map_planted.nd rfl (Or.inl rfl)) (pss_cons (ps_expr (pe_bm PySem.F.plainAttrs_list PySem.F.slot_list_append PySem.F.type_list_append mt_append (pv 5) (pa_cons (pe_tup (pa_cons (pe_c c_law_draw hr (by decide) (by rfl) (pa_cons (pv 0) (pa_cons (pv 1) pa_nil))) (pa_cons (pe_op op_add (pv 1) (pv 7)) pa_nil))) pa_nil)))
        (pss_cons (ps_expr (pe_bm PySem.F.plainAttrs_list PySem.F.slot_list_append PySem.F.type_list_append mt_append (pv 6) (pa_cons (pe_lst pa_nil) pa_nil)))
        (pss_one (ps_for PassesOwn.never rfl (pi_range1 (by rfl) T.range (pa_cons (pe_op op_add pe_int (pe_c c_law_draw hr (by decide) (by rfl) (pa_cons (pv 0) (pa_cons (pv 3) pa_nil)))) pa_nil)) (pg_name (i := 8) sc_law_map_planted.nd rfl (Or.inl rfl)) (pss_cons (ps_expr (pe_bm PySem.F.plainAttrs_list PySem.F.slot_list_append PySem.F.type_list_append mt_append (pv 5) (pa_cons (pe_tup (pa_cons (pe_op op_add (pv 1) (pv 7)) (pa_cons (pv 4) pa_nil))) pa_nil)))
          (pss_cons (ps_expr (pe_bm PySem.F.plainAttrs_list PySem.F.slot_list_append PySem.F.type_list_append mt_append (pe_ix (show IxR _ (rIxL K) from ix_list) (pv 6) (pv 7) (fun _ _ => rfl)) (pa_cons (pv 4) pa_nil)))
          (pss_one (ps_set (i := 4) sc_law_map_planted.nd rfl (Or.inl rfl) (pe_op op_add (pv 4) pe_int))))))))))
      (pss_cons (ps_set (i := 9) sc_law_map_planted.nd rfl (Or.inl rfl) (pe_lst pa_nil))
      (pss_cons (ps_for PassesOwn.never rfl (show PI _ _ _ (iList K _) from pi_list (pv 6)) (pg_name (i := 10) sc_law_map_planted.nd rfl (Or.inl rfl)) (pss_one (ps_set (i := 9) sc_law_map_planted.nd rfl (Or.inl rfl) (pe_op op_cat (pv 9) (pv 10)))))
      (pss_cons (ps_asg (pe_c c_law_map_named hr (by decide) (by rfl) (pa_cons (pv 0) (pa_cons (pv 4) (pa_cons (pv 5) (pa_cons (pv 9) pa_nil))))) (show PG _ _ (gLst K 2 _) from pg_lst (by rfl) (pgs_cons (pg_name (i := 11) sc_law_map_planted.nd rfl (Or.inl rfl)) (pgs_cons (pg_name (i := 12) sc_law_map_planted.nd rfl (Or.inr rfl)) pgs_nil))))
      (pss_cons (ps_setLc (i := 13) (own := [("lot", 10)]) rfl sc_law_map_planted.nd rfl rfl (sw_true rfl rfl rfl (by decide +kernel)) (show PI _ _ _ (iList K _) from pi_list (pv 6)) (blkOk_by (N := ["pool", "ring", "ways", "behind", "places", "roads", "last", "way", "turn", "wished", "lot", "chart", "names", "told", "a"]) (sc := L2.defScope s_law_map_planted) (by decide +kernel)) (fun _ _ _ _ _ => (pg_name (i := 10) sc_law_map_planted.nd rfl (Or.inl rfl))) (fun _ _ _ _ _ => pts_nil) (fun _ _ _ _ _ => (pe_callB (show CallR _ _ (rSortedI K) from cr_sortedI) (by rfl) T.sorted (by decide +kernel) (pa_cons (pe_lc (own := [("a", 14)]) rfl sc_law_map_planted.nd (show PI _ _ _ (iList K _) from pi_list (pv 10)) (blkIn (N := ["pool", "ring", "ways", "behind", "places", "roads", "last", "way", "turn", "wished", "lot", "chart", "names", "told", "a"]) (sc := L2.defScope s_law_map_planted) rfl (by decide +kernel)) (fun _ _ _ _ _ => (pg_name (i := 14) sc_law_map_planted.nd rfl (Or.inl rfl))) (fun _ _ _ _ _ => pts_nil) (fun _ _ _ _ _ => (pe_ix (show IxR _ (rIxL K) from ix_list) (pv 12) (pv 14) (fun _ _ => rfl)))) pa_nil))))
      (pss_one (ps_ret (pe_lst (pa_cons (pv 11) (pa_cons (pe_callB (show CallR _ _ (rSortedI K) from cr_sortedI) (by rfl) T.sorted (by decide +kernel) (pa_cons (pe_lc (own := [("a", 14)]) rfl sc_law_map_planted.nd (pi_range1 (by rfl) T.range (pa_cons (pv 1) pa_nil)) (blkOk_by (N := ["pool", "ring", "ways", "behind", "places", "roads", "last", "way", "turn", "wished", "lot", "chart", "names", "told", "a"]) (sc := L2.defScope s_law_map_planted) (by decide +kernel)) (fun _ _ _ _ _ => (pg_name (i := 14) sc_law_map_planted.nd rfl (Or.inl rfl))) (fun _ _ _ _ _ => pts_nil) (fun _ _ _ _ _ => (pe_ix (show IxR _ (rIxL K) from ix_list) (pv 12) (pv 14) (fun _ _ => rfl)))) pa_nil)) (pa_cons (pe_lc (own := [("way", 7)]) rfl sc_law_map_planted.nd (pi_range1 (by rfl) T.range (pa_cons (pv 2) pa_nil)) (blkOk_by (N := ["pool", "ring", "ways", "behind", "places", "roads", "last", "way", "turn", "wished", "lot", "chart", "names", "told", "a"]) (sc := L2.defScope s_law_map_planted) (by decide +kernel)) (fun _ _ _ _ _ => (pg_name (i := 7) sc_law_map_planted.nd rfl (Or.inl rfl))) (fun _ _ _ _ _ => pts_nil) (fun _ _ _ _ _ => (pe_ix (show IxR _ (rIxL K) from ix_list) (pv 12) (pe_op op_add (pv 1) (pv 7)) (fun _ _ => rfl)))) (pa_cons (pv 13) pa_nil))))))))))))), ?_⟩
    have s1000 : (1000 : Nat) ≤ sizeLine := by decide
    refine ⟨_, rfl, _, rfl, _, _, rfl, rfl, _, rfl, _, rfl, by omega, by omega, fun d hd => ?_⟩
    have dpl : d ∉ [p, l] := hP.free hd
    refine lc_range (lo := 0) (n := rg) (fun i H' => ∃ L : List (Addr × (Nat × Nat)), Kp [d] H H' ∧ H' d = some (.lst (L.map fun r => V.ref r.1)) ∧ TupsAt H' L ∧ L.map (·.2) = (List.range i).map fun a => (a, (a + 1) % rg))
      ⟨[], (fun b o x e' => by rw [upd_ne (ne_of_none e' hd)]; exact e'), upd_same, (fun _ h => nomatch h), rfl⟩ ?_ ?_
    · rintro i H1 hi ⟨L, k1, hD, hL, eL⟩
      have lenL : L.length = i := by
        have := congrArg List.length eL
        rwa [List.length_map, List.length_map, List.length_range] at this
      have e0 : (0 : Int) + (i : Nat) = (i : Nat) := by omega
      refine ⟨rfl, ?_⟩
      rw [e0]
      have r0 : (0 : Int) < (rg : Int) := by omega
      refine ⟨_, rfl, _, rfl, _, _, rfl, rfl, .inl ⟨_, rfl, _, rfl, _, _, rfl, rfl, r0, by show 2 ≤ sizeLine; decide, fun t ht => ?_⟩⟩
      have em : V.int (((i : Int) + 1) % (rg : Int)) = vN ((i + 1) % rg) := by
        unfold vN
        congr 1
      have hT : (upd H1 t (.tup [vN i, V.int (((i : Int) + 1) % (rg : Int))])) t = some (.tup [vN i, vN ((i + 1) % rg)]) := by rw [upd_same, em]
      have s2 : Same H1 (upd H1 t (.tup [vN i, V.int (((i : Int) + 1) % (rg : Int))])) := same_upd ht
      have hD2 := s2 _ _ hD
      refine ⟨_, hD2, by rw [List.length_map]; exact small1000 (by omega), L ++ [(t, (i, (i + 1) % rg))], ?_, by rw [upd_same, List.map_append]; rfl, ((hL.same s2).add hT).set hD2, by rw [List.map_append, eL, List.range_succ, List.map_append]; rfl⟩
      intro b o nb eb
      rw [upd_ne (fun z => nb (by rw [z]; simp))]
      exact s2 _ _ (k1 b o nb eb)
    rintro H1 ⟨L0, k1, hD1, hL1, eL0⟩
    have s1 : Same H H1 := fun b o eb => k1 b o (fun m => by rw [List.mem_singleton.mp m, hd] at eb; cases eb) eb
    refine ⟨Nat.zero_le _, fun g hg => ?_⟩
    have s2 : Same H1 (upd H1 g (.lst [])) := same_upd hg
    have hG2 : (upd H1 g (.lst [])) g = some (.lst []) := upd_same
    have hg0 : H g = none := s1.free hg
    have ndg : d ≠ g := ne_of_none hD1 hg
    have hP2 := (hP.same s1).same s2
    have k2 : Kp [p, l] H (upd H1 g (.lst [])) := Same.kp (s1.trans s2)
    have hD2 := s2 _ _ hD1
    have hL2 := hL1.same s2
    have gpl : g ∉ [p, l] := (hP.same s1).free hg
    generalize upd H1 g (.lst []) = H2 at s2 hG2 hP2 k2 hD2 hL2
    refine ⟨_, _, _, rfl, ?_⟩
    have kset : ∀ {H' : Hp} {o : HO} {e : Addr}, H e = none → Kp [p, l] H H' → Kp [p, l] H (upd H' e o) := fun {H' o e} he k b x nb eb => by
      rw [upd_ne (ne_of_none eb he)]
      exact k b x nb eb
    refine ⟨_, rfl, _, rfl, by omega, by omega, for_range (lo := 0) (n := wy) (fun i σ H' => ∃ (n : Nat) (L : List (Addr × (Nat × Nat))) (as : List Addr) (ls : List (List Nat)) (v7 v8 : Option V), σ = [some (.ref p), some (vN rg), some (vN wy), some (vN bh), some (vN n), some (.ref d), some (.ref g), v7, v8, none, none, none, none, none, none] ∧ PoolAt H' p l ∧ Kp [p, l] H H' ∧
        H' d = some (.lst (L.map fun r => V.ref r.1)) ∧ TupsAt H' L ∧ H' g = some (.lst (as.map V.ref)) ∧ LotsL H' as ls ∧ (∀ a ∈ as, a ≠ d ∧ a ≠ g ∧ a ∉ [p, l]) ∧ ls.flatten = List.range' (rg + wy) (n - (rg + wy)) ∧ rg + wy ≤ n ∧ n ≤ rg + wy + bh * i ∧ L.length ≤ rg + (bh + 1) * i ∧ as.length = i ∧ Plant rg wy n (L.map (·.2)))
      ?_ ?_ ?_⟩
    · refine ⟨rg + wy, L0, [], [], _, _, rfl, hP2, k2, hD2, hL2, hG2, .nil, (fun _ h => nomatch h), ?_, Nat.le_refl _, Nat.le_add_right _ _, ?_, rfl, ?_⟩
      · rw [Nat.sub_self]
        rfl
      · have := congrArg List.length eL0
        rw [List.length_map, List.length_map, List.length_range] at this
        omega
      · rw [eL0]
        refine ⟨fun q hq => ?_, fun a ha => List.mem_map.mpr ⟨a, List.mem_range.mpr ha, rfl⟩⟩
        obtain ⟨a, ha, rfl⟩ := List.mem_map.mp hq
        exact .inl ⟨List.mem_range.mp ha, rfl⟩
    · rintro i σ H3 hi ⟨n, L, as, ls, v7, v8, rfl, hP3, k3, hD3, hL3, hG3, hLs3, far, eF, n0, n1, eL, eA, plt⟩
      have e0 : (0 : Int) + (i : Nat) = (i : Nat) := by omega
      rw [e0]
      have il : i < wy := hi
      have bi : bh * i ≤ 24 - bh := by
        have : bh * (i + 1) ≤ 8 * 3 := Nat.mul_le_mul bh8 (by omega)
        rw [Nat.mul_succ] at this
        omega
      have bi2 : (bh + 1) * i + (bh + 1) ≤ 27 := by
        have : (bh + 1) * (i + 1) ≤ 9 * 3 := Nat.mul_le_mul (by omega) (by omega)
        rw [Nat.mul_succ] at this
        omega
      refine ⟨_, rfl, .inl ⟨rfl, _, .inl (.inl hD3)⟩, _, rfl, _, rfl, p, l, rg, rfl, hP3, by omega, by omega, fun r H4 hr4 hP4 k4 => ?_⟩
      refine ⟨_, rfl, _, rfl, _, _, rfl, rfl, by show 2 ≤ sizeLine; decide, fun t ht => ?_⟩
      have s5 : Same H4 (upd H4 t (.tup [vN r, V.int ((rg : Int) + (i : Int))])) := same_upd ht
      have hT5 : (upd H4 t (.tup [vN r, V.int ((rg : Int) + (i : Int))])) t = some (.tup [vN r, vN (rg + i)]) := upd_same
      have hD4 := k4 _ _ dpl hD3
      have hG4 := k4 _ _ gpl hG3
      have hL4 : TupsAt H4 L := hL3.keep k4 hP3.lists
      have hLs4 : LotsL H4 as ls := hLs3.imp fun a ha o e => k4 _ _ (far a ha).2.2 e
      have k34 := k3.trans k4
      have hD5 := s5 _ _ hD4
      have hG5 := s5 _ _ hG4
      have hL5 := (hL4.same s5).add (p := (r, rg + i)) hT5
      have hLs5 : LotsL _ as ls := hLs4.imp fun a _ o e => s5 _ _ e
      have hP5 := hP4.same s5
      have k5 := k34.trans (Same.kp s5)
      generalize upd H4 t (.tup [vN r, V.int ((rg : Int) + (i : Int))]) = H5 at s5 hD5 hG5 hL5 hLs5 hP5 k5
      refine ⟨d, _, _, rfl, rfl, hD5, by rw [List.length_map]; exact small1000 (by omega), ?_⟩
      have hD6 : (upd H5 d (.lst ((L.map fun r => V.ref r.1) ++ [V.ref t]))) d = some (.lst ((L ++ [(t, (r, rg + i))]).map fun r => V.ref r.1)) := by
        rw [upd_same, List.map_append]
        rfl
      have hG6 : (upd H5 d (.lst ((L.map fun r => V.ref r.1) ++ [V.ref t]))) g = some (.lst (as.map V.ref)) := by
        rw [upd_ne ndg.symm]
        exact hG5
      have hL6 := hL5.set (o := .lst ((L.map fun r => V.ref r.1) ++ [V.ref t])) hD5
      have hLs6 : LotsL (upd H5 d (.lst ((L.map fun r => V.ref r.1) ++ [V.ref t]))) as ls := hLs5.imp fun a ha o e => by
        rw [upd_ne (far a ha).1]
        exact e
      have hP6 := hP5.set (o := .lst ((L.map fun r => V.ref r.1) ++ [V.ref t])) dpl
      have k6 := kset (o := .lst ((L.map fun r => V.ref r.1) ++ [V.ref t])) hd k5
      generalize upd H5 d (.lst ((L.map fun r => V.ref r.1) ++ [V.ref t])) = H6 at hD6 hG6 hL6 hLs6 hP6 k6
      refine ⟨_, rfl, .inl ⟨rfl, _, .inl (.inl hG6)⟩, Nat.zero_le _, fun z hz => ?_⟩
      have s7 : Same H6 (upd H6 z (.lst [])) := same_upd hz
      have hZ7 : (upd H6 z (.lst [])) z = some (.lst []) := upd_same
      have zd : z ≠ d := (ne_of_none hD6 hz).symm
      have zg : z ≠ g := (ne_of_none hG6 hz).symm
      have zpl : z ∉ [p, l] := hP6.free hz
      have zas : ∀ a ∈ as, a ≠ z := fun a ha => by
        obtain ⟨y, _, hy⟩ := hLs6.has a ha
        exact ne_of_none hy hz
      have hz0 : H z = none := kp_free k6 zpl hz
      have hD7 := s7 _ _ hD6
      have hG7 := s7 _ _ hG6
      have hL7 := hL6.same s7
      have hLs7 : LotsL _ as ls := hLs6.imp fun a _ o e => s7 _ _ e
      have hP7 := hP6.same s7
      have k7 := k6.trans (Same.kp s7)
      generalize upd H6 z (.lst []) = H7 at s7 hZ7 hD7 hG7 hL7 hLs7 hP7 k7
      refine ⟨g, _, _, rfl, rfl, hG7, by rw [List.length_map, eA]; exact small1000 (by omega), ?_⟩
      have hG8 : (upd H7 g (.lst (as.map V.ref ++ [V.ref z]))) g = some (.lst ((as ++ [z]).map V.ref)) := by
        rw [upd_same, List.map_append]
        rfl
      have hD8 : (upd H7 g (.lst (as.map V.ref ++ [V.ref z]))) d = some (.lst ((L ++ [(t, (r, rg + i))]).map fun r => V.ref r.1)) := by
        rw [upd_ne ndg]
        exact hD7
      have hZ8 : (upd H7 g (.lst (as.map V.ref ++ [V.ref z]))) z = some (.lst []) := by
        rw [upd_ne zg]
        exact hZ7
      have hL8 := hL7.set (o := .lst (as.map V.ref ++ [V.ref z])) hG7
      have hLs8 : LotsL (upd H7 g (.lst (as.map V.ref ++ [V.ref z]))) as ls := hLs7.imp fun a ha o e => by
        rw [upd_ne (far a ha).2.1]
        exact e
      have hP8 := hP7.set (o := .lst (as.map V.ref ++ [V.ref z])) gpl
      have k8 := kset (o := .lst (as.map V.ref ++ [V.ref z])) hg0 k7
      generalize upd H7 g (.lst (as.map V.ref ++ [V.ref z])) = H8 at hD8 hG8 hZ8 hL8 hLs8 hP8 k8
      refine ⟨_, rfl, _, rfl, p, l, bh, rfl, hP8, by omega, by omega, fun m H9 hm hP9 k9 => ?_⟩
      have hD9 := k9 _ _ dpl hD8
      have hG9 := k9 _ _ gpl hG8
      have hZ9 := k9 _ _ zpl hZ8
      have hL9 := hL8.keep k9 hP8.lists
      have hLs9 : LotsL H9 as ls := hLs8.imp fun a ha o e => k9 _ _ (far a ha).2.2 e
      have k9' := k8.trans k9
      have mm : ((1 : Int) + (m : Int)).toNat = 1 + m := by omega
      refine ⟨_, _, rfl, rfl, _, rfl, by omega, by omega, for_range (lo := 0) (n := ((1 : Int) + (m : Int)).toNat) (fun j σ H' => ∃ (M : List (Addr × (Nat × Nat))) (v8 : Option V), σ = [some (.ref p), some (vN rg), some (vN wy), some (vN bh), some (vN (n + j)), some (.ref d), some (.ref g), some (vN i), v8, none, none, none, none, none, none] ∧ Kp [d, z] H9 H' ∧
          H' d = some (.lst ((L ++ [(t, (r, rg + i))] ++ M).map fun r => V.ref r.1)) ∧ TupsAt H' (L ++ [(t, (r, rg + i))] ++ M) ∧ H' z = some (.lst ((List.range' n j).map vN)) ∧ M.map (·.2) = (List.range' n j).map fun b => (rg + i, b)) ?_ ?_ ?_⟩
      · exact ⟨[], _, rfl, Kp.refl _ _, by rw [List.append_nil]; exact hD9, by rw [List.append_nil]; exact hL9, hZ9, rfl⟩
      · rintro j σ Ha hj ⟨M, v8', rfl, ka, hDa, hLa, hZa, eM⟩
        rw [mm] at hj
        have lenM : M.length = j := by
          have := congrArg List.length eM
          rwa [List.length_map, List.length_map, List.length_range'] at this
        refine ⟨_, rfl, .inl ⟨rfl, _, .inl (.inl hDa)⟩, _, rfl, _, rfl, _, _, rfl, rfl, _, rfl, by show 2 ≤ sizeLine; decide, fun tt htt => ?_⟩
        have sb : Same Ha (upd Ha tt (.tup [V.int ((rg : Int) + (i : Int)), vN (n + j)])) := same_upd htt
        have hTb : (upd Ha tt (.tup [V.int ((rg : Int) + (i : Int)), vN (n + j)])) tt = some (.tup [vN (rg + i), vN (n + j)]) := upd_same
        have hDb := sb _ _ hDa
        have hLb := (hLa.same sb).add (p := (rg + i, n + j)) hTb
        have hZb := sb _ _ hZa
        have kb := ka.trans (Same.kp sb)
        generalize upd Ha tt (.tup [V.int ((rg : Int) + (i : Int)), vN (n + j)]) = Hb at sb hDb hLb hZb kb
        refine ⟨d, _, _, rfl, rfl, hDb, by rw [List.length_map, List.length_append, List.length_append]; exact small1000 (by show L.length + 1 + M.length ≤ 1000; omega), ?_⟩
        have kc : Kp [d, z] H9 (upd Hb d (.lst (((L ++ [(t, (r, rg + i))] ++ M).map fun r => V.ref r.1) ++ [V.ref tt]))) := fun b o nb eb => by
          rw [upd_ne (fun y => nb (by rw [y]; simp))]
          exact kb b o nb eb
        have hDc : (upd Hb d (.lst (((L ++ [(t, (r, rg + i))] ++ M).map fun r => V.ref r.1) ++ [V.ref tt]))) d = some (.lst ((L ++ [(t, (r, rg + i))] ++ (M ++ [(tt, (rg + i, n + j))])).map fun r => V.ref r.1)) := by
          rw [upd_same, ← List.append_assoc, List.map_append (l₂ := [(tt, (rg + i, n + j))])]
          rfl
        have hLc := hLb.set (o := .lst (((L ++ [(t, (r, rg + i))] ++ M).map fun r => V.ref r.1) ++ [V.ref tt])) hDb
        have hZc : (upd Hb d (.lst (((L ++ [(t, (r, rg + i))] ++ M).map fun r => V.ref r.1) ++ [V.ref tt]))) z = some (.lst ((List.range' n j).map vN)) := by
          rw [upd_ne zd]
          exact hZb
        generalize upd Hb d (.lst (((L ++ [(t, (r, rg + i))] ++ M).map fun r => V.ref r.1) ++ [V.ref tt])) = Hc at kc hDc hLc hZc
        have hGc : Hc g = some (.lst ((as ++ [z]).map V.ref)) := kc _ _ (by simp only [List.mem_cons, List.not_mem_nil, or_false, not_or]; exact ⟨ndg.symm, zg.symm⟩) hG9
        have hlast : ((as ++ [z]).map V.ref)[i]? = some (V.ref z) := by
          rw [List.getElem?_map, ← eA]
          simp
        refine ⟨_, rfl, _, rfl, g, _, _, _, rfl, rfl, .inl (.inl hGc), atI_nat hlast, .inl ⟨rfl, _, .inl (.inl hZc)⟩, _, rfl, z, _, _, rfl, rfl, hZc, by rw [List.length_map, List.length_range']; exact small1000 (by omega), ?_⟩
        refine ⟨_, rfl, _, _, rfl, rfl, M ++ [(tt, (rg + i, n + j))], _, rfl, ?_, ?_, ?_, ?_, ?_⟩
        · intro b o nb eb
          rw [upd_ne (fun y => nb (by rw [y]; simp))]
          exact kc b o nb eb
        · rw [upd_ne zd.symm]
          exact hDc
        · rw [← List.append_assoc]
          exact hLc.set hZc
        · rw [upd_same, List.range'_concat, List.map_append]
          rw [Nat.one_mul]
          rfl
        · rw [List.map_append, eM, List.range'_concat, List.map_append, Nat.one_mul]
          rfl
      · rintro σ Ha ⟨M, v8', rfl, ka, hDa, hLa, hZa, eM⟩
        rw [mm] at hZa eM ⊢
        have lenM : M.length = 1 + m := by
          have := congrArg List.length eM
          rwa [List.length_map, List.length_map, List.length_range'] at this
        have hGa : Ha g = some (.lst ((as ++ [z]).map V.ref)) := ka _ _ (by simp only [List.mem_cons, List.not_mem_nil, or_false, not_or]; exact ⟨ndg.symm, zg.symm⟩) hG9
        have hLsa : LotsL Ha as ls := hLs9.imp fun a ha o e => ka _ _ (by simp only [List.mem_cons, List.not_mem_nil, or_false, not_or]; exact ⟨(far a ha).1, zas a ha⟩) e
        refine ⟨n + (1 + m), L ++ [(t, (r, rg + i))] ++ M, as ++ [z], ls ++ [List.range' n (1 + m)], _, _, rfl, ?_, ?_, hDa, hLa, hGa, paired_app hLsa (.cons hZa .nil), ?_, ?_, by omega, ?_, ?_, by rw [List.length_append, eA]; rfl, ?_⟩
        · exact hP9.keep ka (off2 dpl zpl).1 (off2 dpl zpl).2
        · exact kp_new k9' (fun e he => by
            rcases List.mem_cons.mp he with e1 | e1
            · rw [e1]; exact hd
            · rw [List.mem_singleton.mp e1]; exact hz0) ka
        · intro a ha
          rcases List.mem_append.mp ha with ha | ha
          · exact far a ha
          · rw [List.mem_singleton.mp ha]
            exact ⟨zd, zg, zpl⟩
        · rw [List.flatten_append, eF]
          have e1 : n = rg + wy + (n - (rg + wy)) := by omega
          have e2 : n + (1 + m) - (rg + wy) = (n - (rg + wy)) + (1 + m) := by omega
          have e3 : List.range' (rg + wy) (n - (rg + wy)) ++ List.range' n (1 + m) = List.range' (rg + wy) ((n - (rg + wy)) + (1 + m)) := by
            have := List.range'_append_1 (s := rg + wy) (m := n - (rg + wy)) (n := 1 + m)
            rw [← e1] at this
            exact this
          rw [e2, ← e3]
          exact congrArg (List.range' (rg + wy) (n - (rg + wy)) ++ ·) (List.append_nil _)
        · rw [Nat.mul_succ]
          omega
        · rw [Nat.mul_succ, List.length_append, List.length_append, lenM]
          show L.length + 1 + (1 + m) ≤ _
          omega
        · refine ⟨fun q hq => ?_, fun a ha => ?_⟩
          · rw [List.map_append, List.map_append, eM] at hq
            rcases List.mem_append.mp hq with hq | hq
            · rcases List.mem_append.mp hq with hq | hq
              · rcases plt.kind q hq with h | h | h
                · exact .inl h
                · exact .inr (.inl h)
                · exact .inr (.inr ⟨h.1, h.2.1, h.2.2.1, by omega⟩)
              · rw [List.mem_singleton.mp hq]
                exact .inr (.inl ⟨hr4, by show rg ≤ rg + i; omega, by show rg + i < rg + wy; omega⟩)
            · obtain ⟨b, hb, rfl⟩ := List.mem_map.mp hq
              have := List.mem_range'_1.mp hb
              exact .inr (.inr ⟨by show rg ≤ rg + i; omega, by show rg + i < rg + wy; omega, by show rg + wy ≤ b; omega, by show b < n + (1 + m); omega⟩)
          · rw [List.map_append, List.map_append]
            exact List.mem_append_left _ (List.mem_append_left _ (plt.ring a ha))
    rintro σ H3 ⟨n, L, as, ls, v7, v8, rfl, hP3, k3, hD3, hL3, hG3, hLs3, far, eF, n0, n1, eL, eA, plt⟩
    have b8 : bh * wy ≤ 24 := (Nat.mul_le_mul bh8 wy3 : bh * wy ≤ 8 * 3)
    have b9 : (bh + 1) * wy ≤ 27 := (Nat.mul_le_mul (by omega) wy3 : (bh + 1) * wy ≤ 9 * 3)
    refine ⟨Nat.zero_le _, fun wd0 hwd0 => ?_⟩
    have s4 : Same H3 (upd H3 wd0 (.lst [])) := same_upd hwd0
    have hW4 : (upd H3 wd0 (.lst [])) wd0 = some (.lst []) := upd_same
    have w0pl : wd0 ∉ [p, l] := hP3.free hwd0
    generalize upd H3 wd0 (.lst []) = H4 at s4 hW4
    refine ⟨_, rfl, g, rfl, ⟨_, .inl (.inl (s4 _ _ hG3))⟩, for_list (K := K) (xs := as.map V.ref) (fun j σ H' => ∃ (wd : Addr) (v10 : Option V), σ = [some (.ref p), some (vN rg), some (vN wy), some (vN bh), some (vN n), some (.ref d), some (.ref g), v7, v8, some (.ref wd), v10, none, none, none, none] ∧ Same H3 H' ∧ wd ∉ [p, l] ∧ H' wd = some (.lst (((ls.take j).flatten).map vN))) ?_ (fun j σ H' _ ⟨_, _, _, s, _⟩ => .inl (.inl (s _ _ hG3))) ?_ ?_⟩
    · exact ⟨wd0, _, rfl, s4, w0pl, hW4⟩
    · rintro j x σ H5 hx ⟨wd, v10, rfl, s5, wpl, hW5⟩
      obtain ⟨a, ha, rfl⟩ := get_map hx
      obtain ⟨lt, hlt, hA⟩ := paired_getL hLs3 ha
      refine ⟨_, rfl, _, rfl, wd, a, _, _, rfl, rfl, hW5, s5 _ _ hA, ?_, fun z hz => ?_⟩
      · rw [List.length_map, List.length_map]
        have h1 : ((ls.take j).flatten).length + lt.length ≤ ls.flatten.length := by
          have e1 : (ls.take (j + 1)).flatten = (ls.take j).flatten ++ lt := by
            rw [take_more hlt, List.flatten_append]
            simp
          rw [← List.length_append, ← e1]
          conv => rhs; rw [← List.take_append_drop (j + 1) ls, List.flatten_append, List.length_append]
          exact Nat.le_add_right _ _
        rw [eF, List.length_range'] at h1
        omega
      · have s6 : Same H5 (upd H5 z (.lst (((ls.take j).flatten).map vN ++ lt.map vN))) := same_upd hz
        refine ⟨z, _, rfl, s5.trans s6, ?_, ?_⟩
        · exact (hP3.same s5).free hz
        · rw [upd_same, take_more hlt, List.flatten_append, List.map_append]
          simp
    rintro σ H5 ⟨wd, v10, rfl, s5, wpl, hW5⟩
    rw [List.take_of_length_le (by rw [List.length_map, Paired.length hLs3]; exact Nat.le_refl _), eF] at hW5
    have hP5 := hP3.same s5
    have hL5 := hL3.same s5
    have ePr : (L.map fun r => V.ref r.1) = (L.map (·.1)).map V.ref := by rw [List.map_map]; rfl
    have hD5 := s5 _ _ hD3
    rw [ePr] at hD5
    have len : (L.map (·.2)).length < 64 := by rw [List.length_map]; omega
    have inP : ∀ q ∈ L.map (·.2), q.1 < n ∧ q.2 < n := by
      intro q hq
      rcases plt.kind q hq with h | h | h
      · have := Nat.mod_lt (q.1 + 1) rg0
        omega
      · omega
      · omega
    have inW : ∀ a, a ∈ List.range' (rg + wy) (n - (rg + wy)) ↔ rg + wy ≤ a ∧ a < n := by
      intro a
      rw [List.mem_range'_1]
      omega
    refine ⟨_, rfl, _, rfl, _, rfl, _, rfl, p, l, d, wd, n, L.map (·.1), L.map (·.2), List.range' (rg + wy) (n - (rg + wy)), rfl, hP5, by omega, hD5, dpl, hL5.pairs, len, inP, hW5, wpl, by rw [List.length_range']; omega, fun a ha => ((inW a).mp ha).2, fun q' c na perm C H6 pm hq0 hna hQ hC hN nmd hP6 k6 => ?_⟩
    have npl : na ∉ [p, l] := hP5.free hna
    have hG6 := k6 _ _ gpl (s5 _ _ hG3)
    have hLs6 : LotsL H6 as ls := hLs3.imp fun a ha o e => k6 _ _ (far a ha).2.2 (s5 _ _ e)
    have k06 := (k3.trans (Same.kp s5)).trans k6
    refine ⟨q', _, rfl, .inl (.inl hQ), rfl, _, _, rfl, _, _, rfl, rfl, ?_⟩
    have lnP : perm.length = n := by rw [pm.length_eq, List.length_range]
    refine ⟨_, rfl, g, rfl, ⟨_, .inl (.inl hG6)⟩, fun tl htl => ?_⟩
    have keep6 : ∀ {H' : Hp}, Kp [tl] H6 H' → Same H6 H' := fun {H'} k b o e => k b o (fun m => by rw [List.mem_singleton.mp m, htl] at e; cases e) e
    refine lc_list (K := K) (xs := as.map V.ref) (fun j H' => Kp [tl] H6 H' ∧ ∃ vs : List V, H' tl = some (.lst vs) ∧ vs.length ≤ j)
      ⟨(fun b o x e' => by rw [upd_ne (ne_of_none e' htl)]; exact e'), [], upd_same, Nat.le_refl _⟩ (fun j H' _ ⟨k, _⟩ => .inl (.inl (keep6 k _ _ hG6))) ?_ ?_
    · rintro j x H7 hx ⟨k7, vs, hT7, lv⟩
      obtain ⟨a, ha, rfl⟩ := get_map hx
      obtain ⟨lt, hlt, hA⟩ := paired_getL hLs6 ha
      have jl : j < as.length := (List.getElem?_eq_some_iff.mp ha).1
      have ltm := List.mem_of_getElem? hlt
      have ltl : lt.length ≤ 24 := by
        have := (List.sublist_flatten_of_mem ltm).length_le
        rw [eF, List.length_range'] at this
        omega
      have lin : ∀ b ∈ lt, b < n := fun b hb => by
        have : b ∈ ls.flatten := List.mem_flatten.mpr ⟨lt, ltm, hb⟩
        rw [eF] at this
        exact ((inW b).mp this).2
      have hA7 := keep6 k7 _ _ hA
      have hN7 := keep6 k7 _ _ hN
      refine ⟨rfl, ?_⟩
      refine ⟨_, rfl, a, rfl, ⟨_, .inl (.inl hA7)⟩, fun e he => ?_⟩
      have keep7 : ∀ {H' : Hp}, Kp [e] H7 H' → Same H7 H' := fun {H'} k b o e' => k b o (fun m => by rw [List.mem_singleton.mp m, he] at e'; cases e') e'
      refine lc_list (K := K) (xs := lt.map vN) (fun j H' => Kp [e] H7 H' ∧ H' e = some (.lst (((lt.take j).map (nm perm)).map vN)))
        ⟨(fun b o x e' => by rw [upd_ne (ne_of_none e' he)]; exact e'), upd_same⟩ (fun j H' _ ⟨k, _⟩ => .inl (.inl (keep7 k _ _ hA7))) ?_ ?_
      · rintro j2 y H8 hy ⟨k8, hE8⟩
        obtain ⟨b, hb, rfl⟩ := get_map hy
        refine ⟨rfl, _, rfl, _, rfl, na, _, _, _, rfl, rfl, .inl (.inl (keep7 k8 _ _ hN7)), nm_at pm (lin b (List.mem_of_getElem? hb)), _, hE8, ?_, ?_, ?_⟩
        · rw [List.length_map, List.length_map, List.length_take]
          exact small1000 (by omega)
        · intro b' o nb eb
          rw [upd_ne (fun z => nb (by rw [z]; simp))]
          exact k8 b' o nb eb
        · rw [upd_same, take_more hb, List.map_append, List.map_append]
          rfl
      · rintro H8 ⟨k8, hE8⟩
        refine ⟨e, iN ((lt.take ((lt.map vN).length)).map (nm perm)), rfl, .inl (.inl (by rw [← vN_map]; exact hE8)), fun ns' pq _ _ hpq => ?_⟩
        have s8 : Same H7 (upd H8 pq (.lst (ns'.map V.int))) := (keep7 k8).trans (same_upd hpq)
        refine ⟨vs, s8 _ _ hT7, small1000 (by omega), ?_, vs ++ [.ref pq], upd_same, by rw [List.length_append]; exact Nat.succ_le_succ lv⟩
        intro b o nb eb
        rw [upd_ne (fun z => nb (by rw [z]; simp))]
        exact s8 _ _ (k7 b o nb eb)
    rintro H7 ⟨k7, vs, hT7, lv⟩
    have s7 := keep6 k7
    have hN7 := s7 _ _ hN
    have hP7 := hP6.same s7
    refine ⟨_, rfl, _, rfl, _, rfl, by omega, by omega, fun e he => ?_⟩
    have keep7 : ∀ {H' : Hp}, Kp [e] H7 H' → Same H7 H' := fun {H'} k b o e' => k b o (fun m => by rw [List.mem_singleton.mp m, he] at e'; cases e') e'
    refine lc_range (lo := 0) (n := rg) (fun j H' => Kp [e] H7 H' ∧ H' e = some (.lst (((List.range j).map (nm perm)).map vN)))
      ⟨(fun b o x e' => by rw [upd_ne (ne_of_none e' he)]; exact e'), upd_same⟩ ?_ ?_
    · rintro j H8 hj ⟨k8, hE8⟩
      have e0 : (0 : Int) + (j : Nat) = (j : Nat) := by omega
      refine ⟨rfl, ?_⟩
      rw [e0]
      refine ⟨_, rfl, _, rfl, na, _, _, _, rfl, rfl, .inl (.inl (keep7 k8 _ _ hN7)), nm_at pm (by omega), _, hE8, ?_, ?_, ?_⟩
      · rw [List.length_map, List.length_map, List.length_range]
        exact small1000 (by omega)
      · intro b' o nb eb
        rw [upd_ne (fun z => nb (by rw [z]; simp))]
        exact k8 b' o nb eb
      · rw [upd_same, List.range_succ, List.map_append, List.map_append]
        rfl
    rintro H8 ⟨k8, hE8⟩
    refine ⟨e, iN ((List.range rg).map (nm perm)), rfl, .inl (.inl (by rw [← vN_map]; exact hE8)), fun ns' ri pm' pw hri => ?_⟩
    have ndr : ((List.range rg).map (nm perm)).Nodup := by
      refine List.pairwise_map.mpr ?_
      refine List.Pairwise.imp_of_mem (fun {a b} ha hb h => ?_) (range_up rg)
      intro e1
      have := nm_inj pm (by have := List.mem_range.mp ha; omega) (by have := List.mem_range.mp hb; omega) e1
      omega
    obtain ⟨ring, er, upr, memr⟩ := sorted_iN ndr pm' pw
    have s8 : Same H6 (upd H8 ri (.lst (ns'.map V.int))) := (s7.trans (keep7 k8)).trans (same_upd hri)
    have hRi : (upd H8 ri (.lst (ns'.map V.int))) ri = some (.lst (ring.map vN)) := by
      rw [upd_same, er, vN_map]
      rfl
    have ripl : ri ∉ [p, l] := (hP7.same (keep7 k8)).free hri
    generalize upd H8 ri (.lst (ns'.map V.int)) = H9 at s8 hRi
    have hN9 := s8 _ _ hN
    refine ⟨_, rfl, _, rfl, by omega, by omega, fun wa hwa => ?_⟩
    have keep9 : ∀ {H' : Hp}, Kp [wa] H9 H' → Same H9 H' := fun {H'} k b o e' => k b o (fun m => by rw [List.mem_singleton.mp m, hwa] at e'; cases e') e'
    refine lc_range (lo := 0) (n := wy) (fun j H' => Kp [wa] H9 H' ∧ H' wa = some (.lst (((List.range j).map fun k => nm perm (rg + k)).map vN)))
      ⟨(fun b o x e' => by rw [upd_ne (ne_of_none e' hwa)]; exact e'), upd_same⟩ ?_ ?_
    · rintro j Ha hj ⟨ka, hWa⟩
      have e0 : (0 : Int) + (j : Nat) = (j : Nat) := by omega
      refine ⟨rfl, ?_⟩
      rw [e0]
      refine ⟨_, rfl, _, rfl, _, rfl, _, _, rfl, rfl, na, _, _, _, rfl, rfl, .inl (.inl (keep9 ka _ _ hN9)), nm_at pm (a := rg + j) (by omega), _, hWa, ?_, ?_, ?_⟩
      · rw [List.length_map, List.length_map, List.length_range]
        exact small1000 (by omega)
      · intro b' o nb eb
        rw [upd_ne (fun z => nb (by rw [z]; simp))]
        exact ka b' o nb eb
      · rw [upd_same, List.range_succ, List.map_append, List.map_append]
        rfl
    rintro Ha ⟨ka, hWa⟩
    refine ⟨_, rfl, by show 4 ≤ sizeLine; decide, fun q0 hq00 => ?_⟩
    have sa : Same H6 (upd Ha q0 (.lst [.ref c, .ref ri, .ref wa, .ref tl])) := (s8.trans (keep9 ka)).trans (same_upd hq00)
    refine q q0 c ri wa tl C ring _ _ upd_same (hC.same sa) nmd.ok ?_ ?_ ?_ ?_ ripl ((hP6.same s8).free hwa) ⟨n, L.map (·.2), _, perm, pm, n0, plt, inW, nmd, upr, ?_, rfl⟩ (hP6.same sa) (k06.trans (Same.kp sa))
    · exact ((keep9 ka).trans (same_upd hq00)) _ _ hRi
    · exact (same_upd hq00) _ _ hWa
    · have := congrArg List.length er
      rw [List.length_map, pm'.length_eq, iN_length, List.length_map, List.length_range] at this
      exact this.symm
    · rw [List.length_map, List.length_range]
    · intro x
      rw [memr x, List.mem_map]
      exact ⟨fun ⟨a, h1, h2⟩ => ⟨a, List.mem_range.mp h1, h2.symm⟩, fun ⟨a, h1, h2⟩ => ⟨a, List.mem_range.mpr h1, h2.symm⟩⟩
end
end Ft

set_option Elab.async false
set_option linter.all false
set_option maxRecDepth 100000
set_option maxHeartbeats 4000000
/-! Plain mathematics: the pieces of planted maps -/
namespace Ft
/-- every place has one number -/
theorem nm_onto {perm : List Nat} {n : Nat} (pm : perm.Perm (List.range n)) {x : Nat} (h : x < n) : ∃ i, i < n ∧ x = nm perm i := by
  have len : perm.length = n := by rw [pm.length_eq, List.length_range]
  have : x ∈ perm := pm.mem_iff.mpr (List.mem_range.mpr h)
  obtain ⟨i, hi⟩ := List.getElem?_of_mem this
  have hl : i < perm.length := (List.getElem?_eq_some_iff.mp hi).1
  refine ⟨i, by omega, ?_⟩
  rw [nm_get hl] at hi
  exact (Option.some.inj hi).symm
theorem nm_back {perm : List Nat} {n : Nat} (pm : perm.Perm (List.range n)) : ∃ f : Nat → Nat, ∀ i, i < n → f (nm perm i) = i := by
  refine ⟨fun x => @dite _ (∃ i, i < n ∧ x = nm perm i) (Classical.propDecidable _) (fun h => h.choose) (fun _ => 0), fun i hi => ?_⟩
  have h : ∃ j, j < n ∧ nm perm i = nm perm j := ⟨i, hi, rfl⟩
  show @dite _ (∃ j, j < n ∧ nm perm i = nm perm j) (Classical.propDecidable _) _ _ = i
  rw [dif_pos h]
  exact (nm_inj pm hi h.choose_spec.1 h.choose_spec.2).symm
/-- the facts of a planted map, by numbers -/
structure Plan (C : Chart) (rg wy : Nat) (ring wts : List Nat) (n : Nat) (perm : List Nat) (f : Nat → Nat) : Prop where
  size : C.n = n
  ok : C.Ok
  rg0 : 0 < rg
  big : rg + wy ≤ n
  pm : perm.Perm (List.range n)
  back : ∀ i, i < n → f (nm perm i) = i
  lt : ∀ i, i < n → nm perm i < n
  onto : ∀ x, x < n → f x < n ∧ nm perm (f x) = x
  road : ∀ x y, (x, y) ∈ C.roads → x < n ∧ y < n ∧ ((f x < rg ∧ f y = (f x + 1) % rg) ∨ (f x < rg ∧ rg ≤ f y ∧ f y < rg + wy) ∨ (rg ≤ f x ∧ f x < rg + wy ∧ rg + wy ≤ f y))
  goes : ∀ i, i < rg → (nm perm i, nm perm ((i + 1) % rg)) ∈ C.roads
  wished : ∀ x, x < n → (x ∈ C.wished ↔ rg + wy ≤ f x)
  upr : ring.Pairwise (· < ·)
  inr : ∀ x, x ∈ ring ↔ x < n ∧ f x < rg
  inw : ∀ x, x ∈ wts ↔ x < n ∧ rg ≤ f x ∧ f x < rg + wy
  ndw : wts.Nodup
theorem Planted.plan {C : Chart} {rg wy : Nat} {ring wts : List Nat} (rg0 : 0 < rg) (h : Planted C rg wy ring wts) : ∃ n perm f, Plan C rg wy ring wts n perm f := by
  obtain ⟨n, prs, ws, perm, pm, big, plt, inW, nmd, upr, memr, ew⟩ := h.to
  obtain ⟨f, back⟩ := nm_back pm
  have lt : ∀ i, i < n → nm perm i < n := fun i hi => perm_lt pm hi
  have onto : ∀ x, x < n → f x < n ∧ nm perm (f x) = x := by
    intro x hx
    obtain ⟨i, hi, rfl⟩ := nm_onto pm hx
    rw [back i hi]
    exact ⟨hi, rfl⟩
  have pin : ∀ q ∈ prs, q.1 < n ∧ q.2 < n := by
    intro q hq
    rcases plt.kind q hq with h | h | h
    · have := Nat.mod_lt (q.1 + 1) rg0
      omega
    · omega
    · omega
  refine ⟨n, perm, f, nmd.n, nmd.ok, rg0, big, pm, back, lt, onto, ?_, ?_, ?_, upr, ?_, ?_, ?_⟩
  · intro x y h
    obtain ⟨a, b, hab, rfl, rfl⟩ := (nmd.roads x y).mp h
    obtain ⟨ha, hb⟩ := pin _ hab
    have ha : a < n := ha
    have hb : b < n := hb
    refine ⟨lt a ha, lt b hb, ?_⟩
    rw [back a ha, back b hb]
    rcases plt.kind _ hab with h | h | h
    · exact .inl h
    · exact .inr (.inl h)
    · exact .inr (.inr ⟨h.1, h.2.1, h.2.2.1⟩)
  · intro i hi
    exact (nmd.roads _ _).mpr ⟨i, (i + 1) % rg, plt.ring i hi, rfl, rfl⟩
  · intro x hx
    rw [nmd.wished x]
    constructor
    · rintro ⟨a, ha, rfl⟩
      obtain ⟨h1, h2⟩ := (inW a).mp ha
      rw [back a h2]
      exact h1
    · intro h
      obtain ⟨h1, h2⟩ := onto x hx
      exact ⟨f x, (inW _).mpr ⟨h, h1⟩, h2.symm⟩
  · intro x
    rw [memr x]
    constructor
    · rintro ⟨a, ha, rfl⟩
      have : a < n := by omega
      exact ⟨lt a this, by rw [back a this]; exact ha⟩
    · rintro ⟨hx, h⟩
      exact ⟨f x, h, (onto x hx).2.symm⟩
  · intro x
    rw [ew, List.mem_map]
    constructor
    · rintro ⟨k, hk, rfl⟩
      have hk := List.mem_range.mp hk
      have : rg + k < n := by omega
      exact ⟨lt _ this, by rw [back _ this]; omega, by rw [back _ this]; omega⟩
    · rintro ⟨hx, h1, h2⟩
      refine ⟨f x - rg, List.mem_range.mpr (by omega), ?_⟩
      have : rg + (f x - rg) = f x := by omega
      rw [this]
      exact (onto x hx).2
  · rw [ew]
    refine List.pairwise_map.mpr ?_
    refine List.Pairwise.imp_of_mem (fun {a b} ha hb h => ?_) (range_up wy)
    intro e1
    have := nm_inj pm (by have := List.mem_range.mp ha; omega) (by have := List.mem_range.mp hb; omega) e1
    omega
section
variable {C : Chart} {rg wy : Nat} {ring wts : List Nat} {n : Nat} {perm : List Nat} {f : Nat → Nat}
theorem Plan.unw (p : Plan C rg wy ring wts n perm f) (x : Nat) : x ∈ Ft.unw C ↔ x ∈ ring ∨ x ∈ wts := by
  rw [unw_mem, p.inr, p.inw, p.size]
  constructor
  · rintro ⟨h1, h2⟩
    rw [p.wished x h1] at h2
    omega
  · intro h
    have hx : x < n := by omega
    rw [p.wished x hx]
    omega
theorem Plan.apart (p : Plan C rg wy ring wts n perm f) {x : Nat} (h1 : x ∈ ring) (h2 : x ∈ wts) : False := by
  have a := (p.inr x).mp h1
  have b := (p.inw x).mp h2
  omega
/-- around the ring -/
theorem Plan.round (p : Plan C rg wy ring wts n perm f) {i : Nat} (hi : i < rg) : ∀ k, Reach C.roads C.wished (nm perm i) (nm perm ((i + k + 1) % rg))
  | 0 => .one (p.goes i hi)
  | k + 1 => by
    have hm := Nat.mod_lt (i + k + 1) p.rg0
    have big := p.big
    have h : (i + k + 1) % rg < n := by omega
    have e : (i + (k + 1) + 1) % rg = ((i + k + 1) % rg + 1) % rg := by
      rw [Nat.mod_add_mod]
      rfl
    rw [e]
    refine .more (p.round hi k) ?_ (p.goes _ hm)
    rw [p.wished _ (p.lt _ h), p.back _ h]
    omega
theorem Plan.ringed (p : Plan C rg wy ring wts n perm f) {x y : Nat} (hx : x ∈ ring) (hy : y ∈ ring) : Reach C.roads C.wished x y := by
  obtain ⟨x1, x2⟩ := (p.inr x).mp hx
  obtain ⟨y1, y2⟩ := (p.inr y).mp hy
  have := p.round x2 (f y + rg - f x - 1)
  have e : f x + (f y + rg - f x - 1) + 1 = f y + rg := by omega
  rw [e, Nat.add_mod_right, Nat.mod_eq_of_lt y2, (p.onto x x1).2, (p.onto y y1).2] at this
  exact this
/-- from a waist only wished places are come to -/
theorem Plan.behind (p : Plan C rg wy ring wts n perm f) {x y : Nat} (hx : x ∈ wts) (r : Reach C.roads C.wished x y) : y ∈ C.wished := by
  obtain ⟨x0, x1, x2⟩ := (p.inw x).mp hx
  refine r.within (S := (· ∈ C.wished)) (fun z hz => ?_) fun z u hz hw _ => absurd hz hw
  obtain ⟨_, hz0, h⟩ := p.road x z hz
  rw [p.wished z hz0]
  have := Nat.mod_lt (f x + 1) p.rg0
  omega
theorem Plan.piece_ring (p : Plan C rg wy ring wts n perm f) {x : Nat} (hx : x ∈ ring) : pieceOf C x = ring := by
  have xu := unw_mem.mp ((p.unw x).mpr (.inl hx))
  refine asc_ext (piece_up C x) p.upr fun y => ?_
  rw [piece_mem xu.2]
  constructor
  · rintro ⟨yn, yw, h⟩
    rcases h with e | ⟨h1, h2⟩
    · rw [e]
      exact hx
    · rcases (p.unw y).mp (unw_mem.mpr ⟨yn, yw⟩) with h | h
      · exact h
      · exact absurd (p.behind h h2) xu.2
  · intro hy
    have yu := unw_mem.mp ((p.unw y).mpr (.inl hy))
    exact ⟨yu.1, yu.2, .inr ⟨p.ringed hx hy, p.ringed hy hx⟩⟩
theorem Plan.piece_waist (p : Plan C rg wy ring wts n perm f) {x : Nat} (hx : x ∈ wts) : pieceOf C x = [x] := by
  have xu := unw_mem.mp ((p.unw x).mpr (.inr hx))
  refine asc_ext (piece_up C x) (List.pairwise_singleton _ _) fun y => ?_
  rw [piece_mem xu.2, List.mem_singleton]
  constructor
  · rintro ⟨yn, yw, h⟩
    rcases h with e | ⟨h1, h2⟩
    · exact e
    · exact absurd (p.behind hx h1) yw
  · intro e
    rw [e]
    exact ⟨xu.1, xu.2, .inl rfl⟩
/-- the map with some places of its ring wished as well -/
structure Cut (C C' : Chart) (gone : List Nat) : Prop where
  n : C'.n = C.n
  roads : C'.roads = C.roads
  wished : ∀ x, x ∈ C'.wished ↔ x ∈ C.wished ∨ x ∈ gone
theorem Cut.unw {C' : Chart} {gone : List Nat} (c : Cut C C' gone) (x : Nat) : x ∈ Ft.unw C' ↔ x ∈ Ft.unw C ∧ x ∉ gone := by
  rw [unw_mem, unw_mem, c.n, c.wished]
  constructor
  · rintro ⟨h1, h2⟩
    exact ⟨⟨h1, fun h => h2 (.inl h)⟩, fun h => h2 (.inr h)⟩
  · rintro ⟨⟨h1, h2⟩, h3⟩
    exact ⟨h1, fun h => h.elim h2 h3⟩
/-- how far a place is behind g -/
def far (rg wy g : Nat) (i : Nat) : Nat := if i < rg then (i + (rg - 1 - g)) % rg else if i < rg + wy then rg else rg + 1
theorem Plan.farther (p : Plan C rg wy ring wts n perm f) {g x y : Nat} (hg : g ∈ ring) (h : (x, y) ∈ C.roads) (ne : x ≠ g) : far rg wy (f g) (f x) < far rg wy (f g) (f y) := by
  obtain ⟨g1, g2⟩ := (p.inr g).mp hg
  obtain ⟨x1, y1, h⟩ := p.road x y h
  have nf : f x ≠ f g := fun e => ne (by rw [← (p.onto x x1).2, e, (p.onto g g1).2])
  have rg0 := p.rg0
  rcases h with ⟨h1, h2⟩ | ⟨h1, h2, h3⟩ | ⟨h1, h2, h3⟩
  · have hm := Nat.mod_lt (f x + 1) rg0
    unfold far
    rw [if_pos h1, h2, if_pos hm, Nat.mod_add_mod]
    have e : f x + 1 + (rg - 1 - f g) = (f x + (rg - 1 - f g)) + 1 := by omega
    rw [e]
    obtain ⟨m, em⟩ : ∃ m, m = f x + (rg - 1 - f g) := ⟨_, rfl⟩
    rw [← em]
    by_cases hlt : m < rg
    · rw [Nat.mod_eq_of_lt hlt]
      have : m + 1 < rg := by omega
      rw [Nat.mod_eq_of_lt this]
      omega
    · have e1 : m % rg = m - rg := by
        rw [Nat.mod_eq_sub_mod (by omega), Nat.mod_eq_of_lt (by omega)]
      have e2 : (m + 1) % rg = m + 1 - rg := by
        rw [Nat.mod_eq_sub_mod (by omega), Nat.mod_eq_of_lt (by omega)]
      omega
  · unfold far
    rw [if_pos h1, if_neg (by omega), if_pos h3]
    exact Nat.mod_lt _ rg0
  · unfold far
    rw [if_neg (by omega), if_pos h2, if_neg (by omega), if_neg (by omega)]
    omega
theorem Plan.on (p : Plan C rg wy ring wts n perm f) {C' : Chart} {gone : List Nat} (c : Cut C C' gone) {g : Nat} (hg : g ∈ ring) (hgg : g ∈ gone) {x y : Nat} (ne : x ≠ g) (r : Reach C'.roads C'.wished x y) : far rg wy (f g) (f x) < far rg wy (f g) (f y) := by
  rw [c.roads] at r
  induction r with
  | one h => exact p.farther hg h ne
  | @more b z _ hb h ih =>
    have nb : b ≠ g := fun e => hb ((c.wished b).mpr (.inr (e ▸ hgg)))
    exact Nat.lt_trans ih (p.farther hg h nb)
theorem Plan.piece_cut (p : Plan C rg wy ring wts n perm f) {C' : Chart} {gone : List Nat} (c : Cut C C' gone) {g : Nat} (hg : g ∈ ring) (hgg : g ∈ gone) {x : Nat} (hx : x < C'.n) : pieceOf C' x = [x] := by
  by_cases xw : x ∈ C'.wished
  · unfold pieceOf
    rw [if_pos xw]
  · have off : ∀ z, z ∉ C'.wished → z ≠ g := fun z hz e => hz ((c.wished z).mpr (.inr (e ▸ hgg)))
    refine asc_ext (piece_up C' x) (List.pairwise_singleton _ _) fun y => ?_
    rw [piece_mem xw, List.mem_singleton]
    constructor
    · rintro ⟨yn, yw, h⟩
      rcases h with e | ⟨h1, h2⟩
      · exact e
      · have q1 := p.on c hg hgg (off x xw) h1
        have q2 := p.on c hg hgg (off y yw) h2
        omega
    · intro e
      rw [e]
      exact ⟨hx, xw, .inl rfl⟩
end
/-- a sorted list of rows is the pieces, if it holds just these -/
theorem pieces_are {C : Chart} {l : List (List Int)} (up : l.Pairwise (· ≤ ·)) (nd : l.Nodup) (h : ∀ x, x ∈ l ↔ ∃ a ∈ unw C, x = iN (pieceOf C a)) : l = (piecesL C).map iN := by
  refine rows_ext (List.Pairwise.and up nd) (piecesL_up C) fun x => ?_
  rw [h x, List.mem_map]
  constructor
  · rintro ⟨a, ha, rfl⟩
    exact ⟨_, piecesL_mem.mpr ⟨a, ha, rfl⟩, rfl⟩
  · rintro ⟨l, hl, rfl⟩
    obtain ⟨a, ha, rfl⟩ := piecesL_mem.mp hl
    exact ⟨a, ha, rfl⟩
end Ft

set_option Elab.async false
set_option linter.all false
set_option maxRecDepth 100000
set_option maxHeartbeats 8000000
namespace Ft
open PySem PySem.Spec PyProof.Rows L2
theorem dp_rows {K : PySem.W.Frag} {H : Hp} : ∀ {ts : List Addr} {lls : List (List Nat)}, RowsAt K H ts lls → DpAll K H (ts.map V.ref) (lls.map encL)
  | _, _, .nil => .nil
  | _, _, .cons r t => .cons (dp_row r) (dp_rows t)
theorem piece_shows {C : Chart} (ok : C.Ok) {a : Nat} (ha : a < C.n) : (∀ n ∈ pieceOf C a, n < 64) ∧ (pieceOf C a).length ≤ 64 := by
  have n60 := ok.n60
  have h : ∀ n ∈ pieceOf C a, n < C.n := fun n hn => piece_lt ha hn
  have := up_len (piece_up C a) h
  exact ⟨fun n hn => by have := h n hn; omega, by omega⟩
theorem pieces_show {C : Chart} (ok : C.Ok) : Shows (.tuple ((piecesL C).map encL)) := by
  refine shows_rows (fun l hl => ?_) ?_
  · obtain ⟨a, ha, rfl⟩ := piecesL_mem.mp hl
    exact piece_shows ok (unw_mem.mp ha).1
  · unfold piecesL
    rw [List.length_map]
    have h1 := List.length_filter_le (isLeast C) (unw C)
    have h2 := unw_len C
    have n60 := ok.n60
    omega
section
variable {P : Program} {w : World} {K : PySem.W.Frag} {mg : Str → Option Value} {base : Heap} {t1 t2 : Tok}
/-! ### _law_parted -/
def sp_law_parted (K : PySem.W.Frag) : Sp := fun vs H Q _ => ∃ (p l c : Addr) (C : Chart), vs = [.ref p, .ref c] ∧ PoolAt H p l ∧ IsChart K H c C ∧ C.Ok ∧ ∀ H', PoolAt H' p l → Kp [p, l] H H' → Q (.bl true) H'
theorem cal_law_parted (T : Txt mg) (D : Def K mg "_law_parted" s_law_parted) (c_law_draw : Cal P w K mg base 2 "_law_draw" sp_law_draw) (c_law_map_table : Cal P w K mg base 3 "_law_map_table" (sp_law_map_table K)) (c_law_map_piece : Cal P w K mg base 2 "_law_map_piece" (sp_law_map_piece K)) (c_law_map_pieces : Cal P w K mg base 3 "_law_map_pieces" (sp_law_map_pieces K))
    (c_piece : Cal P w K mg base 6 "piece" (sp_piece K)) (c_pieces : Cal P w K mg base 6 "pieces" (sp_pieces K)) : CalG P w K mg base 7 "_law_parted" (sp_law_parted K) := by
  refine calG_of D sc_law_parted (fun _ _ _ _ _ _ us hl => match us, hl with | [_, _], _ => rfl) (fun vs H Q E h => ?_) (fun f cdv A outer s H vs Q E hg hr h => ?_)
  · obtain ⟨p, l, c, C, rfl, _⟩ := h
    rfl
  · obtain ⟨p, l, c, C, rfl, hP, hC, ok, q⟩ := h
    have n60 := ok.n60
    have hU := hr.units
    have hG := hg
    refine ⟨_, (pss_cons (ps_set (i := 2) sc_law_parted.nd rfl (Or.inl rfl) (pe_c c_law_map_table hr (by decide) (by rfl) (pa_cons (pv 1) pa_nil)))
      (pss_cons (ps_if (pt_cmpR op_ne (pe_callB (show CallR _ _ (rRepr K) from cr_repr hG hU) (by rfl) T.repr (by decide +kernel) (pa_cons (pe_c c_pieces hr (by decide) (by rfl) (pa_cons (pv 1) pa_nil)) pa_nil)) (pe_callB (show CallR _ _ (rRepr K) from cr_repr hG hU) (by rfl) T.repr (by decide +kernel) (pa_cons (pe_c c_law_map_pieces hr (by decide) (by rfl) (pa_cons (pv 1) (pa_cons (pv 2) pa_nil))) pa_nil)) (nomark _)) (pss_one (ps_ret pe_bl)) pss_nil)
      (pss_cons (ps_for PassesOwn.never rfl (pi_range1 (by rfl) T.range (pa_cons (pe_mid (pe_ifExp (pt_cmpR op_gt (pe_ix (show IxR _ (rIxT K) from ix_tup) (pv 1) pe_int (fun _ _ => rfl)) pe_int (nomark _)) pe_int pe_int)) pa_nil)) (pg_name (i := 3) sc_law_parted.nd rfl (Or.inl rfl)) (pss_cons (ps_set (i := 4) sc_law_parted.nd rfl (Or.inl rfl) (pe_c c_law_draw hr (by decide) (by rfl) (pa_cons (pv 0) (pa_cons (pe_ix (show IxR _ (rIxT K) from ix_tup) (pv 1) pe_int (fun _ _ => rfl)) pa_nil))))
        (pss_one (ps_if (pt_cmpR op_ne (pe_callB (show CallR _ _ (rRepr K) from cr_repr hG hU) (by rfl) T.repr (by decide +kernel) (pa_cons (pe_c c_piece hr (by decide) (by rfl) (pa_cons (pv 1) (pa_cons (pv 4) pa_nil))) pa_nil)) (pe_callB (show CallR _ _ (rRepr K) from cr_repr hG hU) (by rfl) T.repr (by decide +kernel) (pa_cons (pe_c c_law_map_piece hr (by decide) (by rfl) (pa_cons (pv 1) (pa_cons (pv 2) (pa_cons (pv 4) pa_nil)))) pa_nil)) (nomark _)) (pss_one (ps_ret pe_bl)) pss_nil))))
      (pss_one (ps_ret pe_bl))))), ?_⟩
    refine ⟨_, rfl, c, C, rfl, hC, ok, fun tb rows H1 s1 htb new hT => ?_⟩
    have hP1 := hP.same s1
    have hC1 := hC.same s1
    refine ⟨_, rfl, c, C, rfl, hC1, ok, fun q1 ts1 H2 s2 hq1 hr1 => ⟨_, .tuple ((piecesL C).map encL), rfl, .tup hq1 (dp_rows hr1), pieces_show ok, ?_⟩⟩
    refine ⟨_, rfl, _, rfl, c, tb, C, rows, rfl, hC1.same s2, ok, hT.same s2, fun q2 ts2 H3 s3 hq2 hr2 => ⟨_, .tuple ((piecesL C).map encL), rfl, .tup hq2 (dp_rows hr2), pieces_show ok, ?_⟩⟩
    refine ⟨rfl, _, rfl, ite_any (fun h => absurd h (by simp)) (fun _ => ?_)⟩
    have s13 := (s1.trans s2).trans s3
    have s23 := s2.trans s3
    have hC3 := hC.same s13
    have hP3 := hP.same s13
    have hT3 := hT.same s23
    obtain ⟨r, wd, ts, hc3⟩ := id hC3
    refine ⟨fun v H' => ∃ m : Nat, v = vN m ∧ m ≤ 3 ∧ (0 < m → 0 < C.n) ∧ H' = H3, ⟨_, rfl, _, _, _, _, rfl, rfl, hc3.top, rfl, _, _, rfl, rfl, _, rfl, ite_any (fun h => ⟨3, rfl, by decide, fun _ => ?_, rfl⟩) (fun _ => ⟨0, rfl, by decide, fun h => absurd h (by decide), rfl⟩)⟩, ?_⟩
    · have := of_decide_eq_true h
      omega
    rintro v H4 ⟨m, rfl, m3, m0, rfl⟩
    refine ⟨_, rfl, by omega, by omega, for_range (lo := 0) (n := m) (fun i σ H' => ∃ (v3 v4 : Option V), σ = [some (.ref p), some (.ref c), some (.ref tb), v3, v4] ∧ PoolAt H' p l ∧ Kp [p, l] H4 H') ⟨_, _, rfl, hP3, Kp.refl _ _⟩ ?_ ?_⟩
    · rintro i σ H5 hi ⟨v3, v4, rfl, hP5, k5⟩
      have n0 : 0 < C.n := m0 (by omega)
      have hc5 := hc3.keep k5 hP3.lists
      have keepT : ∀ {H' : Hp}, Kp [p, l] H4 H' → TabAt H' C tb rows := fun {H'} k => ⟨hT3.len, k _ _ (hP.free htb) hT3.at_.top, fun a z e => k _ _ (hP.free (new z (List.mem_of_getElem? e))) (hT3.at_.each a z e)⟩
      refine ⟨_, rfl, _, rfl, _, _, _, _, rfl, rfl, hc5.top, rfl, p, l, C.n, rfl, hP5, n0, by omega, fun a H6 ha hP6 k6 => ?_⟩
      have k56 := k5.trans k6
      have hC6 : IsChart K H6 c C := ⟨r, wd, ts, hc3.keep k56 hP3.lists⟩
      have hT6 := keepT k56
      have sh := shows_row (piece_shows ok ha).1 (piece_shows ok ha).2
      refine ⟨_, rfl, _, rfl, c, C, a, rfl, hC6, ok, ha, fun t1 H7 s7 ht1 => ⟨_, encL (pieceOf C a), rfl, dp_row ht1, sh, ?_⟩⟩
      refine ⟨_, rfl, _, rfl, _, rfl, c, tb, C, rows, a, rfl, hC6.same s7, ok, ha, hT6.same s7, fun t2 H8 s8 ht2 => ⟨_, encL (pieceOf C a), rfl, dp_row ht2, sh, ?_⟩⟩
      refine ⟨rfl, _, rfl, ite_any (fun h => absurd h (by simp)) (fun _ => ?_)⟩
      exact ⟨_, _, rfl, hP6.same (s7.trans s8), k56.trans (Same.kp (s7.trans s8))⟩
    · rintro σ H5 ⟨v3, v4, rfl, hP5, k5⟩
      exact q H5 hP5 ((Same.kp s13).trans k5)
end
end Ft

set_option Elab.async false
set_option linter.all false
set_option maxRecDepth 100000
set_option maxHeartbeats 4000000
/-! Plain mathematics: the two maps of the example -/
namespace Ft
theorem alone_on {C : Chart} {h : Nat → Nat} (up : ∀ q ∈ C.roads, q.1 ∉ C.wished → h q.1 < h q.2) {x y : Nat} (hx : x ∉ C.wished) (r : Reach C.roads C.wished x y) : h x < h y := by
  induction r with
  | one e => exact up _ e hx
  | more _ hb e ih => exact Nat.lt_trans ih (up _ e hb)
theorem piece_alone {C : Chart} {h : Nat → Nat} (up : ∀ q ∈ C.roads, q.1 ∉ C.wished → h q.1 < h q.2) {x : Nat} (hx : x < C.n) : pieceOf C x = [x] := by
  by_cases xw : x ∈ C.wished
  · unfold pieceOf
    rw [if_pos xw]
  · refine asc_ext (piece_up C x) (List.pairwise_singleton _ _) fun y => ?_
    rw [piece_mem xw, List.mem_singleton]
    constructor
    · rintro ⟨yn, yw, e⟩
      rcases e with e | ⟨h1, h2⟩
      · exact e
      · have q1 := alone_on up xw h1
        have q2 := alone_on up yw h2
        omega
    · intro e
      rw [e]
      exact ⟨hx, xw, .inl rfl⟩
theorem iNs_inj : ∀ {l1 l2 : List (List Nat)}, l1.map iN = l2.map iN → l1 = l2
  | [], [], _ => rfl
  | [], _ :: _, h => by simp at h
  | _ :: _, [], h => by simp at h
  | a :: l1, b :: l2, h => by
    rw [List.map_cons, List.map_cons] at h
    injection h with h1 h2
    rw [iN_inj h1, iNs_inj h2]
def exRoads : List (Nat × Nat) := [(0, 1), (0, 2), (1, 0), (1, 4), (2, 3), (2, 5), (3, 0), (3, 6)]
def exA : Chart := ⟨7, exRoads, [4, 5, 6]⟩
def exB : Chart := ⟨7, exRoads, [0, 4, 5, 6]⟩
theorem exRoads_up : exRoads.Pairwise ltP := by
  unfold exRoads ltP
  simp
theorem exA_ok : exA.Ok := ⟨by decide, by decide, by decide, exRoads_up, by decide, by decide⟩
theorem exB_ok : exB.Ok := ⟨by decide, by decide, by decide, exRoads_up, by decide, by decide⟩
theorem exA_piece : pieceOf exA 0 = [0, 1, 2, 3] := by
  have w0 : 0 ∉ exA.wished := by decide
  refine asc_ext (piece_up exA 0) (by decide) fun y => ?_
  rw [piece_mem w0]
  have r01 : Reach exA.roads exA.wished 0 1 := .one (by decide)
  have r10 : Reach exA.roads exA.wished 1 0 := .one (by decide)
  have r02 : Reach exA.roads exA.wished 0 2 := .one (by decide)
  have r30 : Reach exA.roads exA.wished 3 0 := .one (by decide)
  have r23 : Reach exA.roads exA.wished 2 3 := .one (by decide)
  have r03 : Reach exA.roads exA.wished 0 3 := r02.trans (by decide) r23
  have r20 : Reach exA.roads exA.wished 2 0 := r23.trans (by decide) r30
  constructor
  · rintro ⟨yn, yw, _⟩
    have h : ∀ y, y < 7 → y ∉ [4, 5, 6] → y ∈ [0, 1, 2, 3] := by decide
    exact h y yn yw
  · intro h
    have h2 : y < exA.n ∧ y ∉ exA.wished := by
      have : ∀ y ∈ [0, 1, 2, 3], y < exA.n ∧ y ∉ exA.wished := by decide
      exact this y h
    refine ⟨h2.1, h2.2, ?_⟩
    simp only [List.mem_cons, List.not_mem_nil, or_false] at h
    rcases h with rfl | rfl | rfl | rfl
    · exact .inl rfl
    · exact .inr ⟨r01, r10⟩
    · exact .inr ⟨r02, r20⟩
    · exact .inr ⟨r03, r30⟩
theorem exA_pieces : piecesL exA = [[0, 1, 2, 3]] := by
  refine iNs_inj (pieces_are (l := [[0, 1, 2, 3]].map iN) (List.pairwise_singleton _ _) (by simp) fun x => ?_).symm
  have e : unw exA = [0, 1, 2, 3] := by decide
  rw [e]
  constructor
  · intro h
    refine ⟨0, by decide, ?_⟩
    rw [exA_piece]
    exact List.mem_singleton.mp h
  · rintro ⟨a, ha, rfl⟩
    have : a ∈ pieceOf exA 0 := by
      rw [exA_piece]
      exact ha
    rw [piece_eq this, exA_piece]
    exact List.mem_singleton.mpr rfl
def exH (x : Nat) : Nat := if x = 2 then 0 else if x = 1 ∨ x = 3 then 1 else 2
theorem exB_pieces : piecesL exB = [[1], [2], [3]] := by
  have up : ∀ q ∈ exB.roads, q.1 ∉ exB.wished → exH q.1 < exH q.2 := by decide
  refine iNs_inj (pieces_are (l := [[1], [2], [3]].map iN) (by decide) (by decide) fun x => ?_).symm
  have e : unw exB = [1, 2, 3] := by decide
  have lt : ∀ a ∈ [1, 2, 3], a < exB.n := by decide
  rw [e]
  constructor
  · intro h
    obtain ⟨l, hl, rfl⟩ := List.mem_map.mp h
    simp only [List.mem_cons, List.not_mem_nil, or_false] at hl
    rcases hl with rfl | rfl | rfl
    · exact ⟨1, by decide, by rw [piece_alone up (lt 1 (by decide))]⟩
    · exact ⟨2, by decide, by rw [piece_alone up (lt 2 (by decide))]⟩
    · exact ⟨3, by decide, by rw [piece_alone up (lt 3 (by decide))]⟩
  · rintro ⟨a, ha, rfl⟩
    rw [piece_alone up (lt a ha)]
    refine List.mem_map.mpr ⟨[a], ?_, rfl⟩
    simp only [List.mem_cons, List.not_mem_nil, or_false] at ha ⊢
    rcases ha with rfl | rfl | rfl <;> simp
end Ft

set_option Elab.async false
set_option linter.all false
set_option maxRecDepth 100000
set_option maxHeartbeats 4000000
namespace Ft
open PySem PySem.Spec PyProof.Rows L2
/-! ### rows made as fresh tuples, and sorted -/
def RowTups (H : Hp) (L : List Row) : Prop := ∀ r ∈ L, H r.1 = some (.tup (r.2.map V.int))
theorem RowTups.same {H H' : Hp} (k : Same H H') {L : List Row} (h : RowTups H L) : RowTups H' L := fun r hr => k _ _ (h r hr)
theorem RowTups.set {H : Hp} {d : Addr} {xs : List V} {o : HO} (hd : H d = some (.lst xs)) {L : List Row} (h : RowTups H L) : RowTups (upd H d o) L := fun r hr => by
  have := h r hr
  rw [upd_ne (fun z => by rw [z, hd] at this; cases this)]
  exact this
theorem RowTups.add {H : Hp} {t : Addr} {p : List Int} {L : List Row} (h : RowTups H L) (ht : H t = some (.tup (p.map V.int))) : RowTups H (L ++ [(t, p)]) := fun r hr => by
  rcases List.mem_append.mp hr with hr | hr
  · exact h r hr
  · rw [List.mem_singleton.mp hr]
    exact ht
theorem sort_perm (L : List Row) : (L.mergeSort leR).Perm L := List.mergeSort_perm L leR
theorem sort_up (L : List Row) : ((L.mergeSort leR).map (·.2)).Pairwise (· ≤ ·) := by
  refine List.pairwise_map.mpr ?_
  have := List.pairwise_mergeSort (le := leR) (fun a b c => leR_trans a b c) (fun a b => leR_total a b) L
  exact this.imp fun h => of_decide_eq_true h
/-- sorted rows are the pieces, if they are just these -/
theorem sort_pieces {C : Chart} {L : List Row} (nd : (L.map (·.2)).Nodup) (h : ∀ x, x ∈ L.map (·.2) ↔ ∃ a ∈ unw C, x = iN (pieceOf C a)) : (L.mergeSort leR).map (·.2) = (piecesL C).map iN := by
  have pm := (sort_perm L).map (·.2)
  exact pieces_are (sort_up L) (pm.nodup_iff.mpr nd) fun x => pm.mem_iff.trans (h x)
def ones (l : List Nat) : List (List Int) := l.map fun a => iN [a]
theorem ones_mem {l : List Nat} {x : List Int} : x ∈ ones l ↔ ∃ a ∈ l, x = iN [a] := by
  unfold ones
  rw [List.mem_map]
  exact ⟨fun ⟨a, h, e⟩ => ⟨a, h, e.symm⟩, fun ⟨a, h, e⟩ => ⟨a, h, e.symm⟩⟩
theorem ones_nodup {l : List Nat} (nd : l.Nodup) : (ones l).Nodup := by
  unfold ones
  refine List.pairwise_map.mpr (nd.imp fun h e => h ?_)
  have := iN_inj e
  injection this
section
variable {C : Chart} {rg wy : Nat} {ring wts : List Nat} {n : Nat} {perm : List Nat} {f : Nat → Nat}
theorem Plan.lots_nodup (p : Plan C rg wy ring wts n perm f) : (iN ring :: ones wts).Nodup := by
  refine List.nodup_cons.mpr ⟨fun h => ?_, ones_nodup p.ndw⟩
  obtain ⟨a, ha, e⟩ := ones_mem.mp h
  have e := iN_inj e
  exact p.apart (x := a) (by rw [e]; exact List.mem_singleton.mpr rfl) ha
theorem Plan.lots (p : Plan C rg wy ring wts n perm f) (ne : ring ≠ []) (x : List Int) : x ∈ iN ring :: ones wts ↔ ∃ a ∈ Ft.unw C, x = iN (pieceOf C a) := by
  rw [List.mem_cons, ones_mem]
  constructor
  · rintro (e | ⟨a, ha, e⟩)
    · obtain ⟨a, ha⟩ := List.exists_mem_of_ne_nil ring ne
      exact ⟨a, (p.unw a).mpr (.inl ha), by rw [e, p.piece_ring ha]⟩
    · exact ⟨a, (p.unw a).mpr (.inr ha), by rw [e, p.piece_waist ha]⟩
  · rintro ⟨a, ha, e⟩
    rcases (p.unw a).mp ha with h | h
    · rw [p.piece_ring h] at e
      exact .inl e
    · rw [p.piece_waist h] at e
      exact .inr ⟨a, h, e⟩
theorem Plan.alone_nodup (p : Plan C rg wy ring wts n perm f) (gone : List Nat) : (ones ((ring ++ wts).filter fun a => !decide (a ∈ gone))).Nodup := by
  refine ones_nodup (List.Pairwise.filter _ ?_)
  show (ring ++ wts).Nodup
  rw [List.nodup_append]
  exact ⟨up_nodup p.upr, p.ndw, fun x hx y hy e => p.apart hx (e ▸ hy)⟩
theorem Plan.alone (p : Plan C rg wy ring wts n perm f) {C' : Chart} {gone : List Nat} (c : Cut C C' gone) {g : Nat} (hg : g ∈ ring) (hgg : g ∈ gone) (x : List Int) : x ∈ ones ((ring ++ wts).filter fun a => !decide (a ∈ gone)) ↔ ∃ a ∈ Ft.unw C', x = iN (pieceOf C' a) := by
  rw [ones_mem]
  have m : ∀ a, a ∈ (ring ++ wts).filter (fun a => !decide (a ∈ gone)) ↔ a ∈ Ft.unw C' := fun a => by
    rw [c.unw a, p.unw a, List.mem_filter, List.mem_append]
    simp
  constructor
  · rintro ⟨a, ha, e⟩
    have ha' := (m a).mp ha
    exact ⟨a, ha', by rw [e, p.piece_cut c hg hgg (unw_mem.mp ha').1]⟩
  · rintro ⟨a, ha, e⟩
    rw [p.piece_cut c hg hgg (unw_mem.mp ha).1] at e
    exact ⟨a, (m a).mpr ha, e⟩
end
end Ft

set_option Elab.async false
set_option linter.all false
set_option maxRecDepth 100000
set_option maxHeartbeats 8000000
namespace Ft
open PySem PySem.Spec PyProof.Rows L2
def exDA : PyData := .tuple ([[0, 1, 2, 3]].map encL)
def exDB : PyData := .tuple ([[1], [2], [3]].map encL)
theorem exDA_eqv : PyData.eqv exDA exDA = true := by decide +kernel
theorem exDB_eqv : PyData.eqv exDB exDB = true := by decide +kernel
theorem exDA_shaped : SeqAt.shaped exDA = true := by decide +kernel
theorem exDB_shaped : SeqAt.shaped exDB = true := by decide +kernel
section
variable {P : Program} {w : World} {K : PySem.W.Frag} {mg : Str → Option Value} {base : Heap} {t1 t2 : Tok}
/-! ### law -/
def sp_law (K : PySem.W.Frag) : Sp := fun vs H Q _ => ∃ (a : Addr) (ns : List Int), vs = [.ref a] ∧ SqL K H a (ns.map V.int) ∧ ∀ H', Q (.bl true) H'
theorem fn_law {f : Addr} {fd : FuncData} (T : Txt mg) (F : L2.Fun K "law" "law" s_law f fd) (c_law_pool : Cal P w K mg base 2 "_law_pool" (sp_law_pool K)) (c_law_draw : Cal P w K mg base 2 "_law_draw" sp_law_draw) (c_law_pick : Cal P w K mg base 3 "_law_pick" (sp_law_pick K)) (c_law_map_drawn : Cal P w K mg base 5 "_law_map_drawn" (sp_law_map_drawn K))
    (c_law_map_planted : Cal P w K mg base 5 "_law_map_planted" (sp_law_map_planted K)) (c_law_parted : CalG P w K mg base 7 "_law_parted" (sp_law_parted K)) (c_piece : Cal P w K mg base 6 "piece" (sp_piece K)) (c_pieces : Cal P w K mg base 6 "pieces" (sp_pieces K)) : FnG P w K mg base 8 f fd ["script"] (sp_law K) := by
  refine gfun F sc_law (fun vs H Q E h => ?_) (fun cdv A outer s H vs Q E hg hr h => ?_)
  · obtain ⟨a, ns, rfl, _⟩ := h
    rfl
  · obtain ⟨sa, ns, rfl, hS, q⟩ := h
    have hU := hr.units
    have hG := hg
    refine ⟨_, (pss_cons (ps_set (i := 1) sc_law.nd rfl (Or.inl rfl) (pe_tup (pa_cons (pe_tup (pa_cons pe_int (pa_cons pe_int pa_nil))) (pa_cons (pe_tup (pa_cons pe_int (pa_cons pe_int pa_nil))) (pa_cons (pe_tup (pa_cons pe_int (pa_cons pe_int pa_nil))) (pa_cons (pe_tup (pa_cons pe_int (pa_cons pe_int pa_nil))) (pa_cons (pe_tup (pa_cons pe_int (pa_cons pe_int pa_nil))) (pa_cons (pe_tup (pa_cons pe_int (pa_cons pe_int pa_nil))) (pa_cons (pe_tup (pa_cons pe_int (pa_cons pe_int pa_nil))) (pa_cons (pe_tup (pa_cons pe_int (pa_cons pe_int pa_nil))) pa_nil))))))))))
      (pss_cons (ps_if (PW.pt (pw_or (pt_cmpR (show OpR _ _ (rNeD K) from op_neD hU) (pe_c c_pieces hr (by decide) (by rfl) (pa_cons (pe_tup (pa_cons pe_int (pa_cons (pv 1) (pa_cons (pe_tup (pa_cons pe_int (pa_cons pe_int (pa_cons pe_int pa_nil)))) pa_nil)))) pa_nil)) (pe_tup (pa_cons (pe_tup (pa_cons pe_int (pa_cons pe_int (pa_cons pe_int (pa_cons pe_int pa_nil))))) pa_nil)) (nomark _)) (pw_or1 (pt_cmpR (show OpR _ _ (rNeD K) from op_neD hU) (pe_c c_pieces hr (by decide) (by rfl) (pa_cons (pe_tup (pa_cons pe_int (pa_cons (pv 1) (pa_cons (pe_tup (pa_cons pe_int (pa_cons pe_int (pa_cons pe_int (pa_cons pe_int pa_nil))))) pa_nil)))) pa_nil)) (pe_tup (pa_cons (pe_tup (pa_cons pe_int pa_nil)) (pa_cons (pe_tup (pa_cons pe_int pa_nil)) (pa_cons (pe_tup (pa_cons pe_int pa_nil)) pa_nil)))) (nomark _))))) (pss_one (ps_ret pe_bl)) pss_nil)
      (pss_cons (ps_set (i := 2) sc_law.nd rfl (Or.inl rfl) (pe_c c_law_pool hr (by decide) (by rfl) (pa_cons (pv 0) pa_nil)))
      (pss_cons (ps_if (pt_not (pt_val (pe_g c_law_parted hG hr (by decide) (by rfl) (pa_cons (pv 2) (pa_cons (pe_c c_law_map_drawn hr (by decide) (by rfl) (pa_cons (pv 2) (pa_cons pe_int pa_nil))) pa_nil))))) (pss_one (ps_ret pe_bl)) pss_nil)
      (pss_cons (ps_set (i := 3) sc_law.nd rfl (Or.inl rfl) (pe_mid (pe_ifExp (pt_cmpR op_eq (pe_c c_law_draw hr (by decide) (by rfl) (pa_cons (pv 2) (pa_cons pe_int pa_nil))) pe_int (nomark _)) pe_int (pe_op op_add pe_int (pe_c c_law_draw hr (by decide) (by rfl) (pa_cons (pv 2) (pa_cons pe_int pa_nil)))))))
      (pss_cons (ps_asg (pe_c c_law_map_planted hr (by decide) (by rfl) (pa_cons (pv 2) (pa_cons (pv 3) (pa_cons (pe_c c_law_draw hr (by decide) (by rfl) (pa_cons (pv 2) (pa_cons pe_int pa_nil))) (pa_cons pe_int pa_nil))))) (show PG _ _ (gLst K 4 _) from pg_lst (by rfl) (pgs_cons (pg_name (i := 4) sc_law.nd rfl (Or.inl rfl)) (pgs_cons (pg_name (i := 5) sc_law.nd rfl (Or.inl rfl)) (pgs_cons (pg_name (i := 6) sc_law.nd rfl (Or.inl rfl)) (pgs_cons (pg_name (i := 7) sc_law.nd rfl (Or.inl rfl)) pgs_nil))))))
      (pss_cons (ps_set (i := 8) sc_law.nd rfl (Or.inl rfl) (pe_callB (show CallR _ _ (rSortedR K) from cr_sortedR hU) (by rfl) T.sorted (by decide +kernel) (pa_cons (pe_op op_cat (pe_lst (pa_cons (pe_callTy (show CallR _ _ (rTupleOf K) from call_tupleOf) (by rfl) T.tuple (by decide +kernel) (pa_cons (pv 5) pa_nil)) pa_nil)) (pe_lc (own := [("a", 12)]) rfl sc_law.nd (show PI _ _ _ (iList K _) from pi_list (pv 6)) (blkOk_by (N := ["script", "roads", "pool", "size", "chart", "ring", "waists", "last", "lots", "gone", "cut", "alone", "a"]) (sc := L2.defScope s_law) (by decide +kernel)) (fun _ _ _ _ _ => (pg_name (i := 12) sc_law.nd rfl (Or.inl rfl))) (fun _ _ _ _ _ => pts_nil) (fun _ _ _ _ _ => (pe_tup (pa_cons (pv 12) pa_nil))))) pa_nil)))
      (pss_cons (ps_if (PW.pt (pw_or (pt_cmpR op_ne (pe_callB (show CallR _ _ (rRepr K) from cr_repr hG hU) (by rfl) T.repr (by decide +kernel) (pa_cons (pe_c c_pieces hr (by decide) (by rfl) (pa_cons (pv 4) pa_nil)) pa_nil)) (pe_callB (show CallR _ _ (rRepr K) from cr_repr hG hU) (by rfl) T.repr (by decide +kernel) (pa_cons (pe_callTy (show CallR _ _ (rTupleOf K) from call_tupleOf) (by rfl) T.tuple (by decide +kernel) (pa_cons (pv 8) pa_nil)) pa_nil)) (nomark _)) (pw_or1 (pt_cmpR op_ne (pe_callB (show CallR _ _ (rRepr K) from cr_repr hG hU) (by rfl) T.repr (by decide +kernel) (pa_cons (pe_c c_piece hr (by decide) (by rfl) (pa_cons (pv 4) (pa_cons (pe_c c_law_pick hr (by decide) (by rfl) (pa_cons (pv 2) (pa_cons (pv 5) pa_nil))) pa_nil))) pa_nil)) (pe_callB (show CallR _ _ (rRepr K) from cr_repr hG hU) (by rfl) T.repr (by decide +kernel) (pa_cons (pe_callTy (show CallR _ _ (rTupleOf K) from call_tupleOf) (by rfl) T.tuple (by decide +kernel) (pa_cons (pv 5) pa_nil)) pa_nil)) (nomark _))))) (pss_one (ps_ret pe_bl)) pss_nil)
      (pss_cons (ps_set (i := 9) sc_law.nd rfl (Or.inr rfl) (pe_callB (show CallR _ _ (rSortedSet w) from cr_sortedSet rfl) (by rfl) T.sorted (by decide +kernel) (pa_cons (pe_callTy (show CallR _ _ (rSetI K w) from cr_setI rfl) (by rfl) T.set (by decide +kernel) (pa_cons (pe_lst (pa_cons (pe_c c_law_pick hr (by decide) (by rfl) (pa_cons (pv 2) (pa_cons (pv 5) pa_nil))) (pa_cons (pe_c c_law_pick hr (by decide) (by rfl) (pa_cons (pv 2) (pa_cons (pv 5) pa_nil))) pa_nil))) pa_nil)) pa_nil)))
      (pss_cons (ps_set (i := 10) sc_law.nd rfl (Or.inl rfl) (pe_tup (pa_cons (pe_ix (show IxR _ (rIxT K) from ix_tup) (pv 4) pe_int (fun _ _ => rfl)) (pa_cons (pe_ix (show IxR _ (rIxT K) from ix_tup) (pv 4) pe_int (fun _ _ => rfl)) (pa_cons (pe_callTy (show CallR _ _ (rTupleOf K) from call_tupleOf) (by rfl) T.tuple (by decide +kernel) (pa_cons (pe_callB (show CallR _ _ (rSortedI K) from cr_sortedI) (by rfl) T.sorted (by decide +kernel) (pa_cons (pe_op op_cat (pe_callTy (show CallR _ _ (rListOf K) from call_listOf) (by rfl) T.list (by decide +kernel) (pa_cons (pe_ix (show IxR _ (rIxT K) from ix_tup) (pv 4) pe_int (fun _ _ => rfl)) pa_nil)) (pv 9)) pa_nil)) pa_nil)) pa_nil)))))
      (pss_cons (ps_set (i := 11) sc_law.nd rfl (Or.inl rfl) (pe_callB (show CallR _ _ (rSortedR K) from cr_sortedR hU) (by rfl) T.sorted (by decide +kernel) (pa_cons (pe_lc (own := [("a", 12)]) rfl sc_law.nd (show PI _ _ _ (iList K _) from pi_list (pe_op op_cat (pv 5) (pv 6))) (blkOk_by (N := ["script", "roads", "pool", "size", "chart", "ring", "waists", "last", "lots", "gone", "cut", "alone", "a"]) (sc := L2.defScope s_law) (by decide +kernel)) (fun _ _ _ _ _ => (pg_name (i := 12) sc_law.nd rfl (Or.inl rfl))) (fun _ _ _ _ _ => pts_one (pt_cmpR (show OpR _ _ (rIn K true) from op_notIn_seq) (pv 12) (pv 9) (by rfl))) (fun _ _ _ _ _ => (pe_tup (pa_cons (pv 12) pa_nil)))) pa_nil)))
      (pss_cons (ps_if (pt_cmpR op_ne (pe_callB (show CallR _ _ (rRepr K) from cr_repr hG hU) (by rfl) T.repr (by decide +kernel) (pa_cons (pe_c c_pieces hr (by decide) (by rfl) (pa_cons (pv 10) pa_nil)) pa_nil)) (pe_callB (show CallR _ _ (rRepr K) from cr_repr hG hU) (by rfl) T.repr (by decide +kernel) (pa_cons (pe_callTy (show CallR _ _ (rTupleOf K) from call_tupleOf) (by rfl) T.tuple (by decide +kernel) (pa_cons (pv 11) pa_nil)) pa_nil)) (nomark _)) (pss_one (ps_ret pe_bl)) pss_nil)
      (pss_cons (ps_set (i := 12) sc_law.nd rfl (Or.inl rfl) (pe_c c_law_pick hr (by decide) (by rfl) (pa_cons (pv 2) (pa_cons (pv 5) pa_nil))))
      (pss_one (ps_ret (pe_and (pe_cmpR op_eq (pe_callB (show CallR _ _ (rRepr K) from cr_repr hG hU) (by rfl) T.repr (by decide +kernel) (pa_cons (pe_c c_piece hr (by decide) (by rfl) (pa_cons (pv 10) (pa_cons (pv 12) pa_nil))) pa_nil)) (pe_callB (show CallR _ _ (rRepr K) from cr_repr hG hU) (by rfl) T.repr (by decide +kernel) (pa_cons (pe_tup (pa_cons (pv 12) pa_nil)) pa_nil)) (nomark _)) (pe_one (pe_cmpR op_eq (pe_callB (show CallR _ _ (rRepr K) from cr_repr hG hU) (by rfl) T.repr (by decide +kernel) (pa_cons (pe_c c_piece hr (by decide) (by rfl) (pa_cons (pv 10) (pa_cons (pe_ix (show IxR _ (rIxL K) from ix_list) (pv 9) pe_int (fun _ _ => rfl)) pa_nil))) pa_nil)) (pe_callB (show CallR _ _ (rRepr K) from cr_repr hG hU) (by rfl) T.repr (by decide +kernel) (pa_cons (pe_tup (pa_cons (pe_ix (show IxR _ (rIxL K) from ix_list) (pv 9) pe_int (fun _ _ => rfl)) pa_nil)) pa_nil)) (nomark _))))))))))))))))))), ?_⟩
    refine ⟨by show 2 ≤ sizeLine; decide, fun r0 h0 => ?_⟩
    have s0 : Same H (upd H r0 (.tup [.int 0, .int 1])) := same_upd h0
    have g0 : (upd H r0 (.tup [.int 0, .int 1])) r0 = some (.tup [vN 0, vN 1]) := upd_same
    generalize upd H r0 (.tup [.int 0, .int 1]) = Ha at s0 g0
    refine ⟨by show 2 ≤ sizeLine; decide, fun r1 h1 => ?_⟩
    have s1 : Same Ha (upd Ha r1 (.tup [.int 0, .int 2])) := same_upd h1
    have g1 : (upd Ha r1 (.tup [.int 0, .int 2])) r1 = some (.tup [vN 0, vN 2]) := upd_same
    generalize upd Ha r1 (.tup [.int 0, .int 2]) = Hb at s1 g1
    refine ⟨by show 2 ≤ sizeLine; decide, fun r2 h2 => ?_⟩
    have s2 : Same Hb (upd Hb r2 (.tup [.int 1, .int 0])) := same_upd h2
    have g2 : (upd Hb r2 (.tup [.int 1, .int 0])) r2 = some (.tup [vN 1, vN 0]) := upd_same
    generalize upd Hb r2 (.tup [.int 1, .int 0]) = Hc at s2 g2
    refine ⟨by show 2 ≤ sizeLine; decide, fun r3 h3 => ?_⟩
    have s3 : Same Hc (upd Hc r3 (.tup [.int 1, .int 4])) := same_upd h3
    have g3 : (upd Hc r3 (.tup [.int 1, .int 4])) r3 = some (.tup [vN 1, vN 4]) := upd_same
    generalize upd Hc r3 (.tup [.int 1, .int 4]) = Hd at s3 g3
    refine ⟨by show 2 ≤ sizeLine; decide, fun r4 h4 => ?_⟩
    have s4 : Same Hd (upd Hd r4 (.tup [.int 2, .int 3])) := same_upd h4
    have g4 : (upd Hd r4 (.tup [.int 2, .int 3])) r4 = some (.tup [vN 2, vN 3]) := upd_same
    generalize upd Hd r4 (.tup [.int 2, .int 3]) = He at s4 g4
    refine ⟨by show 2 ≤ sizeLine; decide, fun r5 h5 => ?_⟩
    have s5 : Same He (upd He r5 (.tup [.int 2, .int 5])) := same_upd h5
    have g5 : (upd He r5 (.tup [.int 2, .int 5])) r5 = some (.tup [vN 2, vN 5]) := upd_same
    generalize upd He r5 (.tup [.int 2, .int 5]) = Hf at s5 g5
    refine ⟨by show 2 ≤ sizeLine; decide, fun r6 h6 => ?_⟩
    have s6 : Same Hf (upd Hf r6 (.tup [.int 3, .int 0])) := same_upd h6
    have g6 : (upd Hf r6 (.tup [.int 3, .int 0])) r6 = some (.tup [vN 3, vN 0]) := upd_same
    generalize upd Hf r6 (.tup [.int 3, .int 0]) = Hg at s6 g6
    refine ⟨by show 2 ≤ sizeLine; decide, fun r7 h7 => ?_⟩
    have s7 : Same Hg (upd Hg r7 (.tup [.int 3, .int 6])) := same_upd h7
    have g7 : (upd Hg r7 (.tup [.int 3, .int 6])) r7 = some (.tup [vN 3, vN 6]) := upd_same
    generalize upd Hg r7 (.tup [.int 3, .int 6]) = Hh at s7 g7
    refine ⟨by show 8 ≤ sizeLine; decide, fun rr hrr => ?_⟩
    have sR : Same Hh (upd Hh rr (.tup ([r0, r1, r2, r3, r4, r5, r6, r7].map V.ref))) := same_upd hrr
    have gR : (upd Hh rr (.tup ([r0, r1, r2, r3, r4, r5, r6, r7].map V.ref))) rr = some (.tup ([r0, r1, r2, r3, r4, r5, r6, r7].map V.ref)) := upd_same
    have exR : PairsAt K (upd Hh rr (.tup ([r0, r1, r2, r3, r4, r5, r6, r7].map V.ref))) [r0, r1, r2, r3, r4, r5, r6, r7] exRoads := by
      have k7 := sR
      have k6 := s7.trans k7
      have k5 := s6.trans k6
      have k4 := s5.trans k5
      have k3 := s4.trans k4
      have k2 := s3.trans k3
      have k1 := s2.trans k2
      have k0 := s1.trans k1
      exact .cons (.inl (.inl (k0 _ _ g0))) (.cons (.inl (.inl (k1 _ _ g1))) (.cons (.inl (.inl (k2 _ _ g2))) (.cons (.inl (.inl (k3 _ _ g3))) (.cons (.inl (.inl (k4 _ _ g4))) (.cons (.inl (.inl (k5 _ _ g5))) (.cons (.inl (.inl (k6 _ _ g6))) (.cons (.inl (.inl (k7 _ _ g7))) .nil)))))))
    have s08 : Same H (upd Hh rr (.tup ([r0, r1, r2, r3, r4, r5, r6, r7].map V.ref))) := (s0.trans (s1.trans (s2.trans (s3.trans (s4.trans (s5.trans (s6.trans s7))))))).trans sR
    have hS1 : SqL K (upd Hh rr (.tup ([r0, r1, r2, r3, r4, r5, r6, r7].map V.ref))) sa (ns.map V.int) := (Same.kp (ex := []) s08).sqL List.not_mem_nil hS
    show tSeq _ _ _ _ (upd Hh rr (.tup ([r0, r1, r2, r3, r4, r5, r6, r7].map V.ref)))
    generalize upd Hh rr (.tup ([r0, r1, r2, r3, r4, r5, r6, r7].map V.ref)) = H1 at gR exR hS1
    refine ⟨_, rfl, by show 3 ≤ sizeLine; decide, fun wA hwA => ?_⟩
    have s9 : Same H1 (upd H1 wA (.tup [.int 4, .int 5, .int 6])) := same_upd hwA
    have gwA : (upd H1 wA (.tup [.int 4, .int 5, .int 6])) wA = some (.tup ([4, 5, 6].map vN)) := upd_same
    generalize upd H1 wA (.tup [.int 4, .int 5, .int 6]) = H2 at s9 gwA
    refine ⟨by show 3 ≤ sizeLine; decide, fun cA hcA => ?_⟩
    have s10 : Same H2 (upd H2 cA (.tup [.int 7, .ref rr, .ref wA])) := same_upd hcA
    have gcA : (upd H2 cA (.tup [.int 7, .ref rr, .ref wA])) cA = some (.tup [vN 7, .ref rr, .ref wA]) := upd_same
    generalize upd H2 cA (.tup [.int 7, .ref rr, .ref wA]) = H3 at s10 gcA
    have s13 := s9.trans s10
    refine ⟨cA, exA, rfl, ⟨rr, wA, [r0, r1, r2, r3, r4, r5, r6, r7], .inl (.inl gcA), .inl (.inl (s13 _ _ gR)), exR.keep (Same.kp (ex := []) s13) (lists_nil _), .inl (.inl (s10 _ _ gwA))⟩, exA_ok, fun q1 ts1 H4 s14 hq1 hr1 => ?_⟩
    rw [exA_pieces] at hr1
    refine ⟨by show 4 ≤ sizeLine; decide, fun u0 hu0 => ?_⟩
    have s15 : Same H4 (upd H4 u0 (.tup [.int 0, .int 1, .int 2, .int 3])) := same_upd hu0
    have gu0 : (upd H4 u0 (.tup [.int 0, .int 1, .int 2, .int 3])) u0 = some (.tup ([0, 1, 2, 3].map vN)) := upd_same
    generalize upd H4 u0 (.tup [.int 0, .int 1, .int 2, .int 3]) = H5 at s15 gu0
    refine ⟨by show 1 ≤ sizeLine; decide, fun u1 hu1 => ?_⟩
    have s16 : Same H5 (upd H5 u1 (.tup [.ref u0])) := same_upd hu1
    have gu1 : (upd H5 u1 (.tup [.ref u0])) u1 = some (.tup [.ref u0]) := upd_same
    generalize upd H5 u1 (.tup [.ref u0]) = H6 at s16 gu1
    have s46 := s15.trans s16
    have e0 : Dp K H6 (.ref u0) (encL [0, 1, 2, 3]) := dp_row (.inl (.inl (s16 _ _ gu0)))
    refine ⟨exDA, exDA, .tup (Same.sqT s46 hq1) (dp_rows (hr1.same s46)), .tup (.inl (.inl gu1)) (.cons e0 .nil), exDA_shaped, exDA_shaped, _, rfl, ite_any (fun h => absurd h (by rw [exDA_eqv]; decide)) (fun _ => ?_)⟩
    have s36 := s13.trans (s14.trans s46)
    have gR6 := s36 _ _ gR
    have exR6 : PairsAt K H6 [r0, r1, r2, r3, r4, r5, r6, r7] exRoads := exR.keep (Same.kp (ex := []) s36) (lists_nil _)
    have hS6 : SqL K H6 sa (ns.map V.int) := (Same.kp (ex := []) s36).sqL List.not_mem_nil hS1
    refine ⟨_, rfl, by show 4 ≤ sizeLine; decide, fun wB hwB => ?_⟩
    have t9 : Same H6 (upd H6 wB (.tup [.int 0, .int 4, .int 5, .int 6])) := same_upd hwB
    have gwB : (upd H6 wB (.tup [.int 0, .int 4, .int 5, .int 6])) wB = some (.tup ([0, 4, 5, 6].map vN)) := upd_same
    generalize upd H6 wB (.tup [.int 0, .int 4, .int 5, .int 6]) = H7 at t9 gwB
    refine ⟨by show 3 ≤ sizeLine; decide, fun cB hcB => ?_⟩
    have t10 : Same H7 (upd H7 cB (.tup [.int 7, .ref rr, .ref wB])) := same_upd hcB
    have gcB : (upd H7 cB (.tup [.int 7, .ref rr, .ref wB])) cB = some (.tup [vN 7, .ref rr, .ref wB]) := upd_same
    generalize upd H7 cB (.tup [.int 7, .ref rr, .ref wB]) = H8 at t10 gcB
    have t13 := t9.trans t10
    refine ⟨cB, exB, rfl, ⟨rr, wB, [r0, r1, r2, r3, r4, r5, r6, r7], .inl (.inl gcB), .inl (.inl (t13 _ _ gR6)), exR6.keep (Same.kp (ex := []) t13) (lists_nil _), .inl (.inl (t10 _ _ gwB))⟩, exB_ok, fun q2 ts2 H9 t14 hq2 hr2 => ?_⟩
    rw [exB_pieces] at hr2
    refine ⟨by show 1 ≤ sizeLine; decide, fun v0 hv0 => ?_⟩
    have t15 : Same H9 (upd H9 v0 (.tup [.int 1])) := same_upd hv0
    have gv0 : (upd H9 v0 (.tup [.int 1])) v0 = some (.tup ([1].map vN)) := upd_same
    generalize upd H9 v0 (.tup [.int 1]) = H10 at t15 gv0
    refine ⟨by show 1 ≤ sizeLine; decide, fun v1 hv1 => ?_⟩
    have t16 : Same H10 (upd H10 v1 (.tup [.int 2])) := same_upd hv1
    have gv1 : (upd H10 v1 (.tup [.int 2])) v1 = some (.tup ([2].map vN)) := upd_same
    generalize upd H10 v1 (.tup [.int 2]) = H11 at t16 gv1
    refine ⟨by show 1 ≤ sizeLine; decide, fun v2 hv2 => ?_⟩
    have t17 : Same H11 (upd H11 v2 (.tup [.int 3])) := same_upd hv2
    have gv2 : (upd H11 v2 (.tup [.int 3])) v2 = some (.tup ([3].map vN)) := upd_same
    generalize upd H11 v2 (.tup [.int 3]) = H12 at t17 gv2
    refine ⟨by show 3 ≤ sizeLine; decide, fun v3 hv3 => ?_⟩
    have t18 : Same H12 (upd H12 v3 (.tup [.ref v0, .ref v1, .ref v2])) := same_upd hv3
    have gv3 : (upd H12 v3 (.tup [.ref v0, .ref v1, .ref v2])) v3 = some (.tup [.ref v0, .ref v1, .ref v2]) := upd_same
    generalize upd H12 v3 (.tup [.ref v0, .ref v1, .ref v2]) = H13 at t18 gv3
    have t78 := t17.trans t18
    have t68 := t16.trans t78
    have t58 := t15.trans t68
    have e1 : Dp K H13 (.ref v0) (encL [1]) := dp_row (.inl (.inl (t68 _ _ gv0)))
    have e2 : Dp K H13 (.ref v1) (encL [2]) := dp_row (.inl (.inl (t78 _ _ gv1)))
    have e3 : Dp K H13 (.ref v2) (encL [3]) := dp_row (.inl (.inl (t18 _ _ gv2)))
    refine ⟨exDB, exDB, .tup (Same.sqT t58 hq2) (dp_rows (hr2.same t58)), .tup (.inl (.inl gv3)) (.cons e1 (.cons e2 (.cons e3 .nil))), exDB_shaped, exDB_shaped, _, rfl, ite_any (fun h => absurd h (by rw [exDB_eqv]; decide)) (fun _ => ?_)⟩
    have hS13 : SqL K H13 sa (ns.map V.int) := (Same.kp (ex := []) (t13.trans (t14.trans t58))).sqL List.not_mem_nil hS6
    clear s0 s1 s2 s3 s4 s5 s6 s7 g0 g1 g2 g3 g4 g5 g6 g7 sR exR s08 hS1 gR s9 gwA s10 gcA s13 s14 hq1 hr1 s15 gu0 s16 gu1 s46 e0 s36 gR6 exR6 hS6 t9 gwB t10 gcB t13 t14 hq2 hr2 t15 gv0 t16 gv1 t17 gv2 t18 gv3 t78 t68 t58 e1 e2 e3
    refine ⟨_, rfl, sa, ns, rfl, hS13, fun p l H14 _ _ _ hP14 => ?_⟩
    refine ⟨_, rfl, _, rfl, p, l, 8, rfl, hP14, by decide, fun c0 C0 H15 hC0 ok0 _ hP15 _ => ?_⟩
    refine ⟨p, l, c0, C0, rfl, hP15, hC0, ok0, fun H16 hP16 _ => ?_⟩
    refine ⟨_, rfl, ite_any (fun h => absurd h (by decide)) (fun _ => ?_)⟩
    refine ⟨fun v H' => ∃ z : Nat, v = vN z ∧ 0 < z ∧ z ≤ 24 ∧ PoolAt H' p l, ⟨_, rfl, p, l, 8, rfl, hP16, by decide, by decide, fun x Hx _ hPx _ => ⟨rfl, _, rfl, ite_any (fun _ => ⟨24, rfl, by decide, by decide, hPx⟩) (fun _ => ?_)⟩⟩, ?_⟩
    · exact ⟨_, rfl, p, l, 8, rfl, hPx, by decide, by decide, fun y Hy hy hPy _ => ⟨_, _, rfl, rfl, 1 + y, rfl, by omega, by omega, hPy⟩⟩
    rintro v H17 ⟨z, rfl, z0, z24, hP17⟩
    refine ⟨_, rfl, _, rfl, _, rfl, p, l, 4, rfl, hP17, by decide, by decide, fun wy Hw hwy hPw _ => ?_⟩
    refine ⟨p, l, z, wy, 2, rfl, hPw, z0, z24, by omega, by decide, by decide, fun q0 c ri wa tl C ring wts H18 hq hC ok hRi hWa lr lw ripl wapl plt hP18 _ => ?_⟩
    refine ⟨q0, _, rfl, .inl (.inl hq), rfl, _, _, rfl, _, _, rfl, _, _, rfl, _, _, rfl, rfl, ?_⟩
    obtain ⟨n, perm, ff, pl⟩ := plt.plan z0
    have rne : ring ≠ [] := fun e => by
      rw [e] at lr
      have : (0 : Nat) = z := lr
      omega
    have n60 := ok.n60
    have rlt : ∀ a ∈ ring, a < C.n := fun a ha => by
      rw [pl.size]
      exact ((pl.inr a).mp ha).1
    have wlt : ∀ a ∈ wts, a < C.n := fun a ha => by
      rw [pl.size]
      exact ((pl.inw a).mp ha).1
    have shR : Shows (encL ring) := shows_row (fun a ha => by have := rlt a ha; omega) (by omega)
    refine ⟨_, rfl, ri, _, rfl, .inl ⟨.inl (.inl hRi), fun t0 ht0 => ?_⟩⟩
    have s19 : Same H18 (upd H18 t0 (.tup (ring.map vN))) := same_upd ht0
    have gT0 : (upd H18 t0 (.tup (ring.map vN))) t0 = some (.tup (ring.map vN)) := upd_same
    generalize upd H18 t0 (.tup (ring.map vN)) = H19 at s19 gT0
    refine ⟨by show 1 ≤ sizeLine; decide, fun e0 he0 => ?_⟩
    have s20 : Same H19 (upd H19 e0 (.lst [.ref t0])) := same_upd he0
    have gE0 : (upd H19 e0 (.lst [.ref t0])) e0 = some (.lst [.ref t0]) := upd_same
    generalize upd H19 e0 (.lst [.ref t0]) = H20 at s20 gE0
    have s1820 := s19.trans s20
    have hWa20 := s1820 _ _ hWa
    refine ⟨_, rfl, wa, rfl, ⟨_, .inl (.inl hWa20)⟩, fun d hd => ?_⟩
    have keep : ∀ {H' : Hp}, Kp [d] H20 H' → Same H20 H' := fun {H'} k b o e' => k b o (fun m => by rw [List.mem_singleton.mp m, hd] at e'; cases e') e'
    refine lc_list (K := K) (xs := wts.map vN) (fun j H' => ∃ L : List Row, Kp [d] H20 H' ∧ H' d = some (.lst (L.map fun r => V.ref r.1)) ∧ RowTups H' L ∧ L.map (·.2) = ones (wts.take j))
      ⟨[], (fun b o x e' => by rw [upd_ne (ne_of_none e' hd)]; exact e'), upd_same, (fun _ h => nomatch h), rfl⟩ (fun j H' _ ⟨_, k, _⟩ => .inl (.inl (keep k _ _ hWa20))) ?_ ?_
    · rintro j x Hj hx ⟨L, kj, hD, hL, eL⟩
      obtain ⟨b, hb, rfl⟩ := get_map hx
      have jl : j < wts.length := (List.getElem?_eq_some_iff.mp hb).1
      have lenL : L.length ≤ j := by
        have := congrArg List.length eL
        unfold ones at this
        rw [List.length_map, List.length_map, List.length_take] at this
        omega
      refine ⟨rfl, _, rfl, by show 1 ≤ sizeLine; decide, fun t ht => ?_⟩
      have sj : Same Hj (upd Hj t (.tup [vN b])) := same_upd ht
      have gt : (upd Hj t (.tup [vN b])) t = some (.tup ((iN [b]).map V.int)) := upd_same
      have hDj := sj _ _ hD
      refine ⟨_, hDj, by rw [List.length_map]; exact small1000 (by omega), L ++ [(t, iN [b])], ?_, by rw [upd_same, List.map_append]; rfl, ((hL.same sj).add gt).set hDj, ?_⟩
      · intro b' o nb eb
        rw [upd_ne (fun z => nb (by rw [z]; simp))]
        exact sj _ _ (kj b' o nb eb)
      · rw [List.map_append, eL, take_more hb]
        unfold ones
        rw [List.map_append]
        rfl
    rintro H21 ⟨L, k21, hD21, hL21, eL⟩
    rw [List.take_of_length_le (by rw [List.length_map]; exact Nat.le_refl _)] at eL
    have s21 := keep k21
    have lenL : L.length ≤ 3 := by
      have := congrArg List.length eL
      unfold ones at this
      rw [List.length_map, List.length_map] at this
      omega
    refine ⟨e0, d, _, _, rfl, rfl, s21 _ _ gE0, hD21, ?_, fun z1 hz1 => ?_⟩
    · rw [List.length_map]
      have : (1000 : Nat) ≤ sizeLine := by decide
      show 1 + L.length ≤ sizeLine
      omega
    have s22 : Same H21 (upd H21 z1 (.lst ([.ref t0] ++ L.map fun r => V.ref r.1))) := same_upd hz1
    have gZ1 : (upd H21 z1 (.lst ([.ref t0] ++ L.map fun r => V.ref r.1))) z1 = some (.lst (((t0, iN ring) :: L).map fun r => V.ref r.1)) := upd_same
    generalize upd H21 z1 (.lst ([.ref t0] ++ L.map fun r => V.ref r.1)) = H22 at s22 gZ1
    have gT22 : H22 t0 = some (.tup ((iN ring).map V.int)) := by
      rw [← vN_map]
      exact s22 _ _ (s21 _ _ (s20 _ _ gT0))
    have hL22 : RowTups H22 ((t0, iN ring) :: L) := fun r hr' => by
      rcases List.mem_cons.mp hr' with e | hr'
      · rw [e]
        exact gT22
      · exact s22 _ _ (hL21 r hr')
    have eL1 : ((t0, iN ring) :: L).map (·.2) = iN ring :: ones wts := by rw [List.map_cons, eL]
    refine ⟨z1, (t0, iN ring) :: L, rfl, .inl (.inl gZ1), (fun r hr' => .inl (.inl (hL22 r hr'))), fun r hr' e => ?_, fun lo hlo => ?_⟩
    · have : r.2 ∈ iN ring :: ones wts := by
        rw [← eL1]
        exact List.mem_map.mpr ⟨r, hr', rfl⟩
      rw [e] at this
      rcases List.mem_cons.mp this with e1 | h1
      · exact rne (iN_inj (l1 := ring) (l2 := []) (by rw [← e1]; rfl))
      · obtain ⟨a, _, e2⟩ := ones_mem.mp h1
        cases e2
    have eS := sort_pieces (C := C) (L := (t0, iN ring) :: L) (by rw [eL1]; exact pl.lots_nodup) (fun x => by rw [eL1]; exact pl.lots rne x)
    have hS22 : RowTups H22 (((t0, iN ring) :: L).mergeSort leR) := fun r hr' => hL22 r ((sort_perm _).mem_iff.mp hr')
    generalize ((t0, iN ring) :: L).mergeSort leR = S at eS hS22 hlo ⊢
    have s23 : Same H22 (upd H22 lo (.lst (S.map fun r => V.ref r.1))) := same_upd hlo
    have gLo : (upd H22 lo (.lst (S.map fun r => V.ref r.1))) lo = some (.lst (S.map fun r => V.ref r.1)) := upd_same
    generalize upd H22 lo (.lst (S.map fun r => V.ref r.1)) = H23 at s23 gLo
    have s1823 := (s1820.trans s21).trans (s22.trans s23)
    have hC23 := hC.same s1823
    have hP23 := hP18.same s1823
    have hS23 := hS22.same s23
    refine ⟨_, rfl, c, C, rfl, hC23, ok, fun q3 ts3 H24 s24 hq3 hr3 => ⟨_, .tuple ((piecesL C).map encL), rfl, .tup hq3 (dp_rows hr3), pieces_show ok, ?_⟩⟩
    refine ⟨_, rfl, lo, _, rfl, .inl ⟨.inl (.inl (s24 _ _ gLo)), fun t1 ht1 => ?_⟩⟩
    have s25 : Same H24 (upd H24 t1 (.tup (S.map fun r => V.ref r.1))) := same_upd ht1
    have gT1 : (upd H24 t1 (.tup (S.map fun r => V.ref r.1))) t1 = some (.tup ((S.map (·.1)).map V.ref)) := by
      rw [upd_same, List.map_map]
      rfl
    generalize upd H24 t1 (.tup (S.map fun r => V.ref r.1)) = H25 at s25 gT1
    have s2325 := s24.trans s25
    refine ⟨_, .tuple ((piecesL C).map encL), rfl, .tup (.inl (.inl gT1)) (dp_rows (rows_at eS fun r hr' => .inl (.inl (hS23.same s2325 r hr')))), pieces_show ok, ?_⟩
    refine ⟨rfl, _, rfl, ite_any (fun h => absurd h (by simp)) (fun _ => ?_)⟩
    have s1825 := s1823.trans s2325
    have hP25 := hP18.same s1825
    have hRi25 := s1825 _ _ hRi
    have rlen : (ring.map vN).length = z := by rw [List.length_map, lr]
    refine ⟨_, rfl, _, rfl, _, rfl, p, l, ri, ring.map vN, rfl, hP25, .inl (.inl hRi25), ripl, by omega, by omega, fun x H26 hx hP26 k26 => ?_⟩
    obtain ⟨a1, ha1, rfl⟩ := List.mem_map.mp hx
    have hC25 := hC.same s1825
    have hC26 : IsChart K H26 c C := hC25.keep k26 hP25.lists
    have hRi26 := k26 _ _ ripl hRi25
    have hWa26 := k26 _ _ wapl (s1825 _ _ hWa)
    refine ⟨c, C, a1, rfl, hC26, ok, rlt a1 ha1, fun t2 H27 s27 ht2 => ?_⟩
    rw [pl.piece_ring ha1] at ht2
    refine ⟨_, encL ring, rfl, dp_row ht2, shR, ?_⟩
    refine ⟨_, rfl, ri, _, rfl, .inl ⟨.inl (.inl (s27 _ _ hRi26)), fun t3 ht3 => ⟨_, encL ring, rfl, dp_row (.inl (.inl upd_same)), shR, ?_⟩⟩⟩
    refine ⟨rfl, _, rfl, ite_any (fun h => absurd h (by simp)) (fun _ => ?_)⟩
    have s28 := s27.trans (same_upd (o := .tup (ring.map vN)) ht3)
    have hP28 := hP26.same s28
    have hRi28 := s28 _ _ hRi26
    have hWa28 := s28 _ _ hWa26
    have hC28 := hC26.same s28
    generalize upd H27 t3 (.tup (ring.map vN)) = H28 at s28 hP28 hRi28 hWa28 hC28
    refine ⟨_, rfl, _, rfl, p, l, ri, ring.map vN, rfl, hP28, .inl (.inl hRi28), ripl, by omega, by omega, fun x1 H29 hx1 hP29 k29 => ?_⟩
    obtain ⟨b1, hb1, rfl⟩ := List.mem_map.mp hx1
    have hRi29 := k29 _ _ ripl hRi28
    refine ⟨_, rfl, _, rfl, p, l, ri, ring.map vN, rfl, hP29, .inl (.inl hRi29), ripl, by omega, by omega, fun x2 H30 hx2 hP30 k30 => ?_⟩
    obtain ⟨b2, hb2, rfl⟩ := List.mem_map.mp hx2
    have hRi30 := k30 _ _ ripl hRi29
    have hWa30 := k30 _ _ wapl (k29 _ _ wapl hWa28)
    have hC30 : IsChart K H30 c C := hC28.keep (k29.trans k30) hP28.lists
    refine ⟨by show 2 ≤ sizeLine; decide, fun e5 he5 => ?_⟩
    have s31 : Same H30 (upd H30 e5 (.lst [vN b1, vN b2])) := same_upd he5
    have gE5 : (upd H30 e5 (.lst [vN b1, vN b2])) e5 = some (.lst ((iN [b1, b2]).map V.int)) := upd_same
    generalize upd H30 e5 (.lst [vN b1, vN b2]) = H31 at s31 gE5
    refine ⟨e5, iN [b1, b2], rfl, .inl (.inl (.inl gE5)), (by show 2 ≤ 1000; decide), fun se n2 hse hn2 => ?_⟩
    have hn2 : n2 ≤ 2 := hn2
    refine ⟨se, _, n2, rfl, upd_same, by omega, fun gs gu up mem _ hgu => ?_⟩
    obtain ⟨gl, rfl, upg, memg⟩ := set_nat up mem
    have s32 : Same H31 (upd (upd H31 se (SetO w se (fun j => decide (j ∈ iN [b1, b2])) n2)) gu (.lst ((iN gl).map V.int))) := (same_upd hse).trans (same_upd hgu)
    have gGu : (upd (upd H31 se (SetO w se (fun j => decide (j ∈ iN [b1, b2])) n2)) gu (.lst ((iN gl).map V.int))) gu = some (.lst (gl.map vN)) := by rw [upd_same, vN_map]
    generalize upd (upd H31 se (SetO w se (fun j => decide (j ∈ iN [b1, b2])) n2)) gu (.lst ((iN gl).map V.int)) = H32 at s32 gGu
    have s3032 := s31.trans s32
    have inG : ∀ x ∈ gl, x ∈ ring := fun x hx => by
      have := (memg x).mp hx
      simp only [List.mem_cons, List.not_mem_nil, or_false] at this
      rcases this with e | e
      · exact e ▸ hb1
      · exact e ▸ hb2
    have b1g : b1 ∈ gl := (memg b1).mpr (by simp)
    have gle : gl.length ≤ C.n := up_len upg fun x hx => rlt x (inG x hx)
    have hC32 := hC30.same s3032
    obtain ⟨rx, wx, tx, hc32⟩ := id hC32
    refine ⟨_, rfl, c, _, _, _, rfl, rfl, hc32.top, rfl, _, rfl, c, _, _, _, rfl, rfl, hc32.top, rfl, _, rfl, c, _, _, _, rfl, rfl, hc32.top, rfl, wx, _, rfl, .inr hc32.wis, fun l1 hl1 => ?_⟩
    have s33 : Same H32 (upd H32 l1 (.lst (C.wished.map vN))) := same_upd hl1
    have gL1 : (upd H32 l1 (.lst (C.wished.map vN))) l1 = some (.lst (C.wished.map vN)) := upd_same
    generalize upd H32 l1 (.lst (C.wished.map vN)) = H33 at s33 gL1
    have wle := up_len ok.upW ok.inW
    refine ⟨_, rfl, l1, gu, _, _, rfl, rfl, gL1, s33 _ _ gGu, ?_, fun z2 hz2 => ?_⟩
    · rw [List.length_map, List.length_map]
      have : (1000 : Nat) ≤ sizeLine := by decide
      omega
    have s34 : Same H33 (upd H33 z2 (.lst (C.wished.map vN ++ gl.map vN))) := same_upd hz2
    have gZ2 : (upd H33 z2 (.lst (C.wished.map vN ++ gl.map vN))) z2 = some (.lst ((iN (C.wished ++ gl)).map V.int)) := by rw [upd_same, ← vN_map, List.map_append]
    generalize upd H33 z2 (.lst (C.wished.map vN ++ gl.map vN)) = H34 at s34 gZ2
    refine ⟨z2, iN (C.wished ++ gl), rfl, .inl (.inl gZ2), fun ns' w1 pm' pw hw1 => ?_⟩
    have ndW : (C.wished ++ gl).Nodup := by
      rw [List.nodup_append]
      refine ⟨up_nodup ok.upW, up_nodup upg, fun x hx y hy e => ?_⟩
      have := unw_mem.mp ((pl.unw y).mpr (.inl (inG y hy)))
      exact this.2 (e ▸ hx)
    obtain ⟨wl, ewl, upw, memw⟩ := sorted_iN ndW pm' pw
    have ewl : ns' = iN wl := ewl
    subst ewl
    refine ⟨w1, _, rfl, .inl ⟨.inl (.inl upd_same), fun tw htw => ?_⟩⟩
    have s35 : Same H34 (upd (upd H34 w1 (.lst ((iN wl).map V.int))) tw (.tup ((iN wl).map V.int))) := (same_upd hw1).trans (same_upd htw)
    have gTw : (upd (upd H34 w1 (.lst ((iN wl).map V.int))) tw (.tup ((iN wl).map V.int))) tw = some (.tup (wl.map vN)) := by rw [upd_same, vN_map]
    show 3 ≤ sizeLine ∧ ∀ ct, (upd (upd H34 w1 (.lst ((iN wl).map V.int))) tw (.tup ((iN wl).map V.int))) ct = none → _
    generalize upd (upd H34 w1 (.lst ((iN wl).map V.int))) tw (.tup ((iN wl).map V.int)) = H35 at s35 gTw
    refine ⟨by decide, fun ct hct => ?_⟩
    have s36 : Same H35 (upd H35 ct (.tup [vN C.n, .ref rx, .ref tw])) := same_upd hct
    have gCt : (upd H35 ct (.tup [vN C.n, .ref rx, .ref tw])) ct = some (.tup [vN C.n, .ref rx, .ref tw]) := upd_same
    generalize upd H35 ct (.tup [vN C.n, .ref rx, .ref tw]) = H36 at s36 gCt
    have s3236 := (s33.trans s34).trans (s35.trans s36)
    obtain ⟨C', eC'⟩ : ∃ C' : Chart, C' = ⟨C.n, C.roads, wl⟩ := ⟨_, rfl⟩
    have memw' : ∀ x, x ∈ wl ↔ x ∈ C.wished ∨ x ∈ gl := fun x => (memw x).trans List.mem_append
    have ctc : Cut C C' gl := ⟨by rw [eC'], by rw [eC'], fun x => by rw [eC']; exact memw' x⟩
    have ok' : C'.Ok := by
      rw [eC']
      refine ⟨ok.n60, ok.many, ok.inR, ok.upR, fun x hx => ?_, upw⟩
      rcases (memw' x).mp hx with h | h
      · exact ok.inW x h
      · exact rlt x (inG x h)
    have hC' : IsChart K H36 ct C' := by
      rw [eC']
      exact ⟨rx, tw, tx, .inl (.inl gCt), Same.sqT s3236 hc32.row, hc32.prs.keep (Same.kp (ex := []) s3236) (lists_nil _), .inl (.inl (s36 _ _ gTw))⟩
    have n' : C'.n = C.n := ctc.n
    have alone1 : ∀ {x : Nat}, x < C.n → pieceOf C' x = [x] := fun {x} hx => pl.piece_cut ctc (inG b1 b1g) b1g (by rw [n']; exact hx)
    have s3036 := s3032.trans s3236
    have hRi36 := s3036 _ _ hRi30
    have hWa36 := s3036 _ _ hWa30
    have gGu36 := s3236 _ _ gGu
    have hP36 := hP30.same s3036
    have gupl : gu ∉ [p, l] := (hP30.same (s31.trans (same_upd hse))).free hgu
    refine ⟨_, rfl, _, rfl, ri, wa, _, _, rfl, rfl, hRi36, hWa36, ?_, fun rw1 hrw1 => ?_⟩
    · rw [List.length_map, List.length_map]
      have : (1000 : Nat) ≤ sizeLine := by decide
      omega
    have s37 : Same H36 (upd H36 rw1 (.lst (ring.map vN ++ wts.map vN))) := same_upd hrw1
    have gRw : (upd H36 rw1 (.lst (ring.map vN ++ wts.map vN))) rw1 = some (.lst ((ring ++ wts).map vN)) := by rw [upd_same, List.map_append]
    generalize upd H36 rw1 (.lst (ring.map vN ++ wts.map vN)) = H37 at s37 gRw
    have gGu37 := s37 _ _ gGu36
    refine ⟨rw1, rfl, ⟨_, .inl (.inl gRw)⟩, fun d2 hd2 => ?_⟩
    have keep2 : ∀ {H' : Hp}, Kp [d2] H37 H' → Same H37 H' := fun {H'} k b o e' => k b o (fun m => by rw [List.mem_singleton.mp m, hd2] at e'; cases e') e'
    refine lc_list (K := K) (xs := (ring ++ wts).map vN) (fun j H' => ∃ L : List Row, Kp [d2] H37 H' ∧ H' d2 = some (.lst (L.map fun r => V.ref r.1)) ∧ RowTups H' L ∧ L.map (·.2) = ones (((ring ++ wts).take j).filter fun a => !decide (a ∈ gl)) ∧ L.length ≤ j)
      ⟨[], (fun b o x e' => by rw [upd_ne (ne_of_none e' hd2)]; exact e'), upd_same, (fun _ h => nomatch h), rfl, Nat.zero_le _⟩ (fun j H' _ ⟨_, k, _⟩ => .inl (.inl (keep2 k _ _ gRw))) ?_ ?_
    · rintro j x Hj hx ⟨L2, kj, hD, hL, eL2, fl⟩
      obtain ⟨b, hb, rfl⟩ := get_map hx
      have jl : j < (ring ++ wts).length := (List.getElem?_eq_some_iff.mp hb).1
      rw [List.length_append] at jl
      refine ⟨rfl, ?_⟩
      refine ⟨_, rfl, _, rfl, gu, _, rfl, .inl (.inl (.inl (keep2 kj _ _ gGu37))), rfl, all_vN gl, _, rfl, ?_⟩
      show if (!inV (vN b) (gl.map vN)) = true then _ else _
      rw [in_vN]
      by_cases hw : b ∈ gl
      · rw [decide_eq_true hw]
        refine iteF ⟨L2, kj, hD, hL, ?_, by omega⟩
        rw [eL2, take_more hb, List.filter_append]
        simp [hw]
      · rw [decide_eq_false hw]
        refine iteT ?_
        refine ⟨_, rfl, by show 1 ≤ sizeLine; decide, fun t ht => ?_⟩
        have sj : Same Hj (upd Hj t (.tup [vN b])) := same_upd ht
        have gt : (upd Hj t (.tup [vN b])) t = some (.tup ((iN [b]).map V.int)) := upd_same
        have hDj := sj _ _ hD
        refine ⟨_, hDj, by rw [List.length_map]; exact small1000 (by omega), L2 ++ [(t, iN [b])], ?_, by rw [upd_same, List.map_append]; rfl, ((hL.same sj).add gt).set hDj, ?_, by rw [List.length_append]; exact Nat.succ_le_succ fl⟩
        · intro b' o nb eb
          rw [upd_ne (fun z => nb (by rw [z]; simp))]
          exact sj _ _ (kj b' o nb eb)
        · rw [List.map_append, eL2, take_more hb, List.filter_append]
          unfold ones
          simp [hw]
    rintro H38 ⟨L2, k38, hD38, hL38, eL2, _⟩
    rw [List.take_of_length_le (by rw [List.length_map]; exact Nat.le_refl _)] at eL2
    have s38 := keep2 k38
    refine ⟨d2, L2, rfl, .inl (.inl hD38), (fun r hr' => .inl (.inl (hL38 r hr'))), fun r hr' e => ?_, fun al hal => ?_⟩
    · have : r.2 ∈ ones ((ring ++ wts).filter fun a => !decide (a ∈ gl)) := by
        rw [← eL2]
        exact List.mem_map.mpr ⟨r, hr', rfl⟩
      rw [e] at this
      obtain ⟨a, _, e2⟩ := ones_mem.mp this
      cases e2
    have eS2 := sort_pieces (C := C') (L := L2) (by rw [eL2]; exact pl.alone_nodup gl) (fun x => by rw [eL2]; exact pl.alone ctc (inG b1 b1g) b1g x)
    have hS38 : RowTups H38 (L2.mergeSort leR) := fun r hr' => hL38 r ((sort_perm _).mem_iff.mp hr')
    generalize L2.mergeSort leR = S2 at eS2 hS38 hal ⊢
    have s39 : Same H38 (upd H38 al (.lst (S2.map fun r => V.ref r.1))) := same_upd hal
    have gAl : (upd H38 al (.lst (S2.map fun r => V.ref r.1))) al = some (.lst (S2.map fun r => V.ref r.1)) := upd_same
    generalize upd H38 al (.lst (S2.map fun r => V.ref r.1)) = H39 at s39 gAl
    have s3639 := s37.trans (s38.trans s39)
    refine ⟨_, rfl, ct, C', rfl, hC'.same s3639, ok', fun q5 ts5 H40 s40 hq5 hr5 => ⟨_, .tuple ((piecesL C').map encL), rfl, .tup hq5 (dp_rows hr5), pieces_show ok', ?_⟩⟩
    refine ⟨_, rfl, al, _, rfl, .inl ⟨.inl (.inl (s40 _ _ gAl)), fun t5 ht5 => ?_⟩⟩
    have s41 : Same H40 (upd H40 t5 (.tup (S2.map fun r => V.ref r.1))) := same_upd ht5
    have gT5 : (upd H40 t5 (.tup (S2.map fun r => V.ref r.1))) t5 = some (.tup ((S2.map (·.1)).map V.ref)) := by
      rw [upd_same, List.map_map]
      rfl
    generalize upd H40 t5 (.tup (S2.map fun r => V.ref r.1)) = H41 at s41 gT5
    have s3941 := s40.trans s41
    refine ⟨_, .tuple ((piecesL C').map encL), rfl, .tup (.inl (.inl gT5)) (dp_rows (rows_at eS2 fun r hr' => .inl (.inl ((hS38.same (s39.trans s3941)) r hr')))), pieces_show ok', ?_⟩
    refine ⟨rfl, _, rfl, ite_any (fun h => absurd h (by simp)) (fun _ => ?_)⟩
    have s3641 := s3639.trans s3941
    have hP41 := hP36.same s3641
    have hRi41 := s3641 _ _ hRi36
    refine ⟨_, rfl, _, rfl, p, l, ri, ring.map vN, rfl, hP41, .inl (.inl hRi41), ripl, by omega, by omega, fun x5 H42 hx5 hP42 k42 => ?_⟩
    obtain ⟨a5, ha5, rfl⟩ := List.mem_map.mp hx5
    have hC42 : IsChart K H42 ct C' := (hC'.same s3641).keep k42 hP41.lists
    have gGu42 := k42 _ _ gupl (s3641 _ _ gGu36)
    have one : ∀ {x : Nat}, x < C.n → Shows (encL [x]) := fun {x} hx => shows_row (fun y hy => by rw [List.mem_singleton.mp hy]; omega) (by show 1 ≤ 64; decide)
    refine ⟨_, rfl, _, rfl, ct, C', a5, rfl, hC42, ok', by rw [n']; exact rlt a5 ha5, fun t6 H43 s43 ht6 => ?_⟩
    rw [alone1 (rlt a5 ha5)] at ht6
    refine ⟨_, encL [a5], rfl, dp_row ht6, one (rlt a5 ha5), ?_⟩
    refine ⟨_, rfl, by show 1 ≤ sizeLine; decide, fun u6 hu6 => ⟨_, encL [a5], rfl, dp_row (.inl (.inl upd_same)), one (rlt a5 ha5), ?_⟩⟩
    refine ⟨rfl, _, rfl, ite_any (fun _ => ?_) (fun h => absurd h (by simp))⟩
    have s44 := s43.trans (same_upd (o := .tup [vN a5]) hu6)
    have gGu44 := s44 _ _ gGu42
    have hC44 := hC42.same s44
    generalize upd H43 u6 (.tup [vN a5]) = H44 at s44 gGu44 hC44
    obtain ⟨g0, gr, egl⟩ : ∃ g0 gr, gl = g0 :: gr := by
      cases gl with
      | nil => exact absurd b1g List.not_mem_nil
      | cons g0 gr => exact ⟨g0, gr, rfl⟩
    have g0r : g0 < C.n := rlt g0 (inG g0 (by rw [egl]; exact List.mem_cons_self))
    have at0 : atI (gl.map vN) 0 = some (vN g0) := by
      rw [egl]
      exact atI_nat (j := 0) (v := vN g0) rfl
    refine ⟨_, rfl, _, rfl, gu, _, _, _, rfl, rfl, .inl (.inl gGu44), at0, ct, C', g0, rfl, hC44, ok', by rw [n']; exact g0r, fun t7 H45 s45 ht7 => ?_⟩
    rw [alone1 g0r] at ht7
    refine ⟨_, encL [g0], rfl, dp_row ht7, one g0r, ?_⟩
    refine ⟨_, rfl, gu, _, _, _, rfl, rfl, .inl (.inl (s45 _ _ gGu44)), at0, by show 1 ≤ sizeLine; decide, fun u7 hu7 => ⟨_, encL [g0], rfl, dp_row (.inl (.inl upd_same)), one g0r, ?_⟩⟩
    refine ⟨rfl, ?_⟩
    rw [decide_eq_true rfl]
    exact q _
end
end Ft

set_option Elab.async false
set_option linter.all false
set_option maxRecDepth 100000
set_option maxHeartbeats 8000000
namespace Ft
open PySem PySem.Spec PyProof.Rows L2
/-! ### all together -/
theorem def_mk {K : PySem.W.Frag} {h : Heap} {mg : Str → Option Value} {x : Str} {st : Stmt} {f : Addr} {oc : Value} {od an : Option Addr} {osl : Array (Option Value)} {kV doc pm cdv ct : Value} (X : K.In h) (G : h.Ns mainGlobals mg) (a : PySem.W.nsIn K mainGlobals x = some (some (.ref f)))
    (l : K.lookup f = some ⟨oc, od, .func (PySem.W.fnOf x x (L2.defArgs st) (L2.defBody st) (L2.defScope st) .none kV doc pm an cdv ct), osl⟩) (c : PySem.W.codeIn K cdv x = true) (k : PySem.W.keepIn K (.ref f) = true) : Def K mg x st :=
  ⟨f, _, fun_mk l c k, PySem.W.mg_of X G a⟩
theorem txt_mk {K : PySem.W.Frag} {h : Heap} {mg : Str → Option Value} (X : K.In h) (G : h.Ns mainGlobals mg) (z0 : PySem.W.nsIn K mainGlobals "isinstance" = some none) (z1 : PySem.W.nsIn K mainGlobals "len" = some none) (z2 : PySem.W.nsIn K mainGlobals "tuple" = some none) (z3 : PySem.W.nsIn K mainGlobals "int" = some none) (z4 : PySem.W.nsIn K mainGlobals "bool" = some none) (z5 : PySem.W.nsIn K mainGlobals "enumerate" = some none) (z6 : PySem.W.nsIn K mainGlobals "range" = some none) (z7 : PySem.W.nsIn K mainGlobals "set" = some none) (z8 : PySem.W.nsIn K mainGlobals "list" = some none) (z9 : PySem.W.nsIn K mainGlobals "sorted" = some none) (z10 : PySem.W.nsIn K mainGlobals "min" = some none) (z11 : PySem.W.nsIn K mainGlobals "max" = some none) (z12 : PySem.W.nsIn K mainGlobals "repr" = some none) (z13 : PySem.W.nsIn K mainGlobals "dict" = some none) (z14 : PySem.W.nsIn K mainGlobals "str" = some none) (z15 : PySem.W.nsIn K mainGlobals "any" = some none) (z16 : PySem.W.nsIn K mainGlobals "all" = some none) (z17 : PySem.W.nsIn K mainGlobals "sum" = some none) (z18 : PySem.W.nsIn K mainGlobals "zip" = some none) : Txt mg :=
  ⟨PySem.W.mg_none_of X G z0, PySem.W.mg_none_of X G z1, PySem.W.mg_none_of X G z2, PySem.W.mg_none_of X G z3, PySem.W.mg_none_of X G z4, PySem.W.mg_none_of X G z5, PySem.W.mg_none_of X G z6, PySem.W.mg_none_of X G z7, PySem.W.mg_none_of X G z8, PySem.W.mg_none_of X G z9, PySem.W.mg_none_of X G z10, PySem.W.mg_none_of X G z11, PySem.W.mg_none_of X G z12, PySem.W.mg_none_of X G z13, PySem.W.mg_none_of X G z14, PySem.W.mg_none_of X G z15, PySem.W.mg_none_of X G z16, PySem.W.mg_none_of X G z17, PySem.W.mg_none_of X G z18⟩
theorem mgI_mk {K : PySem.W.Frag} {h : Heap} {mg : Str → Option Value} {x : Str} {n : Int} {t : Tok} (X : K.In h) (G : h.Ns mainGlobals mg) (a : PySem.W.nsIn K mainGlobals x = some (some (.int n t))) : MgI mg x n := ⟨t, PySem.W.mg_of X G a⟩
theorem ok_init {P : Program} {w : World} {K : PySem.W.Frag} {mg : Str → Option Value} {base : Heap} {fI : Addr} {fd : FuncData} (F : L2.Fun K "__init__" "Refused.__init__" s_init fI fd) : FnOk P w K mg base L2.CX0 1 fI fd ["self", "what"] (spInit K) := by
  refine F.ok sc_init (fun vs H Q E h => ?_) (fun cdv A outer s H vs Q E hr h => ?_)
  · obtain ⟨a, C, v, rfl, _⟩ := h
    rfl
  · obtain ⟨a, C, v, rfl, oe, no, ha, q⟩ := h
    refine ⟨_, (pss_one (ps_ost (pv 0) (pv 1))), ?_⟩
    exact ⟨_, rfl, _, rfl, a, C, rfl, oe, no, .inl ⟨ha, fun dx n ne => q dx n ne⟩⟩
/-- what the head tells of a class of errors -/
structure ErrH (K : PySem.W.Frag) (C fI : Addr) (x : Str) : Prop where
  a : PySem.W.nsIn K mainGlobals x = some (some (.ref C))
  cl : ∃ nm q N bs bm sn sub ab col dd k0 k1 k2 k3 k5, K.lookup C = some (excClassObj nm q C N bs bm true sn sub ab col dd k0 k1 k2 k3 k5 "ValueError.__new__") ∧ PySem.HandSPX.refsVE bm = true
  sa : PySem.W.findIn K (.ref C) "__setattr__" = some (some (.builtin "object.__setattr__"))
  ga : PySem.W.findIn K (.ref C) "__getattribute__" = some (some (.builtin "BaseException.__getattribute__"))
  gg : PySem.W.findIn K (.ref C) "__getattr__" = some none
  nw : PySem.W.findIn K (.ref C) "what" = some none
  ii : PySem.W.findIn K (.ref C) "__init__" = some (some (.ref fI))
  ex : PySem.W.subIn K (.ref C) (.type "BaseException") = some true
  ty : PySem.W.typeIn K (.ref C) = some (.type "type")
  kp : PySem.W.keepIn K (.ref C) = true
  hd : PySem.W.hasDictIn K C = true
  ic : PySem.W.isClsIn K C = true
theorem errH_mk {K : PySem.W.Frag} {C fI : Addr} {x : Str} {nm q : Str} {N : Addr} {bs bm : List Value} {sn : List Str} {sub : List Value} {ab : Bool} {col : Option Bool} {dd : Option Addr} {k0 k1 k2 k3 k5 : Option Value}
    (a : PySem.W.nsIn K mainGlobals x = some (some (.ref C))) (cl : K.lookup C = some (excClassObj nm q C N bs bm true sn sub ab col dd k0 k1 k2 k3 k5 "ValueError.__new__")) (r : PySem.HandSPX.refsVE bm = true)
    (sa : PySem.W.findIn K (.ref C) "__setattr__" = some (some (.builtin "object.__setattr__"))) (ga : PySem.W.findIn K (.ref C) "__getattribute__" = some (some (.builtin "BaseException.__getattribute__"))) (gg : PySem.W.findIn K (.ref C) "__getattr__" = some none) (nw : PySem.W.findIn K (.ref C) "what" = some none)
    (ii : PySem.W.findIn K (.ref C) "__init__" = some (some (.ref fI))) (ex : PySem.W.subIn K (.ref C) (.type "BaseException") = some true) (ty : PySem.W.typeIn K (.ref C) = some (.type "type")) (kp : PySem.W.keepIn K (.ref C) = true) (hd : PySem.W.hasDictIn K C = true) (ic : PySem.W.isClsIn K C = true) : ErrH K C fI x :=
  ⟨a, ⟨nm, q, N, bs, bm, sn, sub, ab, col, dd, k0, k1, k2, k3, k5, cl, r⟩, sa, ga, gg, nw, ii, ex, ty, kp, hd, ic⟩
theorem er_mk {P : Program} {w : World} {K : PySem.W.Frag} {h : Heap} {mg : Str → Option Value} {base : Heap} {ca : Str → Addr} {x : Str} {C fI : Addr} {fd : FuncData} (X : K.In h) (G : h.Ns mainGlobals mg) (e : ErrH K C fI x) (tI : PySem.W.typeIn K (.ref fI) = some (.type "function")) (F : L2.Fun K "__init__" "Refused.__init__" s_init fI fd)
    (b : Binds K fd ["self", "what"] []) (hc : ca x = C) : Er P w K mg base ca x := by
  subst hc
  exact ⟨fI, fd, ⟨PySem.W.mg_of X G e.a, ⟨e.cl, e.sa, e.ex, e.ty, e.kp⟩, e.ii, tI, e.nw, ⟨e.ga, e.gg, e.ex, e.hd⟩⟩, ok_init F, b⟩
theorem exm_mk {K : PySem.W.Frag} {ca : Str → Addr} {x y : Str} {C D fI fJ : Addr} {b : Bool} (e : ErrH K D fJ y) (h : PySem.W.subIn K (.ref C) (.ref D) = some b) (hc : ca x = C) (hd : ca y = D) : Exm K ca x y b := by
  subst hc hd
  unfold Exm
  have h1 : (PySem.W.subIn K (.ref (ca y)) (.type "BaseException") == some true) = true := by rw [e.ex]; rfl
  have h2 : ((PySem.W.clsIn K (ca y)).isSome && PySem.W.typeIn K (.ref (ca y)) == some (.type "type")) = true := by
    have z : (PySem.W.clsIn K (ca y)).isSome = true := e.ic
    rw [z, e.ty]
    rfl
  show (if (PySem.W.subIn K (.ref (ca y)) (.type "BaseException") == some true) = true then (if ((PySem.W.clsIn K (ca y)).isSome && PySem.W.typeIn K (.ref (ca y)) == some (.type "type")) = true then PySem.W.subIn K (.ref (ca x)) (.ref (ca y)) else none) else none) = some b
  rw [if_pos h1, if_pos h2]
  exact h
def caOf (l : List (Str × Addr)) (x : Str) : Addr := (l.lookup x).getD 0
theorem all_mk {l : PySem.W.OpenLaw} {w : World} {K : PySem.W.Frag} {h : Heap} {mg : Str → Option Value} {fa f : Addr} {oc : Value} {od an : Option Addr} {osl : Array (Option Value)} {kV doc pm cdv ct : Value} {fI : Addr} {fdI : FuncData} {C_BadMap : Addr} {C_BadPlace : Addr} {C_BadWish : Addr} (X : K.In h) (G : h.Ns mainGlobals mg) (hfa : mg "law" = some (.ref fa)) (T : Txt mg)
    (D_law_pool : Def K mg "_law_pool" s_law_pool) (D_law_draw : Def K mg "_law_draw" s_law_draw) (D_law_pick : Def K mg "_law_pick" s_law_pick) (D_law_turned : Def K mg "_law_turned" s_law_turned) (D_law_map_named : Def K mg "_law_map_named" s_law_map_named) (D_law_map_some_wished : Def K mg "_law_map_some_wished" s_law_map_some_wished) (D_law_map_drawn : Def K mg "_law_map_drawn" s_law_map_drawn) (D_law_map_planted : Def K mg "_law_map_planted" s_law_map_planted) (D_law_map_met : Def K mg "_law_map_met" s_law_map_met) (D_law_map_table : Def K mg "_law_map_table" s_law_map_table) (D_law_map_piece : Def K mg "_law_map_piece" s_law_map_piece) (D_law_map_pieces : Def K mg "_law_map_pieces" s_law_map_pieces) (D_is_number : Def K mg "is_number" s_is_number) (D_number_within : Def K mg "number_within" s_number_within) (D_road_fits : Def K mg "road_fits" s_road_fits) (D_check_roads : Def K mg "check_roads" s_check_roads) (D_first_bad_place : Def K mg "first_bad_place" s_first_bad_place) (D_made_map : Def K mg "made_map" s_made_map) (D_place_fits : Def K mg "place_fits" s_place_fits) (D_check_place : Def K mg "check_place" s_check_place) (D_unwished_of : Def K mg "unwished_of" s_unwished_of) (D_roads_from : Def K mg "roads_from" s_roads_from) (D_reached : Def K mg "reached" s_reached) (D_reached_unwished : Def K mg "reached_unwished" s_reached_unwished) (D_piece_table : Def K mg "piece_table" s_piece_table) (D_piece : Def K mg "piece" s_piece) (D_unwished_pieces : Def K mg "unwished_pieces" s_unwished_pieces) (D_pieces : Def K mg "pieces" s_pieces) (D_law_parted : Def K mg "_law_parted" s_law_parted)
    (m_MOST_PLACES : MgI mg "MOST_PLACES" 60) (m_MOST_ROADS : MgI mg "MOST_ROADS" 240) (E_BadMap : ErrH K C_BadMap fI "BadMap") (E_BadPlace : ErrH K C_BadPlace fI "BadPlace") (E_BadWish : ErrH K C_BadWish fI "BadWish") (tI : PySem.W.typeIn K (.ref fI) = some (.type "function")) (FI : L2.Fun K "__init__" "Refused.__init__" s_init fI fdI) (bI : Binds K fdI ["self", "what"] [])  
    (a : PySem.W.nsIn K mainGlobals "law" = some (some (.ref f))) (lk : K.lookup f = some ⟨oc, od, .func (PySem.W.fnOf "law" "law" (L2.defArgs s_law) (L2.defBody s_law) (L2.defScope s_law) .none kV doc pm an cdv ct), osl⟩) (c : PySem.W.codeIn K cdv "law" = true) (k : PySem.W.keepIn K (.ref f) = true) :
    ∃ fd : FuncData, (∀ (s : Shared) (v : Value), BindsTo s fd ⟨[v], []⟩ [("script", v)]) ∧ ∀ base : Heap, K.In base → base.Ns mainGlobals mg → FnG l.prog w K mg base 8 fa fd ["script"] (sp_law K) := by
  have e := hfa.symm.trans (PySem.W.mg_of X G a)
  cases e
  have F := fun_mk (st := s_law) lk c k
  refine ⟨PySem.W.fnOf "law" "law" (L2.defArgs s_law) (L2.defBody s_law) (L2.defScope s_law) .none kV doc pm an cdv ct, fun s v => .of_eq rfl, fun base _ _ => ?_⟩
  let ca : Str → Addr := caOf [("BadMap", C_BadMap), ("BadPlace", C_BadPlace), ("BadWish", C_BadWish)]
  have h_BadMap : ca "BadMap" = C_BadMap := by rfl
  have h_BadPlace : ca "BadPlace" = C_BadPlace := by rfl
  have h_BadWish : ca "BadWish" = C_BadWish := by rfl
  have e_BadMap : Er l.prog w K mg base ca "BadMap" := er_mk X G E_BadMap tI FI bI h_BadMap
  have e_BadPlace : Er l.prog w K mg base ca "BadPlace" := er_mk X G E_BadPlace tI FI bI h_BadPlace
  have e_BadWish : Er l.prog w K mg base ca "BadWish" := er_mk X G E_BadWish tI FI bI h_BadWish
  have c_law_pool := cal_law_pool (P := l.prog) (w := w) (base := base) T D_law_pool 
  have c_law_draw := cal_law_draw (P := l.prog) (w := w) (base := base) T D_law_draw 
  have c_law_pick := cal_law_pick (P := l.prog) (w := w) (base := base) T D_law_pick c_law_draw
  have c_law_turned := cal_law_turned (P := l.prog) (w := w) (base := base) T D_law_turned c_law_draw
  have c_law_map_named := cal_law_map_named (P := l.prog) (w := w) (base := base) T D_law_map_named c_law_turned
  have c_law_map_some_wished := cal_law_map_some_wished (P := l.prog) (w := w) (base := base) T D_law_map_some_wished c_law_draw
  have c_law_map_drawn := cal_law_map_drawn (P := l.prog) (w := w) (base := base) T D_law_map_drawn c_law_draw c_law_map_named c_law_map_some_wished
  have c_law_map_planted := cal_law_map_planted (P := l.prog) (w := w) (base := base) T D_law_map_planted c_law_draw c_law_map_named
  have c_law_map_met := cal_law_map_met (P := l.prog) (w := w) (base := base) T D_law_map_met 
  have c_law_map_table := cal_law_map_table (P := l.prog) (w := w) (base := base) T D_law_map_table c_law_map_met
  have c_law_map_piece := cal_law_map_piece (P := l.prog) (w := w) (base := base) T D_law_map_piece 
  have c_law_map_pieces := cal_law_map_pieces (P := l.prog) (w := w) (base := base) T D_law_map_pieces c_law_map_piece
  have c_is_number := cal_is_number (P := l.prog) (w := w) (base := base) T D_is_number 
  have c_number_within := cal_number_within (P := l.prog) (w := w) (base := base) T D_number_within c_is_number
  have c_road_fits := cal_road_fits (P := l.prog) (w := w) (base := base) T D_road_fits c_number_within
  have c_check_roads := cal_check_roads (P := l.prog) (w := w) (base := base) T D_check_roads m_MOST_ROADS e_BadMap c_road_fits
  have c_first_bad_place := cal_first_bad_place (P := l.prog) (w := w) (base := base) T D_first_bad_place c_number_within
  have c_made_map := cal_made_map (P := l.prog) (w := w) (base := base) T D_made_map m_MOST_PLACES e_BadMap e_BadWish c_number_within c_check_roads c_first_bad_place
  have v_made_map := calv_made_map (P := l.prog) (w := w) (base := base) c_made_map
  have c_place_fits := cal_place_fits (P := l.prog) (w := w) (base := base) T D_place_fits c_number_within
  have c_check_place := cal_check_place (P := l.prog) (w := w) (base := base) T D_check_place e_BadPlace c_place_fits
  have v_check_place := calv_check_place (P := l.prog) (w := w) (base := base) c_check_place
  have c_unwished_of := cal_unwished_of (P := l.prog) (w := w) (base := base) T D_unwished_of 
  have c_roads_from := cal_roads_from (P := l.prog) (w := w) (base := base) T D_roads_from 
  have c_reached := cal_reached (P := l.prog) (w := w) (base := base) T D_reached c_roads_from
  have c_reached_unwished := cal_reached_unwished (P := l.prog) (w := w) (base := base) T D_reached_unwished c_reached
  have c_piece_table := cal_piece_table (P := l.prog) (w := w) (base := base) T D_piece_table c_unwished_of c_reached_unwished
  have c_piece := cal_piece (P := l.prog) (w := w) (base := base) T D_piece v_made_map v_check_place c_piece_table
  have c_unwished_pieces := cal_unwished_pieces (P := l.prog) (w := w) (base := base) T D_unwished_pieces c_unwished_of
  have c_pieces := cal_pieces (P := l.prog) (w := w) (base := base) T D_pieces v_made_map c_unwished_pieces c_piece_table
  have c_law_parted := cal_law_parted (P := l.prog) (w := w) (base := base) T D_law_parted c_law_draw c_law_map_table c_law_map_piece c_law_map_pieces c_piece c_pieces
  exact fn_law T F c_law_pool c_law_draw c_law_pick c_law_map_drawn c_law_map_planted c_law_parted c_piece c_pieces
theorem walk {l : PySem.W.OpenLaw} {q : Program} {loose : List Str} {XP : (Str → Option Value) → Heap → Prop} {YP : World → Heap → Prop} {d : DefRec} {K : Params → PySem.W.Frag} (hn : l.most = some 63) (hdf : d.params.defaults = [])
    (hY : ∀ (w : World) (h : Heap), YP w h → (K w.params).In h)
    (F : ∀ (w : World) (mg : Str → Option Value) (fa : Addr) (h : Heap), (K w.params).In h → h.Ns mainGlobals mg → mg d.name = some (.ref fa) →
      ∃ fd : FuncData, (∀ (s : Shared) (u : Value), BindsTo s fd ⟨[u], []⟩ [("script", u)]) ∧ ∀ base : Heap, (K w.params).In base → base.Ns mainGlobals mg → FnG l.prog w (K w.params) mg base 8 fa fd ["script"] (sp_law (K w.params))) :
    PySem.W.WalkO q loose XP YP l.row.toRowW d [] (fun f vs => PySem.call f vs) :=
  gwalk (n := 63) (k := 8) (x := "script") (sp := fun w => sp_law (K w.params)) hn (by decide) hdf ⟨rfl, by decide, by decide⟩ hY F (fun _ _ a ns _ _ hS => ⟨a, ns, rfl, hS, fun _ => rfl⟩)
end Ft

open PySem PySem.W PyProof.Rows
set_option maxRecDepth 100000 in
set_option maxHeartbeats 0 in
theorem PySem.Challenge.cw_fewtraps_k04_pieces_of_maps_holds : PySem.Challenge.rw_fewtraps_k04_pieces_of_maps.Holds := by
  w_on; o_law; k_head; (case hw => w_witness2)
  k_fill
  refine Ft.walk (l := PySem.Challenge.rw_fewtraps_k04_pieces_of_maps) rfl rfl (fun w h Y => PySem.W.kIn_of Y) ?F
  case F =>
    intro w mg fa h KX G hmg
    refine' Ft.all_mk KX G hmg (Ft.txt_mk KX G ?z0 ?z1 ?z2 ?z3 ?z4 ?z5 ?z6 ?z7 ?z8 ?z9 ?z10 ?z11 ?z12 ?z13 ?z14 ?z15 ?z16 ?z17 ?z18) (Ft.def_mk KX G ?a_law_pool ?l_law_pool ?c_law_pool ?k_law_pool) (Ft.def_mk KX G ?a_law_draw ?l_law_draw ?c_law_draw ?k_law_draw) (Ft.def_mk KX G ?a_law_pick ?l_law_pick ?c_law_pick ?k_law_pick) (Ft.def_mk KX G ?a_law_turned ?l_law_turned ?c_law_turned ?k_law_turned) (Ft.def_mk KX G ?a_law_map_named ?l_law_map_named ?c_law_map_named ?k_law_map_named) (Ft.def_mk KX G ?a_law_map_some_wished ?l_law_map_some_wished ?c_law_map_some_wished ?k_law_map_some_wished) (Ft.def_mk KX G ?a_law_map_drawn ?l_law_map_drawn ?c_law_map_drawn ?k_law_map_drawn) (Ft.def_mk KX G ?a_law_map_planted ?l_law_map_planted ?c_law_map_planted ?k_law_map_planted) (Ft.def_mk KX G ?a_law_map_met ?l_law_map_met ?c_law_map_met ?k_law_map_met) (Ft.def_mk KX G ?a_law_map_table ?l_law_map_table ?c_law_map_table ?k_law_map_table) (Ft.def_mk KX G ?a_law_map_piece ?l_law_map_piece ?c_law_map_piece ?k_law_map_piece) (Ft.def_mk KX G ?a_law_map_pieces ?l_law_map_pieces ?c_law_map_pieces ?k_law_map_pieces) (Ft.def_mk KX G ?a_is_number ?l_is_number ?c_is_number ?k_is_number) (Ft.def_mk KX G ?a_number_within ?l_number_within ?c_number_within ?k_number_within) (Ft.def_mk KX G ?a_road_fits ?l_road_fits ?c_road_fits ?k_road_fits) (Ft.def_mk KX G ?a_check_roads ?l_check_roads ?c_check_roads ?k_check_roads) (Ft.def_mk KX G ?a_first_bad_place ?l_first_bad_place ?c_first_bad_place ?k_first_bad_place) (Ft.def_mk KX G ?a_made_map ?l_made_map ?c_made_map ?k_made_map) (Ft.def_mk KX G ?a_place_fits ?l_place_fits ?c_place_fits ?k_place_fits) (Ft.def_mk KX G ?a_check_place ?l_check_place ?c_check_place ?k_check_place) (Ft.def_mk KX G ?a_unwished_of ?l_unwished_of ?c_unwished_of ?k_unwished_of) (Ft.def_mk KX G ?a_roads_from ?l_roads_from ?c_roads_from ?k_roads_from) (Ft.def_mk KX G ?a_reached ?l_reached ?c_reached ?k_reached) (Ft.def_mk KX G ?a_reached_unwished ?l_reached_unwished ?c_reached_unwished ?k_reached_unwished) (Ft.def_mk KX G ?a_piece_table ?l_piece_table ?c_piece_table ?k_piece_table) (Ft.def_mk KX G ?a_piece ?l_piece ?c_piece ?k_piece) (Ft.def_mk KX G ?a_unwished_pieces ?l_unwished_pieces ?c_unwished_pieces ?k_unwished_pieces) (Ft.def_mk KX G ?a_pieces ?l_pieces ?c_pieces ?k_pieces) (Ft.def_mk KX G ?a_law_parted ?l_law_parted ?c_law_parted ?k_law_parted) (Ft.mgI_mk KX G ?m_MOST_PLACES) (Ft.mgI_mk KX G ?m_MOST_ROADS) (Ft.errH_mk ?ea_BadMap ?ecl_BadMap ?r_BadMap ?esa_BadMap ?ega_BadMap ?egg_BadMap ?enw_BadMap ?eii_BadMap ?eex_BadMap ?ety_BadMap ?ekp_BadMap ?ehd_BadMap ?eic_BadMap) (Ft.errH_mk ?ea_BadPlace ?ecl_BadPlace ?r_BadPlace ?esa_BadPlace ?ega_BadPlace ?egg_BadPlace ?enw_BadPlace ?eii_BadPlace ?eex_BadPlace ?ety_BadPlace ?ekp_BadPlace ?ehd_BadPlace ?eic_BadPlace) (Ft.errH_mk ?ea_BadWish ?ecl_BadWish ?r_BadWish ?esa_BadWish ?ega_BadWish ?egg_BadWish ?enw_BadWish ?eii_BadWish ?eex_BadWish ?ety_BadWish ?ekp_BadWish ?ehd_BadWish ?eic_BadWish) ?tI (L2.fun_mk ?lI ?cI ?kI) (L2.Fun.binds (st := Ft.s_init) (L2.fun_mk ?lI ?cI ?kI) fun _ _ _ _ _ _ us hl => match us, hl with | [_, _], _ => rfl) ?a ?l ?c ?k
    (case a_law_pool => k_is); (case l_law_pool => k_is); (case c_law_pool => k_is); (case k_law_pool => k_is)
    (case a_law_draw => k_is); (case l_law_draw => k_is); (case c_law_draw => k_is); (case k_law_draw => k_is)
    (case a_law_pick => k_is); (case l_law_pick => k_is); (case c_law_pick => k_is); (case k_law_pick => k_is)
    (case a_law_turned => k_is); (case l_law_turned => k_is); (case c_law_turned => k_is); (case k_law_turned => k_is)
    (case a_law_map_named => k_is); (case l_law_map_named => k_is); (case c_law_map_named => k_is); (case k_law_map_named => k_is)
    (case a_law_map_some_wished => k_is); (case l_law_map_some_wished => k_is); (case c_law_map_some_wished => k_is); (case k_law_map_some_wished => k_is)
    (case a_law_map_drawn => k_is); (case l_law_map_drawn => k_is); (case c_law_map_drawn => k_is); (case k_law_map_drawn => k_is)
    (case a_law_map_planted => k_is); (case l_law_map_planted => k_is); (case c_law_map_planted => k_is); (case k_law_map_planted => k_is)
    (case a_law_map_met => k_is); (case l_law_map_met => k_is); (case c_law_map_met => k_is); (case k_law_map_met => k_is)
    (case a_law_map_table => k_is); (case l_law_map_table => k_is); (case c_law_map_table => k_is); (case k_law_map_table => k_is)
    (case a_law_map_piece => k_is); (case l_law_map_piece => k_is); (case c_law_map_piece => k_is); (case k_law_map_piece => k_is)
    (case a_law_map_pieces => k_is); (case l_law_map_pieces => k_is); (case c_law_map_pieces => k_is); (case k_law_map_pieces => k_is)
    (case a_is_number => k_is); (case l_is_number => k_is); (case c_is_number => k_is); (case k_is_number => k_is)
    (case a_number_within => k_is); (case l_number_within => k_is); (case c_number_within => k_is); (case k_number_within => k_is)
    (case a_road_fits => k_is); (case l_road_fits => k_is); (case c_road_fits => k_is); (case k_road_fits => k_is)
    (case a_check_roads => k_is); (case l_check_roads => k_is); (case c_check_roads => k_is); (case k_check_roads => k_is)
    (case a_first_bad_place => k_is); (case l_first_bad_place => k_is); (case c_first_bad_place => k_is); (case k_first_bad_place => k_is)
    (case a_made_map => k_is); (case l_made_map => k_is); (case c_made_map => k_is); (case k_made_map => k_is)
    (case a_place_fits => k_is); (case l_place_fits => k_is); (case c_place_fits => k_is); (case k_place_fits => k_is)
    (case a_check_place => k_is); (case l_check_place => k_is); (case c_check_place => k_is); (case k_check_place => k_is)
    (case a_unwished_of => k_is); (case l_unwished_of => k_is); (case c_unwished_of => k_is); (case k_unwished_of => k_is)
    (case a_roads_from => k_is); (case l_roads_from => k_is); (case c_roads_from => k_is); (case k_roads_from => k_is)
    (case a_reached => k_is); (case l_reached => k_is); (case c_reached => k_is); (case k_reached => k_is)
    (case a_reached_unwished => k_is); (case l_reached_unwished => k_is); (case c_reached_unwished => k_is); (case k_reached_unwished => k_is)
    (case a_piece_table => k_is); (case l_piece_table => k_is); (case c_piece_table => k_is); (case k_piece_table => k_is)
    (case a_piece => k_is); (case l_piece => k_is); (case c_piece => k_is); (case k_piece => k_is)
    (case a_unwished_pieces => k_is); (case l_unwished_pieces => k_is); (case c_unwished_pieces => k_is); (case k_unwished_pieces => k_is)
    (case a_pieces => k_is); (case l_pieces => k_is); (case c_pieces => k_is); (case k_pieces => k_is)
    (case a_law_parted => k_is); (case l_law_parted => k_is); (case c_law_parted => k_is); (case k_law_parted => k_is)
    (case m_MOST_PLACES => k_is)
    (case m_MOST_ROADS => k_is)
    (case ea_BadMap => k_is); (case ecl_BadMap => k_is); (case esa_BadMap => k_is); (case ega_BadMap => k_is); (case egg_BadMap => k_is); (case enw_BadMap => k_is); (case eii_BadMap => k_is); (case eex_BadMap => k_is); (case ety_BadMap => k_is); (case ekp_BadMap => k_is); (case ehd_BadMap => k_is); (case eic_BadMap => k_is); (case r_BadMap => decide +kernel)
    (case ea_BadPlace => k_is); (case ecl_BadPlace => k_is); (case esa_BadPlace => k_is); (case ega_BadPlace => k_is); (case egg_BadPlace => k_is); (case enw_BadPlace => k_is); (case eii_BadPlace => k_is); (case eex_BadPlace => k_is); (case ety_BadPlace => k_is); (case ekp_BadPlace => k_is); (case ehd_BadPlace => k_is); (case eic_BadPlace => k_is); (case r_BadPlace => decide +kernel)
    (case ea_BadWish => k_is); (case ecl_BadWish => k_is); (case esa_BadWish => k_is); (case ega_BadWish => k_is); (case egg_BadWish => k_is); (case enw_BadWish => k_is); (case eii_BadWish => k_is); (case eex_BadWish => k_is); (case ety_BadWish => k_is); (case ekp_BadWish => k_is); (case ehd_BadWish => k_is); (case eic_BadWish => k_is); (case r_BadWish => decide +kernel)
    (case tI => k_is); (case lI => k_is); (case cI => k_is); (case kI => k_is)
    (case z0 => k_is)
    (case z1 => k_is)
    (case z2 => k_is)
    (case z3 => k_is)
    (case z4 => k_is)
    (case z5 => k_is)
    (case z6 => k_is)
    (case z7 => k_is)
    (case z8 => k_is)
    (case z9 => k_is)
    (case z10 => k_is)
    (case z11 => k_is)
    (case z12 => k_is)
    (case z13 => k_is)
    (case z14 => k_is)
    (case z15 => k_is)
    (case z16 => k_is)
    (case z17 => k_is)
    (case z18 => k_is)
    (case a => k_is); (case l => k_is); (case c => k_is); (case k => k_is)
