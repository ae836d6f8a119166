import PyProof.Rows.All
import Wide.All
import OpenK.AllK
import Wide.FinOn
import HandS.ForMost
import KE.KExcInit
import KE.KExcIs
import HandS.ExcInit
import HandS.ExcOwn
import HandS.ExcValue
import HandS.IsInst
import HandS.ForExc
import HandS.Star
import HandS.ClsMeth
import HandS.More
import HandS.Head0
import HandS.Head1
import HandS.Head2
import HandS.HeadEnd
import HandS.HeadHook4
import HandS.Text
import HandS.TupAny
import HandS.MapJoin
import HandS.SetKeys
import HandS.Style
import HandS.Walk
import HandS.Iter
import HandS.NoneIn
import HandS.Zip
import HandS.GenList
import HandS.TupSets
import HandS.SetTxt0
import HandS.Strs
import HandS.SetFor
import PyProof.Rows.SortShellAny
import PyProof.NeData
import PyProof.NeKinds
import PyProof.EqLayable
import PyProof.FactsAll.dict_1
import PyProof.FactsAll.dict_2
import PyProof.FactsAll.subtypes_3
import PyProof.StrOps2
import HandS.Rev
import HandS.TupMul
import PySem.Challenge.RW_maybegone_k01_first_errors
set_option Elab.async false
set_option linter.all false
set_option maxRecDepth 100000
set_option maxHeartbeats 4000000
namespace G
open PySem PySem.Spec PyProof.Rows L2

/-! ### heaps -/
/-- all that was tracked stands as it was, but for what stands at one of S -/
def Kp (S : List Addr) (H H' : Hp) : Prop := ∀ b o, b ∉ S → H b = some o → H' b = some o
theorem Kp.refl (S : List Addr) (H : Hp) : Kp S H H := fun _ _ _ h => h
theorem Kp.trans {S : List Addr} {H H1 H2 : Hp} (a : Kp S H H1) (b : Kp S H1 H2) : Kp S H H2 := fun c o d h => b c o d (a c o d h)
theorem Kp.mono {S T : List Addr} {H H' : Hp} (a : Kp S H H') (h : ∀ b, b ∈ S → b ∈ T) : Kp T H H' := fun c o d e => a c o (fun z => d (h c z)) e
/-- a new object -/
theorem Kp.new {S : List Addr} {p : Addr} {H H' : Hp} {o : HO} (a : Kp S H H') (h : H' p = none) : Kp S H (upd H' p o) := fun c u d e => by
  have q := a c u d e
  rw [upd_ne (ne_of_none q h)]
  exact q
/-- one of S is changed -/
theorem Kp.put {S : List Addr} {p : Addr} {H H' : Hp} {o : HO} (a : Kp S H H') (h : p ∈ S) : Kp S H (upd H' p o) := fun c u d e => by
  have hc : c ≠ p := fun z => d (by rw [z]; exact h)
  rw [upd_ne hc]
  exact a c u d e
/-- what was not there yet need not be kept -/
theorem Kp.fresh {S : List Addr} {p : Addr} {H H' : Hp} (a : Kp (p :: S) H H') (h : H p = none) : Kp S H H' := fun c u d e => a c u (fun z => by
  rcases List.mem_cons.mp z with z | z
  · rw [z, h] at e
    cases e
  · exact d z) e
theorem Kp.same {S : List Addr} {H H' : Hp} (s : Same H H') : Kp S H H' := fun c u _ e => s c u e
theorem Kp.toSame {H H' : Hp} (s : Kp [] H H') : Same H H' := fun c u e => s c u (fun z => by cases z) e
theorem Kp.seq {K : PySem.W.Frag} {S : List Addr} {a : Addr} {H H' : Hp} {xs : List V} (k : Kp S H H') (d : a ∉ S) (h : SqL K H a xs) : SqL K H' a xs := by
  rcases h with (h | ⟨o, h⟩) | h
  · exact .inl (.inl (k _ _ d h))
  · exact .inl (.inr ⟨o, k _ _ d h⟩)
  · exact .inr h

theorem Kp.none_of {S : List Addr} {a : Addr} {H H' : Hp} (k : Kp S H H') (h : H' a = none) (d : a ∉ S) : H a = none := by
  cases e : H a with
  | none => rfl
  | some o =>
    rw [k a o d e] at h
    cases h

/-! ### the deck -/
/-- a list of a list of numbers, and of a count of at most n -/
structure Deck (H : Hp) (D L : Addr) (n : Nat) : Prop where
  ne : D ≠ L
  ex : ∃ (m : Int) (ns : List Int), H D = some (.lst [.ref L, .int m]) ∧ H L = some (.lst (ns.map V.int)) ∧ 0 ≤ m ∧ m ≤ (n : Int) ∧ ns.length ≤ 63 ∧ ∀ x ∈ ns, 0 ≤ x
theorem Deck.mono {H : Hp} {D L : Addr} {n n' : Nat} (d : Deck H D L n) (h : n ≤ n') : Deck H D L n' := by
  obtain ⟨ne, m, ns, h1, h2, h3, h4, h5, h6⟩ := d
  exact ⟨ne, m, ns, h1, h2, h3, by omega, h5, h6⟩
theorem Deck.kp {S : List Addr} {H H' : Hp} {D L : Addr} {n : Nat} (d : Deck H D L n) (k : Kp S H H') (hD : D ∉ S) (hL : L ∉ S) : Deck H' D L n := by
  obtain ⟨ne, m, ns, h1, h2, h3⟩ := d
  exact ⟨ne, m, ns, k _ _ hD h1, k _ _ hL h2, h3⟩
theorem Deck.new {H : Hp} {D L p : Addr} {n : Nat} {o : HO} (d : Deck H D L n) (h : H p = none) : Deck (upd H p o) D L n :=
  d.kp (Kp.new (Kp.refl [] H) h) (fun z => by cases z) (fun z => by cases z)
theorem Deck.neD {H : Hp} {D L p : Addr} {n : Nat} (d : Deck H D L n) (h : H p = none) : p ≠ D ∧ p ≠ L := by
  obtain ⟨ne, m, ns, h1, h2, h3⟩ := d
  exact ⟨(ne_of_none h1 h).symm, (ne_of_none h2 h).symm⟩

/-- the built-in names that are used -/
structure Bi (mg : Str → Option Value) : Prop where
  z_len : mg "len" = none
  z_abs : mg "abs" = none
  z_int : mg "int" = none
  z_range : mg "range" = none

theorem cut_all {xs : List V} (h : xs.length ≤ 63) : cutV xs none (some 63) = xs := by
  unfold cutV
  rw [HT.sIx_none, show HT.sIx xs.length xs.length (some 63) = min 63 xs.length from HT.sIx_nat xs.length xs.length 63]
  show List.take (min 63 xs.length - 0) (List.drop 0 xs) = xs
  rw [List.drop_zero, Nat.min_eq_right h, Nat.sub_zero, List.take_length]
def iabs (i : Int) : Int := if i < 0 then -i else i
theorem iabs_nonneg (i : Int) : 0 ≤ iabs i := by
  unfold iabs
  split <;> omega
theorem take_step {α : Type} {l : List α} {i : Nat} {x : α} (h : l[i]? = some x) : l.take (i + 1) = l.take i ++ [x] := by
  rw [List.take_add_one, h]
  all_goals rfl
theorem line1000 {n : Nat} (h : n ≤ 1000) : n ≤ sizeLine := Nat.le_of_lt (small1000 h)
end G

set_option Elab.async false
set_option linter.all false
set_option maxRecDepth 100000
set_option maxHeartbeats 4000000
/-! A def that is called where nothing guards against itself (the law at the very top): there repr of nested data may be used. -/
namespace G
open PySem PySem.Spec PyProof.Rows L2
/-- repr of data without dicts -/
def rRepr (K : PySem.W.Frag) : List V → Hp → VK → Prop := fun vs H Q => ∃ (v : V) (d : PyData), vs = [v] ∧ Dp K H v d ∧ d.showable = true ∧
  d.hasDict = false ∧ d.depth ≤ 100 ∧ d.shown.length ≤ sizeLine ∧ Q (.str d.shown) H
theorem call_reprD {X : Cx} (hg : X.A.guards = some []) (hu : X.A.units + 101 < cLine) : CallR X (.builtin "repr") (rRepr X.K) := by
  intro pins s σ H vs us Q I r h
  obtain ⟨v, d, rfl, hd, hs, hn, hdep, hz, q⟩ := h
  obtain ⟨u, rfl, rv⟩ := vals1 r
  obtain ⟨as, rd⟩ := Dp.reads I d v u hd rv
  cases hd with
  | non =>
    cases rv
    exact PySem.P.repr_of_none ⟨.str _, H, I.tok _, ⟨_, rfl⟩, by simpa only [PyData.shown] using q⟩
  | bl b =>
    cases rv
    exact PySem.P.repr_of_bool ⟨.str _, H, I.tok _, ⟨_, rfl⟩, by simpa only [PyData.shown] using q⟩
  | int i =>
    obtain ⟨t, rfl⟩ := rv
    exact PySem.P.repr_of_int (by simpa [PyData.showable] using hs) ⟨.str _, H, I.tok _, ⟨_, rfl⟩, by simpa only [PyData.shown] using q⟩
  | str x =>
    obtain ⟨t, rfl⟩ := rv
    exact PySem.P.repr_of_str ⟨.str _, H, I.tok _, ⟨_, rfl⟩, by simpa only [PyData.shown] using q⟩ (by simpa only [PyData.shown] using hz)
  | lst h1 h2 =>
    cases rv
    exact repr_of_reads' rd hs (PyData.noDict_hsm hn) hg (by omega) (fun _ _ e => e) (fun h' t tk hk => ⟨.str _, H, I.kept hk, ⟨_, rfl⟩, q⟩) hz
  | tup h1 h2 =>
    cases rv
    exact repr_of_reads' rd hs (PyData.noDict_hsm hn) hg (by omega) (fun _ _ e => e) (fun h' t tk hk => ⟨.str _, H, I.kept hk, ⟨_, rfl⟩, q⟩) hz
/-- a def's promise where no guard stands around the call -/
structure FnOkG (P : Program) (w : World) (K : PySem.W.Frag) (mg : Str → Option Value) (base : Heap) (k : Nat) (f : Addr) (fd : FuncData) (ps : List Str) (sp : Sp) : Prop where
  len : ∀ vs H Q E, sp vs H Q E → vs.length = ps.length
  run : ∀ (A : Around) (outer : List Env) (s : Shared) (H : Hp) (args : Args) (us : List Value) (vs : List V) (Q : VK) (E : XK),
    A.guards = some [] → Room k A → Env0 P w K mg base A outer s H → BindsTo s fd args (ps.zip us) →
    Vals vs us → sp vs H Q E →
    codeAny (model P w) A (.call (.ref f) args) (CR CX0 outer P w H s Q E) s
/-- the rule for such a def: its body as a term of rules, and the reading of that term -/
theorem Fun.okG {P : Program} {w : World} {K : PySem.W.Frag} {mg : Str → Option Value} {base : Heap} {x qual : Str} {st : Stmt} {f : Addr} {fd : FuncData}
    {N ps : List Str} {k : Nat} {sp : Sp} (F : Fun K x qual st f fd) (S : FnScope N ps (defScope st)) (len : ∀ vs H Q E, sp vs H Q E → vs.length = ps.length)
    (body : ∀ (cdv : Value) (A : Around) (outer : List Env) (s : Shared) (H : Hp) (vs : List V) (Q : VK) (E : XK), A.guards = some [] →
      Room k (A.deeper (envOfC qual (defScope st) s.heap.objs.size f cdv)) → sp vs H Q E →
      ∃ t, PSs (cxOf CX0 P w K mg base N qual (defScope st) f cdv A outer s H E).nox (defBody st) t ∧
        t { nx := fun _ H' => Q .non H', rt := Q } (start N vs) H) : FnOkG P w K mg base (k + 1) f fd ps sp := by
  obtain ⟨oc, od, kV, doc, pm, an, cdv, ct, osl, rfl, lk, hcd⟩ := F.ex
  refine ⟨len, fun A outer s H args us vs Q E hg hr e0 hb r hsp => ?_⟩
  have nvs := len _ _ _ _ hsp
  have kept0 : ∀ b o, base.get? b = some o → s.heap.get? b = some o := fun b o e => (e0.bs b o e).1
  have KS : K.In s.heap := e0.mod.kin.keeps kept0
  have NL : s.heap.NoLimit := e0.mod.nolimit.keeps kept0
  have kinds : ∀ y ∈ ps.zip us, (defScope st).names.lookup y.1 = some .local ∨ ((defScope st).names.lookup y.1 = some .cell ∧
      ((cellsFrom (s.heap.objs.size + 1) (defScope st).names []).lookup y.1).isSome = true) := by
    rintro ⟨n, v⟩ hy
    have hm := (List.of_mem_zip hy).1
    cases S.par n hm with
    | inl z => exact Or.inl z
    | inr z => exact Or.inr ⟨z, PySem.W.cellsFrom_some _ _ _ (Or.inl z)⟩
  refine codeAny_call_function hr.depth (KS _ _ lk) rfl S.co S.gen rfl (PySem.W.codeRec_of KS hcd) (hb _ _ _ _ ?_)
  refine wpAny_newFunctionEnv_cells S.kind kinds fun env he s1 x1 => ?_
  subst he
  refine ⟨NL.keeps x1.toInCall.keep, codeAny_func ?_⟩
  obtain ⟨t, ht0, hq⟩ := body cdv A outer s H vs Q E hg (hr.deeper _) hsp
  have ht := ht0.nox
  have J0 : Inv (cxOf CX0 P w K mg base N qual (defScope st) f cdv A outer s H E) [] (start N vs) H s1 :=
    inv_start S hr.hd e0 nvs r x1
  refine wpAny_mono (ht.run [] s1 (start N vs) H _ J0 hq) (fun fl s2 hs => ?_) fun e s2 hs => hs
  cases fl with
  | next =>
    obtain ⟨σ2, H2, J, q⟩ := hs
    exact ⟨V.non, H2, J.os, J.bare, J.base, J.hok, rfl, q⟩
  | ret u =>
    obtain ⟨v, σ2, H2, J, rv, q⟩ := hs
    exact ⟨v, H2, J.os, J.bare, J.base, J.hok, rv, q⟩
  | brk =>
    obtain ⟨_, _, _, q⟩ := hs
    exact False.elim q
  | cont =>
    obtain ⟨_, _, _, q⟩ := hs
    exact False.elim q
/-! ### the end: the law's own def by such a promise -/
/-- what the law promises: at a list of at most n ints it gives True -/
def spLawN (K : PySem.W.Frag) (n : Nat) : Sp := fun vs H Q _ => ∃ (a : Addr) (ns : List Int), vs = [.ref a] ∧ SqL K H a (ns.map V.int) ∧ ns.length ≤ n ∧ ∀ H', Q (.bl true) H'
/-- one abstract heap, in which nothing but the script may be tracked, is enough -/
theorem call_at {P : Program} {w : World} {K : PySem.W.Frag} {mg mb : Str → Option Value} {k n : Nat} {fa a : Addr} {fd : FuncData} {x : Str}
    {s₁ : Shared} {vs : List Value} {ns : List Int} (KX : K.In s₁.heap) (hns : s₁.heap.Ns mainGlobals mg) (hb : s₁.heap.Ns builtinsNs mb)
    (hbb : ∀ x : Str, x ≠ "__name__" → mb x = bootBuiltins x) (hlim : s₁.heap.NoLimit) (hg : s₁.gens = #[])
    (ha : s₁.heap.get? a = some { cls := .type "list", data := .seq vs.toArray }) (hln : ns.length ≤ n) (hr : Room k callerA)
    (F : ∀ base : Heap, K.In base → base.Ns mainGlobals mg → FnOkG P w K mg base k fa fd [x] (spLawN K n))
    (hbind : ∀ (s : Shared) (u : Value), BindsTo s fd ⟨[u], []⟩ [(x, u)])
    (H : Hp) (hO : ∀ b, H b = none ∨ ∃ o xs, H b = some (.frz o (.lst xs))) (hS : SqL K H a (ns.map V.int)) (hok : HOk P w H s₁.heap)
    (hA : ∀ b, H b ≠ none → b = a) (hK : H a ≠ none → K.lookup a = none) :
    codeAny (model P w) callerA (.call (.ref fa) ⟨[.ref a], []⟩)
      (fun r s' => r = .ok (.ret (.bool true)) ∧ OldK s₁.heap s'.heap ∧ s'.os = s₁.os ∧ AllBare s'.gens) s₁ := by
  have seen : ∀ {b : Addr} {o : Obj}, s₁.heap.get? b = some o → H b = none → (hidT s₁.heap H).get? b = some o := fun e z => hidT_get e z
  have dictFree : ∀ {b : Addr} {o : Obj} {es : Array DictEntry} {ep : Nat}, s₁.heap.get? b = some o → o.data = .dict es ep → H b = none := by
    intro b o es ep e d
    cases q : H b with
    | none => rfl
    | some u =>
      obtain rfl : b = a := hA b (by simp [q])
      rw [ha] at e
      cases e
      exact nomatch (show Data.seq vs.toArray _ = Data.dict es ep from d)
  have nsOf : ∀ {b : Addr} {m : Str → Option Value}, s₁.heap.Ns b m → (hidT s₁.heap H).Ns b m := by
    rintro b m ⟨o, es, ep, e, d, r⟩
    exact ⟨o, es, ep, seen e (dictFree e d), d, r⟩
  have inB : K.In (hidT s₁.heap H) := by
    intro b o e
    refine seen (KX b o e) ?_
    cases q : H b with
    | none => rfl
    | some u =>
      obtain rfl : b = a := hA b (by simp [q])
      rw [hK (by simp [q])] at e
      cases e
  have md : Mod K mg (hidT s₁.heap H) := by
    obtain ⟨mc, l1, l2⟩ := hlim
    exact ⟨inB, nsOf hns, ⟨mb, nsOf hb, hbb⟩, ⟨mc, nsOf l1, l2⟩⟩
  have en : Env0 P w K mg (hidT s₁.heap H) callerA [] s₁ H :=
    { frames := rfl, mod := md, bs := fun b o e => of_hidT e, bsz := Nat.le_of_eq (hidT_size _ _), funs := trivial
      frf := fun b hb => by cases hb
      hok := hok, bare := .of_eq hg }
  have FB := F _ inB (nsOf hns)
  refine codeAny_mono (FB.run callerA [] s₁ H ⟨[.ref a], []⟩ [.ref a] [.ref a] (fun v _ => v = .bl true) (fun _ _ _ => False) rfl hr en
    (hbind s₁ (.ref a)) (.cons rfl .nil) ⟨a, ns, rfl, hS, hln, fun _ => rfl⟩) fun r s' h => ?_
  match r, h with
  | .ok (.ret u), h =>
    obtain ⟨v, H', os, bare, un, hok', r', q⟩ := h
    have ev : v = .bl true := q
    subst ev
    have eu : u = Value.bool true := r'
    subst eu
    refine ⟨rfl, OldK.of_keep fun b o e => ?_, os, bare⟩
    cases q2 : H b with
    | none => exact un.keep b o e q2 (by simp [frs]) (by simp)
    | some u2 =>
      rcases hO b with z | ⟨ob, xs, z⟩
      · rw [q2] at z
        cases z
      · obtain ⟨w1, _⟩ := hok b _ z
        obtain ⟨w2, _⟩ := hok' b _ (un.frzs b ob _ z)
        rw [e] at w1
        cases w1
        exact w2
  | .ok .next, h => exact False.elim h
  | .ok .brk, h => exact False.elim h
  | .ok .cont, h => exact False.elim h
  | .error e, h => exact False.elim h
theorem walk_ofG {l : PySem.W.OpenLaw} {n k : Nat} {q : Program} {loose : List Str} {XP : (Str → Option Value) → Heap → Prop} {YP : World → Heap → Prop}
    {d : DefRec} {K : Params → PySem.W.Frag} {x : Str} (hn : l.most = some n) (hn2 : n ≤ sizeLine) (hdf : d.params.defaults = []) (hr : Room k callerA)
    (hY : ∀ (w : World) (h : Heap), YP w h → (K w.params).In h)
    (F : ∀ (w : World) (mg : Str → Option Value) (fa : Addr) (h : Heap), (K w.params).In h → h.Ns mainGlobals mg → mg d.name = some (.ref fa) →
      ∃ fd : FuncData, (∀ (s : Shared) (u : Value), BindsTo s fd ⟨[u], []⟩ [(x, u)]) ∧
        ∀ base : Heap, (K w.params).In base → base.Ns mainGlobals mg → FnOkG l.prog w (K w.params) mg base k fa fd [x] (spLawN (K w.params) n)) :
    PySem.W.WalkO q loose XP YP l.row.toRowW d [] (fun f vs => PySem.call f vs) := by
  refine Att.attach_call hn hdf fun w s₀ s₁ mg mb fa o pm cd doc a vs ns Gr Y ho hd hcd hmg hobj hints hlen hgens => ?_
  have KX := hY w _ Y
  obtain ⟨fd, hb, hF⟩ := F w mg fa _ KX Gr.T.g hmg
  have rv := vals_ints hints
  have hl : ns.length ≤ sizeLine := Nat.le_trans hlen hn2
  have goal := @call_at l.prog w (K w.params) mg mb k n fa a fd x s₁ vs ns KX Gr.T.g Gr.T.b Gr.T.builtins Gr.T.nolimit hgens hobj hlen hr hF hb
  cases hk : (K w.params).lookup a with
  | some o1 =>
    have e := KX a o1 hk
    rw [hobj] at e
    cases e
    refine goal (fun _ => none) (fun _ => Or.inl rfl) (Or.inr ⟨_, vs.toArray, _, hk, rfl, rfl, rfl, ?_, by simpa using rv⟩) (fun b u z => nomatch z) (fun b z => absurd rfl z) fun z => absurd rfl z
    rw [List.size_toArray, hints.length]
    exact hl
  | none =>
    let frozen : HO := .frz { cls := .type "list", data := .seq vs.toArray } (.lst (ns.map V.int))
    have at_a : ∀ b, b = a → (fun b => if b = a then some frozen else none : Hp) b = some frozen := fun b hb => if_pos hb
    have off_a : ∀ b, b ≠ a → (fun b => if b = a then some frozen else none : Hp) b = none := fun b hb => if_neg hb
    refine goal (fun b => if b = a then some frozen else none) (fun b => ?_) (Or.inl (Or.inr ⟨_, at_a a rfl⟩)) (fun b u z => ?_) (fun b z => ?_) fun _ => hk
    · by_cases hb : b = a
      · exact Or.inr ⟨_, _, at_a b hb⟩
      · exact Or.inl (off_a b hb)
    · by_cases hb : b = a
      · rw [at_a b hb] at z
        cases z
        subst hb
        exact ⟨hobj, by rw [List.length_map]; exact hl, vs, _, rv, hobj⟩
      · rw [off_a b hb] at z
        cases z
    · by_cases hb : b = a
      · exact hb
      · exact absurd (off_a b hb) z
end G

set_option Elab.async false
set_option linter.all false
set_option maxRecDepth 100000
set_option maxHeartbeats 4000000
/-! How long a shown text may be; repr of data and of small dicts. -/
namespace G
open PySem PySem.Spec PyProof.Rows L2
/-- a text of Unicode's signs -/
def OkS (x : Str) : Prop := ∀ c ∈ x.cps.toList, c < 1114112
theorem OkS.of (s : String) : OkS (Str.ofString s) := by
  intro c hc
  rw [PyProof.Rows.signs_ofString] at hc
  obtain ⟨d, _, rfl⟩ := List.mem_map.mp hc
  have h := d.valid
  have z : d.toNat = d.val.toNat := rfl
  rw [z]
  rcases h with h | ⟨_, h⟩
  · exact Nat.lt_trans h (by decide)
  · exact h
theorem OkS.app {x y : Str} (a : OkS x) (b : OkS y) : OkS (x ++ y) := by
  intro c hc
  have e : (x ++ y).cps.toList = x.cps.toList ++ y.cps.toList := by
    show (x.cps ++ y.cps).toList = _
    rw [Array.toList_append]
  rw [e] at hc
  rcases List.mem_append.mp hc with h | h
  · exact a c h
  · exact b c h
theorem reprChar_le {q c : Nat} (hc : c < 1114112) : (PySem.Builtin.Str.reprChar q c).length ≤ 10 := by
  have h6 : (Nat.toDigits 16 c).length ≤ 6 := by
    refine (Nat.length_toDigits_le_iff (by decide) (by decide)).mpr ?_
    omega
  unfold PySem.Builtin.Str.reprChar
  simp only []
  have hl : ∀ w : Nat, w ≤ 8 → (List.replicate (w - ((Nat.toDigits 16 c).map Char.toNat).length) 48 ++ (Nat.toDigits 16 c).map Char.toNat).length ≤ 8 := by
    intro w hw
    rw [List.length_append, List.length_replicate, List.length_map]
    omega
  have h2 := hl 2 (by decide)
  have h4 := hl 4 (by decide)
  have h8 := hl 8 (by decide)
  repeat' split
  all_goals first
    | decide
    | (simp only [List.length_cons, List.length_nil]; omega)
    | (rw [List.length_append]; simp only [List.length_cons, List.length_nil]; omega)
theorem reprText_le {x : Str} (h : OkS x) : (reprText x).length ≤ 10 * x.length + 2 := by
  rw [← reprLen_eq, ← Array.foldl_toList]
  have key : ∀ (l : List Nat) (n : Nat), (∀ c ∈ l, c < 1114112) → l.foldl (fun n c => n + (PySem.Builtin.Str.reprChar (reprQuote x) c).length) n ≤ n + 10 * l.length := by
    intro l
    induction l with
    | nil => intro n _; exact Nat.le_refl _
    | cons c r ih =>
      intro n hb
      have h1 := reprChar_le (q := reprQuote x) (hb c (List.mem_cons_self ..))
      have h2 := ih (n + (PySem.Builtin.Str.reprChar (reprQuote x) c).length) fun d hd => hb d (List.mem_cons_of_mem _ hd)
      rw [List.foldl_cons, List.length_cons]
      omega
  have z := key x.cps.toList 2 h
  rw [Array.length_toList] at z
  have e : x.length = x.cps.size := rfl
  omega
mutual
/-- a bound of the shown text -/
def big : PyData → Nat
  | .none => 4
  | .bool _ => 5
  | .int i => (Str.ofString (toString i)).length
  | .str x => 10 * x.length + 2
  | .list xs => bigs xs + 4
  | .tuple xs => bigs xs + 4
  | .dict kvs => bigKv kvs + 4
def bigs : List PyData → Nat
  | [] => 0
  | x :: xs => big x + 2 + bigs xs
def bigKv : List (PyData × PyData) → Nat
  | [] => 0
  | (k, v) :: r => big k + big v + 4 + bigKv r
end
mutual
/-- its texts are of Unicode's signs -/
def OkD : PyData → Prop
  | .none | .bool _ | .int _ => True
  | .str x => OkS x
  | .list xs | .tuple xs => OkDs xs
  | .dict kvs => OkKv kvs
def OkDs : List PyData → Prop
  | [] => True
  | x :: xs => OkD x ∧ OkDs xs
def OkKv : List (PyData × PyData) → Prop
  | [] => True
  | (k, v) :: r => OkD k ∧ OkD v ∧ OkKv r
end
theorem textFrom_le : ∀ (ts : List Str) (k : Nat) (acc : Str), (textFrom k acc ts).length ≤ acc.length + piled ts
  | [], k, acc => by show acc.length ≤ acc.length + piled []; omega
  | t :: r, k, acc => by
    have ih := textFrom_le r (k + 1) (acc ++ (if k > 0 then ", " else "" : String) ++ t)
    show (textFrom (k + 1) (acc ++ (if k > 0 then ", " else "" : String) ++ t) r).length ≤ _
    rw [piled_cons]
    rw [strLen_append, strLen_append] at ih
    have z : (Str.ofString (if k > 0 then ", " else "" : String)).length ≤ 2 := by
      split <;> decide
    omega
theorem join_le (ts : List Str) : (Str.join ", " ts).length ≤ piled ts := by
  by_cases h : ts = []
  · subst h
    exact Nat.zero_le _
  · have := join_length_add ts h
    omega
mutual
theorem shown_le : ∀ d : PyData, OkD d → d.shown.length ≤ big d
  | .none, _ => by
    simp only [PyData.shown, big]
    decide
  | .bool b, _ => by
    simp only [PyData.shown, big]
    cases b <;> decide
  | .int i, _ => by
    simp only [PyData.shown, big]
    exact Nat.le_refl _
  | .str x, h => by
    simp only [PyData.shown, big]
    exact reprText_le (by simpa only [OkD] using h)
  | .list xs, h => by
    simp only [PyData.shown, big]
    have z := shownAll_le xs (by simpa only [OkD] using h)
    have y := textFrom_le (PyData.shownAll xs) 0 "["
    unfold listText
    rw [strLen_append]
    have e1 : ("[" : Str).length = 1 := rfl
    have e2 : ("]" : Str).length = 1 := rfl
    omega
  | .tuple xs, h => by
    simp only [PyData.shown, big]
    have z := shownAll_le xs (by simpa only [OkD] using h)
    have y := join_le (PyData.shownAll xs)
    unfold tupleText
    rw [strLen_append, strLen_append]
    have e1 : ("(" : Str).length = 1 := rfl
    have e2 : (Str.ofString (if (PyData.shownAll xs).length == 1 then ",)" else ")" : String)).length ≤ 2 := by split <;> decide
    omega
  | .dict kvs, h => by
    simp only [PyData.shown, big]
    have z := shownKv_le kvs (by simpa only [OkD] using h)
    have y := join_le (PyData.shownKv kvs)
    unfold dictText
    rw [strLen_append, strLen_append]
    have e1 : ("{" : Str).length = 1 := rfl
    have e2 : ("}" : Str).length = 1 := rfl
    omega
theorem shownAll_le : ∀ ds : List PyData, OkDs ds → piled (PyData.shownAll ds) ≤ bigs ds
  | [], _ => by
    simp only [PyData.shownAll, bigs]
    exact Nat.le_refl _
  | x :: xs, h => by
    simp only [OkDs] at h
    simp only [PyData.shownAll, bigs]
    rw [piled_cons]
    have a := shown_le x h.1
    have b := shownAll_le xs h.2
    omega
theorem shownKv_le : ∀ ds : List (PyData × PyData), OkKv ds → piled (PyData.shownKv ds) ≤ bigKv ds
  | [], _ => by
    simp only [PyData.shownKv, bigKv]
    exact Nat.le_refl _
  | (k, v) :: r, h => by
    simp only [OkKv] at h
    simp only [PyData.shownKv, bigKv]
    rw [piled_cons, strLen_append, strLen_append]
    have a := shown_le k h.1
    have b := shown_le v h.2.1
    have c := shownKv_le r h.2.2
    have e : (": " : Str).length = 2 := rfl
    omega
end
theorem big_int {i : Int} {k : Nat} (hk : 0 < k) (h : i.natAbs < 10 ^ k) : big (.int i) ≤ k + 1 := by
  show (Str.ofString (toString i)).length ≤ k + 1
  rw [PySem.ofString_length]
  exact int_text_length_le10 hk h
end G

set_option Elab.async false
set_option linter.all false
set_option maxRecDepth 100000
set_option maxHeartbeats 4000000
/-! Data kept; repr of it; calls of defs whose promise asks that no guard stands around. -/
namespace G
open PySem PySem.Spec PyProof.Rows L2
theorem Kp.sqt {K : PySem.W.Frag} {S : List Addr} {a : Addr} {H H' : Hp} {xs : List V} (k : Kp S H H') (d : a ∉ S) (h : SqT K H a xs) : SqT K H' a xs := by
  rcases h with (h | ⟨o, h⟩) | h
  · exact .inl (.inl (k _ _ d h))
  · exact .inl (.inr ⟨o, k _ _ d h⟩)
  · exact .inr h
theorem Same.sqt {K : PySem.W.Frag} {a : Addr} {H H' : Hp} {xs : List V} (k : Same H H') (h : SqT K H a xs) : SqT K H' a xs := (Kp.same (S := []) k).sqt (fun z => nomatch z) h
mutual
theorem Dp.keep {K : PySem.W.Frag} {H H' : Hp} (k : Same H H') : ∀ (d : PyData) (v : V), Dp K H v d → Dp K H' v d
  | .none, _, h => by cases h; exact .non
  | .bool b, _, h => by cases h; exact .bl b
  | .int i, _, h => by cases h; exact .int i
  | .str x, _, h => by cases h; exact .str x
  | .list ds, _, h => by
    cases h with
    | lst h1 h2 => exact .lst (k.seq h1) (Dp.keeps k ds _ h2)
  | .tuple ds, _, h => by
    cases h with
    | tup h1 h2 => exact .tup (Same.sqt k h1) (Dp.keeps k ds _ h2)
  | .dict _, _, h => nomatch h
theorem Dp.keeps {K : PySem.W.Frag} {H H' : Hp} (k : Same H H') : ∀ (ds : List PyData) (vs : List V), DpAll K H vs ds → DpAll K H' vs ds
  | [], _, h => by cases h; exact .nil
  | d :: ds, _, h => by
    cases h with
    | cons h1 h2 => exact .cons (Dp.keep k d _ h1) (Dp.keeps k ds _ h2)
end
/-- what v shows when it is printed: data, or a small dict -/
def Shows (K : PySem.W.Frag) (H : Hp) (v : V) (d : PyData) : Prop := (Dp K H v d ∧ d.hasDict = false) ∨ (∃ a, v = .ref a ∧ H a = some (.dK []) ∧ d = .dict []) ∨
  ∃ (a : Addr) (x : Str) (i : Int), v = .ref a ∧ H a = some (.dK [(.inr x, .int i)]) ∧ d = .dict [(.str x, .int i)]
theorem Shows.keep {K : PySem.W.Frag} {H H' : Hp} {v : V} {d : PyData} (h : Shows K H v d) (k : Same H H') : Shows K H' v d := by
  rcases h with ⟨h, n⟩ | ⟨a, e, h, n⟩ | ⟨a, x, i, e, h, n⟩
  · exact .inl ⟨Dp.keep k d v h, n⟩
  · exact .inr (.inl ⟨a, e, k _ _ h, n⟩)
  · exact .inr (.inr ⟨a, x, i, e, k _ _ h, n⟩)
def rShow (K : PySem.W.Frag) : List V → Hp → VK → Prop := fun vs H Q => ∃ (v : V) (d : PyData), vs = [v] ∧ Shows K H v d ∧ d.showable = true ∧ OkD d ∧ d.depth ≤ 100 ∧ big d ≤ 1000000 ∧ Q (.str d.shown) H
theorem call_show {X : Cx} (hg : X.A.guards = some []) (hu : X.A.units + 101 < cLine) : CallR X (.builtin "repr") (rShow X.K) := by
  intro pins s σ H vs us Q I r h
  obtain ⟨v, d, rfl, hd, hs, ok, hdep, hb, q⟩ := h
  have hz : d.shown.length ≤ sizeLine := Nat.le_trans (shown_le d ok) (by rw [sizeLine_eq]; omega)
  have dict : ∀ (a : Addr) (kvs : List (Key × V)) (ds : List (PyData × PyData)), v = .ref a → H a = some (.dK kvs) → d = .dict ds →
      (∀ vs es, KV kvs vs → Pairs (mixKind X.prog X.w) es vs → ∃ as bs, ReadsAll s.heap (es.map (·.key)) (ds.map (·.1)) as ∧ ReadsAll s.heap (es.map (·.val)) (ds.map (·.2)) bs ∧ as = [] ∧ bs = []) →
      wpAny (model X.prog X.w) X.A (call (.builtin "repr") us) (EP X pins σ Q) X.xe s := by
    rintro a kvs ds rfl ha rfl hall
    obtain ⟨u, rfl, rv⟩ := vals1 r
    obtain rfl : u = Value.ref a := rv
    obtain ⟨_, hsm, ws, hkv, o, es, ep, ho, hex, hdt, _, hp, _⟩ := (show ObjOk X.prog X.w H s.heap a (.dK kvs) from I.hok a _ ha)
    obtain ⟨as, bs, r1, r2, e1, e2⟩ := hall ws es.toList hkv hp
    subst e1 e2
    refine repr_of_reads' (Reads.dict ho hex.1 hdt r1 r2) hs (fun _ hm => ?_) hg (by omega) (fun _ _ e => e) (fun h' t tk hk => ⟨.str _, H, I.kept hk, ⟨_, rfl⟩, q⟩) hz
    rw [List.append_nil, List.mem_singleton] at hm
    rw [hm] at hsm
    simp at hsm
  rcases hd with ⟨hd, hn⟩ | ⟨a, ev, ha, ed⟩ | ⟨a, x, i, ev, ha, ed⟩
  · exact call_reprD hg hu pins s σ H _ us Q I r ⟨v, d, rfl, hd, hs, hn, hdep, hz, q⟩
  · refine dict a [] [] ev ha ed fun vs es hkv hp => ?_
    cases hkv
    cases hp
    exact ⟨[], [], .nil, .nil, rfl, rfl⟩
  · refine dict a _ _ ev ha ed fun vs es hkv hp => ?_
    cases hkv with
    | @cons _ b _ l2 h1 h2 =>
      cases h2
      obtain ⟨k1, v1⟩ := b
      obtain ⟨e1, e2⟩ := h1
      obtain ⟨t, e2⟩ := e2
      dsimp only at e1 e2
      subst e1 e2
      cases hp with
      | @cons e kv es kvs h3 h4 h5 =>
        cases h5
        rcases keyIs_shape (k := Sum.inr x) (v := e.key) h3 with ⟨j, t2, z, _⟩ | ⟨y, t2, z, e3⟩
        · cases z
        cases z
        refine ⟨[], [], ?_, ?_, rfl, rfl⟩
        · show ReadsAll s.heap [e.key] [.str x] []
          rw [e3]
          exact .cons (as := []) (bs := []) (.str x t2) .nil
        · show ReadsAll s.heap [e.val] [.int i] []
          rw [h4]
          exact .cons (as := []) (bs := []) (.int i t) .nil
/-! ### calls where no guard stands around -/
def tCallG (sp : Sp) (t : TA) : TE := fun σ H Q => t σ H fun vs H1 => sp vs H1 Q E0
section
variable {X : Cx} {k : Nat} {f : Addr} {fd : FuncData} {ps : List Str} {sp : Sp} {x : Str} {p pos : Pos} {e : Expr} {es : List Expr} {t : TA}
theorem run_G {pins : List (Addr × Obj)} {σ : L2.St} {H : Hp} {s : Shared} {Q : VK} {us : List Value} {vs : List V} (F : FnOkG X.prog X.w X.K X.mg X.base k f fd ps sp) (gu : X.A.guards = some []) (hr : Room k X.A) (hb : Binds X.K fd ps [])
    (I : Inv X pins σ H s) (r : Vals vs us) (h : sp vs H Q E0) : wpAny (model X.prog X.w) X.A (call (.ref f) us) (EP X pins σ Q) X.xe s := by
  have hl : us.length = ps.length := r.length.symm.trans (F.len _ _ _ _ h)
  have b := hb s us I.kIn (by rw [List.append_nil]; exact hl)
  rw [List.append_nil] at b
  refine wpAny_call (codeAny_mono (F.run X.A X.stack s H ⟨us, []⟩ us vs Q E0 gu hr I.env0 b r h) fun r s' hq => ?_)
  match r, hq with
  | .error e, hq => exact False.elim hq
  | .ok (.ret u), hq => exact I.after hq
  | .ok .next, hq => exact False.elim hq
  | .ok .brk, hq => exact False.elim hq
  | .ok .cont, hq => exact False.elim hq
theorem pe_callG (F : FnOkG X.prog X.w X.K X.mg X.base k f fd ps sp) (gu : X.A.guards = some []) (hr : Room k X.A) (hg : Gl X x) (hm : X.mg x = some (.ref f)) (hk : PySem.W.keepIn X.K (.ref f) = true) (hb : Binds X.K fd ps [])
    (ha : PA X (e :: es) t) (hdb : (x == ("__debug__" : Str)) = false := by decide) (he : starEach (e :: es) X.env = (false, eval e X.env) :: starEach es X.env := by rfl) (hpl : (backTo pos (starEach es X.env)).any (·.1) = false := by rfl) :
    PE X (.Call (.Name x p) (e :: es) [] pos) (tCallG sp t) := by
  refine ⟨fun pins s σ H Q I h => wpAny_Call_Name_kw (ld_glob I hg hm ?_ hdb)⟩
  exact PySem.W.callWith_K (h₀ := X.base) I.ok.mod.kin hk (thn (ha.run pos pins s σ H _ I h) fun us s1 ⟨vs, H1, I1, r, q⟩ => ⟨I1.kIn, run_G F gu hr hb I1 r q⟩) he hpl
end
end G

set_option Elab.async false
set_option linter.all false
set_option maxRecDepth 100000
set_option maxHeartbeats 4000000
/-! What is printed is of Unicode's signs, too. -/
namespace G
open PySem PySem.Spec PyProof.Rows L2
theorem char_lt (d : Char) : d.toNat < 1114112 := by
  have h := d.valid
  have z : d.toNat = d.val.toNat := rfl
  rw [z]
  rcases h with h | ⟨_, h⟩
  · exact Nat.lt_trans h (by decide)
  · exact h
theorem reprChar_ok {q c x : Nat} (hq : q < 1114112) (hc : c < 1114112) (h : x ∈ PySem.Builtin.Str.reprChar q c) : x < 1114112 := by
  have hex : ∀ w : Nat, x ∈ List.replicate (w - ((Nat.toDigits 16 c).map Char.toNat).length) 48 ++ (Nat.toDigits 16 c).map Char.toNat → x < 1114112 := by
    intro w hw
    rcases List.mem_append.mp hw with hw | hw
    · rw [(List.mem_replicate.mp hw).2]
      decide
    · obtain ⟨d, _, rfl⟩ := List.mem_map.mp hw
      exact char_lt d
  unfold PySem.Builtin.Str.reprChar at h
  simp only [] at h
  have two : ∀ a b : Nat, a < 1114112 → b < 1114112 → x ∈ [a, b] → x < 1114112 := by
    intro a b ha hb hm
    simp only [List.mem_cons, List.not_mem_nil, or_false] at hm
    rcases hm with rfl | rfl <;> assumption
  split at h
  · exact two _ _ (by decide) hc h
  split at h
  · exact two _ _ (by decide) (by decide) h
  split at h
  · exact two _ _ (by decide) (by decide) h
  split at h
  · exact two _ _ (by decide) (by decide) h
  split at h
  · rw [List.mem_singleton.mp h]
    exact hc
  split at h
  · rcases List.mem_append.mp h with h | h
    · exact two _ _ (by decide) (by decide) h
    · exact hex _ h
  split at h
  · rcases List.mem_append.mp h with h | h
    · exact two _ _ (by decide) (by decide) h
    · exact hex _ h
  · rcases List.mem_append.mp h with h | h
    · exact two _ _ (by decide) (by decide) h
    · exact hex _ h
theorem reprQuote_lt (x : Str) : reprQuote x < 1114112 := by
  unfold reprQuote
  split <;> decide
theorem reprText_ok {x : Str} (h : OkS x) : OkS (reprText x) := by
  have key : ∀ (l : List Nat) (acc : Array Nat), (∀ c ∈ l, c < 1114112) → (∀ c ∈ acc.toList, c < 1114112) →
      ∀ c ∈ (l.foldl (fun out c => out ++ (PySem.Builtin.Str.reprChar (reprQuote x) c).toArray) acc).toList, c < 1114112 := by
    intro l
    induction l with
    | nil => intro acc _ ha; exact ha
    | cons c r ih =>
      intro acc hl ha
      refine ih _ (fun d hd => hl d (List.mem_cons_of_mem _ hd)) fun d hd => ?_
      rw [Array.toList_append] at hd
      rcases List.mem_append.mp hd with hd | hd
      · exact ha d hd
      · exact reprChar_ok (reprQuote_lt x) (hl c (List.mem_cons_self ..)) (by simpa using hd)
  intro c hc
  unfold reprText at hc
  dsimp only at hc
  rw [Array.toList_push, ← Array.foldl_toList] at hc
  rcases List.mem_append.mp hc with hc | hc
  · exact key x.cps.toList #[reprQuote x] h (fun d hd => by
      have e : d = reprQuote x := by simpa using hd
      rw [e]
      exact reprQuote_lt x) c hc
  · rw [List.mem_singleton.mp hc]
    exact reprQuote_lt x
theorem textFrom_ok : ∀ (ts : List Str) (k : Nat) (acc : Str), OkS acc → (∀ t ∈ ts, OkS t) → OkS (textFrom k acc ts)
  | [], k, acc, h, _ => h
  | t :: r, k, acc, h, hr => textFrom_ok r (k + 1) _ ((h.app (OkS.of _)).app (hr t (List.mem_cons_self ..))) fun u hu => hr u (List.mem_cons_of_mem _ hu)
theorem join_ok : ∀ (ts : List Str), (∀ t ∈ ts, OkS t) → OkS (Str.join ", " ts)
  | [], _ => OkS.of ""
  | [x], h => h x (List.mem_cons_self ..)
  | x :: y :: r, h => ((h x (List.mem_cons_self ..)).app (OkS.of ", ")).app (join_ok (y :: r) fun u hu => h u (List.mem_cons_of_mem _ hu))
mutual
theorem shown_ok : ∀ d : PyData, OkD d → OkS d.shown
  | .none, _ => by
    simp only [PyData.shown]
    exact OkS.of _
  | .bool b, _ => by
    simp only [PyData.shown]
    cases b <;> exact OkS.of _
  | .int i, _ => by
    simp only [PyData.shown]
    exact OkS.of _
  | .str x, h => by
    simp only [PyData.shown]
    exact reprText_ok (by simpa only [OkD] using h)
  | .list xs, h => by
    simp only [PyData.shown]
    exact (textFrom_ok _ _ _ (OkS.of _) (shownAll_ok xs (by simpa only [OkD] using h))).app (OkS.of _)
  | .tuple xs, h => by
    simp only [PyData.shown]
    exact ((OkS.of _).app (join_ok _ (shownAll_ok xs (by simpa only [OkD] using h)))).app (OkS.of _)
  | .dict kvs, h => by
    simp only [PyData.shown]
    exact ((OkS.of _).app (join_ok _ (shownKv_ok kvs (by simpa only [OkD] using h)))).app (OkS.of _)
theorem shownAll_ok : ∀ ds : List PyData, OkDs ds → ∀ t ∈ PyData.shownAll ds, OkS t
  | [], _, t, h => by simp [PyData.shownAll] at h
  | x :: xs, h, t, ht => by
    simp only [OkDs] at h
    simp only [PyData.shownAll, List.mem_cons] at ht
    rcases ht with rfl | ht
    · exact shown_ok x h.1
    · exact shownAll_ok xs h.2 t ht
theorem shownKv_ok : ∀ ds : List (PyData × PyData), OkKv ds → ∀ t ∈ PyData.shownKv ds, OkS t
  | [], _, t, h => by simp [PyData.shownKv] at h
  | (k, v) :: r, h, t, ht => by
    simp only [OkKv] at h
    simp only [PyData.shownKv, List.mem_cons] at ht
    rcases ht with rfl | ht
    · exact ((shown_ok k h.1).app (OkS.of _)).app (shown_ok v h.2.1)
    · exact shownKv_ok r h.2.2 t ht
end
theorem OkS.ok {x : Str} (h : OkS x) : PyData.strOk x = true := by
  unfold PyData.strOk
  rw [← Array.all_toList, List.all_eq_true]
  intro c hc
  exact decide_eq_true (h c hc)
end G

set_option Elab.async false
set_option linter.all false
set_option maxRecDepth 100000
set_option maxHeartbeats 4000000
/-! Errors as values: made, their fields read, asked by isinstance. -/
namespace G
open PySem PySem.Spec PyProof.Rows L2
/-- the error at a, of the class at C, with these fields -/
def Er (H : Hp) (a C : Addr) (fs : List (Str × V)) : Prop := (H a = some (exo a C none) ∧ fs = []) ∨ ∃ dx, H a = some (exo a C (some dx)) ∧ H dx = some (exd dx fs)
theorem Er.same {H H' : Hp} {a C : Addr} {fs : List (Str × V)} (e : Er H a C fs) (s : Same H H') : Er H' a C fs := by
  rcases e with ⟨h, f⟩ | ⟨dx, h, f⟩
  · exact .inl ⟨s _ _ h, f⟩
  · exact .inr ⟨dx, s _ _ h, s _ _ f⟩
/-- what a class of errors must say, by one test -/
def ecB (K : PySem.W.Frag) (C : Addr) : Bool :=
  PySem.W.findIn K (.ref C) "__setattr__" == some (some (.builtin "object.__setattr__")) && PySem.W.hasDictIn K C &&
  PySem.W.findIn K (.ref C) "__getattribute__" == some (some (.builtin "BaseException.__getattribute__")) && PySem.W.findIn K (.ref C) "__getattr__" == some none &&
  PySem.W.subIn K (.ref C) (.type "BaseException") == some true && PySem.W.findIn K (.ref C) "__class__" == some (some (.builtin "object.__class__")) &&
  PySem.W.mroIn K C (.type "object") == some true && PySem.W.keepIn K (.ref C) &&
  PySem.W.specialIn K (.builtin "object.__class__") "__get__" == some (some (.builtin "getset_descriptor.__get__")) && PySem.W.takesIn K (.builtin "object.__class__") == some true
structure EC (K : PySem.W.Frag) (C : Addr) : Prop where
  sa : PySem.W.findIn K (.ref C) "__setattr__" = some (some (.builtin "object.__setattr__"))
  hd : PySem.W.hasDictIn K C = true
  ga : PySem.W.findIn K (.ref C) "__getattribute__" = some (some (.builtin "BaseException.__getattribute__"))
  gt : PySem.W.findIn K (.ref C) "__getattr__" = some none
  sb : PySem.W.subIn K (.ref C) (.type "BaseException") = some true
  ca : PySem.W.findIn K (.ref C) "__class__" = some (some (.builtin "object.__class__"))
  mo : PySem.W.mroIn K C (.type "object") = some true
  kp : PySem.W.keepIn K (.ref C) = true
  cg : PySem.W.specialIn K (.builtin "object.__class__") "__get__" = some (some (.builtin "getset_descriptor.__get__"))
  ct : PySem.W.takesIn K (.builtin "object.__class__") = some true
theorem EC.of {K : PySem.W.Frag} {C : Addr} (h : ecB K C = true) : EC K C := by
  unfold ecB at h
  simp only [Bool.and_eq_true, beq_iff_eq] at h
  obtain ⟨⟨⟨⟨⟨⟨⟨⟨⟨a, b⟩, c⟩, d⟩, e⟩, f⟩, g⟩, i⟩, j⟩, k⟩ := h
  exact ⟨a, b, c, d, e, f, g, i, j, k⟩
theorem EC.cl {K : PySem.W.Frag} {C : Addr} (h : EC K C) : (PySem.W.clsIn K C).isSome = true := by
  obtain ⟨cd, hc, _⟩ := PySem.W.any_some h.hd
  rw [hc]
  rfl
/-- a built-in base: its facts for making, and for a field's store -/
structure BaseF (B newId initId : String) (bm : List Value) : Prop where
  ba : ExcBaseFacts B newId initId bm
  st : StoreFacts B bm "object.__setattr__" "object"
theorem baseVE : BaseF "ValueError" "ValueError.__new__" "ValueError.__init__" [.type "ValueError", .type "Exception", .type "BaseException", .type "object"] := ⟨F.excBase_ValueError, F.store_ValueError⟩
theorem baseLE : BaseF "LookupError" "LookupError.__new__" "LookupError.__init__" [.type "LookupError", .type "Exception", .type "BaseException", .type "object"] := ⟨F.excBase_LookupError, F.store_LookupError⟩
theorem baseEx : BaseF "Exception" "Exception.__new__" "Exception.__init__" [.type "Exception", .type "BaseException", .type "object"] := ⟨F.excBase_Exception, F.store_Exception⟩

/-! ### a field's store -/
section
variable {prog : Program} {w : World} {A : Around} {R : Result → Shared → Prop} {hp : Heap} {g : Array GenState} {d : Drawn} {t : Nat} {os : OsState}
/-- the first field of an error: its dict is made -/
theorem osa_first {B : String} {bm : List Value} {K : PySem.W.Frag} {name : Str} {tk : Tok} {v : Value} {x C t1 : Addr} (SF : StoreFacts B bm "object.__setattr__" "object") (X : K.In hp) (hx : hp.get? x = some (PySem.HandSPX.excO C t1))
    (ov : PySem.W.excOver K C bm = true) (ht : PySem.W.takerIn K C name = some none) (hh : PySem.W.hasDictIn K C = true)
    (hq : ∀ h' tk' dx, (∀ b o, b ≠ x → hp.get? b = some o → h'.get? b = some o) → hp.objs.size ≤ dx → dx ≠ x → h'.get? x = some { PySem.HandSPX.excO C t1 with dict := some dx } →
      h'.Ns1 dx (fun y => if y = name then some v else none) → R (.ok (.ret .none)) ⟨h', g, d, tk', os⟩) :
    codeAny (model prog w) A (.call (.builtin "object.__setattr__") ⟨[.ref x, .str name tk, v], []⟩) R ⟨hp, g, d, t, os⟩ := by
  have ne : x ≠ hp.objs.size := Nat.ne_of_lt (Heap.lt_size hx)
  refine PySem.W.osa_openX (od := none) (s := ⟨hp, g, d, t, os⟩) SF X ⟨hx, rfl, rfl, trivial⟩ ov ht fun b => ?_
  obtain ⟨cd, hc, hd'⟩ := PySem.W.any_some hh
  have L := PySem.W.looks_clsIn (M := model prog w) X hc
  refine wpAny_bind (wpAny_pure (wpAny_bind (PySem.W.instanceDict_exc (s := ⟨hp, g, d, t, os⟩) hx L hd' ?_)))
  refine PySem.HandSPX.store_in_new ?_ fun h' tk' hn hs => ?_
  · exact ⟨_, #[], _, (Heap.get?_update_ne _ _ _ _ ne.symm).trans (Heap.get?_push_at rfl rfl), rfl, fun e he => absurd he (by simp), fun _ => rfl⟩
  · have hx1 : (hp.push (PySem.W.dictOf [] 0)).get? x = some (PySem.HandSPX.excO C t1) := Heap.get?_push_of_some _ hx
    refine hq h' tk' hp.objs.size (fun b o hb ho => ?_) (Nat.le_refl _) ne.symm ?_ hn
    · refine (hs.2 b (Nat.ne_of_lt (Heap.lt_size ho))).trans ?_
      exact (Heap.get?_update_ne _ _ _ _ hb).trans (Heap.get?_push_of_some _ ho)
    · exact (hs.2 x ne).trans (Heap.get?_update_self _ hx1 rfl)
end
/-- at the class C a field may be stored on an error without a dict -/
structure ES (K : PySem.W.Frag) (C : Addr) (f : Str) : Prop where
  b : ∃ B newId initId bm, BaseF B newId initId bm ∧ PySem.W.excOver K C bm = true
  c : EC K C
  t : PySem.W.takerIn K C f = some none
section
variable {X : Cx} {pins : List (Addr × Obj)} {σ : L2.St} {H : Hp} {s : Shared} {a C : Addr} {f : Str} {y : V} {u : Value} {Q : Unit → Shared → Prop} {E : Value → Shared → Prop} {A : Around}
theorem os_first (T : ES X.K C f) (I : Inv X pins σ H s) (e : H a = some (exo a C none)) (ry : RelV y u)
    (h : ∀ dx s', H dx = none → dx ≠ a → Inv X pins σ (upd (upd H dx (exd dx [(f, y)])) a (exo a C (some dx))) s' → Q () s') : wpAny (model X.prog X.w) A (setAttr (.ref a) f u) Q E s := by
  obtain ⟨B, _, _, bm, BF, ov⟩ := T.b
  obtain ⟨t1, ho⟩ := exo_at I.hok e
  obtain ⟨hp, g, d, t, os⟩ := s
  refine PySem.W.set_plain I.kIn (ox := PySem.HandSPX.excO C t1) (od := none) ⟨ho, rfl, rfl, trivial⟩ T.c.sa ?_
  refine osa_first BF.st I.kIn ho ov T.t T.c.hd fun h' tk' dx k dn dne hx hn => ?_
  have nH : H dx = none := I.hok.fresh dn
  have old : ∀ {b : Addr} {o : Obj}, hp.get? b = some o → b ≠ dx := fun q z => Nat.lt_irrefl _ (Nat.lt_of_lt_of_le (z ▸ Heap.lt_size q) dn)
  have una : ∀ {b : Addr}, H b = none → b ≠ a := fun n z => by rw [z, e] at n; cases n
  have same : ∀ {b : Addr}, b ≠ a → b ≠ dx → upd (upd H dx (exd dx [(f, y)])) a (exo a C (some dx)) b = H b := fun h1 h2 => by rw [upd_ne h1, upd_ne h2]
  have U : Un X.fs [] H (upd (upd H dx (exd dx [(f, y)])) a (exo a C (some dx))) hp h' :=
    { keep := fun b o q n _ _ => k b o (una n) q
      slot := fun b o q n _ _ => ⟨_, k b o (una n) q⟩
      free := fun b o q n _ => (same (una n) (old q)).trans n
      there := fun b o q _ => if hb : b = a then ⟨_, hb ▸ hx⟩ else ⟨o, k b o hb q⟩
      tups := fun b xs q => (same (at_ne e q exo_tup) (ne_of_none q nH)).trans q
      frzs := fun b o v q => (same (at_ne e q exo_frz) (ne_of_none q nH)).trans q
      tbls := fun b ps q => ⟨#[], by rw [same (at_ne e q exo_tbl) (ne_of_none q nH), q]; simp⟩ }
  refine h dx _ nH dne (I.un (t' := tk') U fun b o q => ?_)
  by_cases hb : b = a
  · subst hb
    rw [upd_same] at q
    cases q
    exact exo_ok hx
  by_cases hd : b = dx
  · subst hd
    rw [upd_ne hb, upd_same] at q
    cases q
    exact exd_ok hn (relO_put (fs := []) ry fun _ => True.intro)
  rw [same hb hd] at q
  refine (I.hok b o q).stay (fun c v hc z => k c v ?_ z) (fun c hc => (same (at_ne e hc exo_own) (ne_of_none hc nH)).trans hc) fun c xs hc => (same (at_ne e hc exo_tup) (ne_of_none hc nH)).trans hc
  rcases hc with rfl | hc
  · exact hb
  · exact at_ne e hc exo_own
end
/-- o.f = e, o an error without fields -/
def tOs1 (K : PySem.W.Frag) (f : Str) (to te : TE) : TS := fun D σ H => te σ H fun y H1 => to σ H1 fun x H2 => ∃ a C : Addr, x = .ref a ∧ ES K C f ∧ H2 a = some (exo a C none) ∧ ∀ dx, H2 dx = none → dx ≠ a → D.nx σ (upd (upd H2 dx (exd dx [(f, y)])) a (exo a C (some dx)))
section
variable {X : Cx} {o e : Expr} {es : List Expr} {to te : TE} {ta : TA} {f : Str} {p p' pos : Pos}
theorem ps_os1 (ho : PE X o to) (he : PE X e te) (hs : swapsWith e (some (.Attribute o f p')) pos.line X.env = pure false := by rfl) : PS X (.Assign [.Attribute o f p'] e pos) (tOs1 X.K f to te) := by
  refine ⟨fun pins s σ H D I h => plainObj_wpAny_Assign_Attribute (thn (he.run pins s σ H _ I h) fun v s1 ⟨y, H1, I1, r1, q1⟩ => thn (ho.run pins s1 σ H1 _ I1 q1) fun u s2 ⟨x, H2, I2, r2, a, C, ex, T, ea, q⟩ => ?_) hs⟩
  subst ex
  obtain rfl : u = Value.ref a := r2
  exact os_first T I2 ea r1 fun dx s' n ne J => ⟨σ, _, J, q dx n ne⟩
/-! ### C(e, ..) -/
/-- the class is one with an own __init__ at fI -/
structure EM (K : PySem.W.Frag) (C fI : Addr) : Prop where
  b : ∃ B newId initId bm, BaseF B newId initId bm ∧ PySem.W.excInitIn K C bm newId = true
  kp : PySem.W.keepIn K (.ref C) = true
  i : PySem.W.findIn K (.ref C) "__init__" = some (some (.ref fI))
  t : PySem.W.typeIn K (.ref fI) = some (.type "function")
def tMkE (C : Addr) (sp : Sp) (ta : TA) : TE := fun σ H Q => ta σ H fun vs H1 => vs.length ≤ 1000 ∧ ∀ a, H1 a = none → sp (.ref a :: vs) (upd H1 a (exo a C none)) (fun v H2 => v = .non ∧ Q (.ref a) H2) (fun _ _ _ => False)
theorem pe_mkE {CX : CXT} {x : Str} {C fI : Addr} {k : Nat} {fd : FuncData} {ps : List Str} {sp : Sp} (M : EM X.K C fI) (F1 : FnOk X.prog X.w X.K X.mg X.base CX k fI fd ps sp) (hr : Room (k + 1) X.A) (hb : Binds X.K fd ps []) (hx : Passes CX X (fun _ _ _ => False))
    (hg : Gl X x) (hm : X.mg x = some (.ref C)) (ha : PA X (e :: es) ta)
    (hdb : (x == ("__debug__" : Str)) = false := by decide) (he : starEach (e :: es) X.env = (false, eval e X.env) :: starEach es X.env := by rfl) (hpl : (backTo pos (starEach es X.env)).any (·.1) = false := by rfl) :
    PE X (.Call (.Name x p) (e :: es) [] pos) (tMkE C sp ta) := by
  refine ⟨fun pins s σ H Q I h => ?_⟩
  obtain ⟨B, newId, initId, bm, BF, q⟩ := M.b
  refine wpAny_Call_Name_kw (ld_glob I hg hm ?_ hdb)
  refine PySem.W.callWith_K (h₀ := X.base) I.ok.mod.kin M.kp (thn (ha.run pos pins s σ H _ I h) fun us s1 ⟨vs, H1, I1, r1, hz, q1⟩ => ⟨I1.kIn, ?_⟩) he hpl
  obtain ⟨nm, N, qn, bs, bm', hdct, sn, sub, ab, col, dd, k0, k1, k2, k3, k5, hC, hT⟩ := PySem.W.excInit_of I1.kIn q
  obtain ⟨hp, g, dr, tk, os⟩ := s1
  have hsz : hp.objs.size ≤ hp.objs.size + 1 := Nat.le_succ _
  have hq := q1 (hp.objs.size + 1) (I1.hok.fresh hsz)
  have I2 : Inv X pins σ (upd H1 (hp.objs.size + 1) (exo (hp.objs.size + 1) C none)) ⟨(hp.push (PySem.W.kdv_tup us)).push (PySem.HandSPX.excO C hp.objs.size), g, dr, tk, os⟩ :=
    I1.laid (t' := tk) (a := hp.objs.size + 1) (fun b o z => Heap.get?_push_of_some _ (Heap.get?_push_of_some _ z)) hsz (exo_ok (by heap_get))
  have r2 : Vals (V.ref (hp.objs.size + 1) :: vs) (Value.ref (hp.objs.size + 1) :: us) := .cons rfl r1
  have hl : (Value.ref (hp.objs.size + 1) :: us).length = ps.length := r2.length.symm.trans (F1.len _ _ _ _ hq)
  have hus : us.length ≤ sizeLine := by rw [← r1.length]; exact line1000 hz
  have hbb := hb _ (Value.ref (hp.objs.size + 1) :: us) I2.kIn (by rw [List.append_nil]; exact hl)
  rw [List.append_nil] at hbb
  show wpAny _ _ (call (.ref C) us) _ _ _
  refine wpAny_call (PySem.HandSPX.call_own BF.ba hT hC (PySem.W.looks_findIn I1.kIn M.i) (fun self => PySem.W.bind_fn I1.kIn self M.t) hus
    (codeAny_mono (F1.run _ X.stack _ _ ⟨Value.ref (hp.objs.size + 1) :: us, []⟩ (Value.ref (hp.objs.size + 1) :: us) _ _ (fun _ _ _ => False) (hr.make C us []) (I2.env0.make C us []) hbb r2 hq) fun r s' hq' => ?_))
  match r, hq' with
  | .error er, hq' => exact hx pins σ _ _ er s' I2 hq'
  | .ok (.ret u), hq' =>
    obtain ⟨v, H', I3, rv, ev, q3⟩ := I2.after hq'
    subst ev
    exact ⟨rv, V.ref (hp.objs.size + 1), H', I3, rfl, q3⟩
  | .ok .next, hq' => exact False.elim hq'
  | .ok .brk, hq' => exact False.elim hq'
  | .ok .cont, hq' => exact False.elim hq'
/-- C(), a class without an own __init__ -/
theorem pe_mkE0 {x : Str} {C : Addr} {B newId initId : String} {bm : List Value} (BF : BaseF B newId initId bm) (q : PySem.W.excIn X.K C bm newId = true) (kC : PySem.W.keepIn X.K (.ref C) = true) (hg : Gl X x) (hm : X.mg x = some (.ref C)) (hdb : (x == ("__debug__" : Str)) = false := by decide) :
    PE X (.Call (.Name x p) [] [] pos) (fun _ H Q => ∀ a, H a = none → Q (.ref a) (upd H a (exo a C none))) := by
  refine ⟨fun pins s σ H Q I h => wpAny_Call_Name_kw (ld_glob I hg hm ?_ hdb)⟩
  refine PySem.W.callWith_K0 I.kIn kC ?_
  obtain ⟨bm', N, nm, qn, bs, hdct, sn, sub, ab, col, dd, k0, k1, k2, k3, k5, mN, hC, hN, hni, T⟩ := exc_obj I.kIn q
  obtain ⟨hp, g, dr, tk, os⟩ := s
  refine wpAny_call_exc_subT BF.ba T hC hN hni (fun h' a hm => ?_) (Nat.zero_le _)
  obtain ⟨t1, ht, _, _⟩ := hm.there
  have hn : H a = none := I.hok.gone hm.new
  exact ⟨.ref a, upd H a (exo a C none), I.laidN hm.keeps hm.new hn (exo_ok ht), rfl, h a hn⟩
/-! ### a field of an error -/
def tErF (K : PySem.W.Frag) (f : Str) (to : TE) : TE := fun σ H Q => to σ H fun x H1 => ∃ (a C : Addr) (fs : List (Str × V)) (v : V), x = .ref a ∧ Er H1 a C fs ∧ EC K C ∧ PySem.W.findIn K (.ref C) f = some none ∧ fs.lookup f = some v ∧ Q v H1
theorem pe_erF (ho : PE X o to) (hb : attributeBase o f X.env (eval o X.env) = eval o X.env := by rfl) : PE X (.Attribute o f pos) (tErF X.K f to) := by
  refine ⟨fun pins s σ H Q I h => attr_of hb (thn (ho.run pins s σ H _ I h) fun u s1 ⟨x, H1, I1, rx, a, C, fs, v, ex, er, c, hno, hl, q⟩ => ?_)⟩
  subst ex
  obtain rfl : u = Value.ref a := rx
  rcases er with ⟨_, z⟩ | ⟨dx, ea, ed⟩
  · subst z
    cases hl
  obtain ⟨t1, ho1⟩ := exo_at I1.hok ea
  obtain ⟨mA, hns, rel⟩ := exd_at I1.hok ed
  obtain ⟨od, hod, hl2⟩ := lookIn_ns hns
  obtain ⟨u, hu, ru⟩ := RelO.some_of (v := v) (o := mA f) (by rw [← hl]; exact rel f)
  exact PySem.HandSPX.exc_get I1.kIn (od := some od) ⟨ho1, rfl, rfl, hod⟩ c.ga c.gt c.sb (PySem.W.findObj_own c.hd hno rfl (by rw [hl2, hu])) (handed_of ru) ⟨v, H1, I1.tok _, ru, q⟩
/-! ### isinstance of an error -/
def rIsEr (K : PySem.W.Frag) : List V → Hp → VK → Prop := fun vs H Q => ∃ (a C : Addr) (fs : List (Str × V)) (c : V) (cv : Value) (b : Bool), vs = [.ref a, c] ∧ Er H a C fs ∧ EC K C ∧ ClsV c cv ∧ PySem.W.kitOne K (.ref C) cv = some b ∧ Q (.bl b) H
theorem call_isEr : CallR X (.builtin "isinstance") (rIsEr X.K) := by
  intro pins s σ H vs us Q I r h
  obtain ⟨a, C, fs, c, cv, b, rfl, er, ec, hc, e, q⟩ := h
  obtain ⟨u1, u2, rfl, r1, r2⟩ := vals2 r
  obtain rfl : u1 = Value.ref a := r1
  have e2 := hc.eq r2
  subst e2
  have key : ∀ (ox : Obj) (od : Option Obj), PySem.W.InstAt s.heap a ox C od → wpAny (model X.prog X.w) X.A (call (.builtin "isinstance") [.ref a, u2]) (EP X pins σ Q) X.xe s := fun ox od J =>
    PySem.W.kia_one (PySem.W.kitx_exc (ox := ox) (od := od) ec.cl ec.ga ec.gt ec.sb ec.ca ec.cg ec.ct ec.mo) I.kIn J e (fun z => nomatch z) fun tk => ⟨.bl b, H, I.tok tk, rfl, q⟩
  rcases er with ⟨ea, _⟩ | ⟨dx, ea, ed⟩
  · obtain ⟨t1, ho1⟩ := exo_at I.hok ea
    exact key _ none ⟨ho1, rfl, rfl, trivial⟩
  · obtain ⟨t1, ho1⟩ := exo_at I.hok ea
    obtain ⟨mA, hns, rel⟩ := exd_at I.hok ed
    obtain ⟨od, hod, _⟩ := lookIn_ns hns
    exact key _ (some od) ⟨ho1, rfl, rfl, hod⟩
end
end G

set_option Elab.async false
set_option linter.all false
set_option maxRecDepth 100000
set_option maxHeartbeats 4000000
/-! An own error's __init__ that stores one field. -/
namespace G
open PySem PySem.Spec PyProof.Rows L2
/-- self.f = f -/
def spI1 (K : PySem.W.Frag) (f : Str) : Sp := fun vs H Q _ => ∃ (a C : Addr) (v : V), vs = [.ref a, v] ∧ ES K C f ∧ H a = some (exo a C none) ∧ ∀ dx, H dx = none → dx ≠ a → Q .non (upd (upd H dx (exd dx [(f, v)])) a (exo a C (some dx)))
end G

set_option Elab.async false
set_option linter.all false
set_option maxRecDepth 100000
set_option maxHeartbeats 4000000
/-! Further rules: a base's method called by its class; a local that holds one of several defs, called with a star; an own error over any base raised, its field read where it is caught. -/
namespace G
open PySem PySem.Spec PyProof.Rows L2 StX ClX
section
variable {X : Cx} {CX : CXT} {k i : Nat} {f C : Addr} {mc : Value} {fd : FuncData} {ps : List Str} {sp : Sp} {E : XK} {x m n : Str} {o e : Expr} {es : List Expr} {te ta : TE} {t : TA} {p apos pos : Pos}
/-- C.m(e, ..), m a plain def of the class C -/
def tCfn (C : Addr) (sp : Sp) (E : XK) (ta : TE) (t : TA) : TE := fun σ H Q => ta σ H fun x H1 => x = .ref C ∧ t σ H1 fun vs H2 => sp vs H2 Q E
theorem pe_cfn {pl : Sem Bool} (he : PE X o ta) (r : CRead X.K C mc) (c : PySem.W.findCls X.K (.ref C) mc m = some (.val (.ref f))) (kf : PySem.W.keepIn X.K (.ref f) = true) (F : FnOk X.prog X.w X.K X.mg X.base CX k f fd ps sp) (hr : Room k X.A) (hb : Binds X.K fd ps []) (hx : Passes CX X E) (ha : PA X (e :: es) t)
    (hst : starEach (e :: es) X.env = (false, eval e X.env) :: starEach es X.env := by rfl) (hpl : (backTo pos (starEach es X.env)).any (·.1) = false := by rfl)
    (ht : eval (.Call (.Attribute o m apos) (e :: es) [] pos) X.env = (do
      let ov ← eval o X.env
      standAt apos.atName
      let (f, first) ← holding [ov] (getMethod ov m pl)
      callWith pos f first (backTo pos (starEach (e :: es) X.env)) (backToKw pos (keywordEach [] X.env))) := by rfl) :
    PE X (.Call (.Attribute o m apos) (e :: es) [] pos) (tCfn C sp E ta t) := by
  refine ⟨fun pins s σ H Q I h => ?_⟩
  refine PySem.W.methodCall_KW (pl := pl) (thn (he.run pins s σ H _ I h) fun u s1 ⟨y, H1, I1, ry, ey, q⟩ => ?_) ht
  subst ey
  obtain rfl : u = Value.ref C := ry
  refine PySem.W.method_cls I1.kIn r.ga (getcval_ok (v := .ref f) I1 r ⟨c, rfl⟩ fun s2 I2 => ?_)
  refine PySem.W.callWith_K (first := []) (h₀ := X.base) I.ok.mod.kin kf (thn (ha.run pos pins s2 σ H1 _ I2 q) fun us s3 ⟨vs, H2, I3, rv, q2⟩ => ⟨I3.kIn, ?_⟩) hst hpl
  have e0 : vs ++ [] = vs := List.append_nil vs
  exact run_fn F hr hb .nil hx I3 rv (by rw [e0]; exact q2)
/-- one of several defs that a local may hold -/
structure HeldX (P : Program) (w : World) (K : PySem.W.Frag) (mg : Str → Option Value) (base : Heap) (CX : CXT) (k : Nat) (f : Addr) (sp : Sp) : Prop where
  ex : ∃ (fd : FuncData) (ps : List Str), FnOk P w K mg base CX k f fd ps sp ∧ PySem.W.keepIn K (.ref f) = true ∧ Binds K fd ps []
def tCallV (i : Nat) (S : Addr → Sp → Prop) (E : XK) (t : TA) : TE := fun σ H Q => ∃ f sp, σ[i]? = some (some (.ref f)) ∧ S f sp ∧ t σ H fun vs H1 => sp vs H1 Q E
/-- x(e, .., *y), x a local -/
theorem pe_callV {S : Addr → Sp → Prop} (A : ∀ f sp, S f sp → HeldX X.prog X.w X.K X.mg X.base CX k f sp) (hr : Room k X.A) (hN : X.N[i]? = some x) (hv : Vis X.env.scope x) (hx : Passes CX X E) (ha : PA X (e :: es) t)
    (hdb : (x == ("__debug__" : Str)) = false := by decide) (hcd : (x == ("__classdict__" : Str)) = false := by decide)
    (he : starEach (e :: es) X.env = (false, eval e X.env) :: starEach es X.env := by rfl) (hst : (backTo pos (starEach es X.env)).any (·.1) = true := by rfl) : PE X (.Call (.Name x p) (e :: es) [] pos) (tCallV i S E t) := by
  refine ⟨fun pins s σ H Q I ⟨f, sp, hs, hS, ht⟩ => ?_⟩
  obtain ⟨fd, ps, F, hk, hb⟩ := (A f sp hS).ex
  refine wpAny_Call_Name_kw (thn ((pe_var (pos := p) hN hv hdb hcd).run pins s σ H (fun v H1 => v = .ref f ∧ H1 = H) I ⟨.ref f, hs, rfl, rfl⟩) fun u s1 ⟨v, H1, I1, r1, q1⟩ => ?_)
  obtain ⟨rfl, rfl⟩ := q1
  cases r1
  refine PySem.W.callWith_S2 (h₀ := X.base) I.ok.mod.kin hk (thn (ha.run pos pins s1 σ _ _ I1 ht) fun us s2 ⟨vs, H2, I2, r, q⟩ => ⟨I2.kIn, ?_⟩) he hst
  have e0 : vs ++ [] = vs := List.append_nil vs
  exact run_fn F hr hb .nil hx I2 r (by rw [e0]; exact q)
/-! ### raise C(e), C's own __init__ keeping sp -/
def tPmk (C : Addr) (sp : Sp) (ta : TA) : L2.St → Hp → XK → Prop := fun σ H Q => ta σ H fun vs H1 => vs.length ≤ 1000 ∧ ∀ a, H1 a = none → sp (.ref a :: vs) (upd H1 a (exo a C none))
  (fun v H2 => v = .non ∧ ∃ (d : Addr) (fs : List (Str × V)), H2 a = some (exo a C (some d)) ∧ H2 d = some (exd d fs) ∧ H1 d = none ∧ Q (.ref C) (some d) (upd (del H2 a) d (.xd fs))) (fun _ _ _ => False)
theorem pmk_E {fI : Addr} (M : EM X.K C fI) (R : Raises X (.ref C)) (F1 : FnOk X.prog X.w X.K X.mg X.base CX k fI fd ps sp) (hr : Room (k + 1) X.A) (hb : Binds X.K fd ps []) (hx : Passes CX X (fun _ _ _ => False))
    (hg : Gl X x) (hm : X.mg x = some (.ref C)) (ha : PA X (e :: es) t)
    (hdb : (x == ("__debug__" : Str)) = false := by decide) (he : starEach (e :: es) X.env = (false, eval e X.env) :: starEach es X.env := by rfl) (hpl : (backTo pos (starEach es X.env)).any (·.1) = false := by rfl) :
    PMk X (.Call (.Name x p) (e :: es) [] pos) (tPmk C sp t) := by
  intro pins s σ H Q I h
  obtain ⟨B, newId, initId, bm, BF, q⟩ := M.b
  refine wpAny_Call_Name_kw (ld_glob I hg hm ?_ hdb)
  refine PySem.W.callWith_K (h₀ := X.base) I.ok.mod.kin M.kp (thn (ha.run pos pins s σ H _ I h) fun us s1 ⟨vs, H1, I1, r1, hz, q1⟩ => ⟨I1.kIn, ?_⟩) he hpl
  obtain ⟨nm, N, qn, bs, bm', hdct, sn, sub, ab, col, dd, k0, k1, k2, k3, k5, hC, hT⟩ := PySem.W.excInit_of I1.kIn q
  obtain ⟨hp, g, dr, tk, os⟩ := s1
  have hsz : hp.objs.size ≤ hp.objs.size + 1 := Nat.le_succ _
  have hq := q1 (hp.objs.size + 1) (I1.hok.fresh hsz)
  have old : ∀ b o, hp.get? b = some o → ((hp.push (PySem.W.kdv_tup us)).push (PySem.HandSPX.excO C hp.objs.size)).get? b = some o := fun b o z => Heap.get?_push_of_some _ (Heap.get?_push_of_some _ z)
  have I2 : Inv X pins σ (upd H1 (hp.objs.size + 1) (exo (hp.objs.size + 1) C none)) ⟨(hp.push (PySem.W.kdv_tup us)).push (PySem.HandSPX.excO C hp.objs.size), g, dr, tk, os⟩ :=
    I1.laid (t' := tk) (a := hp.objs.size + 1) old hsz (exo_ok (by heap_get))
  have r2 : Vals (V.ref (hp.objs.size + 1) :: vs) (Value.ref (hp.objs.size + 1) :: us) := .cons rfl r1
  have hl : (Value.ref (hp.objs.size + 1) :: us).length = ps.length := r2.length.symm.trans (F1.len _ _ _ _ hq)
  have hus : us.length ≤ sizeLine := by rw [← r1.length]; exact line1000 hz
  have hbb := hb _ (Value.ref (hp.objs.size + 1) :: us) I2.kIn (by rw [List.append_nil]; exact hl)
  rw [List.append_nil] at hbb
  show wpAny _ _ (call (.ref C) us) _ _ _
  refine wpAny_call (PySem.HandSPX.call_own BF.ba hT hC (PySem.W.looks_findIn I1.kIn M.i) (fun self => PySem.W.bind_fn I1.kIn self M.t) hus
    (codeAny_mono (F1.run _ X.stack _ _ ⟨Value.ref (hp.objs.size + 1) :: us, []⟩ (Value.ref (hp.objs.size + 1) :: us) _ _ (fun _ _ _ => False) (hr.make C us []) (I2.env0.make C us []) hbb r2 hq) fun r s' hq' => ?_))
  match r, hq' with
  | .error er, hq' => exact hx pins σ _ _ er s' I2 hq'
  | .ok (.ret u), hq' =>
    obtain ⟨v, H2, os2, bare2, un2, hok2, rv, ev, d, fs, ea, ed, hd1, q2⟩ := hq'
    subst ev
    obtain ⟨h2, g2, d2, t2, os'⟩ := s'
    exact ⟨rv, mk_end R I1 hsz old un2 hok2 os2 bare2 ea ed hd1 q2⟩
  | .ok .next, hq' => exact False.elim hq'
  | .ok .brk, hq' => exact False.elim hq'
  | .ok .cont, hq' => exact False.elim hq'
/-- the error that the suite holds (at a; its class cls, its dict d): a field -/
def tCapF (K : PySem.W.Frag) (a : Addr) (cls : Value) (d : Option Addr) (f : Str) (te : TE) : TE := fun σ H Q => te σ H fun x H1 => x = .ref a ∧ ∃ (C dd : Addr) (fs : List (Str × V)) (v : V), cls = .ref C ∧ EC K C ∧ PySem.W.findIn K (.ref C) f = some none ∧ d = some dd ∧ H1 dd = some (.xd fs) ∧ fs.lookup f = some v ∧ Q v H1
theorem pe_capF {a : Addr} {oe : Obj} {cls : Value} {d : Option Addr} {pn : List (Addr × Obj)} {e : Expr} {te : TE} {pos : Pos} {f : Str} (hz : Zc cls d oe) (hf : ∃ vs, oe.data = .fields vs) (he : PE (X.suite a ((a, oe) :: pn)) e te)
    (hb : attributeBase e f X.env (eval e X.env) = eval e X.env := by rfl) : PE (X.suite a ((a, oe) :: pn)) (.Attribute e f pos) (tCapF X.K a cls d f te) := by
  refine ⟨fun pins s σ H Q I h => attr_of hb (thn (he.run pins s σ H _ I h) fun u s1 ⟨y, H1, I1, ry, ey, C, dd, fs, v, ec, T, hno, ed, ea, hl, q⟩ => ?_)⟩
  subst ey
  obtain rfl : u = Value.ref a := ry
  subst ec ed
  obtain ⟨ha, _⟩ := I1.pin (a, oe) (List.mem_append_left _ List.mem_cons_self)
  obtain ⟨vs, hd⟩ := hf
  obtain ⟨mA, hns, hr⟩ := (show ObjOk X.prog X.w H1 s1.heap dd (.xd fs) from I1.hok dd _ ea)
  obtain ⟨od, ho, hl2⟩ := lookIn_ns hns
  obtain ⟨u, hu, ru⟩ := RelO.some_of (v := v) (o := mA f) (by rw [← hl]; exact hr f)
  have J : PySem.W.InstAt s1.heap a oe C (some od) := ⟨ha, hz.1, by unfold PySem.W.notCls; rw [hd] <;> rfl, by rw [hz.2]; exact ho⟩
  exact PySem.HandSPX.exc_get I1.kIn J T.ga T.gt T.sb (PySem.W.findObj_own T.hd hno rfl (by rw [hl2, hu])) (handed_of ru) ⟨v, H1, I1.tok _, ru, q⟩
end
end G

set_option Elab.async false
set_option linter.all false
set_option maxRecDepth 100000
set_option maxHeartbeats 4000000
/-! The head by facts read by a Hook: the end for FnOkG, defs and methods out of what the Hook says. -/
namespace G
open PySem PySem.Spec PyProof.Rows L2 StX ClX
theorem walk_ofGE {l : PySem.W.OpenLaw} {n k : Nat} {q : Program} {loose : List Str} {XP : (Str → Option Value) → Heap → Prop} {YP : World → Heap → Prop}
    {d : DefRec} {x : Str} (hn : l.most = some n) (hn2 : n ≤ sizeLine) (hdf : d.params.defaults = []) (hr : Room k callerA)
    (F : ∀ (w : World) (mg : Str → Option Value) (fa : Addr) (h : Heap), YP w h → h.Ns mainGlobals mg → mg d.name = some (.ref fa) →
      ∃ (K : PySem.W.Frag) (fd : FuncData), K.In h ∧ (∀ (s : Shared) (u : Value), BindsTo s fd ⟨[u], []⟩ [(x, u)]) ∧
        ∀ base : Heap, K.In base → base.Ns mainGlobals mg → FnOkG l.prog w K mg base k fa fd [x] (spLawN K n)) :
    PySem.W.WalkO q loose XP YP l.row.toRowW d [] (fun f vs => PySem.call f vs) := by
  refine Att.attach_call hn hdf fun w s₀ s₁ mg mb fa o pm cd doc a vs ns Gr Y ho hd hcd hmg hobj hints hlen hgens => ?_
  obtain ⟨K, fd, KX, hb, hF⟩ := F w mg fa _ Y Gr.T.g hmg
  have rv := vals_ints hints
  have hl : ns.length ≤ sizeLine := Nat.le_trans hlen hn2
  have goal := @call_at l.prog w K mg mb k n fa a fd x s₁ vs ns KX Gr.T.g Gr.T.b Gr.T.builtins Gr.T.nolimit hgens hobj hlen hr hF hb
  cases hk : K.lookup a with
  | some o1 =>
    have e := KX a o1 hk
    rw [hobj] at e
    cases e
    refine goal (fun _ => none) (fun _ => Or.inl rfl) (Or.inr ⟨_, vs.toArray, _, hk, rfl, rfl, rfl, ?_, by simpa using rv⟩) (fun b u z => nomatch z) (fun b z => absurd rfl z) fun z => absurd rfl z
    rw [List.size_toArray, hints.length]
    exact hl
  | none =>
    let frozen : HO := .frz { cls := .type "list", data := .seq vs.toArray } (.lst (ns.map V.int))
    have at_a : ∀ b, b = a → (fun b => if b = a then some frozen else none : Hp) b = some frozen := fun b hb => if_pos hb
    have off_a : ∀ b, b ≠ a → (fun b => if b = a then some frozen else none : Hp) b = none := fun b hb => if_neg hb
    refine goal (fun b => if b = a then some frozen else none) (fun b => ?_) (Or.inl (Or.inr ⟨_, at_a a rfl⟩)) (fun b u z => ?_) (fun b z => ?_) fun _ => hk
    · by_cases hb : b = a
      · exact Or.inr ⟨_, _, at_a b hb⟩
      · exact Or.inl (off_a b hb)
    · by_cases hb : b = a
      · rw [at_a b hb] at z
        cases z
        subst hb
        exact ⟨hobj, by rw [List.length_map]; exact hl, vs, _, rv, hobj⟩
      · rw [off_a b hb] at z
        cases z
    · by_cases hb : b = a
      · exact hb
      · exact absurd (off_a b hb) z
/-- a def without defaults, as the Hook tells it -/
theorem fun_ofD {K : PySem.W.Frag} {x qual : Str} {st : Stmt} {f : Addr} {fd : FuncData} (F : FunD K x qual (defArgs st) (defBody st) (defScope st) [] [] f fd) : Fun K x qual st f fd := by
  obtain ⟨oc, od, dV, kV, doc, pm, an, cdv, ct, osl, rfl, lk, hcd, hD, _⟩ := F.ex
  rcases hD with ⟨_, rfl⟩ | ⟨e, _⟩
  · exact ⟨⟨oc, od, kV, doc, pm, an, cdv, ct, osl, rfl, lk, hcd⟩, F.kp⟩
  · exact absurd rfl e
/-- a def of the module and how it is called -/
structure DfX (K : PySem.W.Frag) (mg : Str → Option Value) (x : Str) (st : Stmt) (ps : List Str) (f : Addr) (fd : FuncData) : Prop where
  F : Fun K x x st f fd
  b : Binds K fd ps []
  m : mg x = some (.ref f)
/-- a method -/
structure MdX (K : PySem.W.Frag) (C : Addr) (x q : Str) (st : Stmt) (ps : List Str) (f : Addr) (fd : FuncData) : Prop where
  F : Fun K x q st f fd
  b : Binds K fd ps []
  m : Meth K C x f
/-- how a def's arguments bind -/
def BindOk (x qual : Str) (st : Stmt) (ps : List Str) : Prop := ∀ (kV doc pm : Value) (an : Option Addr) (cdv ct : Value) (us : List Value), us.length = ps.length → bindArgs (PySem.W.fnOf x qual (defArgs st) (defBody st) (defScope st) .none kV doc pm an cdv ct) ⟨us, []⟩ = pure (ps.zip us)
abbrev dDef (x : Str) (st : Stmt) : He.DefD := ⟨(x, none), x, x, defArgs st, defBody st, defScope st, [], []⟩
abbrev dMet (C x q : Str) (st : Stmt) : He.DefD := ⟨(C, some x), x, q, defArgs st, defBody st, defScope st, [], []⟩
section
variable {K : PySem.W.Frag} {h : Heap} {mg : Str → Option Value} {fa : List He.Fa} {fn : List He.DefD}
theorem dfx (X : K.In h) (G : h.Ns mainGlobals mg) (c : He.SaysD fa fn K) {x : Str} {st : Stmt} {ps : List Str} (i j : Nat) (hb : BindOk x x st ps) (hd : fn[i]? = some (dDef x st)) (hf : fa[j]? = some (.glo x)) : ∃ fd, DfX K mg x st ps (He.ga K x) fd := by
  obtain ⟨fd, F⟩ := c.def_ i hd
  have F2 : Fun K x x st (He.ga K x) fd := fun_ofD F
  exact ⟨fd, F2, F2.binds hb, He.glo_ok X G (c.fact j hf)⟩
theorem mdx (c : He.SaysD fa fn K) {C x q : Str} {st : Stmt} {ps : List Str} (i j : Nat) (hb : BindOk x q st ps) (hd : fn[i]? = some (dMet C x q st)) (hf : fa[j]? = some (.meth C x)) : ∃ fd, MdX K (He.ga K C) x q st ps (He.ma K (He.ga K C) x) fd := by
  obtain ⟨fd, F⟩ := c.def_ i hd
  have F2 : Fun K x q st (He.ma K (He.ga K C) x) fd := fun_ofD F
  exact ⟨fd, F2, F2.binds hb, He.meth_ok (c.fact j hf)⟩
theorem inx (c : He.SaysD fa fn K) {C x q : Str} {st : Stmt} {ps : List Str} (i : Nat) (hb : BindOk x q st ps) (hd : fn[i]? = some (dMet C x q st)) : ∃ fd, Fun K x q st (He.ma K (He.ga K C) x) fd ∧ Binds K fd ps [] := by
  obtain ⟨fd, F⟩ := c.def_ i hd
  have F2 : Fun K x q st (He.ma K (He.ga K C) x) fd := fun_ofD F
  exact ⟨fd, F2, F2.binds hb⟩
end
/-- the module's dict of defs -/
theorem kdct_of {K : PySem.W.Frag} {w : World} {a : Addr} {es : Array DictEntry} {n : Nat} (D : KDict K w a es n) {kvs : List (Str × He.Dv)} (h : He.valsB K a kvs = true) {x f : Str} (hq : (x, He.Dv.glo f) ∈ kvs) : KDct K w a x (.ref (He.ga K f)) := by
  obtain ⟨u, e, r⟩ := He.valsB_ok h hq
  exact ⟨es, n, u, D.at_, D.lit, e, r⟩
/-- an empty tuple of the module -/
def noneB (K : PySem.W.Frag) (a : Addr) : Bool := match K.lookup a with
  | some ⟨.type c, _, .seq its _, _⟩ => decide (c = "tuple") && its.isEmpty
  | _ => false
theorem noneB_ok {K : PySem.W.Frag} {a : Addr} (h : noneB K a = true) (H : Hp) : SqT K H a [] := by
  unfold noneB at h
  cases q : K.lookup a with
  | none => rw [q] at h; cases h
  | some o =>
    obtain ⟨oc, od, dt, osl⟩ := o
    rw [q] at h
    cases oc with
    | type c =>
      cases dt with
      | seq its n =>
        obtain ⟨h1, h2⟩ := He.ba (show (decide (c = "tuple") && its.isEmpty) = true from h)
        have e : its = #[] := Array.isEmpty_iff.mp h2
        subst e
        exact .inr ⟨_, #[], n, q, congrArg Value.type (of_decide_eq_true h1), rfl, Nat.zero_le _, .nil⟩
      | _ => cases h
    | _ => cases dt <;> cases h
/-- the keyword default x of the def, if it is an object -/
def kwdAt (f : Str × Option Str) (x : Str) (K : PySem.W.Frag) : Addr := match K.lookup (He.fAd K f) with
  | some ⟨_, _, .func fd, _⟩ => (match fd.kwdefaults with
    | .ref D => (match PySem.W.nsIn K D x with
      | some (some (.ref a)) => a
      | _ => 0)
    | _ => 0)
  | _ => 0
/-! ### the Hook: the names' reach, the interpreter's statics, one more Bool -/
def asS (g : Addr → Option Obj) (n : Nat) : List Addr := He.asD g n ++ [PySem.cStatics]
structure SaysS (fa : List He.Fa) (fn : List He.DefD) (ts : List He.Tab) (ex : PySem.W.Frag → Bool) (w : World) (K : PySem.W.Frag) : Prop where
  t : He.SaysT fa fn ts w K
  more : ex K = true
abbrev AlS : Type := He.AlT × Bool
def obsS (n : Nat) (fa : List He.Fa) (fn : List He.DefD) (ts : List He.Tab) (ex : PySem.W.Frag → Bool) (g : Addr → Option Obj) : AlS := (He.obsT fa fn ts (He.frG g (asS g n)), ex (He.frG g (asS g n)))
def valS (fn : List He.DefD) (ts : List He.Tab) (w : World) : AlS := (He.valT fn ts w, true)
def hookS (n : Nat) (fa : List He.Fa) (fn : List He.DefD) (ts : List He.Tab) (ex : PySem.W.Frag → Bool) : PySem.W.Hook where
  α := AlS
  obs := fun s => obsS n fa fn ts ex s.heap.get?
  val := fun w => valS fn ts w
  says := fun w h => ∃ K : PySem.W.Frag, K.In h ∧ SaysS fa fn ts ex w K
  of := fun _ _ e => ⟨_, He.frG_in, ⟨congrArg (fun z : AlS => z.1) e, congrArg (fun z : AlS => z.2) e⟩⟩
  keeps := fun _ _ _ ⟨K, hK, c⟩ k => ⟨K, PySem.W.Frag.In.keeps hK k, c⟩
theorem obsS_eq {n : Nat} {fa : List He.Fa} {fn : List He.DefD} {ts : List He.Tab} {ex : PySem.W.Frag → Bool} {g : Addr → Option Obj} {s : Shared} (h : ∀ a, g a = s.heap.get? a) : obsS n fa fn ts ex g = (hookS n fa fn ts ex).obs s := by
  have e : g = s.heap.get? := funext h
  rw [e] <;> rfl
/-- an own error's class over a base with its own __init__ -/
def ciB (K : PySem.W.Frag) (C fI : Addr) (bm : List Value) (newId : String) (f : Str) : Bool := PySem.W.excInitIn K C bm newId && PySem.W.excOver K C bm && ecB K C && PySem.W.findIn K (.ref C) "__init__" == some (some (.ref fI)) &&
  PySem.W.typeIn K (.ref fI) == some (.type "function") && PySem.W.findIn K (.ref C) f == some none
theorem taker_of {K : PySem.W.Frag} {C : Addr} {f : Str} (h : PySem.W.findIn K (.ref C) f = some none) : PySem.W.takerIn K C f = some none := by
  unfold PySem.W.takerIn
  rw [h]
  rfl
theorem ci_of {K : PySem.W.Frag} {C fI : Addr} {bm : List Value} {B newId initId : String} {f : Str} (BF : BaseF B newId initId bm) (h : ciB K C fI bm newId f = true) : EM K C fI ∧ ES K C f ∧ PySem.W.findIn K (.ref C) f = some none := by
  unfold ciB at h
  simp only [Bool.and_eq_true, beq_iff_eq] at h
  obtain ⟨⟨⟨⟨⟨a, b⟩, c⟩, d⟩, e⟩, g⟩ := h
  exact ⟨⟨⟨B, newId, initId, bm, BF, a⟩, (EC.of c).kp, d, e⟩, ⟨⟨B, newId, initId, bm, BF, b⟩, EC.of c, taker_of g⟩, g⟩
def creadB (K : PySem.W.Frag) (C : Addr) (mc : Value) : Bool := PySem.W.readsIn K C mc && PySem.W.specialIn K (.ref C) "__getattribute__" == some (some (.builtin "type.__getattribute__"))
theorem cread_of {K : PySem.W.Frag} {C : Addr} {mc : Value} (h : creadB K C mc = true) : CRead K C mc := by
  unfold creadB at h
  simp only [Bool.and_eq_true, beq_iff_eq] at h
  exact ⟨h.1, h.2⟩
end G

set_option Elab.async false
set_option linter.all false
set_option maxRecDepth 100000
set_option maxHeartbeats 4000000
/-! The cells of a run: what they are on paper, and where they stand. -/
namespace G
open PySem PySem.Spec PyProof.Rows L2
theorem Same.up {H : Hp} {p : Addr} {o : HO} (np : H p = none) : Same H (upd H p o) := fun b u e => by
  rw [upd_ne (ne_of_none e np)]
  exact e
/-! ### rows of pairs, as a dict keeps them -/
section
variable {κ β : Type} [DecidableEq κ]
def look (l : List (κ × β)) (k : κ) : Option β := (l.find? fun p => decide (p.1 = k)).map (·.2)
def put (l : List (κ × β)) (k : κ) (b : β) : List (κ × β) := if (l.any fun p => decide (p.1 = k)) = true then l.map (fun p => if p.1 = k then (p.1, b) else p) else l ++ [(k, b)]
def drp (l : List (κ × β)) (k : κ) : List (κ × β) := l.filter fun p => decide (p.1 ≠ k)
theorem put_length (l : List (κ × β)) (k : κ) (b : β) : (put l k b).length ≤ l.length + 1 := by
  unfold put
  split
  · rw [List.length_map]; omega
  · rw [List.length_append]; exact Nat.le_refl _
theorem drp_length (l : List (κ × β)) (k : κ) : (drp l k).length ≤ l.length := List.length_filter_le _ _
end
/-- as a dict holds it -/
def dct {κ β : Type} (km : κ → Key) (vm : β → V) (l : List (κ × β)) : List (Key × V) := l.map fun p => (km p.1, vm p.2)
section
variable {κ β : Type} [DecidableEq κ] {km : κ → Key} {vm : β → V}
theorem dct_len (l : List (κ × β)) : (dct km vm l).length = l.length := List.length_map _
theorem valV_dct (inj : ∀ x y, km x = km y → x = y) (l : List (κ × β)) (k : κ) : valV (dct km vm l) (km k) = (look l k).map vm := by
  induction l with
  | nil => rfl
  | cons p r ih =>
    by_cases h : p.1 = k
    · rw [show dct km vm (p :: r) = (km p.1, vm p.2) :: dct km vm r from rfl, valV_pos (by rw [h])]
      simp [look, List.find?_cons, h]
    · rw [show dct km vm (p :: r) = (km p.1, vm p.2) :: dct km vm r from rfl, valV_neg (fun z => h (inj _ _ z)), ih]
      simp [look, List.find?_cons, h]
theorem any_dct (inj : ∀ x y, km x = km y → x = y) (l : List (κ × β)) (k : κ) : ((dct km vm l).any fun kv => decide (kv.1 = km k)) = l.any fun p => decide (p.1 = k) := by
  induction l with
  | nil => rfl
  | cons p r ih =>
    show (decide (km p.1 = km k) || (dct km vm r).any _) = (decide (p.1 = k) || r.any _)
    rw [ih, decide_eq_decide.mpr ⟨fun z => inj _ _ z, fun z => by rw [z]⟩]
theorem putK_dct (inj : ∀ x y, km x = km y → x = y) (l : List (κ × β)) (k : κ) (b : β) : putK (dct km vm l) (km k) (vm b) = dct km vm (put l k b) := by
  unfold putK put
  rw [any_dct inj]
  split
  · unfold dct
    rw [List.map_map, List.map_map]
    refine List.map_congr_left fun p _ => ?_
    by_cases h : p.1 = k
    · simp [h]
    · have h2 : ¬ km p.1 = km k := fun z => h (inj _ _ z)
      simp [h, h2]
  · simp [dct]
theorem dropK_dct (inj : ∀ x y, km x = km y → x = y) (l : List (κ × β)) (k : κ) : dropK (dct km vm l) (km k) = dct km vm (drp l k) := by
  unfold dropK drp dct
  rw [List.filter_map]
  congr 1
  refine List.filter_congr fun p _ => ?_
  show decide (km p.1 ≠ km k) = decide (p.1 ≠ k)
  exact decide_eq_decide.mpr ⟨fun z e => z (by rw [e]), fun z e => z (inj _ _ e)⟩
end
def kS (x : Str) : Key := .inr x
def kN (n : Nat) : Key := .inl (n : Int)
theorem kS_inj : ∀ x y, kS x = kS y → x = y := fun _ _ h => Sum.inr.inj h
theorem kN_inj : ∀ x y, kN x = kN y → x = y := fun _ _ h => Int.ofNat.inj (Sum.inl.inj h)
def optV : Option Nat → V
  | none => .non
  | some n => .int n
/-! ### what changes -/
/-- only what stands at one of S changed, and no tuple; nothing is gone -/
structure Ch (S : List Addr) (H H' : Hp) : Prop where
  kp : Kp S H H'
  tu : ∀ b xs, H b = some (.tup xs) → H' b = some (.tup xs)
  al : ∀ b o, H b = some o → ∃ u, H' b = some u
theorem Ch.refl (S : List Addr) (H : Hp) : Ch S H H := ⟨Kp.refl S H, fun _ _ h => h, fun _ o h => ⟨o, h⟩⟩
theorem Ch.trans {S : List Addr} {H H1 H2 : Hp} (a : Ch S H H1) (b : Ch S H1 H2) : Ch S H H2 := ⟨a.kp.trans b.kp, fun c xs h => b.tu c xs (a.tu c xs h), fun c o h => let ⟨u, e⟩ := a.al c o h; b.al c u e⟩
theorem Ch.mono {S T : List Addr} {H H' : Hp} (a : Ch S H H') (h : ∀ b, b ∈ S → b ∈ T) : Ch T H H' := ⟨a.kp.mono h, a.tu, a.al⟩
theorem Ch.same {S : List Addr} {H H' : Hp} (s : Same H H') : Ch S H H' := ⟨Kp.same s, fun b xs h => s b _ h, fun b o h => ⟨o, s b o h⟩⟩
theorem Ch.new {S : List Addr} {p : Addr} {H H' : Hp} {o : HO} (a : Ch S H H') (h : H' p = none) : Ch S H (upd H' p o) := a.trans (Ch.same (Same.up h))
theorem Ch.put {S : List Addr} {p : Addr} {H H' : Hp} {o u : HO} (a : Ch S H H') (h : p ∈ S) (hp : H' p = some u) (nt : ∀ xs, u ≠ .tup xs) : Ch S H (upd H' p o) :=
  ⟨a.kp.put h, fun b xs e => by
    have z := a.tu b xs e
    have ne : b ≠ p := fun q => by
      rw [q, hp] at z
      exact nt xs (Option.some.inj z)
    rw [upd_ne ne]
    exact z, fun b o' e => by
    by_cases hb : b = p
    · rw [hb]
      exact ⟨_, upd_same⟩
    · obtain ⟨v, z⟩ := a.al b o' e
      exact ⟨v, by rw [upd_ne hb]; exact z⟩⟩
theorem Ch.free {S : List Addr} {H H' : Hp} {b : Addr} (a : Ch S H H') (h : H' b = none) : H b = none := by
  cases e : H b with
  | none => rfl
  | some o =>
    obtain ⟨u, z⟩ := a.al b o e
    rw [h] at z
    cases z
/-- what was not there at first need not be named -/
theorem Ch.less {S : List Addr} {p : Addr} {H H' : Hp} (a : Ch (p :: S) H H') (h : H p = none) : Ch S H H' := ⟨a.kp.fresh h, a.tu, a.al⟩
theorem Ch.lessS {S T : List Addr} {H H' : Hp} (a : Ch T H H') (h : ∀ b ∈ T, b ∈ S ∨ H b = none) : Ch S H H' :=
  ⟨fun b o n e => a.kp b o (fun z => (h b z).elim n fun q => by rw [q] at e; cases e) e, a.tu, a.al⟩
/-! ### the cells -/
structure PC where
  S : List (Str × Option Nat)
  F : List (List (Str × Nat × Bool))
  W : List (Nat × Str)
  ke : List Nat
  cl : List (Nat × Int)
structure CAd where
  C : Addr
  dC : Addr
  st : Addr
  fi : Addr
  wi : Addr
  ke : Addr
  cl : Addr
  fl : List Addr
def CAd.foot (a : CAd) : List Addr := [a.st, a.fi, a.wi, a.ke, a.cl] ++ a.fl
/-- a field's dict -/
def FdR (H : Hp) : List (Str × Nat × Bool) → List (Key × V) → Prop := Paired fun x y => y.1 = kS x.1 ∧ ∃ t, y.2 = .ref t ∧ H t = some (.tup [.int x.2.1, .bl x.2.2])
def FdAt (H : Hp) (q : Addr) (l : List (Str × Nat × Bool)) : Prop := ∃ kvs, H q = some (.dK kvs) ∧ FdR H l kvs
structure Sz (p : PC) (B : Nat) : Prop where
  S : p.S.length ≤ B
  F : p.F.length ≤ B
  f : ∀ l ∈ p.F, l.length ≤ B
  W : p.W.length ≤ B
  k : p.ke.length ≤ B
  c : p.cl.length ≤ B
  t : (p.F.map List.length).sum ≤ B
theorem Sz.mono {p : PC} {B B' : Nat} (h : Sz p B) (hb : B ≤ B') : Sz p B' :=
  ⟨Nat.le_trans h.S hb, Nat.le_trans h.F hb, fun l hl => Nat.le_trans (h.f l hl) hb, Nat.le_trans h.W hb, Nat.le_trans h.k hb, Nat.le_trans h.c hb, Nat.le_trans h.t hb⟩
structure Cel (CC : Addr) (H : Hp) (a : CAd) (p : PC) (B : Nat) : Prop where
  hC : H a.C = some (.ins CC a.dC [("stands", .ref a.st), ("fields", .ref a.fi), ("wishes", .ref a.wi), ("kept", .ref a.ke), ("cleared", .ref a.cl)])
  hst : H a.st = some (.dK (dct kS optV p.S))
  hfi : H a.fi = some (.lst (a.fl.map V.ref))
  hwi : H a.wi = some (.dK (dct kN V.str p.W))
  hke : H a.ke = some (.dK (dct kN (fun _ => V.bl true) (p.ke.map fun c => (c, ()))))
  hcl : H a.cl = some (.dK (dct kN V.int p.cl))
  hfl : Paired (FdAt H) a.fl p.F
  nd : a.foot.Nodup
  nC : a.C ∉ a.foot
  sz : Sz p B
theorem FdR.ch {S : List Addr} {H H' : Hp} {l : List (Str × Nat × Bool)} {kvs : List (Key × V)} (h : FdR H l kvs) (c : Ch S H H') : FdR H' l kvs := by
  induction h with
  | nil => exact .nil
  | cons h1 h2 ih =>
    obtain ⟨e, t, et, ht⟩ := h1
    exact .cons ⟨e, t, et, c.tu _ _ ht⟩ ih
theorem FdAt.ch {S : List Addr} {H H' : Hp} {q : Addr} {l : List (Str × Nat × Bool)} (h : FdAt H q l) (c : Ch S H H') (n : q ∉ S) : FdAt H' q l := by
  obtain ⟨kvs, hq, hr⟩ := h
  exact ⟨kvs, c.kp _ _ n hq, hr.ch c⟩
theorem flds_ch {S : List Addr} {H H' : Hp} (c : Ch S H H') : ∀ {fl : List Addr} {F : List (List (Str × Nat × Bool))}, Paired (FdAt H) fl F → (∀ q ∈ fl, q ∉ S) → Paired (FdAt H') fl F
  | _, _, .nil, _ => .nil
  | _, _, .cons h t, n => .cons (h.ch c (n _ (List.mem_cons_self ..))) (flds_ch c t fun q hq => n q (List.mem_cons_of_mem _ hq))
theorem Cel.ch {CC : Addr} {S : List Addr} {H H' : Hp} {a : CAd} {p : PC} {B : Nat} (h : Cel CC H a p B) (c : Ch S H H') (n : ∀ b ∈ S, b ∉ a.foot ∧ b ≠ a.C) : Cel CC H' a p B := by
  have nf : ∀ b ∈ a.foot, b ∉ S := fun b hb hs => (n b hs).1 hb
  have m : ∀ x ∈ [a.st, a.fi, a.wi, a.ke, a.cl], x ∉ S := fun x hx => nf x (List.mem_append_left _ hx)
  exact ⟨c.kp _ _ (fun z => (n _ z).2 rfl) h.hC, c.kp _ _ (m _ (by simp)) h.hst, c.kp _ _ (m _ (by simp)) h.hfi, c.kp _ _ (m _ (by simp)) h.hwi, c.kp _ _ (m _ (by simp)) h.hke, c.kp _ _ (m _ (by simp)) h.hcl,
    flds_ch c h.hfl fun q hq => nf q (List.mem_append_right _ hq), h.nd, h.nC, h.sz⟩
/-- no tuple stands at an address of the cells -/
theorem Cel.foot_nt {CC : Addr} {H : Hp} {a : CAd} {p : PC} {B : Nat} (h : Cel CC H a p B) : ∀ b ∈ a.foot, ∃ u, H b = some u ∧ ∀ xs, u ≠ .tup xs := by
  intro b hb
  have key : ∀ {fl : List Addr} {F : List (List (Str × Nat × Bool))}, Paired (FdAt H) fl F → b ∈ fl → ∃ kvs, H b = some (.dK kvs) := by
    intro fl F hp
    induction hp with
    | nil => intro z; cases z
    | cons h1 h2 ih =>
      intro z
      rcases List.mem_cons.mp z with z | z
      · obtain ⟨kvs, hq, _⟩ := h1
        exact ⟨kvs, by rw [z]; exact hq⟩
      · exact ih z
  rcases List.mem_append.mp hb with hb | hb
  · simp only [List.mem_cons, List.not_mem_nil, or_false] at hb
    rcases hb with rfl | rfl | rfl | rfl | rfl
    · exact ⟨_, h.hst, fun xs z => by cases z⟩
    · exact ⟨_, h.hfi, fun xs z => by cases z⟩
    · exact ⟨_, h.hwi, fun xs z => by cases z⟩
    · exact ⟨_, h.hke, fun xs z => by cases z⟩
    · exact ⟨_, h.hcl, fun xs z => by cases z⟩
  · obtain ⟨kvs, hq⟩ := key h.hfl hb
    exact ⟨_, hq, fun xs z => by cases z⟩
end G

set_option linter.all false
namespace G
open PySem PySem.Spec PyProof.Rows L2
def top (i : Nat) : Stmt := PySem.Challenge.pw_maybegone_k01_first_errors.main.body.getD i (.Pass ⟨0, 0, 0, 0⟩)
end G

set_option Elab.async false
set_option linter.all false
set_option maxRecDepth 100000
set_option maxHeartbeats 4000000
namespace G
open PySem PySem.Spec PyProof.Rows L2
/-! ### the deck's def -/
abbrev s__law_deck : Stmt := top 42
abbrev n__law_deck : List Str := ["_law_script", "_law_cell"]
theorem sc__law_deck : FnScope n__law_deck ["_law_script"] (defScope s__law_deck) := ⟨rfl, rfl, rfl, by decide +kernel, rfl, by decide +kernel, by decide +kernel⟩
def spDeck (K : PySem.W.Frag) : Sp := fun vs H Q _ => ∃ (a : Addr) (ns : List Int), vs = [.ref a] ∧ SqL K H a (ns.map V.int) ∧ ns.length ≤ 63 ∧ ∀ H' D L, Same H H' → Deck H' D L 0 → H D = none → H L = none → Q (.ref D) H'
section
variable {P : Program} {w : World} {K : PySem.W.Frag} {mg : Str → Option Value} {base : Heap}
theorem ok_deck {f : Addr} {fd : FuncData} {k : Nat} (F : Fun K "_law_deck" "_law_deck" s__law_deck f fd) (T : Bi mg) : FnOk P w K mg base CX0 (k + 1) f fd ["_law_script"] (spDeck K) := by
  refine F.ok sc__law_deck (fun vs H Q E h => ?_) (fun cdv A outer s H vs Q E hr h => ?_)
  · obtain ⟨a, ns, rfl, _⟩ := h
    rfl
  obtain ⟨a, ns, rfl, hS, hlen, q⟩ := h
  refine ⟨_, (pss_one (ps_ret (pe_lst (pa_cons (pe_lc (own := [("_law_cell", 1)]) (by rfl) sc__law_deck.nd (pi_list (pe_slice sl_list (pv 0) po_none (po_some pe_int))) (blkOk_by (N := n__law_deck) (sc := defScope s__law_deck) (by decide +kernel)) (fun _ _ _ _ _ => (pg_name (i := 1) sc__law_deck.nd rfl (.inl rfl))) (fun _ _ _ _ _ => pts_nil) (fun _ _ _ _ _ => (pe_callB call_abs (by rfl) T.z_abs (by decide +kernel) (pa_cons (pv 1) pa_nil)))) (pa_cons pe_int pa_nil))))), ?_⟩
  refine ⟨_, rfl, _, rfl, a, ns.map V.int, rfl, hS, fun c nc => ?_⟩
  refine ⟨c, rfl, ⟨_, SqL.of upd_same⟩, fun L nL => ?_⟩
  have ec : cutV (ns.map V.int) none (some 63) = ns.map V.int := cut_all (by rw [List.length_map]; exact hlen)
  rw [ec] at nL ⊢
  have sc : Same H (upd H c (.lst (ns.map V.int))) := (Kp.new (Kp.refl [] H) nc).toSame
  have ncL : c ≠ L := fun e => by rw [← e, upd_same] at nL; cases nL
  refine lc_list (K := K) (a := c) (xs := ns.map V.int) (fun i H' => Kp [L] (upd H c (.lst (ns.map V.int))) H' ∧ H' L = some (.lst (((ns.map iabs).take i).map V.int)))
    ⟨(Kp.refl _ _).new nL, upd_same⟩ (fun i H' _ h => SqL.of (h.1 c _ (by simpa using ncL) upd_same)) ?_ ?_
  · rintro i x H' hi ⟨sm, hL⟩
    obtain ⟨u, eu, rfl⟩ : ∃ u, ns[i]? = some u ∧ V.int u = x := by simpa using hi
    refine ⟨rfl, .int u, rfl, u, rfl, _, hL, ?_, sm.put (by simp), ?_⟩
    · rw [List.length_map, List.length_take]
      exact small1000 (by rw [List.length_map]; omega)
    · rw [upd_same, take_step (x := iabs u) (by simp [eu]), List.map_append]
      rfl
  · rintro H' ⟨sm, hL⟩
    have sm1 : Same (upd H c (.lst (ns.map V.int))) H' := (sm.fresh nL).toSame
    refine ⟨by show 2 ≤ sizeLine; exact line1000 (by decide), fun D nD => ?_⟩
    rw [List.length_map, List.take_of_length_le (by rw [List.length_map]; exact Nat.le_refl _)] at hL
    have neDL : D ≠ L := (ne_of_none hL nD).symm
    have s2 : Same H (upd H' D (.lst [.ref L, .int 0])) := (Kp.new (S := []) (Kp.same (sc.trans sm1)) nD).toSame
    refine q _ D L s2 ⟨neDL, 0, ns.map iabs, upd_same, by rw [upd_ne neDL.symm]; exact hL, Int.le_refl _, Int.le_refl _, by rw [List.length_map]; exact hlen, fun x hx => ?_⟩ ?_ (sc.free nL)
    · obtain ⟨y, _, rfl⟩ := List.mem_map.mp hx
      exact iabs_nonneg y
    · exact (sc.trans sm1).free nD

/-! ### a draw -/
abbrev s__law_draw : Stmt := top 43
abbrev n__law_draw : List Str := ["_law_deck_here", "_law_many", "_law_cell", "_law_at", "_law_mixed"]
theorem sc__law_draw : FnScope n__law_draw ["_law_deck_here", "_law_many"] (defScope s__law_draw) := ⟨rfl, rfl, rfl, by decide +kernel, rfl, by decide +kernel, by decide +kernel⟩
def spDraw : Sp := fun vs H Q _ => ∃ (D L : Addr) (n : Nat) (many : Int), vs = [.ref D, .int many] ∧ Deck H D L n ∧ n < 10 ^ 12 ∧ 1 ≤ many ∧ many < 1073741824 ∧
  ∀ H' r, Kp [D, L] H H' → Deck H' D L (n + 1) → 0 ≤ r → r < many → Q (.int r) H'
theorem ok_draw {f : Addr} {fd : FuncData} {k : Nat} (F : Fun K "_law_draw" "_law_draw" s__law_draw f fd) (T : Bi mg) : FnOk P w K mg base CX0 (k + 1) f fd ["_law_deck_here", "_law_many"] spDraw := by
  refine F.ok sc__law_draw (fun vs H Q E h => ?_) (fun cdv A outer s H vs Q E hr h => ?_)
  · obtain ⟨D, L, n, many, rfl, _⟩ := h
    rfl
  obtain ⟨D, L, n, many, rfl, hD, hn, hm1, hm2, q⟩ := h
  refine ⟨_, (pss_cons (ps_asg (pe_op op_add (pe_ix ix_list (pv 0) pe_int (fun _ _ => rfl)) pe_int) (pg_sub (pv 0) pe_int set_list))
      (pss_cons (ps_asg (pe_tup (pa_cons pe_int (pa_cons (pe_un un_neg pe_int) pa_nil))) (pg_tup rfl (pgs_cons (pg_name (i := 2) sc__law_draw.nd rfl (.inl rfl)) (pgs_cons (pg_name (i := 3) sc__law_draw.nd rfl (.inl rfl)) pgs_nil))))
      (pss_cons (ps_if (pt_cmpR op_gt (pe_callB call_len_seq (by rfl) T.z_len (by decide +kernel) (pa_cons (pe_ix ix_list (pv 0) pe_int (fun _ _ => rfl)) pa_nil)) pe_int (nomark _))
      (pss_cons (ps_set (i := 3) sc__law_draw.nd rfl (.inl rfl) (pe_op op_modN (pe_callTy call_int1 (by rfl) T.z_int (by decide +kernel) (pa_cons (pe_ix ix_list (pv 0) pe_int (fun _ _ => rfl)) pa_nil)) (pe_callB call_len_seq (by rfl) T.z_len (by decide +kernel) (pa_cons (pe_ix ix_list (pv 0) pe_int (fun _ _ => rfl)) pa_nil))))
      (pss_one (ps_set (i := 2) sc__law_draw.nd rfl (.inl rfl) (pe_ix ix_list (pe_ix ix_list (pv 0) pe_int (fun _ _ => rfl)) (pv 3) (fun _ _ => rfl)))))
      pss_nil)
      (pss_cons (ps_if (pt_cmpR op_ge (pv 2) (pe_op op_pow pe_int pe_int) (nomark _))
      (pss_cons (ps_asg (pe_op op_fdivN (pe_callTy call_int1 (by rfl) T.z_int (by decide +kernel) (pa_cons (pv 2) pa_nil)) (pv 1)) (pg_sub (pe_ix ix_list (pv 0) pe_int (fun _ _ => rfl)) (pv 3) set_list))
      (pss_one (ps_ret (pe_op op_modN (pe_callTy call_int1 (by rfl) T.z_int (by decide +kernel) (pa_cons (pv 2) pa_nil)) (pv 1)))))
      pss_nil)
      (pss_cons (ps_set (i := 4) sc__law_draw.nd rfl (.inl rfl) (pe_op op_add (pe_op op_add (pe_op op_modN (pe_callTy call_int1 (by rfl) T.z_int (by decide +kernel) (pa_cons (pv 2) pa_nil)) pe_int) (pe_op op_mul pe_int (pe_ix ix_list (pv 0) pe_int (fun _ _ => rfl)))) pe_int))
      (pss_one (ps_ret (pe_op op_modN (pe_callTy call_int1 (by rfl) T.z_int (by decide +kernel) (pa_cons (pe_op op_modN (pe_callTy call_int1 (by rfl) T.z_int (by decide +kernel) (pa_cons (pe_op op_pow (pv 4) pe_int) pa_nil)) pe_int) pa_nil)) (pv 1))))))))), ?_⟩
  obtain ⟨ne, m, ns, h1, h2, h3, h4, h5, h6⟩ := hD
  have a1 : ∀ (l : Addr) (x : V), atI [V.ref l, x] 1 = some x := fun l x => atI_nat (j := 1) rfl
  have a0 : ∀ (l : Addr) (x : V), atI [V.ref l, x] 0 = some (V.ref l) := fun l x => atI_nat (j := 0) rfl
  -- deck[1] = deck[1] + 1
  refine ⟨.ref D, rfl, D, _, 1, _, rfl, rfl, SqL.of h1, a1 _ _, m, 1, rfl, rfl, ?_⟩
  refine ⟨.ref D, rfl, D, _, 1, 1, rfl, rfl, h1, rfl, ?_⟩
  have e1 : ([V.ref L, V.int m].set 1 (V.int (m + 1))) = [V.ref L, V.int (m + 1)] := rfl
  rw [e1]
  obtain ⟨H1, hH1⟩ : ∃ H1, H1 = upd H D (.lst [V.ref L, V.int (m + 1)]) := ⟨_, rfl⟩
  rw [← hH1]
  have k1 : Kp [D, L] H H1 := by rw [hH1]; exact (Kp.refl _ _).put (by simp)
  have g1 : H1 D = some (.lst [V.ref L, V.int (m + 1)]) := by rw [hH1, upd_same]
  have g2 : H1 L = some (.lst (ns.map V.int)) := by rw [hH1, upd_ne ne.symm]; exact h2
  -- _law_cell, _law_at = (0, -1)
  refine ⟨1, rfl, by show 2 ≤ sizeLine; exact line1000 (by decide), fun p np => ?_⟩
  refine ⟨p, _, rfl, SqT.of upd_same, rfl, _, _, rfl, _, _, rfl, rfl, ?_⟩
  have npD : D ≠ p := ne_of_none g1 np
  have npL : L ≠ p := ne_of_none g2 np
  obtain ⟨H2, hH2⟩ : ∃ H2, H2 = upd H1 p (.tup [V.int 0, V.int (-1)]) := ⟨_, rfl⟩
  rw [← hH2]
  have k2 : Kp [D, L] H H2 := by rw [hH2]; exact k1.new np
  have f1 : H2 D = some (.lst [V.ref L, V.int (m + 1)]) := by rw [hH2, upd_ne npD]; exact g1
  have f2 : H2 L = some (.lst (ns.map V.int)) := by rw [hH2, upd_ne npL]; exact g2
  -- if len(deck[0]) > 0
  refine ⟨.ref D, rfl, D, _, 0, _, rfl, rfl, SqL.of f1, a0 _ _, L, _, rfl, .inl (SqL.of f2), _, _, rfl, rfl, _, rfl, ite2 (fun c => ?w1) (fun c => ?w2)⟩
  case' w1 =>
    have hpos : (0 : Int) < ((ns.map V.int).length : Int) := of_decide_eq_true c
    have hlen : (ns.map V.int).length = ns.length := List.length_map _
    refine ⟨.ref D, rfl, D, _, 1, _, rfl, rfl, SqL.of f1, a1 _ _, .inl ⟨_, rfl, .ref D, rfl, D, _, 0, _, rfl, rfl, SqL.of f1, a0 _ _, L, _, rfl, .inl (SqL.of f2), m + 1, _, rfl, rfl, by omega, ?_⟩⟩
    obtain ⟨at_, eat⟩ : ∃ at_, at_ = (m + 1).fmod ((ns.map V.int).length : Int) := ⟨_, rfl⟩
    dsimp only
    rw [← eat]
    rw [Int.fmod_eq_emod_of_nonneg _ (by omega)] at eat
    have b0 : 0 ≤ at_ := by rw [eat]; exact Int.emod_nonneg _ (by omega)
    have b1 : at_ < (ns.length : Int) := by rw [eat, hlen]; exact Int.emod_lt_of_pos _ (by omega)
    have b2 : at_.toNat < ns.length := by omega
    have hat : atI (ns.map V.int) at_ = some (.int ns[at_.toNat]) := by
      have z := atI_nat (xs := ns.map V.int) (j := at_.toNat) (v := .int ns[at_.toNat]) (by simp)
      rwa [show ((at_.toNat : Nat) : Int) = at_ by omega] at z
    refine ⟨.ref D, rfl, D, _, 0, _, rfl, rfl, SqL.of f1, a0 _ _, .int at_, rfl, L, _, at_, _, rfl, rfl, SqL.of f2, hat, ?_⟩
    have hc0 : 0 ≤ ns[at_.toNat] := h6 _ (List.getElem_mem b2)
    have hcat : 10 ^ 18 ≤ ns[at_.toNat] → 0 ≤ at_ ∧ at_.toNat < ns.length := fun _ => ⟨b0, b2⟩
    obtain ⟨cell, ecell⟩ : ∃ cell, cell = ns[at_.toNat] := ⟨_, rfl⟩
    rw [← ecell] at hc0 hcat ⊢
    clear c
  case' w2 =>
    obtain ⟨cell, ecell⟩ : ∃ cell : Int, cell = 0 := ⟨_, rfl⟩
    obtain ⟨at_, eat⟩ : ∃ at_ : Int, at_ = -1 := ⟨_, rfl⟩
    have hc0 : 0 ≤ cell := by omega
    have hcat : 10 ^ 18 ≤ cell → 0 ≤ at_ ∧ at_.toNat < ns.length := fun z => by omega
    clear c
    show tSeq _ _ _ [some (.ref D), some (.int many), some (.int 0), some (.int (-1)), none] H2
    rw [show (some (V.int 0) : Option V) = some (V.int cell) by rw [ecell], show (some (V.int (-1)) : Option V) = some (V.int at_) by rw [eat]]
  all_goals
    refine ⟨_, rfl, ⟨10, 18, rfl, rfl, ⟨by omega, by omega, by decide⟩, ?_⟩⟩
    refine ⟨_, _, rfl, rfl, _, rfl, ite2 (fun c => ?_) (fun c => ?_)⟩
    · have c18 : (10 : Int) ^ 18 ≤ cell := of_decide_eq_true c
      obtain ⟨b0, b2⟩ := hcat c18
      refine ⟨_, rfl, .inl ⟨cell, rfl, .int many, rfl, cell, many, rfl, rfl, ⟨by omega, by omega⟩, ?_⟩⟩
      refine ⟨.ref D, rfl, D, _, 0, _, rfl, rfl, SqL.of f1, a0 _ _, .int at_, rfl, L, _, at_, at_.toNat, rfl, rfl, f2, ?_, ?_⟩
      · unfold ixN
        rw [if_pos b0, if_pos (by rw [List.length_map]; omega)]
      · refine ⟨_, rfl, .inl ⟨cell, rfl, .int many, rfl, cell, many, rfl, rfl, by omega, ?_⟩⟩
        dsimp only
        rw [Int.fmod_eq_emod_of_nonneg _ (by omega), Int.fdiv_eq_ediv_of_nonneg _ (by omega)]
        refine q _ _ (k2.put (by simp)) ⟨ne, m + 1, ns.set at_.toNat (cell / many), by rw [upd_ne ne]; exact f1, by rw [upd_same, List.map_set], by omega, by omega, by rw [List.length_set]; exact h5, fun x hx => ?_⟩ (Int.emod_nonneg _ (by omega)) (Int.emod_lt_of_pos _ (by omega))
        rcases List.mem_or_eq_of_mem_set hx with hx | hx
        · exact h6 x hx
        · rw [hx]
          exact Int.ediv_nonneg hc0 (by omega)
    · refine ⟨_, rfl, .inl ⟨cell, rfl, cell, 2147483563, rfl, rfl, by omega, .ref D, rfl, D, _, 1, _, rfl, rfl, SqL.of f1, a1 _ _, 8117, m + 1, rfl, rfl, .inl ⟨by omega, by omega⟩, _, _, rfl, rfl, _, 3, rfl, rfl, ?_⟩⟩
      have t1 : cell.fmod 2147483563 = cell % 2147483563 := Int.fmod_eq_emod_of_nonneg _ (by omega)
      have z1 : 0 ≤ cell % 2147483563 := Int.emod_nonneg _ (by omega)
      have z2 : cell % 2147483563 < 2147483563 := Int.emod_lt_of_pos _ (by omega)
      dsimp only
      rw [t1]
      obtain ⟨mx, emx⟩ : ∃ mx, mx = cell % 2147483563 + 8117 * (m + 1) + 3 := ⟨_, rfl⟩
      rw [← emx]
      refine ⟨.int mx, rfl, mx, 5, rfl, rfl, ⟨by omega, by omega, by omega⟩, ?_⟩
      refine .inl ⟨_, rfl, _, 2147483629, rfl, rfl, by omega, .inl ⟨_, rfl, .int many, rfl, _, many, rfl, rfl, by omega, ?_⟩⟩
      dsimp only
      rw [Int.fmod_eq_emod_of_nonneg _ (by omega : (0 : Int) ≤ many)]
      exact q _ _ k2 ⟨ne, m + 1, ns, f1, f2, by omega, by omega, h5, h6⟩ (Int.emod_nonneg _ (by omega)) (Int.emod_lt_of_pos _ (by omega))
end
end G

set_option Elab.async false
set_option linter.all false
set_option maxRecDepth 100000
set_option maxHeartbeats 4000000
namespace G
open PySem PySem.Spec PyProof.Rows L2
abbrev s__law_one : Stmt := top 44
abbrev n__law_one : List Str := ["_law_deck_here", "_law_items"]
theorem sc__law_one : FnScope n__law_one ["_law_deck_here", "_law_items"] (defScope s__law_one) := ⟨rfl, rfl, rfl, by decide +kernel, rfl, by decide +kernel, by decide +kernel⟩
/-- one of the items of a list (that is no part of the deck), of a tuple, or one sign of a text -/
def spOne (K : PySem.W.Frag) : Sp := fun vs H Q _ => ∃ (D L : Addr) (n : Nat) (v : V), vs = [.ref D, v] ∧ Deck H D L n ∧ n < 10 ^ 12 ∧
  ((∃ (a : Addr) (xs : List V), v = .ref a ∧ ((SqL K H a xs ∧ a ∉ [D, L]) ∨ (SqT K H a xs ∧ a ∉ [D, L])) ∧ 0 < xs.length ∧ xs.length ≤ 1000 ∧ ∀ H' y, Kp [D, L] H H' → Deck H' D L (n + 1) → y ∈ xs → Q y H') ∨
   (∃ z : Str, v = .str z ∧ 0 < z.length ∧ z.length ≤ 1000 ∧ ∀ H' c, Kp [D, L] H H' → Deck H' D L (n + 1) → c ∈ z.cps.toList → Q (.str ⟨#[c]⟩) H'))
theorem Kp.seqT {K : PySem.W.Frag} {S : List Addr} {a : Addr} {H H' : Hp} {xs : List V} (k : Kp S H H') (d : a ∉ S) (h : SqT K H a xs) : SqT K H' a xs := by
  rcases h with (h | ⟨o, h⟩) | h
  · exact .inl (.inl (k _ _ d h))
  · exact .inl (.inr ⟨o, k _ _ d h⟩)
  · exact .inr h
theorem atI_in {α : Type} {xs : List α} {r : Int} (h0 : 0 ≤ r) (h1 : r < (xs.length : Int)) : ∃ y, atI xs r = some y ∧ y ∈ xs := by
  have b : r.toNat < xs.length := by omega
  refine ⟨xs[r.toNat], ?_, List.getElem_mem b⟩
  have z := atI_nat (xs := xs) (j := r.toNat) (v := xs[r.toNat]) (List.getElem?_eq_getElem b)
  rwa [show ((r.toNat : Nat) : Int) = r by omega] at z
section
variable {P : Program} {w : World} {K : PySem.W.Frag} {mg : Str → Option Value} {base : Heap}
theorem ok_one {f f1 : Addr} {fd fd1 : FuncData} {k : Nat} (F : Fun K "_law_one" "_law_one" s__law_one f fd) (T : Bi mg) (G1 : FnOk P w K mg base CX0 k f1 fd1 ["_law_deck_here", "_law_many"] spDraw) (k1 : PySem.W.keepIn K (.ref f1) = true)
    (b1 : Binds K fd1 ["_law_deck_here", "_law_many"] []) (m1 : mg "_law_draw" = some (.ref f1)) : FnOk P w K mg base CX0 (k + 1) f fd ["_law_deck_here", "_law_items"] (spOne K) := by
  refine F.ok sc__law_one (fun vs H Q E h => ?_) (fun cdv A outer s H vs Q E hr h => ?_)
  · obtain ⟨D, L, n, v, rfl, _⟩ := h
    rfl
  obtain ⟨D, L, n, v, rfl, hD, hn, h⟩ := h
  refine ⟨_, (pss_one (ps_ret (pe_ix ix_seq (pv 1) (pe_call G1 hr (by rfl) m1 k1 b1 .nil pass0 (pa_cons (pv 0) (pa_cons (pe_callB call_len (by rfl) T.z_len (by decide +kernel) (pa_cons (pv 1) pa_nil)) pa_nil))) (fun _ _ => rfl)))), ?_⟩
  rcases h with ⟨a, xs, rfl, h, h0, hz, q⟩ | ⟨z, rfl, h0, hz, q⟩
  · refine ⟨.ref a, rfl, .ref D, rfl, .ref a, rfl, .ref a, xs.length, rfl, ?_, D, L, n, _, rfl, hD, hn, by omega, by omega, fun H' r kp hD' r0 r1 => ?_⟩
    · rcases h with h | h
      · exact .inl ⟨xs, h.1, rfl⟩
      · exact .inr ⟨xs, h.1, rfl⟩
    · obtain ⟨y, ey, hy⟩ := atI_in r0 r1
      rcases h with h | h
      · exact .inl ⟨a, xs, r, y, rfl, rfl, kp.seq h.2 h.1, ey, q H' y kp hD' hy⟩
      · exact .inr (.inl ⟨a, xs, r, y, rfl, rfl, kp.seqT h.2 h.1, ey, q H' y kp hD' hy⟩)
  · refine ⟨.str z, rfl, .ref D, rfl, .str z, rfl, .str z, z.length, rfl, ⟨line1000 hz, rfl⟩, D, L, n, _, rfl, hD, hn, by omega, by omega, fun H' r kp hD' r0 r1 => ?_⟩
    obtain ⟨c, ec, hc⟩ := atI_in (xs := z.cps.toList) r0 (by rw [Array.length_toList]; exact r1)
    exact .inr (.inr ⟨z, r, c, rfl, rfl, line1000 hz, ec, q H' c kp hD' hc⟩)
end
end G

set_option Elab.async false
set_option linter.all false
set_option maxRecDepth 100000
set_option maxHeartbeats 4000000
/-! Programs as data, drawn: names, tests, statements. -/
namespace G
open PySem PySem.Spec PyProof.Rows L2
structure Df (K : PySem.W.Frag) (mg : Str → Option Value) (x : Str) (st : Stmt) (ps : List Str) (f : Addr) (fd : FuncData) : Prop where
  F : Fun K x x st f fd
  b : Binds K fd ps []
  m : mg x = some (.ref f)
mutual
inductive TD (H : Hp) : V → PyData → Prop
  | non : TD H .non .none
  | bl (b : Bool) : TD H (.bl b) (.bool b)
  | int (i : Int) : TD H (.int i) (.int i)
  | str (x : Str) : TD H (.str x) (.str x)
  | tup {a : Addr} {xs : List V} {ds : List PyData} : H a = some (.tup xs) → TDs H xs ds → TD H (.ref a) (.tuple ds)
inductive TDs (H : Hp) : List V → List PyData → Prop
  | nil : TDs H [] []
  | cons {v : V} {vs : List V} {d : PyData} {ds : List PyData} : TD H v d → TDs H vs ds → TDs H (v :: vs) (d :: ds)
end
mutual
theorem TD.ch {S : List Addr} {H H' : Hp} (c : Ch S H H') : ∀ (d : PyData) (v : V), TD H v d → TD H' v d
  | .none, _, h => by cases h; exact .non
  | .bool b, _, h => by cases h; exact .bl b
  | .int i, _, h => by cases h; exact .int i
  | .str x, _, h => by cases h; exact .str x
  | .list ds, _, h => nomatch h
  | .tuple ds, _, h => by
    cases h with
    | tup h1 h2 => exact .tup (c.tu _ _ h1) (TDs.ch c ds _ h2)
  | .dict _, _, h => nomatch h
theorem TDs.ch {S : List Addr} {H H' : Hp} (c : Ch S H H') : ∀ (ds : List PyData) (vs : List V), TDs H vs ds → TDs H' vs ds
  | [], _, h => by cases h; exact .nil
  | d :: ds, _, h => by
    cases h with
    | cons h1 h2 => exact .cons (TD.ch c d _ h1) (TDs.ch c ds _ h2)
end
theorem TDs.snoc {H : Hp} : ∀ {vs : List V} {ds : List PyData} {v : V} {d : PyData}, TDs H vs ds → TD H v d → TDs H (vs ++ [v]) (ds ++ [d])
  | _, _, _, _, .nil, h => .cons h .nil
  | _, _, _, _, .cons h1 h2, h => .cons h1 (h2.snoc h)
theorem TDs.append {H : Hp} : ∀ {a : List V} {da : List PyData} {b : List V} {db : List PyData}, TDs H a da → TDs H b db → TDs H (a ++ b) (da ++ db)
  | _, _, _, _, .nil, h => h
  | _, _, _, _, .cons h1 h2, h => .cons h1 (h2.append h)
theorem TDs.len {H : Hp} : ∀ {vs : List V} {ds : List PyData}, TDs H vs ds → vs.length = ds.length
  | _, _, .nil => rfl
  | _, _, .cons _ t => by rw [List.length_cons, List.length_cons, t.len]
theorem TDs.mem {H : Hp} : ∀ {vs : List V} {ds : List PyData}, TDs H vs ds → ∀ v ∈ vs, ∃ d ∈ ds, TD H v d
  | _, _, .nil, v, h => nomatch h
  | _, _, .cons h1 h2, v, h => by
    rcases List.mem_cons.mp h with rfl | h
    · exact ⟨_, List.mem_cons_self .., h1⟩
    · obtain ⟨d, hd, t⟩ := h2.mem v h
      exact ⟨d, List.mem_cons_of_mem _ hd, t⟩
/-! ### on paper -/
inductive Tst
  | given (i : Nat)
  | set (x : Str)
  | same (x y : Str)
  | full (x f : Str)
  | wished (w : Str)
  | not (t : Tst)
def Tst.depth : Tst → Nat
  | .not t => t.depth + 1
  | _ => 0
def Tst.data : Tst → PyData
  | .given i => .tuple [.str "given", .int i]
  | .set x => .tuple [.str "set", .str x]
  | .same x y => .tuple [.str "same", .str x, .str y]
  | .full x f => .tuple [.str "full", .str x, .str f]
  | .wished w => .tuple [.str "wished", .str w]
  | .not t => .tuple [.str "not", t.data]
inductive Act
  | make (x : Str)
  | wish (x w : Str)
  | keep (x : Str)
  | name (x y : Str)
  | drop (x : Str)
  | hold (x f y : Str)
  | weak (x f y : Str)
  | cut (x f : Str)
  | take (z x f : Str)
  | say (w : Str)
  | ask (t : Tst)
def Act.data : Act → PyData
  | .make x => .tuple [.str "make", .str x]
  | .wish x w => .tuple [.str "wish", .str x, .str w]
  | .keep x => .tuple [.str "keep", .str x]
  | .name x y => .tuple [.str "name", .str x, .str y]
  | .drop x => .tuple [.str "drop", .str x]
  | .hold x f y => .tuple [.str "hold", .str x, .str f, .str y]
  | .weak x f y => .tuple [.str "weak", .str x, .str f, .str y]
  | .cut x f => .tuple [.str "cut", .str x, .str f]
  | .take z x f => .tuple [.str "take", .str z, .str x, .str f]
  | .say w => .tuple [.str "say", .str w]
  | .ask t => .tuple [.str "ask", t.data]
inductive Sta
  | act (a : Act)
  | cond (t : Tst) (y n : List Sta)
  | rep (k : Nat) (b : List Sta)
mutual
def Sta.data : Sta → PyData
  | .act a => a.data
  | .cond t y n => .tuple [.str "if", t.data, .tuple (blkData y), .tuple (blkData n)]
  | .rep k b => .tuple [.str "repeat", .int k, .tuple (blkData b)]
def blkData : List Sta → List PyData
  | [] => []
  | s :: r => s.data :: blkData r
end
theorem blkData_eq : ∀ b : List Sta, blkData b = b.map Sta.data
  | [] => rfl
  | s :: r => by
    show s.data :: blkData r = _
    rw [blkData_eq r]
    rfl
mutual
def Sta.size : Sta → Nat
  | .act _ => 1
  | .cond _ y n => 1 + (sizeB y + sizeB n)
  | .rep _ b => 1 + sizeB b
def sizeB : List Sta → Nat
  | [] => 0
  | s :: r => s.size + sizeB r
end
theorem sizeB_snoc (s : Sta) : ∀ b : List Sta, sizeB (b ++ [s]) = sizeB b + s.size
  | [] => by show s.size + 0 = 0 + s.size; omega
  | x :: r => by
    show x.size + sizeB (r ++ [s]) = x.size + sizeB r + s.size
    rw [sizeB_snoc s r]; omega
/-- a drawn text: short, of Unicode's signs -/
def Nm (x : Str) : Prop := x.length ≤ 8 ∧ OkS x
def Tst.nm : Tst → Prop
  | .given i => i < 4
  | .set x => Nm x
  | .same x y => Nm x ∧ Nm y
  | .full x y => Nm x ∧ Nm y
  | .wished x => Nm x
  | .not t => t.nm
def Tst.ok (t : Tst) : Prop := t.nm ∧ t.depth ≤ 3
def Act.nm : Act → Prop
  | .make x => Nm x
  | .wish x w => Nm x ∧ Nm w
  | .keep x => Nm x
  | .name x y => Nm x ∧ Nm y
  | .drop x => Nm x
  | .hold x f y => Nm x ∧ Nm f ∧ Nm y
  | .weak x f y => Nm x ∧ Nm f ∧ Nm y
  | .cut x f => Nm x ∧ Nm f
  | .take z x f => Nm z ∧ Nm x ∧ Nm f
  | .say w => Nm w
  | .ask t => t.ok
/-- statements so deep at most -/
def StaOk : Nat → Sta → Prop
  | _, .act a => a.nm
  | 0, _ => False
  | d + 1, .cond t y n => t.ok ∧ (∀ s ∈ y, StaOk d s) ∧ ∀ s ∈ n, StaOk d s
  | d + 1, .rep k b => k < 13 ∧ ∀ s ∈ b, StaOk d s
/-! ### texts that grow -/
theorem join_len (ys : List Str) (B : Nat) (h : ∀ y ∈ ys, y.length ≤ B) : (Txt.join "" ys).length ≤ ys.length * B := by
  rw [TL.join_eq]
  induction ys with
  | nil => exact Nat.zero_le _
  | cons y r ih =>
    have ih := ih fun z hz => h z (List.mem_cons_of_mem _ hz)
    have hy := h y (List.mem_cons_self ..)
    cases r with
    | nil =>
      show y.length ≤ 1 * B
      omega
    | cons z r =>
      show (y ++ ("" : Str) ++ Str.join "" (z :: r)).length ≤ ((z :: r).length + 1) * B
      rw [strLen_append, strLen_append, Nat.add_mul, Nat.one_mul]
      have e0 : ("" : Str).length = 0 := rfl
      omega
theorem sum_le (ys : List Str) (B : Nat) (h : ∀ y ∈ ys, y.length ≤ B) : (ys.map (·.length)).sum ≤ ys.length * B := by
  induction ys with
  | nil => exact Nat.zero_le _
  | cons y r ih =>
    have ih := ih fun z hz => h z (List.mem_cons_of_mem _ hz)
    have hy := h y (List.mem_cons_self ..)
    rw [List.map_cons, List.sum_cons, List.length_cons, Nat.add_mul, Nat.one_mul]
    omega
theorem join0_ok (ys : List Str) (h : ∀ y ∈ ys, OkS y) : OkS (Txt.join "" ys) := by
  rw [TL.join_eq]
  induction ys with
  | nil => exact OkS.of ""
  | cons y r ih =>
    have ih := ih fun z hz => h z (List.mem_cons_of_mem _ hz)
    have hy := h y (List.mem_cons_self ..)
    cases r with
    | nil => exact hy
    | cons z r => exact (hy.app (OkS.of "")).app ih
theorem sign_ok {c : Nat} {s : String} (h : c ∈ (Str.ofString s).cps.toList) : OkS ⟨#[c]⟩ := fun x hx => by
  have e : x = c := by simpa using hx
  rw [e]
  exact OkS.of s c h
/-- a new list of texts grows at a, one a turn, each turn takes at most c numbers of the deck -/
def GrowS (D L a : Addr) (H1 : Hp) (m c B : Nat) (i : Nat) (H' : Hp) : Prop := ∃ ys : List Str, Ch [a, D, L] H1 H' ∧ Deck H' D L (m + i * c) ∧ H' a = some (.lst (ys.map V.str)) ∧ ys.length = i ∧ ∀ y ∈ ys, y.length ≤ B ∧ OkS y
theorem GrowS.start {D L a : Addr} {H1 : Hp} {m c B : Nat} (d : Deck H1 D L m) (na : H1 a = none) : GrowS D L a H1 m c B 0 (upd H1 a (.lst [])) :=
  ⟨[], (Ch.refl _ _).new na, (d.new na).mono (by omega), upd_same, rfl, fun _ z => nomatch z⟩
theorem GrowS.step {D L a : Addr} {H1 H' H4 : Hp} {m c B i : Nat} {y : Str} (g : GrowS D L a H1 m c B i H') (hi : i < 1000) (kp : Ch [D, L] H' H4) (d : Deck H4 D L (m + i * c + c)) (ne : a ∉ [D, L]) (hy : y.length ≤ B) (ho : OkS y) :
    ∃ acc, H4 a = some (.lst acc) ∧ acc.length < sizeLine ∧ GrowS D L a H1 m c B (i + 1) (upd H4 a (.lst (acc ++ [.str y]))) := by
  obtain ⟨ys, k0, d0, ha, hl, hb⟩ := g
  have ne1 : a ≠ D := fun z => ne (by simp [z])
  have ne2 : a ≠ L := fun z => ne (by simp [z])
  have ha4 := kp.kp _ _ ne ha
  refine ⟨_, ha4, by rw [List.length_map, hl]; exact small1000 (by omega), ys ++ [y], (k0.trans (kp.mono fun b hb => List.mem_cons_of_mem _ hb)).put (by simp) ha4 (fun xs z => by cases z), ?_, ?_, by rw [List.length_append, hl]; rfl, fun z hz => ?_⟩
  · refine Deck.mono (n := m + i * c + c) ?_ (by rw [Nat.add_mul]; omega)
    exact d.kp (S := [a]) ((Kp.refl _ _).put (by simp)) (by simpa using ne1.symm) (by simpa using ne2.symm)
  · rw [upd_same, List.map_append]
    rfl
  · rcases List.mem_append.mp hz with hz | hz
    · exact hb z hz
    · rw [List.mem_singleton.mp hz]
      exact ⟨hy, ho⟩
theorem deck_ch {H H' : Hp} {D L : Addr} {n n' : Nat} (d : Deck H D L n) (d' : Deck H' D L n') (k : Kp [D, L] H H') : Ch [D, L] H H' := by
  obtain ⟨ne, m, ns, h1, h2, _⟩ := d
  obtain ⟨_, m', ns', g1, g2, _⟩ := d'
  refine ⟨k, fun b xs e => ?_, fun b o e => ?_⟩
  · refine k _ _ (fun z => ?_) e
    rcases List.mem_cons.mp z with rfl | z
    · rw [h1] at e; cases e
    · rw [List.mem_singleton.mp z, h2] at e; cases e
  · by_cases z : b ∈ [D, L]
    · rcases List.mem_cons.mp z with rfl | z
      · exact ⟨_, g1⟩
      · rw [List.mem_singleton.mp z]; exact ⟨_, g2⟩
    · exact ⟨o, k _ _ z e⟩
def rAddE : R2 := fun x y H Q => ∃ i j, x = .int i ∧ y = .int j ∧ ∀ z, z = i + j → Q (.int z) H
theorem op_addE {X : Cx} : OpR X (binaryOp .Add) rAddE := by
  intro pins s σ H x y v u Q I rx ry h
  obtain ⟨i, j, rfl, rfl, q⟩ := h
  exact op_add pins s σ H _ _ v u Q I rx ry ⟨i, j, rfl, rfl, q _ rfl⟩
end G

set_option Elab.async false
set_option linter.all false
set_option maxRecDepth 100000
set_option maxHeartbeats 4000000
/-! _law_kept, _law_name, _law_word. -/
namespace G
open PySem PySem.Spec PyProof.Rows L2
theorem cut7 (z : Str) (h : OkS z) : (cutS z none (some 7)).length ≤ 7 ∧ OkS (cutS z none (some 7)) := by
  have e : HT.sIx z.length z.length (some 7) ≤ 7 := by
    have := HT.sIx_nat z.length z.length 7
    show HT.sIx z.length z.length (some ((7 : Nat) : Int)) ≤ 7
    rw [this]
    exact Nat.min_le_left _ _
  constructor
  · show ((List.take _ _).toArray).size ≤ 7
    rw [List.size_toArray, List.length_take]
    omega
  · intro c hc
    unfold cutS at hc
    rw [List.toList_toArray] at hc
    exact h c (List.mem_of_mem_drop (List.mem_of_mem_take hc))
section
variable {P : Program} {w : World} {K : PySem.W.Frag} {mg : Str → Option Value} {base : Heap}
abbrev s__law_kept : Stmt := top 45
abbrev n__law_kept : List Str := ["_law_words"]
theorem sc__law_kept : FnScope n__law_kept [] (defScope s__law_kept) := ⟨rfl, rfl, rfl, by decide +kernel, rfl, by decide +kernel, by decide +kernel⟩
def spKept : Sp := fun vs H Q _ => vs = [] ∧ ∀ H' a (ws : List Str), Same H H' → H' a = some (.lst (ws.map V.str)) → Q (.ref a) H'
theorem ok_kept {f : Addr} {fd : FuncData} {k : Nat} (F : Fun K "_law_kept" "_law_kept" s__law_kept f fd) : FnOk P w K mg base CX0 (k + 1) f fd [] spKept := by
  refine F.ok sc__law_kept (fun vs H Q E ⟨ev, _⟩ => by rw [ev]; rfl) (fun cdv A outer s H vs Q E hr ⟨ev, q⟩ => ?_)
  subst ev
  refine ⟨_, (pss_cons (ps_set (i := 0) sc__law_kept.nd rfl (.inl rfl) pe_str)
      (pss_one (ps_ret (pe_bm0 PySem.F.plainAttrs_str PySem.F.slot_str_split PySem.F.type_str_split mt_words (pv 0))))), ?_⟩
  refine ⟨_, rfl, rfl, _, rfl, rfl, line1000 (by decide +kernel), fun p np => ?_⟩
  exact q _ p _ (Same.up np) upd_same
abbrev s__law_name : Stmt := top 46
abbrev n__law_name : List Str := ["_law_deck_here", "_law_letters", "_law_name_here", "_law_k"]
theorem sc__law_name : FnScope n__law_name ["_law_deck_here"] (defScope s__law_name) := ⟨rfl, rfl, rfl, by decide +kernel, rfl, by decide +kernel, by decide +kernel⟩
def spName : Sp := fun vs H Q _ => ∃ (D L : Addr) (n : Nat), vs = [.ref D] ∧ Deck H D L n ∧ n < 10 ^ 11 ∧ ∀ H' x, Kp [D, L] H H' → Deck H' D L (n + 12) → Nm x → Q (.str x) H'
theorem ok_name {f f1 f2 f3 : Addr} {fd fd1 fd2 fd3 : FuncData} (F : Fun K "_law_name" "_law_name" s__law_name f fd) (T : Bi mg)
    (D1 : Df K mg "_law_draw" s__law_draw ["_law_deck_here", "_law_many"] f1 fd1) (G1 : FnOk P w K mg base CX0 1 f1 fd1 ["_law_deck_here", "_law_many"] spDraw)
    (D2 : Df K mg "_law_one" s__law_one ["_law_deck_here", "_law_items"] f2 fd2) (G2 : FnOk P w K mg base CX0 2 f2 fd2 ["_law_deck_here", "_law_items"] (spOne K))
    (D3 : Df K mg "_law_kept" s__law_kept [] f3 fd3) (G3 : FnOk P w K mg base CX0 1 f3 fd3 [] spKept) : FnOk P w K mg base CX0 3 f fd ["_law_deck_here"] spName := by
  refine F.ok sc__law_name (fun vs H Q E ⟨D, L, n, ev, _⟩ => by rw [ev]; rfl) (fun cdv A outer s H vs Q E hr ⟨D, L, n, ev, hD, hn, q⟩ => ?_)
  subst ev
  have hr1 : Room 1 _ := hr.mono (by decide)
  refine ⟨_, (pss_cons (ps_set (i := 1) sc__law_name.nd rfl (.inl rfl) pe_str)
      (pss_cons (ps_set (i := 2) sc__law_name.nd rfl (.inl rfl) (pe_call G2 hr (by rfl) D2.m D2.F.kp D2.b .nil pass0 (pa_cons (pv 0) (pa_cons (pv 1) pa_nil))))
      (pss_cons (ps_for PassesOwn.never rfl (pi_range1 (by rfl) T.z_range (pa_cons (pe_call G2 hr (by rfl) D2.m D2.F.kp D2.b .nil pass0 (pa_cons (pv 0) (pa_cons (pe_lst (pa_cons pe_int (pa_cons pe_int (pa_cons pe_int (pa_cons (pe_call G1 hr1 (by rfl) D1.m D1.F.kp D1.b .nil pass0 (pa_cons (pv 0) (pa_cons pe_int pa_nil))) pa_nil))))) pa_nil))) pa_nil)) (pg_name (i := 3) sc__law_name.nd rfl (.inl rfl))
      (pss_one (ps_set (i := 2) sc__law_name.nd rfl (.inl rfl) (pe_op op_add_str (pv 2) (pe_call G2 hr (by rfl) D2.m D2.F.kp D2.b .nil pass0 (pa_cons (pv 0) (pa_cons (pe_op op_add_str (pv 1) pe_str) pa_nil)))))))
      (pss_one (ps_ret (pe_ifExp (pt_cmpR op_notIn_seq (pv 2) (pe_call0 G3 hr1 (by rfl) D3.m D3.F.kp D3.b .nil pass0) (by rfl)) (pv 2) (pe_op op_add_str (pe_slice sl_str (pv 2) po_none (po_some pe_int)) pe_str))))))), ?_⟩
  have lt26 : ∀ (H2 : Hp) (m : Nat) (z : String), Deck H2 D L m → m < 10 ^ 12 → 0 < (Str.ofString z).length → (Str.ofString z).length ≤ 1000 → ∀ (Q' : VK), (∀ H' c, Kp [D, L] H2 H' → Deck H' D L (m + 1) → OkS ⟨#[c]⟩ → Q' (.str ⟨#[c]⟩) H') → spOne K [.ref D, .str (Str.ofString z)] H2 Q' E0 := fun H2 m z d hm z0 z1 Q' h =>
    ⟨D, L, m, _, rfl, d, hm, .inr ⟨_, rfl, z0, z1, fun H' c k' d' hc => h H' c k' d' (sign_ok hc)⟩⟩
  refine ⟨.ref D, rfl, _, rfl, lt26 H n "abcdefghijklmnopqrstuvwxyz" hD (by omega) (by decide +kernel) (by decide +kernel) _ fun H1 c k1 hD1 oc => ?_⟩
  have sgn : ∀ {z : Str} {c : Nat}, OkS z → c ∈ z.cps.toList → OkS ⟨#[c]⟩ := fun {z c} hz hc x hx => by
    have e : x = c := by simpa using hx
    rw [e]
    exact hz c hc
  refine ⟨.ref D, rfl, .ref D, rfl, D, L, _, 8, rfl, hD1, by omega, by decide, by decide, fun H2 r k2 hD2 r0 r1 => ⟨line1000 (Nat.le_of_ble_eq_true rfl), fun l nl => ?_⟩⟩
  have hl : l ∉ [D, L] := by simpa using hD2.neD nl
  have s3 := Same.up (o := HO.lst [V.int 0, V.int 1, V.int 7, V.int r]) nl
  have hD3 := hD2.kp (Kp.same (S := []) s3) (fun z => nomatch z) (fun z => nomatch z)
  refine ⟨D, L, _, .ref l, rfl, hD3, by omega, .inl ⟨l, _, rfl,   .inl ⟨SqL.of upd_same, hl⟩, Nat.le_of_ble_eq_true rfl, Nat.le_of_ble_eq_true rfl, fun H4 y k4 hD4 hy => ?_⟩⟩
  obtain ⟨m, rfl, m0, m7⟩ : ∃ m : Int, y = .int m ∧ 0 ≤ m ∧ m ≤ 7 := by
    simp only [List.mem_cons, List.not_mem_nil, or_false] at hy
    rcases hy with rfl | rfl | rfl | rfl
    · exact ⟨0, rfl, by decide, by decide⟩
    · exact ⟨1, rfl, by decide, by decide⟩
    · exact ⟨7, rfl, by decide, by decide⟩
    · exact ⟨r, rfl, r0, by omega⟩
  have k14 : Kp [D, L] H H4 := k1.trans (k2.trans ((Kp.same s3).trans k4))
  clear k1 k2 s3 k4 hD3 hD2 hD1 nl
  refine ⟨m, rfl, by omega, by omega, for_range (lo := 0) (n := m.toNat) (fun i σ H' => Kp [D, L] H4 H' ∧ Deck H' D L (n + 3 + i) ∧ ∃ (x : Str) (x3 : Option V), x.length = 1 + i ∧ OkS x ∧ σ = [some (.ref D), some (.str "abcdefghijklmnopqrstuvwxyz"), some (.str x), x3])
    ⟨Kp.refl _ _, hD4, _, _, rfl, oc, rfl⟩ ?_ ?_⟩
  · rintro i σ H' hi ⟨kk, hD', x, x3, lx, ox, rfl⟩
    have o36 : OkS (Str.ofString "abcdefghijklmnopqrstuvwxyz" ++ Str.ofString "0123456789") := (OkS.of _).app (OkS.of _)
    refine ⟨_, rfl, .ref D, rfl, _, rfl, _, _, rfl, rfl, line1000 (by decide +kernel), D, L, _, _, rfl, hD', by omega, .inr ⟨_, rfl, by decide +kernel, by decide +kernel, fun H5 c5 k5 hD5 hc => ⟨_, _, rfl, rfl, line1000 (by show x.length + 1 ≤ 1000; omega), kk.trans k5, hD5, _, _, ?_, ox.app (sgn o36 hc), rfl⟩⟩⟩
    rw [strLen_append, lx]
    show 1 + i + 1 = 1 + (i + 1)
    omega
  · rintro σ H' ⟨kk, hD', x, x3, lx, ox, rfl⟩
    refine ⟨_, rfl, rfl, fun H5 a5 ws s5 g5 => ⟨a5, _, rfl, .inl (SqL.of g5), rfl, ?_, _, rfl, ite2 (fun _ => ⟨_, rfl, ?_⟩) (fun _ => ?_)⟩⟩
    · rw [List.all_eq_true]
      intro y hy
      obtain ⟨z, _, rfl⟩ := List.mem_map.mp hy
      rfl
    · exact q H5 x (k14.trans (kk.trans (Kp.same s5))) ((hD'.kp (Kp.same (S := []) s5) (fun z => nomatch z) (fun z => nomatch z)).mono (by omega)) ⟨by omega, ox⟩
    · obtain ⟨c1, c2⟩ := cut7 x ox
      refine ⟨_, rfl, _, rfl, _, rfl, line1000 (by omega), _, _, rfl, rfl, line1000 (by show (cutS x none (some 7)).length + 1 ≤ 1000; omega), ?_⟩
      exact q H5 _ (k14.trans (kk.trans (Kp.same s5))) ((hD'.kp (Kp.same (S := []) s5) (fun z => nomatch z) (fun z => nomatch z)).mono (by omega)) ⟨by rw [strLen_append]; show (cutS x none (some 7)).length + 1 ≤ 8; omega, c2.app (OkS.of "0")⟩
abbrev s__law_word : Stmt := top 47
abbrev n__law_word : List Str := ["_law_deck_here", "_law_signs", "_law_k"]
theorem sc__law_word : FnScope n__law_word ["_law_deck_here"] (defScope s__law_word) := ⟨rfl, rfl, rfl, by decide +kernel, rfl, by decide +kernel, by decide +kernel⟩
theorem ok_word {f f1 f2 : Addr} {fd fd1 fd2 : FuncData} (F : Fun K "_law_word" "_law_word" s__law_word f fd) (T : Bi mg)
    (D1 : Df K mg "_law_draw" s__law_draw ["_law_deck_here", "_law_many"] f1 fd1) (G1 : FnOk P w K mg base CX0 1 f1 fd1 ["_law_deck_here", "_law_many"] spDraw)
    (D2 : Df K mg "_law_one" s__law_one ["_law_deck_here", "_law_items"] f2 fd2) (G2 : FnOk P w K mg base CX0 2 f2 fd2 ["_law_deck_here", "_law_items"] (spOne K)) : FnOk P w K mg base CX0 3 f fd ["_law_deck_here"] spName := by
  refine F.ok sc__law_word (fun vs H Q E ⟨D, L, n, ev, _⟩ => by rw [ev]; rfl) (fun cdv A outer s H vs Q E hr ⟨D, L, n, ev, hD, hn, q⟩ => ?_)
  subst ev
  have hr1 : Room 1 _ := hr.mono (by decide)
  refine ⟨_, (pss_cons (ps_set (i := 1) sc__law_word.nd rfl (.inr rfl) pe_str)
      (pss_one (ps_ret (pe_join pe_str (pe_lc (te := tCall (spOne K) [] E0 (tCons (tVar 0) (tCons (tVar 1) tNil))) (own := [("_law_k", 2)]) (by rfl) sc__law_word.nd (pi_range1 (by rfl) T.z_range (pa_cons (pe_call G2 hr (by rfl) D2.m D2.F.kp D2.b .nil pass0 (pa_cons (pv 0) (pa_cons (pe_lst (pa_cons pe_int (pa_cons pe_int (pa_cons pe_int (pa_cons (pe_op op_addE pe_int (pe_call G1 hr1 (by rfl) D1.m D1.F.kp D1.b .nil pass0 (pa_cons (pv 0) (pa_cons pe_int pa_nil)))) pa_nil))))) pa_nil))) pa_nil)) (blkOk_by (N := n__law_word) (sc := defScope s__law_word) (by decide +kernel)) (fun _ _ _ _ _ => (pg_name (i := 2) sc__law_word.nd rfl (.inl rfl))) (fun _ _ _ _ _ => pts_nil) (fun _ _ _ _ _ => (pe_call G2 hr (by rfl) D2.m D2.F.kp D2.b .nil pass0 (pa_cons (pv 0) (pa_cons (pv 1) pa_nil))))))))), ?_⟩
  refine ⟨⟨_, rfl⟩, .ref D, rfl, .ref D, rfl, D, L, _, 8, rfl, hD, by omega, by decide, by decide, fun H2 r k2 hD2 r0 r1 => ⟨_, _, rfl, rfl, fun r' er => ⟨line1000 (Nat.le_of_ble_eq_true rfl), fun l nl => ?_⟩⟩⟩
  have hl : l ∉ [D, L] := by simpa using hD2.neD nl
  have s3 := Same.up (o := HO.lst [V.int 1, V.int 2, V.int 8, V.int r']) nl
  have hD3 := hD2.kp (Kp.same (S := []) s3) (fun z => nomatch z) (fun z => nomatch z)
  refine ⟨D, L, _, .ref l, rfl, hD3, by omega, .inl ⟨l, _, rfl, .inl ⟨SqL.of upd_same, hl⟩, Nat.le_of_ble_eq_true rfl, Nat.le_of_ble_eq_true rfl, fun H4 y k4 hD4 hy => ?_⟩⟩
  obtain ⟨m, rfl, m0, m7⟩ : ∃ m : Int, y = .int m ∧ 0 ≤ m ∧ m ≤ 8 := by
    simp only [List.mem_cons, List.not_mem_nil, or_false] at hy
    rcases hy with rfl | rfl | rfl | rfl
    · exact ⟨1, rfl, by decide, by decide⟩
    · exact ⟨2, rfl, by decide, by decide⟩
    · exact ⟨8, rfl, by decide, by decide⟩
    · exact ⟨r', rfl, by omega, by omega⟩
  have k14 : Kp [D, L] H H4 := k2.trans ((Kp.same s3).trans k4)
  clear k2 s3 k4 hD3 hD2 nl
  refine ⟨m, rfl, by omega, by omega, fun a na => ?_⟩
  have na1 : a ∉ [D, L] := by simpa using hD4.neD na
  refine lc_range (lo := 0) (n := m.toNat) (GrowS D L a H4 (n + 2) 1 1) (GrowS.start hD4 na) ?_ ?_
  · rintro i H' hi g
    obtain ⟨_, _, hD', _⟩ := id g
    refine ⟨rfl, .ref D, rfl, _, rfl, D, L, _, _, rfl, hD', by omega, .inr ⟨_, rfl, by decide +kernel, by decide +kernel, fun H5 c k5 d5 hc => ?_⟩⟩
    exact g.step (by omega) (deck_ch hD' d5 k5) d5 na1 (Nat.le_refl _) (sign_ok (s := "0123456789abcdefghijklmnopqrstuvwxyz") hc)
  · rintro H5 ⟨ys, c5, hD5, ha, hl5, hy5⟩
    have hy : ∀ y ∈ ys, y.length ≤ 1 := fun y h => (hy5 y h).1
    have ojn := join0_ok ys fun y h => (hy5 y h).2
    have hjn := join_len ys 1 hy
    refine ⟨"", a, ys, rfl, rfl, .inl (SqL.of ha), ?_, ?_⟩
    · have z := sum_le ys 1 hy
      have e0 : ("" : Str).length = 0 := rfl
      rw [e0, Nat.mul_zero]
      omega
    · exact q H5 _ (k14.trans (c5.kp.fresh na)) (hD5.mono (by omega)) ⟨by omega, ojn⟩
/-! ### the pool -/
def Pool (H : Hp) (D L a : Addr) (g : Int) : Prop := ∃ (N Wd : Addr) (ns ws : List Str), H a = some (.lst [.ref N, .ref Wd, .int g]) ∧ H N = some (.lst (ns.map V.str)) ∧ H Wd = some (.lst (ws.map V.str)) ∧ (∀ x ∈ ns, Nm x) ∧ (∀ x ∈ ws, Nm x) ∧ (0 < ns.length ∧ ns.length ≤ 5) ∧ (0 < ws.length ∧ ws.length ≤ 5) ∧ (0 ≤ g ∧ g < 4) ∧ a ∉ [D, L] ∧ N ∉ [D, L] ∧ Wd ∉ [D, L]
theorem Pool.kp {H H' : Hp} {D L a : Addr} {g : Int} (p : Pool H D L a g) (k : Kp [D, L] H H') : Pool H' D L a g := by
  obtain ⟨N, Wd, ns, ws, h1, h2, h3, h4, h5, h6, h7, h8, n1, n2, n3⟩ := p
  exact ⟨N, Wd, ns, ws, k _ _ n1 h1, k _ _ n2 h2, k _ _ n3 h3, h4, h5, h6, h7, h8, n1, n2, n3⟩
abbrev s__law_pool : Stmt := top 48
abbrev n__law_pool : List Str := ["_law_deck_here", "_law_names", "_law_k"]
theorem sc__law_pool : FnScope n__law_pool ["_law_deck_here"] (defScope s__law_pool) := ⟨rfl, rfl, rfl, by decide +kernel, rfl, by decide +kernel, by decide +kernel⟩
def spPool : Sp := fun vs H Q _ => ∃ (D L : Addr) (n : Nat), vs = [.ref D] ∧ Deck H D L n ∧ n < 9 * 10 ^ 10 ∧ ∀ H' a g, Kp [D, L] H H' → Deck H' D L (n + 200) → Pool H' D L a g → Q (.ref a) H'
theorem ok_pool {f f1 f2 f3 : Addr} {fd fd1 fd2 fd3 : FuncData} (F : Fun K "_law_pool" "_law_pool" s__law_pool f fd) (T : Bi mg)
    (D1 : Df K mg "_law_draw" s__law_draw ["_law_deck_here", "_law_many"] f1 fd1) (G1 : FnOk P w K mg base CX0 1 f1 fd1 ["_law_deck_here", "_law_many"] spDraw)
    (D2 : Df K mg "_law_name" s__law_name ["_law_deck_here"] f2 fd2) (G2 : FnOk P w K mg base CX0 3 f2 fd2 ["_law_deck_here"] spName)
    (D3 : Df K mg "_law_word" s__law_word ["_law_deck_here"] f3 fd3) (G3 : FnOk P w K mg base CX0 3 f3 fd3 ["_law_deck_here"] spName) : FnOk P w K mg base CX0 4 f fd ["_law_deck_here"] spPool := by
  refine F.ok sc__law_pool (fun vs H Q E ⟨D, L, n, ev, _⟩ => by rw [ev]; rfl) (fun cdv A outer s H vs Q E hr ⟨D, L, n, ev, hD, hn, q⟩ => ?_)
  subst ev
  have hr1 : Room 1 _ := hr.mono (by decide)
  refine ⟨_, (pss_cons (ps_setLc (i := 1) (te := tCall spName [] E0 (tCons (tVar 0) tNil)) (own := [("_law_k", 2)]) (by rfl) sc__law_pool.nd rfl rfl (sw_true rfl rfl rfl (by decide +kernel)) (pi_range1 (by rfl) T.z_range (pa_cons (pe_op op_addE pe_int (pe_call G1 hr1 (by rfl) D1.m D1.F.kp D1.b .nil pass0 (pa_cons (pv 0) (pa_cons pe_int pa_nil)))) pa_nil)) (blkOk_by (N := n__law_pool) (sc := defScope s__law_pool) (by decide +kernel)) (fun _ _ _ _ _ => (pg_name (i := 2) sc__law_pool.nd rfl (.inl rfl))) (fun _ _ _ _ _ => pts_nil) (fun _ _ _ _ _ => (pe_call G2 hr (by rfl) D2.m D2.F.kp D2.b .nil pass0 (pa_cons (pv 0) pa_nil))))
      (pss_one (ps_ret (pe_lst (pa_cons (pv 1) (pa_cons (pe_lc (te := tCall spName [] E0 (tCons (tVar 0) tNil)) (own := [("_law_k", 2)]) (by rfl) sc__law_pool.nd (pi_range1 (by rfl) T.z_range (pa_cons (pe_op op_addE pe_int (pe_call G1 hr1 (by rfl) D1.m D1.F.kp D1.b .nil pass0 (pa_cons (pv 0) (pa_cons pe_int pa_nil)))) pa_nil)) (blkOk_by (N := n__law_pool) (sc := defScope s__law_pool) (by decide +kernel)) (fun _ _ _ _ _ => (pg_name (i := 2) sc__law_pool.nd rfl (.inl rfl))) (fun _ _ _ _ _ => pts_nil) (fun _ _ _ _ _ => (pe_call G3 hr (by rfl) D3.m D3.F.kp D3.b .nil pass0 (pa_cons (pv 0) pa_nil)))) (pa_cons (pe_call G1 hr1 (by rfl) D1.m D1.F.kp D1.b .nil pass0 (pa_cons (pv 0) (pa_cons pe_int pa_nil))) pa_nil))))))), ?_⟩
  refine ⟨.ref D, rfl, D, L, _, 5, rfl, hD, by omega, by decide, by decide, fun H1 r k1 hD1 r0 r1 => ⟨_, _, rfl, rfl, fun m em => ⟨m, rfl, by omega, by omega, fun N nN => ?_⟩⟩⟩
  have neN : N ∉ [D, L] := by simpa using hD1.neD nN
  refine lc_range (lo := 0) (n := m.toNat) (GrowS D L N H1 (n + 1) 12 8) (GrowS.start hD1 nN) ?_ ?_
  · rintro i H' hi g
    obtain ⟨_, _, hD', _⟩ := id g
    refine ⟨rfl, .ref D, rfl, D, L, _, rfl, hD', by omega, fun H5 x k5 d5 hx => ?_⟩
    exact g.step (by omega) (deck_ch hD' d5 k5) d5 neN hx.1 hx.2
  rintro H2 ⟨ns, c2, hD2, gN, lN, hN⟩
  have k02 : Kp [D, L] H H2 := k1.trans (c2.kp.fresh nN)
  refine ⟨_, rfl, .ref D, rfl, D, L, _, 4, rfl, hD2, by omega, by decide, by decide, fun H3 r3 k3 hD3 r30 r31 => ⟨_, _, rfl, rfl, fun m3 em3 => ⟨m3, rfl, by omega, by omega, fun Wd nW => ?_⟩⟩⟩
  have neW : Wd ∉ [D, L] := by simpa using hD3.neD nW
  have gN3 := k3 _ _ neN gN
  have neNW : N ≠ Wd := fun z => by rw [← z, gN3] at nW; cases nW
  refine lc_range (lo := 0) (n := m3.toNat) (GrowS D L Wd H3 (n + 1 + m.toNat * 12 + 1) 12 8) (GrowS.start hD3 nW) ?_ ?_
  · rintro i H' hi g
    obtain ⟨_, _, hD', _⟩ := id g
    refine ⟨rfl, .ref D, rfl, D, L, _, rfl, hD', by omega, fun H5 x k5 d5 hx => ?_⟩
    exact g.step (by omega) (deck_ch hD' d5 k5) d5 neW hx.1 hx.2
  rintro H4 ⟨ws, c4, hD4, gW, lW, hW⟩
  have gN4 := c4.kp _ _ (by simp at neN ⊢; exact ⟨neNW, neN.1, neN.2⟩) gN3
  refine ⟨.ref D, rfl, D, L, _, 4, rfl, hD4, by omega, by decide, by decide, fun H5 g k5 hD5 g0 g1 => ⟨line1000 (Nat.le_of_ble_eq_true rfl), fun a na => ?_⟩⟩
  have s6 := Same.up (o := HO.lst [V.ref N, V.ref Wd, V.int g]) na
  refine q _ a g (k02.trans (k3.trans ((c4.kp.fresh nW).trans (k5.trans (Kp.same s6))))) ((hD5.kp (Kp.same (S := []) s6) (fun z => nomatch z) (fun z => nomatch z)).mono (by omega)) ⟨N, Wd, ns, ws, upd_same, s6 _ _ (k5 _ _ neN gN4), s6 _ _ (k5 _ _ neW gW), fun x hx => hN x hx, fun x hx => hW x hx, by omega, by omega, ⟨g0, g1⟩, by simpa using hD5.neD na, neN, neW⟩
end
end G

set_option Elab.async false
set_option linter.all false
set_option maxRecDepth 100000
set_option maxHeartbeats 4000000
/-! Written data: what an expression of tuples, texts and names gives. -/
namespace G
open PySem PySem.Spec PyProof.Rows L2 StX
abbrev CT := L2.St → Hp → Prop
def Stable (C : CT) : Prop := ∀ σ H H', Same H H' → C σ H → C σ H'
def MkE (C : CT) (te : TE) (d : PyData) : Prop := ∀ σ H Q, C σ H → (∀ H' v, Same H H' → TD H' v d → Q v H') → te σ H Q
def MkA (C : CT) (t : TA) (ds : List PyData) : Prop := ∀ σ H Q, C σ H → (∀ H' vs, Same H H' → TDs H' vs ds → Q vs H') → t σ H Q
variable {C : CT}
theorem mkA_nil : MkA C tNil [] := fun _ H Q _ q => q H [] (Same.refl _) .nil
theorem mkA_cons {te : TE} {t : TA} {d : PyData} {ds : List PyData} (hC : Stable C) (h : MkE C te d) (ht : MkA C t ds) : MkA C (tCons te t) (d :: ds) := fun σ H Q c q =>
  h σ H _ c fun H1 v s1 td => ht σ H1 _ (hC _ _ _ s1 c) fun H2 vs s2 tds => q H2 (v :: vs) (Same.trans s1 s2) (.cons (TD.ch (Ch.same (S := []) s2) _ _ td) tds)
theorem mk_tup {t : TA} {ds : List PyData} (ht : MkA C t ds) (hl : ds.length ≤ 1000) : MkE C (tTup t) (.tuple ds) := fun σ H Q c q =>
  ht σ H _ c fun H1 vs s1 tds => ⟨by rw [tds.len]; exact line1000 hl, fun p np => q _ _ (Same.trans s1 (Same.up np)) (.tup upd_same (TDs.ch (Ch.same (S := []) (Same.up np)) _ _ tds))⟩
theorem mk_str (x : Str) : MkE C (tC (.str x)) (.str x) := fun σ H Q _ q => q H _ (Same.refl _) (.str x)
theorem mk_int (i : Int) : MkE C (tC (.int i)) (.int i) := fun σ H Q _ q => q H _ (Same.refl _) (.int i)
theorem mk_bl (b : Bool) : MkE C (tC (.bl b)) (.bool b) := fun σ H Q _ q => q H _ (Same.refl _) (.bl b)
theorem mk_var {i : Nat} {d : PyData} (h : ∀ σ H, C σ H → ∃ v, σ[i]? = some (some v) ∧ TD H v d) : MkE C (tVar i) d := fun σ H Q c q => let ⟨v, e, td⟩ := h σ H c; ⟨v, e, q H v (Same.refl _) td⟩
theorem mk_nix {K : PySem.W.Frag} {i : Nat} {k : Nat} {x : Str} (h : ∀ σ H, C σ H → ∃ N xs, σ[i]? = some (some (.ref N)) ∧ H N = some (.lst xs) ∧ xs[k]? = some (.str x)) : MkE C (tOp (rIxL K) (tVar i) (tC (.int (k : Nat)))) (.str x) := fun σ H Q c q => by
  obtain ⟨N, xs, e, hN, hx⟩ := h σ H c
  exact ⟨.ref N, e, N, xs, _, _, rfl, rfl, SqL.of hN, atI_nat hx, q H _ (Same.refl _) (.str x)⟩
theorem lst_read {C : CT} {t : TA} {ds : List PyData} (ht : MkA C t ds) (hl : ds.length ≤ 1000) (σ : L2.St) (H : Hp) (Q : VK) (c : C σ H) (q : ∀ H' F xs, Same H H' → H' F = some (.lst xs) → TDs H' xs ds → H F = none → Q (.ref F) H') : tLst t σ H Q :=
  ht σ H _ c fun H1 vs s1 tds => ⟨by rw [tds.len]; exact line1000 hl, fun p np => q _ p vs (Same.trans s1 (Same.up np)) upd_same (TDs.ch (Ch.same (S := []) (Same.up np)) _ _ tds) (by
    cases e : H p with
    | none => rfl
    | some o => rw [s1 _ _ e] at np; cases np)⟩
/-- a written list of data, the data by what was drawn -/
def tMkL {α : Type} (D : α → CT × List PyData) : TE := fun σ H Q => ∃ a, (D a).1 σ H ∧ ∀ H' F xs, Same H H' → H' F = some (.lst xs) → TDs H' xs (D a).2 → H F = none → Q (.ref F) H'
theorem pe_mkL {X : Cx} {es : List Expr} {t : TA} {pos : Pos} {α : Type} (D : α → CT × List PyData) (h : PA X es t) (m : ∀ a, MkA (D a).1 t (D a).2) (hl : ∀ a, (D a).2.length ≤ 1000) : PE X (.List es pos) (tMkL D) :=
  ⟨fun pins s σ H Q I ⟨a, c, q⟩ => (pe_lst h).run pins s σ H Q I (lst_read (m a) (hl a) σ H Q c q)⟩
/-- a written tuple -/
def tMkT {α : Type} (D : α → CT × PyData) : TE := fun σ H Q => ∃ a, (D a).1 σ H ∧ ∀ H' v, Same H H' → TD H' v (D a).2 → Q v H'
theorem pe_mkT {X : Cx} {e : Expr} {te : TE} {α : Type} (D : α → CT × PyData) (h : PE X e te) (m : ∀ a, MkE (D a).1 te (D a).2) : PE X e (tMkT D) :=
  ⟨fun pins s σ H Q I ⟨a, c, q⟩ => h.run pins s σ H Q I (m a σ H Q c q)⟩
/-! ### what is known where it is written -/
end G

set_option Elab.async false
set_option linter.all false
set_option maxRecDepth 100000
set_option maxHeartbeats 4000000
/-! _law_any_test, _law_row. -/
namespace G
open PySem PySem.Spec PyProof.Rows L2
theorem lt_line {n : Nat} (h : n < 1000010) : n < sizeLine := by rw [sizeLine_eq]; omega
theorem ps_weak {X : Cx} {st : Stmt} {t tw : TS} (h : PS X st t) (w : ∀ D σ H, tw D σ H → t D σ H) : PS X st tw := ⟨fun pins s σ H D I q => h.run pins s σ H D I (w D σ H q)⟩
theorem one_nm {K : PySem.W.Frag} {H2 : Hp} {D L A : Addr} {m : Nat} {ys : List Str} (d : Deck H2 D L m) (hm : m < 10 ^ 12) (g : H2 A = some (.lst (ys.map V.str))) (na : A ∉ [D, L]) (l0 : 0 < ys.length) (l1 : ys.length ≤ 5) (hn : ∀ x ∈ ys, Nm x) {Q' : VK} (h : ∀ H' x, Kp [D, L] H2 H' → Deck H' D L (m + 1) → Nm x → Q' (.str x) H') : spOne K [.ref D, .ref A] H2 Q' E0 := by
  refine ⟨D, L, m, _, rfl, d, hm, .inl ⟨A, _, rfl, .inl ⟨SqL.of g, na⟩, by rw [List.length_map]; exact l0, by rw [List.length_map]; omega, fun H' y k' d' hy => ?_⟩⟩
  obtain ⟨x, hx, rfl⟩ := List.mem_map.mp hy
  exact h H' x k' d' (hn x hx)
/-- one of a list of data -/
theorem one_td {K : PySem.W.Frag} {H2 : Hp} {D L A : Addr} {m : Nat} {xs : List V} {ds : List PyData} (d : Deck H2 D L m) (hm : m < 10 ^ 12) (g : H2 A = some (.lst xs)) (td : TDs H2 xs ds) (na : A ∉ [D, L]) (l0 : 0 < ds.length) (l1 : ds.length ≤ 1000) {Q' : VK} (h : ∀ H' y e, Kp [D, L] H2 H' → Deck H' D L (m + 1) → TD H' y e → e ∈ ds → Q' y H') : spOne K [.ref D, .ref A] H2 Q' E0 := by
  refine ⟨D, L, m, _, rfl, d, hm, .inl ⟨A, _, rfl, .inl ⟨SqL.of g, na⟩, by rw [td.len]; exact l0, by rw [td.len]; exact l1, fun H' y k' d' hy => ?_⟩⟩
  obtain ⟨e, he, t⟩ := (TDs.ch (deck_ch d d' k') _ _ td).mem y hy
  exact h H' y e k' d' t he
def CXn (l : List (Nat × Str)) : CT := fun σ _ => ∀ q ∈ l, σ[q.1]? = some (some (.str q.2))
theorem CXn.st {l : List (Nat × Str)} : Stable (CXn l) := fun _ _ _ _ h => h
theorem CXn.v {l : List (Nat × Str)} {i : Nat} {x : Str} (h : (i, x) ∈ l) : ∀ σ H, CXn l σ H → ∃ v, σ[i]? = some (some v) ∧ TD H v (.str x) := fun σ H c => ⟨_, c _ h, .str x⟩
section
variable {P : Program} {w : World} {K : PySem.W.Frag} {mg : Str → Option Value} {base : Heap}
abbrev s__law_any_test : Stmt := top 49
abbrev n__law_any_test : List Str := ["_law_deck_here", "_law_pool_here", "_law_x", "_law_y", "_law_word_here", "_law_some", "_law_test", "_law_k"]
theorem sc__law_any_test : FnScope n__law_any_test ["_law_deck_here", "_law_pool_here"] (defScope s__law_any_test) := ⟨rfl, rfl, rfl, by decide +kernel, rfl, by decide +kernel, by decide +kernel⟩
def t4 (z : Str × Str × Str) : List Tst := [.set z.1, .same z.1 z.2.1, .full z.1 z.2.1, .wished z.2.2]
def twGiven : TS := fun Dn σ H => ∃ (D L a F : Addr) (n : Nat) (g : Int) (xs : List V) (ts : List Tst), σ[0]? = some (some (.ref D)) ∧ σ[1]? = some (some (.ref a)) ∧ σ[5]? = some (some (.ref F)) ∧ Deck H D L n ∧ n < 10 ^ 11 + 100 ∧ Pool H D L a g ∧ H F = some (.lst xs) ∧ TDs H xs (ts.map Tst.data) ∧ (∀ t ∈ ts, t.nm ∧ t.depth = 0) ∧ ts.length = 4 ∧ F ∉ [D, L] ∧
  ∀ (H' : Hp) (xs' : List V) (ts' : List Tst), Ch [D, L, F] H H' → Deck H' D L (n + 1) → H' F = some (.lst xs') → TDs H' xs' (ts'.map Tst.data) → (∀ t ∈ ts', t.nm ∧ t.depth = 0) → (4 ≤ ts'.length ∧ ts'.length ≤ 5) → Dn.nx σ H'
def spTest : Sp := fun vs H Q _ => ∃ (D L a : Addr) (n : Nat) (g : Int), vs = [.ref D, .ref a] ∧ Deck H D L n ∧ n < 10 ^ 11 ∧ Pool H D L a g ∧ ∀ (H' : Hp) (v : V) (t : Tst), Kp [D, L] H H' → Deck H' D L (n + 10) → TD H' v t.data → t.ok → Q v H'
theorem ok_any_test {f f1 f2 : Addr} {fd fd1 fd2 : FuncData} (F : Fun K "_law_any_test" "_law_any_test" s__law_any_test f fd) (T : Bi mg)
    (D1 : Df K mg "_law_draw" s__law_draw ["_law_deck_here", "_law_many"] f1 fd1) (G1 : FnOk P w K mg base CX0 1 f1 fd1 ["_law_deck_here", "_law_many"] spDraw)
    (D2 : Df K mg "_law_one" s__law_one ["_law_deck_here", "_law_items"] f2 fd2) (G2 : FnOk P w K mg base CX0 2 f2 fd2 ["_law_deck_here", "_law_items"] (spOne K)) : FnOk P w K mg base CX0 3 f fd ["_law_deck_here", "_law_pool_here"] spTest := by
  refine F.ok sc__law_any_test (fun vs H Q E ⟨D, L, a, n, g, ev, _⟩ => by rw [ev]; rfl) (fun cdv A outer s H vs Q E hr ⟨D, L, a, n, g, ev, hD, hn, hp, q⟩ => ?_)
  subst ev
  have hr1 : Room 1 _ := hr.mono (by decide)
  refine ⟨_, (pss_cons (ps_par3 (i := 2) (j := 3) (l := 4) (by rfl) sc__law_any_test.nd rfl rfl rfl (by decide) (by decide) (by decide) rfl rfl rfl (pa_cons (pe_call G2 hr (by rfl) D2.m D2.F.kp D2.b .nil pass0 (pa_cons (pv 0) (pa_cons (pe_ix ix_list (pv 1) pe_int (fun _ _ => rfl)) pa_nil))) (pa_cons (pe_call G2 hr (by rfl) D2.m D2.F.kp D2.b .nil pass0 (pa_cons (pv 0) (pa_cons (pe_ix ix_list (pv 1) pe_int (fun _ _ => rfl)) pa_nil))) (pa_cons (pe_call G2 hr (by rfl) D2.m D2.F.kp D2.b .nil pass0 (pa_cons (pv 0) (pa_cons (pe_ix ix_list (pv 1) pe_int (fun _ _ => rfl)) pa_nil))) pa_nil))) (by rfl))
      (pss_cons (ps_set (i := 5) sc__law_any_test.nd rfl (.inl rfl) (pe_mkL (fun (z : Str × Str × Str) => (CXn [(2, z.1), (3, z.2.1), (4, z.2.2)], (t4 z).map Tst.data)) (pa_cons (pe_tup (pa_cons pe_str (pa_cons (pv 2) pa_nil))) (pa_cons (pe_tup (pa_cons pe_str (pa_cons (pv 2) (pa_cons (pv 3) pa_nil)))) (pa_cons (pe_tup (pa_cons pe_str (pa_cons (pv 2) (pa_cons (pv 3) pa_nil)))) (pa_cons (pe_tup (pa_cons pe_str (pa_cons (pv 4) pa_nil))) pa_nil))))
        (fun z => mkA_cons CXn.st (mk_tup (mkA_cons CXn.st (mk_str _) (mkA_cons CXn.st (mk_var (CXn.v (x := z.1) (by simp))) mkA_nil)) (Nat.le_of_ble_eq_true rfl)) (mkA_cons CXn.st (mk_tup (mkA_cons CXn.st (mk_str _) (mkA_cons CXn.st (mk_var (CXn.v (x := z.1) (by simp))) (mkA_cons CXn.st (mk_var (CXn.v (x := z.2.1) (by simp))) mkA_nil))) (Nat.le_of_ble_eq_true rfl)) (mkA_cons CXn.st (mk_tup (mkA_cons CXn.st (mk_str _) (mkA_cons CXn.st (mk_var (CXn.v (x := z.1) (by simp))) (mkA_cons CXn.st (mk_var (CXn.v (x := z.2.1) (by simp))) mkA_nil))) (Nat.le_of_ble_eq_true rfl)) (mkA_cons CXn.st (mk_tup (mkA_cons CXn.st (mk_str _) (mkA_cons CXn.st (mk_var (CXn.v (x := z.2.2) (by simp))) mkA_nil)) (Nat.le_of_ble_eq_true rfl)) mkA_nil)))) (fun _ => Nat.le_of_ble_eq_true rfl)))
      (pss_cons (ps_weak (tw := twGiven) (ps_if (pt_cmpR op_gt (pe_ix ix_list (pv 1) pe_int (fun _ _ => rfl)) pe_int (nomark _))
      (pss_one (ps_expr (pe_bm PySem.F.plainAttrs_list PySem.F.slot_list_append PySem.F.type_list_append mt_append (pv 5) (pa_cons (pe_tup (pa_cons pe_str (pa_cons (pe_call G1 hr1 (by rfl) D1.m D1.F.kp D1.b .nil pass0 (pa_cons (pv 0) (pa_cons (pe_ix ix_list (pv 1) pe_int (fun _ _ => rfl)) pa_nil))) pa_nil))) pa_nil))))
      pss_nil) (fun Dn σ H ⟨D, L, a, Fl, n, g, xs, ts, e0, e1, e5, hD, hn, hp, gF, td, ht, lt, nF, q⟩ => by
        obtain ⟨N, Wd, ns, ws, ga, gN, gW, hN, hW, lN, lW, ⟨g0, g4⟩, na, neN, neW⟩ := id hp
        refine ⟨_, e1, a, _, _, _, rfl, rfl, SqL.of ga, atI_nat (j := 2) rfl, _, _, rfl, rfl, _, rfl, ite2 (fun h => ?_) (fun _ => ?_)⟩
        · have h : 0 < g := of_decide_eq_true h
          refine ⟨_, e5, .inl ⟨rfl, _, SqL.of gF⟩, _, e0, _, e1, a, _, _, _, rfl, rfl, SqL.of ga, atI_nat (j := 2) rfl, D, L, n, g, rfl, hD, by omega, by omega, by omega, fun H1 r k1 hD1 r0 r1 => ⟨line1000 (Nat.le_of_ble_eq_true rfl), fun t nt => ?_⟩⟩
          have c1 := deck_ch hD hD1 k1
          have gF1 := k1 _ _ nF gF
          have sT := Same.up (o := HO.tup [V.str "given", V.int r]) nt
          have net : t ≠ Fl := fun z => by rw [z, gF1] at nt; cases nt
          have lx : xs.length = 4 := by rw [td.len, List.length_map]; exact lt
          have c2 : Ch [Fl] (upd H1 t (.tup [.str "given", .int r])) (upd (upd H1 t (.tup [.str "given", .int r])) Fl (.lst (xs ++ [.ref t]))) := (Ch.refl _ _).put (by simp) (sT _ _ gF1) (fun xs z => by cases z)
          have c3 : Ch [D, L, Fl] H (upd (upd H1 t (.tup [.str "given", .int r])) Fl (.lst (xs ++ [.ref t]))) := (c1.mono (fun b hb => by simp at hb; rcases hb with rfl | rfl <;> simp)).trans ((Ch.same sT).trans (c2.mono (fun b hb => by simp at hb; simp [hb])))
          have neF : D ∉ [Fl] ∧ L ∉ [Fl] := by simp at nF ⊢; exact ⟨Ne.symm nF.1, Ne.symm nF.2⟩
          refine ⟨Fl, _, _, rfl, rfl, sT _ _ gF1, lt_line (by omega), q _ _ (ts ++ [.given r.toNat]) c3 ((hD1.kp (Kp.same (S := []) sT) (fun z => nomatch z) (fun z => nomatch z)).kp c2.kp neF.1 neF.2) upd_same ?_ (fun t ht' => ?_) (by rw [List.length_append]; show 4 ≤ ts.length + 1 ∧ ts.length + 1 ≤ 5; omega)⟩
          · rw [List.map_append]
            refine (TDs.ch c3 _ _ td).snoc (.tup (by rw [upd_ne net, upd_same]) (.cons (.str _) (.cons ?_ .nil)))
            rw [show V.int r = V.int ((r.toNat : Nat) : Int) by rw [Int.toNat_of_nonneg r0]]
            exact .int _
          · rcases List.mem_append.mp ht' with h1 | h1
            · exact ht t h1
            · rw [List.mem_singleton.mp h1]
              exact ⟨by show r.toNat < 4; omega, rfl⟩
        · exact q H xs ts (Ch.refl _ _) (hD.mono (by omega)) gF td ht (by omega)))
      (pss_cons (ps_set (i := 6) sc__law_any_test.nd rfl (.inl rfl) (pe_call G2 hr (by rfl) D2.m D2.F.kp D2.b .nil pass0 (pa_cons (pv 0) (pa_cons (pv 5) pa_nil))))
      (pss_cons (ps_for PassesOwn.never rfl (pi_range1 (by rfl) T.z_range (pa_cons (pe_call G2 hr (by rfl) D2.m D2.F.kp D2.b .nil pass0 (pa_cons (pv 0) (pa_cons (pe_lst (pa_cons pe_int (pa_cons pe_int (pa_cons pe_int (pa_cons pe_int (pa_cons pe_int pa_nil)))))) pa_nil))) pa_nil)) (pg_name (i := 7) sc__law_any_test.nd rfl (.inl rfl))
      (pss_one (ps_set (i := 6) sc__law_any_test.nd rfl (.inl rfl) (pe_tup (pa_cons pe_str (pa_cons (pv 6) pa_nil))))))
      (pss_one (ps_ret (pv 6)))))))), ?_⟩
  obtain ⟨N, Wd, ns, ws, ga, gN, gW, hN, hW, lN, lW, ⟨g0, g4⟩, na, neN, neW⟩ := id hp
  refine ⟨.ref D, rfl, _, rfl, a, _, _, _, rfl, rfl, SqL.of ga, atI_nat (j := 0) rfl, one_nm hD (by omega) gN neN lN.1 lN.2 hN fun H1 x k1 hD1 hx => ?_⟩
  refine ⟨.ref D, rfl, _, rfl, a, _, _, _, rfl, rfl, SqL.of (k1 _ _ na ga), atI_nat (j := 0) rfl, one_nm hD1 (by omega) (k1 _ _ neN gN) neN lN.1 lN.2 hN fun H2 y k2 hD2 hy => ?_⟩
  have k02 := k1.trans k2
  refine ⟨.ref D, rfl, _, rfl, a, _, _, _, rfl, rfl, SqL.of (k02 _ _ na ga), atI_nat (j := 1) rfl, one_nm hD2 (by omega) (k02 _ _ neW gW) neW lW.1 lW.2 hW fun H3 wd k3 hD3 hw => ?_⟩
  have k03 := k02.trans k3
  refine ⟨_, _, _, rfl, (x, y, wd), (fun q hq => by simp at hq; rcases hq with rfl | rfl | rfl <;> rfl), fun H4 Fl xs s4 gF td nF => ?_⟩
  have hD4 := hD3.kp (Kp.same (S := []) s4) (fun z => nomatch z) (fun z => nomatch z)
  have k04 := k03.trans (Kp.same s4)
  have nF' : Fl ∉ [D, L] := by simpa using hD3.neD nF
  have nF0 : H Fl = none := k03.none_of nF nF'
  refine ⟨D, L, a, Fl, n + 3, g, xs, t4 (x, y, wd), rfl, rfl, rfl, hD4, by omega, hp.kp k04, gF, td, (fun t ht => by
    simp [t4] at ht
    rcases ht with rfl | rfl | rfl | rfl
    · exact ⟨hx, rfl⟩
    · exact ⟨⟨hx, hy⟩, rfl⟩
    · exact ⟨⟨hx, hy⟩, rfl⟩
    · exact ⟨hw, rfl⟩), rfl, nF', fun H5 xs5 ts5 c5 hD5 gF5 td5 ht5 lt5 => ?_⟩
  have k05 : Kp [D, L] H H5 := ((k04.mono (T := [Fl, D, L]) (fun b hb => List.mem_cons_of_mem _ hb)).trans (c5.kp.mono (fun b hb => by simp at hb ⊢; rcases hb with rfl | rfl | rfl <;> simp))).fresh nF0
  refine ⟨.ref D, rfl, _, rfl, one_td hD5 (by omega) gF5 td5 nF' (by rw [List.length_map]; omega) (by rw [List.length_map]; omega) fun H6 v e k6 hD6 tdv he => ?_⟩
  obtain ⟨t, ht, rfl⟩ := List.mem_map.mp he
  obtain ⟨tn, t0⟩ := ht5 t ht
  refine ⟨.ref D, rfl, line1000 (Nat.le_of_ble_eq_true rfl), fun l nl => ?_⟩
  have hl : l ∉ [D, L] := by simpa using hD6.neD nl
  have s7 := Same.up (o := HO.lst [V.int 0, V.int 0, V.int 1, V.int 2, V.int 3]) nl
  have hD7 := hD6.kp (Kp.same (S := []) s7) (fun z => nomatch z) (fun z => nomatch z)
  refine ⟨D, L, _, .ref l, rfl, hD7, by omega, .inl ⟨l, _, rfl, .inl ⟨SqL.of upd_same, hl⟩, Nat.le_of_ble_eq_true rfl, Nat.le_of_ble_eq_true rfl, fun H8 y8 k8 hD8 hy8 => ?_⟩⟩
  obtain ⟨m, rfl, m0, m3⟩ : ∃ m : Int, y8 = .int m ∧ 0 ≤ m ∧ m ≤ 3 := by
    simp only [List.mem_cons, List.not_mem_nil, or_false] at hy8
    rcases hy8 with rfl | rfl | rfl | rfl | rfl
    · exact ⟨0, rfl, by decide, by decide⟩
    · exact ⟨0, rfl, by decide, by decide⟩
    · exact ⟨1, rfl, by decide, by decide⟩
    · exact ⟨2, rfl, by decide, by decide⟩
    · exact ⟨3, rfl, by decide, by decide⟩
  have tdv8 := TD.ch ((Ch.same s7).trans (deck_ch hD7 hD8 k8)) _ _ tdv
  have k08 : Kp [D, L] H H8 := k05.trans (k6.trans ((Kp.same s7).trans k8))
  refine ⟨m, rfl, by omega, by omega, for_range (lo := 0) (n := m.toNat) (fun i σ H' => Same H8 H' ∧ ∃ (v : V) (t : Tst) (x7 : Option V), TD H' v t.data ∧ t.nm ∧ t.depth ≤ i ∧ σ = [some (.ref D), some (.ref a), some (.str x), some (.str y), some (.str wd), some (.ref Fl), some v, x7])
    ⟨Same.refl _, v, t, _, tdv8, tn, by omega, rfl⟩ ?_ ?_⟩
  · rintro i σ H' hi ⟨s9, v', t', x7, td', tn', td0, rfl⟩
    refine ⟨_, rfl, line1000 (Nat.le_of_ble_eq_true rfl), fun p np => ⟨Same.trans s9 (Same.up np), _, .not t', _, .tup upd_same (.cons (.str _) (.cons (TD.ch (Ch.same (S := []) (Same.up np)) _ _ td') .nil)), tn', by show t'.depth + 1 ≤ i + 1; omega, rfl⟩⟩
  · rintro σ H' ⟨s9, v', t', x7, td', tn', td0, rfl⟩
    exact ⟨_, rfl, q H' v' t' (k08.trans (Kp.same s9)) ((hD8.kp (Kp.same (S := []) s9) (fun z => nomatch z) (fun z => nomatch z)).mono (by omega)) td' ⟨tn', by omega⟩⟩
end
end G

set_option Elab.async false
set_option linter.all false
set_option maxRecDepth 100000
set_option maxHeartbeats 4000000
/-! _law_row. Written by mkU3.py. -/
namespace G
open PySem PySem.Spec PyProof.Rows L2
section
variable {P : Program} {w : World} {K : PySem.W.Frag} {mg : Str → Option Value} {base : Heap}
abbrev s__law_row : Stmt := top 50
abbrev n__law_row : List Str := ["_law_deck_here", "_law_pool_here", "_law_x", "_law_y", "_law_z", "_law_f", "_law_word_here", "_law_some"]
theorem sc__law_row : FnScope n__law_row ["_law_deck_here", "_law_pool_here"] (defScope s__law_row) := ⟨rfl, rfl, rfl, by decide +kernel, rfl, by decide +kernel, by decide +kernel⟩
def l6 (z : Str × Str × Str × Str × Str) : List Act := [.make z.1, .keep z.1, .drop z.1, .wish z.1 z.2.2.2.2, .name z.1 z.2.1, .hold z.1 z.2.2.2.1 z.2.1]
def l4 (z : Str × Str × Str × Str × Str) : List Act := [.weak z.1 z.2.2.2.1 z.2.1, .cut z.1 z.2.2.2.1, .take z.2.2.1 z.1 z.2.2.2.1, .say z.2.2.2.2]
def spRow : Sp := fun vs H Q _ => ∃ (D L a : Addr) (n : Nat) (g : Int), vs = [.ref D, .ref a] ∧ Deck H D L n ∧ n < 10 ^ 11 - 10 ∧ Pool H D L a g ∧ ∀ (H' : Hp) (v : V) (b : Act), Kp [D, L] H H' → Deck H' D L (n + 20) → TD H' v b.data → b.nm → Q v H'
theorem ok_row {f f2 f3 : Addr} {fd fd2 fd3 : FuncData} (F : Fun K "_law_row" "_law_row" s__law_row f fd)
    (D2 : Df K mg "_law_one" s__law_one ["_law_deck_here", "_law_items"] f2 fd2) (G2 : FnOk P w K mg base CX0 2 f2 fd2 ["_law_deck_here", "_law_items"] (spOne K))
    (D3 : Df K mg "_law_any_test" s__law_any_test ["_law_deck_here", "_law_pool_here"] f3 fd3) (G3 : FnOk P w K mg base CX0 3 f3 fd3 ["_law_deck_here", "_law_pool_here"] spTest) : FnOk P w K mg base CX0 4 f fd ["_law_deck_here", "_law_pool_here"] spRow := by
  refine F.ok sc__law_row (fun vs H Q E ⟨D, L, a, n, g, ev, _⟩ => by rw [ev]; rfl) (fun cdv A outer s H vs Q E hr ⟨D, L, a, n, g, ev, hD, hn, hp, q⟩ => ?_)
  subst ev
  have hr2 : Room 2 _ := hr.mono (by decide)
  refine ⟨_, (pss_cons (ps_par3 (i := 2) (j := 3) (l := 4) (by rfl) sc__law_row.nd rfl rfl rfl (by decide) (by decide) (by decide) rfl rfl rfl (pa_cons (pe_call G2 hr2 (by rfl) D2.m D2.F.kp D2.b .nil pass0 (pa_cons (pv 0) (pa_cons (pe_ix ix_list (pv 1) pe_int (fun _ _ => rfl)) pa_nil))) (pa_cons (pe_call G2 hr2 (by rfl) D2.m D2.F.kp D2.b .nil pass0 (pa_cons (pv 0) (pa_cons (pe_ix ix_list (pv 1) pe_int (fun _ _ => rfl)) pa_nil))) (pa_cons (pe_call G2 hr2 (by rfl) D2.m D2.F.kp D2.b .nil pass0 (pa_cons (pv 0) (pa_cons (pe_ix ix_list (pv 1) pe_int (fun _ _ => rfl)) pa_nil))) pa_nil))) (by rfl))
      (pss_cons (ps_par (i := 5) (j := 6) (by rfl) sc__law_row.nd rfl rfl (by decide) rfl rfl (pa_cons (pe_call G2 hr2 (by rfl) D2.m D2.F.kp D2.b .nil pass0 (pa_cons (pv 0) (pa_cons (pe_ix ix_list (pv 1) pe_int (fun _ _ => rfl)) pa_nil))) (pa_cons (pe_call G2 hr2 (by rfl) D2.m D2.F.kp D2.b .nil pass0 (pa_cons (pv 0) (pa_cons (pe_ix ix_list (pv 1) pe_int (fun _ _ => rfl)) pa_nil))) pa_nil)) (by rfl))
      (pss_cons (ps_set (i := 7) sc__law_row.nd rfl (.inl rfl) (pe_mkL (fun (z : Str × Str × Str × Str × Str) => (CXn [(2, z.1), (3, z.2.1), (4, z.2.2.1), (5, z.2.2.2.1), (6, z.2.2.2.2)], (l6 z).map Act.data)) (pa_cons (pe_tup (pa_cons pe_str (pa_cons (pv 2) pa_nil))) (pa_cons (pe_tup (pa_cons pe_str (pa_cons (pv 2) pa_nil))) (pa_cons (pe_tup (pa_cons pe_str (pa_cons (pv 2) pa_nil))) (pa_cons (pe_tup (pa_cons pe_str (pa_cons (pv 2) (pa_cons (pv 6) pa_nil)))) (pa_cons (pe_tup (pa_cons pe_str (pa_cons (pv 2) (pa_cons (pv 3) pa_nil)))) (pa_cons (pe_tup (pa_cons pe_str (pa_cons (pv 2) (pa_cons (pv 5) (pa_cons (pv 3) pa_nil))))) pa_nil)))))) (fun z => (mkA_cons CXn.st (mk_tup (mkA_cons CXn.st (mk_str _) (mkA_cons CXn.st (mk_var (CXn.v (i := 2) (x := z.1) (by simp))) mkA_nil)) (Nat.le_of_ble_eq_true rfl)) (mkA_cons CXn.st (mk_tup (mkA_cons CXn.st (mk_str _) (mkA_cons CXn.st (mk_var (CXn.v (i := 2) (x := z.1) (by simp))) mkA_nil)) (Nat.le_of_ble_eq_true rfl)) (mkA_cons CXn.st (mk_tup (mkA_cons CXn.st (mk_str _) (mkA_cons CXn.st (mk_var (CXn.v (i := 2) (x := z.1) (by simp))) mkA_nil)) (Nat.le_of_ble_eq_true rfl)) (mkA_cons CXn.st (mk_tup (mkA_cons CXn.st (mk_str _) (mkA_cons CXn.st (mk_var (CXn.v (i := 2) (x := z.1) (by simp))) (mkA_cons CXn.st (mk_var (CXn.v (i := 6) (x := z.2.2.2.2) (by simp))) mkA_nil))) (Nat.le_of_ble_eq_true rfl)) (mkA_cons CXn.st (mk_tup (mkA_cons CXn.st (mk_str _) (mkA_cons CXn.st (mk_var (CXn.v (i := 2) (x := z.1) (by simp))) (mkA_cons CXn.st (mk_var (CXn.v (i := 3) (x := z.2.1) (by simp))) mkA_nil))) (Nat.le_of_ble_eq_true rfl)) (mkA_cons CXn.st (mk_tup (mkA_cons CXn.st (mk_str _) (mkA_cons CXn.st (mk_var (CXn.v (i := 2) (x := z.1) (by simp))) (mkA_cons CXn.st (mk_var (CXn.v (i := 5) (x := z.2.2.2.1) (by simp))) (mkA_cons CXn.st (mk_var (CXn.v (i := 3) (x := z.2.1) (by simp))) mkA_nil)))) (Nat.le_of_ble_eq_true rfl)) mkA_nil))))))) (fun _ => Nat.le_of_ble_eq_true rfl)))
      (pss_cons (ps_set (i := 7) sc__law_row.nd rfl (.inl rfl) (pe_op op_cat (pv 7) (pe_mkL (fun (z : Str × Str × Str × Str × Str) => (CXn [(2, z.1), (3, z.2.1), (4, z.2.2.1), (5, z.2.2.2.1), (6, z.2.2.2.2)], (l4 z).map Act.data)) (pa_cons (pe_tup (pa_cons pe_str (pa_cons (pv 2) (pa_cons (pv 5) (pa_cons (pv 3) pa_nil))))) (pa_cons (pe_tup (pa_cons pe_str (pa_cons (pv 2) (pa_cons (pv 5) pa_nil)))) (pa_cons (pe_tup (pa_cons pe_str (pa_cons (pv 4) (pa_cons (pv 2) (pa_cons (pv 5) pa_nil))))) (pa_cons (pe_tup (pa_cons pe_str (pa_cons (pv 6) pa_nil))) pa_nil)))) (fun z => (mkA_cons CXn.st (mk_tup (mkA_cons CXn.st (mk_str _) (mkA_cons CXn.st (mk_var (CXn.v (i := 2) (x := z.1) (by simp))) (mkA_cons CXn.st (mk_var (CXn.v (i := 5) (x := z.2.2.2.1) (by simp))) (mkA_cons CXn.st (mk_var (CXn.v (i := 3) (x := z.2.1) (by simp))) mkA_nil)))) (Nat.le_of_ble_eq_true rfl)) (mkA_cons CXn.st (mk_tup (mkA_cons CXn.st (mk_str _) (mkA_cons CXn.st (mk_var (CXn.v (i := 2) (x := z.1) (by simp))) (mkA_cons CXn.st (mk_var (CXn.v (i := 5) (x := z.2.2.2.1) (by simp))) mkA_nil))) (Nat.le_of_ble_eq_true rfl)) (mkA_cons CXn.st (mk_tup (mkA_cons CXn.st (mk_str _) (mkA_cons CXn.st (mk_var (CXn.v (i := 4) (x := z.2.2.1) (by simp))) (mkA_cons CXn.st (mk_var (CXn.v (i := 2) (x := z.1) (by simp))) (mkA_cons CXn.st (mk_var (CXn.v (i := 5) (x := z.2.2.2.1) (by simp))) mkA_nil)))) (Nat.le_of_ble_eq_true rfl)) (mkA_cons CXn.st (mk_tup (mkA_cons CXn.st (mk_str _) (mkA_cons CXn.st (mk_var (CXn.v (i := 6) (x := z.2.2.2.2) (by simp))) mkA_nil)) (Nat.le_of_ble_eq_true rfl)) mkA_nil))))) (fun _ => Nat.le_of_ble_eq_true rfl))))
      (pss_one (ps_ret (pe_call G2 hr2 (by rfl) D2.m D2.F.kp D2.b .nil pass0 (pa_cons (pv 0) (pa_cons (pe_op op_cat (pv 7) (pe_lst (pa_cons (pe_tup (pa_cons pe_str (pa_cons (pe_call G3 hr (by rfl) D3.m D3.F.kp D3.b .nil pass0 (pa_cons (pv 0) (pa_cons (pv 1) pa_nil))) pa_nil))) pa_nil))) pa_nil))))))))), ?_⟩
  obtain ⟨N, Wd, ns, ws, ga, gN, gW, hN, hW, lN, lW, ⟨g0, g4⟩, na, neN, neW⟩ := id hp
  refine ⟨.ref D, rfl, _, rfl, a, _, _, _, rfl, rfl, SqL.of ga, atI_nat (j := 0) rfl, one_nm hD (by omega) gN neN lN.1 lN.2 hN fun H1 x k1 hD1 hx => ?_⟩
  refine ⟨.ref D, rfl, _, rfl, a, _, _, _, rfl, rfl, SqL.of (k1 _ _ na ga), atI_nat (j := 0) rfl, one_nm hD1 (by omega) (k1 _ _ neN gN) neN lN.1 lN.2 hN fun H2 y k2 hD2 hy => ?_⟩
  have k02 := k1.trans k2
  refine ⟨.ref D, rfl, _, rfl, a, _, _, _, rfl, rfl, SqL.of (k02 _ _ na ga), atI_nat (j := 0) rfl, one_nm hD2 (by omega) (k02 _ _ neN gN) neN lN.1 lN.2 hN fun H3 z k3 hD3 hz => ?_⟩
  have k03 := k02.trans k3
  refine ⟨_, _, _, rfl, ?_⟩
  refine ⟨.ref D, rfl, _, rfl, a, _, _, _, rfl, rfl, SqL.of (k03 _ _ na ga), atI_nat (j := 0) rfl, one_nm hD3 (by omega) (k03 _ _ neN gN) neN lN.1 lN.2 hN fun H4 fl k4 hD4 hf => ?_⟩
  have k04 := k03.trans k4
  refine ⟨.ref D, rfl, _, rfl, a, _, _, _, rfl, rfl, SqL.of (k04 _ _ na ga), atI_nat (j := 1) rfl, one_nm hD4 (by omega) (k04 _ _ neW gW) neW lW.1 lW.2 hW fun H5 wd k5 hD5 hw => ?_⟩
  have k05 := k04.trans k5
  have ctx : ∀ {σ : L2.St} {x2 x3 x4 x5 x6 : Str}, σ[2]? = some (some (.str x2)) → σ[3]? = some (some (.str x3)) → σ[4]? = some (some (.str x4)) → σ[5]? = some (some (.str x5)) → σ[6]? = some (some (.str x6)) → ∀ q ∈ [(2, x2), (3, x3), (4, x4), (5, x5), (6, x6)], σ[q.1]? = some (some (.str q.2)) := fun e2 e3 e4 e5 e6 q hq => by
    simp at hq
    rcases hq with rfl | rfl | rfl | rfl | rfl
    · exact e2
    · exact e3
    · exact e4
    · exact e5
    · exact e6
  refine ⟨_, _, rfl, (x, y, z, fl, wd), ctx rfl rfl rfl rfl rfl, fun H6 F1 xs s6 g6 td6 nF1 => ?_⟩
  refine ⟨_, rfl, (x, y, z, fl, wd), ctx rfl rfl rfl rfl rfl, fun H7 F2 xs2 s7 g7 td7 nF2 => ?_⟩
  have l6' : xs.length = 6 := by rw [td6.len, List.length_map]; rfl
  have l4' : xs2.length = 4 := by rw [td7.len, List.length_map]; rfl
  refine ⟨F1, F2, _, _, rfl, rfl, s7 _ _ g6, g7, Nat.le_of_lt (lt_line (by omega)), fun F3 nF3 => ?_⟩
  have s8 := Same.up (o := HO.lst (xs ++ xs2)) nF3
  have g8 : upd H7 F3 (HO.lst (xs ++ xs2)) F3 = some (.lst (xs ++ xs2)) := upd_same
  have s58 := Same.trans s6 (Same.trans s7 s8)
  have td8 : TDs (upd H7 F3 (HO.lst (xs ++ xs2))) (xs ++ xs2) ((l6 (x, y, z, fl, wd) ++ l4 (x, y, z, fl, wd)).map Act.data) := by
    rw [List.map_append]
    exact (TDs.ch (Ch.same (S := []) (Same.trans s7 s8)) _ _ td6).append (TDs.ch (Ch.same (S := []) s8) _ _ td7)
  have hD8 := hD5.kp (Kp.same (S := []) s58) (fun z => nomatch z) (fun z => nomatch z)
  have nF3' : F3 ∉ [D, L] := by simpa using (hD5.kp (Kp.same (S := []) (Same.trans s6 s7)) (fun z => nomatch z) (fun z => nomatch z)).neD nF3
  generalize upd H7 F3 (HO.lst (xs ++ xs2)) = H8 at s8 g8 s58 td8 hD8 ⊢
  have k08 := k05.trans (Kp.same s58)
  refine ⟨.ref D, rfl, _, rfl, .ref D, rfl, _, rfl, D, L, a, _, g, rfl, hD8, by omega, hp.kp k08, fun H9 v t k9 hD9 tdv tok => ⟨line1000 (Nat.le_of_ble_eq_true rfl), fun t1 n1 => ⟨line1000 (Nat.le_of_ble_eq_true rfl), fun l nl => ?_⟩⟩⟩
  have sA := Same.up (o := HO.tup [V.str "ask", v]) n1
  have sB := Same.up (o := HO.lst [V.ref t1]) nl
  have c9 := deck_ch hD8 hD9 k9
  refine ⟨F3, l, _, _, rfl, rfl, sB _ _ (sA _ _ (k9 _ _ nF3' g8)), upd_same, Nat.le_of_lt (lt_line (by rw [List.length_append, l6', l4']; show 6 + 4 + 1 < _; omega)), fun p np => ?_⟩
  have sC := Same.up (o := HO.lst (xs ++ xs2 ++ [V.ref t1])) np
  have sBC := Same.trans sB sC
  have tdE : TDs (upd (upd (upd H9 t1 (HO.tup [V.str "ask", v])) l (HO.lst [V.ref t1])) p (HO.lst (xs ++ xs2 ++ [V.ref t1]))) (xs ++ xs2 ++ [V.ref t1]) ((l6 (x, y, z, fl, wd) ++ l4 (x, y, z, fl, wd) ++ [Act.ask t]).map Act.data) := by
    rw [List.map_append]
    exact (TDs.ch (c9.trans (Ch.same (Same.trans sA sBC))) _ _ td8).append (.cons (.tup (sBC _ _ upd_same) (.cons (.str _) (.cons (TD.ch (Ch.same (S := []) (Same.trans sA sBC)) _ _ tdv) .nil))) .nil)
  have hDE := hD9.kp (Kp.same (S := []) (Same.trans sA sBC)) (fun z => nomatch z) (fun z => nomatch z)
  have np' : p ∉ [D, L] := by simpa using (hD9.kp (Kp.same (S := []) (Same.trans sA sB)) (fun z => nomatch z) (fun z => nomatch z)).neD np
  refine one_td hDE (by omega) upd_same tdE np' (by rw [List.length_map, List.length_append]; show 0 < _ + 1; omega) (by rw [List.length_map]; exact Nat.le_of_ble_eq_true rfl) fun H10 y10 e k10 hD10 td10 he => ?_
  obtain ⟨b, hb, rfl⟩ := List.mem_map.mp he
  refine q H10 y10 b (k08.trans (k9.trans ((Kp.same (Same.trans sA sBC)).trans k10))) (hD10.mono (by omega)) td10 ?_
  rcases List.mem_append.mp hb with hb | hb
  · rcases List.mem_append.mp hb with hb | hb
    · simp [l6] at hb
      rcases hb with rfl | rfl | rfl | rfl | rfl | rfl
      · exact hx
      · exact hx
      · exact hx
      · exact ⟨hx, hw⟩
      · exact ⟨hx, hy⟩
      · exact ⟨hx, hf, hy⟩
    · simp [l4] at hb
      rcases hb with rfl | rfl | rfl | rfl
      · exact ⟨hx, hf, hy⟩
      · exact ⟨hx, hf⟩
      · exact ⟨hz, hx, hf⟩
      · exact hw
  · rw [List.mem_singleton.mp hb]
    exact tok
end
end G

set_option Elab.async false
set_option linter.all false
set_option maxRecDepth 100000
set_option maxHeartbeats 4000000
/-! Values of any kind as data; names, words, numbers. -/
namespace G
open PySem PySem.Spec PyProof.Rows L2 StX
mutual
/-- v is this data; lists and dicts within stand at places of F -/
inductive GV (F : Addr → Prop) (H : Hp) : V → PyData → Prop
  | non : GV F H .non .none
  | bl (b : Bool) : GV F H (.bl b) (.bool b)
  | int (i : Int) : GV F H (.int i) (.int i)
  | str (x : Str) : x.length ≤ 1000 → GV F H (.str x) (.str x)
  | tup {a : Addr} {xs : List V} {ds : List PyData} : H a = some (.tup xs) → GVs F H xs ds → GV F H (.ref a) (.tuple ds)
  | lst {a : Addr} {xs : List V} {ds : List PyData} : F a → H a = some (.lst xs) → GVs F H xs ds → GV F H (.ref a) (.list ds)
  | dct {a : Addr} : F a → H a = some (.dK []) → GV F H (.ref a) (.dict [])
inductive GVs (F : Addr → Prop) (H : Hp) : List V → List PyData → Prop
  | nil : GVs F H [] []
  | cons {v : V} {vs : List V} {d : PyData} {ds : List PyData} : GV F H v d → GVs F H vs ds → GVs F H (v :: vs) (d :: ds)
end
section
variable {S : List Addr} {H H' : Hp} {F F' : Addr → Prop}
mutual
theorem GV.ch (c : Ch S H H') (hF : ∀ a, F a → (∃ o, H a = some o) → a ∉ S ∧ F' a) : ∀ (d : PyData) (v : V), GV F H v d → GV F' H' v d
  | .none, _, h => by cases h; exact .non
  | .bool b, _, h => by cases h; exact .bl b
  | .int i, _, h => by cases h; exact .int i
  | .str x, _, h => by cases h with | str _ l => exact .str x l
  | .list ds, _, h => by
    cases h with
    | lst f h1 h2 => exact .lst (hF _ f ⟨_, h1⟩).2 (c.kp _ _ (hF _ f ⟨_, h1⟩).1 h1) (GVs.ch c hF ds _ h2)
  | .tuple ds, _, h => by
    cases h with
    | tup h1 h2 => exact .tup (c.tu _ _ h1) (GVs.ch c hF ds _ h2)
  | .dict _, _, h => by
    cases h with
    | dct f h1 => exact .dct (hF _ f ⟨_, h1⟩).2 (c.kp _ _ (hF _ f ⟨_, h1⟩).1 h1)
theorem GVs.ch (c : Ch S H H') (hF : ∀ a, F a → (∃ o, H a = some o) → a ∉ S ∧ F' a) : ∀ (ds : List PyData) (vs : List V), GVs F H vs ds → GVs F' H' vs ds
  | [], _, h => by cases h; exact .nil
  | d :: ds, _, h => by
    cases h with
    | cons h1 h2 => exact .cons (GV.ch c hF d _ h1) (GVs.ch c hF ds _ h2)
end
end
section
variable {F F' : Addr → Prop} {H H' : Hp} {v : V} {vs : List V} {d : PyData} {ds : List PyData}
theorem GV.same (s : Same H H') (h : GV F H v d) : GV F H' v d := GV.ch (Ch.same (S := []) s) (fun a f _ => ⟨List.not_mem_nil, f⟩) _ _ h
theorem GVs.same (s : Same H H') (h : GVs F H vs ds) : GVs F H' vs ds := GVs.ch (Ch.same (S := []) s) (fun a f _ => ⟨List.not_mem_nil, f⟩) _ _ h
theorem GVs.len : ∀ {vs : List V} {ds : List PyData}, GVs F H vs ds → vs.length = ds.length
  | _, _, .nil => rfl
  | _, _, .cons _ t => by rw [List.length_cons, List.length_cons, t.len]
theorem GVs.at : ∀ {vs : List V} {ds : List PyData} {i : Nat} {v : V}, GVs F H vs ds → vs[i]? = some v → ∃ d, ds[i]? = some d ∧ GV F H v d
  | _, _, i, v, .nil, h => by simp at h
  | _, _, 0, v, .cons h1 h2, h => by cases h; exact ⟨_, rfl, h1⟩
  | _, _, i + 1, v, .cons h1 h2, h => GVs.at (i := i) h2 h
theorem GVs.append : ∀ {a : List V} {da : List PyData} {b : List V} {db : List PyData}, GVs F H a da → GVs F H b db → GVs F H (a ++ b) (da ++ db)
  | _, _, _, _, .nil, h => h
  | _, _, _, _, .cons h1 h2, h => .cons h1 (h2.append h)
theorem GVs.snoc (h : GVs F H vs ds) (h1 : GV F H v d) : GVs F H (vs ++ [v]) (ds ++ [d]) := h.append (.cons h1 .nil)
theorem GVs.drop : ∀ (n : Nat) {vs : List V} {ds : List PyData}, GVs F H vs ds → GVs F H (vs.drop n) (ds.drop n)
  | 0, _, _, h => h
  | n + 1, _, _, .nil => .nil
  | n + 1, _, _, .cons _ t => GVs.drop n t
theorem gd_tup (h : GV F H v (.tuple ds)) : ∃ a xs, v = .ref a ∧ H a = some (.tup xs) ∧ GVs F H xs ds := by
  cases h with
  | tup h1 h2 => exact ⟨_, _, rfl, h1, h2⟩
theorem gds_cons (h : GVs F H vs (d :: ds)) : ∃ v r, vs = v :: r ∧ GV F H v d ∧ GVs F H r ds := by
  cases h with
  | cons h1 h2 => exact ⟨_, _, rfl, h1, h2⟩
end
/-- the name of the data's type -/
def kindS : PyData → String
  | .none => "NoneType"
  | .bool _ => "bool"
  | .int _ => "int"
  | .str _ => "str"
  | .tuple _ => "tuple"
  | .list _ => "list"
  | .dict _ => "dict"
def isStrD : PyData → Bool
  | .str _ => true
  | _ => false
def isTupD : PyData → Bool
  | .tuple _ => true
  | _ => false
def isIntD : PyData → Bool
  | .int _ => true
  | _ => false
theorem GV.ty {K : PySem.W.Frag} {F : Addr → Prop} {H : Hp} {v : V} {d : PyData} (h : GV F H v d) : TyX K H v (.type (kindS d)) := by
  cases h with
  | non => exact .base .non
  | bl b => exact .base (.bl b)
  | int i => exact .base (.int i)
  | str x _ => exact .base (.str x)
  | tup h _ => exact .base (.tup h)
  | lst _ h _ => exact .base (.lst h)
  | dct _ h => exact .base (.dK h)
theorem kit_str {K : PySem.W.Frag} (d : PyData) : PySem.W.kitOne K (.type (kindS d)) (.type "str") = some (isStrD d) := by
  cases d <;> first | exact kit_ty (show kitB "NoneType" "str" = some false by decide +kernel) | exact kit_ty (show kitB "bool" "str" = some false by decide +kernel) | exact kit_ty (show kitB "int" "str" = some false by decide +kernel) | exact kit_ty (show kitB "str" "str" = some true by decide +kernel) | exact kit_ty (show kitB "list" "str" = some false by decide +kernel) | exact kit_ty (show kitB "tuple" "str" = some false by decide +kernel) | exact kit_ty (show kitB "dict" "str" = some false by decide +kernel)
theorem kit_tup {K : PySem.W.Frag} (d : PyData) : PySem.W.kitOne K (.type (kindS d)) (.type "tuple") = some (isTupD d) := by
  cases d <;> first | exact kit_ty (show kitB "NoneType" "tuple" = some false by decide +kernel) | exact kit_ty (show kitB "bool" "tuple" = some false by decide +kernel) | exact kit_ty (show kitB "int" "tuple" = some false by decide +kernel) | exact kit_ty (show kitB "str" "tuple" = some false by decide +kernel) | exact kit_ty (show kitB "list" "tuple" = some false by decide +kernel) | exact kit_ty (show kitB "tuple" "tuple" = some true by decide +kernel) | exact kit_ty (show kitB "dict" "tuple" = some false by decide +kernel)
theorem strD_of {d : PyData} (h : isStrD d = true) : ∃ x, d = .str x := by cases d <;> first | exact ⟨_, rfl⟩ | cases h
theorem tupD_of {d : PyData} (h : isTupD d = true) : ∃ x, d = .tuple x := by cases d <;> first | exact ⟨_, rfl⟩ | cases h
theorem intD_of {d : PyData} (h : isIntD d = true) : ∃ x, d = .int x := by cases d <;> first | exact ⟨_, rfl⟩ | cases h
/-- is x an int that is no bool: r -/
def IntQ (K : PySem.W.Frag) (H : Hp) (x : V) (r : Bool) : Prop := ∃ (t : Value) (b c : Bool), TyX K H x t ∧ PySem.W.kitOne K t (.type "int") = some b ∧ (b = true → PySem.W.kitOne K t (.type "bool") = some c) ∧ r = (b && !c) ∧ (r = true → ∃ i, x = .int i)
theorem intQ_d {K : PySem.W.Frag} {F : Addr → Prop} {H : Hp} {v : V} {d : PyData} (h : GV F H v d) : IntQ K H v (isIntD d) := by
  have ty := h.ty (K := K)
  cases h with
  | int i => exact ⟨_, true, false, ty, kit_ty (show kitB "int" "int" = some true by decide +kernel), fun _ => kit_ty (show kitB "int" "bool" = some false by decide +kernel), rfl, fun _ => ⟨i, rfl⟩⟩
  | bl b => exact ⟨_, true, true, ty, kit_ty (show kitB "bool" "int" = some true by decide +kernel), fun _ => kit_ty (show kitB "bool" "bool" = some true by decide +kernel), rfl, (fun z => nomatch z)⟩
  | non => exact ⟨_, false, false, ty, kit_ty (show kitB "NoneType" "int" = some false by decide +kernel), (fun z => nomatch z), rfl, (fun z => nomatch z)⟩
  | str x l => exact ⟨_, false, false, ty, kit_ty (show kitB "str" "int" = some false by decide +kernel), (fun z => nomatch z), rfl, (fun z => nomatch z)⟩
  | tup h1 h2 => exact ⟨_, false, false, ty, kit_ty (show kitB "tuple" "int" = some false by decide +kernel), (fun z => nomatch z), rfl, (fun z => nomatch z)⟩
  | lst f h1 h2 => exact ⟨_, false, false, ty, kit_ty (show kitB "list" "int" = some false by decide +kernel), (fun z => nomatch z), rfl, (fun z => nomatch z)⟩
  | dct f h1 => exact ⟨_, false, false, ty, kit_ty (show kitB "dict" "int" = some false by decide +kernel), (fun z => nomatch z), rfl, (fun z => nomatch z)⟩
/-! ### on paper -/
def ltrS : Str := Str.ofString "abcdefghijklmnopqrstuvwxyz"
def digS : Str := Str.ofString "0123456789"
def resL : List Str := ["as", "ask", "cut", "drop", "else", "full", "given", "hold", "if", "keep", "make", "not", "pass", "repeat", "same", "say", "set", "take", "weak", "wish", "wished"].map Str.ofString
def ltrB (c : Nat) : Bool := decide (c ∈ ltrS.cps.toList)
def sgnB (c : Nat) : Bool := ltrB c || decide (c ∈ digS.cps.toList)
def len18 (x : Str) : Bool := decide (1 ≤ x.length) && decide (x.length ≤ 8)
def wordB (x : Str) : Bool := len18 x && x.cps.toList.all sgnB
def nameB (x : Str) : Bool := len18 x && ((match x.cps.toList with
  | c :: _ => ltrB c
  | [] => false) && (!decide (x ∈ resL)) && x.cps.toList.all sgnB)
def wordD : PyData → Bool
  | .str x => wordB x
  | _ => false
def nameD : PyData → Bool
  | .str x => nameB x
  | _ => false
def rngD (lo hi : Int) : PyData → Bool
  | .int i => decide (lo ≤ i) && decide (i ≤ hi)
  | _ => false
/-- what the module's constants are -/
structure KN (K : PySem.W.Frag) (mg : Str → Option Value) (RV : Addr) : Prop where
  ltr : ∃ t, mg "LETTERS" = some (.str ltrS t)
  dig : ∃ t, mg "DIGITS" = some (.str digS t)
  mName : ∃ t, mg "MAX_NAME" = some (.int 8 t)
  mWord : ∃ t, mg "MAX_WORD" = some (.int 8 t)
  mGiv : ∃ t, mg "MAX_GIVENS" = some (.int 3 t)
  mTimes : ∃ t, mg "MAX_TIMES" = some (.int 12 t)
  mNest : ∃ t, mg "MAX_NEST" = some (.int 4 t)
  mPl : ∃ t, mg "MAX_PLACES" = some (.int 30 t)
  mWt : ∃ t, mg "MAX_WEIGHT" = some (.int 200 t)
  mWi : ∃ t, mg "MAX_WISHES" = some (.int 4 t)
  mNot : ∃ t, mg "MOST_NOTS" = some (.int 3 t)
  res : mg "RESERVED" = some (.ref RV)
  resK : ∀ H, SqT K H RV (resL.map V.str)
  z_isi : mg "isinstance" = none
  z_str : mg "str" = none
  z_tuple : mg "tuple" = none
  z_int : mg "int" = none
  z_bool : mg "bool" = none
  z_len : mg "len" = none
  z_all : mg "all" = none
  z_zip : mg "zip" = none
  z_range : mg "range" = none
theorem lc_signs {σ : L2.St} {x : Str} {H1 : Hp} {D : Addr} {Qd : Hp → Prop} {te : TE} (lx : x.length ≤ 1000) (nD : H1 D = none) (e1 : ∀ v, wipe ((wipe σ [1]).set 1 (some v)) [1] = wipe σ [1])
    (he : ∀ c H (Q : VK), Q (.bl (sgnB c)) H → te ((wipe σ [1]).set 1 (some (.str ⟨#[c]⟩))) H Q) (q : ∀ H', Same H1 H' → H' D = some (.lst ((x.cps.toList.map sgnB).map V.bl)) → Qd H') :
    ∃ W : Nat → Nat → Hp → Prop, (∃ m, W 0 m (upd H1 D (.lst []))) ∧ ∀ i m H, W i m H →
      ((Its x).stop i H ∧ Qd H) ∨ ((Its x).go i H ∧ ∃ Nx : Hp → Prop, (∀ H', Nx H' → ∃ m', m' < m ∧ W (i + 1) m' H') ∧ ∀ v H', (Its x).yld i H v H' → gName 1 v (wipe σ [1]) H' fun σ2 H2 => wipe σ2 [1] = wipe σ [1] ∧ tYes σ2 H2 fun b H3 =>
        if b = true then te σ2 H3 fun y H4 => ∃ acc, H4 D = some (.lst acc) ∧ acc.length < sizeLine ∧ Nx (upd H4 D (.lst (acc ++ [y]))) else Nx H3) := by
  have lx2 : x.cps.toList.length ≤ 1000 := lx
  refine lc_it walk_str (fun i H' => Ch [D] H1 H' ∧ H' D = some (.lst (((x.cps.toList.take i).map sgnB).map V.bl))) ⟨(Ch.refl _ _).new nD, upd_same⟩ (fun _ _ _ _ => trivial) ?_ ?_
  · rintro i v H H' hi ⟨c, g⟩ ⟨eH, cp, hc, ev⟩
    subst eH ev
    refine ⟨e1 _, he cp _ _ ⟨_, g, small1000 (by rw [List.length_map, List.length_map, List.length_take]; omega), c.put (by simp) g (fun xs z => by cases z), ?_⟩⟩
    rw [upd_same]
    have hc2 : x.cps.toList[i]? = some cp := by rw [Array.getElem?_toList]; exact hc
    rw [List.take_add_one, hc2, List.map_append, List.map_append]
    rfl
  · rintro H' ⟨c, g⟩
    rw [show x.cps.size = x.cps.toList.length from rfl, List.take_length] at g
    exact q H' (c.kp.fresh nD).toSame g
section
variable {P : Program} {w : World} {K : PySem.W.Frag} {mg : Str → Option Value} {base : Heap} {RV : Addr}
abbrev s_is_integer : Stmt := top 13
abbrev n_value : List Str := ["value"]
theorem sc_is_integer : FnScope n_value ["value"] (defScope s_is_integer) := ⟨rfl, rfl, rfl, by decide +kernel, rfl, by decide +kernel, by decide +kernel⟩
def spIn (K : PySem.W.Frag) : Sp := fun vs H Q _ => ∃ x r, vs = [x] ∧ IntQ K H x r ∧ Q (.bl r) H
theorem ok_int {f : Addr} {fd : FuncData} (F : Fun K "is_integer" "is_integer" s_is_integer f fd) (N : KN K mg RV) : FnOk P w K mg base CX0 1 f fd ["value"] (spIn K) := by
  refine F.ok sc_is_integer (fun vs H Q E ⟨x, r, ev, _⟩ => by rw [ev]; rfl) (fun cdv A outer s H vs Q E hr ⟨x, r, ev, ⟨t, b, c, ty, k1, k2, er, _⟩, q⟩ => ?_)
  subst ev
  refine ⟨_, (pss_one (ps_ret (pe_and (pe_callB (show CallR _ (.builtin "isinstance") (rIsi K) from call_isi) (by rfl) N.z_isi (by decide +kernel) (pa_cons (pv 0) (pa_cons (pe_bltn (v := .ty "int") (by rfl) N.z_int rfl rfl) pa_nil))) (pe_one (pe_not (pe_callB (show CallR _ (.builtin "isinstance") (rIsi K) from call_isi) (by rfl) N.z_isi (by decide +kernel) (pa_cons (pv 0) (pa_cons (pe_bltn (v := .ty "bool") (by rfl) N.z_bool rfl rfl) pa_nil)))))))), ?_⟩
  refine ⟨_, rfl, _, _, _, _, b, rfl, .ty "int", ty, k1, _, rfl, ?_⟩
  cases b with
  | false =>
    subst er
    exact q
  | true =>
    refine iteT ⟨_, rfl, _, _, _, _, c, rfl, .ty "bool", ty, k2 rfl, _, rfl, ?_⟩
    subst er
    exact q
abbrev s_is_from_to : Stmt := top 14
theorem sc_is_from_to : FnScope ["value", "low", "high"] ["value", "low", "high"] (defScope s_is_from_to) := ⟨rfl, rfl, rfl, by decide +kernel, rfl, by decide +kernel, by decide +kernel⟩
def spFT : Sp := fun vs H Q _ => ∃ (G : Addr → Prop) (v : V) (d : PyData) (lo hi : Int), vs = [v, .int lo, .int hi] ∧ GV G H v d ∧ Q (.bl (rngD lo hi d)) H
theorem ok_from_to {f fI : Addr} {fd dI : FuncData} (F : Fun K "is_from_to" "is_from_to" s_is_from_to f fd) (DI : Df K mg "is_integer" s_is_integer ["value"] fI dI) (GI : FnOk P w K mg base CX0 1 fI dI ["value"] (spIn K)) : FnOk P w K mg base CX0 2 f fd ["value", "low", "high"] spFT := by
  refine F.ok sc_is_from_to (fun vs H Q E ⟨_, x, _, _, _, ev, _⟩ => by rw [ev]; rfl) (fun cdv A outer s H vs Q E hr ⟨G, v, d, lo, hi, ev, gd, q⟩ => ?_)
  subst ev
  refine ⟨_, (pss_one (ps_ret (pe_and (pe_call GI hr (by rfl) DI.m DI.F.kp DI.b .nil pass0 (pa_cons (pv 0) pa_nil)) (pe_one (pe_chain op_le op_le (pv 1) (pv 0) (pv 2)))))), ?_⟩
  refine ⟨_, rfl, v, isIntD d, rfl, intQ_d gd, _, rfl, ?_⟩
  cases e : isIntD d with
  | false =>
    refine iteF ?_
    have e2 : rngD lo hi d = false := by cases d <;> first | rfl | cases e
    rw [e2] at q
    exact q
  | true =>
    obtain ⟨i, rfl⟩ := intD_of e
    cases gd
    refine iteT ⟨_, rfl, _, rfl, _, _, rfl, rfl, _, rfl, ?_⟩
    have q : Q (.bl (decide (lo ≤ i) && decide (i ≤ hi))) H := q
    by_cases c : lo ≤ i
    · rw [decide_eq_true c] at q ⊢
      exact iteT ⟨_, rfl, _, _, rfl, rfl, q⟩
    · rw [decide_eq_false c] at q ⊢
      exact iteF q
/-- is it such data: no change -/
def spB (b : PyData → Bool) : Sp := fun vs H Q _ => ∃ (G : Addr → Prop) (v : V) (d : PyData), vs = [v] ∧ GV G H v d ∧ ∀ H', Same H H' → Q (.bl (b d)) H'
abbrev n_sign : List Str := ["value", "sign"]
theorem all_id (l : List Nat) : (l.map sgnB).all id = l.all sgnB := by rw [List.all_map]; rfl
abbrev s_is_word : Stmt := top 15
theorem sc_is_word : FnScope n_sign ["value"] (defScope s_is_word) := ⟨rfl, rfl, rfl, by decide +kernel, rfl, by decide +kernel, by decide +kernel⟩
theorem ok_is_word {f : Addr} {fd : FuncData} (F : Fun K "is_word" "is_word" s_is_word f fd) (N : KN K mg RV) : FnOk P w K mg base CX0 1 f fd ["value"] (spB wordD) := by
  refine F.ok sc_is_word (fun vs H Q E ⟨_, x, _, ev, _⟩ => by rw [ev]; rfl) (fun cdv A outer s H vs Q E hr ⟨G, v, d, ev, gd, q⟩ => ?_)
  subst ev
  obtain ⟨tl, hl⟩ := N.ltr
  obtain ⟨td, hd⟩ := N.dig
  obtain ⟨tm, hm⟩ := N.mWord
  refine ⟨_, (pss_cons (ps_if (PW.pt (pw_or (pt_not (pt_val (pe_callB (show CallR _ (.builtin "isinstance") (rIsi K) from call_isi) (by rfl) N.z_isi (by decide +kernel) (pa_cons (pv 0) (pa_cons (pe_bltn (v := .ty "str") (by rfl) N.z_str rfl rfl) pa_nil))))) (pw_or1 (pt_not (pt_chain op_le op_le pe_int (pe_callB call_len_str (by rfl) N.z_len (by decide +kernel) (pa_cons (pv 0) pa_nil)) (pe_glob (v := .int 8) rfl hm ⟨_, rfl⟩))))))
      (pss_one (ps_ret pe_bl)) pss_nil)
      (pss_one (ps_ret (pe_callB (cr_all rfl) (by rfl) N.z_all (by decide +kernel) (pa_cons (pe_lc (own := [("sign", 1)]) (by rfl) sc_is_word.nd (pi_str (pv 0)) (blkOk_by (N := n_sign) (sc := defScope s_is_word) (by decide +kernel)) (fun _ _ _ _ _ => pg_name (i := 1) sc_is_word.nd rfl (.inl rfl)) (fun _ _ _ _ _ => pts_nil)
        (fun _ _ _ _ _ => pe_or (pe_cmpR op_in_sign (pv 1) (pe_glob (v := .str ltrS) rfl hl ⟨_, rfl⟩) rfl) (pe_one (pe_cmpR op_in_sign (pv 1) (pe_glob (v := .str digS) rfl hd ⟨_, rfl⟩) rfl)))) pa_nil))))), ?_⟩
  refine ⟨_, rfl, _, _, _, _, _, rfl, .ty "str", gd.ty, kit_str d, _, rfl, ?_⟩
  cases e : isStrD d with
  | false =>
    have e2 : wordD d = false := by cases d <;> first | rfl | cases e
    rw [e2] at q
    exact iteT (iteT (q H (Same.refl _)))
  | true =>
    obtain ⟨x, rfl⟩ := strD_of e
    cases gd with
    | str _ lx =>
      refine iteF ⟨_, rfl, _, rfl, line1000 lx, _, _, rfl, rfl, _, rfl, ?_⟩
      have q : ∀ H', Same H H' → Q (.bl (wordB x)) H' := q
      unfold wordB len18 at q
      by_cases c1 : (1 : Int) ≤ (x.length : Int)
      · rw [decide_eq_true c1]
        rw [decide_eq_true (by omega : 1 ≤ x.length)] at q
        refine iteT ⟨_, _, rfl, rfl, _, rfl, ?_⟩
        by_cases c2 : (x.length : Int) ≤ 8
        · rw [decide_eq_true c2]
          rw [decide_eq_true (by omega : x.length ≤ 8)] at q
          refine iteF ⟨_, rfl, x, rfl, fun D nD => lc_signs lx nD (fun _ => rfl) (fun c H2 Q2 q2 => ⟨_, rfl, c, ltrS, rfl, rfl, ltrB c, rfl, ?_⟩) fun H2 s2 g2 => ⟨D, _, rfl, SqL.of g2, ?_⟩⟩
          · unfold sgnB at q2
            cases e3 : ltrB c with
            | true =>
              rw [e3] at q2
              exact iteT q2
            | false =>
              rw [e3] at q2
              exact iteF ⟨_, rfl, c, digS, rfl, rfl, q2⟩
          · rw [all_id]
            exact q H2 s2
        · rw [decide_eq_false c2]
          rw [decide_eq_false (by omega : ¬ x.length ≤ 8)] at q
          exact iteT (q H (Same.refl _))
      · rw [decide_eq_false c1]
        rw [decide_eq_false (by omega : ¬ 1 ≤ x.length)] at q
        exact iteF ⟨_, rfl, iteT (q H (Same.refl _))⟩
abbrev s_is_name : Stmt := top 16
theorem sc_is_name : FnScope n_sign ["value"] (defScope s_is_name) := ⟨rfl, rfl, rfl, by decide +kernel, rfl, by decide +kernel, by decide +kernel⟩
theorem inV_str (x : Str) (ks : List Str) : inV (.str x) (ks.map V.str) = decide (x ∈ ks) := by
  induction ks with
  | nil => rfl
  | cons k r ih =>
    show (eqV (V.str k) (V.str x) || inV (.str x) (r.map V.str)) = _
    rw [ih]
    by_cases c : x = k
    · subst c
      rw [show eqV (V.str x) (V.str x) = true from decide_eq_true rfl, decide_eq_true (List.mem_cons_self ..)]
      rfl
    · rw [show eqV (V.str k) (V.str x) = false from decide_eq_false (fun z => c z.symm)]
      show decide (x ∈ r) = decide (x ∈ k :: r)
      by_cases m : x ∈ r
      · rw [decide_eq_true m, decide_eq_true (List.mem_cons_of_mem _ m)]
      · rw [decide_eq_false m, decide_eq_false (fun z => (List.mem_cons.mp z).elim c m)]
theorem flat_strs (ks : List Str) : (ks.map V.str).all flatV = true := by
  rw [List.all_map]
  exact List.all_eq_true.mpr fun _ _ => rfl
theorem ok_is_name {f : Addr} {fd : FuncData} (F : Fun K "is_name" "is_name" s_is_name f fd) (N : KN K mg RV) : FnOk P w K mg base CX0 1 f fd ["value"] (spB nameD) := by
  refine F.ok sc_is_name (fun vs H Q E ⟨_, x, _, ev, _⟩ => by rw [ev]; rfl) (fun cdv A outer s H vs Q E hr ⟨G, v, d, ev, gd, q⟩ => ?_)
  subst ev
  obtain ⟨tl, hl⟩ := N.ltr
  obtain ⟨td, hd⟩ := N.dig
  obtain ⟨tm, hm⟩ := N.mName
  refine ⟨_, (pss_cons (ps_if (PW.pt (pw_or (pt_not (pt_val (pe_callB (show CallR _ (.builtin "isinstance") (rIsi K) from call_isi) (by rfl) N.z_isi (by decide +kernel) (pa_cons (pv 0) (pa_cons (pe_bltn (v := .ty "str") (by rfl) N.z_str rfl rfl) pa_nil))))) (pw_or1 (pt_not (pt_chain op_le op_le pe_int (pe_callB call_len_str (by rfl) N.z_len (by decide +kernel) (pa_cons (pv 0) pa_nil)) (pe_glob (v := .int 8) rfl hm ⟨_, rfl⟩))))))
      (pss_one (ps_ret pe_bl)) pss_nil)
      (pss_cons (ps_if (PW.pt (pw_or (pt_cmpR op_notIn_sign (pe_ix ix_str (pv 0) pe_int (fun _ _ => rfl)) (pe_glob (v := .str ltrS) rfl hl ⟨_, rfl⟩) rfl) (pw_or1 (pt_cmpR op_in_seq (pv 0) (pe_glob (v := .ref RV) rfl N.res rfl) rfl))))
      (pss_one (ps_ret pe_bl)) pss_nil)
      (pss_one (ps_ret (pe_callB (cr_all rfl) (by rfl) N.z_all (by decide +kernel) (pa_cons (pe_lc (own := [("sign", 1)]) (by rfl) sc_is_name.nd (pi_str (pv 0)) (blkOk_by (N := n_sign) (sc := defScope s_is_name) (by decide +kernel)) (fun _ _ _ _ _ => pg_name (i := 1) sc_is_name.nd rfl (.inl rfl)) (fun _ _ _ _ _ => pts_nil)
        (fun _ _ _ _ _ => pe_or (pe_cmpR op_in_sign (pv 1) (pe_glob (v := .str ltrS) rfl hl ⟨_, rfl⟩) rfl) (pe_one (pe_cmpR op_in_sign (pv 1) (pe_glob (v := .str digS) rfl hd ⟨_, rfl⟩) rfl)))) pa_nil)))))), ?_⟩
  refine ⟨_, rfl, _, _, _, _, _, rfl, .ty "str", gd.ty, kit_str d, _, rfl, ?_⟩
  cases e : isStrD d with
  | false =>
    have e2 : nameD d = false := by cases d <;> first | rfl | cases e
    rw [e2] at q
    exact iteT (iteT (q H (Same.refl _)))
  | true =>
    obtain ⟨x, rfl⟩ := strD_of e
    cases gd with
    | str _ lx =>
      refine iteF ⟨_, rfl, _, rfl, line1000 lx, _, _, rfl, rfl, _, rfl, ?_⟩
      have q : ∀ H', Same H H' → Q (.bl (nameB x)) H' := q
      unfold nameB len18 at q
      by_cases c1 : (1 : Int) ≤ (x.length : Int)
      · rw [decide_eq_true c1]
        rw [decide_eq_true (by omega : 1 ≤ x.length)] at q
        refine iteT ⟨_, _, rfl, rfl, _, rfl, ?_⟩
        by_cases c2 : (x.length : Int) ≤ 8
        · rw [decide_eq_true c2]
          rw [decide_eq_true (by omega : x.length ≤ 8)] at q
          have lx2 : x.cps.toList.length = x.length := rfl
          cases ex : x.cps.toList with
          | nil =>
            rw [ex] at lx2
            simp at lx2
            omega
          | cons c0 r =>
            have q : ∀ H', Same H H' → Q (.bl (ltrB c0 && (!decide (x ∈ resL)) && (c0 :: r).all sgnB)) H' := by
              rw [ex] at q
              exact q
            refine iteF ⟨_, rfl, x, 0, c0, rfl, rfl, line1000 lx, by rw [ex]; exact atI_nat (j := 0) rfl, c0, ltrS, rfl, rfl, _, rfl, ?_⟩
            show if (!ltrB c0) = true then _ else _
            cases e4 : ltrB c0 with
            | false =>
              rw [e4] at q
              exact iteT (iteT (q H (Same.refl _)))
            | true =>
              rw [e4] at q
              refine iteF ⟨_, rfl, RV, _, rfl, .inr (N.resK H), rfl, flat_strs _, _, rfl, ?_⟩
              rw [inV_str]
              by_cases c5 : x ∈ resL
              · rw [decide_eq_true c5] at q ⊢
                exact iteT (q H (Same.refl _))
              · rw [decide_eq_false c5] at q ⊢
                refine iteF ⟨_, rfl, x, rfl, fun D nD => lc_signs lx nD (fun _ => rfl) (fun c H2 Q2 q2 => ⟨_, rfl, c, ltrS, rfl, rfl, ltrB c, rfl, ?_⟩) fun H2 s2 g2 => ⟨D, _, rfl, SqL.of g2, ?_⟩⟩
                · unfold sgnB at q2
                  cases e3 : ltrB c with
                  | true =>
                    rw [e3] at q2
                    exact iteT q2
                  | false =>
                    rw [e3] at q2
                    exact iteF ⟨_, rfl, c, digS, rfl, rfl, q2⟩
                · rw [all_id, ex]
                  exact q H2 s2
        · rw [decide_eq_false c2]
          rw [decide_eq_false (by omega : ¬ x.length ≤ 8)] at q
          exact iteT (q H (Same.refl _))
      · rw [decide_eq_false c1]
        rw [decide_eq_false (by omega : ¬ 1 ≤ x.length)] at q
        exact iteF ⟨_, rfl, iteT (q H (Same.refl _))⟩
end
end G

set_option Elab.async false
set_option linter.all false
set_option maxRecDepth 100000
set_option maxHeartbeats 4000000
/-! Rules: d.get(k) of a written dict, k a text or None; a call of a local that holds one of several defs; zip of two tuples walked. -/
namespace G
open PySem PySem.Spec PyProof.Rows L2 StX RZ
theorem mapOf_KN {prog : Program} {w : World} {h : Heap} {a : Addr} {K : PySem.W.Frag} {es : Array DictEntry} {n : Nat} (X : K.In h) (hl : K.lookup a = some ⟨.type "dict", none, .dict es n, #[]⟩) (hk : PySem.W.KeysLit w.params es.toList) :
    ∃ f, h.MapOf (noneKind prog w) a f ∧ f none = none := by
  have key : ∀ e ∈ es, ∃ x t, e.key = .str x t ∧ e.hash = PyData.keyHash w.params x := fun e he => hk.all e (Array.mem_toList_iff.mpr he)
  refine ⟨fun k => findBy (noneKind prog w).is es k, ⟨_, es, n, X _ _ hl, ⟨rfl, rfl, rfl⟩, rfl, fun e he => ?_, fun k => rfl⟩, ?_⟩
  · obtain ⟨x, t, e1, e2⟩ := key e he
    refine ⟨some (.inr x), ?_, ?_⟩
    · rw [e1]
      exact strKind_is prog w x t
    · rw [e2]
      rfl
  · have q : (es.find? fun e => nkIs none e.key) = none := by
      rw [Array.find?_eq_none]
      intro e he hq
      obtain ⟨x, t, e1, _⟩ := key e he
      rw [e1] at hq
      cases hq
    show (es.find? fun e => nkIs none e.key).map (·.val) = none
    rw [q] <;> rfl
def tKGet (K : PySem.W.Frag) (w : World) (td ty : TE) : TE := fun σ H Q => td σ H fun x H1 => ∃ a es n, x = .ref a ∧ KDict K w a es n ∧ ty σ H1 fun y H2 => (y = .non ∧ Q .non H2) ∨ ∃ z, y = .str z ∧ ((PySem.W.nsIn K a z = some none ∧ Q .non H2) ∨ ∃ u v, PySem.W.nsIn K a z = some (some u) ∧ RelV v u ∧ Q v H2)
section
variable {X : Cx} {o e : Expr} {apos cpos : Pos} {td ty : TE}
theorem pe_kget (ho : PE X o td) (he : PE X e ty) (m : M1 X o "get" apos e cpos) : PE X (.Call (.Attribute o "get" apos) [e] [] cpos) (tKGet X.K X.w td ty) := by
  refine ⟨fun pins s σ H Q I h => ?_⟩
  refine wpAny_Call_method m.base m.few m.line PySem.F.plainAttrs_dict PySem.F.slot_dict_get PySem.F.type_dict_get (thn (ho.run pins s σ H _ I h) fun u s1 ⟨x, H1, I1, rx, a, es, n, ex, D, q1⟩ => ?_)
  subst ex
  obtain rfl : u = Value.ref a := rx
  have g1 := I1.kIn _ _ D.at_
  have t1 : s1.TypeIs (.ref a) "dict" := (PySem.W.mapOf_K (prog := X.prog) (w := X.w) I1.kIn D.at_ D.lit).typeIs
  refine ⟨t1, fun b eb => (by cases eb; exact ⟨_, g1, rfl⟩), ?_⟩
  rw [m.trees]
  refine Calls.callWith_builtin rfl (Calls.evalArgs_plain (Calls.spliced_cons (thn (he.run pins s1 σ H1 _ I1 q1) fun iv s2 ⟨y, H2, I2, ry, q2⟩ => Calls.spliced_nil ?_)))
  rcases q2 with ⟨ey, q⟩ | ⟨z, ey, q⟩
  · subst ey
    obtain rfl : iv = Value.none := ry
    obtain ⟨f, hm, hf⟩ := mapOf_KN (prog := X.prog) (w := X.w) I2.kIn D.at_ D.lit
    refine call_meetsIn PySem.F.slot_dict_get hm.typeIs PySem.F.entry_dict_get (PySem.F.args_dict_get_2 _ _) (meets_dict_get (noneKind X.prog X.w) a (k := none) (key := .none) rfl D.low) ⟨_, hm, ?_⟩
    rw [hf]
    exact ⟨.non, H2, I2.tok _, rfl, q⟩
  · subst ey
    obtain ⟨t, rfl⟩ := (show ∃ t, iv = Value.str z t from ry)
    have hm := PySem.W.mapOf_K (prog := X.prog) (w := X.w) I2.kIn D.at_ D.lit
    rcases q with ⟨hn, q⟩ | ⟨u, v, hn, rv, q⟩
    · refine call_meetsIn PySem.F.slot_dict_get hm.typeIs PySem.F.entry_dict_get (PySem.F.args_dict_get_2 _ _) (meets_dict_get (strKind X.prog X.w) a (strKind_is X.prog X.w z t) D.low) ⟨_, hm, ?_⟩
      rw [PySem.W.find_K D.at_ hn]
      exact ⟨.non, H2, I2.tok _, rfl, q⟩
    · refine call_meetsIn PySem.F.slot_dict_get hm.typeIs PySem.F.entry_dict_get (PySem.F.args_dict_get_2 _ _) (meets_dict_get (strKind X.prog X.w) a (strKind_is X.prog X.w z t) D.low) ⟨_, hm, ?_⟩
      rw [PySem.W.find_K D.at_ hn]
      exact ⟨v, H2, I2.tok _, rv, q⟩
end
/-! ### x(e, ..), x a local that holds one of several defs -/
section
variable {X : Cx} {CX : CXT} {k i : Nat} {x : Str} {E : XK} {e : Expr} {es : List Expr} {t : TA} {p pos : Pos}
def tCallW (i : Nat) (S : Addr → Sp → Prop) (E : XK) (t : TA) : TE := fun σ H Q => ∃ f sp, σ[i]? = some (some (.ref f)) ∧ S f sp ∧ t σ H fun vs H1 => sp vs H1 Q E
theorem pe_callW {S : Addr → Sp → Prop} (A : ∀ f sp, S f sp → HeldX X.prog X.w X.K X.mg X.base CX k f sp) (hr : Room k X.A) (hN : X.N[i]? = some x) (hv : Vis X.env.scope x) (hx : Passes CX X E) (ha : PA X (e :: es) t)
    (hdb : (x == ("__debug__" : Str)) = false := by decide) (hcd : (x == ("__classdict__" : Str)) = false := by decide)
    (he : starEach (e :: es) X.env = (false, eval e X.env) :: starEach es X.env := by rfl) (hpl : (backTo pos (starEach es X.env)).any (·.1) = false := by rfl) : PE X (.Call (.Name x p) (e :: es) [] pos) (tCallW i S E t) := by
  refine ⟨fun pins s σ H Q I ⟨f, sp, hs, hS, ht⟩ => ?_⟩
  obtain ⟨fd, ps, F, hk, hb⟩ := (A f sp hS).ex
  refine wpAny_Call_Name_kw (thn ((pe_var (pos := p) hN hv hdb hcd).run pins s σ H (fun v H1 => v = .ref f ∧ H1 = H) I ⟨.ref f, hs, rfl, rfl⟩) fun u s1 ⟨v, H1, I1, r1, q1⟩ => ?_)
  obtain ⟨rfl, rfl⟩ := q1
  cases r1
  refine PySem.W.callWith_K (h₀ := X.base) I.ok.mod.kin hk (thn (ha.run pos pins s1 σ _ _ I1 ht) fun us s2 ⟨vs, H2, I2, r, q⟩ => ⟨I2.kIn, ?_⟩) he hpl
  have e0 : vs ++ [] = vs := List.append_nil vs
  exact run_fn F hr hb .nil hx I2 r (by rw [e0]; exact q)
end
/-! ### two tuples walked side by side -/
theorem walk_zipT {K : PySem.W.Frag} {a b : Addr} {xs ys : List V} {n : Nat} (hn : n = min xs.length ys.length) : Walk (ItzT K a b) n (fun H => SqT K H a xs ∧ SqT K H b ys) (YPair (fun i => xs[i]?) (fun i => ys[i]?)) where
  goes := fun i H hi h => ⟨xs, ys, xs[i], ys[i], h.1, h.2, by simp, by simp⟩
  stops := fun H h => ⟨xs, ys, h.1, h.2, by omega⟩
  yields := fun i H x H' hi h ⟨T, x1, y1, e, n1, e2, hx, hy⟩ => ⟨T, x1, y1, e, n1, e2, hx _ h.1, hy _ h.2⟩
end G

set_option Elab.async false
set_option linter.all false
set_option maxRecDepth 100000
set_option maxHeartbeats 4000000
/-! Parts of statements: which they are, each checked; first_word, _parts_fit. -/
namespace G
open PySem PySem.Spec PyProof.Rows L2 StX RZ
inductive Ck
  | name
  | word
  | given
  | times
  | block
  | test
  deriving DecidableEq
def firstW : PyData → Option Str
  | .tuple (.str w :: _) => some w
  | _ => none
def tupI : PyData → List PyData
  | .tuple ds => ds
  | _ => []
/-- "not" taken off, once -/
def unNot1 (d : PyData) : PyData := if firstW d = some (Str.ofString "not") ∧ (tupI d).length = 2 then (tupI d).getD 1 .none else d
def unNot3 (d : PyData) : PyData := unNot1 (unNot1 (unNot1 d))
def S1 (x : String) (l : List Ck) : Str × List Ck := (Str.ofString x, l)
def plainL : List (Str × List Ck) := [S1 "given" [.given], S1 "set" [.name], S1 "same" [.name, .name], S1 "full" [.name, .name], S1 "wished" [.word]]
def plainT (w : Str) : Option (List Ck) := plainL.lookup w
def ckP (c : Ck) (d : PyData) (g : Int) : Bool := match c with
  | .name => nameD d
  | .word => wordD d
  | .given => rngD 0 (g - 1) d
  | .times => rngD 0 12 d
  | .block => isTupD d
  | .test => false
def fitW (ck : Ck → PyData → Int → Bool) (cks : List Ck) (ds : List PyData) (g : Int) : Bool := decide (ds.length = cks.length) && (List.zipWith (fun c d => ck c d g) cks ds).all id
def isTest (d : PyData) (g : Int) : Bool := match (firstW (unNot3 d)).bind plainT with
  | some cks => fitW ckP cks (tupI (unNot3 d)).tail g
  | none => false
def ckB (c : Ck) (d : PyData) (g : Int) : Bool := match c with
  | .test => isTest d g
  | c => ckP c d g
def stmtL : List (Str × List Ck) := [S1 "make" [.name], S1 "wish" [.name, .word], S1 "keep" [.name], S1 "name" [.name, .name], S1 "drop" [.name], S1 "hold" [.name, .name, .name], S1 "weak" [.name, .name, .name], S1 "cut" [.name, .name], S1 "take" [.name, .name, .name], S1 "say" [.word], S1 "ask" [.test], S1 "if" [.test, .block, .block], S1 "repeat" [.times, .block]]
def stmtT (w : Str) : Option (List Ck) := stmtL.lookup w
theorem look_mem {α : Type} {w : Str} {x : α} : ∀ {l : List (Str × α)}, l.lookup w = some x → (w, x) ∈ l
  | (k, y) :: r, h => by
    rw [List.lookup_cons] at h
    by_cases c : w = k
    · subst c
      rw [beq_self_eq_true] at h
      have h : some y = some x := h
      cases h
      exact List.mem_cons_self ..
    · have hb : (w == k) = false := beq_eq_false_iff_ne.mpr c
      rw [hb] at h
      exact List.mem_cons_of_mem _ (look_mem h)
theorem look_none {α : Type} {w : Str} : ∀ {l : List (Str × α)}, l.lookup w = none → w ∉ l.map (·.1)
  | [], _ => List.not_mem_nil
  | (k, y) :: r, h => by
    rw [List.lookup_cons] at h
    by_cases c : w = k
    · subst c
      rw [beq_self_eq_true] at h
      cases h
    · have hb : (w == k) = false := beq_eq_false_iff_ne.mpr c
      rw [hb] at h
      intro m
      rcases List.mem_cons.mp m with z | z
      · exact c z
      · exact look_none h z
def isStmt (d : PyData) (g : Int) : Bool := match (firstW d).bind stmtT with
  | some cks => fitW ckB cks (tupI d).tail g
  | none => false
def spCk (c : Ck) : Sp := fun vs H Q _ => ∃ (G : Addr → Prop) (v : V) (d : PyData) (g : Int), vs = [v, .int g] ∧ GV G H v d ∧ 0 ≤ g ∧ ∀ H', Same H H' → Q (.bl (ckB c d g)) H'
section
variable {P : Program} {w : World} {K : PySem.W.Frag} {mg : Str → Option Value} {base : Heap} {RV : Addr}
abbrev s_first_word : Stmt := top 24
theorem sc_first_word : FnScope ["value"] ["value"] (defScope s_first_word) := ⟨rfl, rfl, rfl, by decide +kernel, rfl, by decide +kernel, by decide +kernel⟩
def optS : Option Str → V
  | some x => .str x
  | none => .non
def spFW : Sp := fun vs H Q _ => ∃ (G : Addr → Prop) (v : V) (d : PyData), vs = [v] ∧ GV G H v d ∧ Q (optS (firstW d)) H
theorem ok_first_word {f : Addr} {fd : FuncData} (F : Fun K "first_word" "first_word" s_first_word f fd) (N : KN K mg RV) : FnOk P w K mg base CX0 1 f fd ["value"] spFW := by
  refine F.ok sc_first_word (fun vs H Q E ⟨_, x, _, ev, _⟩ => by rw [ev]; rfl) (fun cdv A outer s H vs Q E hr ⟨G, v, d, ev, gd, q⟩ => ?_)
  subst ev
  refine ⟨_, (pss_cons (ps_if (PW.pt (pw_and (pt_val (pe_callB (show CallR _ (.builtin "isinstance") (rIsi K) from call_isi) (by rfl) N.z_isi (by decide +kernel) (pa_cons (pv 0) (pa_cons (pe_bltn (v := .ty "tuple") (by rfl) N.z_tuple rfl rfl) pa_nil)))) (pw_and (pt_truth (pv 0) (by intro _; rfl)) (pw_and1 (pt_val (pe_callB (show CallR _ (.builtin "isinstance") (rIsi K) from call_isi) (by rfl) N.z_isi (by decide +kernel) (pa_cons (pe_ix ix_tup (pv 0) pe_int (fun _ _ => rfl)) (pa_cons (pe_bltn (v := .ty "str") (by rfl) N.z_str rfl rfl) pa_nil))))))))
      (pss_one (ps_ret (pe_ix ix_tup (pv 0) pe_int (fun _ _ => rfl)))) pss_nil)
      (pss_one (ps_ret pe_non))), ?_⟩
  refine ⟨_, rfl, _, _, _, _, _, rfl, .ty "tuple", gd.ty, kit_tup d, _, rfl, ?_⟩
  cases e : isTupD d with
  | false =>
    have e2 : firstW d = none := by cases d <;> first | rfl | cases e
    rw [e2] at q
    exact iteF (iteF q)
  | true =>
    obtain ⟨ds, rfl⟩ := tupD_of e
    obtain ⟨a, xs, rfl, ga, gx⟩ := gd_tup gd
    refine iteT ⟨_, rfl, !xs.isEmpty, .inr (.inl ⟨xs, SqT.of ga, rfl⟩), ?_⟩
    cases gx with
    | nil => exact iteF (iteF q)
    | cons h1 h2 =>
      rename_i u us d0 dr
      refine iteT ⟨_, rfl, a, _, _, _, rfl, rfl, SqT.of ga, atI_nat (j := 0) rfl, _, _, _, _, _, rfl, .ty "str", h1.ty, kit_str d0, _, rfl, ?_⟩
      cases e3 : isStrD d0 with
      | false =>
        have e4 : firstW (.tuple (d0 :: dr)) = none := by cases d0 <;> first | rfl | cases e3
        rw [e4] at q
        exact iteF q
      | true =>
        obtain ⟨x, rfl⟩ := strD_of e3
        cases h1
        exact iteT ⟨_, rfl, a, _, _, _, rfl, rfl, SqT.of ga, atI_nat (j := 0) rfl, q⟩
abbrev s__parts_fit : Stmt := top 25
abbrev n__parts_fit : List Str := ["parts", "checks", "givens", "check", "part"]
theorem sc__parts_fit : FnScope n__parts_fit ["parts", "checks", "givens"] (defScope s__parts_fit) := ⟨rfl, rfl, rfl, by decide +kernel, rfl, by decide +kernel, by decide +kernel⟩
def spPF (K : PySem.W.Frag) (adr : Ck → Addr) (A : Ck → Prop) : Sp := fun vs H Q _ => ∃ (G : Addr → Prop) (pa ca : Addr) (xs : List V) (ds : List PyData) (cks : List Ck) (g : Int), vs = [.ref pa, .ref ca, .int g] ∧ H pa = some (.tup xs) ∧ GVs G H xs ds ∧ (∀ H, SqT K H ca (cks.map fun c => V.ref (adr c))) ∧
  (∀ c ∈ cks, A c) ∧ cks.length ≤ 3 ∧ 0 ≤ g ∧ ∀ H', Same H H' → Q (.bl (fitW ckB cks ds g)) H'
theorem ok_parts_fit {f : Addr} {fd : FuncData} {k : Nat} {adr : Ck → Addr} {A : Ck → Prop} (F : Fun K "_parts_fit" "_parts_fit" s__parts_fit f fd) (N : KN K mg RV) (HC : ∀ c, A c → HeldX P w K mg base CX0 k (adr c) (spCk c)) : FnOk P w K mg base CX0 (k + 1) f fd ["parts", "checks", "givens"] (spPF K adr A) := by
  refine F.ok sc__parts_fit (fun vs H Q E ⟨_, _, _, _, _, _, _, ev, _⟩ => by rw [ev]; rfl) (fun cdv A' outer s H vs Q E hr ⟨G, pa, ca, xs, ds, cks, g, ev, gp, gd, gc, hA, lc, hg, q⟩ => ?_)
  subst ev
  refine ⟨_, (pss_cons (ps_if (pt_cmpR op_ne (pe_callB call_len_seq (by rfl) N.z_len (by decide +kernel) (pa_cons (pv 0) pa_nil)) (pe_callB call_len_seq (by rfl) N.z_len (by decide +kernel) (pa_cons (pv 1) pa_nil)) (nomark _))
      (pss_one (ps_ret pe_bl)) pss_nil)
      (pss_one (ps_ret (pe_callB (cr_all rfl) (by rfl) N.z_all (by decide +kernel) (pa_cons (pe_lc (g := gTup K 2 (gCons (gName 3) (gCons (gName 4) gNil))) (tt := tYes) (te := tCallW 3 (fun f sp => ∃ c, A c ∧ f = adr c ∧ sp = spCk c) E0 (tCons (tVar 4) (tCons (tVar 2) tNil))) (own := [("check", 3), ("part", 4)]) (by rfl) sc__parts_fit.nd (pi_zipA (by rfl) N.z_zip (pa_cons (pv 1) (pa_cons (pv 0) pa_nil))) (blkOk_by (N := n__parts_fit) (sc := defScope s__parts_fit) (by decide +kernel)) (fun _ _ _ _ _ => pg_tup rfl (pgs_cons (pg_name (i := 3) sc__parts_fit.nd rfl (.inl rfl)) (pgs_cons (pg_name (i := 4) sc__parts_fit.nd rfl (.inl rfl)) pgs_nil))) (fun _ _ _ _ _ => pts_nil)
        (fun _ _ _ _ _ => pe_callW (i := 3) (E := E0) (S := fun f sp => ∃ c, A c ∧ f = adr c ∧ sp = spCk c) (fun f sp ⟨c, hc, ef, es⟩ => by rw [ef, es]; exact HC c hc) hr rfl (.inl rfl) pass0 (pa_cons (pv 4) (pa_cons (pv 2) pa_nil)))) pa_nil))))), ?_⟩
  have lx := gd.len
  refine ⟨_, rfl, pa, xs, rfl, .inr (SqT.of gp), _, rfl, ca, _, rfl, .inr (gc _), rfl, _, rfl, ?_⟩
  rw [List.length_map]
  by_cases c : (xs.length : Int) = (cks.length : Int)
  · have c2 : ds.length = cks.length := by omega
    rw [show (!decide (V.int (xs.length : Int) = V.int (cks.length : Int))) = false by rw [decide_eq_true (by rw [c])]; rfl]
    refine iteF ⟨_, rfl, _, rfl, ca, pa, _, _, rfl, .inr ⟨gc _, SqT.of gp, fun D nD => ?_⟩⟩
    refine lc_it (walk_zipT (n := cks.length) (by rw [List.length_map]; omega)) (fun i H' => Ch [D] H H' ∧ H' D = some (.lst ((((List.zipWith (fun c d => ckB c d g) cks ds).take i)).map V.bl))) ⟨(Ch.refl _ _).new nD, upd_same⟩ (fun i H' _ h => ⟨gc _, SqT.of (h.1.tu _ _ gp)⟩) ?_ ?_
    · rintro i v H1 H2 hi ⟨c1, g1⟩ ⟨T, x, y, rfl, nT, rfl, hx, hy⟩
      have hx : (cks.map fun c => V.ref (adr c))[i]? = some x := hx
      have hy : xs[i]? = some y := hy
      rw [List.getElem?_map] at hx
      obtain ⟨ck, hck, rfl⟩ := Option.map_eq_some_iff.mp hx
      obtain ⟨d, hd, gdy⟩ := gd.at hy
      have s2 := Same.up (o := HO.tup [V.ref (adr ck), y]) nT
      have gT : upd H1 T (HO.tup [V.ref (adr ck), y]) T = some (.tup [V.ref (adr ck), y]) := upd_same
      have c2' := c1.trans (Ch.same (S := [D]) s2)
      have g2 := s2 _ _ g1
      generalize upd H1 T (HO.tup [V.ref (adr ck), y]) = H3 at s2 gT c2' g2 ⊢
      have sm3 : Same H H3 := (c2'.kp.fresh nD).toSame
      refine ⟨T, _, rfl, SqT.of gT, rfl, _, _, rfl, _, _, rfl, rfl, rfl, adr ck, spCk ck, rfl, ⟨ck, hA ck (List.mem_of_getElem? hck), rfl, rfl⟩, _, rfl, _, rfl, G, y, d, g, rfl, gdy.same sm3, hg, fun H4 s4 => ⟨_, s4 _ _ g2, small1000 ?_, (c2'.trans (Ch.same s4)).put (by simp) (s4 _ _ g2) (fun xs z => by cases z), ?_⟩⟩
      · rw [List.length_map, List.length_take, List.length_zipWith]; omega
      · rw [upd_same]
        have ez : (List.zipWith (fun c d => ckB c d g) cks ds)[i]? = some (ckB ck d g) := by rw [List.getElem?_zipWith, hck, hd]
        rw [List.take_add_one, ez, List.map_append]
        rfl
    · rintro H2 ⟨c1, g1⟩
      have e1 : (List.zipWith (fun c d => ckB c d g) cks ds).length = cks.length := by rw [List.length_zipWith]; omega
      rw [← e1, List.take_length] at g1
      refine ⟨D, _, rfl, SqL.of g1, ?_⟩
      unfold fitW at q
      rw [decide_eq_true c2] at q
      exact q H2 (c1.kp.fresh nD).toSame
  · rw [show (!decide (V.int (xs.length : Int) = V.int (cks.length : Int))) = true by rw [decide_eq_false (fun z => c (by injection z))]; rfl]
    unfold fitW at q
    rw [decide_eq_false (by omega : ¬ ds.length = cks.length)] at q
    exact iteT (q H (Same.refl _))
end
end G

set_option Elab.async false
set_option linter.all false
set_option maxRecDepth 100000
set_option maxHeartbeats 4000000
/-! The checks as defs; is_test, is_statement. -/
namespace G
open PySem PySem.Spec PyProof.Rows L2 StX RZ
theorem sIx1 (a : V) (ys : List V) : ¬ HT.sIx (a :: ys).length 0 (some 1) = 0 := by
  rw [show HT.sIx (a :: ys).length 0 (some 1) = min 1 (a :: ys).length from HT.sIx_nat _ 0 1, List.length_cons]
  omega
theorem cut_drop (xs : List V) (k : Nat) : cutV xs (some (k : Int)) none = xs.drop k := by
  unfold cutV
  rw [show HT.sIx xs.length 0 (some (k : Int)) = min k xs.length from HT.sIx_nat _ 0 k, HT.sIx_none]
  by_cases h : k ≤ xs.length
  · rw [Nat.min_eq_left h, List.take_of_length_le (by rw [List.length_drop]; omega)]
  · rw [Nat.min_eq_right (by omega), List.drop_of_length_le (Nat.le_refl _), List.drop_of_length_le (by omega), List.take_nil]
theorem cut1 (a : V) (ys : List V) : cutV (a :: ys) (some 1) none = ys := cut_drop (a :: ys) 1
/-- a written dict of checks -/
structure TBL (K : PySem.W.Frag) (w : World) (T : Addr) (tab : Str → Option (List Ck)) (adr : Ck → Addr) : Prop where
  kd : ∃ es n, KDict K w T es n
  miss : ∀ z, tab z = none → PySem.W.nsIn K T z = some none
  hit : ∀ z cks, tab z = some cks → ∃ ca, PySem.W.nsIn K T z = some (some (.ref ca)) ∧ ∀ H, SqT K H ca (cks.map fun c => V.ref (adr c))
theorem firstW_of {d : PyData} {x : Str} (h : firstW d = some x) : ∃ r, d = .tuple (.str x :: r) := by
  match d, h with
  | .tuple (.str w :: r), h => cases h; exact ⟨r, rfl⟩
  | .tuple (.none :: _), h => cases h
  | .tuple (.bool _ :: _), h => cases h
  | .tuple (.int _ :: _), h => cases h
  | .tuple (.list _ :: _), h => cases h
  | .tuple (.tuple _ :: _), h => cases h
  | .tuple (.dict _ :: _), h => cases h
theorem fitW_congr {ck ck' : Ck → PyData → Int → Bool} {g : Int} {cks : List Ck} {ds : List PyData} (h : ∀ c ∈ cks, ∀ d, ck c d g = ck' c d g) : fitW ck cks ds g = fitW ck' cks ds g := by
  unfold fitW
  have e : List.zipWith (fun c d => ck c d g) cks ds = List.zipWith (fun c d => ck' c d g) cks ds := by
    induction cks generalizing ds with
    | nil => rfl
    | cons c r ih =>
      cases ds with
      | nil => rfl
      | cons d ds =>
        rw [List.zipWith_cons_cons, List.zipWith_cons_cons, h c (List.mem_cons_self ..), ih fun c hc => h c (List.mem_cons_of_mem _ hc)]
  rw [e]
theorem plainT_ne {w : Str} {cks : List Ck} (h : plainT w = some cks) : (∀ c ∈ cks, c ≠ .test) ∧ cks.length ≤ 3 := by
  have z : ∀ p ∈ plainL, (∀ c ∈ p.2, c ≠ .test) ∧ p.2.length ≤ 3 := by
    intro p hp
    simp only [plainL, List.mem_cons, List.not_mem_nil, or_false] at hp
    rcases hp with rfl | rfl | rfl | rfl | rfl <;> exact ⟨by simp [S1], by decide⟩
  exact z _ (look_mem h)
theorem stmtT_len {w : Str} {cks : List Ck} (h : stmtT w = some cks) : cks.length ≤ 3 := by
  have z : ∀ p ∈ stmtL, p.2.length ≤ 3 := by
    intro p hp
    simp only [stmtL, List.mem_cons, List.not_mem_nil, or_false] at hp
    rcases hp with rfl | rfl | rfl | rfl | rfl | rfl | rfl | rfl | rfl | rfl | rfl | rfl | rfl <;> exact Nat.le_of_ble_eq_true rfl
  exact z _ (look_mem h)
section
variable {P : Program} {w : World} {K : PySem.W.Frag} {mg : Str → Option Value} {base : Heap} {RV : Addr}
abbrev n_vu : List Str := ["value", "_"]
abbrev s__name_part : Stmt := top 18
theorem sc__name_part : FnScope n_vu ["value", "_"] (defScope s__name_part) := ⟨rfl, rfl, rfl, by decide +kernel, rfl, by decide +kernel, by decide +kernel⟩
theorem ok_name_part {f fN : Addr} {fd dN : FuncData} (F : Fun K "_name_part" "_name_part" s__name_part f fd) (DN : Df K mg "is_name" s_is_name ["value"] fN dN) (GN : FnOk P w K mg base CX0 1 fN dN ["value"] (spB nameD)) : FnOk P w K mg base CX0 2 f fd ["value", "_"] (spCk .name) := by
  refine F.ok sc__name_part (fun vs H Q E ⟨_, _, _, _, ev, _⟩ => by rw [ev]; rfl) (fun cdv A outer s H vs Q E hr ⟨G, v, d, g, ev, gd, hg, q⟩ => ?_)
  subst ev
  exact ⟨_, pss_one (ps_ret (pe_call GN hr (by rfl) DN.m DN.F.kp DN.b .nil pass0 (pa_cons (pv 0) pa_nil))), _, rfl, G, v, d, rfl, gd, q⟩
abbrev s__word_part : Stmt := top 19
theorem sc__word_part : FnScope n_vu ["value", "_"] (defScope s__word_part) := ⟨rfl, rfl, rfl, by decide +kernel, rfl, by decide +kernel, by decide +kernel⟩
theorem ok_word_part {f fN : Addr} {fd dN : FuncData} (F : Fun K "_word_part" "_word_part" s__word_part f fd) (DN : Df K mg "is_word" s_is_word ["value"] fN dN) (GN : FnOk P w K mg base CX0 1 fN dN ["value"] (spB wordD)) : FnOk P w K mg base CX0 2 f fd ["value", "_"] (spCk .word) := by
  refine F.ok sc__word_part (fun vs H Q E ⟨_, _, _, _, ev, _⟩ => by rw [ev]; rfl) (fun cdv A outer s H vs Q E hr ⟨G, v, d, g, ev, gd, hg, q⟩ => ?_)
  subst ev
  exact ⟨_, pss_one (ps_ret (pe_call GN hr (by rfl) DN.m DN.F.kp DN.b .nil pass0 (pa_cons (pv 0) pa_nil))), _, rfl, G, v, d, rfl, gd, q⟩
abbrev s__given_part : Stmt := top 20
theorem sc__given_part : FnScope ["value", "givens"] ["value", "givens"] (defScope s__given_part) := ⟨rfl, rfl, rfl, by decide +kernel, rfl, by decide +kernel, by decide +kernel⟩
theorem ok_given_part {f fN : Addr} {fd dN : FuncData} (F : Fun K "_given_part" "_given_part" s__given_part f fd) (DN : Df K mg "is_from_to" s_is_from_to ["value", "low", "high"] fN dN) (GN : FnOk P w K mg base CX0 2 fN dN ["value", "low", "high"] spFT) : FnOk P w K mg base CX0 3 f fd ["value", "givens"] (spCk .given) := by
  refine F.ok sc__given_part (fun vs H Q E ⟨_, _, _, _, ev, _⟩ => by rw [ev]; rfl) (fun cdv A outer s H vs Q E hr ⟨G, v, d, g, ev, gd, hg, q⟩ => ?_)
  subst ev
  exact ⟨_, pss_one (ps_ret (pe_call GN hr (by rfl) DN.m DN.F.kp DN.b .nil pass0 (pa_cons (pv 0) (pa_cons pe_int (pa_cons (pe_op op_sub (pv 1) pe_int) pa_nil))))), _, rfl, _, rfl, _, _, rfl, rfl, G, v, d, 0, g - 1, rfl, gd, q H (Same.refl _)⟩
abbrev s__times_part : Stmt := top 21
theorem sc__times_part : FnScope n_vu ["value", "_"] (defScope s__times_part) := ⟨rfl, rfl, rfl, by decide +kernel, rfl, by decide +kernel, by decide +kernel⟩
theorem ok_times_part {f fN : Addr} {fd dN : FuncData} (F : Fun K "_times_part" "_times_part" s__times_part f fd) (N : KN K mg RV) (DN : Df K mg "is_from_to" s_is_from_to ["value", "low", "high"] fN dN) (GN : FnOk P w K mg base CX0 2 fN dN ["value", "low", "high"] spFT) : FnOk P w K mg base CX0 3 f fd ["value", "_"] (spCk .times) := by
  refine F.ok sc__times_part (fun vs H Q E ⟨_, _, _, _, ev, _⟩ => by rw [ev]; rfl) (fun cdv A outer s H vs Q E hr ⟨G, v, d, g, ev, gd, hg, q⟩ => ?_)
  subst ev
  obtain ⟨tm, hm⟩ := N.mTimes
  exact ⟨_, pss_one (ps_ret (pe_call GN hr (by rfl) DN.m DN.F.kp DN.b .nil pass0 (pa_cons (pv 0) (pa_cons pe_int (pa_cons (pe_glob (v := .int 12) rfl hm ⟨_, rfl⟩) pa_nil))))), _, rfl, G, v, d, 0, 12, rfl, gd, q H (Same.refl _)⟩
abbrev s__block_part : Stmt := top 22
theorem sc__block_part : FnScope n_vu ["value", "_"] (defScope s__block_part) := ⟨rfl, rfl, rfl, by decide +kernel, rfl, by decide +kernel, by decide +kernel⟩
theorem ok_block_part {f : Addr} {fd : FuncData} (F : Fun K "_block_part" "_block_part" s__block_part f fd) (N : KN K mg RV) : FnOk P w K mg base CX0 1 f fd ["value", "_"] (spCk .block) := by
  refine F.ok sc__block_part (fun vs H Q E ⟨_, _, _, _, ev, _⟩ => by rw [ev]; rfl) (fun cdv A outer s H vs Q E hr ⟨G, v, d, g, ev, gd, hg, q⟩ => ?_)
  subst ev
  exact ⟨_, pss_one (ps_ret (pe_callB (show CallR _ (.builtin "isinstance") (rIsi K) from call_isi) (by rfl) N.z_isi (by decide +kernel) (pa_cons (pv 0) (pa_cons (pe_bltn (v := .ty "tuple") (by rfl) N.z_tuple rfl rfl) pa_nil)))), _, rfl, _, _, _, _, _, rfl, .ty "tuple", gd.ty, kit_tup d, q H (Same.refl _)⟩
/-! ### is_test -/
def unN (d : PyData) : Nat → PyData
  | 0 => d
  | i + 1 => unNot1 (unN d i)
theorem gd_unNot {F : Addr → Prop} {H : Hp} {v : V} {d : PyData} (g : GV F H v d) (h : firstW d = some (Str.ofString "not") ∧ (tupI d).length = 2) : ∃ a xs u, v = .ref a ∧ H a = some (.tup xs) ∧ xs.length = 2 ∧ xs[1]? = some u ∧ GV F H u (unNot1 d) := by
  obtain ⟨r, rfl⟩ := firstW_of h.1
  obtain ⟨a, xs, rfl, ga, gx⟩ := gd_tup g
  have l2 : (PyData.str "not" :: r).length = 2 := h.2
  have lx := gx.len
  match r, l2 with
  | [d1], _ =>
    obtain ⟨v0, ys, rfl, g0, g1⟩ := gds_cons gx
    obtain ⟨v1, zs, rfl, g2, g3⟩ := gds_cons g1
    cases g3
    refine ⟨a, _, v1, rfl, ga, rfl, rfl, ?_⟩
    unfold unNot1
    rw [if_pos h]
    exact g2
abbrev s_is_test : Stmt := top 26
abbrev n_is_test : List Str := ["value", "givens", "inner", "_", "checks"]
theorem sc_is_test : FnScope n_is_test ["value", "givens"] (defScope s_is_test) := ⟨rfl, rfl, rfl, by decide +kernel, rfl, by decide +kernel, by decide +kernel⟩
theorem ok_is_test {f fW fF PT : Addr} {fd dW dF : FuncData} {k : Nat} {adr : Ck → Addr} (hk : 1 ≤ k) (F : Fun K "is_test" "is_test" s_is_test f fd) (N : KN K mg RV) (mT : mg "PLAIN_TESTS" = some (.ref PT)) (TB : TBL K w PT plainT adr)
    (DW : Df K mg "first_word" s_first_word ["value"] fW dW) (GW : FnOk P w K mg base CX0 1 fW dW ["value"] spFW)
    (DF : Df K mg "_parts_fit" s__parts_fit ["parts", "checks", "givens"] fF dF) (GF : FnOk P w K mg base CX0 k fF dF ["parts", "checks", "givens"] (spPF K adr fun c => c ≠ .test)) : FnOk P w K mg base CX0 (k + 1) f fd ["value", "givens"] (spCk .test) := by
  refine F.ok sc_is_test (fun vs H Q E ⟨_, _, _, _, ev, _⟩ => by rw [ev]; rfl) (fun cdv A outer s H vs Q E hr ⟨G, v, d, g, ev, gd, hg, q⟩ => ?_)
  subst ev
  have hr1 : Room 1 _ := hr.mono hk
  obtain ⟨tm, hm⟩ := N.mNot
  obtain ⟨es, n, KD⟩ := TB.kd
  refine ⟨_, (pss_cons (ps_set (i := 2) sc_is_test.nd rfl (.inl rfl) (pv 0))
      (pss_cons (ps_for PassesOwn.never rfl (pi_range1 (by rfl) N.z_range (pa_cons (pe_glob (v := .int 3) rfl hm ⟨_, rfl⟩) pa_nil)) (pg_name (i := 3) sc_is_test.nd rfl (.inl rfl))
        (pss_one (ps_if (PW.pt (pw_and (pt_cmpR op_eq (pe_call GW hr1 (by rfl) DW.m DW.F.kp DW.b .nil pass0 (pa_cons (pv 2) pa_nil)) pe_str (nomark _)) (pw_and1 (pt_cmpR op_eq (pe_callB call_len_seq (by rfl) N.z_len (by decide +kernel) (pa_cons (pv 2) pa_nil)) pe_int (nomark _)))))
          (pss_one (ps_set (i := 2) sc_is_test.nd rfl (.inl rfl) (pe_ix ix_tup (pv 2) pe_int (fun _ _ => rfl)))) pss_nil)))
      (pss_cons (ps_set (i := 4) sc_is_test.nd rfl (.inl rfl) (pe_kget (pe_glob (v := .ref PT) rfl mT rfl) (pe_call GW hr1 (by rfl) DW.m DW.F.kp DW.b .nil pass0 (pa_cons (pv 2) pa_nil)) ⟨rfl, rfl, rfl, rfl⟩))
      (pss_one (ps_ret (pe_and (pe_cmpR op_notN (pv 4) pe_non (nomark _)) (pe_one (pe_call GF hr (by rfl) DF.m DF.F.kp DF.b .nil pass0 (pa_cons (pe_slice sl_tupA (pv 2) (po_some pe_int) po_none) (pa_cons (pv 4) (pa_cons (pv 1) pa_nil))))))))))), ?_⟩
  refine ⟨_, rfl, _, rfl, by decide, by decide, for_range (lo := 0) (n := 3) (fun i σ H' => H = H' ∧ ∃ (vi : V) (x3 : Option V), GV G H vi (unN d i) ∧ σ = [some v, some (.int g), some vi, x3, none]) ⟨rfl, v, none, gd, rfl⟩ ?_ ?_⟩
  · rintro i σ H' hi ⟨rfl, vi, x3, gi, rfl⟩
    refine ⟨vi, rfl, G, vi, unN d i, rfl, gi, ?_⟩
    by_cases c : firstW (unN d i) = some (Str.ofString "not")
    · obtain ⟨r, er⟩ := firstW_of c
      have gi2 := gi
      rw [er] at gi2
      obtain ⟨a, xs, rfl, ga, gx⟩ := gd_tup gi2
      have lx := gx.len
      rw [c]
      refine ⟨rfl, _, rfl, iteT ⟨_, rfl, a, xs, rfl, .inr (SqT.of ga), rfl, _, rfl, ?_⟩⟩
      by_cases c2 : (xs.length : Int) = 2
      · rw [show decide (V.int (xs.length : Int) = V.int 2) = true from decide_eq_true (by rw [c2])]
        have h2 : firstW (unN d i) = some (Str.ofString "not") ∧ (tupI (unN d i)).length = 2 := ⟨c, by rw [er]; show (PyData.str "not" :: r).length = 2; omega⟩
        obtain ⟨a2, xs2, u, ea, ga2, l2, eu, gu⟩ := gd_unNot gi h2
        cases ea
        rw [ga] at ga2
        cases ga2
        exact iteT ⟨_, rfl, a, _, _, _, rfl, rfl, SqT.of ga, atI_nat (j := 1) eu, rfl, u, _, gu, rfl⟩
      · rw [show decide (V.int (xs.length : Int) = V.int 2) = false from decide_eq_false (fun z => c2 (by injection z))]
        refine iteF ⟨rfl, _, _, ?_, rfl⟩
        show GV G H (.ref a) (unNot1 (unN d i))
        unfold unNot1
        rw [if_neg (fun z => c2 (by have z2 := z.2; rw [er] at z2; have z3 : (PyData.str "not" :: r).length = 2 := z2; omega))]
        exact gi
    · have e1 : unN d (i + 1) = unN d i := by
        show unNot1 (unN d i) = _
        unfold unNot1
        rw [if_neg (fun z => c z.1)]
      have fin : H = H ∧ ∃ (vi' : V) (x3 : Option V), GV G H vi' (unN d (i + 1)) ∧ [some v, some (V.int g), some vi, some (V.int (0 + (i : Int))), none] = [some v, some (.int g), some vi', x3, none] := ⟨rfl, vi, _, by rw [e1]; exact gi, rfl⟩
      cases e : firstW (unN d i) with
      | none => exact ⟨rfl, _, rfl, iteF (iteF fin)⟩
      | some z =>
        rw [e] at c
        refine ⟨rfl, _, rfl, ?_⟩
        rw [show decide (optS (some z) = V.str (Str.ofString "not")) = false from decide_eq_false (fun y => c (by injection y with y; rw [y]))]
        exact iteF (iteF fin)
  · rintro σ H' ⟨rfl, vi, x3, gi, rfl⟩
    have gi : GV G H vi (unNot3 d) := gi
    have q : ∀ H', Same H H' → Q (.bl (isTest d g)) H' := q
    unfold isTest at q
    refine ⟨PT, es, n, rfl, KD, vi, rfl, G, vi, _, rfl, gi, ?_⟩
    cases e : firstW (unNot3 d) with
    | none =>
      rw [e] at q
      exact .inl ⟨rfl, _, rfl, rfl, _, rfl, iteF (q H (Same.refl _))⟩
    | some z =>
      rw [e] at q
      refine .inr ⟨z, rfl, ?_⟩
      have q : ∀ H', Same H H' → Q (.bl (match plainT z with
        | some cks => fitW ckP cks (tupI (unNot3 d)).tail g
        | none => false)) H' := q
      cases e2 : plainT z with
      | none =>
        rw [e2] at q
        exact .inl ⟨TB.miss z e2, _, rfl, rfl, _, rfl, iteF (q H (Same.refl _))⟩
      | some cks =>
        rw [e2] at q
        obtain ⟨ca, hca, hsq⟩ := TB.hit z cks e2
        obtain ⟨hne, lc⟩ := plainT_ne e2
        obtain ⟨r, er⟩ := firstW_of e
        rw [er] at gi q
        obtain ⟨a, xs, rfl, ga, gx⟩ := gd_tup gi
        obtain ⟨v0, ys, rfl, g0, g1⟩ := gds_cons gx
        refine .inr ⟨_, .ref ca, hca, rfl, _, rfl, rfl, _, rfl, iteT ⟨_, rfl, _, rfl, a, _, rfl, SqT.of ga, fun h => absurd h.1 (sIx1 _ _), fun _ p np => ?_⟩⟩
        rw [cut1]
        have s2 := Same.up (o := HO.tup ys) np
        refine ⟨_, rfl, _, rfl, G, p, ca, ys, r, cks, g, rfl, upd_same, g1.same s2, hsq, hne, lc, hg, fun H2 s3 => ?_⟩
        rw [fitW_congr (ck' := ckP) (fun c hc d => by cases c <;> first | rfl | exact absurd rfl (hne _ hc))]
        exact q H2 (Same.trans s2 s3)
abbrev s_is_statement : Stmt := top 28
abbrev n_is_statement : List Str := ["value", "givens", "checks"]
theorem sc_is_statement : FnScope n_is_statement ["value", "givens"] (defScope s_is_statement) := ⟨rfl, rfl, rfl, by decide +kernel, rfl, by decide +kernel, by decide +kernel⟩
def spIS : Sp := fun vs H Q _ => ∃ (G : Addr → Prop) (v : V) (d : PyData) (g : Int), vs = [v, .int g] ∧ GV G H v d ∧ 0 ≤ g ∧ ∀ H', Same H H' → Q (.bl (isStmt d g)) H'
theorem ok_is_statement {f fW fF ST : Addr} {fd dW dF : FuncData} {k : Nat} {adr : Ck → Addr} (hk : 1 ≤ k) (F : Fun K "is_statement" "is_statement" s_is_statement f fd) (mT : mg "STATEMENTS" = some (.ref ST)) (TB : TBL K w ST stmtT adr)
    (DW : Df K mg "first_word" s_first_word ["value"] fW dW) (GW : FnOk P w K mg base CX0 1 fW dW ["value"] spFW)
    (DF : Df K mg "_parts_fit" s__parts_fit ["parts", "checks", "givens"] fF dF) (GF : FnOk P w K mg base CX0 k fF dF ["parts", "checks", "givens"] (spPF K adr fun _ => True)) : FnOk P w K mg base CX0 (k + 1) f fd ["value", "givens"] spIS := by
  refine F.ok sc_is_statement (fun vs H Q E ⟨_, _, _, _, ev, _⟩ => by rw [ev]; rfl) (fun cdv A outer s H vs Q E hr ⟨G, v, d, g, ev, gi, hg, q⟩ => ?_)
  subst ev
  have hr1 : Room 1 _ := hr.mono hk
  obtain ⟨es, n, KD⟩ := TB.kd
  refine ⟨_, (pss_cons (ps_set (i := 2) sc_is_statement.nd rfl (.inl rfl) (pe_kget (pe_glob (v := .ref ST) rfl mT rfl) (pe_call GW hr1 (by rfl) DW.m DW.F.kp DW.b .nil pass0 (pa_cons (pv 0) pa_nil)) ⟨rfl, rfl, rfl, rfl⟩))
      (pss_one (ps_ret (pe_and (pe_cmpR op_notN (pv 2) pe_non (nomark _)) (pe_one (pe_call GF hr (by rfl) DF.m DF.F.kp DF.b .nil pass0 (pa_cons (pe_slice sl_tupA (pv 0) (po_some pe_int) po_none) (pa_cons (pv 2) (pa_cons (pv 1) pa_nil))))))))), ?_⟩
  unfold isStmt at q
  refine ⟨ST, es, n, rfl, KD, v, rfl, G, v, _, rfl, gi, ?_⟩
  cases e : firstW d with
  | none =>
    rw [e] at q
    exact .inl ⟨rfl, _, rfl, rfl, _, rfl, iteF (q H (Same.refl _))⟩
  | some z =>
    rw [e] at q
    refine .inr ⟨z, rfl, ?_⟩
    have q : ∀ H', Same H H' → Q (.bl (match stmtT z with
      | some cks => fitW ckB cks (tupI d).tail g
      | none => false)) H' := q
    cases e2 : stmtT z with
    | none =>
      rw [e2] at q
      exact .inl ⟨TB.miss z e2, _, rfl, rfl, _, rfl, iteF (q H (Same.refl _))⟩
    | some cks =>
      rw [e2] at q
      obtain ⟨ca, hca, hsq⟩ := TB.hit z cks e2
      obtain ⟨r, er⟩ := firstW_of e
      rw [er] at gi q
      obtain ⟨a, xs, rfl, ga, gx⟩ := gd_tup gi
      obtain ⟨v0, ys, rfl, g0, g1⟩ := gds_cons gx
      refine .inr ⟨_, .ref ca, hca, rfl, _, rfl, rfl, _, rfl, iteT ⟨_, rfl, _, rfl, a, _, rfl, SqT.of ga, fun h => absurd h.1 (sIx1 _ _), fun _ p np => ?_⟩⟩
      rw [cut1]
      have s2 := Same.up (o := HO.tup ys) np
      exact ⟨_, rfl, _, rfl, G, p, ca, ys, r, cks, g, rfl, upd_same, g1.same s2, hsq, fun _ _ => trivial, stmtT_len e2, hg, fun H2 s3 => q H2 (Same.trans s2 s3)⟩
end
end G

set_option Elab.async false
set_option linter.all false
set_option maxRecDepth 100000
set_option maxHeartbeats 4000000
/-! A generator def whose body is one loop that yields once a turn; its consumer may do more than fill a list. -/
namespace G
open PySem PySem.Spec PyProof.Rows L2 GenW
/-- while the generator sleeps: of what stood before, the consumer's own objects alone may change -/
structure Rested (Cs : List Addr) (s s' : Shared) : Prop where
  os : s'.os = s.os
  bare : AllBare s'.gens
  keep : ∀ b o, b ∉ Cs → s.heap.get? b = some o → s'.heap.get? b = some o
  own : ∀ b ∈ Cs, ∃ o, s'.heap.get? b = some o ∧ ∀ v, o.data ≠ .cell v
structure Aloof (X : Cx) (Cs : List Addr) : Prop where
  young : ∀ b ∈ Cs, X.s_0.heap.objs.size ≤ b
  loc : ∀ b ∈ Cs, b ≠ X.env.locals
  cel : ∀ b ∈ Cs, ∀ x c, X.env.cells.lookup x = some c → c ≠ b
  pn : ∀ p ∈ X.pn, p.1 ∉ Cs
theorem wake {X : Cx} {Cs : List Addr} {ip : List (Addr × Obj)} {σ : L2.St} {H : Hp} {s₀ s s' : Shared} (L : Aloof X Cs) (hip : ∀ p ∈ ip, p.1 ∉ Cs) (I : Inv X (ip ++ pinsAt Cs s₀.heap) σ H s) (hs : ∀ b ∈ Cs, ∃ o, s₀.heap.get? b = some o) (R : Rested Cs s s') : Inv X (ip ++ pinsAt Cs s'.heap) σ H s' := by
  have pinned : ∀ b ∈ Cs, H b = none ∧ b ∉ X.fs := fun b hb => by
    obtain ⟨o, e⟩ := hs b hb
    have z := I.pin (b, o) (List.mem_append_right _ (List.mem_append_right _ (mem_pinsAt hb e)))
    exact ⟨z.2.1, z.2.2.2.1⟩
  have I0 : Inv X ip σ H s := I.unpinned
  have apart : ∀ b ∈ Cs, ∀ p ∈ X.pn ++ ip, p.1 ≠ b := fun b hb p hp z => by
    rcases List.mem_append.mp hp with q | q
    · exact L.pn p q (z ▸ hb)
    · exact hip p q (z ▸ hb)
  have off : ∀ {b : Addr} {u : HO}, H b = some u → b ∉ Cs := fun e hb => by
    rw [(pinned _ hb).1] at e
    cases e
  obtain ⟨w1, w2, w3, w4⟩ := R
  obtain ⟨hh, g, d, t, o⟩ := s'
  have eo : o = s.os := w1
  subst eo
  have J : Inv X ip σ H { s with heap := hh, gens := g, drawn := d, toks := t } := I0.step (ch := Cs)
    (fun b hb => ⟨.inr (L.young b hb), L.loc b hb, L.cel b hb, apart b hb⟩)
    (fun b ob _ _ hc e _ => w3 b ob hc e) (fun b ob _ _ hc e _ => ⟨ob.slots, w3 b ob hc e⟩) (fun _ _ _ _ n => n) (fun b ob hc e => ⟨ob, w3 b ob hc e⟩)
    (fun _ _ e => e) (fun _ _ _ e => e) (fun b ps e => ⟨#[], by rw [e]; simp⟩)
    (fun m ⟨ob, es, ep, e, r⟩ => ⟨ob, es, ep, w3 _ ob (fun hb => L.loc _ hb rfl) e, r⟩)
    (fun b u e => (I0.hok b u e).stay (fun c v hc q => w3 c v (by
      rcases hc with z | z
      · rw [z]; exact off e
      · exact off z) q) (fun _ z => z) fun _ _ z => z) w2
  exact J.pinned (fun b hb => ⟨(pinned b hb).1, L.loc b hb, (pinned b hb).2, .inr (L.young b hb), L.cel b hb, apart b hb⟩) w4
/-! ### a for statement in a generator's code -/
section
variable {prog : Program} {w : World} {A : Around} {R : GenEnd} {Y : Protocol} {n : Nat} {s₀ : Shared} {fs : List Frame} {s : Shared} {env : Env}
theorem nofail {α : Type} {t : Sem α} {Q : α → Shared → Prop} {M : Model} {B : Around} {E : Value → Shared → Prop} {s : Shared} (h : wpAny M B t Q (fun _ _ => False) s) : wpAny M B t Q E s := wpAny_mono h (fun _ _ z => z) fun _ _ z => z.elim
theorem seg_turn {tg : Expr} {it : Value} {body : List Stmt} {Kx : Flow → Sem PySem.Fin} (hK : ∀ f, Kx f = (match f with
      | .next | .cont => .pure (.again (.forLoop tg it body [] env))
      | .brk => .pure (.done .next)
      | .ret v => .pure (.done (.ret v))))
    (h : wpAny (model prog w) (A.over (.forLoop tg it body [] env) fs) (pyNext it) (fun r s1 => match r with
      | none => Seg (model prog w) A R Y n s₀ (.block [] env) ((model prog w).den (.block [] env)) fs s1
      | some v => wpAny (model prog w) (A.over (.forLoop tg it body [] env) fs) (letOwnedTupleGo tg it v) (fun _ s2 => wpAny (model prog w) (A.over (.forLoop tg it body [] env) fs) (assign tg env v) (fun _ s3 =>
          ∀ (Hx : Value → Sem PySem.Fin), Seg (model prog w) A R Y n s₀ (.forLoop tg it body [] env) ((execs body env).wrap Kx Hx id id) fs s3) (fun _ _ => False) s2) (fun _ _ => False) s1) (fun _ _ => False) s) :
    Seg (model prog w) A R Y n s₀ (.forLoop tg it body [] env) ((model prog w).den (.forLoop tg it body [] env)) fs s := by
  show Seg _ A R Y n s₀ _ ((forTurn tg it body [] env).onRaise (fun x => do noteFrame x env; theTreesLotGoes x)) fs s
  unfold forTurn
  rw [Sem.onRaise_eq_wrap, Sem.bind_eq_wrap', Sem.wrap_wrap]
  refine seg_wrap (wpAny_standAt ?_)
  rw [Sem.bind_eq_wrap', Sem.wrap_wrap]
  refine seg_wrap (nofail (wpAny_onRaise (wpAny_mono h (fun r s1 h1 => ?_) fun _ _ z => z.elim)))
  cases r with
  | none => exact seg_again rfl h1
  | some v =>
    show Seg _ A R Y n s₀ _ (Sem.wrap _ _ _ _ (letOwnedTupleGo tg it v >>= _)) fs s1
    rw [Sem.bind_eq_wrap', Sem.wrap_wrap]
    refine seg_wrap (nofail (wpAny_mono h1 (fun _ s2 h2 => ?_) fun _ _ z => z))
    rw [Sem.bind_eq_wrap', Sem.wrap_wrap]
    refine seg_wrap (nofail (wpAny_mono h2 (fun _ s3 h3 => ?_) fun _ _ z => z))
    rw [Sem.bind_eq_wrap', Sem.wrap_wrap]
    rw [Sem.wrap_congr (execs body env) _ _ (K' := Kx) (fun f => (by rw [hK f]; cases f <;> rfl)) (fun _ => rfl)]
    exact h3 _
theorem seg_forStmt {M : Model} {c : Code} {K : Flow → Sem PySem.Fin} {Jx : Value → Sem PySem.Fin} {gd : Bool → Bool} {lv : List Value → List Value} {tg iter : Expr} {body : List Stmt} {pos : Pos} (hf : ∀ x, foldedSetIterable iter env x = pure x)
    (h : wpAny M (A.over c fs) (eval iter env) (fun x s1 => wpAny M (A.over c fs) (pyIter x) (fun itv s2 => ∀ p Fx, Seg M A R Y n s₀ (.forLoop tg itv body [] env) (M.den (.forLoop tg itv body [] env))
        (.ret (fun r => ((match r with | .ok f => (.pure f : Sem Flow) | .error e => .raise e).onRaise Fx).wrap K Jx gd lv) none (gd false) (lv []) c p [] :: fs) s2) (fun _ _ => False) s1) (fun _ _ => False) s) :
    Seg M A R Y n s₀ c ((exec (.For tg iter body [] pos) env).wrap K Jx gd lv) fs s := by
  rw [exec_For]
  rw [Sem.bind_eq_wrap', Sem.wrap_wrap]
  refine seg_wrap (wpAny_standAt ?_)
  rw [Sem.bind_eq_wrap', Sem.wrap_wrap]
  refine seg_wrap (nofail (wpAny_mono h (fun x s1 h1 => ?_) fun _ _ z => z))
  rw [hf x]
  rw [Sem.bind_eq_wrap', Sem.wrap_wrap]
  refine seg_wrap (wpAny_pure ?_)
  rw [Sem.bind_eq_wrap', Sem.wrap_wrap]
  refine seg_wrap (wpAny_standAt ?_)
  rw [Sem.bind_eq_wrap', Sem.wrap_wrap]
  refine seg_wrap (nofail (wpAny_holding (wpAny_mono h1 (fun itv s2 h2 => ?_) fun _ _ z => z)))
  exact seg_call fun p => h2 p _
end
end G

set_option Elab.async false
set_option linter.all false
set_option maxRecDepth 100000
set_option maxHeartbeats 4000000
/-! The run of such a generator. -/
namespace G
open PySem PySem.Spec PyProof.Rows L2 GenW
def YG (X : Cx) (Cs : List Addr) (top n : Nat) (R : Nat → V → Hp → Prop) : Protocol := fun m s₀ v s kap => ∃ (i : Nat) (y : V) (σ : L2.St) (H : Hp) (ip : List (Addr × Obj)), m + 1 + i = top ∧ i < n ∧ RelV y v ∧ (∀ p ∈ ip, p.1 ∉ Cs) ∧
  (∀ b ∈ Cs, ∃ o, s₀.heap.get? b = some o) ∧ Inv X (ip ++ pinsAt Cs s₀.heap) σ H s ∧ R i y H ∧ ∀ s', Rested Cs s s' → kap (.send .none) s'
def GD (X : Cx) (Cs : List Addr) (top n : Nat) (Ed : Hp → Prop) : GenEnd := fun m s₀ r s => r = .ok (.ret .none) ∧ ∃ (σ : L2.St) (H : Hp) (ip : List (Addr × Obj)), m + n = top ∧ (∀ b ∈ Cs, ∃ o, s₀.heap.get? b = some o) ∧ Inv X (ip ++ pinsAt Cs s₀.heap) σ H s ∧ Ed H
section
variable {X : Cx} {Cs : List Addr} {A : Around} {top n : Nat} {R : Nat → V → Hp → Prop} {Ed : Hp → Prop}
theorem gen_loop {tg e : Expr} {yp ypos : Pos} {g : TG} {te : TE} {J : It} {it : Addr} {fp : List Addr} {tn : Nat → Heap → Prop} {ip : List (Addr × Obj)} {p0 : Pos} {Fx : Value → Sem Unit} {Ws : Nat → L2.St → Hp → Prop} {K0 : Flow → Sem PySem.Fin} {Jx : Value → Sem PySem.Fin} {bd : List Stmt}
    (hK0 : K0 .next = .pure (.done (.ret .none)))
    (hxe : ∀ e s, ¬ X.xe e s) (hc : X.calm = true) (T : Turn X.prog X.w X.K tg J fp it tn) (hg : PG X tg g) (he : PE X e te) (L : Aloof X Cs) (hip : ∀ p ∈ ip, p.1 ∉ Cs)
    (hA : A.deeper X.env = X.A) (hco : X.env.scope.isCoroutine = false) (hin : interactive X.env = false)
    (hfp : ∀ b ∈ fp, b ≠ X.env.locals ∧ b ∉ X.fs ∧ (b ∈ X.ex ∨ X.s_0.heap.objs.size ≤ b) ∧ (∀ x c, X.env.cells.lookup x = some c → c ≠ b) ∧ (∀ p ∈ X.pn ++ ip, p.1 ≠ b) ∧ b ∉ Cs) (hnt : n ≤ top)
    (step : ∀ i σ H, Ws i σ H → (i = n ∧ J.stop i H ∧ Ed H) ∨ (i < n ∧ J.go i H ∧ ∀ x H', J.yld i H x H' → g x σ H' fun σ2 H2 => te σ2 H2 fun y H3 => R i y H3 ∧ Ws (i + 1) σ2 H3)) :
    ∀ (k i m : Nat) (s₀ s : Shared) (σ : L2.St) (H : Hp), k + i = n → m + i = top → Ws i σ H → Inv X (ip ++ pinsAt Cs s₀.heap) σ H s → tn i s.heap → (∀ b ∈ fp, H b = none) → (∀ b ∈ Cs, ∃ o, s₀.heap.get? b = some o) →
      Seg (model X.prog X.w) A (GD X Cs top n Ed) (YG X Cs top n R) m s₀ (.forLoop tg (.ref it) [.Expr (.Yield (some e) yp) ypos] [] X.env) ((model X.prog X.w).den (.forLoop tg (.ref it) [.Expr (.Yield (some e) yp) ypos] [] X.env))
        [.ret (fun r => ((match r with | .ok f => (.pure f : Sem Flow) | .error e => .raise e).onRaise Fx).wrap K0 Jx id id) none (id false) (id []) (.func bd X.env) p0 []] s := by
  intro k
  have ov : ∀ {kk : Result → Sem PySem.Fin} {c' : Code}, c'.weight = 0 → c'.cUnits = 0 → A.over c' [.ret kk none (id false) (id []) (.func bd X.env) p0 []] = X.A := fun hw hu => (over_loop hw hu).trans (over_func.trans hA)
  have stat : ∀ {s₀ : Shared} {H : Hp}, (∀ b ∈ fp, H b = none) → ∀ b ∈ fp, FpOk X (ip ++ pinsAt Cs s₀.heap) H b := fun {s₀ H} hn b hb => by
    obtain ⟨f1, f2, f3, f4, f5, f6⟩ := hfp b hb
    refine ⟨hn b hb, f1, f2, f3, f4, fun p hp => ?_⟩
    rcases List.mem_append.mp hp with q | q
    · exact f5 p (List.mem_append_left _ q)
    · rcases List.mem_append.mp q with q | q
      · exact f5 p (List.mem_append_right _ q)
      · exact fun z => f6 (z ▸ (of_pinsAt q).1)
  induction k with
  | zero =>
    intro i m s₀ s σ H hi hm hW I st fr hex
    rcases step i σ H hW with ⟨ei, stop, ed⟩ | ⟨lt, _⟩
    · refine seg_turn (Kx := _) (fun f => rfl) ?_
      rw [ov rfl rfl]
      refine nofail (wpAny_mono (T.done X rfl rfl rfl hc i _ s σ H (fun _ _ => False) I (stat fr) st stop) (fun r s1 ⟨hr, I1⟩ => ?_) fun _ _ z => z)
      subst hr
      refine seg_leaf (.ok .next) ?_
      show Seg _ _ _ _ _ _ _ (K0 .next) _ _
      rw [hK0]
      exact seg_end (.ok (.ret .none)) ⟨rfl, σ, H, ip, by omega, hex, I1, ed⟩
    · omega
  | succ k ih =>
    intro i m s₀ s σ H hi hm hW I st fr hex
    rcases step i σ H hW with ⟨ei, _⟩ | ⟨lt, go, nxt⟩
    · omega
    obtain ⟨m, rfl⟩ : ∃ m', m = m' + 1 := ⟨m - 1, by omega⟩
    refine seg_turn (Kx := _) (fun f => rfl) ?_
    rw [ov rfl rfl]
    refine nofail (wpAny_mono (T.item X rfl rfl rfl hc i _ s σ H (fun _ _ => False) I (stat fr) st go) (fun r s1 ⟨u, hr, h1⟩ => ?_) fun _ _ z => z)
    subst hr
    refine nofail (wpAny_mono h1 (fun _ s2 ⟨x, H2, I2, r2, y2, st2, fr2⟩ => ?_) fun _ _ z => z)
    have I2' := I2.pinned (stat fr2) (T.obj _ _ st2)
    refine wpAny_mono (hg.run _ s2 σ H2 x u _ I2' r2 (nxt x H2 y2)) (fun _ s3 ⟨σ3, H3, I3, q3⟩ => ?_) fun e s z => hxe e s z
    intro Hx
    refine seg_execs_cons ?_
    refine seg_Expr_Yield rfl rfl rfl ?_ hco hin
    rw [ov rfl rfl]
    refine wpAny_mono (he.run _ s3 σ3 H3 _ I3 q3) (fun v s4 ⟨y, H4, I4, r4, q4, w4⟩ => ?_) fun e s z => (hxe e s z).elim
    intro kap hk
    have I4' : Inv X ((ip ++ pinsAt fp s2.heap) ++ pinsAt Cs s₀.heap) σ3 H4 s4 := I4.pins_of fun p hp => I4.pin p (List.mem_append_right _ (by
      rcases List.mem_append.mp hp with q | q
      · rcases List.mem_append.mp q with q | q
        · exact List.mem_append_left _ (List.mem_append_left _ q)
        · exact List.mem_append_right _ q
      · exact List.mem_append_left _ (List.mem_append_right _ q)))
    have hip' : ∀ p ∈ ip ++ pinsAt fp s2.heap, p.1 ∉ Cs := fun p hp => by
      rcases List.mem_append.mp hp with q | q
      · exact hip p q
      · exact (hfp _ (of_pinsAt q).1).2.2.2.2.2
    refine ⟨i, y, σ3, H4, _, hm, lt, r4, hip', hex, I4', q4, fun s5 rs => hk .none s5 ?_⟩
    have I5 := wake L hip' I4' hex rs
    have pin5 : ∀ b ∈ fp, ∀ o, s2.heap.get? b = some o → s5.heap.get? b = some o ∧ H4 b = none := fun b hb o eo =>
      let z := I5.pin (b, o) (List.mem_append_right _ (List.mem_append_left _ (List.mem_append_right _ (mem_pinsAt hb eo))))
      ⟨z.1, z.2.1⟩
    refine seg_again rfl (ih (i + 1) m s5 s5 σ3 H4 (by omega) (by omega) w4 (I5.pins_of fun p hp => I5.pin p (List.mem_append_right _ ?_)) (T.keep _ _ _ st2 fun b hb o eo => (pin5 b hb o eo).1) (fun b hb => ?_) fun b hb => ?_)
    · rcases List.mem_append.mp hp with q | q
      · exact List.mem_append_left _ (List.mem_append_left _ q)
      · exact List.mem_append_right _ q
    · obtain ⟨o, eo, _⟩ := T.obj _ _ st2 b hb
      exact (pin5 b hb o eo).2
    · obtain ⟨o, eo, _⟩ := rs.own b hb
      exact ⟨o, eo⟩
end
end G

set_option Elab.async false
set_option linter.all false
set_option maxRecDepth 100000
set_option maxHeartbeats 4000000
/-! Such a generator def's promise. -/
namespace G
open PySem PySem.Spec PyProof.Rows L2 GenW
/-- the context of its body; no exception leaves; pn: the generator's own object -/
def gx (P : Program) (w : World) (K : PySem.W.Frag) (mg : Str → Option Value) (base : Heap) (N : List Str) (qual : Str) (scope : Scope) (f : Addr) (cd : Value) (A : Around) (outer : List Env) (s : Shared) (H : Hp) (pn : List (Addr × Obj)) : Cx :=
  { gcxOf P w K mg base N qual scope f cd A outer s H E0 pn with xe := fun _ _ => False }
theorem gx_inv {P : Program} {w : World} {K : PySem.W.Frag} {mg : Str → Option Value} {base : Heap} {N : List Str} {qual : Str} {scope : Scope} {f : Addr} {cd : Value} {A : Around} {outer : List Env} {s s1 : Shared} {H H' : Hp} {E : XK} {pn pins : List (Addr × Obj)} {σ : L2.St}
    (I : Inv (gcxOf P w K mg base N qual scope f cd A outer s H E []) [] σ H' s1) (h : ∀ p ∈ pn ++ pins, s1.heap.get? p.1 = some p.2 ∧ H' p.1 = none ∧ p.1 ≠ s.heap.objs.size ∧ p.1 ∉ frs outer ∧ ∀ v, p.2.data ≠ .cell v) : Inv (gx P w K mg base N qual scope f cd A outer s H pn) pins σ H' s1 where
  ok := { mod := I.ok.mod, kind := I.ok.kind, glob := I.ok.glob, blt := I.ok.blt, above := I.ok.above, inj := I.ok.inj, has := I.ok.has, cab := I.ok.cab, hd := I.ok.hd, frames := I.ok.frames, stk := I.ok.stk, exf := I.ok.exf, bs := I.ok.bs, bsz := I.ok.bsz, noex := I.ok.noex, exfs := I.ok.exfs, funs := I.ok.funs, frf := I.ok.frf }
  os := I.os
  bare := I.bare
  base := I.base
  loc := I.loc
  cell := I.cell
  free := I.free
  freeC := I.freeC
  pin := h
  hok := I.hok
  len := I.len
/-- an item comes -/
def YItm (P : Program) (w : World) (outer : List Env) (H : Hp) (s : Shared) (Cs : List Addr) (a : Addr) (g n : Nat) (R : Nat → V → Hp → Prop) : Protocol := fun m s₀ v s1 kap => ∃ (i : Nat) (y : V) (H' : Hp), m + 1 + i = n ∧ i < n ∧ RelV y v ∧ R i y H' ∧ s1.os = s.os ∧ AllBare s1.gens ∧ s1.heap.NoLimit ∧ s1.heap.IsGen a g ∧
  Un (frs outer) [] H H' s.heap s1.heap ∧ HOk P w H' s1.heap ∧ (∀ b ∈ Cs, H' b = none ∧ s1.heap.get? b = s₀.heap.get? b) ∧ ∀ s', Rested Cs s1 s' → kap (.send .none) s'
/-- the end comes -/
def YEnd (P : Program) (w : World) (outer : List Env) (H : Hp) (s : Shared) (Cs : List Addr) (n : Nat) (Ed : Hp → Prop) (m : Nat) (s₀ s1 : Shared) : Prop := m + n = n ∧ ∃ H' : Hp, s1.os = s.os ∧ AllBare s1.gens ∧ Un (frs outer) [] H H' s.heap s1.heap ∧ HOk P w H' s1.heap ∧ (∀ b ∈ Cs, H' b = none ∧ s1.heap.get? b = s₀.heap.get? b) ∧ Ed H'
def REn (P : Program) (w : World) (outer : List Env) (H : Hp) (s : Shared) (Cs : List Addr) (n : Nat) (Ed : Hp → Prop) : GenEnd := fun m s₀ r s1 => ((r = .ok (.ret .none) ∨ r = .ok .next) ∧ YEnd P w outer H s Cs n Ed m s₀ s1) ∨ ∃ e, r = .error e ∧ False
/-- a call of it gives a generator that has not begun -/
def Mkd (P : Program) (w : World) (k : Nat) (outer : List Env) (H : Hp) (s : Shared) (n : Nat) (R : Nat → V → Hp → Prop) (Ed : Hp → Prop) (u : Value) (s' : Shared) : Prop :=
  ∃ (a : Addr) (g : Nat) (c : Code), u = .ref a ∧ s.heap.objs.size ≤ a ∧ a < s'.heap.objs.size ∧ s'.heap.IsGen a g ∧ s'.gens[g]? = some (.fresh c) ∧ s'.os = s.os ∧ AllBare s'.gens ∧ s'.heap.NoLimit ∧ (∀ b o, s.heap.get? b = some o → s'.heap.get? b = some o) ∧
    ∀ (A : Around) (Cs : List Addr) (s2 : Shared), Room k A → A.frames = some outer → (∀ b ∈ Cs, s'.heap.objs.size ≤ b) → (∀ b o, s'.heap.get? b = some o → s2.heap.get? b = some o) → (∀ b ∈ Cs, ∃ o, s2.heap.get? b = some o ∧ ∀ v, o.data ≠ .cell v) → s2.os = s.os → AllBare s2.gens →
      Seg (model P w) A (REn P w outer H s Cs n Ed) (YItm P w outer H s Cs a g n R) n s2 c ((model P w).den c) [] s2
abbrev SpY := List V → Hp → Nat → (Nat → V → Hp → Prop) → (Hp → Prop) → Prop
structure GnOk (P : Program) (w : World) (K : PySem.W.Frag) (mg : Str → Option Value) (base : Heap) (k : Nat) (f : Addr) (fd : FuncData) (ps : List Str) (sp : SpY) : Prop where
  len : ∀ vs H n R Ed, sp vs H n R Ed → vs.length = ps.length
  run : ∀ (A : Around) (outer : List Env) (s : Shared) (H : Hp) (args : Args) (us : List Value) (vs : List V) (n : Nat) (R : Nat → V → Hp → Prop) (Ed : Hp → Prop), Room k A → Env0 P w K mg base A outer s H → BindsTo s fd args (ps.zip us) → Vals vs us → sp vs H n R Ed →
    codeAny (model P w) A (.call (.ref f) args) (fun r s' => match r with | .ok (.ret u) => Mkd P w k outer H s n R Ed u s' | _ => False) s
/-- what the body is: one loop, one yield a turn -/
def OneLoop (X : Cx) (bd : List Stmt) (σ0 : L2.St) (H : Hp) (n : Nat) (R : Nat → V → Hp → Prop) (Ed : Hp → Prop) : Prop := ∃ (tg iter e : Expr) (yp ypos pos : Pos) (wi : TI) (g : TG) (te : TE), bd = [.For tg iter [.Expr (.Yield (some e) yp) ypos] [] pos] ∧
  PI X tg iter wi ∧ PG X tg g ∧ PE X e te ∧ (∀ x, foldedSetIterable iter X.env x = pure x) ∧ wi σ0 H fun J H1 => ∃ Ws : Nat → L2.St → Hp → Prop, Ws 0 σ0 H1 ∧
    ∀ i σ H, Ws i σ H → (i = n ∧ J.stop i H ∧ Ed H) ∨ (i < n ∧ J.go i H ∧ ∀ x H', J.yld i H x H' → g x σ H' fun σ2 H2 => te σ2 H2 fun y H3 => R i y H3 ∧ Ws (i + 1) σ2 H3)
theorem gen_def {P : Program} {w : World} {K : PySem.W.Frag} {mg : Str → Option Value} {base : Heap} {x qual : Str} {st : Stmt} {f : Addr} {fd : FuncData} {N ps : List Str} {k : Nat} {sp : SpY} (F : Fun K x qual st f fd) (S : GScope N ps (defScope st))
    (len : ∀ vs H n R Ed, sp vs H n R Ed → vs.length = ps.length)
    (body : ∀ (cdv : Value) (A : Around) (outer : List Env) (s : Shared) (H : Hp) (vs : List V) (n : Nat) (R : Nat → V → Hp → Prop) (Ed : Hp → Prop) (pn : List (Addr × Obj)), Room k (A.deeper (envOfC qual (defScope st) s.heap.objs.size f cdv)) → sp vs H n R Ed →
      OneLoop (gx P w K mg base N qual (defScope st) f cdv A outer s H pn) (defBody st) (start N vs) H n R Ed) : GnOk P w K mg base (k + 1) f fd ps sp := by
  obtain ⟨oc, od, kV, doc, pm, an, cdv, ct, osl, rfl, lk, hcd⟩ := F.ex
  refine ⟨len, fun A outer s H args us vs n R Ed hr e0 hb r hsp => ?_⟩
  have nvs := len _ _ _ _ _ hsp
  have old : ∀ b o, base.get? b = some o → s.heap.get? b = some o := fun b o e => (e0.bs b o e).1
  have kin : K.In s.heap := e0.mod.kin.keeps old
  have nol : s.heap.NoLimit := e0.mod.nolimit.keeps old
  have kinds : ∀ y ∈ ps.zip us, (defScope st).names.lookup y.1 = some .local ∨ ((defScope st).names.lookup y.1 = some .cell ∧
      ((cellsFrom (s.heap.objs.size + 1) (defScope st).names []).lookup y.1).isSome = true) := by
    rintro ⟨z, v⟩ hy
    have hm := (List.of_mem_zip hy).1
    cases S.par z hm with
    | inl q => exact Or.inl q
    | inr q => exact Or.inr ⟨q, PySem.W.cellsFrom_some _ _ _ (Or.inl q)⟩
  refine codeAny_call_generator hr.depth (kin _ _ lk) rfl S.co S.gen rfl (PySem.W.codeRec_of kin hcd) (hb _ _ _ _ ?_)
  refine wpAny_newFunctionEnv_cells S.kind kinds fun env he s1 x1 => ?_
  subst he
  refine ⟨nol.keeps x1.toInCall.keep, ?_⟩
  have grow : ∀ b o, s.heap.get? b = some o → s1.heap.get? b = some o := x1.toInCall.keep
  have above : s.heap.objs.size < s1.heap.objs.size := x1.toInCall.ns.lt
  obtain ⟨os1, gens1⟩ : s1.os = s.os ∧ s1.gens = s.gens := by
    obtain ⟨_, _, z, _⟩ := x1.done
    rw [z]
    exact ⟨rfl, rfl⟩
  have made : ∀ (og : Obj) (v1 v2 : Value) (tt : Nat), og.cls = .type "generator" → og.data = .fields #[.int s1.gens.size 0, v1, v2] → og.slots = #[] → (∀ hp : Heap, (hp.push og).get? hp.objs.size = some og) →
      Mkd P w (k + 1) outer H s n R Ed (.ref s1.heap.objs.size) { s1 with gens := s1.gens.push (.fresh (.func (defBody st) (envOfC qual (defScope st) s.heap.objs.size f cdv))), toks := tt, heap := s1.heap.push og } := by
    intro og v1 v2 tt c1 c2 c3 c4
    have is : ∀ {hp : Heap}, hp.get? s1.heap.objs.size = some og → hp.IsGen s1.heap.objs.size s1.gens.size := fun {hp} e => ⟨og, v1, v2, e, c1, c2, c3⟩
    refine ⟨_, _, _, rfl, Nat.le_of_lt above, ?_, is (c4 _), Array.getElem?_push_size .., os1, AllBare.push (by rw [gens1]; exact e0.bare) rfl, (nol.keeps grow).keeps fun b o e => Heap.get?_push_of_some _ e, fun b o e => Heap.get?_push_of_some _ (grow b o e), ?_⟩
    · show _ < (s1.heap.push og).objs.size
      rw [Heap.size_push]
      exact Nat.lt_succ_self _
    intro B Cs s2 roomB framesB youngC keep2 objC os2 bare2
    have e0B : Env0 P w K mg base B outer s H := { frames := framesB, mod := e0.mod, bs := e0.bs, bsz := e0.bsz, funs := e0.funs, frf := e0.frf, hok := e0.hok, bare := e0.bare }
    have Ia := inv_startG (E := E0) S roomB.hd e0B nvs r x1
    have at2 : s2.heap.get? s1.heap.objs.size = some og := keep2 _ _ (c4 _)
    have Ib := Ia.call' (s' := s2) (ch := []) (os2.trans os1.symm) (Un.kept fun b o e => keep2 b o (Heap.get?_push_of_some _ e)) (Ia.hok.kept fun b o e => keep2 b o (Heap.get?_push_of_some _ e)) bare2 (fun b z => nomatch z)
    have fresh1 : ∀ b, s1.heap.objs.size ≤ b → H b = none ∧ b ≠ s.heap.objs.size ∧ b ∉ frs outer ∧ s.heap.objs.size ≤ b ∧ ∀ y c, (cellsFrom (s.heap.objs.size + 1) (defScope st).names []).lookup y = some c → c ≠ b := fun b hb =>
      ⟨Ia.hok.fresh hb, Nat.ne_of_gt (Nat.lt_of_lt_of_le above hb), Ia.nofs hb, Nat.le_trans (Nat.le_of_lt above) hb, fun y c e z => by
        obtain ⟨vv, ob, ho, _⟩ := Ia.cell y c e
        exact absurd (Nat.lt_of_lt_of_le (Heap.lt_size ho) (z ▸ hb)) (Nat.lt_irrefl _)⟩
    have up : ∀ b ∈ Cs, s1.heap.objs.size + 1 ≤ b := fun b hb => by
      have q : (s1.heap.push og).objs.size ≤ b := youngC b hb
      rw [Heap.size_push] at q
      exact q
    have I : Inv (gx P w K mg base N qual (defScope st) f cdv B outer s H [(s1.heap.objs.size, og)]) ([] ++ pinsAt Cs s2.heap) (start N vs) H s2 := gx_inv Ib fun p hp => by
      rcases List.mem_append.mp hp with q | q
      · rw [List.mem_singleton.mp q]
        obtain ⟨y1, y2, y3, _⟩ := fresh1 _ (Nat.le_refl s1.heap.objs.size)
        exact ⟨at2, y1, y2, y3, fun v z => by rw [c2] at z; cases z⟩
      · obtain ⟨hb, e⟩ := of_pinsAt (show p ∈ pinsAt Cs s2.heap from q)
        obtain ⟨y1, y2, y3, _⟩ := fresh1 p.1 (Nat.le_of_succ_le (up _ hb))
        obtain ⟨o, eo, no⟩ := objC _ hb
        rw [e] at eo
        cases eo
        exact ⟨e, y1, y2, y3, no⟩
    have L : Aloof (gx P w K mg base N qual (defScope st) f cdv B outer s H [(s1.heap.objs.size, og)]) Cs := by
      refine ⟨fun b hb => (fresh1 b (Nat.le_of_succ_le (up _ hb))).2.2.2.1, fun b hb => (fresh1 b (Nat.le_of_succ_le (up _ hb))).2.1, fun b hb => (fresh1 b (Nat.le_of_succ_le (up _ hb))).2.2.2.2, fun p hp hb => ?_⟩
      have e : p = (s1.heap.objs.size, og) := List.mem_singleton.mp hp
      have q := up _ hb
      rw [e] at q
      exact absurd q (Nat.not_succ_le_self _)
    obtain ⟨tg, iter, e, yp, ypos, pos, wi, g, te, eb, hi, hg, he, hf, hw⟩ := body cdv B outer s H vs n R Ed [(s1.heap.objs.size, og)] (roomB.deeper _) hsp
    have told : ∀ {s₀ : Shared} {σ' : L2.St} {H' : Hp} {ip : List (Addr × Obj)} {s' : Shared}, (∀ b ∈ Cs, ∃ o, s₀.heap.get? b = some o) → Inv (gx P w K mg base N qual (defScope st) f cdv B outer s H [(s1.heap.objs.size, og)]) (ip ++ pinsAt Cs s₀.heap) σ' H' s' → ∀ b ∈ Cs, H' b = none ∧ s'.heap.get? b = s₀.heap.get? b := fun hex J b hb => by
      obtain ⟨o, eo⟩ := hex b hb
      have z := J.pin (b, o) (List.mem_append_right _ (List.mem_append_right _ (mem_pinsAt hb eo)))
      exact ⟨z.2.1, z.1.trans eo.symm⟩
    refine seg_imp (R := GD (gx P w K mg base N qual (defScope st) f cdv B outer s H [(s1.heap.objs.size, og)]) Cs n n Ed) (Y := YG (gx P w K mg base N qual (defScope st) f cdv B outer s H [(s1.heap.objs.size, og)]) Cs n n R) (fun m s₀ rr sx ⟨er, σ', H', ip, hm, hex, J, ed⟩ => ?_) (fun m s₀ v sx kap kap' up' ⟨i, y, σ', H', ip, hm, lt, rv, hip, hex, J, ri, kp⟩ => ?_) n ?_
    · rw [eb]
      refine seg_func (seg_execs_cons (seg_forStmt hf ?_))
      rw [over_func]
      refine wpAny_mono (hi.run _ s2 (start N vs) H _ I hw) (fun xv s3 h3 => wpAny_mono h3 (fun itv s4 h4 => ?_) fun _ _ q => q) fun _ _ q => q
      obtain ⟨it, fp, tn, J, H4, ei, I4, T, st4, f4, Ws, w0, step⟩ := h4
      subst ei
      intro p0 Fx
      refine gen_loop (ip := []) rfl (fun _ _ q => q) rfl T hg he L (fun p hp => nomatch hp) rfl S.co (by show ((defScope st).kind == .module && _) = false; rw [S.kind]; rfl) (fun b hb => ?_) (Nat.le_refl _) step n 0 n s2 s4 _ H4 (Nat.add_zero _) (Nat.add_zero _) w0 I4 st4 (fun b hb => (f4 b hb).1) (fun b hb => ?_)
      · obtain ⟨f0, f1, f2, f3, f5, f6⟩ := f4 b hb
        refine ⟨f1, f2, f3, f5, fun p hp => f6 p ?_, fun hm => ?_⟩
        · rcases List.mem_append.mp hp with q | q
          · exact List.mem_append_left _ q
          · exact nomatch q
        · obtain ⟨o, eo, _⟩ := objC b hm
          exact f6 (b, o) (List.mem_append_right _ (List.mem_append_right _ (mem_pinsAt hm eo))) rfl
      · obtain ⟨o, eo, _⟩ := objC b hb
        exact ⟨o, eo⟩
    · exact .inl ⟨.inl er, hm, H', J.os, J.bare, J.base, J.hok, told hex J, ed⟩
    · have z := J.pin (s1.heap.objs.size, og) (List.mem_append_left _ (List.mem_singleton.mpr rfl))
      exact ⟨i, y, H', hm, lt, rv, ri, J.os, J.bare, J.nolimit, is z.1, J.base, J.hok, told hex J, fun s' rs => up' _ _ (kp s' rs)⟩
  exact made _ _ _ _ rfl rfl rfl fun hp => Heap.get?_push_size _ rfl
end G

set_option Elab.async false
set_option linter.all false
set_option maxRecDepth 100000
set_option maxHeartbeats 4000000
/-! Quiet expressions: they change nothing that stood before, no generator turns. -/
namespace G
open PySem PySem.Spec PyProof.Rows L2 GenW
structure Qui (Cs : List Addr) (s s' : Shared) : Prop where
  os : s'.os = s.os
  gens : s'.gens = s.gens
  keep : ∀ b o, b ∉ Cs → s.heap.get? b = some o → s'.heap.get? b = some o
  there : ∀ b o, s.heap.get? b = some o → ∃ o', s'.heap.get? b = some o'
theorem Qui.refl {Cs : List Addr} (s : Shared) : Qui Cs s s := ⟨rfl, rfl, fun _ _ _ e => e, fun _ o e => ⟨o, e⟩⟩
theorem Qui.trans {Cs : List Addr} {s s' s'' : Shared} (a : Qui Cs s s') (b : Qui Cs s' s'') : Qui Cs s s'' :=
  ⟨b.os.trans a.os, b.gens.trans a.gens, fun c o h e => b.keep c o h (a.keep c o h e), fun c o e => let ⟨o', e'⟩ := a.there c o e; b.there c o' e'⟩
theorem Qui.mono {Cs Ds : List Addr} {s s' : Shared} (a : Qui Cs s s') (h : ∀ b ∈ Cs, b ∈ Ds) : Qui Ds s s' := ⟨a.os, a.gens, fun c o n e => a.keep c o (fun z => n (h c z)) e, a.there⟩
structure QE (X : Cx) (e : Expr) (t : TE) : Prop where
  run : ∀ (pins : List (Addr × Obj)) (s : Shared) (σ : L2.St) (H : Hp) (Q : VK), Inv X pins σ H s → t σ H Q → wpAny (model X.prog X.w) X.A (eval e X.env) (fun u s' => EP X pins σ Q u s' ∧ Qui [] s s') (fun _ _ => False) s
structure QT (X : Cx) (e : Expr) (t : TT) : Prop where
  run : ∀ (pins : List (Addr × Obj)) (s : Shared) (σ : L2.St) (H : Hp) (Q : Bool → Hp → Prop), Inv X pins σ H s → t σ H Q → wpAny (model X.prog X.w) X.A (isTrue e X.env (eval e X.env)) (fun b s' => TP X pins σ Q b s' ∧ Qui [] s s') (fun _ _ => False) s
structure QG (X : Cx) (tg : Expr) (t : TG) : Prop where
  run : ∀ (pins : List (Addr × Obj)) (s : Shared) (σ : L2.St) (H : Hp) (v : V) (u : Value) (Q : L2.St → Hp → Prop), Inv X pins σ H s → RelV v u → t v σ H Q →
    wpAny (model X.prog X.w) X.A (assign tg X.env u) (fun _ s' => (∃ σ' H', Inv X pins σ' H' s' ∧ Q σ' H') ∧ Qui [X.env.locals] s s') (fun _ _ => False) s
structure QGs (X : Cx) (ts : List Expr) (t : TGs) : Prop where
  run : ∀ (pins : List (Addr × Obj)) (s : Shared) (σ : L2.St) (H : Hp) (vs : List V) (us : List Value) (Q : L2.St → Hp → Prop), Inv X pins σ H s → Vals vs us → t vs σ H Q →
    wpAny (model X.prog X.w) X.A (assignInOrder ((assignEach ts X.env).map (·.2)) us) (fun _ s' => (∃ σ' H', Inv X pins σ' H' s' ∧ Q σ' H') ∧ Qui [X.env.locals] s s') (fun _ _ => False) s
section
variable {X : Cx} {a b e : Expr} {ta tb : TE} {pos : Pos}
theorem qe_var (i : Nat) {x : Str} (hN : X.N[i]? = some x) (hv : Vis X.env.scope x) (hd : (x == ("__debug__" : Str)) = false := by decide) (hcd : (x == ("__classdict__" : Str)) = false := by decide) : QE X (.Name x pos) (tVar i) := by
  refine ⟨fun pins s σ H Q I h => ?_⟩
  obtain ⟨v, ev, q⟩ := h
  obtain ⟨m, ns, look⟩ := I.loc
  obtain ⟨u, rv, hl⟩ := look i x v hN ev hv
  have done : EP X pins σ Q u s ∧ Qui [] s s := ⟨⟨v, H, I, rv, q⟩, Qui.refl s⟩
  refine wpAny_Name ?_ hd
  rcases hl with ⟨kd, em⟩ | ⟨kd | kd, c, ec, ic⟩
  · exact wpAny_loadName_local I.ok.kind kd ns em done
  · exact wpAny_loadName_cell I.ok.kind kd ec ic done
  · exact wpAny_loadName_free I.ok.kind kd ec ic done hcd
theorem qe_int {i : Int} {j : Nat} : QE X (.Constant (.int i) j pos) (tC (.int i)) := ⟨fun _ s _ H _ I h => wpAny_Constant_int ⟨⟨.int i, H, I.tok _, ⟨_, rfl⟩, h⟩, rfl, rfl, fun _ _ _ z => z, fun _ o z => ⟨o, z⟩⟩⟩
theorem qe_str {x : Str} {j : Nat} : QE X (.Constant (.str x) j pos) (tC (.str x)) := ⟨fun _ s _ H _ I h => Calls.Constant_str ⟨⟨.str x, H, I.tok _, ⟨_, rfl⟩, h⟩, rfl, rfl, fun _ _ _ z => z, fun _ o z => ⟨o, z⟩⟩⟩
theorem qe_ix (ha : QE X a ta) (hb : QE X b tb) (hp : PlainIx b) : QE X (.Subscript a b pos) (tOp (rIxT X.K) ta tb) := by
  refine ⟨fun pins s σ H Q I h => Subscript_ (wpAny_mono (ha.run pins s σ H _ I h) (fun v s1 ⟨⟨x, H1, I1, r1, q1⟩, k1⟩ => wpAny_mono (hb.run pins s1 σ H1 _ I1 q1) (fun u s2 ⟨⟨y, H2, I2, r2, q2⟩, k2⟩ => ?_) fun _ _ z => z) fun _ _ z => z)⟩
  obtain ⟨p, xs, i, z, rfl, rfl, hq, hat, q⟩ := q2
  obtain rfl : v = Value.ref p := r1
  obtain ⟨t, rfl⟩ := r2
  obtain ⟨its, rr, pl, hz⟩ := I2.tuple hq
  obtain ⟨j, h1, h2, h3, h4, h5⟩ := atI_get hat
  obtain ⟨vw, ew, rw'⟩ := rr.get h2
  have hl := rr.length
  have hn := line63
  exact subscriptTail_builtinR (x := vw) pl.typeIs slot_tuple_getitem.lookup
    (getItem_tuple (j := j) (Q := fun r s' => r = vw ∧ EP X pins σ Q r s' ∧ Qui [] s s') pl (by omega) (by omega) (by rw [List.size_toArray, ← hl]; exact h1) (by simpa using ew) ⟨rfl, ⟨z, H2, I2, rw', q⟩, k1.trans k2⟩) (hp _ _)
def tEqS (ta tb : TE) : TT := fun σ H Q => ta σ H fun x H1 => tb σ H1 fun y H2 => ∃ i j : Str, x = .str i ∧ y = .str j ∧ Q (decide (V.str i = V.str j)) H2
theorem qt_eq (ha : QE X a ta) (hb : QE X b tb) (hm : behindInMarks .Eq b = false) : QT X (.Compare a [.Eq] [b] pos) (tEqS ta tb) := by
  refine ⟨fun pins s σ H Q I h => wpAny_isTrue_Compare1 (wpAny_mono (ha.run pins s σ H _ I h) (fun v s1 ⟨⟨x, H1, I1, r1, q1⟩, k1⟩ => wpAny_mono (hb.run pins s1 σ H1 _ I1 q1) (fun u s2 ⟨⟨y, H2, I2, r2, q2⟩, k2⟩ => ?_) fun _ _ z => z) fun _ _ z => z) hm⟩
  obtain ⟨i, j, rfl, rfl, q⟩ := q2
  obtain ⟨t, rfl⟩ := r1
  obtain ⟨t', rfl⟩ := r2
  refine eq_str (wpAny_truthy_bool ⟨⟨H2, I2, ?_⟩, k1.trans k2⟩)
  rw [show (i == j) = decide (V.str i = V.str j) from dec_str.symm]
  exact q
theorem qg_name {i : Nat} {x : Str} (hN : X.N.Nodup) (hi : X.N[i]? = some x) (hx : X.env.scope.names.lookup x = some .local) : QG X (.Name x pos) (gName i) := by
  refine ⟨fun pins s σ H v u Q I r h => wpAny_assign_Name ?_⟩
  obtain ⟨m, hn, hl⟩ := id I.loc
  have lσ : i < σ.length := by
    rw [I.len]
    exact (List.getElem?_eq_some_iff.mp hi).1
  have notC : (X.env.scope.kind == .class || (X.env.scope.kind == .module && X.env.locals != X.env.globals)) = false := by
    rw [I.ok.kind]
    rfl
  have young : ∀ {b : Addr} {o : Obj}, X.s_0.heap.get? b = some o → b ≠ X.env.locals := fun e => Nat.ne_of_lt (Nat.lt_of_lt_of_le (Heap.lt_size e) I.ok.above)
  refine wpAny_storeName_local hx hn (fun h' hn' same => ?_) notC
  have st : ∀ {b : Addr} {o : Obj}, b ≠ X.env.locals → s.heap.get? b = some o → h'.get? b = some o := fun ne e => (same.2 _ ne).trans e
  obtain ⟨oL, esL, epL, getL, dL, _⟩ := id hn
  obtain ⟨oM, esM, epM, getM, dM, _⟩ := id hn'
  refine ⟨⟨_, H, ?_, h⟩, rfl, rfl, fun b o nb e => st (fun z => nb (by rw [z]; exact List.mem_singleton.mpr rfl)) e, fun b o e => ?_⟩
  · exact {
      ok := I.ok
      os := I.os
      bare := I.bare
      base := ⟨fun b o e n hb hx => st (young e) (I.base.keep b o e n hb hx), fun b o e n hb hx => (I.base.slot b o e n hb hx).imp fun _ z => st (young e) z, I.base.free, fun b o e hx => (I.base.there b o e hx).imp fun _ z => st (young e) z, I.base.tups, I.base.frzs, I.base.tbls⟩
      loc := ⟨_, hn', fun j y v' e1 e2 e3 => by
        by_cases hj : j = i
        · obtain rfl := hj
          obtain rfl : x = y := Option.some.inj (hi.symm.trans e1)
          rw [List.getElem?_set_self lσ] at e2
          obtain rfl : v = v' := by simpa using e2
          exact ⟨u, r, Or.inl ⟨hx, if_pos rfl⟩⟩
        · rw [List.getElem?_set_ne fun z => hj z.symm] at e2
          obtain ⟨u', r', lk⟩ := hl j y v' e1 e2 e3
          refine ⟨u', r', lk.imp (fun ⟨k1, k2⟩ => ⟨k1, ?_⟩) fun ⟨k1, c, k2, k3⟩ => ⟨k1, c, k2, k3.sameBut same (I.cne y c k2)⟩⟩
          exact (if_neg fun z : y = x => hj (nodup_ix hN e1 (z ▸ hi))).trans k2⟩
      cell := fun y c e => (I.cell y c e).imp fun _ z => z.sameBut same (I.cne y c e)
      free := I.free
      freeC := I.freeC
      pin := fun p hp => let ⟨z1, z2, z3, z4⟩ := I.pin p hp; ⟨st z3 z1, z2, z3, z4⟩
      hok := fun b o e => (I.hok b o e).stay (fun c w' hc q => st (fun z => by
        rcases hc with y | y
        · rw [← y, z, I.free] at e
          cases e
        · rw [z, I.free] at y
          cases y) q) (fun _ z => z) fun _ _ z => z
      len := by simpa using I.len }
  · by_cases z : b = X.env.locals
    · exact ⟨oM, z ▸ getM⟩
    · exact ⟨o, st z e⟩
theorem qgs_nil : QGs X [] gNil := ⟨fun pins s σ H vs us Q I r ⟨ev, h⟩ => by
  subst ev
  cases r
  exact assignInOrder_nil ⟨⟨σ, H, I, h⟩, Qui.refl s⟩⟩
theorem qgs_cons {es : List Expr} {t : TG} {u : TGs} (h1 : QG X e t) (h2 : QGs X es u) (hs : (assignEach (e :: es) X.env).map (·.2) = assign e X.env :: (assignEach es X.env).map (·.2) := by rfl) : QGs X (e :: es) (gCons t u) := by
  refine ⟨fun pins s σ H vs us Q I rr ⟨v, vr, ev, h⟩ => ?_⟩
  subst ev
  match us, rr with
  | _ :: _, .cons r1 r2 =>
    rw [hs]
    exact assignInOrder_cons (wpAny_mono (h1.run pins s σ H v _ _ I r1 h) (fun _ s1 ⟨⟨σ1, H1, I1, q1⟩, k1⟩ => wpAny_mono (h2.run pins s1 σ1 H1 vr _ Q I1 r2 q1) (fun _ s2 ⟨q2, k2⟩ => ⟨q2, k1.trans k2⟩) fun _ _ z => z) fun _ _ z => z)
theorem qg_tup {es : List Expr} {k : Nat} {t : TGs} {n : Nat} (hc : X.calm = true) (h : QGs X es t) (hn : (assignEach es X.env).length = n := by rfl) (hst : (assignEach es X.env).findIdx? (·.1) = none := by rfl) : QG X (.Tuple es k pos) (gTup X.K n t) := by
  refine ⟨fun pins s σ H v u Q I r ⟨p, xs, ev, hq, hl, hw⟩ => ?_⟩
  subst ev
  obtain rfl : u = Value.ref p := r
  obtain ⟨its, rv, ht, hz⟩ := I.tuple hq
  refine assign_Tuple_tuple (I.ok.hd hc) ht (by simp [hn, ← hl, rv.length]) hst fun h' ex => ?_
  have kp : ∀ b o, s.heap.get? b = some o → h'.get? b = some o := fun b o e => ex b o (Nat.ne_of_lt (Heap.lt_size e)) e
  exact wpAny_mono (h.run pins _ σ H xs _ Q (I.kept (t' := s.toks) kp) (by simpa using rv) hw) (fun _ s2 ⟨q2, k2⟩ => ⟨q2, ⟨k2.os, k2.gens, fun b o nb e => k2.keep b o nb (kp b o e), fun b o e => k2.there b o (kp b o e)⟩⟩) fun _ _ z => z
end
end G

set_option Elab.async false
set_option linter.all false
set_option maxRecDepth 100000
set_option maxHeartbeats 8000000
/-! A comprehension over a generator that was just made. -/
namespace G
open PySem PySem.Spec PyProof.Rows L2 GenW
/-- [elt for tg in f(..) if test], f a generator def: R i x: what the item at i is; Y i: what it adds (none: nothing) -/
def tLcG (sp : SpY) (ta : TA) (g : TG) (tt : TT) (te : TE) (own : List Nat) : TE := fun σ H Q => ta σ H fun vs H1 => ∃ (n : Nat) (R : Nat → V → Hp → Prop) (Ed : Hp → Prop) (Y : Nat → Option V → Prop), sp vs H1 n R Ed ∧ n < sizeLine ∧
  (∀ i x H2 H3, Same H2 H3 → R i x H2 → R i x H3) ∧
  (∀ i x H', i < n → R i x H' → g x (wipe σ own) H' fun σ2 H2 => H2 = H' ∧ wipe σ2 own = wipe σ own ∧ tt σ2 H' fun b H3 => H3 = H' ∧ if b = true then te σ2 H' fun y H4 => H4 = H' ∧ Y i (some y) else Y i none) ∧
  ∀ (H' : Hp) (D : Addr) (os : List (Option V)), H' D = none → Ed H' → os.length = n → (∀ i o, os[i]? = some o → Y i o) → Q (.ref D) (upd H' D (.lst (os.filterMap id)))
/-- the block's context, as of before the generator was made -/
theorem blk_back {X : Cx} {pins : List (Addr × Obj)} {σ τ : L2.St} {H1 H3 H4 : Hp} {s1 s3 s4 : Shared} {scope : Scope} {ce : Env} (I1 : Inv X pins σ H1 s1) (I4 : Inv (X.blk s3 H3 scope ce []) [] τ H4 s4) (sz : s1.heap.objs.size ≤ s3.heap.objs.size) (os : s4.os = s1.os)
    (un : Un (frs X.stack) [] H1 H4 s1.heap s4.heap) : Inv (X.blk s1 H1 scope ce []) [] τ H4 s4 where
  ok := { mod := I4.ok.mod, kind := I4.ok.kind, glob := I4.ok.glob, blt := I4.ok.blt, above := Nat.le_trans sz I4.ok.above, inj := I4.ok.inj, has := I4.ok.has,
          cab := fun x c h e => Nat.le_trans sz (I4.ok.cab x c h e), hd := I4.ok.hd, frames := I4.ok.frames, stk := I4.ok.stk, exf := fun b hb => absurd hb List.not_mem_nil, bs := I1.bs, bsz := Nat.le_trans I1.ok.bsz I1.sz, noex := fun b o e hb => absurd hb List.not_mem_nil, exfs := fun b hb => absurd hb List.not_mem_nil,
          funs := I1.stack
          frf := I1.stkFree }
  os := os
  bare := I4.bare
  base := un
  loc := I4.loc
  cell := I4.cell
  free := I4.free
  freeC := I4.freeC
  pin := I4.pin
  hok := I4.hok
  len := I4.len
/-- the generator has turned: the block's context goes on -/
theorem blk_next {X : Cx} {pins : List (Addr × Obj)} {σ τ : L2.St} {H1 Ha H' : Hp} {s1 s t : Shared} {scope : Scope} {ce : Env} {D : Addr} {acc : List V} (I1 : Inv X pins σ H1 s1) (I : Inv (X.blk s1 H1 scope ce []) [] τ (upd Ha D (.lst acc)) s) (hD : s1.heap.objs.size ≤ D)
    (hcl : ∀ x c, ce.cells.lookup x = some c → ∃ o, s1.heap.get? c = some o ∧ H1 c = none) (os : t.os = s1.os) (bare : AllBare t.gens) (un : Un (frs X.stack) [] H1 H' s1.heap t.heap) (hok : HOk X.prog X.w H' t.heap)
    (kC : t.heap.get? ce.locals = s.heap.get? ce.locals) (kD : t.heap.get? D = s.heap.get? D) (nC : H' ce.locals = none) (nD : H' D = none) : Inv (X.blk s1 H1 scope ce []) [] τ (upd H' D (.lst acc)) t := by
  have older : ∀ {b : Addr} {o : Obj}, s1.heap.get? b = some o → b ≠ D := fun e => Nat.ne_of_lt (Nat.lt_of_lt_of_le (Heap.lt_size e) hD)
  have DC : ce.locals ≠ D := fun z => by
    have q : upd Ha D (.lst acc) ce.locals = none := I.free
    rw [z, upd_same] at q
    cases q
  have cel : ∀ {x : Str} {c : Addr} {v : Option Value}, ce.cells.lookup x = some c → s.heap.IsCell c v → t.heap.IsCell c v := fun {x c v} e ⟨o, eo, d⟩ => by
    obtain ⟨o1, e1, n1⟩ := hcl x c e
    obtain ⟨sa, ea⟩ := I.base.any e1 n1 List.not_mem_nil
    obtain ⟨sb, eb⟩ := un.any e1 n1 List.not_mem_nil
    have ea : s.heap.get? c = some { o1 with slots := sa } := ea
    rw [ea] at eo
    cases eo
    exact ⟨_, eb, d⟩
  have off : ∀ {b : Addr} {u : HO}, H' b = some u → b ≠ D := fun e z => by rw [z, nD] at e; cases e
  exact {
    ok := I.ok
    os := os
    bare := bare
    base := ⟨un.keep, un.slot, fun b o e n hx => by rw [upd_ne (older e)]; exact un.free b o e n hx, un.there,
      fun b xs e => by rw [upd_ne (off (un.tups b xs e))]; exact un.tups b xs e,
      fun b o u e => by rw [upd_ne (off (un.frzs b o u e))]; exact un.frzs b o u e,
      fun b ps e => by
        obtain ⟨more, q⟩ := un.tbls b ps e
        exact ⟨more, by rw [upd_ne (off q)]; exact q⟩⟩
    loc := by
      obtain ⟨m, ns, look⟩ := I.loc
      obtain ⟨o, es, ep, eo, r⟩ := ns
      refine ⟨m, ⟨o, es, ep, (show t.heap.get? ce.locals = some o from kC.trans eo), r⟩, fun i x v e1 e2 e3 => ?_⟩
      obtain ⟨u, rv, lk⟩ := look i x v e1 e2 e3
      exact ⟨u, rv, lk.imp id fun ⟨k1, c, k2, k3⟩ => ⟨k1, c, k2, cel k2 k3⟩⟩
    cell := fun x c e => (I.cell x c e).imp fun _ z => cel e z
    free := by
      show upd H' D (.lst acc) ce.locals = none
      rw [upd_ne DC]
      exact nC
    freeC := fun x c e => by
      obtain ⟨o, eo, n⟩ := hcl x c e
      rw [upd_ne (older eo)]
      exact un.free c o eo n List.not_mem_nil
    pin := fun p hp => absurd (show p ∈ ([] : List (Addr × Obj)) ++ [] from hp) (by simp)
    hok := fun b u e => by
      by_cases hb : b = D
      · obtain rfl := hb
        rw [upd_same] at e
        cases e
        obtain ⟨z, its, c, r, q⟩ := (show ObjOk X.prog X.w (upd Ha b (.lst acc)) s.heap b (.lst acc) from I.hok b _ upd_same)
        exact ⟨z, its, c, r, kD.trans q⟩
      · rw [upd_ne hb] at e
        exact (hok b u e).stay (fun _ _ _ z => z) (fun d z => by rw [upd_ne (off z)]; exact z) fun d xs z => by rw [upd_ne (off z)]; exact z
    len := I.len }
end G

set_option Elab.async false
set_option linter.all false
set_option maxRecDepth 100000
set_option maxHeartbeats 8000000
/-! The comprehension's rule. -/
namespace G
open PySem PySem.Spec PyProof.Rows L2 GenW
theorem nocell {n : Nat} : ∀ {names : List (Str × NameKind)} {acc : List (Str × Addr)}, (∀ y ∈ names, y.2 ≠ .cell) → cellsFrom n names acc = acc
  | [], _, _ => rfl
  | (y, kd) :: r, acc, h => by
    unfold cellsFrom
    rw [if_neg (fun z => h (y, kd) (List.mem_cons_self ..) (by simpa using z))]
    exact nocell fun q hq => h q (List.mem_cons_of_mem _ hq)
/-- D is appended to -/
theorem add_ok {X : Cx} {pins : List (Addr × Obj)} {σ : L2.St} {H : Hp} {s : Shared} {E : Value → Shared → Prop} {D : Addr} {xs : List V} {y : V} {v : Value} {Q : Value → Shared → Prop} (I : Inv X pins σ H s) (hD : H D = some (.lst xs)) (hz : xs.length < sizeLine) (r : RelV y v)
    (h : ∀ s', Inv X pins σ (upd H D (.lst (xs ++ [y]))) s' → Qui [D] s s' → Q .none s') : wpAny (model X.prog X.w) X.A (call (.builtin "list.append") [.ref D, v]) Q E s := by
  obtain ⟨_, its, c, ri, e⟩ := (show ObjOk X.prog X.w H s.heap D (.lst xs) from I.hok D _ hD)
  have hl := ri.length
  refine append_at (hsz := by rw [List.size_toArray]; omega) e fun h' sb at' => ?_
  have st : ∀ b u, b ≠ D → s.heap.get? b = some u → h'.get? b = some u := fun b u hb q => (sb.2 b hb).trans q
  have J : Inv X pins σ (upd H D (.lst (xs ++ [y]))) { s with heap := h', toks := s.toks } := I.write (t' := s.toks) (by rw [hD]; trivial) (.inl rfl) st ⟨_, at'⟩ ⟨by rw [List.length_append]; exact hz, its ++ [v], c + 1, ri.append (.cons r .nil), by rw [at']; simp⟩
  refine h _ J ⟨rfl, rfl, fun b u hb q => st b u (fun z => hb (by rw [z]; exact List.mem_singleton.mpr rfl)) q, fun b u q => ?_⟩
  by_cases z : b = D
  · exact ⟨_, z ▸ at'⟩
  · exact ⟨u, st b u z q⟩
section
variable {X : Cx} {k : Nat} {f : Addr} {fd : FuncData} {ps : List Str} {sp : SpY} {x : Str} {p cpos pos : Pos} {e : Expr} {es : List Expr} {ta : TA} {elt tg tst : Expr} {scope : Scope} {own : List (Str × Nat)} {g : TG} {tt : TT} {te : TE}
theorem lcG_core {pins : List (Addr × Obj)} {s : Shared} {σ : L2.St} {H : Hp} {Q : VK} {use : Option (Value → Sem Unit)} {Qf : Value → Shared → Prop} {pos' : Pos} (I : Inv X pins σ H s) (h : tLcG sp ta g tt te (own.map (·.2)) σ H Q) (F : GnOk X.prog X.w X.K X.mg X.base k f fd ps sp) (hr : Room (k + 1) X.A) (hgl : Gl X x) (hm : X.mg x = some (.ref f)) (hk : PySem.W.keepIn X.K (.ref f) = true) (hb : Binds X.K fd ps []) (ha : PA X (e :: es) ta)
    (hc : X.calm = true) (hN : X.N.Nodup) (ok : BlkOk X.N X.env.scope scope own) (hcells : ∀ y ∈ scope.names, y.2 ≠ .cell)
    (hg : ∀ (s : Shared) (H : Hp) (C : Addr) (cl : List (Str × Addr)) (fp : List Addr), QG (X.blk s H scope (compEnvC scope cl C X.env) fp) tg g)
    (ht : ∀ (s : Shared) (H : Hp) (C : Addr) (cl : List (Str × Addr)) (fp : List Addr), QT (X.blk s H scope (compEnvC scope cl C X.env) fp) tst tt)
    (he : ∀ (s : Shared) (H : Hp) (C : Addr) (cl : List (Str × Addr)) (fp : List Addr), QE (X.blk s H scope (compEnvC scope cl C X.env) fp) elt te)
    (hdb : (x == ("__debug__" : Str)) = false := by decide) (hse : starEach (e :: es) X.env = (false, eval e X.env) :: starEach es X.env := by rfl) (hpl : (backTo cpos (starEach es X.env)).any (·.1) = false := by rfl)
    (hfs : ∀ z, foldedSetIterable (.Call (.Name x p) (e :: es) [] cpos) X.env z = pure z)
    (hRR : ∀ D C s' m H', Inv X pins σ H' s' → Q (.ref D) H' → s'.heap.Ns C m → FpOk X pins H' C → compPost (model X.prog X.w) X.A X.xe use Qf (.ref D) C (.ok .next) s') :
    wpAny (model X.prog X.w) X.A (comprehension (.ListComp elt [⟨tg, .Call (.Name x p) (e :: es) [] cpos, [tst], 0⟩] scope pos) scope X.env pos' (newList []) false (eval (.Call (.Name x p) (e :: es) [] cpos) X.env) use) Qf X.xe s := by
  have clo : ∀ {y : Str × NameKind}, y ∈ scope.names → y.2 = .free → ∃ c, X.env.cells.lookup y.1 = some c := fun {y} hy ey => (ok.free y hy ey).elim (fun z => I.ok.has _ (.inl z)) fun z => I.ok.has _ (.inr z)
  refine wpAny_comprehension_free (use := use) rfl hfs (closure_ok fun y hy ey => clo hy ey) ok.kind (fun y hy ey => (ok.uniq y hy).trans (congrArg some ey)) ?_
  refine wpAny_Call_Name_kw (ld_glob I hgl hm ?_ hdb)
  refine PySem.W.callWith_K (h₀ := X.base) I.ok.mod.kin hk (thn (ha.run cpos pins s σ H _ I h) fun us s1 ⟨vs, H1, I1, r, q⟩ => ⟨I1.kIn, ?_⟩) hse hpl
  obtain ⟨n, R, Ed, Y, hsp, hn, mono, turn, fin⟩ := q
  have hl : us.length = ps.length := r.length.symm.trans (F.len _ _ _ _ _ hsp)
  have bt := hb s1 us I1.kIn (by rw [List.append_nil]; exact hl)
  rw [List.append_nil] at bt
  refine wpAny_call (codeAny_mono (F.run X.A X.stack s1 H1 ⟨us, []⟩ us vs n R Ed (hr.mono (Nat.le_succ k)) I1.env0 bt r hsp) fun rr s2 hq => ?_)
  match rr, hq with
  | .error _, hq => exact hq.elim
  | .ok .next, hq => exact hq.elim
  | .ok .brk, hq => exact hq.elim
  | .ok .cont, hq => exact hq.elim
  | .ok (.ret u), hq =>
  obtain ⟨a, gn, c, rfl, a1, a2, isg, hgs, os2, bare2, nol2, keep2, wakes⟩ := hq
  refine wpAny_pyIter_gen isg ?_
  refine wpAny_newObj_type (newEnv_comp ?_) (by show 0 ≤ sizeLine; decide)
  generalize eD : s2.heap.objs.size = D
  generalize es3 : ({ s2 with heap := s2.heap.push { cls := .type "list", data := .seq ([] : List Value).toArray } } : Shared) = s3
  have I2 : Inv X pins σ H1 s2 := I1.call' (ch := []) os2 (Un.kept keep2) (I1.hok.kept keep2) bare2 fun b z => absurd z List.not_mem_nil
  have sD : s1.heap.objs.size ≤ D := by rw [← eD]; exact Nat.le_trans a1 (Nat.le_of_lt a2)
  have nD1 : H1 D = none := I2.hok.fresh (Nat.le_of_eq eD)
  have k23 : ∀ b o, s2.heap.get? b = some o → s3.heap.get? b = some o := fun b o z => by rw [← es3]; exact Heap.get?_push_of_some _ z
  have at3 : s3.heap.get? D = some { cls := .type "list", data := .seq ([] : List Value).toArray } := by
    rw [← es3, ← eD]
    exact Heap.get?_push_size _ rfl
  have sz3 : s3.heap.objs.size = D + 1 := by rw [← es3, ← eD]; exact Heap.size_push ..
  have os3 : s3.os = s2.os := by rw [← es3]
  have gens3 : s3.gens = s2.gens := by rw [← es3]
  have I3 : Inv X pins σ (upd H1 D (.lst [])) s3 := by
    rw [← es3] at at3 ⊢
    exact I2.laid (t' := s2.toks) (fun b o z => Heap.get?_push_of_some _ z) (Nat.le_of_eq eD) ⟨Nat.zero_le _, [], 0, .nil, at3⟩
  have I4 := block_start (fp := []) I3 ok hN fun b hb => absurd hb List.not_mem_nil
  have qg := hg s1 H1 s3.heap.objs.size (cellsFrom (s3.heap.objs.size + 1) scope.names (cloFrom X.env.cells scope.names [])) []
  have qt := ht s1 H1 s3.heap.objs.size (cellsFrom (s3.heap.objs.size + 1) scope.names (cloFrom X.env.cells scope.names [])) []
  have qe := he s1 H1 s3.heap.objs.size (cellsFrom (s3.heap.objs.size + 1) scope.names (cloFrom X.env.cells scope.names [])) []
  show codeAny _ _ (.compStart (.ListComp elt [⟨tg, .Call (.Name x p) (e :: es) [] cpos, [tst], 0⟩] scope pos) 0 (.ref a) (.ref D) (compEnvC scope (cellsFrom (s3.heap.objs.size + 1) scope.names (cloFrom X.env.cells scope.names [])) s3.heap.objs.size X.env)) (compPost (model X.prog X.w) X.A X.xe use Qf (.ref D) s3.heap.objs.size) { s3 with heap := pushCells (s3.heap.push { cls := .type "dict", data := .dict #[] }) scope.names }
  generalize hce : compEnvC scope (cellsFrom (s3.heap.objs.size + 1) scope.names (cloFrom X.env.cells scope.names [])) s3.heap.objs.size X.env = ce at I4 qg qt qe ⊢
  have cL : ce.locals = s3.heap.objs.size := by rw [← hce]; rfl
  have cC : ce.cells = cloFrom X.env.cells scope.names [] := by rw [← hce]; exact nocell hcells
  have hcl : ∀ y c, ce.cells.lookup y = some c → ∃ o, s1.heap.get? c = some o ∧ H1 c = none := fun y c ec => by
    rw [cC] at ec
    rcases cloFrom_mem (PySem.mem_of_lookup ec) with z | ⟨z, rfl⟩
    · exact absurd z List.not_mem_nil
    · obtain ⟨c', hc'⟩ := clo z rfl
      rw [hc']
      obtain ⟨v, o, eo, _⟩ := I1.cell _ _ hc'
      exact ⟨o, eo, I1.freeC _ _ hc'⟩
  generalize hs4 : ({ s3 with heap := pushCells (s3.heap.push { cls := .type "dict", data := .dict #[] }) scope.names } : Shared) = s4 at I4 ⊢
  have k34 : ∀ b o, s3.heap.get? b = some o → s4.heap.get? b = some o := fun b o z => by
    rw [← hs4]
    exact pushCells_keeps _ _ _ _ (Heap.get?_push_of_some _ z)
  have os4 : s4.os = s3.os := by rw [← hs4]
  have gens4 : s4.gens = s3.gens := by rw [← hs4]
  have k14 : ∀ b o, s1.heap.get? b = some o → s4.heap.get? b = some o := fun b o z => k34 b o (k23 b o (keep2 b o z))
  have Ib := blk_back I1 I4 (by rw [sz3]; exact Nat.le_succ_of_le sD) (os4.trans (os3.trans os2)) (Un.laid k14 sD nD1)
  have neDC : D ≠ ce.locals := by rw [cL, sz3]; exact Nat.ne_of_lt (Nat.lt_succ_self D)
  have own2 : ∀ {τ : L2.St} {H' : Hp} {acc : List V} {s' : Shared}, Inv (X.blk s1 H1 scope ce []) [] τ (upd H' D (.lst acc)) s' → ∀ b ∈ [D, ce.locals], ∃ o, s'.heap.get? b = some o ∧ ∀ v, o.data ≠ .cell v := fun {τ H' acc s'} J b hb => by
    rcases List.mem_cons.mp hb with rfl | hb
    · obtain ⟨_, its, cc, _, q⟩ := (show ObjOk X.prog X.w (upd H' b (.lst acc)) s'.heap b (.lst acc) from J.hok b _ upd_same)
      exact ⟨_, q, fun v z => by cases z⟩
    · rw [List.mem_singleton.mp hb]
      obtain ⟨m, ⟨o, es, ep, eo, ed, _⟩, _⟩ := J.loc
      exact ⟨o, eo, fun v z => by rw [ed] at z; cases z⟩
  have hgl4 : s4.gens[gn]? = some (.fresh c) := by rw [gens4, gens3]; exact hgs
  have isg4 : s4.heap.IsGen a gn := by
    obtain ⟨o, v1, v2, z, rest⟩ := isg
    exact ⟨o, v1, v2, k34 _ _ (k23 _ _ z), rest⟩
  have first := wakes X.A.in1 [D, ce.locals] (s4.setGen gn .running) hr.in1 I.ok.frames (fun b hb => by
      rcases List.mem_cons.mp hb with rfl | hb
      · exact Nat.le_of_eq eD
      · rw [List.mem_singleton.mp hb, cL, sz3, eD]
        exact Nat.le_succ D) (fun b o z => k34 b o (k23 b o z)) (fun b hb => own2 (s' := s4) Ib b hb) (os4.trans (os3.trans os2)) (allBare_setGen Ib.bare rfl)
  have loop : codeAny (model X.prog X.w) X.A (.compLoop (.ListComp elt [⟨tg, .Call (.Name x p) (e :: es) [] cpos, [tst], 0⟩] scope pos) 0 (.ref a) (.ref D) ce) (compPost (model X.prog X.w) X.A X.xe use Qf (.ref D) s3.heap.objs.size) s4 := by
    refine compLoop_any (fun m s' => ∃ (i : Nat) (os : List (Option V)) (H' : Hp), i + m = n ∧ os.length = i ∧ (∀ j o, os[j]? = some o → Y j o) ∧ Inv (X.blk s1 H1 scope ce []) [] (wipe σ (own.map (·.2))) (upd H' D (.lst (os.filterMap id))) s' ∧ s'.heap.IsGen a gn ∧
      ∃ gs : GenState, s'.gens[gn]? = some gs ∧ gs.Goes (model X.prog X.w) X.A.in1 (REn X.prog X.w X.stack H1 s1 [D, ce.locals] n Ed) (YItm X.prog X.w X.stack H1 s1 [D, ce.locals] a gn n R) m (.send .none) (s'.setGen gn .running)) ?_ n
      ⟨0, [], H1, Nat.zero_add n, rfl, fun j o z => by simp at z, Ib, isg4, _, hgl4, rfl, first⟩
    rintro m s5 ⟨i, os, H5, him, hlen, hY, I5, isg5, gs, hgs5, go⟩
    have hgz : gn < s5.gens.size := (Array.getElem?_eq_some_iff.mp hgs5).1
    refine wpAny_gsz (n := gn + 1) hgz (next_genG (n := m) (gs := gs) (F := YEnd X.prog X.w X.stack H1 s1 [D, ce.locals] n Ed) (Er := fun _ _ => False) (I.ok.hd hc) I5.nolimit hr.depth isg5 hgs5 go (fun v sy gs' hbare hy => ?_) (fun sy hend h' hkept => ?_) fun _ _ z => z.elim)
    · intro hgz2
      obtain ⟨j, y, H6, hj, jn, rv, rj, os6, bare6, nol6, isg6, un6, hok6, kept6, rest6⟩ := hy
      have k5 : ∀ b ∈ [D, ce.locals], sy.heap.get? b = s5.heap.get? b := fun b hb => (kept6 b hb).2
      have own6 : ∀ b ∈ [D, ce.locals], ∃ o, sy.heap.get? b = some o ∧ ∀ v, o.data ≠ .cell v := fun b hb => by
        rw [k5 b hb]
        exact own2 I5 b hb
      cases m with
      | zero => exact (rest6 sy ⟨rfl, bare6, fun _ _ _ z => z, own6⟩).elim
      | succ m =>
      obtain rfl : j = i := by omega
      have n6D : H6 D = none := (kept6 D (List.mem_cons_self ..)).1
      have I6 : Inv (X.blk s1 H1 scope ce []) [] (wipe σ (own.map (·.2))) (upd H6 D (.lst (os.filterMap id))) (sy.setGen gn gs') := blk_next I1 I5 sD hcl os6 (allBare_setGen bare6 hbare) un6 hok6
        (k5 _ (List.mem_cons_of_mem _ (List.mem_singleton.mpr rfl))) (k5 _ (List.mem_cons_self ..)) (kept6 _ (List.mem_cons_of_mem _ (List.mem_singleton.mpr rfl))).1 n6D
      obtain ⟨og, v1, v2, geto, c1, c2, c3⟩ := id isg6
      refine go_of (n := "generator") geto c1 c2 (by decide +kernel) ?_
      have tn := turn j y (upd H6 D (.lst (os.filterMap id))) jn (mono j y H6 _ (Same.up n6D) rj)
      refine wpAny_mono (qg.run [] _ _ _ y v _ I6 rv tn) (fun _ s7 ⟨⟨σ7, H7, I7, e7, w7, q7⟩, r7⟩ => ?_) fun _ _ z => z.elim
      subst e7
      have next : ∀ {s' : Shared} {out : List V} {o : Option V}, Inv (X.blk s1 H1 scope ce []) [] σ7 (upd H6 D (.lst out)) s' → Qui [D, ce.locals] (sy.setGen gn gs') s' → Y j o → out = (os ++ [o]).filterMap id →
          ∃ m', m' < m + 1 ∧ ∃ (i : Nat) (os : List (Option V)) (H' : Hp), i + m' = n ∧ os.length = i ∧ (∀ j o, os[j]? = some o → Y j o) ∧ Inv (X.blk s1 H1 scope ce []) [] (wipe σ (own.map (·.2))) (upd H' D (.lst (os.filterMap id))) s' ∧ s'.heap.IsGen a gn ∧
            ∃ gs : GenState, s'.gens[gn]? = some gs ∧ gs.Goes (model X.prog X.w) X.A.in1 (REn X.prog X.w X.stack H1 s1 [D, ce.locals] n Ed) (YItm X.prog X.w X.stack H1 s1 [D, ce.locals] a gn n R) m' (.send .none) (s'.setGen gn .running) := fun {s' out o} J qk yo eo => by
        subst eo
        have lw : (wipe σ (own.map (·.2))).length = σ7.length := by rw [← w7, wipe_length]
        have gz : gn < sy.gens.size := by
          have q : (sy.setGen gn gs').gens.size = sy.gens.size := setGen_size _ _ _
          omega
        have atg : s'.gens[gn]? = some gs' := by
          rw [qk.gens]
          exact setGen_at gz
        have na : a ∉ [D, ce.locals] := fun hb => by
          obtain ⟨o', _, _, eo', _⟩ := isg
          have la : a < D := by rw [← eD]; exact Heap.lt_size eo'
          rcases List.mem_cons.mp hb with z | z
          · exact absurd la (by rw [z]; exact Nat.lt_irrefl _)
          · rw [List.mem_singleton] at z
            rw [z, cL, sz3] at la
            exact absurd (Nat.lt_of_succ_lt la) (Nat.lt_irrefl _)
        refine ⟨m, Nat.lt_succ_self m, j + 1, os ++ [o], H6, by omega, by rw [List.length_append, hlen]; rfl, fun j' o' z => ?_, J.weak lw (fun j' v' z => ?_), ⟨og, v1, v2, qk.keep a og na geto, c1, c2, c3⟩, gs', atg, rest6 (s'.setGen gn .running) ⟨qk.os, allBare_setGen J.bare rfl, fun b o' hb z => qk.keep b o' hb z, fun b hb => own2 (s' := s') J b hb⟩⟩
        · rcases Nat.lt_trichotomy j' j with lt | rfl | gt
          · rw [List.getElem?_append_left (by omega)] at z
            exact hY j' o' z
          · rw [List.getElem?_append_right (by omega), hlen, Nat.sub_self] at z
            cases z
            exact yo
          · rw [List.getElem?_eq_none (by rw [List.length_append, hlen]; show j + 1 ≤ j'; omega)] at z
            cases z
        · rw [← w7] at z
          exact (wipe_some z).1
      refine wpAny_tests_one (wpAny_mono (qt.run [] s7 σ7 _ _ I7 q7) (fun b s8 ⟨⟨H8, I8, e8, q8⟩, r8⟩ => ?_) fun _ _ z => z.elim)
      subst e8
      have r78 : Qui [D, ce.locals] (sy.setGen gn gs') s8 := (r7.mono fun b hb => List.mem_cons_of_mem _ hb).trans (r8.mono fun b hb => absurd hb List.not_mem_nil)
      cases b with
      | false =>
        rw [if_neg Bool.false_ne_true] at q8 ⊢
        exact next I8 r78 q8 (by simp)
      | true =>
        rw [if_pos rfl] at q8 ⊢
        refine wpAny_mono (qe.run [] s8 σ7 _ _ I8 q8) (fun z s9 ⟨⟨y9, H9, I9, ry, e9, yy⟩, r9⟩ => ?_) fun _ _ z => z.elim
        subst e9
        refine add_ok (X := X.blk s1 H1 scope ce []) I9 upd_same ?_ ry fun s10 I10 r10 => ?_
        · exact Nat.lt_of_le_of_lt (List.length_filterMap_le _ _) (by omega)
        · rw [upd_upd] at I10
          exact next I10 (r78.trans ((r9.mono fun b hb => absurd hb List.not_mem_nil).trans (r10.mono fun b hb => by rw [List.mem_singleton.mp hb]; exact List.mem_cons_self ..))) yy (by simp)
    · intro _
      obtain ⟨hm0, H6, os6, bare6, un6, hok6, kept6, ed⟩ := hend
      have n6D : H6 D = none := (kept6 D (List.mem_cons_self ..)).1
      obtain ⟨_, its, cc, ri, q5⟩ := (show ObjOk X.prog X.w (upd H5 D (.lst (os.filterMap id))) s5.heap D (.lst (os.filterMap id)) from I5.hok D _ upd_same)
      have atD : h'.get? D = some { cls := .type "list", data := .seq its.toArray cc } := hkept _ _ ((kept6 D (List.mem_cons_self ..)).2.trans q5)
      have J := I1.drained (s' := { sy.setGen gn .finished with heap := h' }) (out := os.filterMap id) sD (Nat.le_of_lt (Nat.lt_of_le_of_lt (List.length_filterMap_le _ _) (by omega))) atD (by simpa using ri) ExOk.nil os6 (allBare_setGen bare6 rfl) (un6.trans (Un.kept hkept)) (hok6.kept hkept) n6D
      obtain ⟨mm, ⟨oc, esc, epc, geC, rC⟩, _⟩ := I5.loc
      have geC' : h'.get? s3.heap.objs.size = some oc := hkept _ _ (by
        rw [← cL]
        exact (kept6 _ (List.mem_cons_of_mem _ (List.mem_singleton.mpr rfl))).2.trans geC)
      have nC : (upd H6 D (.lst (os.filterMap id))) s3.heap.objs.size = none := by
        rw [← cL, upd_ne neDC.symm]
        exact (kept6 _ (List.mem_cons_of_mem _ (List.mem_singleton.mpr rfl))).1
      exact hRR D _ _ mm _ J (fin H6 D os n6D ed (by omega) hY) ⟨oc, esc, epc, geC', rC⟩ (I3.fpOk (Nat.le_refl _) nC)
  exact codeAny_compStart_list loop (wpAny_pyIter_gen isg4 loop)
theorem pe_lcG (F : GnOk X.prog X.w X.K X.mg X.base k f fd ps sp) (hr : Room (k + 1) X.A) (hgl : Gl X x) (hm : X.mg x = some (.ref f)) (hk : PySem.W.keepIn X.K (.ref f) = true) (hb : Binds X.K fd ps []) (ha : PA X (e :: es) ta)
    (hc : X.calm = true) (hN : X.N.Nodup) (ok : BlkOk X.N X.env.scope scope own) (hcells : ∀ y ∈ scope.names, y.2 ≠ .cell)
    (hg : ∀ (s : Shared) (H : Hp) (C : Addr) (cl : List (Str × Addr)) (fp : List Addr), QG (X.blk s H scope (compEnvC scope cl C X.env) fp) tg g)
    (ht : ∀ (s : Shared) (H : Hp) (C : Addr) (cl : List (Str × Addr)) (fp : List Addr), QT (X.blk s H scope (compEnvC scope cl C X.env) fp) tst tt)
    (he : ∀ (s : Shared) (H : Hp) (C : Addr) (cl : List (Str × Addr)) (fp : List Addr), QE (X.blk s H scope (compEnvC scope cl C X.env) fp) elt te)
    (hdb : (x == ("__debug__" : Str)) = false := by decide) (hse : starEach (e :: es) X.env = (false, eval e X.env) :: starEach es X.env := by rfl) (hpl : (backTo cpos (starEach es X.env)).any (·.1) = false := by rfl)
    (hfs : ∀ z, foldedSetIterable (.Call (.Name x p) (e :: es) [] cpos) X.env z = pure z := by intro _; rfl) :
    PE X (.ListComp elt [⟨tg, .Call (.Name x p) (e :: es) [] cpos, [tst], 0⟩] scope pos) (tLcG sp ta g tt te (own.map (·.2))) := by
  refine ⟨fun pins s σ H Q I h => ?_⟩
  rw [eval_ListComp]
  exact lcG_core I h F hr hgl hm hk hb ha hc hN ok hcells hg ht he hdb hse hpl hfs fun D C s' m H' J q ns ⟨z0, z1, z2, z3, z4, z5⟩ =>
    ⟨m, ns, fun h2 sb => ⟨.ref D, H', J.turned (t' := s'.toks) (fun b o nb z => (sb.2 b nb).trans z) z0 z1 z3 z4 z5, rfl, q⟩⟩
theorem ps_setLcG {i : Nat} {y : Str} {py spos : Pos} (hy : X.N[i]? = some y) (hyl : X.env.scope.names.lookup y = some .local) (hsw : swapsWith (.ListComp elt [⟨tg, .Call (.Name x p) (e :: es) [] cpos, [tst], 0⟩] scope pos) (some (.Name y py)) spos.line X.env = pure true)
    (F : GnOk X.prog X.w X.K X.mg X.base k f fd ps sp) (hr : Room (k + 1) X.A) (hgl : Gl X x) (hm : X.mg x = some (.ref f)) (hk : PySem.W.keepIn X.K (.ref f) = true) (hb : Binds X.K fd ps []) (ha : PA X (e :: es) ta)
    (hc : X.calm = true) (hN : X.N.Nodup) (ok : BlkOk X.N X.env.scope scope own) (hcells : ∀ y ∈ scope.names, y.2 ≠ .cell)
    (hg : ∀ (s : Shared) (H : Hp) (C : Addr) (cl : List (Str × Addr)) (fp : List Addr), QG (X.blk s H scope (compEnvC scope cl C X.env) fp) tg g)
    (ht : ∀ (s : Shared) (H : Hp) (C : Addr) (cl : List (Str × Addr)) (fp : List Addr), QT (X.blk s H scope (compEnvC scope cl C X.env) fp) tst tt)
    (he : ∀ (s : Shared) (H : Hp) (C : Addr) (cl : List (Str × Addr)) (fp : List Addr), QE (X.blk s H scope (compEnvC scope cl C X.env) fp) elt te)
    (hdb : (x == ("__debug__" : Str)) = false := by decide) (hse : starEach (e :: es) X.env = (false, eval e X.env) :: starEach es X.env := by rfl) (hpl : (backTo cpos (starEach es X.env)).any (·.1) = false := by rfl)
    (hfs : ∀ z, foldedSetIterable (.Call (.Name x p) (e :: es) [] cpos) X.env z = pure z := by intro _; rfl) :
    PS X (.Assign [.Name y py] (.ListComp elt [⟨tg, .Call (.Name x p) (e :: es) [] cpos, [tst], 0⟩] scope pos) spos) (tAsg (tLcG sp ta g tt te (own.map (·.2))) (gName i)) := by
  refine ⟨fun pins s σ H Dn I hw => ?_⟩
  rw [exec_Assign_Name_used _ _ _ _ hsw]
  have ht' : tLcG sp ta g tt te (own.map (·.2)) σ H (fun v H1 => gName i v σ H1 Dn.nx) := hw
  have core := lcG_core (pos := pos) (use := some (assign (.Name y py) X.env)) (Qf := fun _ s' => SP X pins Dn .next s') (pos' := firstIterPos [⟨tg, .Call (.Name x p) (e :: es) [] cpos, [tst], 0⟩] pos) I ht' F hr hgl hm hk hb ha hc hN ok hcells hg ht he hdb hse hpl hfs fun L C s' m H' J q ns ⟨z0, z1, z2, z3, z4, z5⟩ => by
    show wpAny _ _ (assign (.Name y py) X.env (.ref L)) _ _ s'
    refine wpAny_assign_Name (store_ok2 (v := V.ref L) J hN hy (.inl hyl) rfl (fun s2 J2 ⟨b, sb, hb⟩ => ?_) (.inr hyl))
    have ne : C ≠ b := hb.elim (fun z => z ▸ z1) fun z z' => z4 y b z z'.symm
    exact ⟨m, ns.sameBut sb ne, fun h3 sb3 => ⟨_, H', J2.turned (t' := s2.toks) (fun c o nc z => (sb3.2 c nc).trans z) z0 z1 z3 z4 z5, q⟩⟩
  refine wpAny_bind (wpAny_standAt (wpAny_bind ?_))
  show wpAny _ _ (comprehension (.ListComp elt [⟨tg, .Call (.Name x p) (e :: es) [] cpos, [tst], 0⟩] scope pos) scope X.env (firstIterPos [⟨tg, .Call (.Name x p) (e :: es) [] cpos, [tst], 0⟩] pos) (newList []) false (eval (.Call (.Name x p) (e :: es) [] cpos) X.env) (some (assign (.Name y py) X.env)) >>= _) _ _ s
  exact wpAny_bind (wpAny_mono core (fun _ s' q => wpAny_pure (wpAny_pure q)) fun _ _ z => z)
end
end G

set_option Elab.async false
set_option linter.all false
set_option maxRecDepth 100000
set_option maxHeartbeats 4000000
/-! Rows of a program (data): blocks_of, rows_of. -/
namespace G
open PySem PySem.Spec PyProof.Rows L2
theorem td_tup {H : Hp} {v : V} {ds : List PyData} (h : TD H v (.tuple ds)) : ∃ a xs, v = .ref a ∧ H a = some (.tup xs) ∧ TDs H xs ds := by
  cases h with
  | tup h1 h2 => exact ⟨_, _, rfl, h1, h2⟩
theorem tds1 {H : Hp} {vs : List V} {d : PyData} (h : TDs H vs [d]) : ∃ v, vs = [v] ∧ TD H v d := by
  cases h with
  | cons h1 h2 => cases h2; exact ⟨_, rfl, h1⟩
theorem tds_cons {H : Hp} {vs : List V} {d : PyData} {ds : List PyData} (h : TDs H vs (d :: ds)) : ∃ v r, vs = v :: r ∧ TD H v d ∧ TDs H r ds := by
  cases h with
  | cons h1 h2 => exact ⟨_, _, rfl, h1, h2⟩
theorem TDs.at {H : Hp} : ∀ {vs : List V} {ds : List PyData} {i : Nat} {v : V}, TDs H vs ds → vs[i]? = some v → ∃ d, ds[i]? = some d ∧ TD H v d
  | _, _, i, v, .nil, h => by simp at h
  | _, _, 0, v, .cons h1 h2, h => by
    cases h
    exact ⟨_, rfl, h1⟩
  | _, _, i + 1, v, .cons h1 h2, h => TDs.at h2 (i := i) h
theorem Same.putN {H H' : Hp} {L : Addr} {o : HO} (s : Same H H') (h : H L = none) : Same H (upd H' L o) := (((Kp.same (S := [L]) s).put (by simp)).fresh h).toSame
def partsOf : Sta → List (List Sta)
  | .act _ => []
  | .cond _ y n => [y, n]
  | .rep _ b => [b]
def partD (b : List Sta) : PyData := .tuple (blkData b)
/-- statements so deep at most -/
def NestOk : Nat → Sta → Prop
  | _, .act _ => True
  | 0, _ => False
  | d + 1, .cond _ y n => (∀ s ∈ y, NestOk d s) ∧ ∀ s ∈ n, NestOk d s
  | d + 1, .rep _ b => ∀ s ∈ b, NestOk d s
theorem nest_of : ∀ {d : Nat} {s : Sta}, StaOk d s → NestOk d s
  | _, .act _, _ => by unfold NestOk; trivial
  | 0, .cond _ _ _, h => h.elim
  | 0, .rep _ _, h => h.elim
  | d + 1, .cond t y n, h => ⟨fun s hs => nest_of (h.2.1 s hs), fun s hs => nest_of (h.2.2 s hs)⟩
  | d + 1, .rep k b, h => fun s hs => nest_of (h.2 s hs)
/-! ### the rows on paper -/
mutual
def staRows : Nat → Sta → List (Nat × Sta)
  | d, .act a => [(d, .act a)]
  | d, .cond t y n => (d, .cond t y n) :: (rowsP (d + 1) y ++ rowsP (d + 1) n)
  | d, .rep k b => (d, .rep k b) :: rowsP (d + 1) b
def rowsP : Nat → List Sta → List (Nat × Sta)
  | _, [] => []
  | d, s :: r => staRows d s ++ rowsP d r
end
theorem rowsP_snoc (d : Nat) (s : Sta) : ∀ b : List Sta, rowsP d (b ++ [s]) = rowsP d b ++ staRows d s
  | [] => by show staRows d s ++ [] = [] ++ staRows d s; rw [List.append_nil]; rfl
  | x :: r => by
    show staRows d x ++ rowsP d (r ++ [s]) = staRows d x ++ rowsP d r ++ staRows d s
    rw [rowsP_snoc d s r, List.append_assoc]
mutual
theorem staRows_len : ∀ (d : Nat) (s : Sta), (staRows d s).length = s.size
  | d, .act a => rfl
  | d, .cond t y n => by
    show ((d, Sta.cond t y n) :: (rowsP (d + 1) y ++ rowsP (d + 1) n)).length = 1 + (sizeB y + sizeB n)
    rw [List.length_cons, List.length_append, rowsP_len (d + 1) y, rowsP_len (d + 1) n]
    omega
  | d, .rep k b => by
    show ((d, Sta.rep k b) :: rowsP (d + 1) b).length = 1 + sizeB b
    rw [List.length_cons, rowsP_len (d + 1) b]
    omega
theorem rowsP_len : ∀ (d : Nat) (b : List Sta), (rowsP d b).length = sizeB b
  | _, [] => rfl
  | d, s :: r => by
    show (staRows d s ++ rowsP d r).length = s.size + sizeB r
    rw [List.length_append, staRows_len d s, rowsP_len d r]
end
def rowD (p : Nat × Sta) : PyData := .tuple [.int p.1, p.2.data]
def accR (d : Nat) (bs : List (List Sta)) (i : Nat) : List (Nat × Sta) := (bs.take i).flatMap (rowsP (d + 1))
theorem staRows_acc (d : Nat) (s : Sta) : staRows d s = (d, s) :: accR d (partsOf s) (partsOf s).length := by
  unfold accR
  rw [List.take_length]
  cases s <;> simp [staRows, partsOf]
theorem accR_succ {d i : Nat} {bs : List (List Sta)} {b : List Sta} (h : bs[i]? = some b) : accR d bs (i + 1) = accR d bs i ++ rowsP (d + 1) b := by
  unfold accR
  rw [List.take_add_one, h, List.flatMap_append]
  simp
theorem accR_le (d : Nat) (s : Sta) (i : Nat) : (accR d (partsOf s) i).length ≤ s.size := by
  have e := staRows_len d s
  rw [staRows_acc, List.length_cons] at e
  have q : (accR d (partsOf s) i).length ≤ (accR d (partsOf s) (partsOf s).length).length := by
    unfold accR
    rw [List.take_length]
    conv => rhs; rw [← List.take_append_drop i (partsOf s), List.flatMap_append, List.length_append]
    omega
  omega
theorem size_take : ∀ (b : List Sta) (j : Nat), sizeB (b.take j) ≤ sizeB b
  | [], j => by rw [List.take_nil]; exact Nat.le_refl _
  | s :: r, 0 => Nat.zero_le _
  | s :: r, j + 1 => Nat.add_le_add_left (size_take r j) _
theorem size_mem : ∀ {b : List Sta} {s : Sta}, s ∈ b → s.size ≤ sizeB b
  | x :: r, s, h => by
    rcases List.mem_cons.mp h with rfl | h
    · exact Nat.le_add_right _ _
    · exact Nat.le_trans (size_mem h) (Nat.le_add_left _ _)
theorem parts_nest {d : Nat} {s : Sta} {i : Nat} {b : List Sta} (ok : NestOk d s) (h : (partsOf s)[i]? = some b) : ∃ d', d = d' + 1 ∧ (∀ z ∈ b, NestOk d' z) ∧ sizeB b ≤ s.size := by
  have hm := List.mem_of_getElem? h
  cases s with
  | act a => exact nomatch hm
  | cond t y n =>
    cases d with
    | zero => exact ok.elim
    | succ d =>
      refine ⟨d, rfl, ?_⟩
      have e : (Sta.cond t y n).size = 1 + (sizeB y + sizeB n) := rfl
      have ok : (∀ s ∈ y, NestOk d s) ∧ ∀ s ∈ n, NestOk d s := ok
      simp only [partsOf, List.mem_cons, List.not_mem_nil, or_false] at hm
      rcases hm with rfl | rfl
      · exact ⟨ok.1, by omega⟩
      · exact ⟨ok.2, by omega⟩
  | rep c y =>
    cases d with
    | zero => exact ok.elim
    | succ d =>
      refine ⟨d, rfl, ?_⟩
      have e : (Sta.rep c y).size = 1 + sizeB y := rfl
      have ok : ∀ s ∈ y, NestOk d s := ok
      simp only [partsOf, List.mem_cons, List.not_mem_nil, or_false] at hm
      subst hm
      exact ⟨ok, by omega⟩
theorem act_shape (a : Act) : ∃ (w : Str) (ds : List PyData), a.data = .tuple (.str w :: ds) ∧ inV (.str w) [.str "if", .str "repeat"] = false ∧ decide (V.str w = V.str "if") = false ∧ decide (V.str w = V.str "repeat") = false := by
  cases a <;> exact ⟨_, _, rfl, by decide +kernel, by decide +kernel, by decide +kernel⟩
theorem sIx_two (a b : V) (ys : List V) : HT.sIx (a :: b :: ys).length 0 (some 2) = 2 := by
  rw [show HT.sIx (a :: b :: ys).length 0 (some 2) = min 2 (a :: b :: ys).length from HT.sIx_nat _ 0 2]
  simp only [List.length_cons]
  omega
theorem sIx2 (a b : V) (ys : List V) : ¬ HT.sIx (a :: b :: ys).length 0 (some 2) = 0 := by
  rw [sIx_two]
  decide
theorem cut2 (a b : V) (ys : List V) : cutV (a :: b :: ys) (some 2) none = ys := by
  unfold cutV
  rw [sIx_two, HT.sIx_none]
  show List.take ((a :: b :: ys).length - 2) ys = ys
  exact List.take_of_length_le (by simp only [List.length_cons]; omega)
section
variable {P : Program} {w : World} {K : PySem.W.Frag} {mg : Str → Option Value} {base : Heap}
abbrev s_blocks_of : Stmt := top 30
abbrev n_blocks_of : List Str := ["statement"]
theorem sc_blocks_of : FnScope n_blocks_of ["statement"] (defScope s_blocks_of) := ⟨rfl, rfl, rfl, by decide +kernel, rfl, by decide +kernel, by decide +kernel⟩
def spBO : Sp := fun vs H Q _ => ∃ (v : V) (s : Sta), vs = [v] ∧ TD H v s.data ∧ ∀ (H' : Hp) (p : Addr) (xs : List V), Same H H' → H' p = some (.tup xs) → TDs H' xs ((partsOf s).map partD) → Q (.ref p) H'
theorem ok_bo {f : Addr} {fd : FuncData} {k : Nat} (F : Fun K "blocks_of" "blocks_of" s_blocks_of f fd) : FnOk P w K mg base CX0 (k + 1) f fd ["statement"] spBO := by
  refine F.ok sc_blocks_of (fun vs H Q E ⟨v, s, ev, _⟩ => by rw [ev]; rfl) (fun cdv A outer s0 H vs Q E hr ⟨v, s, ev, td, q⟩ => ?_)
  subst ev
  refine ⟨_, (pss_cons (ps_if (pt_cmpR op_in_seq (pe_ix ix_tup (pv 0) pe_int (fun _ _ => rfl)) (pe_tup (pa_cons pe_str (pa_cons pe_str pa_nil))) (by rfl))
      (pss_one (ps_ret (pe_slice sl_tupA (pv 0) (po_some pe_int) po_none)))
      pss_nil)
      (pss_one (ps_ret (pe_tup pa_nil)))), ?_⟩
  cases s with
  | act a =>
    obtain ⟨wd, ds, ea, ei, _, _⟩ := act_shape a
    have td : TD H v a.data := td
    rw [ea] at td
    obtain ⟨r, ys, rfl, gr, dss⟩ := td_tup td
    obtain ⟨v1, ys, rfl, d1, dss⟩ := tds_cons dss
    cases d1
    refine ⟨_, rfl, r, _, _, _, rfl, rfl, SqT.of gr, atI_nat (j := 0) rfl, line1000 (Nat.le_of_ble_eq_true rfl), fun t0 n0 => ⟨t0, _, rfl, .inr (SqT.of upd_same), rfl, rfl, _, rfl, ?_⟩⟩
    show if inV (.str wd) [.str "if", .str "repeat"] = true then _ else _
    rw [ei]
    exact iteF ⟨line1000 (Nat.zero_le _), fun t1 n1 => q _ t1 [] (Same.trans (Same.up n0) (Same.up n1)) upd_same .nil⟩
  | cond t y n =>
    have td : TD H v (.tuple [.str "if", t.data, .tuple (blkData y), .tuple (blkData n)]) := td
    obtain ⟨r, ys0, rfl, gr, e0⟩ := td_tup td
    obtain ⟨v1, ys1, rfl, d1, e1⟩ := tds_cons e0
    cases d1
    obtain ⟨v2, ys2, rfl, d2, e2⟩ := tds_cons e1
    refine ⟨_, rfl, r, _, _, _, rfl, rfl, SqT.of gr, atI_nat (j := 0) rfl, line1000 (Nat.le_of_ble_eq_true rfl), fun t0 n0 => ⟨t0, _, rfl, .inr (SqT.of upd_same), rfl, rfl, _, rfl, ?_⟩⟩
    have s0 := Same.up (o := HO.tup [V.str "if", V.str "repeat"]) n0
    refine iteT ⟨_, rfl, _, rfl, r, _, rfl, SqT.of (s0 _ _ gr), fun h => absurd h.1 (sIx2 _ _ _), fun _ p np => ?_⟩
    rw [cut2]
    have s1 := Same.trans s0 (Same.up (o := HO.tup ys2) np)
    exact q _ p ys2 s1 upd_same (TDs.ch (Ch.same (S := []) s1) _ _ e2)
  | rep k b =>
    have td : TD H v (.tuple [.str "repeat", .int k, .tuple (blkData b)]) := td
    obtain ⟨r, ys0, rfl, gr, e0⟩ := td_tup td
    obtain ⟨v1, ys1, rfl, d1, e1⟩ := tds_cons e0
    cases d1
    obtain ⟨v2, ys2, rfl, d2, e2⟩ := tds_cons e1
    refine ⟨_, rfl, r, _, _, _, rfl, rfl, SqT.of gr, atI_nat (j := 0) rfl, line1000 (Nat.le_of_ble_eq_true rfl), fun t0 n0 => ⟨t0, _, rfl, .inr (SqT.of upd_same), rfl, rfl, _, rfl, ?_⟩⟩
    have s0 := Same.up (o := HO.tup [V.str "if", V.str "repeat"]) n0
    refine iteT ⟨_, rfl, _, rfl, r, _, rfl, SqT.of (s0 _ _ gr), fun h => absurd h.1 (sIx2 _ _ _), fun _ p np => ?_⟩
    rw [cut2]
    have s1 := Same.trans s0 (Same.up (o := HO.tup ys2) np)
    exact q _ p ys2 s1 upd_same (TDs.ch (Ch.same (S := []) s1) _ _ e2)
end
end G

set_option Elab.async false
set_option linter.all false
set_option maxRecDepth 100000
set_option maxHeartbeats 4000000
/-! The first wrong statement. -/
namespace G
open PySem PySem.Spec PyProof.Rows L2 StX RZ
section
variable {K : PySem.W.Frag} {a : Addr} {xs : List V} {g : TG} {tt : TT} {te : TE} {vs : List Nat} {σ : L2.St} {H0 : Hp} {D : Addr} {Qd : Hp → Prop}
/-- the inner walk of a comprehension with two for -/
theorem in_tup (Pv : Nat → Hp → Prop) (h0 : Pv 0 H0) (hl : ∀ i H, i ≤ xs.length → Pv i H → SqT K H a xs)
    (hs : ∀ i x H, xs[i]? = some x → Pv i H → g x (wipe σ vs) H fun σ2 H2 => wipe σ2 vs = wipe σ vs ∧ tt σ2 H2 fun b H3 =>
      if b = true then te σ2 H3 fun y H4 => ∃ acc, H4 D = some (.lst acc) ∧ acc.length < sizeLine ∧ Pv (i + 1) (upd H4 D (.lst (acc ++ [y]))) else Pv (i + 1) H3) (hd : ∀ H, Pv xs.length H → Qd H) :
    ∃ W : Nat → Nat → Hp → Prop, (∃ m, W 0 m H0) ∧ ∀ i m H, W i m H →
      ((Itt K a).stop i H ∧ Qd H) ∨ ((Itt K a).go i H ∧ ∃ Nx : Hp → Prop, (∀ H', Nx H' → ∃ m', m' < m ∧ W (i + 1) m' H') ∧ ∀ x H', (Itt K a).yld i H x H' → g x (wipe σ vs) H' fun σ2 H2 => wipe σ2 vs = wipe σ vs ∧ tt σ2 H2 fun b H3 =>
        if b = true then te σ2 H3 fun y H4 => ∃ acc, H4 D = some (.lst acc) ∧ acc.length < sizeLine ∧ Nx (upd H4 D (.lst (acc ++ [y]))) else Nx H3) := by
  refine ⟨fun i m H => m = xs.length - i ∧ i ≤ xs.length ∧ Pv i H, ⟨xs.length, by simp, Nat.zero_le _, h0⟩, ?_⟩
  rintro i m H ⟨rfl, hi, p⟩
  have q := hl i H hi p
  by_cases hlt : i < xs.length
  · refine .inr ⟨⟨xs, xs[i], q, by simp [hlt]⟩, Pv (i + 1), fun H' p' => ⟨xs.length - (i + 1), by omega, rfl, hlt, p'⟩, fun x H' y => ?_⟩
    obtain ⟨e, y⟩ := y
    subst e
    exact hs i x _ (y xs q) p
  · have e : i = xs.length := by omega
    subst e
    exact .inl ⟨⟨xs, q, Nat.le_refl _⟩, hd H p⟩
/-- the outer walk -/
theorem lc2_tup {wi1 : TI} {g1 : TG} {tt1 : TT} {vs1 : List Nat} (Pv : Nat → Hp → Prop) (h0 : Pv 0 (upd H0 D (.lst []))) (hl : ∀ i H, i ≤ xs.length → Pv i H → SqT K H a xs)
    (hs : ∀ i x H, xs[i]? = some x → Pv i H → g x (wipe σ vs) H fun σ2 H2 => wipe σ2 vs = wipe σ vs ∧ tt σ2 H2 fun b H3 =>
      if b = true then wi1 σ2 H3 fun J1 H4 => ∃ W1 : Nat → Nat → Hp → Prop, (∃ m, W1 0 m H4) ∧ ∀ j k H, W1 j k H →
        (J1.stop j H ∧ Pv (i + 1) H) ∨ (J1.go j H ∧ ∃ Nx1 : Hp → Prop, (∀ H', Nx1 H' → ∃ k', k' < k ∧ W1 (j + 1) k' H') ∧ ∀ x H', J1.yld j H x H' → g1 x (wipe σ2 vs1) H' fun σ3 H5 => wipe σ3 vs1 = wipe σ2 vs1 ∧ tt1 σ3 H5 fun b H6 =>
          if b = true then te σ3 H6 fun y H7 => ∃ acc, H7 D = some (.lst acc) ∧ acc.length < sizeLine ∧ Nx1 (upd H7 D (.lst (acc ++ [y]))) else Nx1 H6)
      else Pv (i + 1) H3) (hd : ∀ H, Pv xs.length H → Qd H) :
    ∃ W : Nat → Nat → Hp → Prop, (∃ m, W 0 m (upd H0 D (.lst []))) ∧ ∀ i m H, W i m H →
      ((Itt K a).stop i H ∧ Qd H) ∨ ((Itt K a).go i H ∧ ∃ Nx : Hp → Prop, (∀ H', Nx H' → ∃ m', m' < m ∧ W (i + 1) m' H') ∧ ∀ x H', (Itt K a).yld i H x H' → g x (wipe σ vs) H' fun σ2 H2 => wipe σ2 vs = wipe σ vs ∧ tt σ2 H2 fun b H3 =>
        if b = true then wi1 σ2 H3 fun J1 H4 => ∃ W1 : Nat → Nat → Hp → Prop, (∃ m, W1 0 m H4) ∧ ∀ j k H, W1 j k H →
          (J1.stop j H ∧ Nx H) ∨ (J1.go j H ∧ ∃ Nx1 : Hp → Prop, (∀ H', Nx1 H' → ∃ k', k' < k ∧ W1 (j + 1) k' H') ∧ ∀ x H', J1.yld j H x H' → g1 x (wipe σ2 vs1) H' fun σ3 H5 => wipe σ3 vs1 = wipe σ2 vs1 ∧ tt1 σ3 H5 fun b H6 =>
            if b = true then te σ3 H6 fun y H7 => ∃ acc, H7 D = some (.lst acc) ∧ acc.length < sizeLine ∧ Nx1 (upd H7 D (.lst (acc ++ [y]))) else Nx1 H6)
        else Nx H3) := by
  refine ⟨fun i m H => m = xs.length - i ∧ i ≤ xs.length ∧ Pv i H, ⟨xs.length, by simp, Nat.zero_le _, h0⟩, ?_⟩
  rintro i m H ⟨rfl, hi, p⟩
  have q := hl i H hi p
  by_cases hlt : i < xs.length
  · refine .inr ⟨⟨xs, xs[i], q, by simp [hlt]⟩, Pv (i + 1), fun H' p' => ⟨xs.length - (i + 1), by omega, rfl, hlt, p'⟩, fun x H' y => ?_⟩
    obtain ⟨e, y⟩ := y
    subst e
    exact hs i x _ (y xs q) p
  · have e : i = xs.length := by omega
    subst e
    exact .inl ⟨⟨xs, q, Nat.le_refl _⟩, hd H p⟩
end
/-! ### on paper -/
def blkW (z : Str) : Bool := inV (.str z) [.str "if", .str "repeat"]
def partsD : PyData → List PyData
  | .tuple (.str w :: _ :: ds) => if blkW w then ds else []
  | _ => []
def innerQ (dp : Nat) (d : PyData) : List (Nat × PyData) := (partsD d).flatMap fun b => (tupI b).map fun x => (dp + 1, x)
inductive FW (g : Int) : Nat → Nat → List (Nat × PyData) → Option (Nat × Str) → Prop
  | nil (pl : Nat) : FW g 0 pl [] none
  | nest (pl dp : Nat) (d : PyData) (r : List (Nat × PyData)) : 4 < dp → FW g 0 pl ((dp, d) :: r) (some (pl, Str.ofString "nest"))
  | wrong (pl dp : Nat) (d : PyData) (r : List (Nat × PyData)) : dp ≤ 4 → isStmt d g = false → FW g 0 pl ((dp, d) :: r) (some (pl, Str.ofString "statement"))
  | step {n pl dp : Nat} {d : PyData} {r : List (Nat × PyData)} {o : Option (Nat × Str)} : dp ≤ 4 → isStmt d g = true → (innerQ dp d ++ r).length ≤ 100000 → FW g n (pl + 1) (innerQ dp d ++ r) o → FW g (n + 1) pl ((dp, d) :: r) o
def wrongD : Option (Nat × Str) → PyData
  | none => .none
  | some (pl, w) => .tuple [.int (pl : Int), .str w]
theorem fit_len {ck : Ck → PyData → Int → Bool} {cks : List Ck} {ds : List PyData} {g : Int} (h : fitW ck cks ds g = true) : ds.length = cks.length := by
  unfold fitW at h
  exact of_decide_eq_true (Bool.and_eq_true_iff.mp h).1
theorem stmt_shape {d : PyData} {g : Int} (h : isStmt d g = true) : ∃ z a ds, d = .tuple (.str z :: a :: ds) := by
  unfold isStmt at h
  cases e : firstW d with
  | none => rw [e] at h; cases h
  | some z =>
    rw [e] at h
    have h : (match stmtT z with
      | some cks => fitW ckB cks (tupI d).tail g
      | none => false) = true := h
    cases e2 : stmtT z with
    | none => rw [e2] at h; cases h
    | some cks =>
      rw [e2] at h
      obtain ⟨r, rfl⟩ := firstW_of e
      have l1 := fit_len h
      have l2 : 1 ≤ cks.length := by
        have z : ∀ p ∈ stmtL, 1 ≤ p.2.length := by
          intro p hp
          simp only [stmtL, List.mem_cons, List.not_mem_nil, or_false] at hp
          rcases hp with rfl | rfl | rfl | rfl | rfl | rfl | rfl | rfl | rfl | rfl | rfl | rfl | rfl <;> exact Nat.le_of_ble_eq_true rfl
        exact z _ (look_mem e2)
      have l3 : r.length = cks.length := l1
      cases r with
      | nil => rw [← l3] at l2; exact absurd l2 (by decide)
      | cons a ds => exact ⟨z, a, ds, rfl⟩
theorem stmt_parts {d : PyData} {g : Int} (h : isStmt d g = true) : ∀ b ∈ partsD d, ∃ ds, b = .tuple ds := by
  obtain ⟨z, a, ds, rfl⟩ := stmt_shape h
  intro b hb
  have hb : b ∈ (if blkW z then ds else []) := hb
  by_cases c : blkW z = true
  · rw [if_pos c] at hb
    unfold isStmt at h
    have h : (match stmtT z with
      | some cks => fitW ckB cks (a :: ds) g
      | none => false) = true := h
    have hz : z = Str.ofString "if" ∨ z = Str.ofString "repeat" := by
      have c2 : (eqV (V.str "if") (V.str z) || (eqV (V.str "repeat") (V.str z) || false)) = true := c
      rcases Bool.or_eq_true_iff.mp c2 with e | e
      · exact .inl (of_decide_eq_true e).symm
      · rcases Bool.or_eq_true_iff.mp e with e | e
        · exact .inr (of_decide_eq_true e).symm
        · cases e
    have tupOf : ∀ x, isTupD x = true → ∃ ds, x = .tuple ds := fun x hx => tupD_of hx
    rcases hz with rfl | rfl
    · rw [show stmtT (Str.ofString "if") = some [.test, .block, .block] by decide +kernel] at h
      have l := fit_len h
      match ds, l with
      | [b1, b2], _ =>
        unfold fitW at h
        have h := (Bool.and_eq_true_iff.mp h).2
        simp only [List.zipWith_cons_cons, List.zipWith_nil_left, List.all_cons, List.all_nil, Bool.and_eq_true] at h
        rcases List.mem_cons.mp hb with rfl | hb
        · exact tupOf _ h.2.1
        · rw [List.mem_singleton.mp hb]
          exact tupOf _ h.2.2.1
    · rw [show stmtT (Str.ofString "repeat") = some [.times, .block] by decide +kernel] at h
      have l := fit_len h
      match ds, l with
      | [b1], _ =>
        unfold fitW at h
        have h := (Bool.and_eq_true_iff.mp h).2
        simp only [List.zipWith_cons_cons, List.zipWith_nil_left, List.all_cons, List.all_nil, Bool.and_eq_true] at h
        rw [List.mem_singleton.mp hb]
        exact tupOf _ h.2.1
  · rw [if_neg c] at hb
    exact absurd hb List.not_mem_nil
/-- the rows that are left -/
inductive QV (G : Addr → Prop) (Ha H : Hp) : List V → List (Nat × PyData) → Prop
  | nil : QV G Ha H [] []
  | cons {t : Addr} {xs : List V} {dp : Nat} {v : V} {d : PyData} {r : List (Nat × PyData)} : H t = some (.tup [.int (dp : Int), v]) → GV G Ha v d → QV G Ha H xs r → QV G Ha H (.ref t :: xs) ((dp, d) :: r)
theorem QV.ch {G : Addr → Prop} {Ha H H' : Hp} {S : List Addr} (c : Ch S H H') : ∀ {xs : List V} {r : List (Nat × PyData)}, QV G Ha H xs r → QV G Ha H' xs r
  | _, _, .nil => .nil
  | _, _, .cons h1 h2 h3 => .cons (c.tu _ _ h1) h2 (h3.ch c)
theorem QV.len {G : Addr → Prop} {Ha H : Hp} : ∀ {xs : List V} {r : List (Nat × PyData)}, QV G Ha H xs r → xs.length = r.length
  | _, _, .nil => rfl
  | _, _, .cons _ _ h3 => congrArg (· + 1) h3.len
theorem QV.append {G : Addr → Prop} {Ha H : Hp} : ∀ {xs : List V} {r : List (Nat × PyData)} {ys : List V} {s : List (Nat × PyData)}, QV G Ha H xs r → QV G Ha H ys s → QV G Ha H (xs ++ ys) (r ++ s)
  | _, _, _, _, .nil, h => h
  | _, _, _, _, .cons h1 h2 h3, h => .cons h1 h2 (h3.append h)
section
variable {P : Program} {w : World} {K : PySem.W.Frag} {mg : Str → Option Value} {base : Heap} {RV : Addr}
/-- blocks_of of a right statement -/
def spBG : Sp := fun vs H Q _ => ∃ (G : Addr → Prop) (Ha : Hp) (v : V) (d : PyData) (g : Int), vs = [v] ∧ GV G Ha v d ∧ Same Ha H ∧ isStmt d g = true ∧ ∀ (H' : Hp) (p : Addr) (xs : List V), Same H H' → H' p = some (.tup xs) → GVs G Ha xs (partsD d) → Q (.ref p) H'
theorem ok_bg {f : Addr} {fd : FuncData} {k : Nat} (F : Fun K "blocks_of" "blocks_of" s_blocks_of f fd) : FnOk P w K mg base CX0 (k + 1) f fd ["statement"] spBG := by
  refine F.ok sc_blocks_of (fun vs H Q E ⟨_, _, v, _, _, ev, _⟩ => by rw [ev]; rfl) (fun cdv A outer s0 H vs Q E hr ⟨G, Ha, v, d, g, ev, gd, sa, hs, q⟩ => ?_)
  subst ev
  refine ⟨_, (pss_cons (ps_if (pt_cmpR op_in_seq (pe_ix ix_tup (pv 0) pe_int (fun _ _ => rfl)) (pe_tup (pa_cons pe_str (pa_cons pe_str pa_nil))) (by rfl))
      (pss_one (ps_ret (pe_slice sl_tupA (pv 0) (po_some pe_int) po_none)))
      pss_nil)
      (pss_one (ps_ret (pe_tup pa_nil)))), ?_⟩
  obtain ⟨z, a0, ds, rfl⟩ := stmt_shape hs
  obtain ⟨r, xs, rfl, gr, gx⟩ := gd_tup gd
  have gr := sa _ _ gr
  obtain ⟨v1, ys, rfl, d1, g1⟩ := gds_cons gx
  cases d1
  obtain ⟨v2, ys, rfl, d2, g2⟩ := gds_cons g1
  have q : ∀ (H' : Hp) (p : Addr) (xs : List V), Same H H' → H' p = some (.tup xs) → GVs G Ha xs (if blkW z then ds else []) → Q (.ref p) H' := q
  refine ⟨_, rfl, r, _, _, _, rfl, rfl, SqT.of gr, atI_nat (j := 0) rfl, line1000 (Nat.le_of_ble_eq_true rfl), fun t0 n0 => ⟨t0, _, rfl, .inr (SqT.of upd_same), rfl, rfl, _, rfl, ?_⟩⟩
  show if blkW z = true then _ else _
  have s0 := Same.up (o := HO.tup [V.str "if", V.str "repeat"]) n0
  cases e : blkW z with
  | true =>
    rw [e] at q
    refine iteT ⟨_, rfl, _, rfl, r, _, rfl, SqT.of (s0 _ _ gr), fun h => absurd h.1 (sIx2 _ _ _), fun _ p np => ?_⟩
    rw [cut2]
    exact q _ p ys (Same.trans s0 (Same.up np)) upd_same g2
  | false =>
    rw [e] at q
    exact iteF ⟨line1000 (Nat.zero_le _), fun t1 n1 => q _ t1 [] (Same.trans s0 (Same.up n1)) upd_same .nil⟩
abbrev s__first_wrong : Stmt := top 38
abbrev n__first_wrong : List Str := ["givens", "block", "left", "place", "depth", "item", "inner", "part", "row"]
theorem sc__first_wrong : FnScope n__first_wrong ["givens", "block"] (defScope s__first_wrong) := ⟨rfl, rfl, rfl, by decide +kernel, rfl, by decide +kernel, by decide +kernel⟩
def spWr : Sp := fun vs H Q _ => ∃ (G : Addr → Prop) (v : V) (ds : List PyData) (g : Int) (n : Nat) (o : Option (Nat × Str)), vs = [.int g, v] ∧ GV G H v (.tuple ds) ∧ 0 ≤ g ∧ ds.length ≤ 100000 ∧ FW g n 0 (ds.map fun d => (0, d)) o ∧ ∀ H' u, Same H H' → TD H' u (wrongD o) → Q u H'
theorem ok_wrong {f fB fS : Addr} {fd dB dS : FuncData} {k : Nat} (hk : 1 ≤ k) (F : Fun K "_first_wrong" "_first_wrong" s__first_wrong f fd) (N : KN K mg RV)
    (DB : Df K mg "blocks_of" s_blocks_of ["statement"] fB dB) (GB : FnOk P w K mg base CX0 1 fB dB ["statement"] spBG)
    (DS : Df K mg "is_statement" s_is_statement ["value", "givens"] fS dS) (GS : FnOk P w K mg base CX0 k fS dS ["value", "givens"] spIS) : FnOk P w K mg base CX0 (k + 1) f fd ["givens", "block"] spWr := by
  refine F.ok sc__first_wrong (fun vs H Q E ⟨_, _, _, _, _, _, ev, _⟩ => by rw [ev]; rfl) (fun cdv A outer s0 H vs Q E hr ⟨G, v, ds, g, n, o, ev, gd, hg, hl, fw, q⟩ => ?_)
  subst ev
  have hr1 : Room 1 _ := hr.mono hk
  obtain ⟨tm, hm⟩ := N.mNest
  refine ⟨_, (pss_cons (ps_setLc (i := 2) (g := gName 5) (tt := tYes) (te := tTup (tCons (tC (.int 0)) (tCons (tVar 5) tNil))) (own := [("item", 5)]) (by rfl) sc__first_wrong.nd rfl rfl (sw_true rfl rfl rfl (by decide +kernel)) (pi_tup (pv 1)) (blkOk_by (N := n__first_wrong) (sc := defScope s__first_wrong) (by decide +kernel)) (fun _ _ _ _ _ => (pg_name (i := 5) sc__first_wrong.nd rfl (.inl rfl))) (fun _ _ _ _ _ => pts_nil) (fun _ _ _ _ _ => (pe_tup (pa_cons pe_int (pa_cons (pv 5) pa_nil)))))
      (pss_cons (ps_set (i := 3) sc__first_wrong.nd rfl (.inl rfl) pe_int)
      (pss_cons (ps_while PassesOwn.never (pt_truth (pv 2) (by intro _; rfl)) (pss_cons (ps_asg (pe_bm PySem.F.plainAttrs_list PySem.F.slot_list_pop PySem.F.type_list_pop mt_popAt (pv 2) (pa_cons pe_int pa_nil)) (pg_tup rfl (pgs_cons (pg_name (i := 4) sc__first_wrong.nd rfl (.inr rfl)) (pgs_cons (pg_name (i := 5) sc__first_wrong.nd rfl (.inl rfl)) pgs_nil))))
      (pss_cons (ps_if (pt_cmpR op_gt (pv 4) (pe_glob (v := .int 4) rfl hm ⟨_, rfl⟩) (nomark _))
      (pss_one (ps_ret (pe_tup (pa_cons (pv 3) (pa_cons pe_str pa_nil)))))
      pss_nil)
      (pss_cons (ps_if (pt_not (pt_val (pe_call GS hr (by rfl) DS.m DS.F.kp DS.b .nil pass0 (pa_cons (pv 5) (pa_cons (pv 0) pa_nil)))))
      (pss_one (ps_ret (pe_tup (pa_cons (pv 3) (pa_cons pe_str pa_nil)))))
      pss_nil)
      (pss_cons (ps_setLc2 (i := 6) (g := gName 7) (tt := tYes) (wi1 := iTup K (tVar 7)) (g1 := gName 8) (tt1 := tYes) (te := tTup (tCons (tOp rAddE (tVar 4) (tC (.int 1))) (tCons (tVar 8) tNil))) (own := [("part", 7), ("row", 8)]) (vs1 := [8]) (by rfl) sc__first_wrong.nd rfl rfl (sw_true rfl rfl rfl (by decide +kernel)) (pi_tup (pe_call GB hr1 (by rfl) DB.m DB.F.kp DB.b .nil pass0 (pa_cons (pv 5) pa_nil))) (blkOk_by (N := n__first_wrong) (sc := defScope s__first_wrong) (by decide +kernel)) (by decide)
         (fun _ _ _ _ _ => (pg_name (i := 7) sc__first_wrong.nd rfl (.inl rfl))) (fun _ _ _ _ _ => pts_nil) (fun _ _ _ _ _ => pi_tup (pv 7)) (fun _ _ _ _ _ => (pg_name (i := 8) sc__first_wrong.nd rfl (.inl rfl))) (fun _ _ _ _ _ => pts_nil) (fun _ _ _ _ _ => (pe_tup (pa_cons (pe_op op_addE (pv 4) pe_int) (pa_cons (pv 8) pa_nil)))))
      (pss_cons (ps_set (i := 2) sc__first_wrong.nd rfl (.inl rfl) (pe_op op_cat (pv 6) (pv 2)))
      (pss_one (ps_set (i := 3) sc__first_wrong.nd rfl (.inl rfl) (pe_op op_addE (pv 3) pe_int)))))))))
      (pss_one (ps_ret pe_non))))), ?_⟩
  obtain ⟨b0, xs, rfl, gb, gx⟩ := gd_tup gd
  have lx := gx.len
  have q0 := q
  refine ⟨_, rfl, b0, rfl, ⟨_, SqT.of gb⟩, fun L0 nL0 => ?_⟩
  refine lc_tup (xs := xs) (fun i H' => Ch [L0] H H' ∧ ∃ ys, H' L0 = some (.lst ys) ∧ QV G H H' ys ((ds.take i).map fun d => (0, d))) ⟨(Ch.refl _ _).new nL0, [], upd_same, .nil⟩ (fun i H' _ h => SqT.of (h.1.tu _ _ gb)) ?_ ?_
  · rintro i x H' hx ⟨c1, ys, g1, qv⟩
    obtain ⟨d, hd, gdx⟩ := gx.at hx
    refine ⟨rfl, _, rfl, line1000 (Nat.le_of_ble_eq_true rfl), fun t nt => ?_⟩
    have s2 := Same.up (o := HO.tup [V.int 0, x]) nt
    have gt : upd H' t (HO.tup [V.int 0, x]) t = some (.tup [V.int 0, x]) := upd_same
    have g2 := s2 _ _ g1
    have qv2 := qv.ch (Ch.same (S := []) s2)
    generalize upd H' t (HO.tup [V.int 0, x]) = H2 at s2 gt g2 qv2 ⊢
    have c3 : Ch [L0] H2 (upd H2 L0 (.lst (ys ++ [.ref t]))) := (Ch.refl _ _).put (by simp) g2 (fun xs z => by cases z)
    refine ⟨ys, g2, lt_line (by rw [qv.len, List.length_map, List.length_take]; omega), (c1.trans (Ch.same s2)).trans c3, _, upd_same, ?_⟩
    rw [List.take_add_one, hd, List.map_append]
    exact (qv2.ch c3).append (.cons (c3.tu _ _ gt) gdx .nil)
  · rintro H1 ⟨c1, ys, g1, qv⟩
    rw [lx, List.take_length] at qv
    have sH : Same H H1 := (c1.kp.fresh nL0).toSame
    obtain ⟨W, eW⟩ : ∃ W : Nat → L2.St → Hp → Prop, W = fun m σ H' => ∃ (pl : Nat) (qu : List (Nat × PyData)) (L : Addr) (ys : List V) (x4 x5 x6 x7 x8 : Option V), FW g m pl qu o ∧ qu.length ≤ 100000 ∧ Same H H' ∧ H L = none ∧ H' L = some (.lst ys) ∧ QV G H H' ys qu ∧ σ = [some (.int g), some (.ref b0), some (.ref L), some (.int (pl : Int)), x4, x5, x6, x7, x8] := ⟨_, rfl⟩
    refine ⟨W, ⟨n, by rw [eW]; exact ⟨0, _, L0, ys, none, none, none, none, none, fw, by rw [List.length_map]; exact hl, sH, nL0, g1, qv, rfl⟩⟩, ?_⟩
    clear fw
    intro m σ H' hW
    rw [eW] at hW
    obtain ⟨pl, qu, L, ys, x4, x5, x6, x7, x8, fw, hq, sm, nL, gL, qv, rfl⟩ := hW
    cases qv with
    | nil =>
      cases fw
      exact ⟨.ref L, rfl, false, .inl ⟨_, SqL.of gL, rfl⟩, iteF (q0 H' _ sm .non)⟩
    | cons ht gdv qv' =>
      rename_i t xs' dp v d r
      refine ⟨.ref L, rfl, true, .inl ⟨_, SqL.of gL, rfl⟩, iteT ⟨fun σ' H' => ∃ m', m' < m ∧ W m' σ' H', fun _ _ hh => hh, ?_⟩⟩
      refine ⟨.ref L, rfl, .inl ⟨rfl, _, SqL.of gL⟩, L, _, 0, 0, _, rfl, rfl, gL, by decide, by decide, by unfold seqIndex?; simp, rfl, ?_⟩
      have c2 : Ch [L] H' (upd H' L (.lst ((V.ref t :: xs').eraseIdx 0))) := (Ch.refl _ _).put (by simp) gL (fun xs z => by cases z)
      have gL2 : upd H' L (.lst ((V.ref t :: xs').eraseIdx 0)) L = some (.lst xs') := upd_same
      have s2 : Same H (upd H' L (.lst ((V.ref t :: xs').eraseIdx 0))) := Same.putN sm nL
      generalize upd H' L (.lst ((V.ref t :: xs').eraseIdx 0)) = H2 at c2 gL2 s2 ⊢
      refine ⟨t, _, rfl, SqT.of (c2.tu _ _ ht), rfl, _, _, rfl, _, _, rfl, rfl, ?_⟩
      have ret : ∀ (H3 : Hp) (wd : Str), Same H H3 → o = some (pl, wd) → ∀ p, H3 p = none → Q (.ref p) (upd H3 p (.tup [.int (pl : Int), .str wd])) := fun H3 wd s3 eo p np => by
        subst eo
        exact q0 _ _ (Same.trans s3 (Same.up np)) (.tup upd_same (.cons (.int _) (.cons (.str _) .nil)))
      refine ⟨_, rfl, _, _, rfl, rfl, _, rfl, ite2 (fun c => ?_) (fun c => ?_)⟩
      · have h4 : (4 : Int) < (dp : Int) := of_decide_eq_true c
        cases fw with
        | nest _ _ _ _ _ => exact ⟨_, rfl, line1000 (Nat.le_of_ble_eq_true rfl), fun p np => ret H2 _ s2 rfl p np⟩
        | wrong _ _ _ _ h _ => exact absurd h (by omega)
        | step h _ _ _ => exact absurd h (by omega)
      · have h4 : ¬ (4 : Int) < (dp : Int) := fun z => c (decide_eq_true z)
        refine ⟨_, rfl, _, rfl, G, v, d, g, rfl, gdv.same s2, hg, fun H3 s3 => ⟨_, rfl, ?_⟩⟩
        have s23 := Same.trans s2 s3
        cases e : isStmt d g with
        | false =>
          cases fw with
          | nest _ _ _ _ h => exact absurd h (by omega)
          | wrong _ _ _ _ _ _ => exact iteT ⟨_, rfl, line1000 (Nat.le_of_ble_eq_true rfl), fun p np => ret H3 _ s23 rfl p np⟩
          | step _ h _ _ => rw [e] at h; cases h
        | true =>
          refine iteF ?_
          cases fw with
          | nest _ _ _ _ h => exact absurd h (by omega)
          | wrong _ _ _ _ _ h => rw [e] at h; cases h
          | step _ _ hlen fw' =>

            have lin : (innerQ dp d).length ≤ 100000 := by rw [List.length_append] at hlen; omega
            refine ⟨_, rfl, G, H, v, d, g, rfl, gdv, s23, e, fun H4 p zs s4 gp gzs => ⟨p, rfl, ⟨_, SqT.of gp⟩, fun D nD => ?_⟩⟩
            have s24 := Same.trans s23 s4
            have nDH : H D = none := s24.free nD
            have lz := gzs.len
            refine lc2_tup (xs := zs) (fun i H5 => Ch [D] H4 H5 ∧ ∃ ac, H5 D = some (.lst ac) ∧ QV G H H5 ac (((partsD d).take i).flatMap fun b => (tupI b).map fun x => (dp + 1, x))) ⟨(Ch.refl _ _).new nD, [], upd_same, .nil⟩ (fun i H5 _ h => SqT.of (h.1.tu _ _ gp)) ?_ ?_
            · rintro i x H5 hx ⟨c5, ac, g5, qv5⟩
              obtain ⟨b, hb, gbx⟩ := gzs.at hx
              obtain ⟨bs, rfl⟩ := stmt_parts e b (List.mem_of_getElem? hb)
              obtain ⟨pb, us, rfl, gpb, gus⟩ := gd_tup gbx
              have s5 : Same H4 H5 := (c5.kp.fresh nD).toSame
              have lac : (((partsD d).take i).flatMap fun b => (tupI b).map fun x => (dp + 1, x)).length + bs.length ≤ 100000 := by
                have e1 : innerQ dp d = (((partsD d).take i).flatMap fun b => (tupI b).map fun x => (dp + 1, x)) ++ (((partsD d).drop i).flatMap fun b => (tupI b).map fun x => (dp + 1, x)) := by
                  unfold innerQ
                  rw [← List.flatMap_append, List.take_append_drop]
                have e2 : (partsD d).drop i = .tuple bs :: (partsD d).drop (i + 1) := by
                  have := (List.getElem?_eq_some_iff.mp hb)
                  obtain ⟨hi, e3⟩ := this
                  rw [List.drop_eq_getElem_cons hi, e3]
                rw [e1, e2, List.length_append, List.flatMap_cons, List.length_append, List.length_map] at lin
                have lin : _ + (bs.length + _) ≤ 100000 := lin
                omega
              refine ⟨rfl, _, rfl, pb, rfl, ⟨_, SqT.of (s5 _ _ (s24 _ _ gpb))⟩, in_tup (xs := us) (fun j H6 => Ch [D] H4 H6 ∧ ∃ ac, H6 D = some (.lst ac) ∧ QV G H H6 ac ((((partsD d).take i).flatMap fun b => (tupI b).map fun x => (dp + 1, x)) ++ (bs.take j).map fun x => (dp + 1, x))) ⟨c5, ac, g5, by rw [List.take_zero, List.map_nil, List.append_nil]; exact qv5⟩
                (fun j H6 _ h => SqT.of (((h.1.kp.fresh nD).toSame) _ _ (s24 _ _ gpb))) ?_ ?_⟩
              · rintro j y H6 hy ⟨c6, ac6, g6, qv6⟩
                obtain ⟨dy, hdy, gdy⟩ := gus.at hy
                refine ⟨rfl, _, rfl, _, _, rfl, rfl, fun z ez => ⟨_, rfl, line1000 (Nat.le_of_ble_eq_true rfl), fun tn ntn => ?_⟩⟩
                have s7 := Same.up (o := HO.tup [V.int z, y]) ntn
                have gtn : upd H6 tn (HO.tup [V.int z, y]) tn = some (.tup [V.int z, y]) := upd_same
                have g7 := s7 _ _ g6
                have qv7 := qv6.ch (Ch.same (S := []) s7)
                generalize upd H6 tn (HO.tup [V.int z, y]) = H7 at s7 gtn g7 qv7 ⊢
                have c8 : Ch [D] H7 (upd H7 D (.lst (ac6 ++ [.ref tn]))) := (Ch.refl _ _).put (by simp) g7 (fun xs z => by cases z)
                have hjl : j < bs.length := (List.getElem?_eq_some_iff.mp hdy).1
                refine ⟨ac6, g7, lt_line (by rw [qv6.len, List.length_append, List.length_map, List.length_take]; omega), (c6.trans (Ch.same s7)).trans c8, _, upd_same, ?_⟩
                rw [List.take_add_one, hdy, List.map_append, ← List.append_assoc]
                have ezd : z = ((dp + 1 : Nat) : Int) := by omega
                rw [ezd] at gtn
                exact (qv7.ch c8).append (.cons (c8.tu _ _ gtn) gdy .nil)
              · rintro H6 ⟨c6, ac6, g6, qv6⟩
                refine ⟨c6, ac6, g6, ?_⟩
                rw [gus.len, List.take_length] at qv6
                rw [List.take_add_one, hb, List.flatMap_append]
                show QV G H H6 ac6 (_ ++ (((tupI (.tuple bs)).map fun x => (dp + 1, x)) ++ []))
                rw [List.append_nil]
                exact qv6
            · rintro H5 ⟨c5, ac, g5, qv5⟩
              rw [lz, List.take_length] at qv5
              have s5 : Same H4 H5 := (c5.kp.fresh nD).toSame
              have s45 := Same.trans s3 (Same.trans s4 s5)
              have gL5 := s45 _ _ gL2
              have lq := qv5.len
              have lr := qv'.len
              have qvr := qv'.ch (c2.trans (Ch.same (S := [L]) s45))
              refine ⟨_, rfl, _, rfl, D, L, ac, xs', rfl, rfl, g5, gL5, Nat.le_of_lt (lt_line (by
                rw [List.length_append] at hlen
                have lq : ac.length = (innerQ dp d).length := lq
                omega)), fun np nnp => ⟨_, rfl, _, _, rfl, rfl, fun z ez => ⟨_, Nat.lt_succ_self _, ?_⟩⟩⟩
              have s6 := Same.up (o := HO.lst (ac ++ xs')) nnp
              have sAll := Same.trans s24 (Same.trans s5 s6)
              rw [eW]
              exact ⟨pl + 1, innerQ dp d ++ r, np, ac ++ xs', _, _, _, _, _, fw', hlen, sAll, (Same.trans s24 s5).free nnp, upd_same, (QV.append (qv5.ch (Ch.same (S := []) s6)) (qvr.ch (Ch.same (S := []) s6))), by rw [show z = ((pl + 1 : Nat) : Int) by omega]; rfl⟩
end
end G

set_option Elab.async false
set_option linter.all false
set_option maxRecDepth 100000
set_option maxHeartbeats 4000000
/-! rows_of. -/
namespace G
open PySem PySem.Spec PyProof.Rows L2
def spRO (d : Nat) : Sp := fun vs H Q _ => ∃ (v : V) (b : List Sta) (k : Nat), vs = [v, .int (k : Int)] ∧ TD H v (partD b) ∧ (∀ s ∈ b, NestOk d s) ∧ sizeB b ≤ 10000 ∧ ∀ (H' : Hp) (p : Addr) (xs : List V), Same H H' → H p = none → H' p = some (.lst xs) → TDs H' xs ((rowsP k b).map rowD) → Q (.ref p) H'
def spRO' : Nat → Sp
  | 0 => fun _ _ _ _ => False
  | d + 1 => spRO d
section
variable {P : Program} {w : World} {K : PySem.W.Frag} {mg : Str → Option Value} {base : Heap}
abbrev s_rows_of : Stmt := top 31
abbrev n_rows_of : List Str := ["block", "depth", "rows", "statement", "inner"]
theorem sc_rows_of : FnScope n_rows_of ["block", "depth"] (defScope s_rows_of) := ⟨rfl, rfl, rfl, by decide +kernel, rfl, by decide +kernel, by decide +kernel⟩
theorem ok_ro {f fB fS : Addr} {fd dB dS : FuncData} {d k0 : Nat} (F : Fun K "rows_of" "rows_of" s_rows_of f fd)
    (DB : Df K mg "blocks_of" s_blocks_of ["statement"] fB dB) (GB : FnOk P w K mg base CX0 1 fB dB ["statement"] spBO)
    (mS : mg "rows_of" = some (.ref fS)) (kS : PySem.W.keepIn K (.ref fS) = true) (bS : Binds K dS ["block", "depth"] []) (hk0 : 1 ≤ k0) (GS : FnOk P w K mg base CX0 k0 fS dS ["block", "depth"] (spRO' d)) : FnOk P w K mg base CX0 (k0 + 1) f fd ["block", "depth"] (spRO d) := by
  refine F.ok sc_rows_of (fun vs H Q E ⟨v, b, k, ev, _⟩ => by rw [ev]; rfl) (fun cdv A outer s0 H vs Q E hr ⟨v, b, k, ev, td, ok, hz, q⟩ => ?_)
  subst ev
  have hr1 : Room 1 _ := hr.mono hk0
  refine ⟨_, (pss_cons (ps_set (i := 2) sc_rows_of.nd rfl (.inl rfl) (pe_lst pa_nil))
      (pss_cons (ps_for PassesOwn.never rfl (pi_tup (pv 0)) (pg_name (i := 3) sc_rows_of.nd rfl (.inl rfl))
      (pss_cons (ps_expr (pe_bm PySem.F.plainAttrs_list PySem.F.slot_list_append PySem.F.type_list_append mt_append (pv 2) (pa_cons (pe_tup (pa_cons (pv 1) (pa_cons (pv 3) pa_nil))) pa_nil)))
      (pss_one (ps_for PassesOwn.never rfl (pi_tup (pe_call GB hr1 (by rfl) DB.m DB.F.kp DB.b .nil pass0 (pa_cons (pv 3) pa_nil))) (pg_name (i := 4) sc_rows_of.nd rfl (.inl rfl))
      (pss_one (ps_expr (pe_bm PySem.F.plainAttrs_list PySem.F.slot_list_extend PySem.F.type_list_extend mt_extend (pv 2) (pa_cons (pe_call GS hr (by rfl) mS kS bS .nil pass0 (pa_cons (pv 4) (pa_cons (pe_op op_addE (pv 1) pe_int) pa_nil))) pa_nil))))))))
      (pss_one (ps_ret (pv 2))))), ?_⟩
  obtain ⟨r0, xs, rfl, gr0, tds⟩ := td_tup td
  refine ⟨Nat.zero_le _, fun Ln nLn => ?_⟩
  have s1 := Same.up (o := HO.lst []) nLn
  have gL1 : upd H Ln (HO.lst []) Ln = some (.lst []) := upd_same
  have gr1 := s1 _ _ gr0
  have tdsa := TDs.ch (Ch.same (S := []) s1) _ _ tds
  generalize upd H Ln (HO.lst []) = H1 at s1 gL1 gr1 tdsa ⊢
  refine ⟨_, rfl, r0, rfl, ⟨_, SqT.of gr1⟩, for_tup (xs := xs) (fun j σ H' => Ch [Ln] H1 H' ∧ ∃ (acc : List V) (x3 x4 : Option V), H' Ln = some (.lst acc) ∧ TDs H' acc ((rowsP k (b.take j)).map rowD) ∧ σ = [some (.ref r0), some (.int (k : Int)), some (.ref Ln), x3, x4])
    ⟨Ch.refl _ _, [], none, none, gL1, .nil, rfl⟩ (fun j σ H' _ h => SqT.of (h.1.tu _ _ gr1)) ?_ ?_⟩
  · rintro j x σ H' hx ⟨ch, acc, x3, x4, gL, tda, rfl⟩
    obtain ⟨dt, edt, tdv⟩ := (TDs.ch ch _ _ tdsa).at hx
    rw [blkData_eq, List.getElem?_map] at edt
    obtain ⟨s, hs, rfl⟩ := Option.map_eq_some_iff.mp edt
    have oks := ok s (List.mem_of_getElem? hs)
    have szs := size_mem (List.mem_of_getElem? hs)
    have la : acc.length ≤ 10000 := by
      rw [tda.len, List.length_map, rowsP_len]
      exact Nat.le_trans (size_take b j) hz
    have step : rowsP k (b.take (j + 1)) = rowsP k (b.take j) ++ staRows k s := by
      rw [List.take_add_one, hs]
      exact rowsP_snoc k s _
    refine ⟨_, rfl, .inl ⟨rfl, _, SqL.of gL⟩, _, rfl, _, rfl, line1000 (Nat.le_of_ble_eq_true rfl), fun t0 n0 => ?_⟩
    have s2 := Same.up (o := HO.tup [V.int (k : Int), x]) n0
    have gt : upd H' t0 (HO.tup [V.int (k : Int), x]) t0 = some (.tup [V.int (k : Int), x]) := upd_same
    have gL2 := s2 _ _ gL
    have c2 := ch.trans (Ch.same (S := [Ln]) s2)
    have tda2 := TDs.ch (Ch.same (S := []) s2) _ _ tda
    have tdx2 := TD.ch (Ch.same (S := []) s2) _ _ tdv
    generalize upd H' t0 (HO.tup [V.int (k : Int), x]) = H2 at s2 gt gL2 c2 tda2 tdx2 ⊢
    refine ⟨Ln, _, _, rfl, rfl, gL2, lt_line (by omega), ?_⟩
    have c3 : Ch [Ln] H2 (upd H2 Ln (.lst (acc ++ [.ref t0]))) := (Ch.refl _ _).put (by simp) gL2 (fun xs z => by cases z)
    have gL3 : upd H2 Ln (.lst (acc ++ [.ref t0])) Ln = some (.lst (acc ++ [.ref t0])) := upd_same
    have tda3 : TDs (upd H2 Ln (.lst (acc ++ [.ref t0]))) (acc ++ [.ref t0]) ((rowsP k (b.take j) ++ [(k, s)]).map rowD) := by
      rw [List.map_append]
      exact (TDs.ch c3 _ _ tda2).snoc (.tup (c3.tu _ _ gt) (.cons (.int _) (.cons (TD.ch c3 _ _ tdx2) .nil)))
    have tdx3 := TD.ch c3 _ _ tdx2
    have c23 := c2.trans c3
    generalize upd H2 Ln (.lst (acc ++ [.ref t0])) = H3 at c3 gL3 tda3 tdx3 c23 ⊢
    refine ⟨_, rfl, x, s, rfl, tdx3, fun H4 p ps s4 gp tdp => ?_⟩
    have lps : ps.length = (partsOf s).length := by rw [tdp.len, List.length_map]
    refine ⟨p, rfl, ⟨_, SqT.of gp⟩, for_tup (xs := ps) (fun i σ H' => Ch [Ln] H4 H' ∧ ∃ (ac : List V) (x4 : Option V), H' Ln = some (.lst ac) ∧ TDs H' ac ((rowsP k (b.take j) ++ [(k, s)] ++ accR k (partsOf s) i).map rowD) ∧ σ = [some (.ref r0), some (.int (k : Int)), some (.ref Ln), some x, x4])
      ⟨Ch.refl _ _, acc ++ [.ref t0], x4, s4 _ _ gL3, ?_, rfl⟩ (fun i σ H' _ h => SqT.of (h.1.tu _ _ gp)) ?_ ?_⟩
    · show TDs H4 _ ((rowsP k (b.take j) ++ [(k, s)] ++ []).map rowD)
      rw [List.append_nil]
      exact TDs.ch (Ch.same (S := []) s4) _ _ tda3
    · rintro i y σ H5 hy ⟨c5, ac, y4, gL5, td5, rfl⟩
      obtain ⟨dp, edp, tdy⟩ := (TDs.ch c5 _ _ tdp).at hy
      rw [List.getElem?_map] at edp
      obtain ⟨pb, hpb, rfl⟩ := Option.map_eq_some_iff.mp edp
      obtain ⟨d', rfl, okb, szb⟩ := parts_nest oks hpb
      have lac : ac.length ≤ 20001 := by
        have e1 := accR_le k s i
        have e2 := rowsP_len k (b.take j)
        have e3 := size_take b j
        rw [td5.len, List.length_map, List.length_append, List.length_append]
        show _ + 1 + _ ≤ 20001
        omega
      refine ⟨_, rfl, .inl ⟨rfl, _, SqL.of gL5⟩, _, rfl, _, rfl, _, _, rfl, rfl, fun z ez => ⟨y, pb, k + 1, by rw [show z = ((k + 1 : Nat) : Int) by omega]; rfl, tdy, okb, by omega, fun H6 qa zs s6 nq gq tdq => ⟨Ln, qa, _, _, rfl, rfl, s6 _ _ gL5, gq, Nat.le_of_lt (lt_line (by
        have e4 := rowsP_len (k + 1) pb
        rw [tdq.len, List.length_map]
        omega)), ?_⟩⟩⟩
      have c7 : Ch [Ln] H6 (upd H6 Ln (.lst (ac ++ zs))) := (Ch.refl _ _).put (by simp) (s6 _ _ gL5) (fun xs z => by cases z)
      refine ⟨c5.trans ((Ch.same s6).trans c7), ac ++ zs, _, upd_same, ?_, rfl⟩
      rw [accR_succ hpb, ← List.append_assoc, List.map_append]
      exact TDs.ch c7 _ _ ((TDs.ch (Ch.same (S := []) s6) _ _ td5).append tdq)
    · rintro σ H5 ⟨c5, ac, y4, gL5, td5, rfl⟩
      refine ⟨c23.trans ((Ch.same s4).trans c5), ac, _, _, gL5, ?_, rfl⟩
      rw [lps] at td5
      rw [step, staRows_acc, ← List.singleton_append, ← List.append_assoc]
      exact td5
  · rintro σ H' ⟨ch, acc, x3, x4, gL, tda, rfl⟩
    have lx : xs.length = b.length := by rw [tds.len, blkData_eq, List.length_map]
    rw [lx, List.take_length] at tda
    refine ⟨_, rfl, q H' Ln acc ?_ nLn gL tda⟩
    exact (Ch.lessS (S := []) ((Ch.same s1).trans ch) (fun a z => .inr (by rw [List.mem_singleton.mp z]; exact nLn))).kp.toSame
theorem ok_roAll {f fB : Addr} {fd dB : FuncData} (D : Df K mg "rows_of" s_rows_of ["block", "depth"] f fd)
    (DB : Df K mg "blocks_of" s_blocks_of ["statement"] fB dB) (GB : FnOk P w K mg base CX0 1 fB dB ["statement"] spBO) : FnOk P w K mg base CX0 7 f fd ["block", "depth"] (spRO 5) := by
  have Z : FnOk P w K mg base CX0 1 f fd ["block", "depth"] (spRO' 0) := ⟨fun _ _ _ _ h => h.elim, fun _ _ _ _ _ _ _ _ _ _ _ _ _ h => h.elim⟩
  have B0 := ok_ro (d := 0) D.F DB GB D.m D.F.kp D.b (by decide) Z
  have B1 := ok_ro (d := 1) D.F DB GB D.m D.F.kp D.b (by decide) B0
  have B2 := ok_ro (d := 2) D.F DB GB D.m D.F.kp D.b (by decide) B1
  have B3 := ok_ro (d := 3) D.F DB GB D.m D.F.kp D.b (by decide) B2
  have B4 := ok_ro (d := 4) D.F DB GB D.m D.F.kp D.b (by decide) B3
  exact ok_ro (d := 5) D.F DB GB D.m D.F.kp D.b (by decide) B4
end
end G

set_option Elab.async false
set_option linter.all false
set_option maxRecDepth 100000
set_option maxHeartbeats 4000000
/-! each_statement; places; wishes. -/
namespace G
open PySem PySem.Spec PyProof.Rows L2
def esR (b : List Sta) : Nat → V → Hp → Prop := fun i x H' => ∃ (t : Addr) (u : V) (p : Nat × Sta), (rowsP 0 b)[i]? = some p ∧ x = .ref t ∧ H' t = some (.tup [.int (i : Int), .int (p.1 : Int), u]) ∧ TD H' u p.2.data
def spES : SpY := fun vs H n R Ed => ∃ (v : V) (g : Int) (b : List Sta), vs = [v] ∧ TD H v (.tuple [.int g, partD b]) ∧ (∀ s ∈ b, NestOk 5 s) ∧ sizeB b ≤ 10000 ∧ n = (rowsP 0 b).length ∧ R = esR b ∧ Ed = fun H' => Same H H'
section
variable {P : Program} {w : World} {K : PySem.W.Frag} {mg : Str → Option Value} {base : Heap}
abbrev s_each_statement : Stmt := top 33
abbrev n_each_statement : List Str := ["program", "place", "depth", "statement"]
theorem sc_each_statement : GScope n_each_statement ["program"] (defScope s_each_statement) := ⟨rfl, rfl, rfl, by decide +kernel, rfl, by decide +kernel, by decide +kernel⟩
theorem ok_es {f fR : Addr} {fd dR : FuncData} (F : Fun K "each_statement" "each_statement" s_each_statement f fd) (z_enum : mg "enumerate" = none)
    (DR : Df K mg "rows_of" s_rows_of ["block", "depth"] fR dR) (GR : FnOk P w K mg base CX0 7 fR dR ["block", "depth"] (spRO 5)) : GnOk P w K mg base 8 f fd ["program"] spES := by
  refine gen_def F sc_each_statement (fun vs H n R Ed ⟨v, g, b, ev, _⟩ => by rw [ev]; rfl) (fun cdv A outer s H vs n R Ed pn hr ⟨v, g, b, ev, td, ok, hz, en, eR, eE⟩ => ?_)
  subst ev en eR eE
  refine ⟨_, _, _, _, _, _, _, _, _, rfl, pi_enum (by rfl) z_enum (pa_cons (pe_call GR hr (by rfl) DR.m DR.F.kp DR.b .nil pass0 (pa_cons (pe_ix ix_tup (pv 0) pe_int (fun _ _ => rfl)) (pa_cons pe_int pa_nil))) pa_nil),
    pg_tup rfl (pgs_cons (pg_name (i := 1) sc_each_statement.nd rfl (.inl rfl)) (pgs_cons (pg_tup rfl (pgs_cons (pg_name (i := 2) sc_each_statement.nd rfl (.inl rfl)) (pgs_cons (pg_name (i := 3) sc_each_statement.nd rfl (.inl rfl)) pgs_nil))) pgs_nil)),
    pe_tup (pa_cons (pv 1) (pa_cons (pv 2) (pa_cons (pv 3) pa_nil))), fun _ => rfl, ?_⟩
  obtain ⟨r0, xs, rfl, gr0, e0⟩ := td_tup td
  obtain ⟨v1, ys, rfl, d1, e1⟩ := tds_cons e0
  cases d1
  obtain ⟨v2, rfl, d2⟩ := tds1 e1
  refine ⟨_, rfl, r0, _, _, _, rfl, rfl, SqT.of gr0, atI_nat (j := 1) rfl, v2, b, 0, rfl, d2, ok, hz, fun H2 pl zs s2 np gp tdz => ⟨pl, zs, rfl, SqL.of gp, fun i σ H' => i ≤ (rowsP 0 b).length ∧ Same H2 H' ∧ ∃ x1 x2 x3 : Option V, σ = [some (.ref r0), x1, x2, x3], ⟨Nat.zero_le _, Same.refl _, none, none, none, rfl⟩, ?_⟩⟩
  have lz : zs.length = (rowsP 0 b).length := by rw [tdz.len, List.length_map]
  rintro i σ H' ⟨hi, sm, x1, x2, x3, rfl⟩
  by_cases hlt : i < (rowsP 0 b).length
  · refine .inr ⟨hlt, ⟨zs, zs[i]'(by omega), SqL.of (sm _ _ gp), List.getElem?_eq_getElem (by omega)⟩, ?_⟩
    rintro v H3 ⟨T, x, rfl, nT, rfl, hx⟩
    have hx : zs[i]? = some x := hx zs (SqL.of (sm _ _ gp))
    have s3 := Same.up (o := HO.tup [V.int (i : Int), x]) nT
    have gT : upd H' T (HO.tup [V.int (i : Int), x]) T = some (.tup [V.int (i : Int), x]) := upd_same
    generalize upd H' T (HO.tup [V.int (i : Int), x]) = H3 at s3 gT ⊢
    obtain ⟨dt, edt, tdv⟩ := (TDs.ch (Ch.same (S := []) (Same.trans sm s3)) _ _ tdz).at hx
    rw [List.getElem?_map] at edt
    obtain ⟨p, hp, rfl⟩ := Option.map_eq_some_iff.mp edt
    obtain ⟨tx, xs2, rfl, gtx, ex⟩ := td_tup tdv
    obtain ⟨u1, xs3, rfl, du1, ex2⟩ := tds_cons ex
    cases du1
    obtain ⟨u2, rfl, du2⟩ := tds1 ex2
    refine ⟨T, _, rfl, SqT.of gT, rfl, _, _, rfl, _, _, rfl, ⟨tx, _, rfl, SqT.of gtx, rfl, _, _, rfl, _, _, rfl, rfl, rfl, ?_⟩⟩
    refine ⟨_, rfl, _, rfl, _, rfl, line1000 (Nat.le_of_ble_eq_true rfl), fun t nt => ⟨⟨t, u2, p, hp, rfl, upd_same, TD.ch (Ch.same (S := []) (Same.up nt)) _ _ du2⟩, hlt, Same.trans sm (Same.trans s3 (Same.up nt)), _, _, _, rfl⟩⟩
  · obtain rfl : i = (rowsP 0 b).length := by omega
    exact .inl ⟨rfl, ⟨zs, SqL.of (sm _ _ gp), by omega⟩, Same.trans s2 sm⟩
end
end G

set_option Elab.async false
set_option linter.all false
set_option maxRecDepth 100000
set_option maxHeartbeats 4000000
/-! The same generator defs, drained by list(..): what was handed out is remembered. -/
namespace G
open PySem PySem.Spec PyProof.Rows L2 GenW
section
variable {X : Cx} {S : Addr} {A : Around} {n : Nat}
theorem list_loop {tg e : Expr} {yp ypos : Pos} {g : TG} {te : TE} {J : It} {it : Addr} {fp : List Addr} {tn : Nat → Heap → Prop} {p0 : Pos} {Fx : Value → Sem Unit} {Ws : Nat → List V → L2.St → Hp → Prop} {Qe : List V → Hp → Prop} {K0 : Flow → Sem PySem.Fin} {Jx : Value → Sem PySem.Fin} {bd : List Stmt}
    (hK0 : K0 .next = .pure (.done (.ret .none)))
    (hxe : ∀ e s, ¬ X.xe e s) (hc : X.calm = true) (T : Turn X.prog X.w X.K tg J fp it tn) (hg : PG X tg g) (he : PE X e te) (hpn : ∀ p ∈ X.pn, p.1 ≠ S) (hap : Apart X S)
    (hA : A.deeper X.env = X.A) (hco : X.env.scope.isCoroutine = false) (hin : interactive X.env = false)
    (hfp : ∀ b ∈ fp, b ≠ X.env.locals ∧ b ∉ X.fs ∧ (b ∈ X.ex ∨ X.s_0.heap.objs.size ≤ b) ∧ (∀ x c, X.env.cells.lookup x = some c → c ≠ b) ∧ (∀ p ∈ X.pn, p.1 ≠ b) ∧ b ≠ S) (hnt : n < sizeLine)
    (step : ∀ i ys σ H, Ws i ys σ H → (i = n ∧ J.stop i H ∧ Qe ys H) ∨ (i < n ∧ J.go i H ∧ ∀ x H', J.yld i H x H' → g x σ H' fun σ2 H2 => te σ2 H2 fun y H3 => Ws (i + 1) (ys ++ [y]) σ2 H3)) :
    ∀ (k i m : Nat) (s₀ s : Shared) (σ : L2.St) (H : Hp) (ys : List V) (ip : List (Addr × Obj)), k + i = n → ys.length = i → m + i = sizeLine → (∀ p ∈ ip, p.1 ≠ S ∧ (p.1 ∈ fp)) → Ws i ys σ H → GI X S ip ys σ H s → tn i s.heap → (∀ b ∈ fp, H b = none) →
      Seg (model X.prog X.w) A (GR X S (fun ys v H => v = .non ∧ Qe ys H) fun _ _ => False) (GY X S) m s₀ (.forLoop tg (.ref it) [.Expr (.Yield (some e) yp) ypos] [] X.env) ((model X.prog X.w).den (.forLoop tg (.ref it) [.Expr (.Yield (some e) yp) ypos] [] X.env))
        [.ret (fun r => ((match r with | .ok f => (.pure f : Sem Flow) | .error e => .raise e).onRaise Fx).wrap K0 Jx id id) none (id false) (id []) (.func bd X.env) p0 []] s := by
  intro k
  have ov : ∀ {kk : Result → Sem PySem.Fin} {c' : Code}, c'.weight = 0 → c'.cUnits = 0 → A.over c' [.ret kk none (id false) (id []) (.func bd X.env) p0 []] = X.A := fun hw hu => (over_loop hw hu).trans (over_func.trans hA)
  have drop : ∀ {ip : List (Addr × Obj)} {acc : Array Value} {c : Nat} {σ : L2.St} {H : Hp} {s : Shared}, Inv X ((S, lstObj acc c) :: ip) σ H s → Inv X [(S, lstObj acc c)] σ H s := fun I => I.pins_of fun p hp => I.pin p (List.mem_append_right _ (by rw [List.mem_singleton.mp hp]; exact List.mem_cons_self))
  have stat : ∀ {acc : Array Value} {c : Nat} {H : Hp}, (∀ b ∈ fp, H b = none) → ∀ b ∈ fp, FpOk X [(S, lstObj acc c)] H b := fun {acc c H} hn b hb => by
    obtain ⟨f1, f2, f3, f4, f5, f6⟩ := hfp b hb
    refine ⟨hn b hb, f1, f2, f3, f4, fun p hp => ?_⟩
    rcases List.mem_append.mp hp with q | q
    · exact f5 p q
    · rw [List.mem_singleton.mp q]; exact fun z => f6 z.symm
  induction k with
  | zero =>
    intro i m s₀ s σ H ys ip hi hl hm hip hW ⟨acc, c, ra, I⟩ st fr
    rcases step i ys σ H hW with ⟨ei, stop, ed⟩ | ⟨lt, _⟩
    · refine seg_turn (Kx := _) (fun f => rfl) ?_
      rw [ov rfl rfl]
      refine nofail (wpAny_mono (T.done X rfl rfl rfl hc i _ s σ H (fun _ _ => False) (drop I) (stat fr) st stop) (fun r s1 ⟨hr, I1⟩ => ?_) fun _ _ z => z)
      subst hr
      refine seg_leaf (.ok .next) ?_
      show Seg _ _ _ _ _ _ _ (K0 .next) _ _
      rw [hK0]
      exact seg_end (.ok (.ret .none)) ⟨ys, .non, [], σ, H, by omega, ⟨acc, c, ra, I1⟩, rfl, rfl, ed⟩
    · omega
  | succ k ih =>
    intro i m s₀ s σ H ys ip hi hl hm hip hW ⟨acc, c, ra, I⟩ st fr
    rcases step i ys σ H hW with ⟨ei, _⟩ | ⟨lt, go, nxt⟩
    · omega
    obtain ⟨m, rfl⟩ : ∃ m', m = m' + 1 := ⟨m - 1, by omega⟩
    refine seg_turn (Kx := _) (fun f => rfl) ?_
    rw [ov rfl rfl]
    refine nofail (wpAny_mono (T.item X rfl rfl rfl hc i _ s σ H (fun _ _ => False) (drop I) (stat fr) st go) (fun r s1 ⟨u, hr, h1⟩ => ?_) fun _ _ z => z)
    subst hr
    refine nofail (wpAny_mono h1 (fun _ s2 ⟨x, H2, I2, r2, y2, st2, fr2⟩ => ?_) fun _ _ z => z)
    have I2' := I2.pinned (stat fr2) (T.obj _ _ st2)
    refine wpAny_mono (hg.run _ s2 σ H2 x u _ I2' r2 (nxt x H2 y2)) (fun _ s3 ⟨σ3, H3, I3, q3⟩ => ?_) fun e s z => hxe e s z
    intro Hx
    refine seg_execs_cons ?_
    refine seg_Expr_Yield rfl rfl rfl ?_ hco hin
    rw [ov rfl rfl]
    refine wpAny_mono (he.run _ s3 σ3 H3 _ I3 q3) (fun v s4 ⟨y, H4, I4, r4, w4⟩ => ?_) fun e s z => (hxe e s z).elim
    intro kap hk
    have hip' : ∀ p ∈ pinsAt fp s2.heap, p.1 ≠ S ∧ p.1 ∈ fp := fun p hp => ⟨(hfp _ (of_pinsAt hp).1).2.2.2.2.2, (of_pinsAt hp).1⟩
    have G4 : GI X S (pinsAt fp s2.heap) ys σ3 H4 s4 := ⟨acc, c, ra, I4⟩
    refine ⟨ys, y, _, σ3, H4, by omega, r4, G4, fun s5 rs => hk .none s5 ?_⟩
    have G5 := G4.woken hpn (fun p hp => (hip' p hp).1) hap r4 rs
    have pin5 : ∀ b ∈ fp, ∀ o, s2.heap.get? b = some o → s5.heap.get? b = some o ∧ H4 b = none := fun b hb o eo =>
      let ⟨_, _, _, I5⟩ := G5
      let z := I5.pin (b, o) (List.mem_append_right _ (List.mem_cons_of_mem _ (mem_pinsAt hb eo)))
      ⟨z.1, z.2.1⟩
    refine seg_again rfl (ih (i + 1) m s5 s5 σ3 H4 (ys ++ [y]) _ (by omega) (by rw [List.length_append, hl]; rfl) (by omega) hip' w4 G5 (T.keep _ _ _ st2 fun b hb o eo => (pin5 b hb o eo).1) fun b hb => ?_)
    obtain ⟨o, eo, _⟩ := T.obj _ _ st2 b hb
    exact (pin5 b hb o eo).2
end
end G

set_option Elab.async false
set_option linter.all false
set_option maxRecDepth 100000
set_option maxHeartbeats 4000000
/-! Such a generator def's promise to list(..). -/
namespace G
open PySem PySem.Spec PyProof.Rows L2 GenW
def OneLoopL (X : Cx) (bd : List Stmt) (σ0 : L2.St) (H : Hp) (Qe : List V → Hp → Prop) : Prop := ∃ (n : Nat) (tg iter e : Expr) (yp ypos pos : Pos) (wi : TI) (g : TG) (te : TE), n < sizeLine ∧ bd = [.For tg iter [.Expr (.Yield (some e) yp) ypos] [] pos] ∧
  PI X tg iter wi ∧ PG X tg g ∧ PE X e te ∧ (∀ x, foldedSetIterable iter X.env x = pure x) ∧ wi σ0 H fun J H1 => ∃ Ws : Nat → List V → L2.St → Hp → Prop, Ws 0 [] σ0 H1 ∧
    ∀ i ys σ H, Ws i ys σ H → (i = n ∧ J.stop i H ∧ Qe ys H) ∨ (i < n ∧ J.go i H ∧ ∀ x H', J.yld i H x H' → g x σ H' fun σ2 H2 => te σ2 H2 fun y H3 => Ws (i + 1) (ys ++ [y]) σ2 H3)
theorem gfn_def {P : Program} {w : World} {K : PySem.W.Frag} {mg : Str → Option Value} {base : Heap} {x qual : Str} {st : Stmt} {f : Addr} {fd : FuncData} {N ps : List Str} {k : Nat} {sp : SpG} (F : Fun K x qual st f fd) (S : GScope N ps (defScope st))
    (len : ∀ vs H Q E, sp vs H Q E → vs.length = ps.length)
    (body : ∀ (cdv : Value) (A : Around) (outer : List Env) (s : Shared) (H : Hp) (vs : List V) (Q : List V → Hp → Prop) (E : XK) (pn : List (Addr × Obj)), Room k (A.deeper (envOfC qual (defScope st) s.heap.objs.size f cdv)) → sp vs H Q E →
      OneLoopL (gx P w K mg base N qual (defScope st) f cdv A outer s H pn) (defBody st) (start N vs) H Q) : GFn P w K mg base (k + 1) f fd ps sp := by
  obtain ⟨oc, od, kV, doc, pm, an, cdv, ct, osl, rfl, lk, hcd⟩ := F.ex
  refine ⟨len, fun A outer s H args us vs Q E hr e0 hb r hsp => ?_⟩
  have nvs := len _ _ _ _ hsp
  have old : ∀ b o, base.get? b = some o → s.heap.get? b = some o := fun b o e => (e0.bs b o e).1
  have kin : K.In s.heap := e0.mod.kin.keeps old
  have nol : s.heap.NoLimit := e0.mod.nolimit.keeps old
  have kinds : ∀ y ∈ ps.zip us, (defScope st).names.lookup y.1 = some .local ∨ ((defScope st).names.lookup y.1 = some .cell ∧
      ((cellsFrom (s.heap.objs.size + 1) (defScope st).names []).lookup y.1).isSome = true) := by
    rintro ⟨z, v⟩ hy
    cases S.par z (List.of_mem_zip hy).1 with
    | inl q => exact Or.inl q
    | inr q => exact Or.inr ⟨q, PySem.W.cellsFrom_some _ _ _ (Or.inl q)⟩
  refine codeAny_call_generator hr.depth (kin _ _ lk) rfl S.co S.gen rfl (PySem.W.codeRec_of kin hcd) (hb _ _ _ _ ?_)
  refine wpAny_newFunctionEnv_cells S.kind kinds fun env he s1 x1 => ?_
  subst he
  refine ⟨nol.keeps x1.toInCall.keep, ?_⟩
  have grow : ∀ b o, s.heap.get? b = some o → s1.heap.get? b = some o := x1.toInCall.keep
  have above : s.heap.objs.size < s1.heap.objs.size := x1.toInCall.ns.lt
  obtain ⟨os1, gens1⟩ : s1.os = s.os ∧ s1.gens = s.gens := by
    obtain ⟨_, _, z, _⟩ := x1.done
    rw [z]
    exact ⟨rfl, rfl⟩
  have made : ∀ (og : Obj) (v1 v2 : Value) (tt : Nat), og.cls = .type "generator" → og.data = .fields #[.int s1.gens.size 0, v1, v2] → og.slots = #[] → (∀ hp : Heap, (hp.push og).get? hp.objs.size = some og) →
      GMade P w (k + 1) outer H s [] Q E (.ref s1.heap.objs.size) { s1 with gens := s1.gens.push (.fresh (.func (defBody st) (envOfC qual (defScope st) s.heap.objs.size f cdv))), toks := tt, heap := s1.heap.push og } := by
    intro og v1 v2 tt c1 c2 c3 c4
    have is : ∀ {hp : Heap}, hp.get? s1.heap.objs.size = some og → hp.IsGen s1.heap.objs.size s1.gens.size := fun {hp} e => ⟨og, v1, v2, e, c1, c2, c3⟩
    refine ⟨_, _, _, rfl, Nat.le_of_lt above, ?_, is (c4 _), Array.getElem?_push_size .., os1, AllBare.push (by rw [gens1]; exact e0.bare) rfl, (nol.keeps grow).keeps fun b o e => Heap.get?_push_of_some _ e, fun b o e => Heap.get?_push_of_some _ (grow b o e), ?_⟩
    · show _ < (s1.heap.push og).objs.size
      rw [Heap.size_push]
      exact Nat.lt_succ_self _
    intro B D s2 roomB framesB youngD keep2 objD os2 bare2
    have e0B : Env0 P w K mg base B outer s H := { frames := framesB, mod := e0.mod, bs := e0.bs, bsz := e0.bsz, funs := e0.funs, frf := e0.frf, hok := e0.hok, bare := e0.bare }
    have Ia := inv_startG (E := E0) S roomB.hd e0B nvs r x1
    have at2 : s2.heap.get? s1.heap.objs.size = some og := keep2 _ _ (c4 _)
    have Ib := Ia.call' (s' := s2) (ch := []) (os2.trans os1.symm) (Un.kept fun b o e => keep2 b o (Heap.get?_push_of_some _ e)) (Ia.hok.kept fun b o e => keep2 b o (Heap.get?_push_of_some _ e)) bare2 (fun b z => nomatch z)
    have fresh1 : ∀ b, s1.heap.objs.size ≤ b → H b = none ∧ b ≠ s.heap.objs.size ∧ b ∉ frs outer ∧ s.heap.objs.size ≤ b ∧ ∀ y c, (cellsFrom (s.heap.objs.size + 1) (defScope st).names []).lookup y = some c → c ≠ b := fun b hb =>
      ⟨Ia.hok.fresh hb, Nat.ne_of_gt (Nat.lt_of_lt_of_le above hb), Ia.nofs hb, Nat.le_trans (Nat.le_of_lt above) hb, fun y c e z => by
        obtain ⟨vv, ob, ho, _⟩ := Ia.cell y c e
        exact absurd (Nat.lt_of_lt_of_le (Heap.lt_size ho) (z ▸ hb)) (Nat.lt_irrefl _)⟩
    have up : s1.heap.objs.size + 1 ≤ D := by
      have q : (s1.heap.push og).objs.size ≤ D := youngD
      rw [Heap.size_push] at q
      exact q
    obtain ⟨cD, eD⟩ := objD
    obtain ⟨d1, d2, d3, d4, d5⟩ := fresh1 D (Nat.le_of_succ_le up)
    have I : Inv (gx P w K mg base N qual (defScope st) f cdv B outer s H [(s1.heap.objs.size, og)]) [(D, lstObj #[] cD)] (start N vs) H s2 := gx_inv Ib fun p hp => by
      rcases List.mem_append.mp hp with q | q
      · rw [List.mem_singleton.mp q]
        obtain ⟨y1, y2, y3, _⟩ := fresh1 _ (Nat.le_refl s1.heap.objs.size)
        exact ⟨at2, y1, y2, y3, fun v z => by rw [c2] at z; cases z⟩
      · rw [List.mem_singleton.mp q]
        exact ⟨eD, d1, d2, d3, fun v z => by cases z⟩
    have neD : s1.heap.objs.size ≠ D := fun z => Nat.not_succ_le_self _ (Nat.le_trans up (Nat.le_of_eq z.symm))
    have hpn : ∀ p ∈ [(s1.heap.objs.size, og)], p.1 ≠ D := fun p hp => by rw [List.mem_singleton.mp hp]; exact neD
    obtain ⟨n, tg, iter, e, yp, ypos, pos, wi, g, te, few, eb, hi, hg, he, hf, hw⟩ := body cdv B outer s H vs Q E [(s1.heap.objs.size, og)] (roomB.deeper _) hsp
    have Gen : ∀ {ip : List (Addr × Obj)} {acc : Array Value} {c : Nat} {σ' : L2.St} {H' : Hp} {s' : Shared}, Inv (gx P w K mg base N qual (defScope st) f cdv B outer s H [(s1.heap.objs.size, og)]) ((D, lstObj acc c) :: ip) σ' H' s' → s'.heap.IsGen s1.heap.objs.size s1.gens.size := fun J => is (J.pin (s1.heap.objs.size, og) (List.mem_append_left _ (List.mem_singleton.mpr rfl))).1
    refine seg_imp (R := GR (gx P w K mg base N qual (defScope st) f cdv B outer s H [(s1.heap.objs.size, og)]) D (fun ys v H' => v = .non ∧ Q ys H') fun _ _ => False) (Y := GY (gx P w K mg base N qual (defScope st) f cdv B outer s H [(s1.heap.objs.size, og)]) D) (fun m s₀ rr sx hR => ?_) (fun m s₀ v sx kap kap' up' hY => ?_) sizeLine ?_
    · rcases rr with _ | fl
      · exact False.elim hR
      cases fl with
      | ret u =>
        obtain ⟨ys, v, ip, σ', H', hn, hI, rv, ev, hQ⟩ := hR
        subst ev
        obtain rfl : u = Value.none := rv
        obtain ⟨a1, _, _, acc, cc, ra, ea⟩ := hI.at
        obtain ⟨_, _, _, J⟩ := hI
        exact .inl ⟨.inl rfl, H', ys, acc, cc, J.os, J.bare, J.base, J.hok, a1, ea, ra, by omega, hQ⟩
      | _ => exact False.elim hR
    · obtain ⟨ys, xx, ip, σ', H', hn, h2, hI, h3⟩ := hY
      obtain ⟨_, _, _, acc, cc, ra, ea⟩ := hI.at
      obtain ⟨_, _, _, J⟩ := hI
      have sz : acc.size = ys.length := ra.length.symm.trans rfl ▸ (by simpa using ra.length.symm)
      exact ⟨J.os, J.bare, J.nolimit, Gen J, ⟨acc, cc, ea, by rw [sz]; exact hn⟩, fun s' z => up' _ _ (h3 s' z)⟩
    · rw [eb]
      refine seg_func (seg_execs_cons (seg_forStmt hf ?_))
      rw [over_func]
      refine wpAny_mono (hi.run _ s2 (start N vs) H _ I hw) (fun xv s3 h3 => wpAny_mono h3 (fun itv s4 h4 => ?_) fun _ _ q => q) fun _ _ q => q
      obtain ⟨it, fp, tn, J, H4, ei, I4, T, st4, f4, Ws, w0, step⟩ := h4
      subst ei
      intro p0 Fx
      refine list_loop rfl (fun _ _ q => q) rfl T hg he hpn ⟨d4, d2, d5⟩ rfl S.co (by show ((defScope st).kind == .module && _) = false; rw [S.kind]; rfl) (fun b hb => ?_) few step n 0 sizeLine s2 s4 _ H4 [] [] (Nat.add_zero _) rfl (Nat.add_zero _) (fun p hp => absurd hp List.not_mem_nil) w0 ⟨#[], cD, .nil, I4⟩ st4 fun b hb => (f4 b hb).1
      obtain ⟨f0, f1, f2, f3, f5, f6⟩ := f4 b hb
      exact ⟨f1, f2, f3, f5, fun p hp => f6 p (List.mem_append_left _ hp), fun z => f6 (D, lstObj #[] cD) (List.mem_append_right _ (List.mem_singleton.mpr rfl)) z.symm⟩
  exact made _ _ _ _ rfl rfl rfl fun hp => Heap.get?_push_size _ rfl
end G

set_option Elab.async false
set_option linter.all false
set_option maxRecDepth 100000
set_option maxHeartbeats 4000000
/-! each_statement, drained by list(..). -/
namespace G
open PySem PySem.Spec PyProof.Rows L2
/-- the rows (place, depth, statement) from place i on, as data -/
def plD (i : Nat) (p : Nat × Sta) : PyData := .tuple [.int (i : Int), .int (p.1 : Int), p.2.data]
def rowsD : Nat → List (Nat × Sta) → List PyData
  | _, [] => []
  | i, p :: r => plD i p :: rowsD (i + 1) r
theorem rowsD_len : ∀ (i : Nat) (l : List (Nat × Sta)), (rowsD i l).length = l.length
  | _, [] => rfl
  | i, p :: r => congrArg (· + 1) (rowsD_len (i + 1) r)
theorem rowsD_snoc : ∀ (i : Nat) (l : List (Nat × Sta)) (p : Nat × Sta), rowsD i (l ++ [p]) = rowsD i l ++ [plD (i + l.length) p]
  | _, [], _ => rfl
  | i, x :: r, p => by
    show plD i x :: rowsD (i + 1) (r ++ [p]) = _
    rw [rowsD_snoc (i + 1) r p]
    show _ = plD i x :: (rowsD (i + 1) r ++ [plD (i + (r.length + 1)) p])
    rw [show i + 1 + r.length = i + (r.length + 1) from by omega]
theorem rowsD_take {l : List (Nat × Sta)} {i : Nat} {p : Nat × Sta} (e : l[i]? = some p) : rowsD 0 (l.take (i + 1)) = rowsD 0 (l.take i) ++ [plD i p] := by
  have lt : i < l.length := (List.getElem?_eq_some_iff.mp e).1
  rw [List.take_add_one, e]
  show rowsD 0 (l.take i ++ [p]) = _
  rw [rowsD_snoc, List.length_take, Nat.zero_add, Nat.min_eq_left (Nat.le_of_lt lt)]
def spEL : SpG := fun vs H Q E => ∃ (v : V) (g : Int) (b : List Sta), vs = [v] ∧ TD H v (.tuple [.int g, partD b]) ∧ (∀ s ∈ b, NestOk 5 s) ∧ sizeB b ≤ 10000 ∧ ∀ (H' : Hp) (out : List V), Same H H' → TDs H' out (rowsD 0 (rowsP 0 b)) → Q out H'
section
variable {P : Program} {w : World} {K : PySem.W.Frag} {mg : Str → Option Value} {base : Heap}
theorem ok_el {f fR : Addr} {fd dR : FuncData} (F : Fun K "each_statement" "each_statement" s_each_statement f fd) (z_enum : mg "enumerate" = none)
    (DR : Df K mg "rows_of" s_rows_of ["block", "depth"] fR dR) (GR : FnOk P w K mg base CX0 7 fR dR ["block", "depth"] (spRO 5)) : GFn P w K mg base 8 f fd ["program"] spEL := by
  refine gfn_def F sc_each_statement (fun vs H Q E ⟨v, g, b, ev, _⟩ => by rw [ev]; rfl) (fun cdv A outer s H vs Q E pn hr ⟨v, g, b, ev, td, ok, hz, q⟩ => ?_)
  subst ev
  have lz0 : (rowsP 0 b).length ≤ 10000 := by rw [rowsP_len]; exact hz
  refine ⟨(rowsP 0 b).length, _, _, _, _, _, _, _, _, _, lt_line (by omega), rfl, pi_enum (by rfl) z_enum (pa_cons (pe_call GR hr (by rfl) DR.m DR.F.kp DR.b .nil pass0 (pa_cons (pe_ix ix_tup (pv 0) pe_int (fun _ _ => rfl)) (pa_cons pe_int pa_nil))) pa_nil),
    pg_tup rfl (pgs_cons (pg_name (i := 1) sc_each_statement.nd rfl (.inl rfl)) (pgs_cons (pg_tup rfl (pgs_cons (pg_name (i := 2) sc_each_statement.nd rfl (.inl rfl)) (pgs_cons (pg_name (i := 3) sc_each_statement.nd rfl (.inl rfl)) pgs_nil))) pgs_nil)),
    pe_tup (pa_cons (pv 1) (pa_cons (pv 2) (pa_cons (pv 3) pa_nil))), fun _ => rfl, ?_⟩
  obtain ⟨r0, xs, rfl, gr0, e0⟩ := td_tup td
  obtain ⟨v1, ys, rfl, d1, e1⟩ := tds_cons e0
  cases d1
  obtain ⟨v2, rfl, d2⟩ := tds1 e1
  refine ⟨_, rfl, r0, _, _, _, rfl, rfl, SqT.of gr0, atI_nat (j := 1) rfl, v2, b, 0, rfl, d2, ok, hz, fun H2 pl zs s2 np gp tdz => ⟨pl, zs, rfl, SqL.of gp, fun i acc σ H' => i ≤ (rowsP 0 b).length ∧ Same H2 H' ∧ TDs H' acc (rowsD 0 ((rowsP 0 b).take i)) ∧ ∃ x1 x2 x3 : Option V, σ = [some (.ref r0), x1, x2, x3], ⟨Nat.zero_le _, Same.refl _, .nil, none, none, none, rfl⟩, ?_⟩⟩
  have lz : zs.length = (rowsP 0 b).length := by rw [tdz.len, List.length_map]
  rintro i acc σ H' ⟨hi, sm, tda, x1, x2, x3, rfl⟩
  by_cases hlt : i < (rowsP 0 b).length
  · refine .inr ⟨hlt, ⟨zs, zs[i]'(by omega), SqL.of (sm _ _ gp), List.getElem?_eq_getElem (by omega)⟩, ?_⟩
    rintro v H3 ⟨T, x, rfl, nT, rfl, hx⟩
    have hx : zs[i]? = some x := hx zs (SqL.of (sm _ _ gp))
    have s3 := Same.up (o := HO.tup [V.int (i : Int), x]) nT
    have gT : upd H' T (HO.tup [V.int (i : Int), x]) T = some (.tup [V.int (i : Int), x]) := upd_same
    have tda := TDs.ch (Ch.same (S := []) s3) _ _ tda
    generalize upd H' T (HO.tup [V.int (i : Int), x]) = H3 at s3 gT tda ⊢
    obtain ⟨dt, edt, tdv⟩ := (TDs.ch (Ch.same (S := []) (Same.trans sm s3)) _ _ tdz).at hx
    rw [List.getElem?_map] at edt
    obtain ⟨p, hp, rfl⟩ := Option.map_eq_some_iff.mp edt
    obtain ⟨tx, xs2, rfl, gtx, ex⟩ := td_tup tdv
    obtain ⟨u1, xs3, rfl, du1, ex2⟩ := tds_cons ex
    cases du1
    obtain ⟨u2, rfl, du2⟩ := tds1 ex2
    refine ⟨T, _, rfl, SqT.of gT, rfl, _, _, rfl, _, _, rfl, ⟨tx, _, rfl, SqT.of gtx, rfl, _, _, rfl, _, _, rfl, rfl, rfl, ?_⟩⟩
    refine ⟨_, rfl, _, rfl, _, rfl, line1000 (Nat.le_of_ble_eq_true rfl), fun t nt => ⟨hlt, Same.trans sm (Same.trans s3 (Same.up nt)), ?_, _, _, _, rfl⟩⟩
    rw [rowsD_take hp]
    exact (TDs.ch (Ch.same (S := []) (Same.up nt)) _ _ tda).snoc (.tup upd_same (.cons (.int _) (.cons (.int _) (.cons (TD.ch (Ch.same (S := []) (Same.up nt)) _ _ du2) .nil))))
  · obtain rfl : i = (rowsP 0 b).length := by omega
    rw [List.take_length] at tda
    exact .inl ⟨rfl, ⟨zs, SqL.of (sm _ _ gp), by omega⟩, q _ _ (Same.trans s2 sm) tda⟩
end
end G

set_option Elab.async false
set_option linter.all false
set_option maxRecDepth 100000
set_option maxHeartbeats 4000000
/-! Sets of texts: set(xs) of a list of texts; sorted of such a set. -/
noncomputable section
namespace G
open PySem PySem.Spec PyProof.Rows L2
/-- the set at a holds the texts l, all unlike -/
def TxSet (P : Program) (w : World) (h : Heap) (a : Addr) (l : List Str) : Prop :=
  ∃ D : Froz.SD, h.get? a = some (Froz.sObj "set" D) ∧ Froz.TxOk P w D l ∧ Ris D.2.2.place.toList ∧ (w.params.followText "set-order" = true ∨ D.2.2.led = true) ∧ l.Nodup
def putT (l : List Str) (k : Str) : List Str := if k ∈ l then l else k :: l
section
variable {P : Program} {w : World} {A : Around} {E : Value → Shared → Prop} {s : Shared} {h h' : Heap} {a : Addr} {l : List Str}
theorem TxSet.keep (R : TxSet P w h a l) (k : ∀ o, h.get? a = some o → h'.get? a = some o) : TxSet P w h' a l :=
  let ⟨D, e, r⟩ := R
  ⟨D, k _ e, r⟩
theorem putT_len (l : List Str) (k : Str) : (putT l k).length ≤ l.length + 1 := by unfold putT; split <;> simp
theorem putT_nd (l : List Str) (k : Str) (n : l.Nodup) : (putT l k).Nodup := by
  unfold putT; split
  · exact n
  · rename_i c; exact List.nodup_cons.mpr ⟨c, n⟩
theorem putT_mem (l : List Str) (k x : Str) : x ∈ putT l k ↔ x ∈ l ∨ x = k := by
  unfold putT; split
  · rename_i c; exact ⟨.inl, fun z => z.elim id fun e => e ▸ c⟩
  · rw [List.mem_cons]; exact Or.comm
theorem tail_ris (ep : Nat) (es : Array (Int × Value)) (t : SetTable) (b : Bool) (r : Ris t.place.toList) : Ris (Froz.tailTx ep es t b).2.2.place.toList := by
  unfold Froz.tailTx; split
  · exact relayAll_ris _ _ _
  · exact r
theorem tail_led (ep : Nat) (es : Array (Int × Value)) (t : SetTable) (b : Bool) : (Froz.tailTx ep es t b).2.2.led = t.led := by
  unfold Froz.tailTx; split
  · exact relayAll_led _ _ _
  · rfl
theorem txs_add {k : Str} {u : Tok} {Q : Bool → Shared → Prop} (R : TxSet P w s.heap a l) (hb : l.length + 1 < scanBound)
    (hq : ∀ b H', Heap.SameBut a s.heap H' → TxSet P w H' a (putT l k) → Q b { s with heap := H' }) : wpAny (model P w) A (setAddHashed a (.str k u) (hashStr w k)) Q E s := by
  obtain ⟨D, ho, F, r, ld, nd⟩ := R
  by_cases hk : k ∈ l
  · obtain ⟨es, ep, t⟩ := D
    have hd : (Froz.sObj "set" (es, ep, t)).data = .set es ep t := rfl
    have key : (strKind P w).is k (.str k u) = true := Froz.is_str k u
    have few : es.size < scanBound := by have := F.sz; dsimp only at this; omega
    unfold setAddHashed setAddHashedIn; refine wpAny_holding (wpAny_bind (wpAny_setState_of ho hd F.fit ?_))
    dsimp only; rw [byScan_of (x := .str k u) rfl few F.el]
    simp only [↓reduceIte]
    unfold setAddByScan; refine wpAny_bind (wpAny_bind (wpAny_rule (wpAny_bind (wpAny_setScan_of key ho hd F.fit F.el ?_))))
    cases e : List.findIdx? (fun e => (strKind P w).is k e.2) es.toList with
    | none =>
      obtain ⟨x, hx, c⟩ := (F.mem k).mp hk
      have z := List.findIdx?_eq_none_iff.mp e x hx
      rw [c] at z; cases z
    | some j =>
      dsimp only
      refine wpAny_pure (wpAny_pure (hq _ s.heap (Heap.SameBut.refl a s.heap) ?_))
      rw [putT, if_pos hk]
      exact ⟨_, ho, F, r, ld, nd⟩
  · refine Froz.add_x ho F hk hb (hq _ _ (Heap.SameBut.update s.heap a _) ⟨_, Froz.get_upd _ ho rfl, ?_, ?_, ?_, putT_nd l k nd⟩)
    · rw [putT, if_neg hk]; exact Froz.add_ok u F
    · unfold Froz.addTx; refine tail_ris _ _ _ _ ?_
      have z := layNew_ris D.2.2 D.1 (hashStr w k) (.str k u) r
      split <;> exact z
    · refine ld.imp id fun z => ?_
      have e := layNew_led D.2.2 D.1 (hashStr w k) (.str k u)
      unfold Froz.addTx; rw [tail_led]
      split
      · show (layNew D.2.2 D.1 (hashStr w k) (.str k u)).2.1.led = true
        rw [e]; exact z
      · rw [e]; exact z
end
/-- the texts met so far -/
def metT (xs : List Str) (i : Nat) : List Str := (xs.take i).foldl putT []
theorem metT_len (xs : List Str) : ∀ i, (metT xs i).length ≤ i
  | 0 => Nat.le_refl _
  | i + 1 => by
    unfold metT; rw [List.take_add_one, List.foldl_append]
    have ih := metT_len xs i
    unfold metT at ih
    cases xs[i]? with
    | none => exact Nat.le_succ_of_le ih
    | some x => exact Nat.le_trans (putT_len _ _) (Nat.succ_le_succ ih)
theorem metT_succ {xs : List Str} {i : Nat} {x : Str} (e : xs[i]? = some x) : metT xs (i + 1) = putT (metT xs i) x := by
  unfold metT; rw [List.take_add_one, List.foldl_append, e]; rfl
theorem fold_mem (xs : List Str) : ∀ (l : List Str) (k : Str), k ∈ xs.foldl putT l ↔ k ∈ l ∨ k ∈ xs := by
  induction xs with
  | nil => intro l k; simp
  | cons x xs ih => intro l k; rw [List.foldl_cons, ih, putT_mem, List.mem_cons, or_assoc]
theorem fold_nd (xs : List Str) : ∀ l : List Str, l.Nodup → (xs.foldl putT l).Nodup := by
  induction xs with
  | nil => intro l h; exact h
  | cons x xs ih => intro l h; exact ih _ (putT_nd l x h)
section
variable {P : Program} {w : World} {A : Around} {I : Addr} {fp wr : List Addr} {G : Array GenState → Array GenState → Prop} {n : Nat} {Pv : Nat → Value → Prop} {St : Nat → Shared → Prop} {R : Result → Shared → Prop}
theorem upd_loopT (W : WalksS P w A.in1 I fp wr G n Pv St) (S : Addr) (nS : S ∉ fp) (xs : List Str) (hb : n + 1 < scanBound) (val : ∀ i v, Pv i v → ∃ x t, xs[i]? = some x ∧ v = .str x t) :
    ∀ (m i : Nat) (s : Shared), n - i = m → i ≤ n → St i s → TxSet P w s.heap S (metT xs i) →
      (∀ s', Moved (S :: wr) G s s' → TxSet P w s'.heap S (metT xs n) → R (.ok (.ret .none)) s') → codeAny (model P w) A (.builtin "set.update.loop" ⟨[.ref S, .ref I], []⟩) R s
  | 0, i, s, hm, hi, st, T, fin => by
    obtain rfl : i = n := by omega
    have nW : S ∉ wr := fun z => nS (W.sub _ z)
    refine codeAny_builtin F.entry_set_update_loop ?_; rw [Around.under_plainId F.plain_set_update_loop _]
    change wpAny _ A.in1 (pyNext (.ref I) >>= _) _ _ s; refine wpAny_bind (W.done s _ _ st fun s' mv => ?_)
    change wpAny _ A.in1 (ret Value.none) _ _ s'; exact wpAny_pure (fin s' (mv.mono fun b q => List.mem_cons_of_mem _ q) (T.keep fun o e => mv.heap S o nW e))
  | m + 1, i, s, hm, hi, st, T, fin => by
    have lt : i < n := by omega
    have nW : S ∉ wr := fun z => nS (W.sub _ z)
    refine codeAny_builtin F.entry_set_update_loop ?_; rw [Around.under_plainId F.plain_set_update_loop _]
    change wpAny _ A.in1 (pyNext (.ref I) >>= _) _ _ s; refine wpAny_bind (W.item i s _ _ lt st fun v s' hv st' mv => ?_)
    obtain ⟨x, t, ex, rfl⟩ := val i v hv
    have T' : TxSet P w s'.heap S (metT xs i) := T.keep fun o e => mv.heap S o nW e
    change wpAny _ A.in1 (holding [Value.str x t] (setAdd S (.str x t)) >>= _) _ _ s'; refine wpAny_bind (wpAny_holding ?_)
    unfold setAdd; refine wpAny_holding (wpAny_bind ((strKind P w).pyHash (k := x) (Froz.is_str _ _) ?_))
    refine txs_add (s := { s' with toks := s'.toks + 1 }) T' (by have := metT_len xs i; omega) fun b H' sb T2 => ?_
    rw [← metT_succ ex] at T2
    refine wpAny_pure ⟨plainId_quiet F.plain_set_update_loop _, upd_loopT W S nS xs hb val m (i + 1) _ (by omega) lt (W.frame _ s' _ _ st' (Nat.le_succ _) fun b q o e => (sb.2 b fun z => nS (z ▸ q)).trans e) T2 fun s2 mv2 T3 => ?_⟩
    refine fin s2 (Moved.trans W.gtrans ((mv.mono fun b q => List.mem_cons_of_mem _ q).then_heap (Nat.le_succ _) fun b o q e => ?_) mv2) T3
    exact (sb.2 b fun z => q (z ▸ List.mem_cons_self)).trans e
end
end G
end

set_option Elab.async false
set_option linter.all false
set_option maxRecDepth 100000
set_option maxHeartbeats 4000000
/-! set(xs) of a list of texts; sorted of such a set. -/
noncomputable section
namespace G
open PySem PySem.Spec PyProof.Rows L2
abbrev set0 (w : World) : Obj := { cls := .type "set", dict := none, data := .set #[] 0 (.fresh 0 0 (!w.params.followText "set-order")) }
section
variable {P : Program} {w : World} {A : Around} {E : Value → Shared → Prop} {s : Shared}
theorem set0_ok {h : Heap} {a : Addr} (e : h.get? a = some (set0 w)) : TxSet P w h a [] := by
  refine ⟨(#[], 0, .fresh 0 0 (!w.params.followText "set-order")), e, Froz.TxOk.nil rfl, List.Pairwise.nil, ?_, List.nodup_nil⟩
  show _ ∨ (!w.params.followText "set-order") = true
  cases w.params.followText "set-order" <;> simp
def SetMade (P : Program) (w : World) (s : Shared) (xs : List Str) (s2 : Shared) : Prop :=
  ∃ h' tk, s2 = { s with heap := h', toks := tk } ∧ TxSet P w h' s.heap.objs.size (metT xs xs.length) ∧ ∀ b o, s.heap.get? b = some o → h'.get? b = some o
theorem set_fill {B : Around} {l : Addr} {items : Array Value} {xs : List Str} {R : Result → Shared → Prop} (hh : B.handled = none) (hl : s.heap.IsList l items) (hi : StrsAre items.toList xs) (few : xs.length + 1 < scanBound)
    (fin : ∀ s2, SetMade P w s xs s2 → R (.ok (.ret .none)) s2) :
    codeAny (model P w) B (.builtin "set.update.loop" ⟨[.ref s.heap.objs.size, .ref (s.heap.push (set0 w)).objs.size], []⟩) R { s with heap := (s.heap.push (set0 w)).push { cls := .type "list_iterator", data := .fields #[.ref l, .int 0 0] } } := by
  have sz : xs.length = items.size := by rw [← StrsAre.len_eq hi, Array.length_toList]
  have z1 : (s.heap.push (set0 w)).objs.size = s.heap.objs.size + 1 := Heap.size_push ..
  have hl2 := hl
  obtain ⟨o, ho, hc, nl, hd⟩ := hl
  have ll : l < s.heap.objs.size := Heap.lt_size ho
  have e0 : (s.heap.push (set0 w)).get? s.heap.objs.size = some (set0 w) := Heap.get?_push_size _ rfl
  have nf : s.heap.objs.size ∉ [(s.heap.push (set0 w)).objs.size, l] := fun z => by
    rcases List.mem_cons.mp z with z | z
    · exact Nat.ne_of_lt (Nat.lt_succ_self _) (z.trans z1)
    · exact Nat.ne_of_gt ll (List.mem_singleton.mp z)
  refine upd_loopT ((Walks.list (by simpa using hh) _ l (by rw [z1]; exact Nat.ne_of_lt (Nat.lt_succ_of_lt ll)) items).toS) _ nf xs (by omega) (fun i v e => ?_) items.size 0 _ (by omega) (Nat.zero_le _) ⟨⟨_, Heap.get?_push_size _ rfl, rfl, rfl⟩, (hl2.push _).push _⟩ (set0_ok (Heap.get?_push_of_some _ e0)) fun s' mv T => ?_
  · have e' : items.toList[i]? = some v := by rw [Array.getElem?_toList]; exact e
    obtain ⟨t, rfl⟩ := SS.strs_at hi i v e'
    have lt : i < xs.length := by rw [sz]; exact (Array.getElem?_eq_some_iff.mp e).1
    exact ⟨_, t, List.getElem?_eq_getElem lt, by rw [List.getD_eq_getElem?_getD, List.getElem?_eq_getElem lt]; rfl⟩
  · obtain ⟨h', g, d, tk, os⟩ := s'
    have eg : g = s.gens := mv.gens
    have ed : d = s.drawn := mv.drawn
    have eo : os = s.os := mv.os
    subst eg ed eo
    rw [← sz] at T
    refine fin _ ⟨h', tk, rfl, T, fun b u e => mv.heap b u (fun z => ?_) (Heap.get?_push_of_some _ (Heap.get?_push_of_some _ e))⟩
    have lb := Heap.lt_size e
    rcases List.mem_cons.mp z with z | z
    · exact Nat.ne_of_lt lb z
    · exact Nat.ne_of_lt (Nat.lt_succ_of_lt lb) ((List.mem_singleton.mp z).trans z1)
set_option maxHeartbeats 3200000 in
theorem call_setT {l : Addr} {items : Array Value} {xs : List Str} {Q : Value → Shared → Prop} (hh : A.handled = none) (hl : s.heap.IsList l items) (hi : StrsAre items.toList xs) (few : xs.length + 1 < scanBound)
    (fin : ∀ s2, SetMade P w s xs s2 → Q (.ref s.heap.objs.size) s2) : wpAny (model P w) A (call (.type "set") [.ref l]) Q E s := by
  obtain ⟨c0, c1, mro⟩ := F.called_set.mro; have made := F.called_set.made; have sub := F.called_set.sub
  refine wpAny_call (codeAny_of_tree (show wpAny _ _ (callAny (.type "set") _) _ _ _ from wpAny_pure ⟨Code.quiet_builtin _ (by decide +kernel), codeAny_builtin F.entry_type_call ?_⟩))
  rw [Around.under_plain (weight_type_call_type "set" [.ref l] []) rfl]
  have nt := F.called_set.notType; have cc := F.called_set.canCreate; have tc := F.typeCall_set_1 (.ref l)
  repeat (any_goals (first | assumption | wp_step))
  refine codeAny_mono (code_set_led1 (.ref l) (E := E) (Q₁ := fun v s1 => v = .ref s.heap.objs.size ∧ s1 = { s with heap := s.heap.push (set0 w) }) ⟨rfl, rfl⟩) fun r s1 hr => ?_
  rcases r with e | fl
  · exact hr
  cases fl with
  | ret v =>
    obtain ⟨rfl, rfl⟩ := hr
    have e0 : (s.heap.push (set0 w)).get? s.heap.objs.size = some (set0 w) := Heap.get?_push_size _ rfl
    have isS : Shared.TypeIs { s with heap := s.heap.push (set0 w) } (.ref s.heap.objs.size) "set" := ⟨_, e0, rfl⟩
    have il := F.called_set.init.lookup; have ib := F.called_set.init.bind (.ref s.heap.objs.size)
    repeat (any_goals (first | assumption | wp_step))
    refine codeAny_mono (codeAny_call_builtin (R := wants (fun r s2 => r = .none ∧ SetMade P w s xs s2) E) F.called_set.init.plain F.entry_set_init (check_set_init_1 isS ?_)) fun r s2 hr => ?_
    · obtain ⟨⟨oc, od, odt, osl⟩, ho, hc, nl, hd⟩ := hl
      simp only at hc hd
      subst hc hd
      have ho1 : (s.heap.push (set0 w)).get? l = some { cls := .type "list", dict := od, data := .seq items nl, slots := osl } := Heap.get?_push_of_some _ ho
      have n1 := F.sub_list_set; have n2 := F.sub_list_frozenset
      have n3 : (Value.type "list" == Value.type "dict") = false := by decide
      have hl1 : (s.heap.push (set0 w)).IsList l items := ⟨_, ho1, rfl, nl, rfl⟩
      unfold Builtin.«set.__init__» noKeywords Builtin.Frozenset.updateFrom
      generalize hPI : pyIter = PI; wp_walk; subst hPI
      refine wpAny_pyIter_list hl1 (wpAny_bind (wpAny_runValue ?_))
      refine set_fill (by simp [hh]) ⟨_, ho, rfl, nl, rfl⟩ hi few fun s2 m => ?_
      change wpAny _ _ _ _ _ _; refine wpAny_pure ?_
      change wpAny _ _ (ret Value.none) _ _ _; exact wpAny_pure ⟨rfl, m⟩
    · rcases r with e | fl
      · exact hr
      cases fl with
      | ret v =>
        obtain ⟨rfl, m⟩ := hr
        repeat (any_goals (first | assumption | wp_step))
        exact fin _ m
      | _ => exact hr.elim
  | _ => exact hr.elim
end
end G
end

set_option Elab.async false
set_option linter.all false
set_option maxRecDepth 100000
set_option maxHeartbeats 4000000
/-! sorted of a set of texts; both as rules. -/
noncomputable section
namespace G
open PySem PySem.Spec PyProof.Rows L2
/-- ys: the texts of xs, each once, ascending -/
def SortD (xs ys : List Str) : Prop := sortedS ys = true ∧ ys.Nodup ∧ (∀ k, k ∈ ys ↔ k ∈ xs) ∧ ys.length ≤ xs.length
theorem strsAre_of : ∀ us : List Value, (∀ u ∈ us, ∃ x t, u = .str x t) → StrsAre us (us.map strOf)
  | [], _ => .nil
  | u :: us, h => by
    obtain ⟨x, t, rfl⟩ := h u List.mem_cons_self
    exact .cons x t (strsAre_of us fun v hv => h v (List.mem_cons_of_mem _ hv))
theorem perm_texts : ∀ {l us : List Str}, l.Nodup → us.length = l.length → (∀ k, k ∈ l → k ∈ us) → us.Perm l
  | [], us, _, e, _ => by rw [List.length_eq_zero_iff.mp e]
  | x :: l, us, n, e, m => by
    have hx := m x List.mem_cons_self
    obtain ⟨n1, n2⟩ := List.nodup_cons.mp n
    have p := List.perm_cons_erase hx
    refine p.trans (.cons x (perm_texts n2 ?_ fun k hk => ?_))
    · rw [List.length_erase_of_mem hx, e]; rfl
    · exact (List.mem_erase_of_ne fun z => n1 (by rw [← z]; exact hk)).mpr (m k (List.mem_cons_of_mem _ hk))
section
variable {P : Program} {w : World} {A : Around} {E : Value → Shared → Prop} {s : Shared} {a : Addr} {l : List Str}
theorem sort_setT {Q : Value → Shared → Prop} (R : TxSet P w s.heap a l) (hh : A.handled = none) (few : l.length < 4096)
    (fin : ∀ s' p (out : Array Value) c ys, (∀ b o, s.heap.get? b = some o → s'.heap.get? b = some o) → s'.gens = s.gens → s'.os = s.os → s.heap.objs.size ≤ p →
      s'.heap.get? p = some (seqObj "list" out c) → StrsAre out.toList ys → ys.Perm l → sortedS ys = true → Q (.ref p) s') : wpAny (model P w) A (call (.builtin "sorted") [.ref a]) Q E s := by
  obtain ⟨⟨es, ep, t⟩, ho, T, rs, ld, nd⟩ := R
  have sz : es.size = l.length := T.sz
  refine Calls.call_function_entry kind_sorted plain_sorted entry_sorted (args_sorted1 _) ?_
  unfold Builtin.«sorted»; refine wpAny_bind (m := checkCount "sorted" 1 1 _) (wpAny_pure (wpAny_bind (collect_set (A := A.in1) (es := es) (ep := ep) (t := t) hh ⟨_, ho, rfl, rfl⟩ T.fit (by unfold scanBound; omega) rs ld fun s1 vs k1 z1 g1 o1 pm => ?_)))
  have isS : ∀ e ∈ es.toList, ∃ x u, e.2 = Value.str x u := fun e he => by
    obtain ⟨⟨k, hk, _⟩, _⟩ := T.el e he
    revert hk
    show Value.isStrOf k e.2 = true → _
    cases e.2 with
    | str x u => exact fun _ => ⟨x, u, rfl⟩
    | _ => intro z; simp [Value.isStrOf] at z
  have vsS : ∀ v ∈ vs, ∃ x u, v = Value.str x u := fun v hv => by
    obtain ⟨e, he, rfl⟩ := List.mem_map.mp (pm.mem_iff.mp hv)
    exact isS e he
  have SA := strsAre_of vs vsS
  have len : vs.length = l.length := by rw [pm.length_eq, List.length_map, Array.length_toList]; exact sz
  have pl : (vs.map strOf).Perm l := by
    refine perm_texts nd (by rw [List.length_map, len]) fun k hk => ?_
    obtain ⟨e, he, q⟩ := (T.mem k).mp hk
    refine List.mem_map.mpr ⟨e.2, pm.mem_iff.mpr (List.mem_map.mpr ⟨e, he, rfl⟩), ?_⟩
    obtain ⟨x, u, ex⟩ := isS e he
    rw [ex] at q ⊢
    have q : Value.isStrOf k (.str x u) = true := q
    simp [Value.isStrOf] at q
    exact q
  refine wpAny_bind (wpAny_newList ?_ (by rw [len, sizeLine_eq]; omega))
  have oL : (s1.heap.push (seqObj "list" vs.toArray 0)).get? s1.heap.objs.size = some (seqObj "list" vs.toArray 0) := Heap.get?_push_size _ rfl
  refine wpAny_bind (wpAny_holding (wpAny_call_entry slot_list_sort ⟨_, oL, rfl⟩ entry_list_sort (list_sort_treeKAny strKind_oneLt oL SA.keysOf (fun v1 v2 r e => keyKind_strs (by rw [← e]; exact SA)) (by rw [len, sizeLine_eq]; omega) fun st hp hs => ⟨_, rfl, ?_⟩) (args_list_sort _)))
  obtain ⟨ys, b1, b2, b3⟩ := sorted_out_str SA hp hs
  obtain ⟨c, hc⟩ := sortedHeap_at (vs := vs) (out := (arrOf st).map (·.2)) oL
  refine wpAny_pure ⟨_, rfl, fin _ _ _ c ys (fun b u e => ?_) g1 o1 z1 hc b1 (b2.trans pl) b3⟩
  have q := k1 b u e
  have lt := Heap.lt_size q
  exact (sortedHeap_old (Nat.ne_of_lt lt) (by rw [size_push']; exact Nat.lt_succ_of_lt lt)).trans (Heap.get?_push_of_some _ q)
end
def TxO (P : Program) (w : World) (a : Addr) (l : List Str) : HO := .ext fun h => TxSet P w h a l
theorem txO_new {P : Program} {w : World} {H : Hp} {h : Heap} {a : Addr} {l : List Str} (R : TxSet P w h a l) : ObjOk P w H h a (TxO P w a l) := by
  have ⟨D, ho, r⟩ := R
  refine ⟨R, ⟨_, ho⟩, fun h1 h2 p k => ?_⟩
  have ⟨D', ho', r'⟩ : TxSet P w h1 a l := p
  exact ⟨D', k _ ho', r'⟩
section
variable {X : Cx}
/-- set(xs), xs a list of texts -/
def rSetT (K : PySem.W.Frag) (P : Program) (w : World) : List V → Hp → VK → Prop := fun vs H Q => ∃ (l : Addr) (xs : List Str), vs = [V.ref l] ∧ SqL K H l (xs.map V.str) ∧ xs.length < 1000 ∧
  ∀ a : Addr, H a = none → Q (.ref a) (upd H a (TxO P w a (metT xs xs.length)))
theorem cr_setT (hc : X.calm = true) : CallR X (.type "set") (rSetT X.K X.prog X.w) := by
  intro pins s σ H xs vs Q I r h
  obtain ⟨l, ts, rfl, hl, few, q⟩ := h
  rw [Vals.ref1 r]
  obtain ⟨its, rv, pl, _⟩ := I.list hl
  refine call_setT (P := X.prog) (w := X.w) (xs := ts) (I.ok.hd hc) pl.isList (by simpa using rv.strs) (by unfold scanBound; omega) fun s2 ⟨h', tk, e, T, k⟩ => ?_
  subst e
  exact ⟨.ref s.heap.objs.size, _, I.laid (t' := tk) k (Nat.le_refl _) (txO_new T), rfl, q _ (I.hok.fresh (Nat.le_refl _))⟩
/-- sorted(s), s a set of texts -/
def rSortT (P : Program) (w : World) : List V → Hp → VK → Prop := fun vs H Q => ∃ (a : Addr) (xs : List Str), vs = [V.ref a] ∧ H a = some (TxO P w a (metT xs xs.length)) ∧ xs.length < 1000 ∧
  ∀ (ys : List Str) (p : Addr), SortD xs ys → H p = none → Q (.ref p) (upd H p (.lst (ys.map V.str)))
theorem cr_sortT (hc : X.calm = true) : CallR X (.builtin "sorted") (rSortT X.prog X.w) := by
  intro pins s σ H xs vs Q I r h
  obtain ⟨a, ts, rfl, ha, few, q⟩ := h
  rw [Vals.ref1 r]
  have R : TxSet X.prog X.w s.heap a (metT ts ts.length) := (I.hok a _ ha).1
  have ml := metT_len ts ts.length
  refine sort_setT R (I.ok.hd hc) (by omega) fun s' p out c ys k g o hp hg sa pm st => ?_
  have nd : (metT ts ts.length).Nodup := fold_nd _ _ List.nodup_nil
  have yl : ys.length ≤ sizeLine := by rw [pm.length_eq, sizeLine_eq]; omega
  have hn := I.hok.fresh hp
  have new : ObjOk X.prog X.w (upd H p (.lst (ys.map V.str))) s'.heap p (.lst (ys.map V.str)) := ⟨by rw [List.length_map]; exact yl, out.toList, c, vals_of_strs sa, hg⟩
  refine ⟨.ref p, _, I.call' o (ch := []) (Un.laid k hp hn) (I.hok.laid k hp new) (by rw [g]; exact I.bare) (fun _ z => nomatch z), rfl, q ys p ⟨st, pm.nodup_iff.mpr nd, fun k => ?_, by rw [pm.length_eq]; exact ml⟩ hn⟩
  rw [pm.mem_iff]
  unfold metT; rw [List.take_length, fold_mem]
  simp
end
end G
end

set_option Elab.async false
set_option linter.all false
set_option maxRecDepth 100000
set_option maxHeartbeats 4000000
/-! The places of statements of a kind; the words in wish statements. -/
namespace G
open PySem PySem.Spec PyProof.Rows L2
def headA : Act → Str
  | .make _ => "make"
  | .wish _ _ => "wish"
  | .keep _ => "keep"
  | .name _ _ => "name"
  | .drop _ => "drop"
  | .hold _ _ _ => "hold"
  | .weak _ _ _ => "weak"
  | .cut _ _ => "cut"
  | .take _ _ _ => "take"
  | .say _ => "say"
  | .ask _ => "ask"
def headS : Sta → Str
  | .act a => headA a
  | .cond _ _ _ => "if"
  | .rep _ _ => "repeat"
theorem sta_head (s : Sta) : ∃ ds, s.data = .tuple (.str (headS s) :: ds) := by
  cases s with
  | act a => cases a <;> exact ⟨_, rfl⟩
  | cond t y n => exact ⟨_, rfl⟩
  | rep k b => exact ⟨_, rfl⟩
def placesW (w : Str) : Nat → List (Nat × Sta) → List Int
  | _, [] => []
  | i, p :: r => if headS p.2 = w then (i : Int) :: placesW w (i + 1) r else placesW w (i + 1) r
theorem places_of (w : Str) : ∀ (l : List (Nat × Sta)) (k : Nat) (os : List (Option V)), os.length = l.length → (∀ i o, os[i]? = some o → ∀ p : Nat × Sta, l[i]? = some p → o = if headS p.2 = w then some (V.int ((k + i : Nat) : Int)) else none) →
    os.filterMap id = (placesW w k l).map V.int
  | [], k, os, e, _ => by rw [List.length_eq_zero_iff.mp e]; rfl
  | p :: r, k, [], e, _ => by cases e
  | p :: r, k, o :: os, e, h => by
    have h0 := h 0 o rfl p rfl
    have ih := places_of w r (k + 1) os (by simpa using e) fun i o' h1 p' h2 => by
      rw [h (i + 1) o' h1 p' h2]
      rw [show k + (i + 1) = k + 1 + i from by omega]
    show (o :: os).filterMap id = (if headS p.2 = w then (k : Int) :: placesW w (k + 1) r else placesW w (k + 1) r).map V.int
    by_cases c : headS p.2 = w
    · rw [if_pos c] at h0 ⊢
      rw [h0]
      show V.int ((k + 0 : Nat) : Int) :: os.filterMap id = _
      rw [ih]
      rfl
    · rw [if_neg c] at h0 ⊢
      rw [h0]
      exact ih
def spPW : Sp := fun vs H Q _ => ∃ (v : V) (g : Int) (b : List Sta) (wd : Str), vs = [v, .str wd] ∧ TD H v (.tuple [.int g, partD b]) ∧ (∀ s ∈ b, NestOk 5 s) ∧ sizeB b ≤ 10000 ∧
  ∀ (H' : Hp) (p : Addr), Same H H' → H' p = some (.tup ((placesW wd 0 (rowsP 0 b)).map V.int)) → Q (.ref p) H'
def spPl (wd : Str) : Sp := fun vs H Q E => ∃ v, vs = [v] ∧ spPW [v, .str wd] H Q E
theorem qv {X : Cx} (i : Nat) {x : Str} {pos : Pos} (hN : X.N[i]? = some x := by rfl) (hv : Vis X.env.scope x := by first | exact Or.inl rfl | exact Or.inr (Or.inl rfl) | exact Or.inr (Or.inr rfl)) (hd : (x == ("__debug__" : Str)) = false := by decide) (hcd : (x == ("__classdict__" : Str)) = false := by decide) : QE X (.Name x pos) (tVar i) := qe_var i hN hv hd hcd
theorem decS {x y : Str} : decide (V.str x = V.str y) = true ↔ x = y := by
  rw [decide_eq_true_eq]
  exact ⟨fun h => by injection h, fun h => by rw [h]⟩
end G

set_option Elab.async false
set_option linter.all false
set_option maxRecDepth 100000
set_option maxHeartbeats 4000000
/-! wishes_of. -/
namespace G
open PySem PySem.Spec PyProof.Rows L2
def wishOf : Sta → Option Str
  | .act (.wish _ wd) => some wd
  | _ => none
def wishesL (l : List (Nat × Sta)) : List Str := l.filterMap fun p => wishOf p.2
theorem head_wish {s : Sta} (h : headS s = "wish") : ∃ x wd, s = .act (.wish x wd) := by
  cases s with
  | act a => cases a <;> first | exact ⟨_, _, rfl⟩ | exact absurd h (by simp only [headS, headA]; decide +kernel)
  | cond t y n => exact absurd h (by simp only [headS, headA]; decide +kernel)
  | rep k b => exact absurd h (by simp only [headS, headA]; decide +kernel)
theorem wish_no {s : Sta} (h : ¬ headS s = "wish") : wishOf s = none := by
  cases s with
  | act a => cases a <;> first | rfl | exact absurd rfl h
  | _ => rfl
theorem wishes_of : ∀ (l : List (Nat × Sta)) (os : List (Option V)), os.length = l.length → (∀ (i : Nat) (o : Option V), os[i]? = some o → ∀ p : Nat × Sta, l[i]? = some p → o = (wishOf p.2).map V.str) →
    os.filterMap id = (wishesL l).map V.str
  | [], os, e, _ => by rw [List.length_eq_zero_iff.mp e]; rfl
  | p :: r, [], e, _ => by cases e
  | p :: r, o :: os, e, h => by
    have h0 := h 0 o rfl p rfl
    have ih := wishes_of r os (by simpa using e) fun i o' h1 p' h2 => h (i + 1) o' h1 p' h2
    unfold wishesL at ih ⊢
    rw [List.filterMap_cons, List.filterMap_cons]
    rw [h0]
    cases c : wishOf p.2 with
    | none => exact ih
    | some y =>
      show V.str y :: os.filterMap id = V.str y :: _
      rw [ih]
def spWs : Sp := fun vs H Q _ => ∃ (v : V) (g : Int) (b : List Sta), vs = [v] ∧ TD H v (.tuple [.int g, partD b]) ∧ (∀ s ∈ b, NestOk 5 s) ∧ sizeB b ≤ 900 ∧
  ∀ (H' : Hp) (p : Addr) (ys : List Str), Same H H' → SortD (wishesL (rowsP 0 b)) ys → H' p = some (.tup (ys.map V.str)) → Q (.ref p) H'
theorem wishesL_len (l : List (Nat × Sta)) : (wishesL l).length ≤ l.length := List.length_filterMap_le _ _
section
variable {P : Program} {w : World} {K : PySem.W.Frag} {mg : Str → Option Value} {base : Heap}
abbrev s_wishes_of : Stmt := top 36
abbrev n_wishes_of : List Str := ["program", "words", "_", "statement"]
theorem sc_wishes_of : FnScope n_wishes_of ["program"] (defScope s_wishes_of) := ⟨rfl, rfl, rfl, by decide +kernel, rfl, by decide +kernel, by decide +kernel⟩
theorem ok_ws {f fE : Addr} {fd dE : FuncData} (F : Fun K "wishes_of" "wishes_of" s_wishes_of f fd) (z_tuple : mg "tuple" = none) (z_sorted : mg "sorted" = none) (z_set : mg "set" = none) (DE : Df K mg "each_statement" s_each_statement ["program"] fE dE) (GE : GnOk P w K mg base 8 fE dE ["program"] spES) : FnOk P w K mg base CX0 10 f fd ["program"] spWs := by
  refine F.ok sc_wishes_of (fun vs H Q E ⟨v, g, b, ev, _⟩ => by rw [ev]; rfl) (fun cdv A outer s H vs Q E hr ⟨v, g, b, ev, td, ok, hz, q⟩ => ?_)
  subst ev
  have lz0 : (rowsP 0 b).length ≤ 900 := by rw [rowsP_len]; exact hz
  refine ⟨_, (pss_cons (ps_setLcG (i := 1) (g := gTup K 3 (gCons (gName 2) (gCons (gName 2) (gCons (gName 3) gNil)))) (tt := tEqS (tOp (rIxT K) (tVar 3) (tC (.int 0))) (tC (.str "wish"))) (te := tOp (rIxT K) (tVar 3) (tC (.int 2))) (own := [("_", 2), ("statement", 3)]) rfl rfl (sw_true rfl rfl rfl (by decide +kernel)) GE (hr.mono (by omega)) (by rfl) DE.m DE.F.kp DE.b (pa_cons (pv 0) pa_nil) rfl sc_wishes_of.nd (blkOk_by (N := n_wishes_of) (sc := defScope s_wishes_of) (by decide +kernel)) (by decide +kernel)
      (fun _ _ _ _ _ => qg_tup rfl (qgs_cons (qg_name (i := 2) sc_wishes_of.nd rfl rfl) (qgs_cons (qg_name (i := 2) sc_wishes_of.nd rfl rfl) (qgs_cons (qg_name (i := 3) sc_wishes_of.nd rfl rfl) qgs_nil))))
      (fun _ _ _ _ _ => qt_eq (qe_ix (qv 3) qe_int (fun _ _ => rfl)) qe_str rfl) (fun _ _ _ _ _ => qe_ix (qv 3) qe_int (fun _ _ => rfl)))
      (pss_one (ps_ret (pe_callTy call_tuple_of (by rfl) z_tuple (by decide +kernel) (pa_cons (pe_callB (cr_sortT rfl) (by rfl) z_sorted (by decide +kernel) (pa_cons (pe_callTy (cr_setT rfl) (by rfl) z_set (by decide +kernel) (pa_cons (pv 1) pa_nil)) pa_nil)) pa_nil))))), ?_⟩
  refine ⟨_, rfl, _, _, _, fun i o => ∀ p : Nat × Sta, (rowsP 0 b)[i]? = some p → o = (wishOf p.2).map V.str, ⟨v, g, b, rfl, td, ok, by omega, rfl, rfl, rfl⟩, lt_line (by omega), ?_, ?_, ?_⟩
  · rintro i x H2 H3 sm ⟨t, u, p, hp, rfl, ht, hu⟩
    exact ⟨t, u, p, hp, rfl, sm _ _ ht, TD.ch (Ch.same (S := []) sm) _ _ hu⟩
  · rintro i x H' hi ⟨t, u, p, hp, rfl, ht, hu⟩
    obtain ⟨ds, eds⟩ := sta_head p.2
    have hu0 := hu
    rw [eds] at hu
    obtain ⟨r, xs, rfl, gr, dd⟩ := td_tup hu
    obtain ⟨v1, xs, rfl, d1, dd⟩ := tds_cons dd
    cases d1
    refine ⟨t, _, rfl, SqT.of ht, rfl, _, _, rfl, _, _, rfl, _, _, rfl, rfl, rfl, rfl, _, rfl, r, _, _, _, rfl, rfl, SqT.of gr, atI_nat (j := 0) rfl, _, _, rfl, rfl, rfl, ?_⟩
    by_cases c : headS p.2 = "wish"
    · rw [if_pos (decS.mpr c)]
      obtain ⟨x, wd, ep⟩ := head_wish c
      rw [ep] at hu0
      have hu0 : TD H' (.ref r) (.tuple [.str "wish", .str x, .str wd]) := hu0
      obtain ⟨r', zs, er, gr', d0⟩ := td_tup hu0
      cases er
      obtain ⟨z1, zs, rfl, e1, d0⟩ := tds_cons d0
      obtain ⟨z2, zs, rfl, e2, d0⟩ := tds_cons d0
      obtain ⟨z3, rfl, e3⟩ := tds1 d0
      cases e3
      refine ⟨_, rfl, r, _, _, _, rfl, rfl, SqT.of gr', atI_nat (j := 2) rfl, rfl, fun p' hp' => ?_⟩
      rw [hp] at hp'
      cases hp'
      rw [ep]
      rfl
    · rw [if_neg (fun z => c (decS.mp z))]
      intro p' hp'
      rw [hp] at hp'
      cases hp'
      rw [wish_no c]
      rfl
  · intro H' D os hD sm el hY
    have e := wishes_of (rowsP 0 b) os el hY
    have wl := wishesL_len (rowsP 0 b)
    rw [e]
    have s1 := Same.trans sm (Same.up (o := HO.lst ((wishesL (rowsP 0 b)).map V.str)) hD)
    have gD : upd H' D (HO.lst ((wishesL (rowsP 0 b)).map V.str)) D = some (.lst ((wishesL (rowsP 0 b)).map V.str)) := upd_same
    generalize upd H' D (HO.lst ((wishesL (rowsP 0 b)).map V.str)) = H1 at s1 gD ⊢
    refine ⟨_, rfl, D, _, rfl, SqL.of gD, by omega, fun a na => ?_⟩
    refine ⟨a, wishesL (rowsP 0 b), rfl, upd_same, by omega, fun ys p so np => ?_⟩
    exact ⟨p, _, rfl, .inl ⟨SqL.of upd_same, fun t nt => q _ t ys (Same.trans s1 (Same.trans (Same.up na) (Same.trans (Same.up np) (Same.up nt)))) so upd_same⟩⟩
end
end G

set_option Elab.async false
set_option linter.all false
set_option maxRecDepth 100000
set_option maxHeartbeats 4000000
/-! The weight of a block: the program's and the law's. -/
namespace G
open PySem PySem.Spec PyProof.Rows L2
mutual
def wtS : Sta → Int
  | .act _ => 1
  | .cond _ y n => 1 + (wtB y + wtB n)
  | .rep k b => 1 + (k : Int) * wtB b
def wtB : List Sta → Int
  | [] => 0
  | s :: r => wtS s + wtB r
end
theorem wtB_snoc (s : Sta) : ∀ b : List Sta, wtB (b ++ [s]) = wtB b + wtS s
  | [] => by show wtS s + 0 = 0 + wtS s; omega
  | x :: r => by
    show wtS x + wtB (r ++ [s]) = wtS x + wtB r + wtS s
    rw [wtB_snoc s r]; omega
def timesS : Sta → Int
  | .rep k _ => (k : Int)
  | _ => 1
def inW (s : Sta) : Int := ((partsOf s).map wtB).sum
theorem wtS_eq (s : Sta) : wtS s = 1 + timesS s * inW s := by
  cases s with
  | act a => rfl
  | cond t y n =>
    show 1 + (wtB y + wtB n) = 1 + 1 * (wtB y + (wtB n + 0))
    omega
  | rep k b =>
    show 1 + (k : Int) * wtB b = 1 + (k : Int) * (wtB b + 0)
    rw [Int.add_zero]
theorem head_rep {s : Sta} (h : headS s = "repeat") : ∃ k b, s = .rep k b := by
  cases s with
  | act a => cases a <;> exact absurd h (by simp only [headS, headA]; decide +kernel)
  | cond t y n => exact absurd h (by simp only [headS, headA]; decide +kernel)
  | rep k b => exact ⟨k, b, rfl⟩
theorem times_no {s : Sta} (h : ¬ headS s = "repeat") : timesS s = 1 := by
  cases s with
  | rep k b => exact absurd rfl h
  | _ => rfl
theorem parts_sta {d : Nat} {s : Sta} {i : Nat} {b : List Sta} (ok : StaOk d s) (h : (partsOf s)[i]? = some b) : ∃ d', d = d' + 1 ∧ (∀ z ∈ b, StaOk d' z) ∧ sizeB b ≤ s.size := by
  have hm := List.mem_of_getElem? h
  cases s with
  | act a => exact nomatch hm
  | cond t y n =>
    cases d with
    | zero => exact ok.elim
    | succ d =>
      refine ⟨d, rfl, ?_⟩
      have e : (Sta.cond t y n).size = 1 + (sizeB y + sizeB n) := rfl
      have ok : t.ok ∧ (∀ s ∈ y, StaOk d s) ∧ ∀ s ∈ n, StaOk d s := ok
      simp only [partsOf, List.mem_cons, List.not_mem_nil, or_false] at hm
      rcases hm with rfl | rfl
      · exact ⟨ok.2.1, by omega⟩
      · exact ⟨ok.2.2, by omega⟩
  | rep c y =>
    cases d with
    | zero => exact ok.elim
    | succ d =>
      refine ⟨d, rfl, ?_⟩
      have e : (Sta.rep c y).size = 1 + sizeB y := rfl
      have ok : c < 13 ∧ ∀ s ∈ y, StaOk d s := ok
      simp only [partsOf, List.mem_cons, List.not_mem_nil, or_false] at hm
      subst hm
      exact ⟨ok.2, by omega⟩
theorem rep_few {d k : Nat} {b : List Sta} (ok : StaOk d (.rep k b)) : k < 13 := by
  cases d with
  | zero => exact ok.elim
  | succ d => exact ok.1
def spBW (d : Nat) : Sp := fun vs H Q _ => ∃ (v : V) (b : List Sta), vs = [v] ∧ TD H v (partD b) ∧ (∀ s ∈ b, StaOk d s) ∧ sizeB b ≤ 10000 ∧ ∀ H', Same H H' → Q (.int (wtB b)) H'
def spBW' : Nat → Sp
  | 0 => fun _ _ _ _ => False
  | d + 1 => spBW d
theorem parts_len (s : Sta) : (partsOf s).length ≤ 2 := by cases s <;> simp [partsOf]
section
variable {P : Program} {w : World} {K : PySem.W.Frag} {mg : Str → Option Value} {base : Heap}
abbrev s__block_weight : Stmt := top 34
abbrev n__block_weight : List Str := ["block", "total", "statement", "inner", "times", "part"]
theorem sc__block_weight : FnScope n__block_weight ["block"] (defScope s__block_weight) := ⟨rfl, rfl, rfl, by decide +kernel, rfl, by decide +kernel, by decide +kernel⟩
theorem ok_bw {f fB fS : Addr} {fd dB dS : FuncData} {d k0 : Nat} (F : Fun K "_block_weight" "_block_weight" s__block_weight f fd) (z_sum : mg "sum" = none)
    (DB : Df K mg "blocks_of" s_blocks_of ["statement"] fB dB) (GB : FnOk P w K mg base CX0 1 fB dB ["statement"] spBO)
    (mS : mg "_block_weight" = some (.ref fS)) (kS : PySem.W.keepIn K (.ref fS) = true) (bS : Binds K dS ["block"] []) (hk0 : 1 ≤ k0) (GS : FnOk P w K mg base CX0 k0 fS dS ["block"] (spBW' d)) : FnOk P w K mg base CX0 (k0 + 1) f fd ["block"] (spBW d) := by
  refine F.ok sc__block_weight (fun vs H Q E ⟨v, b, ev, _⟩ => by rw [ev]; rfl) (fun cdv A outer s0 H vs Q E hr ⟨v, b, ev, td, ok, hz, q⟩ => ?_)
  subst ev
  have hr1 : Room 1 _ := hr.mono hk0
  refine ⟨_, (pss_cons (ps_set (i := 1) sc__block_weight.nd rfl (.inl rfl) pe_int)
      (pss_cons (ps_for PassesOwn.never rfl (pi_tup (pv 0)) (pg_name (i := 2) sc__block_weight.nd rfl (.inl rfl))
      (pss_cons (ps_set (i := 3) sc__block_weight.nd rfl (.inl rfl) (pe_callB (cr_sum rfl) (by rfl) z_sum (by decide +kernel) (pa_cons (pe_lc (g := gName 5) (tt := tYes) (own := [("part", 5)]) (by rfl) sc__block_weight.nd (pi_tup (pe_call GB hr1 (by rfl) DB.m DB.F.kp DB.b .nil pass0 (pa_cons (pv 2) pa_nil))) (blkOk_by (N := n__block_weight) (sc := defScope s__block_weight) (by decide +kernel)) (fun _ _ _ _ _ => (pg_name (i := 5) sc__block_weight.nd rfl (.inl rfl))) (fun _ _ _ _ _ => pts_nil) (fun _ _ _ _ _ => (pe_call GS hr (by rfl) mS kS bS .nil pass0 (pa_cons (pv 5) pa_nil)))) pa_nil)))
      (pss_cons (ps_set (i := 4) sc__block_weight.nd rfl (.inl rfl) (pe_ifExp (pt_cmpR op_eq (pe_ix ix_tup (pv 2) pe_int (fun _ _ => rfl)) pe_str (nomark _)) (pe_ix ix_tup (pv 2) pe_int (fun _ _ => rfl)) pe_int))
      (pss_one (ps_set (i := 1) sc__block_weight.nd rfl (.inl rfl) (pe_op op_addE (pe_op op_addE (pv 1) pe_int) (pe_op op_mul (pv 4) (pv 3))))))))
      (pss_one (ps_ret (pv 1))))), ?_⟩
  obtain ⟨r0, xs, rfl, gr0, tds⟩ := td_tup td
  refine ⟨_, rfl, r0, rfl, ⟨_, SqT.of gr0⟩, for_tup (xs := xs) (fun j σ H' => Same H H' ∧ ∃ (x2 x3 x4 x5 : Option V), σ = [some (.ref r0), some (.int (wtB (b.take j))), x2, x3, x4, x5])
    ⟨Same.refl _, none, none, none, none, rfl⟩ (fun j σ H' _ h => SqT.of (h.1 _ _ gr0)) ?_ ?_⟩
  · rintro j x σ H' hx ⟨sm, x2, x3, x4, x5, rfl⟩
    obtain ⟨dt, edt, tdv⟩ := (TDs.ch (Ch.same (S := []) sm) _ _ tds).at hx
    rw [blkData_eq, List.getElem?_map] at edt
    obtain ⟨s, hs, rfl⟩ := Option.map_eq_some_iff.mp edt
    have oks := ok s (List.mem_of_getElem? hs)
    have szs := size_mem (List.mem_of_getElem? hs)
    have pl := parts_len s
    have step : wtB (b.take (j + 1)) = wtB (b.take j) + 1 + timesS s * inW s := by
      rw [List.take_add_one, hs]
      show wtB (b.take j ++ [s]) = _
      rw [wtB_snoc, wtS_eq, Int.add_assoc]
    refine ⟨_, rfl, x, s, rfl, tdv, fun H1 p ys s1 gp tdp => ⟨p, rfl, ⟨_, SqT.of gp⟩, fun D nD => ?_⟩⟩
    have neD : p ≠ D := fun z => by rw [z, nD] at gp; cases gp
    refine lc_tup (xs := ys) (fun i H' => Ch [D] H1 H' ∧ H' D = some (.lst ((((partsOf s).map wtB).take i).map V.int))) ⟨(Ch.refl _ _).new nD, upd_same⟩ (fun i H' _ h => SqT.of (h.1.tu _ _ gp)) ?_ ?_
    · rintro i y H2 hy ⟨c2, g2⟩
      obtain ⟨dp, edp, tdy⟩ := (TDs.ch c2 _ _ tdp).at hy
      rw [List.getElem?_map] at edp
      obtain ⟨pb, hpb, rfl⟩ := Option.map_eq_some_iff.mp edp
      obtain ⟨d', rfl, okb, szb⟩ := parts_sta oks hpb
      refine ⟨rfl, _, rfl, y, pb, rfl, tdy, okb, by omega, fun H3 s3 => ⟨_, s3 _ _ g2, small1000 ?_, ?_⟩⟩
      · rw [List.length_map, List.length_take, List.length_map]; omega
      · have g3 := s3 _ _ g2
        refine ⟨(c2.trans (Ch.same s3)).put (by simp) g3 (fun xs z => by cases z), ?_⟩
        rw [upd_same, List.take_add_one, List.getElem?_map, hpb, List.map_append]
        rfl
    · rintro H2 ⟨c2, g2⟩
      have lp : ys.length = ((partsOf s).map wtB).length := by rw [tdp.len, List.length_map, List.length_map]
      rw [lp, List.take_length] at g2
      have s2 : Same H1 H2 := (c2.kp.fresh nD).toSame
      have sm2 := Same.trans sm (Same.trans s1 s2)
      have tdv := TD.ch (Ch.same (S := []) (Same.trans s1 s2)) _ _ tdv
      refine ⟨D, _, rfl, SqL.of g2, ?_⟩
      have fin : ∀ z z2 : Int, z = wtB (b.take j) + 1 → z2 = z + timesS s * inW s → z2 = wtB (b.take (j + 1)) := by
        intro z z2 e1 e2
        rw [e2, e1, step]
      obtain ⟨ds, eds⟩ := sta_head s
      have td0 := tdv
      rw [eds] at td0
      obtain ⟨r, zs, rfl, gr, dd⟩ := td_tup td0
      obtain ⟨v1, zs, rfl, d1, dd⟩ := tds_cons dd
      cases d1
      refine ⟨_, rfl, r, _, _, _, rfl, rfl, SqT.of gr, atI_nat (j := 0) rfl, rfl, _, rfl, ite2 (fun c => ?_) (fun c => ?_)⟩
      · obtain ⟨k, b', rfl⟩ := head_rep (decS.mp c)
        have kf := rep_few oks
        have td1 : TD H2 (.ref r) (.tuple [.str "repeat", .int k, .tuple (blkData b')]) := tdv
        obtain ⟨r', zs', er, gr', d0⟩ := td_tup td1
        cases er
        obtain ⟨z1, zs', rfl, e1, d0⟩ := tds_cons d0
        obtain ⟨z2, zs', rfl, e2, d0⟩ := tds_cons d0
        cases e2
        refine ⟨_, rfl, r, _, _, _, rfl, rfl, SqT.of gr', atI_nat (j := 1) rfl, ?_⟩
        exact ⟨_, rfl, _, _, rfl, rfl, fun z ez => ⟨_, rfl, _, rfl, _, _, rfl, rfl, .inl ⟨by omega, by omega⟩, _, _, rfl, rfl, fun z2 ez2 => by obtain rfl := fin z z2 ez ez2; exact ⟨sm2, _, _, _, _, rfl⟩⟩⟩
      · have tn := times_no fun z => c (decS.mpr z)
        exact ⟨_, rfl, _, _, rfl, rfl, fun z ez => ⟨_, rfl, _, rfl, _, _, rfl, rfl, .inl ⟨by decide, by decide⟩, _, _, rfl, rfl, fun z2 ez2 => by obtain rfl := fin z z2 ez (by rw [tn]; exact ez2); exact ⟨sm2, _, _, _, _, rfl⟩⟩⟩
  · rintro σ H' ⟨sm, x2, x3, x4, x5, rfl⟩
    have lx : xs.length = b.length := by rw [tds.len, blkData_eq, List.length_map]
    rw [lx, List.take_length]
    exact ⟨_, rfl, q H' sm⟩
end
end G

set_option Elab.async false
set_option linter.all false
set_option maxRecDepth 100000
set_option maxHeartbeats 4000000
/-! The weight: at the top; the law's. -/
namespace G
open PySem PySem.Spec PyProof.Rows L2
section
variable {P : Program} {w : World} {K : PySem.W.Frag} {mg : Str → Option Value} {base : Heap}
theorem ok_bwAll {f fB : Addr} {fd dB : FuncData} (D : Df K mg "_block_weight" s__block_weight ["block"] f fd) (z_sum : mg "sum" = none)
    (DB : Df K mg "blocks_of" s_blocks_of ["statement"] fB dB) (GB : FnOk P w K mg base CX0 1 fB dB ["statement"] spBO) : FnOk P w K mg base CX0 7 f fd ["block"] (spBW 5) := by
  have Z : FnOk P w K mg base CX0 1 f fd ["block"] (spBW' 0) := ⟨fun _ _ _ _ h => h.elim, fun _ _ _ _ _ _ _ _ _ _ _ _ _ h => h.elim⟩
  have B0 := ok_bw (d := 0) D.F z_sum DB GB D.m D.F.kp D.b (by decide) Z
  have B1 := ok_bw (d := 1) D.F z_sum DB GB D.m D.F.kp D.b (by decide) B0
  have B2 := ok_bw (d := 2) D.F z_sum DB GB D.m D.F.kp D.b (by decide) B1
  have B3 := ok_bw (d := 3) D.F z_sum DB GB D.m D.F.kp D.b (by decide) B2
  have B4 := ok_bw (d := 4) D.F z_sum DB GB D.m D.F.kp D.b (by decide) B3
  exact ok_bw (d := 5) D.F z_sum DB GB D.m D.F.kp D.b (by decide) B4
abbrev s_weight : Stmt := top 35
abbrev n_weight : List Str := ["program"]
theorem sc_weight : FnScope n_weight ["program"] (defScope s_weight) := ⟨rfl, rfl, rfl, by decide +kernel, rfl, by decide +kernel, by decide +kernel⟩
def spWt : Sp := fun vs H Q _ => ∃ (v : V) (g : Int) (b : List Sta), vs = [v] ∧ TD H v (.tuple [.int g, partD b]) ∧ (∀ s ∈ b, StaOk 5 s) ∧ sizeB b ≤ 10000 ∧ ∀ H', Same H H' → Q (.int (wtB b)) H'
theorem ok_wt {f fB : Addr} {fd dB : FuncData} (F : Fun K "weight" "weight" s_weight f fd) (DB : Df K mg "_block_weight" s__block_weight ["block"] fB dB) (GB : FnOk P w K mg base CX0 7 fB dB ["block"] (spBW 5)) : FnOk P w K mg base CX0 8 f fd ["program"] spWt := by
  refine F.ok sc_weight (fun vs H Q E ⟨v, g, b, ev, _⟩ => by rw [ev]; rfl) (fun cdv A outer s0 H vs Q E hr ⟨v, g, b, ev, td, ok, hz, q⟩ => ?_)
  subst ev
  refine ⟨_, (pss_one (ps_ret (pe_call GB hr (by rfl) DB.m DB.F.kp DB.b .nil pass0 (pa_cons (pe_ix ix_tup (pv 0) pe_int (fun _ _ => rfl)) pa_nil)))), ?_⟩
  obtain ⟨r0, xs, rfl, gr0, e0⟩ := td_tup td
  obtain ⟨v1, ys, rfl, d1, e1⟩ := tds_cons e0
  cases d1
  obtain ⟨v2, rfl, d2⟩ := tds1 e1
  exact ⟨_, rfl, r0, _, _, _, rfl, rfl, SqT.of gr0, atI_nat (j := 1) rfl, v2, b, rfl, d2, ok, hz, q⟩
end
end G

set_option Elab.async false
set_option linter.all false
set_option maxRecDepth 100000
set_option maxHeartbeats 4000000
/-! Right statements are statements on paper. -/
namespace G
open PySem PySem.Spec PyProof.Rows L2 StX RZ
mutual
def plainD : PyData → Bool
  | .list _ => false
  | .dict _ => false
  | .tuple ds => plainDs ds
  | _ => true
def plainDs : List PyData → Bool
  | [] => true
  | d :: r => plainD d && plainDs r
end
mutual
theorem GV.td {F : Addr → Prop} {H : Hp} : ∀ (d : PyData) (v : V), plainD d = true → GV F H v d → TD H v d
  | .none, _, _, h => by cases h; exact .non
  | .bool b, _, _, h => by cases h; exact .bl b
  | .int i, _, _, h => by cases h; exact .int i
  | .str x, _, _, h => by cases h; exact .str x
  | .list ds, _, p, _ => by cases p
  | .tuple ds, _, p, h => by
    have p : plainDs ds = true := p
    cases h with
    | tup h1 h2 => exact .tup h1 (GVs.td ds _ p h2)
  | .dict _, _, p, _ => by cases p
theorem GVs.td {F : Addr → Prop} {H : Hp} : ∀ (ds : List PyData) (vs : List V), plainDs ds = true → GVs F H vs ds → TDs H vs ds
  | [], _, _, h => by cases h; exact .nil
  | d :: ds, _, p, h => by
    obtain ⟨p1, p2⟩ := Bool.and_eq_true_iff.mp (show (plainD d && plainDs ds) = true from p)
    cases h with
    | cons h1 h2 => exact .cons (GV.td d _ p1 h1) (GVs.td ds _ p2 h2)
end
theorem plain_tst : ∀ t : Tst, plainD t.data = true
  | .given _ => rfl
  | .set _ => rfl
  | .same _ _ => rfl
  | .full _ _ => rfl
  | .wished _ => rfl
  | .not t => by
    show (true && (plainD t.data && true)) = true
    rw [plain_tst t]
    rfl
theorem plain_act : ∀ a : Act, plainD a.data = true
  | .ask t => by
    show (true && (plainD t.data && true)) = true
    rw [plain_tst t]
    rfl
  | .make _ => rfl
  | .wish _ _ => rfl
  | .keep _ => rfl
  | .name _ _ => rfl
  | .drop _ => rfl
  | .hold _ _ _ => rfl
  | .weak _ _ _ => rfl
  | .cut _ _ => rfl
  | .take _ _ _ => rfl
  | .say _ => rfl
mutual
theorem plain_sta : ∀ s : Sta, plainD s.data = true
  | .act a => plain_act a
  | .cond t y n => by
    show (true && (plainD t.data && (plainDs (blkData y) && (plainDs (blkData n) && true)))) = true
    rw [plain_tst t, plain_blk y, plain_blk n]
    rfl
  | .rep k b => by
    show (true && (true && (plainDs (blkData b) && true))) = true
    rw [plain_blk b]
    rfl
theorem plain_blk : ∀ b : List Sta, plainDs (blkData b) = true
  | [] => rfl
  | s :: r => by
    show (plainD s.data && plainDs (blkData r)) = true
    rw [plain_sta s, plain_blk r]
    rfl
end
/-! ### right names, words, tests -/
theorem sgn_ok {x : Str} (h : x.cps.toList.all sgnB = true) : OkS x := fun c hc => by
  have z := List.all_eq_true.mp h c hc
  unfold sgnB ltrB at z
  rcases Bool.or_eq_true_iff.mp z with e | e
  · exact OkS.of "abcdefghijklmnopqrstuvwxyz" c (of_decide_eq_true e)
  · exact OkS.of "0123456789" c (of_decide_eq_true e)
theorem word_nm {x : Str} (h : wordB x = true) : Nm x := by
  unfold wordB len18 at h
  obtain ⟨h1, h2⟩ := Bool.and_eq_true_iff.mp h
  obtain ⟨_, h3⟩ := Bool.and_eq_true_iff.mp h1
  exact ⟨of_decide_eq_true h3, sgn_ok h2⟩
theorem name_nm {x : Str} (h : nameB x = true) : Nm x := by
  unfold nameB len18 at h
  obtain ⟨h1, h2⟩ := Bool.and_eq_true_iff.mp h
  obtain ⟨_, h3⟩ := Bool.and_eq_true_iff.mp h1
  obtain ⟨_, h4⟩ := Bool.and_eq_true_iff.mp h2
  exact ⟨of_decide_eq_true h3, sgn_ok h4⟩
theorem nameD_of {d : PyData} (h : nameD d = true) : ∃ x, d = .str x ∧ Nm x := by
  cases d <;> first | exact ⟨_, rfl, name_nm h⟩ | cases h
theorem wordD_of {d : PyData} (h : wordD d = true) : ∃ x, d = .str x ∧ Nm x := by
  cases d <;> first | exact ⟨_, rfl, word_nm h⟩ | cases h
theorem rngD_of {lo hi : Int} {d : PyData} (h : rngD lo hi d = true) : ∃ i, d = .int i ∧ lo ≤ i ∧ i ≤ hi := by
  cases d with
  | int i =>
    obtain ⟨h1, h2⟩ := Bool.and_eq_true_iff.mp (show (decide (lo ≤ i) && decide (i ≤ hi)) = true from h)
    exact ⟨i, rfl, of_decide_eq_true h1, of_decide_eq_true h2⟩
  | _ => cases h
theorem fit1 {ck : Ck → PyData → Int → Bool} {c1 : Ck} {ds : List PyData} {g : Int} (h : fitW ck [c1] ds g = true) : ∃ a, ds = [a] ∧ ck c1 a g = true := by
  have l := fit_len h
  match ds, l with
  | [a], _ =>
    unfold fitW at h
    have h := (Bool.and_eq_true_iff.mp h).2
    simp only [List.zipWith_cons_cons, List.zipWith_nil_left, List.all_cons, List.all_nil, Bool.and_eq_true] at h
    exact ⟨a, rfl, h.1⟩
theorem fit2 {ck : Ck → PyData → Int → Bool} {c1 c2 : Ck} {ds : List PyData} {g : Int} (h : fitW ck [c1, c2] ds g = true) : ∃ a b, ds = [a, b] ∧ ck c1 a g = true ∧ ck c2 b g = true := by
  have l := fit_len h
  match ds, l with
  | [a, b], _ =>
    unfold fitW at h
    have h := (Bool.and_eq_true_iff.mp h).2
    simp only [List.zipWith_cons_cons, List.zipWith_nil_left, List.all_cons, List.all_nil, Bool.and_eq_true] at h
    exact ⟨a, b, rfl, h.1, h.2.1⟩
theorem fit3 {ck : Ck → PyData → Int → Bool} {c1 c2 c3 : Ck} {ds : List PyData} {g : Int} (h : fitW ck [c1, c2, c3] ds g = true) : ∃ a b c, ds = [a, b, c] ∧ ck c1 a g = true ∧ ck c2 b g = true ∧ ck c3 c g = true := by
  have l := fit_len h
  match ds, l with
  | [a, b, c], _ =>
    unfold fitW at h
    have h := (Bool.and_eq_true_iff.mp h).2
    simp only [List.zipWith_cons_cons, List.zipWith_nil_left, List.all_cons, List.all_nil, Bool.and_eq_true] at h
    exact ⟨a, b, c, rfl, h.1, h.2.1, h.2.2.1⟩
theorem plain_of {d : PyData} {g : Int} (hg : g ≤ 3) {z : Str} (e : firstW d = some z) {cks : List Ck} (e2 : plainT z = some cks) (h : fitW ckP cks (tupI d).tail g = true) : ∃ t : Tst, d = t.data ∧ t.nm ∧ t.depth = 0 := by
  obtain ⟨r, rfl⟩ := firstW_of e
  have h : fitW ckP cks r g = true := h
  have hm := look_mem e2
  simp only [plainL, S1, List.mem_cons, List.not_mem_nil, or_false, Prod.mk.injEq] at hm
  have ez : z = z := rfl
  rcases hm with ⟨rfl, rfl⟩ | ⟨rfl, rfl⟩ | ⟨rfl, rfl⟩ | ⟨rfl, rfl⟩ | ⟨rfl, rfl⟩
  · obtain ⟨a, rfl, h1⟩ := fit1 h
    obtain ⟨i, rfl, i0, i1⟩ := rngD_of h1
    obtain ⟨k, rfl⟩ : ∃ k : Nat, i = (k : Int) := ⟨i.toNat, by omega⟩
    exact ⟨.given k, rfl, (show k < 4 by omega), rfl⟩
  · obtain ⟨a, rfl, h1⟩ := fit1 h
    obtain ⟨x, rfl, n1⟩ := nameD_of h1
    exact ⟨.set x, rfl, n1, rfl⟩
  · obtain ⟨a, b, rfl, h1, h2⟩ := fit2 h
    obtain ⟨x, rfl, n1⟩ := nameD_of h1
    obtain ⟨y, rfl, n2⟩ := nameD_of h2
    exact ⟨.same x y, rfl, ⟨n1, n2⟩, rfl⟩
  · obtain ⟨a, b, rfl, h1, h2⟩ := fit2 h
    obtain ⟨x, rfl, n1⟩ := nameD_of h1
    obtain ⟨y, rfl, n2⟩ := nameD_of h2
    exact ⟨.full x y, rfl, ⟨n1, n2⟩, rfl⟩
  · obtain ⟨a, rfl, h1⟩ := fit1 h
    obtain ⟨x, rfl, n1⟩ := wordD_of h1
    exact ⟨.wished x, rfl, n1, rfl⟩
theorem not_back {d : PyData} {t : Tst} {k : Nat} (h : unNot1 d = t.data) (hn : t.nm) (hd : t.depth ≤ k) : ∃ t' : Tst, d = t'.data ∧ t'.nm ∧ t'.depth ≤ k + 1 := by
  unfold unNot1 at h
  by_cases c : firstW d = some (Str.ofString "not") ∧ (tupI d).length = 2
  · rw [if_pos c] at h
    obtain ⟨r, rfl⟩ := firstW_of c.1
    have l2 : (PyData.str (Str.ofString "not") :: r).length = 2 := c.2
    match r, l2 with
    | [d1], _ =>
      have h : d1 = t.data := h
      exact ⟨.not t, by rw [h]; rfl, hn, by show t.depth + 1 ≤ k + 1; omega⟩
  · rw [if_neg c] at h
    exact ⟨t, h, hn, by omega⟩
theorem test_of {d : PyData} {g : Int} (hg : g ≤ 3) (h : isTest d g = true) : ∃ t : Tst, d = t.data ∧ t.ok := by
  unfold isTest at h
  cases e : firstW (unNot3 d) with
  | none => rw [e] at h; cases h
  | some z =>
    rw [e] at h
    have h : (match plainT z with
      | some cks => fitW ckP cks (tupI (unNot3 d)).tail g
      | none => false) = true := h
    cases e2 : plainT z with
    | none => rw [e2] at h; cases h
    | some cks =>
      rw [e2] at h
      obtain ⟨t, e3, n, dp⟩ := plain_of hg e e2 h
      obtain ⟨t1, e4, n1, d1⟩ := not_back (d := unNot1 (unNot1 d)) e3 n (Nat.le_of_eq dp)
      obtain ⟨t2, e5, n2, d2⟩ := not_back (d := unNot1 d) e4 n1 d1
      obtain ⟨t3, e6, n3, d3⟩ := not_back (d := d) e5 n2 d2
      exact ⟨t3, e6, n3, d3⟩
/-- right statements, of whose blocks all statements are such, are statements on paper -/
theorem sta_of {d : PyData} {g : Int} {k : Nat} (hg : g ≤ 3) (h : isStmt d g = true) (hp : ∀ b ∈ partsD d, ∀ x ∈ tupI b, ∃ s : Sta, x = s.data ∧ StaOk k s) : ∃ s : Sta, d = s.data ∧ StaOk (k + 1) s := by
  have h0 := h
  have hpt := stmt_parts h0
  unfold isStmt at h
  cases e : firstW d with
  | none => rw [e] at h; cases h
  | some z =>
    rw [e] at h
    have h : (match stmtT z with
      | some cks => fitW ckB cks (tupI d).tail g
      | none => false) = true := h
    cases e2 : stmtT z with
    | none => rw [e2] at h; cases h
    | some cks =>
      rw [e2] at h
      obtain ⟨r, rfl⟩ := firstW_of e
      have h : fitW ckB cks r g = true := h
      have blkOf : ∀ b ∈ partsD (.tuple (.str z :: r)), ∃ bl : List Sta, b = .tuple (blkData bl) ∧ ∀ s ∈ bl, StaOk k s := fun b hb => by
        obtain ⟨ds, rfl⟩ := hpt b hb
        have hq : ∀ x ∈ ds, ∃ s : Sta, x = s.data ∧ StaOk k s := hp _ hb
        clear hb
        induction ds with
        | nil => exact ⟨[], rfl, fun _ z => absurd z List.not_mem_nil⟩
        | cons x xr ih =>
          obtain ⟨s, rfl, ok⟩ := hq x (List.mem_cons_self ..)
          obtain ⟨bl, e5, okb⟩ := ih fun y hy => hq y (List.mem_cons_of_mem _ hy)
          injection e5 with e5
          exact ⟨s :: bl, by rw [e5]; rfl, fun y hy => by
            rcases List.mem_cons.mp hy with rfl | hy
            · exact ok
            · exact okb y hy⟩
      have hm := look_mem e2
      simp only [stmtL, S1, List.mem_cons, List.not_mem_nil, or_false, Prod.mk.injEq] at hm
      rcases hm with ⟨rfl, rfl⟩ | ⟨rfl, rfl⟩ | ⟨rfl, rfl⟩ | ⟨rfl, rfl⟩ | ⟨rfl, rfl⟩ | ⟨rfl, rfl⟩ | ⟨rfl, rfl⟩ | ⟨rfl, rfl⟩ | ⟨rfl, rfl⟩ | ⟨rfl, rfl⟩ | ⟨rfl, rfl⟩ | ⟨rfl, rfl⟩ | ⟨rfl, rfl⟩
      · obtain ⟨a, rfl, h1⟩ := fit1 h
        obtain ⟨x, rfl, n1⟩ := nameD_of h1
        exact ⟨.act (.make x), rfl, n1⟩
      · obtain ⟨a, b, rfl, h1, h2⟩ := fit2 h
        obtain ⟨x, rfl, n1⟩ := nameD_of h1
        obtain ⟨y, rfl, n2⟩ := wordD_of h2
        exact ⟨.act (.wish x y), rfl, n1, n2⟩
      · obtain ⟨a, rfl, h1⟩ := fit1 h
        obtain ⟨x, rfl, n1⟩ := nameD_of h1
        exact ⟨.act (.keep x), rfl, n1⟩
      · obtain ⟨a, b, rfl, h1, h2⟩ := fit2 h
        obtain ⟨x, rfl, n1⟩ := nameD_of h1
        obtain ⟨y, rfl, n2⟩ := nameD_of h2
        exact ⟨.act (.name x y), rfl, n1, n2⟩
      · obtain ⟨a, rfl, h1⟩ := fit1 h
        obtain ⟨x, rfl, n1⟩ := nameD_of h1
        exact ⟨.act (.drop x), rfl, n1⟩
      · obtain ⟨a, b, c, rfl, h1, h2, h3⟩ := fit3 h
        obtain ⟨x, rfl, n1⟩ := nameD_of h1
        obtain ⟨y, rfl, n2⟩ := nameD_of h2
        obtain ⟨z, rfl, n3⟩ := nameD_of h3
        exact ⟨.act (.hold x y z), rfl, n1, n2, n3⟩
      · obtain ⟨a, b, c, rfl, h1, h2, h3⟩ := fit3 h
        obtain ⟨x, rfl, n1⟩ := nameD_of h1
        obtain ⟨y, rfl, n2⟩ := nameD_of h2
        obtain ⟨z, rfl, n3⟩ := nameD_of h3
        exact ⟨.act (.weak x y z), rfl, n1, n2, n3⟩
      · obtain ⟨a, b, rfl, h1, h2⟩ := fit2 h
        obtain ⟨x, rfl, n1⟩ := nameD_of h1
        obtain ⟨y, rfl, n2⟩ := nameD_of h2
        exact ⟨.act (.cut x y), rfl, n1, n2⟩
      · obtain ⟨a, b, c, rfl, h1, h2, h3⟩ := fit3 h
        obtain ⟨x, rfl, n1⟩ := nameD_of h1
        obtain ⟨y, rfl, n2⟩ := nameD_of h2
        obtain ⟨z, rfl, n3⟩ := nameD_of h3
        exact ⟨.act (.take x y z), rfl, n1, n2, n3⟩
      · obtain ⟨a, rfl, h1⟩ := fit1 h
        obtain ⟨x, rfl, n1⟩ := wordD_of h1
        exact ⟨.act (.say x), rfl, n1⟩
      · obtain ⟨a, rfl, h1⟩ := fit1 h
        obtain ⟨t, rfl, n1⟩ := test_of hg h1
        exact ⟨.act (.ask t), rfl, n1⟩
      · obtain ⟨a, b, c, rfl, h1, h2, h3⟩ := fit3 h
        obtain ⟨t, rfl, n1⟩ := test_of hg h1
        obtain ⟨y, rfl, oy⟩ := blkOf b (by show b ∈ [b, c]; simp)
        obtain ⟨n, rfl, on⟩ := blkOf c (by show c ∈ [_, c]; simp)
        exact ⟨.cond t y n, rfl, n1, oy, on⟩
      · obtain ⟨a, b, rfl, h1, h2⟩ := fit2 h
        obtain ⟨i, rfl, i0, i1⟩ := rngD_of h1
        obtain ⟨kk, rfl⟩ : ∃ k : Nat, i = (k : Int) := ⟨i.toNat, by omega⟩
        obtain ⟨y, rfl, oy⟩ := blkOf b (by show b ∈ [b]; simp)
        exact ⟨.rep kk y, rfl, (show kk < 13 by omega), oy⟩
/-- nothing wrong: all are statements on paper -/
theorem fw_none {g : Int} (hg : g ≤ 3) {n pl : Nat} {q : List (Nat × PyData)} {o : Option (Nat × Str)} (f : FW g n pl q o) (eo : o = none) : ∀ p ∈ q, p.1 ≤ 4 ∧ ∃ s : Sta, p.2 = s.data ∧ StaOk (5 - p.1) s := by
  induction f with
  | nil pl => exact fun p hp => absurd hp List.not_mem_nil
  | nest pl dp d r h => cases eo
  | wrong pl dp d r h1 h2 => cases eo
  | @step n pl dp d r o h1 h2 h3 f ih =>
    have ih := ih eo
    intro p hp
    rcases List.mem_cons.mp hp with rfl | hp
    · refine ⟨h1, ?_⟩
      have z : ∀ b ∈ partsD d, ∀ x ∈ tupI b, ∃ s : Sta, x = s.data ∧ StaOk (4 - dp) s := fun b hb x hx => by
        obtain ⟨e1, s, e2, ok⟩ := ih (dp + 1, x) (List.mem_append_left _ (List.mem_flatMap.mpr ⟨b, hb, List.mem_map.mpr ⟨x, hx, rfl⟩⟩))
        exact ⟨s, e2, by rw [show 4 - dp = 5 - (dp + 1) by omega]; exact ok⟩
      have := sta_of hg h2 z
      rw [show 4 - dp + 1 = 5 - dp by omega] at this
      exact this
    · exact ih p (List.mem_append_right _ hp)
theorem blk_of {g : Int} (hg : g ≤ 3) {n : Nat} {ds : List PyData} (f : FW g n 0 (ds.map fun d => (0, d)) none) : ∃ blk : List Sta, ds = blkData blk ∧ ∀ s ∈ blk, StaOk 5 s := by
  have z : ∀ d ∈ ds, ∃ s : Sta, d = s.data ∧ StaOk 5 s := fun d hd => by
    obtain ⟨_, s, e, ok⟩ := fw_none hg f rfl (0, d) (List.mem_map.mpr ⟨d, hd, rfl⟩)
    exact ⟨s, e, ok⟩
  clear f
  induction ds with
  | nil => exact ⟨[], rfl, fun _ z => absurd z List.not_mem_nil⟩
  | cons x xr ih =>
    obtain ⟨s, rfl, ok⟩ := z x (List.mem_cons_self ..)
    obtain ⟨bl, e5, okb⟩ := ih fun y hy => z y (List.mem_cons_of_mem _ hy)
    exact ⟨s :: bl, by rw [e5]; rfl, fun y hy => by
      rcases List.mem_cons.mp hy with rfl | hy
      · exact ok
      · exact okb y hy⟩
/-- as many turns as statements -/
theorem parts_data (s : Sta) : partsD s.data = (partsOf s).map partD := by
  cases s with
  | act a => cases a <;> rfl
  | cond t y n => rfl
  | rep k b => rfl
theorem blk_inj_size : ∀ {b : List Sta} {c : List Sta}, True := fun {_ _} => trivial
end G

set_option Elab.async false
set_option linter.all false
set_option maxRecDepth 100000
set_option maxHeartbeats 4000000
/-! The bounds; program_error. -/
namespace G
open PySem PySem.Spec PyProof.Rows L2 StX RZ
mutual
def dS : PyData → Nat
  | .tuple (.str w :: _ :: ds) => 1 + (if blkW w then dBs ds else 0)
  | _ => 1
def dBs : List PyData → Nat
  | [] => 0
  | b :: r => dBk b + dBs r
def dBk : PyData → Nat
  | .tuple xs => dSs xs
  | _ => 0
def dSs : List PyData → Nat
  | [] => 0
  | x :: r => dS x + dSs r
end
theorem dSs_append : ∀ a b : List PyData, dSs (a ++ b) = dSs a + dSs b
  | [], b => by simp [dSs]
  | x :: r, b => by
    rw [List.cons_append, dSs, dSs, dSs_append r b]
    omega
theorem dBs_flat (dp : Nat) : ∀ bs : List PyData, dSs ((bs.flatMap fun b => (tupI b).map fun x => (dp + 1, x)).map (·.2)) = dBs bs
  | [] => by simp [dSs, dBs]
  | b :: r => by
    rw [List.flatMap_cons, List.map_append, dSs_append, dBs_flat dp r, dBs]
    have e : dSs (((tupI b).map fun x => (dp + 1, x)).map (·.2)) = dBk b := by
      rw [List.map_map]
      have : ((fun x : Nat × PyData => x.2) ∘ fun x => (dp + 1, x)) = id := rfl
      rw [this, List.map_id]
      cases b <;> simp [tupI, dBk, dSs]
    rw [e]
theorem fw_size {g : Int} {n pl : Nat} {q : List (Nat × PyData)} {o : Option (Nat × Str)} (f : FW g n pl q o) (eo : o = none) : dSs (q.map (·.2)) = n := by
  induction f with
  | nil pl => simp [dSs]
  | nest pl dp d r h => cases eo
  | wrong pl dp d r h1 h2 => cases eo
  | @step n pl dp d r o h1 h2 h3 f ih =>
    have ih := ih eo
    rw [List.map_append, dSs_append] at ih
    rw [List.map_cons, dSs]
    obtain ⟨z, a, ds, rfl⟩ := stmt_shape h2
    have e : dSs ((innerQ dp (.tuple (.str z :: a :: ds))).map (·.2)) = if blkW z then dBs ds else 0 := by
      unfold innerQ
      rw [dBs_flat]
      show dBs (if blkW z then ds else []) = _
      by_cases c : blkW z = true
      · rw [if_pos c, if_pos c]
      · rw [if_neg c, if_neg c]
        simp [dBs]
    rw [e] at ih
    rw [dS]
    omega
mutual
theorem dS_sta : ∀ s : Sta, dS s.data = s.size
  | .act a => by
    have e := parts_data (.act a)
    have e : partsD a.data = [] := e
    show dS a.data = 1
    cases a <;> first | rfl | (simp [Act.data, dS, blkW]; decide)
  | .cond t y n => by
    show dS (.tuple [.str "if", t.data, .tuple (blkData y), .tuple (blkData n)]) = 1 + (sizeB y + sizeB n)
    rw [dS, show blkW (Str.ofString "if") = true by decide +kernel, if_pos rfl, dBs, dBs, dBs, dBk, dBk, dSs_blk y, dSs_blk n]
    omega
  | .rep k b => by
    show dS (.tuple [.str "repeat", .int k, .tuple (blkData b)]) = 1 + sizeB b
    rw [dS, show blkW (Str.ofString "repeat") = true by decide +kernel, if_pos rfl, dBs, dBs, dBk, dSs_blk b]
    omega
theorem dSs_blk : ∀ b : List Sta, dSs (blkData b) = sizeB b
  | [] => by simp [blkData, dSs, sizeB]
  | s :: r => by
    show dSs (s.data :: blkData r) = s.size + sizeB r
    rw [dSs, dS_sta s, dSs_blk r]
end
def pairD : PyData → Bool
  | .tuple [d0, d1] => rngD 0 3 d0 && isTupD d1
  | _ => false
def progE : PyData := .tuple [.none, .str "program"]
def bndD (blk : List Sta) (k : Nat) : PyData := if 30 < sizeB blk then .tuple [.none, .str "places"] else if 200 < wtB blk then .tuple [.none, .str "weight"] else if 4 < k then .tuple [.none, .str "wishes"] else .none
section
variable {P : Program} {w : World} {K : PySem.W.Frag} {mg : Str → Option Value} {base : Heap} {RV : Addr}
abbrev s_size : Stmt := top 32
abbrev n_size : List Str := ["block"]
theorem sc_size : FnScope n_size ["block"] (defScope s_size) := ⟨rfl, rfl, rfl, by decide +kernel, rfl, by decide +kernel, by decide +kernel⟩
def spSize : Sp := fun vs H Q _ => ∃ (bv : V) (b : List Sta), vs = [bv] ∧ TD H bv (partD b) ∧ (∀ s ∈ b, NestOk 5 s) ∧ sizeB b ≤ 10000 ∧ ∀ H', Same H H' → Q (.int (sizeB b : Nat)) H'
theorem ok_size {f fR : Addr} {fd dR : FuncData} (F : Fun K "size_of" "size_of" s_size f fd) (z_len : mg "len" = none) (DR : Df K mg "rows_of" s_rows_of ["block", "depth"] fR dR) (GR : FnOk P w K mg base CX0 7 fR dR ["block", "depth"] (spRO 5)) : FnOk P w K mg base CX0 8 f fd ["block"] spSize := by
  refine F.ok sc_size (fun vs H Q E ⟨bv, b, ev, _⟩ => by rw [ev]; rfl) (fun cdv A outer s H vs Q E hr ⟨bv, b, ev, td, hd, hz, q⟩ => ?_)
  subst ev
  refine ⟨_, (pss_one (ps_ret (pe_callB call_len_seq (by rfl) z_len (by decide +kernel) (pa_cons (pe_call GR hr (by rfl) DR.m DR.F.kp DR.b .nil pass0 (pa_cons (pv 0) (pa_cons pe_int pa_nil))) pa_nil)))), ?_⟩
  refine ⟨bv, rfl, bv, b, 0, rfl, td, hd, hz, fun H9 L ws s9 nL gL tdw => ?_⟩
  refine ⟨L, ws, rfl, .inl (SqL.of gL), ?_⟩
  rw [tdw.len, List.length_map, rowsP_len]
  exact q _ s9
abbrev s_is_givens : Stmt := top 17
theorem sc_is_givens : FnScope n_value ["value"] (defScope s_is_givens) := ⟨rfl, rfl, rfl, by decide +kernel, rfl, by decide +kernel, by decide +kernel⟩
theorem ok_givens {f fN : Addr} {fd dN : FuncData} (F : Fun K "is_givens" "is_givens" s_is_givens f fd) (N : KN K mg RV) (DN : Df K mg "is_from_to" s_is_from_to ["value", "low", "high"] fN dN) (GN : FnOk P w K mg base CX0 2 fN dN ["value", "low", "high"] spFT) : FnOk P w K mg base CX0 3 f fd ["value"] (spB (rngD 0 3)) := by
  refine F.ok sc_is_givens (fun vs H Q E ⟨_, _, _, ev, _⟩ => by rw [ev]; rfl) (fun cdv A outer s H vs Q E hr ⟨G, v, d, ev, gd, q⟩ => ?_)
  subst ev
  obtain ⟨tm, hm⟩ := N.mGiv
  exact ⟨_, pss_one (ps_ret (pe_call GN hr (by rfl) DN.m DN.F.kp DN.b .nil pass0 (pa_cons (pv 0) (pa_cons pe_int (pa_cons (pe_glob (v := .int 3) rfl hm ⟨_, rfl⟩) pa_nil))))), _, rfl, G, v, d, 0, 3, rfl, gd, q H (Same.refl _)⟩
abbrev s__is_pair : Stmt := top 37
theorem sc__is_pair : FnScope n_value ["value"] (defScope s__is_pair) := ⟨rfl, rfl, rfl, by decide +kernel, rfl, by decide +kernel, by decide +kernel⟩
theorem ok_pair {f fN : Addr} {fd dN : FuncData} (F : Fun K "_is_pair" "_is_pair" s__is_pair f fd) (N : KN K mg RV) (DN : Df K mg "is_givens" s_is_givens ["value"] fN dN) (GN : FnOk P w K mg base CX0 3 fN dN ["value"] (spB (rngD 0 3))) : FnOk P w K mg base CX0 4 f fd ["value"] (spB pairD) := by
  refine F.ok sc__is_pair (fun vs H Q E ⟨_, _, _, ev, _⟩ => by rw [ev]; rfl) (fun cdv A outer s H vs Q E hr ⟨G, v, d, ev, gd, q⟩ => ?_)
  subst ev
  refine ⟨_, (pss_one (ps_ret (pe_and (pe_callB (show CallR _ (.builtin "isinstance") (rIsi K) from call_isi) (by rfl) N.z_isi (by decide +kernel) (pa_cons (pv 0) (pa_cons (pe_bltn (v := .ty "tuple") (by rfl) N.z_tuple rfl rfl) pa_nil))) (pe_and (pe_cmpR op_eq (pe_callB call_len_seq (by rfl) N.z_len (by decide +kernel) (pa_cons (pv 0) pa_nil)) pe_int (nomark _)) (pe_and (pe_call GN hr (by rfl) DN.m DN.F.kp DN.b .nil pass0 (pa_cons (pe_ix ix_tup (pv 0) pe_int (fun _ _ => rfl)) pa_nil)) (pe_one (pe_callB (show CallR _ (.builtin "isinstance") (rIsi K) from call_isi) (by rfl) N.z_isi (by decide +kernel) (pa_cons (pe_ix ix_tup (pv 0) pe_int (fun _ _ => rfl)) (pa_cons (pe_bltn (v := .ty "tuple") (by rfl) N.z_tuple rfl rfl) pa_nil))))))))), ?_⟩
  refine ⟨_, rfl, _, _, _, _, _, rfl, .ty "tuple", gd.ty, kit_tup d, _, rfl, ?_⟩
  cases e : isTupD d with
  | false =>
    have e2 : pairD d = false := by cases d <;> first | rfl | cases e
    rw [e2] at q
    exact iteF (q H (Same.refl _))
  | true =>
    obtain ⟨ds, rfl⟩ := tupD_of e
    obtain ⟨a, xs, rfl, ga, gx⟩ := gd_tup gd
    have lx := gx.len
    refine iteT ⟨_, rfl, a, _, rfl, .inr (SqT.of ga), rfl, _, rfl, ?_⟩
    by_cases c : (xs.length : Int) = 2
    · rw [show decide (V.int (xs.length : Int) = V.int 2) = true from decide_eq_true (by rw [c])]
      match ds, lx with
      | [d0, d1], _ =>
        obtain ⟨v0, ys, rfl, g0, g1⟩ := gds_cons gx
        obtain ⟨v1, zs, rfl, g2, g3⟩ := gds_cons g1
        cases g3
        have q : ∀ H', Same H H' → Q (.bl (rngD 0 3 d0 && isTupD d1)) H' := q
        refine iteT ⟨_, rfl, a, _, _, _, rfl, rfl, SqT.of ga, atI_nat (j := 0) rfl, G, v0, d0, rfl, g0, fun H2 s2 => ⟨_, rfl, ?_⟩⟩
        cases e3 : rngD 0 3 d0 with
        | false =>
          rw [e3] at q
          exact iteF (q H2 s2)
        | true =>
          rw [e3] at q
          exact iteT ⟨_, rfl, a, _, _, _, rfl, rfl, SqT.of (s2 _ _ ga), atI_nat (j := 1) rfl, _, _, _, _, _, rfl, .ty "tuple", (g2.same s2).ty, kit_tup d1, q H2 s2⟩
      | [], l => exact absurd c (by simp only [List.length_nil] at l; omega)
      | [_], l => exact absurd c (by simp only [List.length_cons, List.length_nil] at l; omega)
      | _ :: _ :: _ :: _, l => exact absurd c (by simp only [List.length_cons] at l; omega)
    · rw [show decide (V.int (xs.length : Int) = V.int 2) = false from decide_eq_false (fun z => c (by injection z))]
      have e2 : pairD (.tuple ds) = false := by
        match ds, lx with
        | [d0, d1], l => exact absurd (by simp only [List.length_cons, List.length_nil] at l; omega) c
        | [], _ => rfl
        | [_], _ => rfl
        | _ :: _ :: _ :: _, _ => rfl
      rw [e2] at q
      exact iteF (q H (Same.refl _))
abbrev s__first_bound : Stmt := top 39
abbrev n__first_bound : List Str := ["program"]
theorem sc__first_bound : FnScope n__first_bound ["program"] (defScope s__first_bound) := ⟨rfl, rfl, rfl, by decide +kernel, rfl, by decide +kernel, by decide +kernel⟩
/-- how many different wishes, where it matters -/
def WishN (blk : List Sta) (k : Nat) : Prop := sizeB blk ≤ 30 → wtB blk ≤ 200 → ∃ ys : List Str, SortD (wishesL (rowsP 0 blk)) ys ∧ k = ys.length
def spFB : Sp := fun vs H Q _ => ∃ (v : V) (g : Int) (b : List Sta), vs = [v] ∧ TD H v (.tuple [.int g, partD b]) ∧ (∀ s ∈ b, StaOk 5 s) ∧ sizeB b ≤ 10000 ∧ ∀ k, WishN b k → ∀ H' u, Same H H' → TD H' u (bndD b k) → Q u H'
theorem ok_bound {f fS fW fI : Addr} {fd dS' dW dI : FuncData} (F : Fun K "_first_bound" "_first_bound" s__first_bound f fd) (N : KN K mg RV)
    (DS : Df K mg "size_of" s_size ["block"] fS dS') (GS : FnOk P w K mg base CX0 8 fS dS' ["block"] spSize)
    (DW : Df K mg "weight" s_weight ["program"] fW dW) (GW : FnOk P w K mg base CX0 8 fW dW ["program"] spWt)
    (DI : Df K mg "wishes_of" s_wishes_of ["program"] fI dI) {ki : Nat} (hki : ki ≤ 12) (GI : FnOk P w K mg base CX0 ki fI dI ["program"] spWs) : FnOk P w K mg base CX0 13 f fd ["program"] spFB := by
  refine F.ok sc__first_bound (fun vs H Q E ⟨_, _, _, ev, _⟩ => by rw [ev]; rfl) (fun cdv A outer s H vs Q E hr ⟨v, g, b, ev, td, ok, hz, q⟩ => ?_)
  subst ev
  have hr8 : Room 8 _ := hr.mono (by decide)
  have hri : Room ki _ := hr.mono hki
  obtain ⟨t1, m1⟩ := N.mPl
  obtain ⟨t2, m2⟩ := N.mWt
  obtain ⟨t3, m3⟩ := N.mWi
  refine ⟨_, (pss_cons (ps_if (pt_cmpR op_gt (pe_call GS hr8 (by rfl) DS.m DS.F.kp DS.b .nil pass0 (pa_cons (pe_ix ix_tup (pv 0) pe_int (fun _ _ => rfl)) pa_nil)) (pe_glob (v := .int 30) rfl m1 ⟨_, rfl⟩) (nomark _))
      (pss_one (ps_ret (pe_tup (pa_cons pe_non (pa_cons pe_str pa_nil)))))
      pss_nil)
      (pss_cons (ps_if (pt_cmpR op_gt (pe_call GW hr8 (by rfl) DW.m DW.F.kp DW.b .nil pass0 (pa_cons (pv 0) pa_nil)) (pe_glob (v := .int 200) rfl m2 ⟨_, rfl⟩) (nomark _))
      (pss_one (ps_ret (pe_tup (pa_cons pe_non (pa_cons pe_str pa_nil)))))
      pss_nil)
      (pss_cons (ps_if (pt_cmpR op_gt (pe_callB call_len_seq (by rfl) N.z_len (by decide +kernel) (pa_cons (pe_call GI hri (by rfl) DI.m DI.F.kp DI.b .nil pass0 (pa_cons (pv 0) pa_nil)) pa_nil)) (pe_glob (v := .int 4) rfl m3 ⟨_, rfl⟩) (nomark _))
      (pss_one (ps_ret (pe_tup (pa_cons pe_non (pa_cons pe_str pa_nil)))))
      pss_nil)
      (pss_one (ps_ret pe_non))))), ?_⟩
  obtain ⟨r0, xs, rfl, gr0, e0⟩ := td_tup td
  obtain ⟨v1, ys, rfl, d1, e1⟩ := tds_cons e0
  cases d1
  obtain ⟨v2, rfl, d2⟩ := tds1 e1
  have nest : ∀ s ∈ b, NestOk 5 s := fun s hs => nest_of (ok s hs)
  have fin : ∀ (H2 : Hp) (wd : Str) (k : Nat), Same H H2 → WishN b k → bndD b k = .tuple [.none, .str wd] → ∀ p, H2 p = none → Q (.ref p) (upd H2 p (.tup [.non, .str wd])) := fun H2 wd k s2 hk e p np =>
    q k hk _ _ (Same.trans s2 (Same.up np)) (by rw [e]; exact .tup upd_same (.cons .non (.cons (.str _) .nil)))
  refine ⟨_, rfl, r0, _, _, _, rfl, rfl, SqT.of gr0, atI_nat (j := 1) rfl, v2, b, rfl, d2, nest, hz, fun H1 s1 => ⟨_, _, rfl, rfl, _, rfl, ite2 (fun c => ?_) (fun c => ?_)⟩⟩
  · have c1 : (30 : Int) < (sizeB b : Nat) := of_decide_eq_true c
    refine ⟨line1000 (Nat.le_of_ble_eq_true rfl), fin H1 _ 0 s1 (fun z => absurd z (by omega)) ?_⟩
    unfold bndD
    rw [if_pos (by omega)]
  · have c1 : ¬ (30 : Int) < (sizeB b : Nat) := fun z => c (decide_eq_true z)
    refine ⟨_, rfl, _, g, b, rfl, TD.ch (Ch.same (S := []) s1) _ _ td, ok, hz, fun H2 s2 => ⟨_, _, rfl, rfl, _, rfl, ite2 (fun c2 => ?_) (fun c2 => ?_)⟩⟩
    · have c3 : (200 : Int) < wtB b := of_decide_eq_true c2
      refine ⟨line1000 (Nat.le_of_ble_eq_true rfl), fin H2 _ 0 (Same.trans s1 s2) (fun _ z => absurd z (by omega)) ?_⟩
      unfold bndD
      rw [if_neg (by omega), if_pos c3]
    · have c3 : ¬ (200 : Int) < wtB b := fun z => c2 (decide_eq_true z)
      have s12 := Same.trans s1 s2
      refine ⟨_, rfl, _, g, b, rfl, TD.ch (Ch.same (S := []) s12) _ _ td, nest, by omega, fun H3 p ws s3 hs gp => ⟨p, _, rfl, .inr (SqT.of gp), _, _, rfl, rfl, _, rfl, ?_⟩⟩
      rw [List.length_map]
      have hk : WishN b ws.length := fun _ _ => ⟨ws, hs, rfl⟩
      refine ite2 (fun c4 => ?_) (fun c4 => ?_)
      · have c5 : (4 : Int) < (ws.length : Nat) := of_decide_eq_true c4
        refine ⟨line1000 (Nat.le_of_ble_eq_true rfl), fin H3 _ ws.length (Same.trans s12 s3) hk ?_⟩
        unfold bndD
        rw [if_neg (by omega), if_neg (by omega), if_pos (by omega)]
      · have c5 : ¬ (4 : Int) < (ws.length : Nat) := fun z => c4 (decide_eq_true z)
        refine q ws.length hk H3 _ (Same.trans s12 s3) ?_
        unfold bndD
        rw [if_neg (by omega), if_neg (by omega), if_neg (by omega)]
        exact .non
abbrev s_program_error : Stmt := top 40
abbrev n_program_error : List Str := ["value", "wrong"]
theorem sc_program_error : FnScope n_program_error ["value"] (defScope s_program_error) := ⟨rfl, rfl, rfl, by decide +kernel, rfl, by decide +kernel, by decide +kernel⟩
def spPE : Sp := fun vs H Q _ => ∃ (G : Addr → Prop) (v : V) (d : PyData), vs = [v] ∧ GV G H v d ∧ (pairD d = false → ∀ H' u, Same H H' → TD H' u progE → Q u H') ∧
  (pairD d = true → ∃ (g : Int) (ds : List PyData) (n : Nat) (o : Option (Nat × Str)), d = .tuple [.int g, .tuple ds] ∧ ds.length ≤ 100000 ∧ n ≤ 10000 ∧ FW g n 0 (ds.map fun d => (0, d)) o ∧ (∀ x, o = some x → ∀ H' u, Same H H' → TD H' u (wrongD (some x)) → Q u H') ∧
    (o = none → ∀ blk : List Sta, ds = blkData blk → (∀ s ∈ blk, StaOk 5 s) → sizeB blk = n → ∀ k, WishN blk k → ∀ H' u, Same H H' → TD H' u (bndD blk k) → Q u H'))
theorem ok_perror {f fP fW fB : Addr} {fd dP dW dB : FuncData} {k : Nat} (hk : 13 ≤ k) (F : Fun K "program_error" "program_error" s_program_error f fd)
    (DP : Df K mg "_is_pair" s__is_pair ["value"] fP dP) (GP : FnOk P w K mg base CX0 4 fP dP ["value"] (spB pairD))
    (DW : Df K mg "_first_wrong" s__first_wrong ["givens", "block"] fW dW) (GW : FnOk P w K mg base CX0 k fW dW ["givens", "block"] spWr)
    (DB : Df K mg "_first_bound" s__first_bound ["program"] fB dB) (GB : FnOk P w K mg base CX0 13 fB dB ["program"] spFB) : FnOk P w K mg base CX0 (k + 1) f fd ["value"] spPE := by
  refine F.ok sc_program_error (fun vs H Q E ⟨_, _, _, ev, _⟩ => by rw [ev]; rfl) (fun cdv A outer s H vs Q E hr ⟨G, v, d, ev, gd, q1, q2⟩ => ?_)
  subst ev
  have hr4 : Room 4 _ := hr.mono (by omega)
  have hr13 : Room 13 _ := hr.mono hk
  refine ⟨_, (pss_cons (ps_if (pt_not (pt_val (pe_call GP hr4 (by rfl) DP.m DP.F.kp DP.b .nil pass0 (pa_cons (pv 0) pa_nil))))
      (pss_one (ps_ret (pe_tup (pa_cons pe_non (pa_cons pe_str pa_nil)))))
      pss_nil)
      (pss_cons (ps_set (i := 1) sc_program_error.nd rfl (.inl rfl) (pe_call GW hr (by rfl) DW.m DW.F.kp DW.b .nil pass0 (pa_cons (pe_ix ix_tup (pv 0) pe_int (fun _ _ => rfl)) (pa_cons (pe_ix ix_tup (pv 0) pe_int (fun _ _ => rfl)) pa_nil))))
      (pss_cons (ps_if (pt_cmpR op_notN (pv 1) pe_non (nomark _))
      (pss_one (ps_ret (pv 1)))
      pss_nil)
      (pss_one (ps_ret (pe_call GB hr13 (by rfl) DB.m DB.F.kp DB.b .nil pass0 (pa_cons (pv 0) pa_nil))))))), ?_⟩
  refine ⟨_, rfl, G, v, d, rfl, gd, fun H1 s1 => ⟨_, rfl, ?_⟩⟩
  cases e : pairD d with
  | false => exact iteT ⟨line1000 (Nat.le_of_ble_eq_true rfl), fun p np => q1 e _ _ (Same.trans s1 (Same.up np)) (.tup upd_same (.cons .non (.cons (.str _) .nil)))⟩
  | true =>
    obtain ⟨g, ds, n, o, rfl, hl, hn, fw, w1, w2⟩ := q2 e
    have hg : 0 ≤ g ∧ g ≤ 3 := by
      have e : (rngD 0 3 (.int g) && true) = true := e
      obtain ⟨e1, _⟩ := Bool.and_eq_true_iff.mp e
      obtain ⟨i, ei, h0, h1⟩ := rngD_of e1
      cases ei
      exact ⟨h0, h1⟩
    have gd0 := gd
    obtain ⟨a, xs, rfl, ga, gx⟩ := gd_tup gd
    obtain ⟨v0, ys, rfl, g0, g1⟩ := gds_cons gx
    cases g0
    obtain ⟨v1, zs, rfl, g2, g3⟩ := gds_cons g1
    cases g3
    have ga1 := s1 _ _ ga
    refine iteF ⟨_, rfl, a, _, _, _, rfl, rfl, SqT.of ga1, atI_nat (j := 0) rfl, _, rfl, a, _, _, _, rfl, rfl, SqT.of ga1, atI_nat (j := 1) rfl, G, v1, ds, g, n, o, rfl, g2.same s1, hg.1, hl, fw, fun H2 u s2 tdu => ?_⟩
    have s12 := Same.trans s1 s2
    cases o with
    | some x =>
      have nn : u ≠ .non := fun z => by
        rw [z] at tdu
        cases tdu
      refine ⟨_, rfl, rfl, _, rfl, ?_⟩
      rw [show (!decide (u = V.non)) = true by rw [decide_eq_false nn]; rfl]
      exact iteT ⟨_, rfl, w1 x rfl H2 u s12 tdu⟩
    | none =>
      cases tdu
      obtain ⟨blk, rfl, okb⟩ := blk_of hg.2 fw
      have hsz : sizeB blk = n := by
        have z := fw_size fw rfl
        rw [List.map_map] at z
        have : ((fun x : Nat × PyData => x.2) ∘ fun x => (0, x)) = id := rfl
        rw [this, List.map_id, dSs_blk] at z
        exact z
      have tdP : TD H2 (.ref a) (.tuple [.int g, partD blk]) := by
        refine GV.td (F := G) _ _ ?_ (gd0.same s12)
        show (true && (plainDs (blkData blk) && true)) = true
        rw [plain_blk]
        rfl
      refine ⟨_, rfl, rfl, _, rfl, iteF ⟨_, rfl, _, g, blk, rfl, tdP, okb, by omega, fun k hk H3 u3 s3 td3 => w2 rfl blk rfl okb hsz k hk H3 u3 (Same.trans s12 s3) td3⟩⟩
end
end G

set_option Elab.async false
set_option linter.all false
set_option maxRecDepth 100000
set_option maxHeartbeats 4000000
/-! Rules: any value == a text, != a text; a tuple != (); a tuple backwards. -/
namespace PySem.SeqAt
open MeetsSeq PySem.AutoSeq1
theorem dict_eq_declines_str (l : Addr) (es : Array DictEntry) (n : Nat) (dd : Option Addr) (sl : Array (Option Value)) (b : Str) (u : Tok) :
    Meets (Builtin.«dict.__eq__» ⟨[.ref l, .str b u], []⟩) (fun _ R s => s.heap.get? l = some { cls := .type "dict", dict := dd, data := .dict es n, slots := sl } ∧ R (.ok (.ret .notImplemented)) s) :=
  .of_wp fun prog w A R s h => by obtain ⟨hp, g, d, tk, os⟩ := s; obtain ⟨hl, h⟩ := h; have f1 := F.sub_str_dict; wp_walk using wpAny_loadPart' hl; exact ⟨_, rfl, h⟩
theorem dict_ne_declines_str (l : Addr) (es : Array DictEntry) (n : Nat) (dd : Option Addr) (sl : Array (Option Value)) (b : Str) (u : Tok) :
    Meets (Builtin.«dict.__ne__» ⟨[.ref l, .str b u], []⟩) (fun _ R s => s.heap.get? l = some { cls := .type "dict", dict := dd, data := .dict es n, slots := sl } ∧ R (.ok (.ret .notImplemented)) s) :=
  .of_wp fun prog w A R s h => by obtain ⟨hp, g, d, tk, os⟩ := s; obtain ⟨hl, h⟩ := h; have f1 := F.sub_str_dict; wp_walk using wpAny_loadPart' hl; exact ⟨_, rfl, h⟩
theorem str_eq_declines_dict (b : Str) (u : Tok) (l : Addr) (es : Array DictEntry) (n : Nat) (dd : Option Addr) (sl : Array (Option Value)) :
    Meets (Builtin.«str.__eq__» ⟨[.str b u, .ref l], []⟩) (fun _ R s => s.heap.get? l = some { cls := .type "dict", dict := dd, data := .dict es n, slots := sl } ∧ R (.ok (.ret .notImplemented)) s) :=
  .of_wp fun prog w A R s h => by obtain ⟨hp, g, d, tk, os⟩ := s; obtain ⟨hl, h⟩ := h; wp_walk using wpAny_loadPart' hl, wpAny_load hl; exact ⟨_, rfl, h⟩
theorem str_ne_declines_dict (b : Str) (u : Tok) (l : Addr) (es : Array DictEntry) (n : Nat) (dd : Option Addr) (sl : Array (Option Value)) :
    Meets (Builtin.«str.__ne__» ⟨[.str b u, .ref l], []⟩) (fun _ R s => s.heap.get? l = some { cls := .type "dict", dict := dd, data := .dict es n, slots := sl } ∧ R (.ok (.ret .notImplemented)) s) :=
  .of_wp fun prog w A R s h => by obtain ⟨hp, g, d, tk, os⟩ := s; obtain ⟨hl, h⟩ := h; wp_walk using wpAny_loadPart' hl, wpAny_load hl; exact ⟨_, rfl, h⟩
section
variable {A : Around} {s : Shared}
theorem RcAt.dict_str {l : Addr} {es : Array DictEntry} {n : Nat} {dd : Option Addr} {sl : Array (Option Value)} (b : Str) (u : Tok) (ho : s.heap.get? l = some { cls := .type "dict", dict := dd, data := .dict es n, slots := sl }) (hu : A.units < cLine) : RcAt A s (.ref l) (.str b u) false := fun prog w E Q h =>
  rc_eq_decline_or (k := false) ⟨_, ho, rfl⟩ (typeIs_str s b u) (by decide) F.sub_str_dict F.slot_dict_eq F.slot_str_eq_refl
    (fun _ hq => call_meets F.slot_dict_eq ⟨_, ho, rfl⟩ F.entry_dict_eq (F.args_dict_eq_2 _ _) (dict_eq_declines_str l es n dd sl b u) ⟨ho, hq⟩)
    (fun _ hq => call_meets F.slot_str_eq_refl (typeIs_str s b u) F.entry_str_eq (F.args_str_eq_2 _ _) (str_eq_declines_dict b u l es n dd sl) ⟨ho, hq⟩)
    (fun _ hq => wpAny_of_eq (rfl : isSame (.ref l) (.str b u) = pure false) hq) (.inr hu) h
theorem RcNeAt.dict_str {l : Addr} {es : Array DictEntry} {n : Nat} {dd : Option Addr} {sl : Array (Option Value)} (b : Str) (u : Tok) (ho : s.heap.get? l = some { cls := .type "dict", dict := dd, data := .dict es n, slots := sl }) (hu : A.units < cLine) : RcNeAt A s (.ref l) (.str b u) true := fun prog w E Q h =>
  rc_ne_decline_or (k := false) ⟨_, ho, rfl⟩ (typeIs_str s b u) (by decide) F.sub_str_dict F.slot_dict_ne F.slot_str_ne_refl
    (fun _ hq => call_meets F.slot_dict_ne ⟨_, ho, rfl⟩ F.entry_dict_ne (F.args_dict_ne_2 _ _) (dict_ne_declines_str l es n dd sl b u) ⟨ho, hq⟩)
    (fun _ hq => call_meets F.slot_str_ne_refl (typeIs_str s b u) F.entry_str_ne (F.args_str_ne_2 _ _) (str_ne_declines_dict b u l es n dd sl) ⟨ho, hq⟩)
    (fun _ hq => wpAny_of_eq (rfl : isSame (.ref l) (.str b u) = pure false) hq) (.inr hu) h
end
end PySem.SeqAt

set_option Elab.async false
set_option linter.all false
set_option maxRecDepth 100000
set_option maxHeartbeats 4000000
/-! Rules: any value == a text, != a text; a tuple != (); a tuple backwards. -/
namespace G
open PySem PySem.Spec PyProof.Rows L2 StX RZ
def isSD (z : Str) : PyData → Bool
  | .str y => decide (y = z)
  | _ => false
section
variable {X : Cx}
def rEqS : R2 := fun x y H Q => ∃ (G : Addr → Prop) (d : PyData) (z : Str), GV G H x d ∧ y = .str z ∧ Q (.bl (isSD z d)) H
def rNeS : R2 := fun x y H Q => ∃ (G : Addr → Prop) (d : PyData) (z : Str), GV G H x d ∧ y = .str z ∧ Q (.bl (!isSD z d)) H
theorem str_same (y z : Str) : (y == z) = decide (y = z) := by
  by_cases c : y = z
  · rw [decide_eq_true c, c, beq_self_eq_true]
  · rw [decide_eq_false c, beq_eq_false_iff_ne.mpr c]
theorem op_eqS (hu : X.A.units < cLine) : OpR X (compareOp .Eq) rEqS := by
  intro pins s σ H x y v u Q I rx ry h
  obtain ⟨G, d, z, gd, rfl, q⟩ := h
  obtain ⟨t, rfl⟩ := ry
  cases gd with
  | non =>
    cases rx
    exact SeqAt.RcAt.none_str z t _ _ _ _ ⟨.bl false, H, I, rfl, q⟩
  | bl b =>
    cases rx
    exact SeqAt.RcAt.bool_str b z t _ _ _ _ ⟨.bl false, H, I, rfl, q⟩
  | int i =>
    obtain ⟨t2, rfl⟩ := rx
    exact SeqAt.RcAt.int_str i t2 z t _ _ _ _ ⟨.bl false, H, I, rfl, q⟩
  | str y hy =>
    obtain ⟨t2, rfl⟩ := rx
    refine SeqAt.RcAt.str_str y t2 z t _ _ _ _ ⟨.bl (y == z), H, I, rfl, ?_⟩
    rw [str_same]
    exact q
  | tup h1 h2 =>
    rename_i a xs ds
    obtain rfl : v = Value.ref a := rx
    obtain ⟨its, r, ht, hz⟩ := I.tuple (SqT.of h1)
    exact SeqAt.RcAt.tuple_str z t ht hu _ _ _ _ ⟨.bl false, H, I, rfl, q⟩
  | lst f h1 h2 =>
    rename_i a xs ds
    obtain rfl : v = Value.ref a := rx
    obtain ⟨its, r, ht, hz⟩ := I.list (SqL.of h1)
    exact SeqAt.RcAt.list_str z t ht.isList hu _ _ _ _ ⟨.bl false, H, I, rfl, q⟩
  | dct f h1 =>
    rename_i a
    obtain rfl : v = Value.ref a := rx
    obtain ⟨_, hd, vs, rel, o, es, ep, ho, ⟨e1, e2, e3⟩, hdt, _⟩ := dk_rd I.hok (.inl h1)
    obtain ⟨oc, od, dt, sl⟩ := o
    simp only at e1 e2 e3 hdt
    subst e1 e2 hdt
    exact SeqAt.RcAt.dict_str z t ho hu _ _ _ _ ⟨.bl false, H, I, rfl, q⟩
theorem op_neS (hu : X.A.units < cLine) : OpR X (compareOp .NotEq) rNeS := by
  intro pins s σ H x y v u Q I rx ry h
  obtain ⟨G, d, z, gd, rfl, q⟩ := h
  obtain ⟨t, rfl⟩ := ry
  cases gd with
  | non =>
    cases rx
    exact SeqAt.RcNeAt.none_str z t _ _ _ _ ⟨.bl true, H, I, rfl, q⟩
  | bl b =>
    cases rx
    exact SeqAt.RcNeAt.bool_str b z t _ _ _ _ ⟨.bl true, H, I, rfl, q⟩
  | int i =>
    obtain ⟨t2, rfl⟩ := rx
    exact SeqAt.RcNeAt.int_str i t2 z t _ _ _ _ ⟨.bl true, H, I, rfl, q⟩
  | str y hy =>
    obtain ⟨t2, rfl⟩ := rx
    refine SeqAt.RcNeAt.str_str y t2 z t _ _ _ _ ⟨.bl (!(y == z)), H, I, rfl, ?_⟩
    rw [str_same]
    exact q
  | tup h1 h2 =>
    rename_i a xs ds
    obtain rfl : v = Value.ref a := rx
    obtain ⟨its, r, ht, hz⟩ := I.tuple (SqT.of h1)
    exact SeqAt.RcNeAt.tuple_str z t ht hu _ _ _ _ ⟨.bl true, H, I, rfl, q⟩
  | lst f h1 h2 =>
    rename_i a xs ds
    obtain rfl : v = Value.ref a := rx
    obtain ⟨its, r, ht, hz⟩ := I.list (SqL.of h1)
    exact SeqAt.RcNeAt.list_str z t ht.isList hu _ _ _ _ ⟨.bl true, H, I, rfl, q⟩
  | dct f h1 =>
    rename_i a
    obtain rfl : v = Value.ref a := rx
    obtain ⟨_, hd, vs, rel, o, es, ep, ho, ⟨e1, e2, e3⟩, hdt, _⟩ := dk_rd I.hok (.inl h1)
    obtain ⟨oc, od, dt, sl⟩ := o
    simp only at e1 e2 e3 hdt
    subst e1 e2 hdt
    exact SeqAt.RcNeAt.dict_str z t ho hu _ _ _ _ ⟨.bl true, H, I, rfl, q⟩
/-- t != () -/
def rNeE (K : PySem.W.Frag) : R2 := fun x y H Q => ∃ (a b : Addr) (xs : List V), x = .ref a ∧ y = .ref b ∧ SqT K H a xs ∧ SqT K H b [] ∧ Q (.bl (!xs.isEmpty)) H
theorem op_neE (hu : X.A.units < cLine) : OpR X (compareOp .NotEq) (rNeE X.K) := by
  intro pins s σ H x y v u Q I rx ry h
  obtain ⟨a, b, xs, rfl, rfl, h1, h2, q⟩ := h
  obtain rfl : v = Value.ref a := rx
  obtain rfl : u = Value.ref b := ry
  obtain ⟨its, r, ht, hz⟩ := I.tuple h1
  obtain ⟨its2, r2, ht2, hz2⟩ := I.tuple h2
  cases r2
  refine SeqAt.RcNeAt.tuples (e := fun _ => true) ht ht2 hu (fun j _ h2 => absurd h2 (by simp)) _ _ _ _ ⟨.bl (!xs.isEmpty), H, I, ?_, q⟩
  have hl := r.length
  show _ = Value.bool _
  congr 1
  cases its with
  | nil =>
    cases r
    rfl
  | cons c cs =>
    cases r
    simp
/-- t[::-1] -/
def tRevT (K : PySem.W.Frag) (te : TE) : TE := fun σ H Q => te σ H fun x H1 => ∃ a xs, x = .ref a ∧ SqT K H1 a xs ∧ ∀ p, H1 p = none → Q (.ref p) (upd H1 p (.tup xs.reverse))
end
end G

set_option Elab.async false
set_option linter.all false
set_option maxRecDepth 100000
set_option maxHeartbeats 4000000
/-! The law's own words: kept exactly, is_name, is_word, is_number. -/
namespace G
open PySem PySem.Spec PyProof.Rows L2 StX RZ
section
variable {X : Cx}
/-- list == [] -/
def rEqL0 (K : PySem.W.Frag) : R2 := fun x y H Q => ∃ (a b : Addr) (xs : List V), x = .ref a ∧ y = .ref b ∧ SqL K H a xs ∧ SqL K H b [] ∧ Q (.bl xs.isEmpty) H
theorem op_eqL0 (hu : X.A.units < cLine) : OpR X (compareOp .Eq) (rEqL0 X.K) := by
  intro pins s σ H x y v u Q I rx ry h
  obtain ⟨a, b, xs, rfl, rfl, h1, h2, q⟩ := h
  obtain rfl : v = Value.ref a := rx
  obtain rfl : u = Value.ref b := ry
  obtain ⟨its, r, ht, hz⟩ := I.list h1
  obtain ⟨its2, r2, ht2, hz2⟩ := I.list h2
  cases r2
  cases its with
  | nil =>
    cases r
    refine SeqAt.RcAt.lists (e := fun _ => true) ht.isList ht2.isList rfl hu (fun j h1 _ => absurd h1 (by simp)) _ _ _ _ ⟨.bl true, H, I, rfl, q⟩
  | cons c cs =>
    cases r
    refine SeqAt.RcAt.lists_lengths ht.isList ht2.isList (by simp) hu _ _ _ _ ⟨.bl false, H, I, rfl, q⟩
end
theorem lc_bad {σ : L2.St} {x : Str} {H1 : Hp} {D : Addr} {Qd : Hp → Prop} {te : TE} {tt : TT} (lx : x.length ≤ 1000) (nD : H1 D = none) (e1 : ∀ v, wipe ((wipe σ [2]).set 2 (some v)) [2] = wipe σ [2])
    (ht : ∀ c H (Q : Bool → Hp → Prop), Q (!sgnB c) H → tt ((wipe σ [2]).set 2 (some (.str ⟨#[c]⟩))) H Q)
    (he : ∀ c H (Q : VK), Q (.str ⟨#[c]⟩) H → te ((wipe σ [2]).set 2 (some (.str ⟨#[c]⟩))) H Q) (q : ∀ H' ys, Same H1 H' → H' D = some (.lst ys) → ys.isEmpty = x.cps.toList.all sgnB → Qd H') :
    ∃ W : Nat → Nat → Hp → Prop, (∃ m, W 0 m (upd H1 D (.lst []))) ∧ ∀ i m H, W i m H →
      ((Its x).stop i H ∧ Qd H) ∨ ((Its x).go i H ∧ ∃ Nx : Hp → Prop, (∀ H', Nx H' → ∃ m', m' < m ∧ W (i + 1) m' H') ∧ ∀ v H', (Its x).yld i H v H' → gName 2 v (wipe σ [2]) H' fun σ2 H2 => wipe σ2 [2] = wipe σ [2] ∧ tt σ2 H2 fun b H3 =>
        if b = true then te σ2 H3 fun y H4 => ∃ acc, H4 D = some (.lst acc) ∧ acc.length < sizeLine ∧ Nx (upd H4 D (.lst (acc ++ [y]))) else Nx H3) := by
  have lx2 : x.cps.toList.length ≤ 1000 := lx
  refine lc_it walk_str (fun i H' => Ch [D] H1 H' ∧ ∃ ys, H' D = some (.lst ys) ∧ ys.length ≤ i ∧ ys.isEmpty = (x.cps.toList.take i).all sgnB) ⟨(Ch.refl _ _).new nD, [], upd_same, Nat.le_refl _, rfl⟩ (fun _ _ _ _ => trivial) ?_ ?_
  · rintro i v H H' hi ⟨c, ys, g, ly, ey⟩ ⟨eH, cp, hc, ev⟩
    subst eH ev
    have hc2 : x.cps.toList[i]? = some cp := by rw [Array.getElem?_toList]; exact hc
    have hi2 : i < 1000 := Nat.lt_of_lt_of_le (List.getElem?_eq_some_iff.mp hc2).1 lx2
    refine ⟨e1 _, ht cp _ _ ?_⟩
    cases e : sgnB cp with
    | true =>
      refine iteF ⟨c, ys, g, by omega, ?_⟩
      rw [ey, List.take_add_one, hc2, List.all_append]
      simp [e]
    | false =>
      refine iteT (he cp _ _ ⟨_, g, small1000 (by omega), c.put (by simp) g (fun xs z => by cases z), _, upd_same, by rw [List.length_append]; simp; omega, ?_⟩)
      rw [List.take_add_one, hc2, List.all_append]
      simp [e]
  · rintro H' ⟨c, ys, g, _, ey⟩
    rw [show x.cps.size = x.cps.toList.length from rfl, List.take_length] at ey
    exact q H' ys (c.kp.fresh nD).toSame g ey
theorem sgn_in (c : Nat) : decide (c ∈ (ltrS ++ digS).cps.toList) = sgnB c := by
  have e : (ltrS ++ digS).cps.toList = ltrS.cps.toList ++ digS.cps.toList := by
    show (ltrS.cps ++ digS.cps).toList = _
    rw [Array.toList_append]
  rw [e]
  unfold sgnB ltrB
  rw [← Bool.decide_or]
  exact decide_eq_decide.mpr List.mem_append
theorem sgn_in2 (c : Nat) : decide (c ∈ (Str.ofString "0123456789abcdefghijklmnopqrstuvwxyz").cps.toList) = sgnB c := by
  have e : (Str.ofString "0123456789abcdefghijklmnopqrstuvwxyz").cps.toList = digS.cps.toList ++ ltrS.cps.toList := by decide +kernel
  rw [e]
  unfold sgnB ltrB
  rw [← Bool.decide_or]
  exact decide_eq_decide.mpr (List.mem_append.trans Or.comm)
section
variable {P : Program} {w : World} {K : PySem.W.Frag} {mg : Str → Option Value} {base : Heap} {RV : Addr}
def spKeptX : Sp := fun vs H Q _ => vs = [] ∧ ∀ H' a, Same H H' → H a = none → H' a = some (.lst (resL.map V.str)) → Q (.ref a) H'
theorem words_res : Txt.words (Str.ofString "as ask cut drop else full given hold if keep make not pass repeat same say set take weak wish wished") = resL := by decide +kernel
theorem ok_keptX {f : Addr} {fd : FuncData} {k : Nat} (F : Fun K "_law_kept" "_law_kept" s__law_kept f fd) : FnOk P w K mg base CX0 (k + 1) f fd [] spKeptX := by
  refine F.ok sc__law_kept (fun vs H Q E ⟨ev, _⟩ => by rw [ev]; rfl) (fun cdv A outer s H vs Q E hr ⟨ev, q⟩ => ?_)
  subst ev
  refine ⟨_, (pss_cons (ps_set (i := 0) sc__law_kept.nd rfl (.inl rfl) pe_str)
      (pss_one (ps_ret (pe_bm0 PySem.F.plainAttrs_str PySem.F.slot_str_split PySem.F.type_str_split mt_words (pv 0))))), ?_⟩
  refine ⟨_, rfl, rfl, _, rfl, rfl, line1000 (by decide +kernel), fun p np => ?_⟩
  rw [words_res]
  exact q _ p (Same.up np) np upd_same
end
end G

set_option Elab.async false
set_option linter.all false
set_option maxRecDepth 100000
set_option maxHeartbeats 4000000
/-! The law's own words: is_test. -/
namespace G
open PySem PySem.Spec PyProof.Rows L2 StX RZ
/-! ### on paper -/
theorem cutP {T G : Prop} (f : T → G) (b : T) : G := f b
mutual
/-- tuples of at most so many items, at every depth -/
def WB (n : Nat) : PyData → Prop
  | .tuple ds => ds.length ≤ n ∧ WBs n ds
  | _ => True
def WBs (n : Nat) : List PyData → Prop
  | [] => True
  | d :: ds => WB n d ∧ WBs n ds
end
def isTestU (d : PyData) (g : Int) : Bool := match (firstW d).bind plainT with
  | some cks => fitW ckP cks (tupI d).tail g
  | none => false
theorem isTest_U (d : PyData) (g : Int) : isTest d g = isTestU (unN d 3) g := rfl
theorem unN_fix {d : PyData} {i : Nat} (h : unNot1 (unN d i) = unN d i) : ∀ j, unN d (i + j) = unN d i
  | 0 => rfl
  | j + 1 => by
    show unNot1 (unN d (i + j)) = _
    rw [unN_fix h j, h]
theorem unN_3 {d : PyData} {i : Nat} (hi : i ≤ 3) (h : unNot1 (unN d i) = unN d i) : unN d i = unN d 3 := by
  have z := unN_fix h (3 - i)
  rw [show i + (3 - i) = 3 by omega] at z
  exact z.symm
theorem fit_one {ck : Ck → PyData → Int → Bool} {c : Ck} {r : List PyData} {g : Int} : fitW ck [c] r g = (decide (r.length = 1) && ck c (r.getD 0 .none) g) := by
  match r with
  | [] => rfl
  | [a] =>
    show (decide (1 = 1) && (ck c a g && true)) = _
    rw [Bool.and_true]
    rfl
  | a :: b :: s =>
    unfold fitW
    rw [decide_eq_false (fun z => by simp at z), decide_eq_false (fun z => by simp at z)]
    rfl
theorem zip_names {ck : Ck → PyData → Int → Bool} {g : Int} (hc : ∀ d, ck .name d g = nameD d) : ∀ (n : Nat) (r : List PyData), r.length = n → (List.zipWith (fun c d => ck c d g) (List.replicate n Ck.name) r).all id = r.all nameD
  | 0, [], _ => rfl
  | n + 1, a :: r, h => by
    show (ck .name a g && (List.zipWith (fun c d => ck c d g) (List.replicate n Ck.name) r).all id) = (nameD a && r.all nameD)
    rw [hc, zip_names hc n r (by simpa using h)]
theorem fit_names {ck : Ck → PyData → Int → Bool} {g : Int} (hc : ∀ d, ck .name d g = nameD d) (n : Nat) (r : List PyData) : fitW ck (List.replicate n Ck.name) r g = (decide (r.length = n) && r.all nameD) := by
  unfold fitW
  rw [List.length_replicate]
  by_cases c : r.length = n
  · rw [zip_names hc n r c]
  · rw [decide_eq_false c]
    rfl
theorem look_ne {α : Type} {w k : Str} {x : α} {l : List (Str × α)} (h : w ≠ k) : ((k, x) :: l).lookup w = l.lookup w := by
  rw [List.lookup_cons]
  have hb : (w == k) = false := beq_eq_false_iff_ne.mpr h
  rw [hb]
theorem plainT_no {z : Str} (h1 : z ≠ Str.ofString "given") (h2 : z ≠ Str.ofString "set") (h3 : z ≠ Str.ofString "same") (h4 : z ≠ Str.ofString "full") (h5 : z ≠ Str.ofString "wished") : plainT z = none := by
  unfold plainT plainL S1
  rw [look_ne h1, look_ne h2, look_ne h3, look_ne h4, look_ne h5]
  rfl
theorem tU_0 {d : PyData} {g : Int} (h : isTupD d = false) : isTestU d g = false := by
  have e : firstW d = none := by cases d <;> first | rfl | cases h
  unfold isTestU
  rw [e]
  rfl
theorem tU_str {z : Str} {r : List PyData} {g : Int} : isTestU (.tuple (.str z :: r)) g = (match plainT z with
  | some cks => fitW ckP cks r g
  | none => false) := rfl
theorem plainT_pos {w : Str} {cks : List Ck} (h : plainT w = some cks) : 1 ≤ cks.length := by
  have z : ∀ p ∈ plainL, 1 ≤ p.2.length := by
    intro p hp
    simp only [plainL, List.mem_cons, List.not_mem_nil, or_false] at hp
    rcases hp with rfl | rfl | rfl | rfl | rfl <;> exact Nat.le_of_ble_eq_true rfl
  exact z _ (look_mem h)
theorem stmtT_pos {w : Str} {cks : List Ck} (h : stmtT w = some cks) : 1 ≤ cks.length := by
  have z : ∀ p ∈ stmtL, 1 ≤ p.2.length := by
    intro p hp
    simp only [stmtL, List.mem_cons, List.not_mem_nil, or_false] at hp
    rcases hp with rfl | rfl | rfl | rfl | rfl | rfl | rfl | rfl | rfl | rfl | rfl | rfl | rfl <;> exact Nat.le_of_ble_eq_true rfl
  exact z _ (look_mem h)
theorem fit_nil {ck : Ck → PyData → Int → Bool} {cks : List Ck} {g : Int} (h : 1 ≤ cks.length) : fitW ck cks [] g = false := by
  unfold fitW
  rw [decide_eq_false (fun z => by simp at z; rw [← z] at h; exact absurd h (by decide))]
  rfl
theorem tU_short {ds : List PyData} {g : Int} (h : ds.length < 2) : isTestU (.tuple ds) g = false := by
  match ds, h with
  | [], _ => rfl
  | [w0], _ =>
    cases e : isStrD w0 with
    | false =>
      have e4 : firstW (.tuple [w0]) = none := by cases w0 <;> first | rfl | cases e
      unfold isTestU
      rw [e4]
      rfl
    | true =>
      obtain ⟨z, rfl⟩ := strD_of e
      rw [tU_str]
      cases e2 : plainT z with
      | none => rfl
      | some cks => exact fit_nil (plainT_pos e2)
theorem isSD_str {z : Str} {d : PyData} (h : isSD z d = true) : d = .str z := by
  cases d <;> first | exact absurd h Bool.false_ne_true | skip
  rename_i y
  rw [of_decide_eq_true h]
theorem isSD_self (z : Str) : isSD z (.str z) = true := decide_eq_true rfl
theorem tU_given {r : List PyData} {g : Int} : isTestU (.tuple (.str "given" :: r)) g = (decide (r.length = 1) && rngD 0 (g - 1) (r.getD 0 .none)) := by
  rw [tU_str, show plainT (Str.ofString "given") = some [.given] by decide +kernel]
  exact fit_one
theorem tU_wished {r : List PyData} {g : Int} : isTestU (.tuple (.str "wished" :: r)) g = (decide (r.length = 1) && wordD (r.getD 0 .none)) := by
  rw [tU_str, show plainT (Str.ofString "wished") = some [.word] by decide +kernel]
  exact fit_one
theorem tU_set {r : List PyData} {g : Int} : isTestU (.tuple (.str "set" :: r)) g = (decide (r.length = 1) && r.all nameD) := by
  rw [tU_str, show plainT (Str.ofString "set") = some [.name] by decide +kernel]
  exact fit_names (fun _ => rfl) 1 r
theorem tU_same {r : List PyData} {g : Int} : isTestU (.tuple (.str "same" :: r)) g = (decide (r.length = 2) && r.all nameD) := by
  rw [tU_str, show plainT (Str.ofString "same") = some [.name, .name] by decide +kernel]
  exact fit_names (fun _ => rfl) 2 r
theorem tU_full {r : List PyData} {g : Int} : isTestU (.tuple (.str "full" :: r)) g = (decide (r.length = 2) && r.all nameD) := by
  rw [tU_str, show plainT (Str.ofString "full") = some [.name, .name] by decide +kernel]
  exact fit_names (fun _ => rfl) 2 r
theorem tU_none {w0 : PyData} {r : List PyData} {g : Int} (h1 : isSD "given" w0 = false) (h2 : isSD "wished" w0 = false) (h3 : isSD "set" w0 = false) (h4 : isSD "same" w0 = false) (h5 : isSD "full" w0 = false) : isTestU (.tuple (w0 :: r)) g = false := by
  cases e : isStrD w0 with
  | false =>
    have e4 : firstW (.tuple (w0 :: r)) = none := by cases w0 <;> first | rfl | cases e
    unfold isTestU
    rw [e4]
    rfl
  | true =>
    obtain ⟨z, rfl⟩ := strD_of e
    have ne : ∀ {k : Str}, isSD k (.str z) = false → z ≠ k := fun {k} h e => by rw [e, isSD_self] at h; exact Bool.false_ne_true h.symm
    rw [tU_str, plainT_no (ne h1) (ne h3) (ne h4) (ne h5) (ne h2)]
section
variable {K : PySem.W.Frag} {σ : L2.St} {H1 : Hp} {D a : Addr} {Qd : Hp → Prop} {te : TE} {tt : TT} {j : Nat} {xs : List V} {ds : List PyData} {G : Addr → Prop}
/-- [x for x in t if p x], t a tuple of values: so many -/
theorem lc_filt (p : PyData → Bool) (gx : GVs G H1 xs ds) (lx : ds.length ≤ 1000) (ga : H1 a = some (.tup xs)) (nD : H1 D = none) (e1 : ∀ v, wipe ((wipe σ [j]).set j (some v)) [j] = wipe σ [j]) (hj : ∀ v, gName j v (wipe σ [j]) = fun H' Q => Q ((wipe σ [j]).set j (some v)) H')
    (ht : ∀ v d H (Q : Bool → Hp → Prop), Same H1 H → GV G H v d → (∀ H', Same H H' → Q (p d) H') → tt ((wipe σ [j]).set j (some v)) H Q)
    (he : ∀ v H (Q : VK), Q v H → te ((wipe σ [j]).set j (some v)) H Q) (q : ∀ H' ys, Same H1 H' → H' D = some (.lst ys) → ys.length = (ds.filter p).length → Qd H') :
    ∃ W : Nat → Nat → Hp → Prop, (∃ m, W 0 m (upd H1 D (.lst []))) ∧ ∀ i m H, W i m H →
      ((Itt K a).stop i H ∧ Qd H) ∨ ((Itt K a).go i H ∧ ∃ Nx : Hp → Prop, (∀ H', Nx H' → ∃ m', m' < m ∧ W (i + 1) m' H') ∧ ∀ x H', (Itt K a).yld i H x H' → gName j x (wipe σ [j]) H' fun σ2 H2 => wipe σ2 [j] = wipe σ [j] ∧ tt σ2 H2 fun b H3 =>
        if b = true then te σ2 H3 fun y H4 => ∃ acc, H4 D = some (.lst acc) ∧ acc.length < sizeLine ∧ Nx (upd H4 D (.lst (acc ++ [y]))) else Nx H3) := by
  have el := gx.len
  refine in_tup (xs := xs) (fun i H' => Ch [D] H1 H' ∧ ∃ ys, H' D = some (.lst ys) ∧ ys.length ≤ i ∧ ys.length = ((ds.take i).filter p).length) ⟨(Ch.refl _ _).new nD, [], upd_same, Nat.le_refl _, rfl⟩ (fun i H' _ h => ?_) (fun i x H' hx h => ?_) (fun H' h => ?_)
  · exact SqT.of (h.1.tu _ _ ga)
  · obtain ⟨c, ys, g, ly, ey⟩ := h
    obtain ⟨d, hd, gdx⟩ := gx.at hx
    have hi := (List.getElem?_eq_some_iff.mp hd).1
    have s0 : Same H1 H' := (c.kp.fresh nD).toSame
    rw [hj]
    refine ⟨e1 _, ht x d H' _ s0 (gdx.same s0) fun H2 s2 => ?_⟩
    cases e : p d with
    | false =>
      refine iteF ⟨c.trans (Ch.same s2), ys, s2 _ _ g, by omega, ?_⟩
      rw [ey, List.take_add_one, hd, List.filter_append]
      simp [e]
    | true =>
      refine iteT (he x H2 _ ⟨ys, s2 _ _ g, small1000 (by omega), (c.trans (Ch.same s2)).put (by simp) (s2 _ _ g) (fun xs z => by cases z), _, upd_same, by rw [List.length_append]; simp; omega, ?_⟩)
      rw [List.length_append, ey, List.take_add_one, hd, List.filter_append, List.length_append]
      simp [e]
  · obtain ⟨c, ys, g, _, ey⟩ := h
    rw [el, List.take_length] at ey
    exact q H' ys (c.kp.fresh nD).toSame g ey
end
theorem empty_all {ys : List V} {ds : List PyData} {p : PyData → Bool} (h : ys.length = (ds.filter fun d => !p d).length) : ys.isEmpty = ds.all p := by
  have e : ys.isEmpty = (ds.filter fun d => !p d).isEmpty := by
    cases ys with
    | nil =>
      cases e2 : ds.filter fun d => !p d with
      | nil => rfl
      | cons a b => rw [e2] at h; exact absurd h.symm (by simp)
    | cons a b =>
      cases e2 : ds.filter fun d => !p d with
      | nil => rw [e2] at h; exact absurd h (by simp)
      | cons c d => rfl
  rw [e]
  clear h e
  induction ds with
  | nil => rfl
  | cons d r ih =>
    cases e : p d with
    | true => simp [e, ih]
    | false => simp [e]
section
variable {P : Program} {w : World} {K : PySem.W.Frag} {mg : Str → Option Value} {base : Heap} {RV : Addr}
end
end G

set_option Elab.async false
set_option linter.all false
set_option maxRecDepth 100000
set_option maxHeartbeats 4000000
/-! The law's own words: is_row. -/
namespace G
open PySem PySem.Spec PyProof.Rows L2 StX RZ
/-! ### on paper -/
def cntL : List (Str × Nat) := [(Str.ofString "make", 1), (Str.ofString "keep", 1), (Str.ofString "drop", 1), (Str.ofString "name", 2), (Str.ofString "hold", 3), (Str.ofString "weak", 3), (Str.ofString "cut", 2), (Str.ofString "take", 3)]
def cntN (z : Str) : Nat := (cntL.lookup z).getD 0
def kvL : List (Str × Nat) → List (Key × V) := List.map fun p => (.inr p.1, .int (p.2 : Int))
theorem val_look (z : Str) : ∀ l : List (Str × Nat), valV (kvL l) (.inr z) = (l.lookup z).map fun n => V.int (n : Int)
  | [] => rfl
  | (k, n) :: r => by
    by_cases c : z = k
    · subst c
      rw [List.lookup_cons, beq_self_eq_true]
      unfold valV kvL
      rw [List.map_cons, List.find?_cons, decide_eq_true rfl]
      rfl
    · rw [look_ne c, ← val_look z r]
      unfold valV kvL
      rw [List.map_cons, List.find?_cons, decide_eq_false (fun z2 => c (by injection z2 with z2; exact z2.symm))]
theorem merge8 : mergeK [] (kvL cntL) = kvL cntL := rfl
theorem get8 (z : Str) : (valV (mergeK [] (kvL cntL)) (.inr z)).getD (.int 0) = .int (cntN z : Int) := by
  rw [merge8, val_look]
  unfold cntN
  cases cntL.lookup z <;> rfl
theorem sU_0 {d : PyData} {g : Int} (h : isTupD d = false) : isStmt d g = false := by
  have e : firstW d = none := by cases d <;> first | rfl | cases h
  unfold isStmt
  rw [e]
  rfl
theorem sU_str {z : Str} {r : List PyData} {g : Int} : isStmt (.tuple (.str z :: r)) g = (match stmtT z with
  | some cks => fitW ckB cks r g
  | none => false) := rfl
theorem sU_ns {w0 : PyData} {r : List PyData} {g : Int} (e : isStrD w0 = false) : isStmt (.tuple (w0 :: r)) g = false := by
  have e4 : firstW (.tuple (w0 :: r)) = none := by cases w0 <;> first | rfl | cases e
  unfold isStmt
  rw [e4]
  rfl
theorem sU_short {ds : List PyData} {g : Int} (h : ds.length < 2) : isStmt (.tuple ds) g = false := by
  match ds, h with
  | [], _ => rfl
  | [w0], _ =>
    cases e : isStrD w0 with
    | false => exact sU_ns e
    | true =>
      obtain ⟨z, rfl⟩ := strD_of e
      rw [sU_str]
      cases e2 : stmtT z with
      | none => rfl
      | some cks => exact fit_nil (stmtT_pos e2)
theorem fit_two {ck : Ck → PyData → Int → Bool} {c1 c2 : Ck} {r : List PyData} {g : Int} : fitW ck [c1, c2] r g = (decide (r.length = 2) && (ck c1 (r.getD 0 .none) g && ck c2 (r.getD 1 .none) g)) := by
  match r with
  | [] => rfl
  | [a] => rfl
  | [a, b] =>
    show (decide (2 = 2) && (ck c1 a g && (ck c2 b g && true))) = _
    rw [Bool.and_true]
    rfl
  | a :: b :: c :: s =>
    unfold fitW
    rw [decide_eq_false (fun z => by simp at z), decide_eq_false (fun z => by simp at z)]
    rfl
theorem fit_three {ck : Ck → PyData → Int → Bool} {c1 c2 c3 : Ck} {r : List PyData} {g : Int} : fitW ck [c1, c2, c3] r g = (decide (r.length = 3) && (ck c1 (r.getD 0 .none) g && (ck c2 (r.getD 1 .none) g && ck c3 (r.getD 2 .none) g))) := by
  match r with
  | [] => rfl
  | [a] => rfl
  | [a, b] => rfl
  | [a, b, c] =>
    show (decide (3 = 3) && (ck c1 a g && (ck c2 b g && (ck c3 c g && true)))) = _
    rw [Bool.and_true]
    rfl
  | a :: b :: c :: d :: s =>
    unfold fitW
    rw [decide_eq_false (fun z => by simp at z), decide_eq_false (fun z => by simp at z)]
    rfl
theorem sU_ask {r : List PyData} {g : Int} : isStmt (.tuple (.str "ask" :: r)) g = (decide (r.length = 1) && isTest (r.getD 0 .none) g) := by
  rw [sU_str, show stmtT (Str.ofString "ask") = some [.test] by decide +kernel]
  exact fit_one
theorem sU_say {r : List PyData} {g : Int} : isStmt (.tuple (.str "say" :: r)) g = (decide (r.length = 1) && wordD (r.getD 0 .none)) := by
  rw [sU_str, show stmtT (Str.ofString "say") = some [.word] by decide +kernel]
  exact fit_one
theorem sU_wish {r : List PyData} {g : Int} : isStmt (.tuple (.str "wish" :: r)) g = (decide (r.length = 2) && (nameD (r.getD 0 .none) && wordD (r.getD 1 .none))) := by
  rw [sU_str, show stmtT (Str.ofString "wish") = some [.name, .word] by decide +kernel]
  exact fit_two
theorem sU_rep {r : List PyData} {g : Int} : isStmt (.tuple (.str "repeat" :: r)) g = (decide (r.length = 2) && (rngD 0 12 (r.getD 0 .none) && isTupD (r.getD 1 .none))) := by
  rw [sU_str, show stmtT (Str.ofString "repeat") = some [.times, .block] by decide +kernel]
  exact fit_two
theorem sU_if {r : List PyData} {g : Int} : isStmt (.tuple (.str "if" :: r)) g = (decide (r.length = 3) && (isTest (r.getD 0 .none) g && decide (((r.drop 1).filter isTupD).length = 2))) := by
  rw [sU_str, show stmtT (Str.ofString "if") = some [.test, .block, .block] by decide +kernel]
  refine fit_three.trans ?_
  by_cases c : r.length = 3
  · match r, c with
    | [a, b, c], _ =>
      show (_ && (isTest a g && (isTupD b && isTupD c))) = (_ && (isTest a g && decide ((List.filter isTupD [b, c]).length = 2)))
      cases e1 : isTupD b <;> cases e2 : isTupD c <;> simp [List.filter, e1, e2]
  · rw [decide_eq_false c]
    rfl
theorem sU_rest {z : Str} {r : List PyData} {g : Int} (h1 : z ≠ Str.ofString "ask") (h2 : z ≠ Str.ofString "if") (h3 : z ≠ Str.ofString "repeat") (h4 : z ≠ Str.ofString "say") (h5 : z ≠ Str.ofString "wish") (hr : 1 ≤ r.length) :
    isStmt (.tuple (.str z :: r)) g = (decide (r.length = cntN z) && r.all nameD) := by
  have one : ∀ (x : String) (n : Nat), stmtT (Str.ofString x) = some (List.replicate n .name) → cntN (Str.ofString x) = n → z = Str.ofString x → isStmt (.tuple (.str z :: r)) g = (decide (r.length = cntN z) && r.all nameD) := fun x n e1 e2 ez => by
    subst ez
    rw [sU_str, e1, e2]
    exact fit_names (fun _ => rfl) n r
  by_cases c1 : z = Str.ofString "make"
  · exact one "make" 1 (by decide +kernel) (by decide +kernel) c1
  by_cases c2 : z = Str.ofString "keep"
  · exact one "keep" 1 (by decide +kernel) (by decide +kernel) c2
  by_cases c3 : z = Str.ofString "drop"
  · exact one "drop" 1 (by decide +kernel) (by decide +kernel) c3
  by_cases c4 : z = Str.ofString "name"
  · exact one "name" 2 (by decide +kernel) (by decide +kernel) c4
  by_cases c5 : z = Str.ofString "hold"
  · exact one "hold" 3 (by decide +kernel) (by decide +kernel) c5
  by_cases c6 : z = Str.ofString "weak"
  · exact one "weak" 3 (by decide +kernel) (by decide +kernel) c6
  by_cases c7 : z = Str.ofString "cut"
  · exact one "cut" 2 (by decide +kernel) (by decide +kernel) c7
  by_cases c8 : z = Str.ofString "take"
  · exact one "take" 3 (by decide +kernel) (by decide +kernel) c8
  have e1 : stmtT z = none := by
    unfold stmtT stmtL S1
    rw [look_ne c1, look_ne h5, look_ne c2, look_ne c4, look_ne c3, look_ne c5, look_ne c6, look_ne c7, look_ne c8, look_ne h4, look_ne h1, look_ne h2, look_ne h3]
    rfl
  have e2 : cntN z = 0 := by
    unfold cntN cntL
    rw [look_ne c1, look_ne c2, look_ne c3, look_ne c4, look_ne c5, look_ne c6, look_ne c7, look_ne c8]
    rfl
  rw [sU_str, e1, e2, decide_eq_false (by omega : ¬ r.length = 0)]
  rfl
section
variable {P : Program} {w : World} {K : PySem.W.Frag} {mg : Str → Option Value} {base : Heap} {RV : Addr}
end
end G

set_option Elab.async false
set_option linter.all false
set_option maxRecDepth 100000
set_option maxHeartbeats 4000000
/-! A text so many times; a part of a text; one of a list of values. -/
namespace G
open PySem PySem.Spec PyProof.Rows L2 StX RZ
def repS (z : Str) (n : Nat) : Str := ⟨(List.replicate n z.cps).foldl (· ++ ·) #[]⟩
theorem fold_app (x : Array Nat) : ∀ (l : List (Array Nat)), l.foldl (· ++ ·) x = x ++ l.foldl (· ++ ·) #[]
  | [] => by simp
  | y :: r => by
    show r.foldl _ (x ++ y) = x ++ r.foldl _ (#[] ++ y)
    rw [fold_app (x ++ y) r, fold_app (#[] ++ y) r]
    simp [Array.append_assoc]
theorem repS_succ (z : Str) (n : Nat) : repS z (n + 1) = repS z n ++ z := by
  unfold repS
  show Str.mk _ = Str.mk _
  congr 1
  rw [List.replicate_succ', List.foldl_append]
  rfl
theorem repS_len (z : Str) : ∀ n, (repS z n).length = n * z.length
  | 0 => by
    show (#[] : Array Nat).size = 0 * _
    simp
  | n + 1 => by
    rw [repS_succ, strLen_append, repS_len z n, Nat.succ_mul]
def rMulZ : R2 := fun x y H Q => ∃ (z : Str) (n : Nat), x = .str z ∧ y = .int (n : Int) ∧ z.length ≤ 100 ∧ n ≤ 100 ∧ Q (.str (repS z n)) H
theorem op_mulZ {X : Cx} : OpR X (binaryOp .Mult) rMulZ := by
  intro pins s σ H x y v u Q I rx ry h
  obtain ⟨z, n, rfl, rfl, h1, h2, q⟩ := h
  obtain ⟨t, rfl⟩ := rx
  obtain ⟨t', rfl⟩ := ry
  have hz : z.length * n ≤ 100 * 100 := Nat.mul_le_mul h1 h2
  refine PySem.P.mul_str ?_ ?_ ?_ ?_
  · rw [decide_eq_false (by omega), decide_eq_false (by omega)]; rfl
  · intro a b c
    have hm : (z.length : Int) * (n : Int) ≤ 2 ^ 63 - 1 := by
      have hz' : ((z.length * n : Nat) : Int) ≤ 10000 := by omega
      rw [Int.natCast_mul] at hz'
      omega
    have := Int.le_ediv_of_mul_le (by omega : (0 : Int) < (n : Int)) hm
    omega
  · intro a b
    rw [Int.toNat_natCast]
    exact decide_eq_false (by rw [sizeLine_eq] at *; omega)
  · by_cases e0 : n = 0
    · subst e0
      rw [if_pos (by decide)]
      exact ⟨by decide, .str (repS z 0), H, I.tok _, ⟨_, rfl⟩, q⟩
    · rw [if_neg (by omega)]
      by_cases e1 : n = 1
      · subst e1
        rw [if_pos (by simp)]
        have e : repS z 1 = z := by
          rw [repS_succ]
          show Str.mk (#[] ++ z.cps) = z
          simp
        rw [e] at q
        exact ⟨.str z, H, I, ⟨_, rfl⟩, q⟩
      · by_cases e2 : z.length = 0
        · rw [if_pos (by simp [e2])]
          have e : repS z n = z := by
            have l1 : (repS z n).cps.size = 0 := by
              have := repS_len z n
              rw [e2, Nat.mul_zero] at this
              exact this
            have l2 : z.cps.size = 0 := e2
            have a1 := Array.eq_empty_of_size_eq_zero l1
            have a2 := Array.eq_empty_of_size_eq_zero l2
            show Str.mk (repS z n).cps = Str.mk z.cps
            rw [a1, a2]
          rw [e] at q
          exact ⟨.str z, H, I, ⟨_, rfl⟩, q⟩
        · rw [if_neg (by simp; omega)]
          rw [Int.toNat_natCast]
          refine ⟨?_, .str (repS z n), H, I.tok _, ⟨_, rfl⟩, q⟩
          show (repS z n).length ≤ sizeLine
          rw [repS_len, Nat.mul_comm]
          exact Nat.le_of_lt (lt_line (by omega))
theorem cutS_len (z : Str) (lo hi : Option Int) : (cutS z lo hi).length ≤ z.length := by
  show ((List.take _ _).toArray).size ≤ z.length
  rw [List.size_toArray, List.length_take, List.length_drop]
  show _ ≤ z.cps.toList.length
  omega
/-- one of a list of values -/
abbrev FD (D L : Addr) : Addr → Prop := fun b => b ∉ [D, L]
theorem WBs.mem {n : Nat} {d : PyData} : ∀ {ds : List PyData}, WBs n ds → d ∈ ds → WB n d
  | e :: ds, h, m => by
    rcases List.mem_cons.mp m with rfl | m
    · exact h.1
    · exact WBs.mem h.2 m
theorem GVs.mem {F : Addr → Prop} {H : Hp} {y : V} : ∀ {vs : List V} {ds : List PyData}, GVs F H vs ds → y ∈ vs → ∃ d, d ∈ ds ∧ GV F H y d
  | _, _, .cons h1 h2, m => by
    rcases List.mem_cons.mp m with rfl | m
    · exact ⟨_, List.mem_cons_self .., h1⟩
    · obtain ⟨d, hd, g⟩ := GVs.mem h2 m
      exact ⟨d, List.mem_cons_of_mem _ hd, g⟩
theorem GV.kd {H H' : Hp} {D L : Addr} {n n' : Nat} {v : V} {d : PyData} (g : GV (FD D L) H v d) (h : Deck H D L n) (h' : Deck H' D L n') (k : Kp [D, L] H H') : GV (FD D L) H' v d := GV.ch (deck_ch h h' k) (fun a f _ => ⟨f, f⟩) _ _ g
theorem GVs.kd {H H' : Hp} {D L : Addr} {n n' : Nat} {v : List V} {d : List PyData} (g : GVs (FD D L) H v d) (h : Deck H D L n) (h' : Deck H' D L n') (k : Kp [D, L] H H') : GVs (FD D L) H' v d := GVs.ch (deck_ch h h' k) (fun a f _ => ⟨f, f⟩) _ _ g
theorem one_gv {K : PySem.W.Frag} {H2 : Hp} {D L A : Addr} {m n : Nat} {xs : List V} {ds : List PyData} (d : Deck H2 D L m) (hm : m < 10 ^ 12) (g : H2 A = some (.lst xs)) (gx : GVs (FD D L) H2 xs ds) (wb : WBs n ds) (na : A ∉ [D, L]) (l0 : 0 < ds.length) (l1 : ds.length ≤ 1000) {Q' : VK}
    (h : ∀ H' y e, Kp [D, L] H2 H' → Deck H' D L (m + 1) → GV (FD D L) H' y e → WB n e → Q' y H') : spOne K [.ref D, .ref A] H2 Q' E0 := by
  refine ⟨D, L, m, _, rfl, d, hm, .inl ⟨A, _, rfl, .inl ⟨SqL.of g, na⟩, by rw [gx.len]; exact l0, by rw [gx.len]; exact l1, fun H' y k' d' hy => ?_⟩⟩
  obtain ⟨e, he, t⟩ := (gx.kd d d' k').mem hy
  exact h H' y e k' d' t (wb.mem he)
theorem Deck.sm {H H' : Hp} {D L : Addr} {n : Nat} (h : Deck H D L n) (s : Same H H') : Deck H' D L n := h.kp (Kp.same (S := []) s) (fun z => nomatch z) (fun z => nomatch z)
theorem Deck.nin {H : Hp} {D L p : Addr} {n : Nat} (h : Deck H D L n) (np : H p = none) : p ∉ [D, L] := by simpa using h.neD np
section
variable {P : Program} {w : World} {K : PySem.W.Frag} {mg : Str → Option Value} {base : Heap} {RV : Addr}
end
end G

set_option Elab.async false
set_option linter.all false
set_option maxRecDepth 100000
set_option maxHeartbeats 4000000
/-! A tuple backwards. -/
namespace G
open PySem PySem.Spec PyProof.Rows L2 StX RZ
theorem pick_all {α : Type} : ∀ l : List α, (List.range l.length).filterMap (fun m => l[m]?) = l
  | [] => rfl
  | a :: l => by
    show (List.range (l.length + 1)).filterMap _ = _
    rw [List.range_succ_eq_map, List.filterMap_cons, List.filterMap_map]
    show a :: (List.range l.length).filterMap (fun m => (a :: l)[m + 1]?) = a :: l
    congr 1
    exact pick_all l
theorem fm_congr {α β : Type} {f g : α → Option β} : ∀ {l : List α}, (∀ x ∈ l, f x = g x) → l.filterMap f = l.filterMap g
  | [], _ => rfl
  | a :: l, h => by
    rw [List.filterMap_cons, List.filterMap_cons, h a (List.mem_cons_self ..), fm_congr fun x hx => h x (List.mem_cons_of_mem _ hx)]
theorem pick_rev (xs : Array Value) : (List.range xs.size).filterMap (fun m : Nat => xs[((xs.size : Int) - 1 + (m : Int) * (-1)).toNat]?) = xs.toList.reverse := by
  have h := pick_all xs.toList.reverse
  have e : xs.toList.reverse.length = xs.size := by simp
  rw [e] at h
  refine Eq.trans ?_ h
  refine fm_congr fun m hm => ?_
  have hm : m < xs.size := List.mem_range.mp hm
  rw [List.getElem?_reverse (by simpa using hm), ← Array.getElem?_toList]
  congr 1
  rw [Array.length_toList]
  omega
theorem part_rev {prog : Program} {w : World} {A : Around} {E : Value → Shared → Prop} {s : Shared} {sl : Addr} {u1 u2 u3 : Value} {n : Nat} {Q : Int × Int × Nat → Shared → Prop} (hS : s.heap.IsSliceOf sl u1 u2 u3) (p1 : IsPart u1 none) (p2 : IsPart u2 none) (p3 : IsPart u3 (some (-1)))
    (q : Q ((n : Int) - 1, -1, n) s) : wpAny (model prog w) A (Builtin.Slice.sliceApplied (.ref sl) (pure (n : Int))) Q E s := by
  obtain ⟨o, o1, _, o3⟩ := id hS
  unfold Builtin.Slice.sliceApplied Builtin.Slice.sliceFields
  refine wpAny_bind (wpAny_bind (wpAny_field o1 o3 (x := u1) rfl (wpAny_bind (wpAny_field o1 o3 (x := u2) rfl (wpAny_bind (wpAny_field o1 o3 (x := u3) rfl (wpAny_pure ?_)))))))
  refine wpAny_bind (HT.slicePart_ p3 ?_)
  show wpAny _ _ (if ((-1 : Int) == 0) = true then _ else _) _ _ s
  rw [if_neg (by decide)]
  refine wpAny_bind (HT.slicePart_ p1 (wpAny_bind (HT.slicePart_ p2 (wpAny_bind (wpAny_pure ?_)))))
  show wpAny _ _ (pure ((n : Int) - 1, (-1 : Int), Builtin.Slice.slicePlaces ((n : Int) - 1) (-1) (-1))) _ _ s
  rw [show Builtin.Slice.slicePlaces ((n : Int) - 1) (-1) (-1) = n by
    unfold Builtin.Slice.slicePlaces
    rw [if_neg (by decide)]
    split
    · rw [show -(-1 : Int) = 1 by decide, Int.ediv_one]
      omega
    · omega]
  exact wpAny_pure q
theorem item_rev {prog : Program} {w : World} {A : Around} {E : Value → Shared → Prop} {s : Shared} {t sl : Addr} {xs : Array Value} {u1 u2 u3 : Value} {Q : Value → Shared → Prop} (hT : IsTup s.heap t xs) (hS : s.heap.IsSliceOf sl u1 u2 u3) (p1 : IsPart u1 none) (p2 : IsPart u2 none) (p3 : IsPart u3 (some (-1)))
    (q : Q (.ref s.heap.objs.size) { s with heap := s.heap.push { cls := .type "tuple", data := .seq xs.toList.reverse.toArray } }) (hz : xs.size ≤ sizeLine) : wpAny (model prog w) A (getItem (.ref t) (.ref sl)) Q E s := by
  have ok : sizeOk (.seq xs.toList.reverse.toArray) := by
    show xs.toList.reverse.toArray.size ≤ sizeLine
    rw [List.size_toArray, List.length_reverse, Array.length_toList]
    exact hz
  obtain ⟨o, o1, o2, o3⟩ := id hS
  have tS : s.TypeIs (.ref sl) "slice" := ⟨o, o1, o2⟩
  unfold getItem
  try with_reducible refine wpAny_holding ?_
  first | refine wpAny_bind (wpAny_pure ?_) | skip
  refine wpAny_bind (wpAny_sequenceKey hT.typeIs (by decide) (wpAny_bind (wpAny_callSpecial?_slot (name := Str.ofString "__getitem__") hT.typeIs PyProof.Rows.slot_tuple_getitem
    (wpAny_call_entry PyProof.Rows.slot_tuple_getitem hT.typeIs entry_tuple_getitem ?_ (args_tuple_getitem _ _)))))
  show wpAny _ _ (Builtin.Tuple.tupleItemsOf (.ref t) >>= _) _ _ s
  refine wpAny_bind (tupleItemsOf_ hT (wpAny_bind (wpAny_typeOf tS ?_)))
  rw [if_pos (by decide)]
  refine wpAny_bind (part_rev hS p1 p2 p3 ?_)
  have no : ¬ ((((xs.size : Int) - 1) == 0 && (-1 : Int) == 1 && xs.size == xs.size) = true) := by
    rw [show ((-1 : Int) == 1) = false by decide, Bool.and_false, Bool.false_and]
    exact Bool.false_ne_true
  show wpAny _ _ (if ((((xs.size : Int) - 1) == 0 && (-1 : Int) == 1 && xs.size == xs.size)) = true then _ else _) _ _ s
  rw [if_neg no, pick_rev]
  first
    | exact wpAny_bind (m := Builtin.Tuple.tupleExact _) (wpAny_newObj_type (wpAny_pure ⟨_, rfl, wpAny_pure q⟩) ok)
    | exact wpAny_bind (m := Builtin.Tuple.tupleExact _) (wpAny_newObj_type (wpAny_bind (wpAny_pure (wpAny_pure ⟨_, rfl, wpAny_pure q⟩))) ok)
    | exact wpAny_bind (wpAny_bind (m := Builtin.Tuple.tupleExact _) (wpAny_newObj_type (wpAny_pure (wpAny_pure ⟨_, rfl, wpAny_pure q⟩)) ok))
    | exact wpAny_bind (wpAny_bind (m := Builtin.Tuple.tupleExact _) (wpAny_newObj_type (wpAny_pure ⟨_, rfl, wpAny_pure q⟩) ok))
section
variable {X : Cx}
theorem pe_revT {e : Expr} {te : TE} {k : Nat} {p1 p2 p3 pos : Pos} (he : PE X e te) : PE X (.Subscript e (.Slice none none (some (.UnaryOp .USub (.Constant (.int 1) k p1) p2)) p3) pos) (tRevT X.K te) := by
  refine ⟨fun pins s σ H Q I h => Subscript_ (thn (he.run pins s σ H _ I h) fun v s1 ⟨x, H1, I1, r1, a, xs, ex, hx, q⟩ => ?_)⟩
  subst ex
  cases r1
  have hst : PO X (some (.UnaryOp .USub (.Constant (.int 1) k p1) p2)) (tPart (tUn (rU fun i => .int (-i)) (tC (.int 1)))) := po_some (pe_un un_neg pe_int)
  refine wpAny_Slice (thn (po_none.run pins s1 σ H1 (fun o H2 => o = none ∧ H2 = H1) I1 ⟨rfl, rfl⟩) fun w1 s2 ⟨o1, H2, I2, y1, z1, z2⟩ => ?_)
  subst z1 z2
  refine thn (po_none.run pins s2 σ H2 (fun o H3 => o = none ∧ H3 = H2) I2 ⟨rfl, rfl⟩) fun w2 s3 ⟨o2, H3, I3, y2, z1, z2⟩ => ?_
  subst z1 z2
  refine thn (hst.run pins s3 σ H3 (fun o H4 => o = some (-1) ∧ H4 = H3) I3 ⟨1, rfl, -1, rfl, rfl, rfl⟩) fun w3 s4 ⟨o3, H4, I4, y3, z1, z2⟩ => ?_
  subst z1 z2
  have I5 : Inv X pins σ H4 { s4 with heap := s4.heap.push { cls := .type "slice", data := .fields #[w1, w2, w3] } } := I4.kept (t' := s4.toks) fun b ob y => Heap.get?_push_of_some _ y
  obtain ⟨its, r, ht, hz⟩ := I5.tuple hx
  have el := r.length
  show wpAny (model X.prog X.w) X.A (subscriptTail e (.Slice none none (some (.UnaryOp .USub (.Constant (.int 1) k p1) p2)) p3) (.ref a) (.ref s4.heap.objs.size)) (EP X pins σ Q) X.xe { s4 with heap := s4.heap.push { cls := .type "slice", data := .fields #[w1, w2, w3] } }
  refine tail_any (ops := [.ref a, .ref s4.heap.objs.size]) ht.typeIs PyProof.Rows.slot_tuple_getitem.lookup (item_rev ht (Heap.IsSliceOf.new _ w1 w2 w3) y1 y2 y3 ?_ (by rw [List.size_toArray, ← el]; exact hz)) (by with_unfolding_all rfl)
  refine ⟨.ref _, _, I5.laid (t' := s4.toks) (o := .tup xs.reverse) (fun b ob y => Heap.get?_push_of_some _ y) (Nat.le_refl _) ?_, rfl, q _ (I5.hok.fresh (Nat.le_refl _))⟩
  exact ⟨by rw [List.length_reverse]; exact hz, _, r.reverse, IsTup.new _ _⟩
end
end G

set_option Elab.async false
set_option linter.all false
set_option maxRecDepth 100000
set_option maxHeartbeats 4000000
/-! Values of bounded width; slices and sums of tuples. -/
namespace G
open PySem PySem.Spec PyProof.Rows L2 StX RZ
mutual
theorem WB.mono {m n : Nat} (h : m ≤ n) : ∀ d : PyData, WB m d → WB n d
  | .none, _ => trivial
  | .bool _, _ => trivial
  | .int _, _ => trivial
  | .str _, _ => trivial
  | .list _, _ => trivial
  | .dict _, _ => trivial
  | .tuple ds, w => ⟨Nat.le_trans w.1 h, WBs.mono h ds w.2⟩
theorem WBs.mono {m n : Nat} (h : m ≤ n) : ∀ ds : List PyData, WBs m ds → WBs n ds
  | [], _ => trivial
  | d :: ds, w => ⟨WB.mono h d w.1, WBs.mono h ds w.2⟩
end
theorem WBs.append {n : Nat} {b : List PyData} : ∀ {a : List PyData}, WBs n a → WBs n b → WBs n (a ++ b)
  | [], _, h => h
  | _ :: _, h1, h2 => ⟨h1.1, WBs.append h1.2 h2⟩
theorem WBs.sub {n : Nat} {b : List PyData} (hb : WBs n b) : ∀ {a : List PyData}, (∀ d ∈ a, d ∈ b) → WBs n a
  | [], _ => trivial
  | d :: a, h => ⟨hb.mem (h d (List.mem_cons_self ..)), WBs.sub hb fun x hx => h x (List.mem_cons_of_mem _ hx)⟩
theorem GVs.take {F : Addr → Prop} {H : Hp} : ∀ (n : Nat) {vs : List V} {ds : List PyData}, GVs F H vs ds → GVs F H (vs.take n) (ds.take n)
  | 0, _, _, _ => .nil
  | n + 1, _, _, .nil => .nil
  | n + 1, _, _, .cons h t => .cons h (GVs.take n t)
theorem GVs.rev {F : Addr → Prop} {H : Hp} : ∀ {vs : List V} {ds : List PyData}, GVs F H vs ds → GVs F H vs.reverse ds.reverse
  | _, _, .nil => .nil
  | _, _, .cons h t => by
    rw [List.reverse_cons, List.reverse_cons]
    exact t.rev.append (.cons h .nil)
/-- a value, tuples of at most m items within; a row of such -/
def GW (D L : Addr) (H : Hp) (m : Nat) (v : V) : Prop := ∃ d, GV (FD D L) H v d ∧ WB m d
def GL (D L : Addr) (H : Hp) (m : Nat) (xs : List V) : Prop := ∃ ds, GVs (FD D L) H xs ds ∧ WBs m ds
section
variable {D L : Addr} {H H' : Hp} {m n i j : Nat} {v : V} {xs ys : List V}
theorem GW.same (h : GW D L H m v) (s : Same H H') : GW D L H' m v := by
  obtain ⟨d, g, w⟩ := h
  exact ⟨d, g.same s, w⟩
theorem GW.kd (h : GW D L H m v) (a : Deck H D L i) (b : Deck H' D L j) (k : Kp [D, L] H H') : GW D L H' m v := by
  obtain ⟨d, g, w⟩ := h
  exact ⟨d, g.kd a b k, w⟩
theorem GW.mono (h : GW D L H m v) (l : m ≤ n) : GW D L H n v := by
  obtain ⟨d, g, w⟩ := h
  exact ⟨d, g, WB.mono l d w⟩
theorem GL.same (h : GL D L H m xs) (s : Same H H') : GL D L H' m xs := by
  obtain ⟨d, g, w⟩ := h
  exact ⟨d, g.same s, w⟩
theorem GL.kd (h : GL D L H m xs) (a : Deck H D L i) (b : Deck H' D L j) (k : Kp [D, L] H H') : GL D L H' m xs := by
  obtain ⟨d, g, w⟩ := h
  exact ⟨d, g.kd a b k, w⟩
theorem GL.mono (h : GL D L H m xs) (l : m ≤ n) : GL D L H n xs := by
  obtain ⟨d, g, w⟩ := h
  exact ⟨d, g, WBs.mono l d w⟩
theorem GL.nil : GL D L H m [] := ⟨[], .nil, trivial⟩
theorem GL.cons (h : GW D L H m v) (t : GL D L H m xs) : GL D L H m (v :: xs) := by
  obtain ⟨d, g, w⟩ := h
  obtain ⟨ds, gs, ws⟩ := t
  exact ⟨d :: ds, .cons g gs, w, ws⟩
theorem GL.append (h : GL D L H m xs) (t : GL D L H m ys) : GL D L H m (xs ++ ys) := by
  obtain ⟨d, g, w⟩ := h
  obtain ⟨ds, gs, ws⟩ := t
  exact ⟨d ++ ds, g.append gs, w.append ws⟩
theorem GL.cut (h : GL D L H m xs) (lo hi : Option Int) : GL D L H m (cutV xs lo hi) := by
  obtain ⟨d, g, w⟩ := h
  exact ⟨_, (g.drop _).take _, w.sub fun x hx => List.mem_of_mem_drop (List.mem_of_mem_take hx)⟩
theorem GL.rev (h : GL D L H m xs) : GL D L H m xs.reverse := by
  obtain ⟨d, g, w⟩ := h
  exact ⟨_, g.rev, w.sub fun x hx => List.mem_reverse.mp hx⟩
theorem GL.mem (h : GL D L H m xs) (hv : v ∈ xs) : GW D L H m v := by
  obtain ⟨d, g, w⟩ := h
  obtain ⟨e, he, ge⟩ := g.mem hv
  exact ⟨e, ge, w.mem he⟩
theorem GL.tup {p : Addr} (h : GL D L H m xs) (g : H p = some (.tup xs)) (l : xs.length ≤ m) : GW D L H m (.ref p) := by
  obtain ⟨d, gs, w⟩ := h
  exact ⟨.tuple d, .tup g gs, by rw [← gs.len]; exact l, w⟩
theorem GL.lst {p : Addr} (h : GL D L H m xs) (f : p ∉ [D, L]) (g : H p = some (.lst xs)) : GW D L H n (.ref p) := by
  obtain ⟨d, gs, w⟩ := h
  exact ⟨.list d, .lst f g gs, trivial⟩
theorem GW.str (x : Str) (l : x.length ≤ 1000) : GW D L H m (.str x) := ⟨_, .str x l, trivial⟩
theorem one_gl {K : PySem.W.Frag} {A : Addr} (d : Deck H D L i) (hm : i < 10 ^ 12) (g : H A = some (.lst xs)) (gx : GL D L H m xs) (na : A ∉ [D, L]) (l0 : 0 < xs.length) (l1 : xs.length ≤ 1000) {Q' : VK}
    (h : ∀ H' y, Kp [D, L] H H' → Deck H' D L (i + 1) → GW D L H' m y → Q' y H') : spOne K [.ref D, .ref A] H Q' E0 := by
  obtain ⟨ds, gs, w⟩ := gx
  have e := gs.len
  exact one_gv d hm g gs w na (by omega) (by omega) fun H' y e k d' gy wy => h H' y k d' ⟨e, gy, wy⟩
end
section
variable {K : PySem.W.Frag} {H : Hp} {Q : VK} {a b t : Addr} {xs ys : List V}
theorem cut_whole (lo hi : Option Int) (h : HT.sIx xs.length 0 lo = 0 ∧ HT.sIx xs.length xs.length hi = xs.length) : cutV xs lo hi = xs := by
  unfold cutV
  rw [h.1, h.2, List.drop_zero, Nat.sub_zero, List.take_length]
theorem sl_any {lo hi : Option Int} (g : H t = some (.tup xs)) (q : ∀ p H', Same H H' → H' p = some (.tup (cutV xs lo hi)) → Q (.ref p) H') : rSlA K (.ref t) lo hi H Q :=
  ⟨t, xs, rfl, SqT.of g, fun h => q t H (Same.refl _) (by rw [cut_whole lo hi h]; exact g), fun _ p np => q p _ (Same.up np) upd_same⟩
theorem cat_any (ga : H a = some (.tup xs)) (gb : H b = some (.tup ys)) (l : xs.length + ys.length ≤ 1000) (q : ∀ p H', Same H H' → H' p = some (.tup (xs ++ ys)) → Q (.ref p) H') : rCatA K (.ref a) (.ref b) H Q :=
  ⟨a, b, xs, ys, rfl, rfl, SqT.of ga, SqT.of gb, line1000 l, fun h => q b H (Same.refl _) (by rw [h]; exact gb), fun _ h => q a H (Same.refl _) (by rw [h, List.append_nil]; exact ga), fun _ _ p np => q p _ (Same.up np) upd_same⟩
theorem cut_take (k : Nat) (h : k ≤ xs.length) : cutV xs none (some (k : Int)) = xs.take k := by
  unfold cutV
  rw [HT.sIx_nat, HT.sIx_none, Nat.min_eq_left h, List.drop_zero, Nat.sub_zero]
theorem cut_last : (cutV xs (some (-1)) none).length ≤ 1 := by
  unfold cutV
  rw [HT.sIx_none, List.length_take, List.length_drop]
  have e : HT.sIx xs.length 0 (some (-1)) = xs.length - 1 := by
    show (if (-1 : Int) < 0 then ((-1 : Int) + (xs.length : Int)).toNat else min (-1 : Int).toNat xs.length) = _
    rw [if_pos (by decide)]
    omega
  rw [e]
  omega
end
end G

set_option Elab.async false
set_option linter.all false
set_option maxRecDepth 100000
set_option maxHeartbeats 4000000
/-! The law's bent values. -/
namespace G
open PySem PySem.Spec PyProof.Rows L2 StX RZ
theorem cutP2 {P : Hp → Prop} {H : Hp} {G : Prop} (f : (∀ H', Same H H' → P H') → G) (b : ∀ H', Same H H' → P H') : G := f b
theorem noP {σ : L2.St} {H : Hp} {k : Option Int → Hp → Prop} (h : k none H) : tNoPart σ H k := h
section
variable {P : Program} {w : World} {K : PySem.W.Frag} {mg : Str → Option Value} {base : Heap} {RV : Addr}
end
end G

set_option Elab.async false
set_option linter.all false
set_option maxRecDepth 100000
set_option maxHeartbeats 4000000
/-! On paper: a single statement; what the law says of it. -/
namespace G
open PySem PySem.Spec PyProof.Rows L2 StX RZ
mutual
def WS (n : Nat) : PyData → Prop
  | .str x => x.length ≤ 1000
  | .tuple ds => ds.length ≤ n ∧ WSs n ds
  | _ => True
def WSs (n : Nat) : List PyData → Prop
  | [] => True
  | d :: ds => WS n d ∧ WSs n ds
end
mutual
theorem TD.gv {F : Addr → Prop} {H : Hp} {n : Nat} : ∀ (d : PyData) (v : V), WS n d → TD H v d → GV F H v d ∧ WB n d
  | .none, _, _, h => by cases h; exact ⟨.non, trivial⟩
  | .bool b, _, _, h => by cases h; exact ⟨.bl b, trivial⟩
  | .int i, _, _, h => by cases h; exact ⟨.int i, trivial⟩
  | .str x, _, w, h => by cases h; exact ⟨.str x w, trivial⟩
  | .list ds, _, _, h => nomatch h
  | .dict ds, _, _, h => nomatch h
  | .tuple ds, _, w, h => by
    cases h with
    | tup h1 h2 =>
      obtain ⟨a, b⟩ := TDs.gv ds _ w.2 h2
      exact ⟨.tup h1 a, w.1, b⟩
theorem TDs.gv {F : Addr → Prop} {H : Hp} {n : Nat} : ∀ (ds : List PyData) (vs : List V), WSs n ds → TDs H vs ds → GVs F H vs ds ∧ WBs n ds
  | [], _, _, h => by cases h; exact ⟨.nil, trivial⟩
  | d :: ds, _, w, h => by
    cases h with
    | cons h1 h2 =>
      obtain ⟨a, b⟩ := TD.gv d _ w.1 h1
      obtain ⟨c, e⟩ := TDs.gv ds _ w.2 h2
      exact ⟨.cons a c, b, e⟩
end
theorem nm_1000 {x : Str} (h : Nm x) : x.length ≤ 1000 := Nat.le_trans h.1 (by decide)
theorem ws_tst : ∀ t : Tst, t.nm → WS 4 t.data
  | .given i, _ => ⟨Nat.le_of_ble_eq_true rfl, (by decide +kernel : (Str.ofString "given").length ≤ 1000), trivial, trivial⟩
  | .set x, h => ⟨Nat.le_of_ble_eq_true rfl, (by decide +kernel : (Str.ofString "set").length ≤ 1000), nm_1000 h, trivial⟩
  | .same x y, h => ⟨Nat.le_of_ble_eq_true rfl, (by decide +kernel : (Str.ofString "same").length ≤ 1000), nm_1000 h.1, nm_1000 h.2, trivial⟩
  | .full x y, h => ⟨Nat.le_of_ble_eq_true rfl, (by decide +kernel : (Str.ofString "full").length ≤ 1000), nm_1000 h.1, nm_1000 h.2, trivial⟩
  | .wished x, h => ⟨Nat.le_of_ble_eq_true rfl, (by decide +kernel : (Str.ofString "wished").length ≤ 1000), nm_1000 h, trivial⟩
  | .not t, h => ⟨Nat.le_of_ble_eq_true rfl, (by decide +kernel : (Str.ofString "not").length ≤ 1000), ws_tst t h, trivial⟩
theorem ws_act : ∀ a : Act, a.nm → WS 4 a.data
  | .make x, h => ⟨Nat.le_of_ble_eq_true rfl, (by decide +kernel : (Str.ofString "make").length ≤ 1000), nm_1000 h, trivial⟩
  | .wish x y, h => ⟨Nat.le_of_ble_eq_true rfl, (by decide +kernel : (Str.ofString "wish").length ≤ 1000), nm_1000 h.1, nm_1000 h.2, trivial⟩
  | .keep x, h => ⟨Nat.le_of_ble_eq_true rfl, (by decide +kernel : (Str.ofString "keep").length ≤ 1000), nm_1000 h, trivial⟩
  | .name x y, h => ⟨Nat.le_of_ble_eq_true rfl, (by decide +kernel : (Str.ofString "name").length ≤ 1000), nm_1000 h.1, nm_1000 h.2, trivial⟩
  | .drop x, h => ⟨Nat.le_of_ble_eq_true rfl, (by decide +kernel : (Str.ofString "drop").length ≤ 1000), nm_1000 h, trivial⟩
  | .hold x f y, h => ⟨Nat.le_of_ble_eq_true rfl, (by decide +kernel : (Str.ofString "hold").length ≤ 1000), nm_1000 h.1, nm_1000 h.2.1, nm_1000 h.2.2, trivial⟩
  | .weak x f y, h => ⟨Nat.le_of_ble_eq_true rfl, (by decide +kernel : (Str.ofString "weak").length ≤ 1000), nm_1000 h.1, nm_1000 h.2.1, nm_1000 h.2.2, trivial⟩
  | .cut x f, h => ⟨Nat.le_of_ble_eq_true rfl, (by decide +kernel : (Str.ofString "cut").length ≤ 1000), nm_1000 h.1, nm_1000 h.2, trivial⟩
  | .take x f y, h => ⟨Nat.le_of_ble_eq_true rfl, (by decide +kernel : (Str.ofString "take").length ≤ 1000), nm_1000 h.1, nm_1000 h.2.1, nm_1000 h.2.2, trivial⟩
  | .say x, h => ⟨Nat.le_of_ble_eq_true rfl, (by decide +kernel : (Str.ofString "say").length ≤ 1000), nm_1000 h, trivial⟩
  | .ask t, h => ⟨Nat.le_of_ble_eq_true rfl, (by decide +kernel : (Str.ofString "ask").length ≤ 1000), ws_tst t h.1, trivial⟩
theorem TD.gw {D L : Addr} {H : Hp} {n : Nat} {d : PyData} {v : V} (w : WS n d) (h : TD H v d) : GW D L H n v := by
  obtain ⟨a, b⟩ := TD.gv (F := FD D L) d v w h
  exact ⟨d, a, b⟩
/-! ### a single statement -/
theorem size_pos (s : Sta) : 1 ≤ s.size := by
  cases s with
  | act a => exact Nat.le_refl 1
  | cond t y n => show 1 ≤ 1 + (sizeB y + sizeB n); omega
  | rep k b => show 1 ≤ 1 + sizeB b; omega
theorem sizeB_0 {b : List Sta} (h : sizeB b = 0) : b = [] := by
  cases b with
  | nil => rfl
  | cons s r =>
    have := size_pos s
    have h : s.size + sizeB r = 0 := h
    omega
theorem wt_one {s : Sta} (h : s.size = 1) : wtS s = 1 := by
  cases s with
  | act a => rfl
  | cond t y n =>
    have h : 1 + (sizeB y + sizeB n) = 1 := h
    have e1 := sizeB_0 (by omega : sizeB y = 0)
    have e2 := sizeB_0 (by omega : sizeB n = 0)
    subst e1 e2
    rfl
  | rep k b =>
    have h : 1 + sizeB b = 1 := h
    have e1 := sizeB_0 (by omega : sizeB b = 0)
    subst e1
    show 1 + (k : Int) * 0 = 1
    omega
theorem bnd_one {b : List Sta} {k : Nat} (h : sizeB b = 1) (hw : WishN b k) : bndD b k = .none := by
  match b, h with
  | s :: r, h =>
    have h1 := size_pos s
    have h2 : s.size + sizeB r = 1 := h
    have e := sizeB_0 (by omega : sizeB r = 0)
    subst e
    have hs : s.size = 1 := by omega
    have w1 : wtB [s] = 1 := by
      show wtS s + 0 = 1
      rw [wt_one hs]
      rfl
    obtain ⟨ys, sd, ek⟩ := hw (by omega) (by omega)
    have l1 : (rowsP 0 [s]).length = 1 := by rw [rowsP_len]; exact h
    have l2 : (wishesL (rowsP 0 [s])).length ≤ (rowsP 0 [s]).length := List.length_filterMap_le _ _
    have l3 := sd.2.2.2
    unfold bndD
    rw [if_neg (by omega), if_neg (by omega), if_neg (by omega)]
def NB (d : PyData) : Prop := ∀ b ∈ partsD d, tupI b = []
theorem inner_nb {d : PyData} (h : NB d) (dp : Nat) : innerQ dp d = [] := by
  unfold innerQ
  rw [List.flatMap_eq_nil_iff]
  intro b hb
  rw [h b hb]
  rfl
def dueD (d : PyData) (g : Int) : PyData := if isStmt d g = true then .none else .tuple [.int 0, .str "statement"]
theorem spPE_one {G : Addr → Prop} {H : Hp} {v : V} {d : PyData} {g : Int} {Q : VK} {E : XK} (gv : GV G H v (.tuple [.int g, .tuple [d]])) (h0 : 0 ≤ g) (h3 : g ≤ 3) (nb : NB d) (q : ∀ H' u, Same H H' → TD H' u (dueD d g) → Q u H') : spPE [v] H Q E := by
  have hp : pairD (.tuple [.int g, .tuple [d]]) = true := by
    show (rngD 0 3 (.int g) && true) = true
    rw [Bool.and_true]
    show (decide (0 ≤ g) && decide (g ≤ 3)) = true
    rw [decide_eq_true h0, decide_eq_true h3]
    rfl
  refine ⟨G, v, _, rfl, gv, fun h => by rw [hp] at h; exact absurd h (by decide), fun _ => ?_⟩
  unfold dueD at q
  cases e : isStmt d g with
  | false =>
    rw [e] at q
    refine ⟨g, [d], 0, some (0, Str.ofString "statement"), rfl, Nat.le_of_ble_eq_true rfl, by decide, .wrong 0 0 d [] (by decide) e, fun x hx H' u s t => ?_, fun h => by cases h⟩
    cases hx
    exact q H' u s t
  | true =>
    rw [e] at q
    refine ⟨g, [d], 1, none, rfl, Nat.le_of_ble_eq_true rfl, by decide, .step (by decide) e (by rw [inner_nb nb]; exact Nat.zero_le _) (by rw [inner_nb nb]; exact .nil 1), (fun x hx => by cases hx), fun _ blk eb hb hs k hk H' u s t => ?_⟩
    rw [bnd_one hs hk] at t
    exact q H' u s t
/-! ### parts made empty -/
def normD (d : PyData) : PyData := if isTupD d = true then .tuple [] else d
theorem norm_tupI (d : PyData) : tupI (normD d) = [] := by
  unfold normD
  cases e : isTupD d with
  | true => rfl
  | false => cases d <;> first | rfl | cases e
theorem nb_norm {ds : List PyData} : NB (.tuple (ds.take 2 ++ (ds.drop 2).map normD)) := by
  intro b hb
  match ds, hb with
  | [], hb => cases hb
  | [a], hb =>
    cases a <;> first | cases hb | skip
  | a :: c :: r, hb =>
    have hb : b ∈ partsD (.tuple (a :: c :: r.map normD)) := hb
    have hb : b ∈ r.map normD := by
      unfold partsD at hb
      split at hb
      · rename_i w x es e
        injection e with e
        injection e with e1 e2
        injection e2 with e3 e4
        subst e4
        split at hb
        · exact hb
        · cases hb
      · cases hb
    obtain ⟨x, _, rfl⟩ := List.mem_map.mp hb
    exact norm_tupI x
theorem nb_else {d : PyData} (h : ∀ w x ds, d = .tuple (.str w :: x :: ds) → blkW w = true → ds = []) : NB d := by
  intro b hb
  unfold partsD at hb
  split at hb
  · rename_i w x ds
    split at hb
    · rename_i c
      rw [h w x ds rfl c] at hb
      cases hb
    · cases hb
  · cases hb
end G

set_option Elab.async false
set_option linter.all false
set_option maxRecDepth 100000
set_option maxHeartbeats 8000000
/-! k00: the law. -/
namespace G
open PySem PySem.Spec PyProof.Rows L2 StX RZ
theorem cutP3 {R : V → Option V → Hp → Prop} {good : V → Hp → Prop} {G : Prop} (f : (∀ v x H', good v H' → R v x H') → G) (b : ∀ v x H', good v H' → R v x H') : G := f b
theorem nilP {σ : L2.St} {H : Hp} {k : List V → Hp → Prop} (h : k [] H) : tNil σ H k := h
theorem cutP4 {R : V → Hp → Prop} {good : V → Hp → Prop} {G : Prop} (f : (∀ v H', good v H' → R v H') → G) (b : ∀ v H', good v H' → R v H') : G := f b
section
variable {K : PySem.W.Frag} {σ : L2.St} {H1 : Hp} {U a D L : Addr} {Qd : Hp → Prop} {te : TE} {j : Nat} {xs : List V} {ds : List PyData}
abbrev FU (D L U : Addr) : Addr → Prop := fun b => b ∉ [D, L] ∧ b ≠ U
/-- [() if a tuple else x for x in t] -/
theorem lc_norm (gx : GVs (FD D L) H1 xs ds) (lx : ds.length ≤ 1000) (ga : H1 a = some (.tup xs)) (nU : H1 U = none) (e1 : ∀ v, wipe ((wipe σ [j]).set j (some v)) [j] = wipe σ [j]) (hj : ∀ v, gName j v (wipe σ [j]) = fun H' Q => Q ((wipe σ [j]).set j (some v)) H')
    (he : ∀ v d H (Q : VK), GV (FU D L U) H v d → (isTupD d = true → ∀ p, H p = none → Q (.ref p) (upd H p (.tup []))) → (isTupD d = false → Q v H) → te ((wipe σ [j]).set j (some v)) H Q)
    (q : ∀ H' ys, Ch [U] H1 H' → H' U = some (.lst ys) → GVs (FD D L) H' ys (ds.map normD) → Qd H') :
    ∃ W : Nat → Nat → Hp → Prop, (∃ m, W 0 m (upd H1 U (.lst []))) ∧ ∀ i m H, W i m H →
      ((Itt K a).stop i H ∧ Qd H) ∨ ((Itt K a).go i H ∧ ∃ Nx : Hp → Prop, (∀ H', Nx H' → ∃ m', m' < m ∧ W (i + 1) m' H') ∧ ∀ x H', (Itt K a).yld i H x H' → gName j x (wipe σ [j]) H' fun σ2 H2 => wipe σ2 [j] = wipe σ [j] ∧ tYes σ2 H2 fun b H3 =>
        if b = true then te σ2 H3 fun y H4 => ∃ acc, H4 U = some (.lst acc) ∧ acc.length < sizeLine ∧ Nx (upd H4 U (.lst (acc ++ [y]))) else Nx H3) := by
  have el := gx.len
  have gu : GVs (FU D L U) H1 xs ds := GVs.ch (Ch.refl [] H1) (fun b f ⟨o, e⟩ => ⟨List.not_mem_nil, f, fun z => by rw [z, nU] at e; cases e⟩) _ _ gx
  have up : ∀ {H H' : Hp} {vs es}, Ch [U] H H' → GVs (FU D L U) H vs es → GVs (FU D L U) H' vs es := fun {H H' vs es} c g => GVs.ch c (fun b f _ => ⟨by simpa using f.2, f⟩) _ _ g
  refine in_tup (xs := xs) (fun i H' => Ch [U] H1 H' ∧ ∃ ys, H' U = some (.lst ys) ∧ ys.length = i ∧ GVs (FU D L U) H' ys ((ds.take i).map normD)) ⟨(Ch.refl _ _).new nU, [], upd_same, rfl, .nil⟩ (fun i H' _ h => ?_) (fun i x H' hx h => ?_) (fun H' h => ?_)
  · exact SqT.of (h.1.tu _ _ ga)
  · obtain ⟨c, ys, g, ly, gy⟩ := h
    obtain ⟨d, hd, gdx⟩ := (up c gu).at hx
    have hi := (List.getElem?_eq_some_iff.mp hd).1
    have et : (ds.take (i + 1)).map normD = (ds.take i).map normD ++ [normD d] := by
      rw [List.take_add_one, hd, List.map_append]
      rfl
    rw [hj]
    refine ⟨e1 _, he x d H' _ gdx (fun e p np => ?_) (fun e => ?_)⟩
    · have s2 := Same.up (o := HO.tup []) np
      have g2 := s2 _ _ g
      have gp : upd H' p (HO.tup []) p = some (.tup []) := upd_same
      have c2 := c.trans (Ch.same (S := [U]) s2)
      replace gy := up (Ch.same s2) gy
      generalize upd H' p (HO.tup []) = H2 at s2 g2 gp c2 gy ⊢
      have cp : Ch [U] H2 (upd H2 U (.lst (ys ++ [.ref p]))) := (Ch.refl _ _).put (by simp) g2 (fun xs z => by cases z)
      refine ⟨ys, g2, small1000 (by omega), c2.trans cp, _, upd_same, by rw [List.length_append, ly]; rfl, ?_⟩
      rw [et]
      refine (up cp gy).append (.cons ?_ .nil)
      unfold normD
      rw [if_pos e]
      exact .tup (cp.tu _ _ gp) .nil
    · have cp : Ch [U] H' (upd H' U (.lst (ys ++ [x]))) := (Ch.refl _ _).put (by simp) g (fun xs z => by cases z)
      refine ⟨ys, g, small1000 (by omega), c.trans cp, _, upd_same, by rw [List.length_append, ly]; rfl, ?_⟩
      rw [et]
      refine (up cp gy).append (up cp (.cons ?_ .nil))
      unfold normD
      rw [if_neg (by rw [e]; decide)]
      exact gdx
  · obtain ⟨c, ys, g, _, gy⟩ := h
    rw [el, List.take_length] at gy
    exact q H' ys c g (GVs.ch (Ch.refl [] H') (fun b f _ => ⟨List.not_mem_nil, f.1⟩) _ _ gy)
end
theorem wbs_norm {n : Nat} : ∀ {ds : List PyData}, WBs n ds → WBs n (ds.map normD)
  | [], _ => trivial
  | d :: ds, h => by
    refine ⟨?_, wbs_norm h.2⟩
    unfold normD
    split
    · exact ⟨Nat.zero_le _, trivial⟩
    · exact h.1
section
variable {P : Program} {w : World} {K : PySem.W.Frag} {mg : Str → Option Value} {base : Heap} {RV : Addr}
theorem dp_due {H : Hp} {v : V} {d : PyData} {g : Int} (h : TD H v (dueD d g)) : Dp K H v (dueD d g) := by
  revert h
  unfold dueD
  split
  · intro h
    cases h
    exact .non
  · intro h
    obtain ⟨t, xs, rfl, gt, h1⟩ := td_tup h
    obtain ⟨v1, xs, rfl, d1, h2⟩ := tds_cons h1
    obtain ⟨v2, xs, rfl, d2, h3⟩ := tds_cons h2
    cases h3
    cases d1
    cases d2
    exact .tup (SqT.of gt) (.cons (.int _) (.cons (.str _) .nil))
theorem due_repr {H : Hp} {v : V} {d : PyData} {g : Int} {Q : VK} (h : TD H v (dueD d g)) (q : Q (.str (dueD d g).shown) H) : rRepr K [v] H Q := by
  refine ⟨v, dueD d g, rfl, dp_due h, ?_, ?_, ?_, ?_, q⟩
  · unfold dueD; split <;> decide +kernel
  · unfold dueD; split <;> decide +kernel
  · unfold dueD; split <;> decide +kernel
  · refine Nat.le_trans ?_ (Nat.le_of_lt (lt_line (by decide : 1000 < _)))
    unfold dueD; split <;> decide +kernel
end
end G

set_option Elab.async false
set_option linter.all false
set_option maxRecDepth 100000
set_option maxHeartbeats 4000000
/-! Names and words that are right ones. -/
namespace G
open PySem PySem.Spec PyProof.Rows L2 StX RZ
theorem cps_app (a b : Str) : (a ++ b).cps.toList = a.cps.toList ++ b.cps.toList := by
  show (a.cps ++ b.cps).toList = _
  rw [Array.toList_append]
def FL (x : Str) : Prop := ∃ c0 r, x.cps.toList = c0 :: r ∧ ltrB c0 = true ∧ (c0 :: r).all sgnB = true
theorem FL.app {x y : Str} (h : FL x) (hy : ∀ c ∈ y.cps.toList, sgnB c = true) : FL (x ++ y) := by
  obtain ⟨c0, r, e, h1, h2⟩ := h
  refine ⟨c0, r ++ y.cps.toList, by rw [cps_app, e]; rfl, h1, ?_⟩
  rw [← List.cons_append, List.all_append, h2, Bool.true_and]
  exact List.all_eq_true.mpr hy
theorem FL.cut7 {x : Str} (h : FL x) : FL (cutS x none (some 7)) := by
  obtain ⟨c0, r, e, h1, h2⟩ := h
  have lx : x.length = r.length + 1 := by
    have : x.cps.toList.length = x.length := rfl
    rw [e] at this
    exact this.symm
  have e7 : HT.sIx x.length x.length (some 7) = min 7 x.length := HT.sIx_nat x.length x.length 7
  have es : (cutS x none (some 7)).cps.toList = c0 :: r.take (min 7 x.length - 1) := by
    unfold cutS
    rw [List.toList_toArray, HT.sIx_none, e7, e, List.drop_zero, Nat.sub_zero]
    obtain ⟨m, em⟩ : ∃ m, min 7 x.length = m + 1 := ⟨min 7 x.length - 1, by omega⟩
    rw [em]
    rfl
  refine ⟨c0, _, es, h1, ?_⟩
  rw [List.all_cons] at h2 ⊢
  obtain ⟨h3, h4⟩ := Bool.and_eq_true_iff.mp h2
  rw [h3, Bool.true_and]
  exact List.all_eq_true.mpr fun c hc => List.all_eq_true.mp h4 c (List.mem_of_mem_take hc)
theorem FL.name {x : Str} (h : FL x) (l : x.length ≤ 8) (n : x ∉ resL) : nameB x = true := by
  obtain ⟨c0, r, e, h1, h2⟩ := h
  have lx : x.length = r.length + 1 := by
    have : x.cps.toList.length = x.length := rfl
    rw [e] at this
    exact this.symm
  unfold nameB len18
  rw [e, decide_eq_true (by omega : 1 ≤ x.length), decide_eq_true l, decide_eq_false n]
  show (true && (ltrB c0 && true && (c0 :: r).all sgnB)) = true
  rw [h1, h2]
  rfl
theorem sgn_ltr {c : Nat} (h : ltrB c = true) : sgnB c = true := by
  unfold sgnB
  rw [h]
  rfl
theorem no0 {x : Str} (h : (48 : Nat) ∈ x.cps.toList) : x ∉ resL := fun m => by
  have z : ∀ z ∈ resL, (48 : Nat) ∉ z.cps.toList := by decide +kernel
  exact z x m h
/-- a new list of texts of a kind grows -/
def GrowY (p : Str → Prop) (D L a : Addr) (H1 : Hp) (m c : Nat) (i : Nat) (H' : Hp) : Prop := ∃ ys : List Str, Ch [a, D, L] H1 H' ∧ Deck H' D L (m + i * c) ∧ H' a = some (.lst (ys.map V.str)) ∧ ys.length = i ∧ ∀ y ∈ ys, p y
theorem GrowY.start {p : Str → Prop} {D L a : Addr} {H1 : Hp} {m c : Nat} (d : Deck H1 D L m) (na : H1 a = none) : GrowY p D L a H1 m c 0 (upd H1 a (.lst [])) :=
  ⟨[], (Ch.refl _ _).new na, (d.new na).mono (by omega), upd_same, rfl, fun _ z => nomatch z⟩
theorem GrowY.step {p : Str → Prop} {D L a : Addr} {H1 H' H4 : Hp} {m c i : Nat} {y : Str} (g : GrowY p D L a H1 m c i H') (hi : i < 1000) (kp : Ch [D, L] H' H4) (d : Deck H4 D L (m + i * c + c)) (ne : a ∉ [D, L]) (hy : p y) :
    ∃ acc, H4 a = some (.lst acc) ∧ acc.length < sizeLine ∧ GrowY p D L a H1 m c (i + 1) (upd H4 a (.lst (acc ++ [.str y]))) := by
  obtain ⟨ys, k0, d0, ha, hl, hb⟩ := g
  have ne1 : a ≠ D := fun z => ne (by simp [z])
  have ne2 : a ≠ L := fun z => ne (by simp [z])
  have ha4 := kp.kp _ _ ne ha
  refine ⟨_, ha4, by rw [List.length_map, hl]; exact small1000 (by omega), ys ++ [y], (k0.trans (kp.mono fun b hb => List.mem_cons_of_mem _ hb)).put (by simp) ha4 (fun xs z => by cases z), ?_, ?_, by rw [List.length_append, hl]; rfl, fun z hz => ?_⟩
  · refine Deck.mono (n := m + i * c + c) ?_ (by rw [Nat.add_mul]; omega)
    exact d.kp (S := [a]) ((Kp.refl _ _).put (by simp)) (by simpa using ne1.symm) (by simpa using ne2.symm)
  · rw [upd_same, List.map_append]
    rfl
  · rcases List.mem_append.mp hz with h | h
    · exact hb z h
    · rw [List.mem_singleton.mp h]
      exact hy
theorem join_sgn : ∀ (ys : List Str), (∀ y ∈ ys, y.length = 1 ∧ y.cps.toList.all sgnB = true) → (Txt.join "" ys).length = ys.length ∧ (Txt.join "" ys).cps.toList.all sgnB = true
  | ys, h => by
    rw [TL.join_eq]
    induction ys with
    | nil => exact ⟨rfl, rfl⟩
    | cons y r ih =>
      obtain ⟨i1, i2⟩ := ih fun z hz => h z (List.mem_cons_of_mem _ hz)
      obtain ⟨y1, y2⟩ := h y (List.mem_cons_self ..)
      cases r with
      | nil => exact ⟨y1, y2⟩
      | cons z r =>
        have e0 : ("" : Str).length = 0 := rfl
        have e1 : ("" : Str).cps.toList = [] := rfl
        constructor
        · show (y ++ ("" : Str) ++ Str.join "" (z :: r)).length = (z :: r).length + 1
          rw [strLen_append, strLen_append, e0, i1]
          omega
        · show (y ++ ("" : Str) ++ Str.join "" (z :: r)).cps.toList.all sgnB = true
          rw [cps_app, cps_app, e1, List.append_nil, List.all_append, y2, i2]
          rfl
section
variable {P : Program} {w : World} {K : PySem.W.Frag} {mg : Str → Option Value} {base : Heap}
def spNameY : Sp := fun vs H Q _ => ∃ (D L : Addr) (n : Nat), vs = [.ref D] ∧ Deck H D L n ∧ n < 10 ^ 11 ∧ ∀ H' x, Kp [D, L] H H' → Deck H' D L (n + 12) → nameB x = true → Q (.str x) H'
def spWordY : Sp := fun vs H Q _ => ∃ (D L : Addr) (n : Nat), vs = [.ref D] ∧ Deck H D L n ∧ n < 10 ^ 11 ∧ ∀ H' x, Kp [D, L] H H' → Deck H' D L (n + 12) → wordB x = true → Q (.str x) H'
theorem sgn_lt {c : Nat} (h : sgnB c = true) : c < 1114112 := by
  have z : ∀ x ∈ (ltrS ++ digS).cps.toList, x < 1114112 := by decide +kernel
  exact z c (of_decide_eq_true (by rw [sgn_in]; exact h))
theorem name_ok {x : Str} (h : FL x) : OkS x := fun c hc => by
  obtain ⟨c0, r, e, _, h2⟩ := h
  rw [e] at hc
  exact sgn_lt (List.all_eq_true.mp h2 c hc)
def PoolY (H : Hp) (D L a : Addr) (g : Int) (ws : List Str) : Prop := ∃ (N Wd : Addr) (ns : List Str), H a = some (.lst [.ref N, .ref Wd, .int g]) ∧ H N = some (.lst (ns.map V.str)) ∧ H Wd = some (.lst (ws.map V.str)) ∧ (∀ x ∈ ns, nameB x = true) ∧ (∀ x ∈ ws, wordB x = true) ∧ (0 < ns.length ∧ ns.length ≤ 5) ∧ (0 < ws.length ∧ ws.length ≤ 4) ∧ (0 ≤ g ∧ g < 4) ∧ a ∉ [D, L] ∧ N ∉ [D, L] ∧ Wd ∉ [D, L]
theorem PoolY.kp {H H' : Hp} {D L a : Addr} {g : Int} {ws : List Str} (p : PoolY H D L a g ws) (k : Kp [D, L] H H') : PoolY H' D L a g ws := by
  obtain ⟨N, Wd, ns, h1, h2, h3, h4, h5, h6, h7, h8, n1, n2, n3⟩ := p
  exact ⟨N, Wd, ns, k _ _ n1 h1, k _ _ n2 h2, k _ _ n3 h3, h4, h5, h6, h7, h8, n1, n2, n3⟩
def spPoolY : Sp := fun vs H Q _ => ∃ (D L : Addr) (n : Nat), vs = [.ref D] ∧ Deck H D L n ∧ n < 9 * 10 ^ 10 ∧ ∀ H' a g ws, Kp [D, L] H H' → Deck H' D L (n + 200) → PoolY H' D L a g ws → Q (.ref a) H'
theorem ok_nameY {f f1 f2 f3 : Addr} {fd fd1 fd2 fd3 : FuncData} (F : Fun K "_law_name" "_law_name" s__law_name f fd) (T : Bi mg)
    (D1 : Df K mg "_law_draw" s__law_draw ["_law_deck_here", "_law_many"] f1 fd1) (G1 : FnOk P w K mg base CX0 1 f1 fd1 ["_law_deck_here", "_law_many"] spDraw)
    (D2 : Df K mg "_law_one" s__law_one ["_law_deck_here", "_law_items"] f2 fd2) (G2 : FnOk P w K mg base CX0 2 f2 fd2 ["_law_deck_here", "_law_items"] (spOne K))
    (D3 : Df K mg "_law_kept" s__law_kept [] f3 fd3) (G3 : FnOk P w K mg base CX0 1 f3 fd3 [] spKeptX) : FnOk P w K mg base CX0 3 f fd ["_law_deck_here"] spNameY := by
  refine F.ok sc__law_name (fun vs H Q E ⟨D, L, n, ev, _⟩ => by rw [ev]; rfl) (fun cdv A outer s H vs Q E hr ⟨D, L, n, ev, hD, hn, q⟩ => ?_)
  subst ev
  have hr1 : Room 1 _ := hr.mono (by decide)
  refine ⟨_, (pss_cons (ps_set (i := 1) sc__law_name.nd rfl (.inl rfl) pe_str)
      (pss_cons (ps_set (i := 2) sc__law_name.nd rfl (.inl rfl) (pe_call G2 hr (by rfl) D2.m D2.F.kp D2.b .nil pass0 (pa_cons (pv 0) (pa_cons (pv 1) pa_nil))))
      (pss_cons (ps_for PassesOwn.never rfl (pi_range1 (by rfl) T.z_range (pa_cons (pe_call G2 hr (by rfl) D2.m D2.F.kp D2.b .nil pass0 (pa_cons (pv 0) (pa_cons (pe_lst (pa_cons pe_int (pa_cons pe_int (pa_cons pe_int (pa_cons (pe_call G1 hr1 (by rfl) D1.m D1.F.kp D1.b .nil pass0 (pa_cons (pv 0) (pa_cons pe_int pa_nil))) pa_nil))))) pa_nil))) pa_nil)) (pg_name (i := 3) sc__law_name.nd rfl (.inl rfl))
      (pss_one (ps_set (i := 2) sc__law_name.nd rfl (.inl rfl) (pe_op op_add_str (pv 2) (pe_call G2 hr (by rfl) D2.m D2.F.kp D2.b .nil pass0 (pa_cons (pv 0) (pa_cons (pe_op op_add_str (pv 1) pe_str) pa_nil)))))))
      (pss_one (ps_ret (pe_ifExp (pt_cmpR op_notIn_seq (pv 2) (pe_call0 G3 hr1 (by rfl) D3.m D3.F.kp D3.b .nil pass0) (by rfl)) (pv 2) (pe_op op_add_str (pe_slice sl_str (pv 2) po_none (po_some pe_int)) pe_str))))))), ?_⟩
  have lt26 : ∀ (H2 : Hp) (m : Nat) (z : String), Deck H2 D L m → m < 10 ^ 12 → 0 < (Str.ofString z).length → (Str.ofString z).length ≤ 1000 → ∀ (Q' : VK), (∀ H' c, Kp [D, L] H2 H' → Deck H' D L (m + 1) → c ∈ (Str.ofString z).cps.toList → Q' (.str ⟨#[c]⟩) H') → spOne K [.ref D, .str (Str.ofString z)] H2 Q' E0 := fun H2 m z d hm z0 z1 Q' h =>
    ⟨D, L, m, _, rfl, d, hm, .inr ⟨_, rfl, z0, z1, fun H' c k' d' hc => h H' c k' d' hc⟩⟩
  refine ⟨.ref D, rfl, _, rfl, lt26 H n "abcdefghijklmnopqrstuvwxyz" hD (by omega) (by decide +kernel) (by decide +kernel) _ fun H1 c k1 hD1 oc => ?_⟩
  refine ⟨.ref D, rfl, .ref D, rfl, D, L, _, 8, rfl, hD1, by omega, by decide, by decide, fun H2 r k2 hD2 r0 r1 => ⟨line1000 (Nat.le_of_ble_eq_true rfl), fun l nl => ?_⟩⟩
  have hl : l ∉ [D, L] := by simpa using hD2.neD nl
  have s3 := Same.up (o := HO.lst [V.int 0, V.int 1, V.int 7, V.int r]) nl
  have hD3 := hD2.kp (Kp.same (S := []) s3) (fun z => nomatch z) (fun z => nomatch z)
  refine ⟨D, L, _, .ref l, rfl, hD3, by omega, .inl ⟨l, _, rfl,   .inl ⟨SqL.of upd_same, hl⟩, Nat.le_of_ble_eq_true rfl, Nat.le_of_ble_eq_true rfl, fun H4 y k4 hD4 hy => ?_⟩⟩
  obtain ⟨m, rfl, m0, m7⟩ : ∃ m : Int, y = .int m ∧ 0 ≤ m ∧ m ≤ 7 := by
    simp only [List.mem_cons, List.not_mem_nil, or_false] at hy
    rcases hy with rfl | rfl | rfl | rfl
    · exact ⟨0, rfl, by decide, by decide⟩
    · exact ⟨1, rfl, by decide, by decide⟩
    · exact ⟨7, rfl, by decide, by decide⟩
    · exact ⟨r, rfl, r0, by omega⟩
  have k14 : Kp [D, L] H H4 := k1.trans (k2.trans ((Kp.same s3).trans k4))
  clear k1 k2 s3 k4 hD3 hD2 hD1 nl
  refine ⟨m, rfl, by omega, by omega, for_range (lo := 0) (n := m.toNat) (fun i σ H' => Kp [D, L] H4 H' ∧ Deck H' D L (n + 3 + i) ∧ ∃ (x : Str) (x3 : Option V), x.length = 1 + i ∧ FL x ∧ σ = [some (.ref D), some (.str "abcdefghijklmnopqrstuvwxyz"), some (.str x), x3])
    ⟨Kp.refl _ _, hD4, _, _, rfl, ⟨c, [], rfl, decide_eq_true oc, by rw [List.all_cons, sgn_ltr (decide_eq_true oc)]; rfl⟩, rfl⟩ ?_ ?_⟩
  · rintro i σ H' hi ⟨kk, hD', x, x3, lx, ox, rfl⟩
    refine ⟨_, rfl, .ref D, rfl, _, rfl, _, _, rfl, rfl, line1000 (by decide +kernel), D, L, _, _, rfl, hD', by omega, .inr ⟨_, rfl, by decide +kernel, by decide +kernel, fun H5 c5 k5 hD5 hc => ⟨_, _, rfl, rfl, line1000 (by show x.length + 1 ≤ 1000; omega), kk.trans k5, hD5, _, _, ?_, ox.app (fun x5 h5 => by rw [show x5 = c5 by simpa using h5, ← sgn_in]; exact decide_eq_true hc), rfl⟩⟩⟩
    rw [strLen_append, lx]
    show 1 + i + 1 = 1 + (i + 1)
    omega
  · rintro σ H' ⟨kk, hD', x, x3, lx, ox, rfl⟩
    refine ⟨_, rfl, rfl, fun H5 a5 s5 _ g5 => ⟨a5, _, rfl, .inl (SqL.of g5), rfl, flat_strs _, _, rfl, ?_⟩⟩
    have d5 := hD'.sm s5
    have k5 := k14.trans (kk.trans (Kp.same s5))
    rw [inV_str]
    by_cases c5 : x ∈ resL
    · rw [decide_eq_true c5]
      obtain ⟨c1, _⟩ := cut7 x (name_ok ox)
      refine iteF ⟨_, rfl, _, rfl, _, rfl, line1000 (by omega), _, _, rfl, rfl, line1000 (by show (cutS x none (some 7)).length + 1 ≤ 1000; omega), ?_⟩
      refine q H5 _ k5 (d5.mono (by omega)) ((ox.cut7.app (y := "0") (by decide +kernel)).name (by rw [strLen_append]; show (cutS x none (some 7)).length + 1 ≤ 8; omega) (no0 ?_))
      rw [cps_app]
      exact List.mem_append_right _ (by decide +kernel)
    · rw [decide_eq_false c5]
      exact iteT ⟨_, rfl, q H5 x k5 (d5.mono (by omega)) (ox.name (by omega) c5)⟩
theorem ok_wordY {f f1 f2 : Addr} {fd fd1 fd2 : FuncData} (F : Fun K "_law_word" "_law_word" s__law_word f fd) (T : Bi mg)
    (D1 : Df K mg "_law_draw" s__law_draw ["_law_deck_here", "_law_many"] f1 fd1) (G1 : FnOk P w K mg base CX0 1 f1 fd1 ["_law_deck_here", "_law_many"] spDraw)
    (D2 : Df K mg "_law_one" s__law_one ["_law_deck_here", "_law_items"] f2 fd2) (G2 : FnOk P w K mg base CX0 2 f2 fd2 ["_law_deck_here", "_law_items"] (spOne K)) : FnOk P w K mg base CX0 3 f fd ["_law_deck_here"] spWordY := by
  refine F.ok sc__law_word (fun vs H Q E ⟨D, L, n, ev, _⟩ => by rw [ev]; rfl) (fun cdv A outer s H vs Q E hr ⟨D, L, n, ev, hD, hn, q⟩ => ?_)
  subst ev
  have hr1 : Room 1 _ := hr.mono (by decide)
  refine ⟨_, (pss_cons (ps_set (i := 1) sc__law_word.nd rfl (.inr rfl) pe_str)
      (pss_one (ps_ret (pe_join pe_str (pe_lc (te := tCall (spOne K) [] E0 (tCons (tVar 0) (tCons (tVar 1) tNil))) (own := [("_law_k", 2)]) (by rfl) sc__law_word.nd (pi_range1 (by rfl) T.z_range (pa_cons (pe_call G2 hr (by rfl) D2.m D2.F.kp D2.b .nil pass0 (pa_cons (pv 0) (pa_cons (pe_lst (pa_cons pe_int (pa_cons pe_int (pa_cons pe_int (pa_cons (pe_op op_addE pe_int (pe_call G1 hr1 (by rfl) D1.m D1.F.kp D1.b .nil pass0 (pa_cons (pv 0) (pa_cons pe_int pa_nil)))) pa_nil))))) pa_nil))) pa_nil)) (blkOk_by (N := n__law_word) (sc := defScope s__law_word) (by decide +kernel)) (fun _ _ _ _ _ => (pg_name (i := 2) sc__law_word.nd rfl (.inl rfl))) (fun _ _ _ _ _ => pts_nil) (fun _ _ _ _ _ => (pe_call G2 hr (by rfl) D2.m D2.F.kp D2.b .nil pass0 (pa_cons (pv 0) (pa_cons (pv 1) pa_nil))))))))), ?_⟩
  refine ⟨⟨_, rfl⟩, .ref D, rfl, .ref D, rfl, D, L, _, 8, rfl, hD, by omega, by decide, by decide, fun H2 r k2 hD2 r0 r1 => ⟨_, _, rfl, rfl, fun r' er => ⟨line1000 (Nat.le_of_ble_eq_true rfl), fun l nl => ?_⟩⟩⟩
  have hl : l ∉ [D, L] := by simpa using hD2.neD nl
  have s3 := Same.up (o := HO.lst [V.int 1, V.int 2, V.int 8, V.int r']) nl
  have hD3 := hD2.kp (Kp.same (S := []) s3) (fun z => nomatch z) (fun z => nomatch z)
  refine ⟨D, L, _, .ref l, rfl, hD3, by omega, .inl ⟨l, _, rfl, .inl ⟨SqL.of upd_same, hl⟩, Nat.le_of_ble_eq_true rfl, Nat.le_of_ble_eq_true rfl, fun H4 y k4 hD4 hy => ?_⟩⟩
  obtain ⟨m, rfl, m0, m7⟩ : ∃ m : Int, y = .int m ∧ 1 ≤ m ∧ m ≤ 8 := by
    simp only [List.mem_cons, List.not_mem_nil, or_false] at hy
    rcases hy with rfl | rfl | rfl | rfl
    · exact ⟨1, rfl, by decide, by decide⟩
    · exact ⟨2, rfl, by decide, by decide⟩
    · exact ⟨8, rfl, by decide, by decide⟩
    · exact ⟨r', rfl, by omega, by omega⟩
  have k14 : Kp [D, L] H H4 := k2.trans ((Kp.same s3).trans k4)
  clear k2 s3 k4 hD3 hD2 nl
  refine ⟨m, rfl, by omega, by omega, fun a na => ?_⟩
  have na1 : a ∉ [D, L] := by simpa using hD4.neD na
  refine lc_range (lo := 0) (n := m.toNat) (GrowY (fun y => y.length = 1 ∧ y.cps.toList.all sgnB = true) D L a H4 (n + 2) 1) (GrowY.start hD4 na) ?_ ?_
  · rintro i H' hi g
    obtain ⟨_, _, hD', _⟩ := id g
    refine ⟨rfl, .ref D, rfl, _, rfl, D, L, _, _, rfl, hD', by omega, .inr ⟨_, rfl, by decide +kernel, by decide +kernel, fun H5 c k5 d5 hc => ?_⟩⟩
    exact g.step (by omega) (deck_ch hD' d5 k5) d5 na1 ⟨rfl, by show (sgnB c && true) = true; rw [← sgn_in2, decide_eq_true hc]; rfl⟩
  · rintro H5 ⟨ys, c5, hD5, ha, hl5, hy5⟩
    obtain ⟨j1, j2⟩ := join_sgn ys hy5
    refine ⟨"", a, ys, rfl, rfl, .inl (SqL.of ha), ?_, ?_⟩
    · have z := sum_le ys 1 (fun y h => Nat.le_of_eq (hy5 y h).1)
      have e0 : ("" : Str).length = 0 := rfl
      rw [e0, Nat.mul_zero]
      omega
    · refine q H5 _ (k14.trans (c5.kp.fresh na)) (hD5.mono (by omega)) ?_
      unfold wordB len18
      rw [j2, decide_eq_true (by omega), decide_eq_true (by omega)]
      rfl
theorem ok_poolY {f f1 f2 f3 : Addr} {fd fd1 fd2 fd3 : FuncData} (F : Fun K "_law_pool" "_law_pool" s__law_pool f fd) (T : Bi mg)
    (D1 : Df K mg "_law_draw" s__law_draw ["_law_deck_here", "_law_many"] f1 fd1) (G1 : FnOk P w K mg base CX0 1 f1 fd1 ["_law_deck_here", "_law_many"] spDraw)
    (D2 : Df K mg "_law_name" s__law_name ["_law_deck_here"] f2 fd2) (G2 : FnOk P w K mg base CX0 3 f2 fd2 ["_law_deck_here"] spNameY)
    (D3 : Df K mg "_law_word" s__law_word ["_law_deck_here"] f3 fd3) (G3 : FnOk P w K mg base CX0 3 f3 fd3 ["_law_deck_here"] spWordY) : FnOk P w K mg base CX0 4 f fd ["_law_deck_here"] spPoolY := by
  refine F.ok sc__law_pool (fun vs H Q E ⟨D, L, n, ev, _⟩ => by rw [ev]; rfl) (fun cdv A outer s H vs Q E hr ⟨D, L, n, ev, hD, hn, q⟩ => ?_)
  subst ev
  have hr1 : Room 1 _ := hr.mono (by decide)
  refine ⟨_, (pss_cons (ps_setLc (i := 1) (te := tCall spNameY [] E0 (tCons (tVar 0) tNil)) (own := [("_law_k", 2)]) (by rfl) sc__law_pool.nd rfl rfl (sw_true rfl rfl rfl (by decide +kernel)) (pi_range1 (by rfl) T.z_range (pa_cons (pe_op op_addE pe_int (pe_call G1 hr1 (by rfl) D1.m D1.F.kp D1.b .nil pass0 (pa_cons (pv 0) (pa_cons pe_int pa_nil)))) pa_nil)) (blkOk_by (N := n__law_pool) (sc := defScope s__law_pool) (by decide +kernel)) (fun _ _ _ _ _ => (pg_name (i := 2) sc__law_pool.nd rfl (.inl rfl))) (fun _ _ _ _ _ => pts_nil) (fun _ _ _ _ _ => (pe_call G2 hr (by rfl) D2.m D2.F.kp D2.b .nil pass0 (pa_cons (pv 0) pa_nil))))
      (pss_one (ps_ret (pe_lst (pa_cons (pv 1) (pa_cons (pe_lc (te := tCall spWordY [] E0 (tCons (tVar 0) tNil)) (own := [("_law_k", 2)]) (by rfl) sc__law_pool.nd (pi_range1 (by rfl) T.z_range (pa_cons (pe_op op_addE pe_int (pe_call G1 hr1 (by rfl) D1.m D1.F.kp D1.b .nil pass0 (pa_cons (pv 0) (pa_cons pe_int pa_nil)))) pa_nil)) (blkOk_by (N := n__law_pool) (sc := defScope s__law_pool) (by decide +kernel)) (fun _ _ _ _ _ => (pg_name (i := 2) sc__law_pool.nd rfl (.inl rfl))) (fun _ _ _ _ _ => pts_nil) (fun _ _ _ _ _ => (pe_call G3 hr (by rfl) D3.m D3.F.kp D3.b .nil pass0 (pa_cons (pv 0) pa_nil)))) (pa_cons (pe_call G1 hr1 (by rfl) D1.m D1.F.kp D1.b .nil pass0 (pa_cons (pv 0) (pa_cons pe_int pa_nil))) pa_nil))))))), ?_⟩
  refine ⟨.ref D, rfl, D, L, _, 5, rfl, hD, by omega, by decide, by decide, fun H1 r k1 hD1 r0 r1 => ⟨_, _, rfl, rfl, fun m em => ⟨m, rfl, by omega, by omega, fun N nN => ?_⟩⟩⟩
  have neN : N ∉ [D, L] := by simpa using hD1.neD nN
  refine lc_range (lo := 0) (n := m.toNat) (GrowY (fun x => nameB x = true) D L N H1 (n + 1) 12) (GrowY.start hD1 nN) ?_ ?_
  · rintro i H' hi g
    obtain ⟨_, _, hD', _⟩ := id g
    refine ⟨rfl, .ref D, rfl, D, L, _, rfl, hD', by omega, fun H5 x k5 d5 hx => ?_⟩
    exact g.step (by omega) (deck_ch hD' d5 k5) d5 neN hx
  rintro H2 ⟨ns, c2, hD2, gN, lN, hN⟩
  have k02 : Kp [D, L] H H2 := k1.trans (c2.kp.fresh nN)
  refine ⟨_, rfl, .ref D, rfl, D, L, _, 4, rfl, hD2, by omega, by decide, by decide, fun H3 r3 k3 hD3 r30 r31 => ⟨_, _, rfl, rfl, fun m3 em3 => ⟨m3, rfl, by omega, by omega, fun Wd nW => ?_⟩⟩⟩
  have neW : Wd ∉ [D, L] := by simpa using hD3.neD nW
  have gN3 := k3 _ _ neN gN
  have neNW : N ≠ Wd := fun z => by rw [← z, gN3] at nW; cases nW
  refine lc_range (lo := 0) (n := m3.toNat) (GrowY (fun x => wordB x = true) D L Wd H3 (n + 1 + m.toNat * 12 + 1) 12) (GrowY.start hD3 nW) ?_ ?_
  · rintro i H' hi g
    obtain ⟨_, _, hD', _⟩ := id g
    refine ⟨rfl, .ref D, rfl, D, L, _, rfl, hD', by omega, fun H5 x k5 d5 hx => ?_⟩
    exact g.step (by omega) (deck_ch hD' d5 k5) d5 neW hx
  rintro H4 ⟨ws, c4, hD4, gW, lW, hW⟩
  have gN4 := c4.kp _ _ (by simp at neN ⊢; exact ⟨neNW, neN.1, neN.2⟩) gN3
  refine ⟨.ref D, rfl, D, L, _, 4, rfl, hD4, by omega, by decide, by decide, fun H5 g k5 hD5 g0 g1 => ⟨line1000 (Nat.le_of_ble_eq_true rfl), fun a na => ?_⟩⟩
  have s6 := Same.up (o := HO.lst [V.ref N, V.ref Wd, V.int g]) na
  refine q _ a g ws (k02.trans (k3.trans ((c4.kp.fresh nW).trans (k5.trans (Kp.same s6))))) ((hD5.kp (Kp.same (S := []) s6) (fun z => nomatch z) (fun z => nomatch z)).mono (by omega)) ⟨N, Wd, ns, upd_same, s6 _ _ (k5 _ _ neN gN4), s6 _ _ (k5 _ _ neW gW), fun x hx => hN x hx, fun x hx => hW x hx, by omega, by omega, ⟨g0, g1⟩, by simpa using hD5.neD na, neN, neW⟩
end
end G

set_option Elab.async false
set_option linter.all false
set_option maxRecDepth 100000
set_option maxHeartbeats 4000000
/-! Tests that are right ones. -/
namespace G
open PySem PySem.Spec PyProof.Rows L2 StX RZ
def Tst.nmR (g : Int) (W : Str → Prop) : Tst → Prop
  | .given i => (i : Int) < g
  | .set x => nameB x = true
  | .same x y => nameB x = true ∧ nameB y = true
  | .full x f => nameB x = true ∧ nameB f = true
  | .wished w => W w
  | .not t => t.nmR g W
def Tst.okR (g : Int) (W : Str → Prop) (t : Tst) : Prop := t.nmR g W ∧ t.depth ≤ 3
theorem one_p {K : PySem.W.Frag} {p : Str → Prop} {H2 : Hp} {D L A : Addr} {m : Nat} {ys : List Str} (d : Deck H2 D L m) (hm : m < 10 ^ 12) (g : H2 A = some (.lst (ys.map V.str))) (na : A ∉ [D, L]) (l0 : 0 < ys.length) (l1 : ys.length ≤ 5) (hn : ∀ x ∈ ys, p x) {Q' : VK} (h : ∀ H' x, Kp [D, L] H2 H' → Deck H' D L (m + 1) → p x → Q' (.str x) H') : spOne K [.ref D, .ref A] H2 Q' E0 := by
  refine ⟨D, L, m, _, rfl, d, hm, .inl ⟨A, _, rfl, .inl ⟨SqL.of g, na⟩, by rw [List.length_map]; exact l0, by rw [List.length_map]; omega, fun H' y k' d' hy => ?_⟩⟩
  obtain ⟨x, hx, rfl⟩ := List.mem_map.mp hy
  exact h H' x k' d' (hn x hx)
section
variable {P : Program} {w : World} {K : PySem.W.Frag} {mg : Str → Option Value} {base : Heap}
def twGivenY : TS := fun Dn σ H => ∃ (D L a F : Addr) (n : Nat) (g : Int) (ws : List Str) (xs : List V) (ts : List Tst), σ[0]? = some (some (.ref D)) ∧ σ[1]? = some (some (.ref a)) ∧ σ[5]? = some (some (.ref F)) ∧ Deck H D L n ∧ n < 10 ^ 11 + 100 ∧ PoolY H D L a g ws ∧ H F = some (.lst xs) ∧ TDs H xs (ts.map Tst.data) ∧ (∀ t ∈ ts, t.nmR g (· ∈ ws) ∧ t.depth = 0) ∧ ts.length = 4 ∧ F ∉ [D, L] ∧
  ∀ (H' : Hp) (xs' : List V) (ts' : List Tst), Ch [D, L, F] H H' → Deck H' D L (n + 1) → H' F = some (.lst xs') → TDs H' xs' (ts'.map Tst.data) → (∀ t ∈ ts', t.nmR g (· ∈ ws) ∧ t.depth = 0) → (4 ≤ ts'.length ∧ ts'.length ≤ 5) → Dn.nx σ H'
def spTestY : Sp := fun vs H Q _ => ∃ (D L a : Addr) (n : Nat) (g : Int) (ws : List Str), vs = [.ref D, .ref a] ∧ Deck H D L n ∧ n < 10 ^ 11 ∧ PoolY H D L a g ws ∧ ∀ (H' : Hp) (v : V) (t : Tst), Kp [D, L] H H' → Deck H' D L (n + 10) → TD H' v t.data → t.okR g (· ∈ ws) → Q v H'
theorem ok_any_testY {f f1 f2 : Addr} {fd fd1 fd2 : FuncData} (F : Fun K "_law_any_test" "_law_any_test" s__law_any_test f fd) (T : Bi mg)
    (D1 : Df K mg "_law_draw" s__law_draw ["_law_deck_here", "_law_many"] f1 fd1) (G1 : FnOk P w K mg base CX0 1 f1 fd1 ["_law_deck_here", "_law_many"] spDraw)
    (D2 : Df K mg "_law_one" s__law_one ["_law_deck_here", "_law_items"] f2 fd2) (G2 : FnOk P w K mg base CX0 2 f2 fd2 ["_law_deck_here", "_law_items"] (spOne K)) : FnOk P w K mg base CX0 3 f fd ["_law_deck_here", "_law_pool_here"] spTestY := by
  refine F.ok sc__law_any_test (fun vs H Q E ⟨D, L, a, n, g, ws, ev, _⟩ => by rw [ev]; rfl) (fun cdv A outer s H vs Q E hr ⟨D, L, a, n, g, ws, ev, hD, hn, hp, q⟩ => ?_)
  subst ev
  have hr1 : Room 1 _ := hr.mono (by decide)
  refine ⟨_, (pss_cons (ps_par3 (i := 2) (j := 3) (l := 4) (by rfl) sc__law_any_test.nd rfl rfl rfl (by decide) (by decide) (by decide) rfl rfl rfl (pa_cons (pe_call G2 hr (by rfl) D2.m D2.F.kp D2.b .nil pass0 (pa_cons (pv 0) (pa_cons (pe_ix ix_list (pv 1) pe_int (fun _ _ => rfl)) pa_nil))) (pa_cons (pe_call G2 hr (by rfl) D2.m D2.F.kp D2.b .nil pass0 (pa_cons (pv 0) (pa_cons (pe_ix ix_list (pv 1) pe_int (fun _ _ => rfl)) pa_nil))) (pa_cons (pe_call G2 hr (by rfl) D2.m D2.F.kp D2.b .nil pass0 (pa_cons (pv 0) (pa_cons (pe_ix ix_list (pv 1) pe_int (fun _ _ => rfl)) pa_nil))) pa_nil))) (by rfl))
      (pss_cons (ps_set (i := 5) sc__law_any_test.nd rfl (.inl rfl) (pe_mkL (fun (z : Str × Str × Str) => (CXn [(2, z.1), (3, z.2.1), (4, z.2.2)], (t4 z).map Tst.data)) (pa_cons (pe_tup (pa_cons pe_str (pa_cons (pv 2) pa_nil))) (pa_cons (pe_tup (pa_cons pe_str (pa_cons (pv 2) (pa_cons (pv 3) pa_nil)))) (pa_cons (pe_tup (pa_cons pe_str (pa_cons (pv 2) (pa_cons (pv 3) pa_nil)))) (pa_cons (pe_tup (pa_cons pe_str (pa_cons (pv 4) pa_nil))) pa_nil))))
        (fun z => mkA_cons CXn.st (mk_tup (mkA_cons CXn.st (mk_str _) (mkA_cons CXn.st (mk_var (CXn.v (x := z.1) (by simp))) mkA_nil)) (Nat.le_of_ble_eq_true rfl)) (mkA_cons CXn.st (mk_tup (mkA_cons CXn.st (mk_str _) (mkA_cons CXn.st (mk_var (CXn.v (x := z.1) (by simp))) (mkA_cons CXn.st (mk_var (CXn.v (x := z.2.1) (by simp))) mkA_nil))) (Nat.le_of_ble_eq_true rfl)) (mkA_cons CXn.st (mk_tup (mkA_cons CXn.st (mk_str _) (mkA_cons CXn.st (mk_var (CXn.v (x := z.1) (by simp))) (mkA_cons CXn.st (mk_var (CXn.v (x := z.2.1) (by simp))) mkA_nil))) (Nat.le_of_ble_eq_true rfl)) (mkA_cons CXn.st (mk_tup (mkA_cons CXn.st (mk_str _) (mkA_cons CXn.st (mk_var (CXn.v (x := z.2.2) (by simp))) mkA_nil)) (Nat.le_of_ble_eq_true rfl)) mkA_nil)))) (fun _ => Nat.le_of_ble_eq_true rfl)))
      (pss_cons (ps_weak (tw := twGivenY) (ps_if (pt_cmpR op_gt (pe_ix ix_list (pv 1) pe_int (fun _ _ => rfl)) pe_int (nomark _))
      (pss_one (ps_expr (pe_bm PySem.F.plainAttrs_list PySem.F.slot_list_append PySem.F.type_list_append mt_append (pv 5) (pa_cons (pe_tup (pa_cons pe_str (pa_cons (pe_call G1 hr1 (by rfl) D1.m D1.F.kp D1.b .nil pass0 (pa_cons (pv 0) (pa_cons (pe_ix ix_list (pv 1) pe_int (fun _ _ => rfl)) pa_nil))) pa_nil))) pa_nil))))
      pss_nil) (fun Dn σ H ⟨D, L, a, Fl, n, g, ws, xs, ts, e0, e1, e5, hD, hn, hp, gF, td, ht, lt, nF, q⟩ => by
        obtain ⟨N, Wd, ns, ga, gN, gW, hN, hW, lN, lW, ⟨g0, g4⟩, na, neN, neW⟩ := id hp
        refine ⟨_, e1, a, _, _, _, rfl, rfl, SqL.of ga, atI_nat (j := 2) rfl, _, _, rfl, rfl, _, rfl, ite2 (fun h => ?_) (fun _ => ?_)⟩
        · have h : 0 < g := of_decide_eq_true h
          refine ⟨_, e5, .inl ⟨rfl, _, SqL.of gF⟩, _, e0, _, e1, a, _, _, _, rfl, rfl, SqL.of ga, atI_nat (j := 2) rfl, D, L, n, g, rfl, hD, by omega, by omega, by omega, fun H1 r k1 hD1 r0 r1 => ⟨line1000 (Nat.le_of_ble_eq_true rfl), fun t nt => ?_⟩⟩
          have c1 := deck_ch hD hD1 k1
          have gF1 := k1 _ _ nF gF
          have sT := Same.up (o := HO.tup [V.str "given", V.int r]) nt
          have net : t ≠ Fl := fun z => by rw [z, gF1] at nt; cases nt
          have lx : xs.length = 4 := by rw [td.len, List.length_map]; exact lt
          have c2 : Ch [Fl] (upd H1 t (.tup [.str "given", .int r])) (upd (upd H1 t (.tup [.str "given", .int r])) Fl (.lst (xs ++ [.ref t]))) := (Ch.refl _ _).put (by simp) (sT _ _ gF1) (fun xs z => by cases z)
          have c3 : Ch [D, L, Fl] H (upd (upd H1 t (.tup [.str "given", .int r])) Fl (.lst (xs ++ [.ref t]))) := (c1.mono (fun b hb => by simp at hb; rcases hb with rfl | rfl <;> simp)).trans ((Ch.same sT).trans (c2.mono (fun b hb => by simp at hb; simp [hb])))
          have neF : D ∉ [Fl] ∧ L ∉ [Fl] := by simp at nF ⊢; exact ⟨Ne.symm nF.1, Ne.symm nF.2⟩
          refine ⟨Fl, _, _, rfl, rfl, sT _ _ gF1, lt_line (by omega), q _ _ (ts ++ [.given r.toNat]) c3 ((hD1.kp (Kp.same (S := []) sT) (fun z => nomatch z) (fun z => nomatch z)).kp c2.kp neF.1 neF.2) upd_same ?_ (fun t ht' => ?_) (by rw [List.length_append]; show 4 ≤ ts.length + 1 ∧ ts.length + 1 ≤ 5; omega)⟩
          · rw [List.map_append]
            refine (TDs.ch c3 _ _ td).snoc (.tup (by rw [upd_ne net, upd_same]) (.cons (.str _) (.cons ?_ .nil)))
            rw [show V.int r = V.int ((r.toNat : Nat) : Int) by rw [Int.toNat_of_nonneg r0]]
            exact .int _
          · rcases List.mem_append.mp ht' with h1 | h1
            · exact ht t h1
            · rw [List.mem_singleton.mp h1]
              exact ⟨by show ((r.toNat : Nat) : Int) < g; omega, rfl⟩
        · exact q H xs ts (Ch.refl _ _) (hD.mono (by omega)) gF td ht (by omega)))
      (pss_cons (ps_set (i := 6) sc__law_any_test.nd rfl (.inl rfl) (pe_call G2 hr (by rfl) D2.m D2.F.kp D2.b .nil pass0 (pa_cons (pv 0) (pa_cons (pv 5) pa_nil))))
      (pss_cons (ps_for PassesOwn.never rfl (pi_range1 (by rfl) T.z_range (pa_cons (pe_call G2 hr (by rfl) D2.m D2.F.kp D2.b .nil pass0 (pa_cons (pv 0) (pa_cons (pe_lst (pa_cons pe_int (pa_cons pe_int (pa_cons pe_int (pa_cons pe_int (pa_cons pe_int pa_nil)))))) pa_nil))) pa_nil)) (pg_name (i := 7) sc__law_any_test.nd rfl (.inl rfl))
      (pss_one (ps_set (i := 6) sc__law_any_test.nd rfl (.inl rfl) (pe_tup (pa_cons pe_str (pa_cons (pv 6) pa_nil))))))
      (pss_one (ps_ret (pv 6)))))))), ?_⟩
  obtain ⟨N, Wd, ns, ga, gN, gW, hN, hW, lN, lW, ⟨g0, g4⟩, na, neN, neW⟩ := id hp
  refine ⟨.ref D, rfl, _, rfl, a, _, _, _, rfl, rfl, SqL.of ga, atI_nat (j := 0) rfl, one_p hD (by omega) gN neN lN.1 lN.2 hN fun H1 x k1 hD1 hx => ?_⟩
  refine ⟨.ref D, rfl, _, rfl, a, _, _, _, rfl, rfl, SqL.of (k1 _ _ na ga), atI_nat (j := 0) rfl, one_p hD1 (by omega) (k1 _ _ neN gN) neN lN.1 lN.2 hN fun H2 y k2 hD2 hy => ?_⟩
  have k02 := k1.trans k2
  refine ⟨.ref D, rfl, _, rfl, a, _, _, _, rfl, rfl, SqL.of (k02 _ _ na ga), atI_nat (j := 1) rfl, one_p hD2 (by omega) (k02 _ _ neW gW) neW lW.1 (by omega) (fun _ h => h) fun H3 wd k3 hD3 hw => ?_⟩
  have k03 := k02.trans k3
  refine ⟨_, _, _, rfl, (x, y, wd), (fun q hq => by simp at hq; rcases hq with rfl | rfl | rfl <;> rfl), fun H4 Fl xs s4 gF td nF => ?_⟩
  have hD4 := hD3.kp (Kp.same (S := []) s4) (fun z => nomatch z) (fun z => nomatch z)
  have k04 := k03.trans (Kp.same s4)
  have nF' : Fl ∉ [D, L] := by simpa using hD3.neD nF
  have nF0 : H Fl = none := k03.none_of nF nF'
  refine ⟨D, L, a, Fl, n + 3, g, ws, xs, t4 (x, y, wd), rfl, rfl, rfl, hD4, by omega, hp.kp k04, gF, td, (fun t ht => by
    simp [t4] at ht
    rcases ht with rfl | rfl | rfl | rfl
    · exact ⟨hx, rfl⟩
    · exact ⟨⟨hx, hy⟩, rfl⟩
    · exact ⟨⟨hx, hy⟩, rfl⟩
    · exact ⟨hw, rfl⟩), rfl, nF', fun H5 xs5 ts5 c5 hD5 gF5 td5 ht5 lt5 => ?_⟩
  have k05 : Kp [D, L] H H5 := ((k04.mono (T := [Fl, D, L]) (fun b hb => List.mem_cons_of_mem _ hb)).trans (c5.kp.mono (fun b hb => by simp at hb ⊢; rcases hb with rfl | rfl | rfl <;> simp))).fresh nF0
  refine ⟨.ref D, rfl, _, rfl, one_td hD5 (by omega) gF5 td5 nF' (by rw [List.length_map]; omega) (by rw [List.length_map]; omega) fun H6 v e k6 hD6 tdv he => ?_⟩
  obtain ⟨t, ht, rfl⟩ := List.mem_map.mp he
  obtain ⟨tn, t0⟩ := ht5 t ht
  refine ⟨.ref D, rfl, line1000 (Nat.le_of_ble_eq_true rfl), fun l nl => ?_⟩
  have hl : l ∉ [D, L] := by simpa using hD6.neD nl
  have s7 := Same.up (o := HO.lst [V.int 0, V.int 0, V.int 1, V.int 2, V.int 3]) nl
  have hD7 := hD6.kp (Kp.same (S := []) s7) (fun z => nomatch z) (fun z => nomatch z)
  refine ⟨D, L, _, .ref l, rfl, hD7, by omega, .inl ⟨l, _, rfl, .inl ⟨SqL.of upd_same, hl⟩, Nat.le_of_ble_eq_true rfl, Nat.le_of_ble_eq_true rfl, fun H8 y8 k8 hD8 hy8 => ?_⟩⟩
  obtain ⟨m, rfl, m0, m3⟩ : ∃ m : Int, y8 = .int m ∧ 0 ≤ m ∧ m ≤ 3 := by
    simp only [List.mem_cons, List.not_mem_nil, or_false] at hy8
    rcases hy8 with rfl | rfl | rfl | rfl | rfl
    · exact ⟨0, rfl, by decide, by decide⟩
    · exact ⟨0, rfl, by decide, by decide⟩
    · exact ⟨1, rfl, by decide, by decide⟩
    · exact ⟨2, rfl, by decide, by decide⟩
    · exact ⟨3, rfl, by decide, by decide⟩
  have tdv8 := TD.ch ((Ch.same s7).trans (deck_ch hD7 hD8 k8)) _ _ tdv
  have k08 : Kp [D, L] H H8 := k05.trans (k6.trans ((Kp.same s7).trans k8))
  refine ⟨m, rfl, by omega, by omega, for_range (lo := 0) (n := m.toNat) (fun i σ H' => Same H8 H' ∧ ∃ (v : V) (t : Tst) (x7 : Option V), TD H' v t.data ∧ t.nmR g (· ∈ ws) ∧ t.depth ≤ i ∧ σ = [some (.ref D), some (.ref a), some (.str x), some (.str y), some (.str wd), some (.ref Fl), some v, x7])
    ⟨Same.refl _, v, t, _, tdv8, tn, by omega, rfl⟩ ?_ ?_⟩
  · rintro i σ H' hi ⟨s9, v', t', x7, td', tn', td0, rfl⟩
    refine ⟨_, rfl, line1000 (Nat.le_of_ble_eq_true rfl), fun p np => ⟨Same.trans s9 (Same.up np), _, .not t', _, .tup upd_same (.cons (.str _) (.cons (TD.ch (Ch.same (S := []) (Same.up np)) _ _ td') .nil)), tn', by show t'.depth + 1 ≤ i + 1; omega, rfl⟩⟩
  · rintro σ H' ⟨s9, v', t', x7, td', tn', td0, rfl⟩
    exact ⟨_, rfl, q H' v' t' (k08.trans (Kp.same s9)) ((hD8.kp (Kp.same (S := []) s9) (fun z => nomatch z) (fun z => nomatch z)).mono (by omega)) td' ⟨tn', by omega⟩⟩
end
end G

set_option Elab.async false
set_option linter.all false
set_option maxRecDepth 100000
set_option maxHeartbeats 4000000
/-! Rows that are right ones. -/
namespace G
open PySem PySem.Spec PyProof.Rows L2 StX RZ
def Act.nmR (g : Int) (W : Str → Prop) : Act → Prop
  | .make x => nameB x = true
  | .wish x w => nameB x = true ∧ W w
  | .keep x => nameB x = true
  | .name x y => nameB x = true ∧ nameB y = true
  | .drop x => nameB x = true
  | .hold x f y => nameB x = true ∧ nameB f = true ∧ nameB y = true
  | .weak x f y => nameB x = true ∧ nameB f = true ∧ nameB y = true
  | .cut x f => nameB x = true ∧ nameB f = true
  | .take z x f => nameB z = true ∧ nameB x = true ∧ nameB f = true
  | .say w => W w
  | .ask t => t.okR g W
section
variable {P : Program} {w : World} {K : PySem.W.Frag} {mg : Str → Option Value} {base : Heap}
def spRowY : Sp := fun vs H Q _ => ∃ (D L a : Addr) (n : Nat) (g : Int) (ws : List Str), vs = [.ref D, .ref a] ∧ Deck H D L n ∧ n < 10 ^ 11 - 10 ∧ PoolY H D L a g ws ∧ ∀ (H' : Hp) (v : V) (b : Act), Kp [D, L] H H' → Deck H' D L (n + 20) → TD H' v b.data → b.nmR g (· ∈ ws) → Q v H'
theorem ok_rowY {f f2 f3 : Addr} {fd fd2 fd3 : FuncData} (F : Fun K "_law_row" "_law_row" s__law_row f fd)
    (D2 : Df K mg "_law_one" s__law_one ["_law_deck_here", "_law_items"] f2 fd2) (G2 : FnOk P w K mg base CX0 2 f2 fd2 ["_law_deck_here", "_law_items"] (spOne K))
    (D3 : Df K mg "_law_any_test" s__law_any_test ["_law_deck_here", "_law_pool_here"] f3 fd3) (G3 : FnOk P w K mg base CX0 3 f3 fd3 ["_law_deck_here", "_law_pool_here"] spTestY) : FnOk P w K mg base CX0 4 f fd ["_law_deck_here", "_law_pool_here"] spRowY := by
  refine F.ok sc__law_row (fun vs H Q E ⟨D, L, a, n, g, ws, ev, _⟩ => by rw [ev]; rfl) (fun cdv A outer s H vs Q E hr ⟨D, L, a, n, g, ws, ev, hD, hn, hp, q⟩ => ?_)
  subst ev
  have hr2 : Room 2 _ := hr.mono (by decide)
  refine ⟨_, (pss_cons (ps_par3 (i := 2) (j := 3) (l := 4) (by rfl) sc__law_row.nd rfl rfl rfl (by decide) (by decide) (by decide) rfl rfl rfl (pa_cons (pe_call G2 hr2 (by rfl) D2.m D2.F.kp D2.b .nil pass0 (pa_cons (pv 0) (pa_cons (pe_ix ix_list (pv 1) pe_int (fun _ _ => rfl)) pa_nil))) (pa_cons (pe_call G2 hr2 (by rfl) D2.m D2.F.kp D2.b .nil pass0 (pa_cons (pv 0) (pa_cons (pe_ix ix_list (pv 1) pe_int (fun _ _ => rfl)) pa_nil))) (pa_cons (pe_call G2 hr2 (by rfl) D2.m D2.F.kp D2.b .nil pass0 (pa_cons (pv 0) (pa_cons (pe_ix ix_list (pv 1) pe_int (fun _ _ => rfl)) pa_nil))) pa_nil))) (by rfl))
      (pss_cons (ps_par (i := 5) (j := 6) (by rfl) sc__law_row.nd rfl rfl (by decide) rfl rfl (pa_cons (pe_call G2 hr2 (by rfl) D2.m D2.F.kp D2.b .nil pass0 (pa_cons (pv 0) (pa_cons (pe_ix ix_list (pv 1) pe_int (fun _ _ => rfl)) pa_nil))) (pa_cons (pe_call G2 hr2 (by rfl) D2.m D2.F.kp D2.b .nil pass0 (pa_cons (pv 0) (pa_cons (pe_ix ix_list (pv 1) pe_int (fun _ _ => rfl)) pa_nil))) pa_nil)) (by rfl))
      (pss_cons (ps_set (i := 7) sc__law_row.nd rfl (.inl rfl) (pe_mkL (fun (z : Str × Str × Str × Str × Str) => (CXn [(2, z.1), (3, z.2.1), (4, z.2.2.1), (5, z.2.2.2.1), (6, z.2.2.2.2)], (l6 z).map Act.data)) (pa_cons (pe_tup (pa_cons pe_str (pa_cons (pv 2) pa_nil))) (pa_cons (pe_tup (pa_cons pe_str (pa_cons (pv 2) pa_nil))) (pa_cons (pe_tup (pa_cons pe_str (pa_cons (pv 2) pa_nil))) (pa_cons (pe_tup (pa_cons pe_str (pa_cons (pv 2) (pa_cons (pv 6) pa_nil)))) (pa_cons (pe_tup (pa_cons pe_str (pa_cons (pv 2) (pa_cons (pv 3) pa_nil)))) (pa_cons (pe_tup (pa_cons pe_str (pa_cons (pv 2) (pa_cons (pv 5) (pa_cons (pv 3) pa_nil))))) pa_nil)))))) (fun z => (mkA_cons CXn.st (mk_tup (mkA_cons CXn.st (mk_str _) (mkA_cons CXn.st (mk_var (CXn.v (i := 2) (x := z.1) (by simp))) mkA_nil)) (Nat.le_of_ble_eq_true rfl)) (mkA_cons CXn.st (mk_tup (mkA_cons CXn.st (mk_str _) (mkA_cons CXn.st (mk_var (CXn.v (i := 2) (x := z.1) (by simp))) mkA_nil)) (Nat.le_of_ble_eq_true rfl)) (mkA_cons CXn.st (mk_tup (mkA_cons CXn.st (mk_str _) (mkA_cons CXn.st (mk_var (CXn.v (i := 2) (x := z.1) (by simp))) mkA_nil)) (Nat.le_of_ble_eq_true rfl)) (mkA_cons CXn.st (mk_tup (mkA_cons CXn.st (mk_str _) (mkA_cons CXn.st (mk_var (CXn.v (i := 2) (x := z.1) (by simp))) (mkA_cons CXn.st (mk_var (CXn.v (i := 6) (x := z.2.2.2.2) (by simp))) mkA_nil))) (Nat.le_of_ble_eq_true rfl)) (mkA_cons CXn.st (mk_tup (mkA_cons CXn.st (mk_str _) (mkA_cons CXn.st (mk_var (CXn.v (i := 2) (x := z.1) (by simp))) (mkA_cons CXn.st (mk_var (CXn.v (i := 3) (x := z.2.1) (by simp))) mkA_nil))) (Nat.le_of_ble_eq_true rfl)) (mkA_cons CXn.st (mk_tup (mkA_cons CXn.st (mk_str _) (mkA_cons CXn.st (mk_var (CXn.v (i := 2) (x := z.1) (by simp))) (mkA_cons CXn.st (mk_var (CXn.v (i := 5) (x := z.2.2.2.1) (by simp))) (mkA_cons CXn.st (mk_var (CXn.v (i := 3) (x := z.2.1) (by simp))) mkA_nil)))) (Nat.le_of_ble_eq_true rfl)) mkA_nil))))))) (fun _ => Nat.le_of_ble_eq_true rfl)))
      (pss_cons (ps_set (i := 7) sc__law_row.nd rfl (.inl rfl) (pe_op op_cat (pv 7) (pe_mkL (fun (z : Str × Str × Str × Str × Str) => (CXn [(2, z.1), (3, z.2.1), (4, z.2.2.1), (5, z.2.2.2.1), (6, z.2.2.2.2)], (l4 z).map Act.data)) (pa_cons (pe_tup (pa_cons pe_str (pa_cons (pv 2) (pa_cons (pv 5) (pa_cons (pv 3) pa_nil))))) (pa_cons (pe_tup (pa_cons pe_str (pa_cons (pv 2) (pa_cons (pv 5) pa_nil)))) (pa_cons (pe_tup (pa_cons pe_str (pa_cons (pv 4) (pa_cons (pv 2) (pa_cons (pv 5) pa_nil))))) (pa_cons (pe_tup (pa_cons pe_str (pa_cons (pv 6) pa_nil))) pa_nil)))) (fun z => (mkA_cons CXn.st (mk_tup (mkA_cons CXn.st (mk_str _) (mkA_cons CXn.st (mk_var (CXn.v (i := 2) (x := z.1) (by simp))) (mkA_cons CXn.st (mk_var (CXn.v (i := 5) (x := z.2.2.2.1) (by simp))) (mkA_cons CXn.st (mk_var (CXn.v (i := 3) (x := z.2.1) (by simp))) mkA_nil)))) (Nat.le_of_ble_eq_true rfl)) (mkA_cons CXn.st (mk_tup (mkA_cons CXn.st (mk_str _) (mkA_cons CXn.st (mk_var (CXn.v (i := 2) (x := z.1) (by simp))) (mkA_cons CXn.st (mk_var (CXn.v (i := 5) (x := z.2.2.2.1) (by simp))) mkA_nil))) (Nat.le_of_ble_eq_true rfl)) (mkA_cons CXn.st (mk_tup (mkA_cons CXn.st (mk_str _) (mkA_cons CXn.st (mk_var (CXn.v (i := 4) (x := z.2.2.1) (by simp))) (mkA_cons CXn.st (mk_var (CXn.v (i := 2) (x := z.1) (by simp))) (mkA_cons CXn.st (mk_var (CXn.v (i := 5) (x := z.2.2.2.1) (by simp))) mkA_nil)))) (Nat.le_of_ble_eq_true rfl)) (mkA_cons CXn.st (mk_tup (mkA_cons CXn.st (mk_str _) (mkA_cons CXn.st (mk_var (CXn.v (i := 6) (x := z.2.2.2.2) (by simp))) mkA_nil)) (Nat.le_of_ble_eq_true rfl)) mkA_nil))))) (fun _ => Nat.le_of_ble_eq_true rfl))))
      (pss_one (ps_ret (pe_call G2 hr2 (by rfl) D2.m D2.F.kp D2.b .nil pass0 (pa_cons (pv 0) (pa_cons (pe_op op_cat (pv 7) (pe_lst (pa_cons (pe_tup (pa_cons pe_str (pa_cons (pe_call G3 hr (by rfl) D3.m D3.F.kp D3.b .nil pass0 (pa_cons (pv 0) (pa_cons (pv 1) pa_nil))) pa_nil))) pa_nil))) pa_nil))))))))), ?_⟩
  obtain ⟨N, Wd, ns, ga, gN, gW, hN, hW, lN, lW, ⟨g0, g4⟩, na, neN, neW⟩ := id hp
  refine ⟨.ref D, rfl, _, rfl, a, _, _, _, rfl, rfl, SqL.of ga, atI_nat (j := 0) rfl, one_p hD (by omega) gN neN lN.1 lN.2 hN fun H1 x k1 hD1 hx => ?_⟩
  refine ⟨.ref D, rfl, _, rfl, a, _, _, _, rfl, rfl, SqL.of (k1 _ _ na ga), atI_nat (j := 0) rfl, one_p hD1 (by omega) (k1 _ _ neN gN) neN lN.1 lN.2 hN fun H2 y k2 hD2 hy => ?_⟩
  have k02 := k1.trans k2
  refine ⟨.ref D, rfl, _, rfl, a, _, _, _, rfl, rfl, SqL.of (k02 _ _ na ga), atI_nat (j := 0) rfl, one_p hD2 (by omega) (k02 _ _ neN gN) neN lN.1 lN.2 hN fun H3 z k3 hD3 hz => ?_⟩
  have k03 := k02.trans k3
  refine ⟨_, _, _, rfl, ?_⟩
  refine ⟨.ref D, rfl, _, rfl, a, _, _, _, rfl, rfl, SqL.of (k03 _ _ na ga), atI_nat (j := 0) rfl, one_p hD3 (by omega) (k03 _ _ neN gN) neN lN.1 lN.2 hN fun H4 fl k4 hD4 hf => ?_⟩
  have k04 := k03.trans k4
  refine ⟨.ref D, rfl, _, rfl, a, _, _, _, rfl, rfl, SqL.of (k04 _ _ na ga), atI_nat (j := 1) rfl, one_p hD4 (by omega) (k04 _ _ neW gW) neW lW.1 (by omega) (fun _ h => h) fun H5 wd k5 hD5 hw => ?_⟩
  have k05 := k04.trans k5
  have ctx : ∀ {σ : L2.St} {x2 x3 x4 x5 x6 : Str}, σ[2]? = some (some (.str x2)) → σ[3]? = some (some (.str x3)) → σ[4]? = some (some (.str x4)) → σ[5]? = some (some (.str x5)) → σ[6]? = some (some (.str x6)) → ∀ q ∈ [(2, x2), (3, x3), (4, x4), (5, x5), (6, x6)], σ[q.1]? = some (some (.str q.2)) := fun e2 e3 e4 e5 e6 q hq => by
    simp at hq
    rcases hq with rfl | rfl | rfl | rfl | rfl
    · exact e2
    · exact e3
    · exact e4
    · exact e5
    · exact e6
  refine ⟨_, _, rfl, (x, y, z, fl, wd), ctx rfl rfl rfl rfl rfl, fun H6 F1 xs s6 g6 td6 nF1 => ?_⟩
  refine ⟨_, rfl, (x, y, z, fl, wd), ctx rfl rfl rfl rfl rfl, fun H7 F2 xs2 s7 g7 td7 nF2 => ?_⟩
  have l6' : xs.length = 6 := by rw [td6.len, List.length_map]; rfl
  have l4' : xs2.length = 4 := by rw [td7.len, List.length_map]; rfl
  refine ⟨F1, F2, _, _, rfl, rfl, s7 _ _ g6, g7, Nat.le_of_lt (lt_line (by omega)), fun F3 nF3 => ?_⟩
  have s8 := Same.up (o := HO.lst (xs ++ xs2)) nF3
  have g8 : upd H7 F3 (HO.lst (xs ++ xs2)) F3 = some (.lst (xs ++ xs2)) := upd_same
  have s58 := Same.trans s6 (Same.trans s7 s8)
  have td8 : TDs (upd H7 F3 (HO.lst (xs ++ xs2))) (xs ++ xs2) ((l6 (x, y, z, fl, wd) ++ l4 (x, y, z, fl, wd)).map Act.data) := by
    rw [List.map_append]
    exact (TDs.ch (Ch.same (S := []) (Same.trans s7 s8)) _ _ td6).append (TDs.ch (Ch.same (S := []) s8) _ _ td7)
  have hD8 := hD5.kp (Kp.same (S := []) s58) (fun z => nomatch z) (fun z => nomatch z)
  have nF3' : F3 ∉ [D, L] := by simpa using (hD5.kp (Kp.same (S := []) (Same.trans s6 s7)) (fun z => nomatch z) (fun z => nomatch z)).neD nF3
  generalize upd H7 F3 (HO.lst (xs ++ xs2)) = H8 at s8 g8 s58 td8 hD8 ⊢
  have k08 := k05.trans (Kp.same s58)
  refine ⟨.ref D, rfl, _, rfl, .ref D, rfl, _, rfl, D, L, a, _, g, ws, rfl, hD8, by omega, hp.kp k08, fun H9 v t k9 hD9 tdv tok => ⟨line1000 (Nat.le_of_ble_eq_true rfl), fun t1 n1 => ⟨line1000 (Nat.le_of_ble_eq_true rfl), fun l nl => ?_⟩⟩⟩
  have sA := Same.up (o := HO.tup [V.str "ask", v]) n1
  have sB := Same.up (o := HO.lst [V.ref t1]) nl
  have c9 := deck_ch hD8 hD9 k9
  refine ⟨F3, l, _, _, rfl, rfl, sB _ _ (sA _ _ (k9 _ _ nF3' g8)), upd_same, Nat.le_of_lt (lt_line (by rw [List.length_append, l6', l4']; show 6 + 4 + 1 < _; omega)), fun p np => ?_⟩
  have sC := Same.up (o := HO.lst (xs ++ xs2 ++ [V.ref t1])) np
  have sBC := Same.trans sB sC
  have tdE : TDs (upd (upd (upd H9 t1 (HO.tup [V.str "ask", v])) l (HO.lst [V.ref t1])) p (HO.lst (xs ++ xs2 ++ [V.ref t1]))) (xs ++ xs2 ++ [V.ref t1]) ((l6 (x, y, z, fl, wd) ++ l4 (x, y, z, fl, wd) ++ [Act.ask t]).map Act.data) := by
    rw [List.map_append]
    exact (TDs.ch (c9.trans (Ch.same (Same.trans sA sBC))) _ _ td8).append (.cons (.tup (sBC _ _ upd_same) (.cons (.str _) (.cons (TD.ch (Ch.same (S := []) (Same.trans sA sBC)) _ _ tdv) .nil))) .nil)
  have hDE := hD9.kp (Kp.same (S := []) (Same.trans sA sBC)) (fun z => nomatch z) (fun z => nomatch z)
  have np' : p ∉ [D, L] := by simpa using (hD9.kp (Kp.same (S := []) (Same.trans sA sB)) (fun z => nomatch z) (fun z => nomatch z)).neD np
  refine one_td hDE (by omega) upd_same tdE np' (by rw [List.length_map, List.length_append]; show 0 < _ + 1; omega) (by rw [List.length_map]; exact Nat.le_of_ble_eq_true rfl) fun H10 y10 e k10 hD10 td10 he => ?_
  obtain ⟨b, hb, rfl⟩ := List.mem_map.mp he
  refine q H10 y10 b (k08.trans (k9.trans ((Kp.same (Same.trans sA sBC)).trans k10))) (hD10.mono (by omega)) td10 ?_
  rcases List.mem_append.mp hb with hb | hb
  · rcases List.mem_append.mp hb with hb | hb
    · simp [l6] at hb
      rcases hb with rfl | rfl | rfl | rfl | rfl | rfl
      · exact hx
      · exact hx
      · exact hx
      · exact ⟨hx, hw⟩
      · exact ⟨hx, hy⟩
      · exact ⟨hx, hf, hy⟩
    · simp [l4] at hb
      rcases hb with rfl | rfl | rfl | rfl
      · exact ⟨hx, hf, hy⟩
      · exact ⟨hx, hf⟩
      · exact ⟨hz, hx, hf⟩
      · exact hw
  · rw [List.mem_singleton.mp hb]
    exact tok
end
end G

set_option Elab.async false
set_option linter.all false
set_option maxRecDepth 100000
set_option maxHeartbeats 4000000
/-! On paper: right tests and statements; the queue's walk over forests. -/
namespace G
open PySem PySem.Spec PyProof.Rows L2 StX RZ
def Tst.base : Tst → Tst
  | .not t => t.base
  | t => t
theorem unN_in (d : PyData) : ∀ j, unN d (j + 1) = unN (unNot1 d) j
  | 0 => rfl
  | j + 1 => by
    show unNot1 (unN d (j + 1)) = unNot1 (unN (unNot1 d) j)
    rw [unN_in d j]
theorem unNot_not (t : Tst) : unNot1 (Tst.not t).data = t.data := by
  unfold unNot1
  rw [if_pos ⟨rfl, rfl⟩]
  rfl
theorem firstW_base : ∀ t : Tst, t.depth = 0 → firstW t.data ≠ some (Str.ofString "not")
  | .given _, _ => by show some (Str.ofString "given") ≠ _; decide +kernel
  | .set _, _ => by show some (Str.ofString "set") ≠ _; decide +kernel
  | .same _ _, _ => by show some (Str.ofString "same") ≠ _; decide +kernel
  | .full _ _, _ => by show some (Str.ofString "full") ≠ _; decide +kernel
  | .wished _, _ => by show some (Str.ofString "wished") ≠ _; decide +kernel
  | .not t, h => absurd h (Nat.succ_ne_zero _)
theorem unN_base : ∀ (t : Tst) (j : Nat), t.depth ≤ j → unN t.data j = t.base.data
  | .not t, 0, h => absurd h (Nat.not_succ_le_zero _)
  | .not t, j + 1, h => by
    rw [unN_in, unNot_not]
    exact unN_base t j (Nat.le_of_succ_le_succ h)
  | .given i, j, _ => unN_same _ (firstW_base (.given i) rfl) j
  | .set x, j, _ => unN_same _ (firstW_base (.set x) rfl) j
  | .same x y, j, _ => unN_same _ (firstW_base (.same x y) rfl) j
  | .full x y, j, _ => unN_same _ (firstW_base (.full x y) rfl) j
  | .wished x, j, _ => unN_same _ (firstW_base (.wished x) rfl) j
where
  unN_same (d : PyData) (h : firstW d ≠ some (Str.ofString "not")) : ∀ j, unN d j = d
    | 0 => rfl
    | j + 1 => by
      show unNot1 (unN d j) = d
      rw [unN_same d h j]
      unfold unNot1
      rw [if_neg fun z => h z.1]
theorem base_R {g : Int} {W : Str → Prop} (hW : ∀ w, W w → wordB w = true) : ∀ t : Tst, t.nmR g W → isTestU t.base.data g = true
  | .not t, h => base_R hW t h
  | .given i, h => by
    have h : (i : Int) < g := h
    show isTestU (.tuple (.str "given" :: [.int i])) g = true
    rw [tU_given]
    show (true && (decide ((0 : Int) ≤ (i : Int)) && decide ((i : Int) ≤ g - 1))) = true
    rw [decide_eq_true (by omega), decide_eq_true (by omega)]
    rfl
  | .set x, h => by
    have h : nameB x = true := h
    show isTestU (.tuple (.str "set" :: [.str x])) g = true
    rw [tU_set]
    show (true && (nameB x && true)) = true
    rw [h]
    rfl
  | .same x y, h => by
    have h : nameB x = true ∧ nameB y = true := h
    show isTestU (.tuple (.str "same" :: [.str x, .str y])) g = true
    rw [tU_same]
    show (true && (nameB x && (nameB y && true))) = true
    rw [h.1, h.2]
    rfl
  | .full x y, h => by
    have h : nameB x = true ∧ nameB y = true := h
    show isTestU (.tuple (.str "full" :: [.str x, .str y])) g = true
    rw [tU_full]
    show (true && (nameB x && (nameB y && true))) = true
    rw [h.1, h.2]
    rfl
  | .wished w, h => by
    have h : W w := h
    show isTestU (.tuple (.str "wished" :: [.str w])) g = true
    rw [tU_wished]
    show (true && wordB w) = true
    rw [hW w h]
    rfl
theorem test_R {g : Int} {W : Str → Prop} (hW : ∀ w, W w → wordB w = true) {t : Tst} (h : t.okR g W) : isTest t.data g = true := by
  rw [isTest_U, unN_base t 3 h.2]
  exact base_R hW t h.1
theorem act_R {g : Int} {W : Str → Prop} (hW : ∀ w, W w → wordB w = true) : ∀ a : Act, a.nmR g W → isStmt a.data g = true
  | .make x, h => rest "make" [.str x] 1 (by decide +kernel) (by decide +kernel) rfl (by show (nameB x && true) = true; rw [show nameB x = true from h]; rfl)
  | .keep x, h => rest "keep" [.str x] 1 (by decide +kernel) (by decide +kernel) rfl (by show (nameB x && true) = true; rw [show nameB x = true from h]; rfl)
  | .drop x, h => rest "drop" [.str x] 1 (by decide +kernel) (by decide +kernel) rfl (by show (nameB x && true) = true; rw [show nameB x = true from h]; rfl)
  | .name x y, h => rest "name" [.str x, .str y] 2 (by decide +kernel) (by decide +kernel) rfl (by
    have h : nameB x = true ∧ nameB y = true := h
    show (nameB x && (nameB y && true)) = true
    rw [h.1, h.2]; rfl)
  | .cut x y, h => rest "cut" [.str x, .str y] 2 (by decide +kernel) (by decide +kernel) rfl (by
    have h : nameB x = true ∧ nameB y = true := h
    show (nameB x && (nameB y && true)) = true
    rw [h.1, h.2]; rfl)
  | .hold x f y, h => rest "hold" [.str x, .str f, .str y] 3 (by decide +kernel) (by decide +kernel) rfl (by
    have h : nameB x = true ∧ nameB f = true ∧ nameB y = true := h
    show (nameB x && (nameB f && (nameB y && true))) = true
    rw [h.1, h.2.1, h.2.2]; rfl)
  | .weak x f y, h => rest "weak" [.str x, .str f, .str y] 3 (by decide +kernel) (by decide +kernel) rfl (by
    have h : nameB x = true ∧ nameB f = true ∧ nameB y = true := h
    show (nameB x && (nameB f && (nameB y && true))) = true
    rw [h.1, h.2.1, h.2.2]; rfl)
  | .take x f y, h => rest "take" [.str x, .str f, .str y] 3 (by decide +kernel) (by decide +kernel) rfl (by
    have h : nameB x = true ∧ nameB f = true ∧ nameB y = true := h
    show (nameB x && (nameB f && (nameB y && true))) = true
    rw [h.1, h.2.1, h.2.2]; rfl)
  | .say w, h => by
    show isStmt (.tuple (.str "say" :: [.str w])) g = true
    rw [sU_say]
    show (true && wordB w) = true
    rw [hW w h]
    rfl
  | .wish x w, h => by
    have h : nameB x = true ∧ W w := h
    show isStmt (.tuple (.str "wish" :: [.str x, .str w])) g = true
    rw [sU_wish]
    show (true && (nameB x && wordB w)) = true
    rw [h.1, hW w h.2]
    rfl
  | .ask t, h => by
    show isStmt (.tuple (.str "ask" :: [t.data])) g = true
    rw [sU_ask]
    show (true && isTest t.data g) = true
    rw [test_R hW h]
    rfl
where
  rest (z : String) (r : List PyData) (n : Nat) (h : (decide (Str.ofString z ≠ Str.ofString "ask") && (decide (Str.ofString z ≠ Str.ofString "if") && (decide (Str.ofString z ≠ Str.ofString "repeat") && (decide (Str.ofString z ≠ Str.ofString "say") && decide (Str.ofString z ≠ Str.ofString "wish"))))) = true) (hn : cntN (Str.ofString z) = n) (hr : r.length = n) (ha : r.all nameD = true) (h1n : 1 ≤ n := by decide) {g : Int} : isStmt (.tuple (.str z :: r)) g = true := by
    obtain ⟨h1, h⟩ := Bool.and_eq_true_iff.mp h
    obtain ⟨h2, h⟩ := Bool.and_eq_true_iff.mp h
    obtain ⟨h3, h⟩ := Bool.and_eq_true_iff.mp h
    obtain ⟨h4, h5⟩ := Bool.and_eq_true_iff.mp h
    have l1 : 1 ≤ r.length := by rw [hr]; exact h1n
    rw [sU_rest (of_decide_eq_true h1) (of_decide_eq_true h2) (of_decide_eq_true h3) (of_decide_eq_true h4) (of_decide_eq_true h5) l1, hn, hr, ha, decide_eq_true rfl]
    rfl
theorem rep_R {g : Int} {k : Nat} {ds : List PyData} (h : k ≤ 12) : isStmt (.tuple [.str "repeat", .int k, .tuple ds]) g = true := by
  show isStmt (.tuple (.str "repeat" :: [.int k, .tuple ds])) g = true
  rw [sU_rep]
  show (true && ((decide ((0 : Int) ≤ (k : Int)) && decide ((k : Int) ≤ 12)) && true)) = true
  rw [decide_eq_true (by omega), decide_eq_true (by omega)]
  rfl
theorem cond_R {g : Int} {t : PyData} {a b : List PyData} (h : isTest t g = true) : isStmt (.tuple [.str "if", t, .tuple a, .tuple b]) g = true := by
  show isStmt (.tuple (.str "if" :: [t, .tuple a, .tuple b])) g = true
  rw [sU_if]
  show (true && (isTest t g && true)) = true
  rw [h]
  rfl
/-! ### the walk -/
def Pass (g : Int) (dp : Nat) (ds : List PyData) (n c : Nat) : Prop := ∀ (pl m : Nat) (r : List (Nat × PyData)) (o : Option (Nat × Str)), r.length + c ≤ 100000 → FW g m (pl + n) r o → FW g (m + n) pl (ds.map (fun d => (dp, d)) ++ r) o
def Stop (g : Int) (dp : Nat) (ds : List PyData) (n c : Nat) (w : String) : Prop := ∀ (pl : Nat) (r : List (Nat × PyData)), r.length + c ≤ 100000 → FW g n pl (ds.map (fun d => (dp, d)) ++ r) (some (pl + n, Str.ofString w))
section
variable {g : Int} {dp n n1 n2 c c1 c2 : Nat} {d : PyData} {ds inn a b : List PyData} {w : String}
theorem pass_nil : Pass g dp [] 0 0 := fun pl m r o _ f => f
theorem pass_cons (h4 : dp ≤ 4) (hs : isStmt d g = true) (hi : innerQ dp d = inn.map (fun d => (dp + 1, d))) (h1 : Pass g (dp + 1) inn n1 c1) (h2 : Pass g dp ds n2 c2) : Pass g dp (d :: ds) (1 + n1 + n2) (inn.length + ds.length + c1 + c2) := by
  intro pl m r o hr f
  have A := h2 (pl + 1 + n1) m r o (by omega) (by rw [show pl + 1 + n1 + n2 = pl + (1 + n1 + n2) by omega]; exact f)
  have B := h1 (pl + 1) (m + n2) (ds.map (fun d => (dp, d)) ++ r) o (by rw [List.length_append, List.length_map]; omega) A
  have e : m + (1 + n1 + n2) = m + n2 + n1 + 1 := by omega
  rw [e]
  refine FW.step h4 hs ?_ ?_
  · rw [hi]
    show (List.map (fun d => (dp + 1, d)) inn ++ (List.map (fun d => (dp, d)) ds ++ r)).length ≤ 100000
    rw [List.length_append, List.length_append, List.length_map, List.length_map]
    omega
  · rw [hi]
    exact B
theorem pass_app (h1 : Pass g dp a n1 c1) (h2 : Pass g dp b n2 c2) : Pass g dp (a ++ b) (n1 + n2) (b.length + c1 + c2) := by
  intro pl m r o hr f
  have A := h2 (pl + n1) m r o (by omega) (by rw [Nat.add_assoc]; exact f)
  have B := h1 pl (m + n2) (b.map (fun d => (dp, d)) ++ r) o (by rw [List.length_append, List.length_map]; omega) A
  rw [show m + (n1 + n2) = m + n2 + n1 by omega, List.map_append, List.append_assoc]
  exact B
theorem stop_wrong (h4 : dp ≤ 4) (hs : isStmt d g = false) : Stop g dp (d :: ds) 0 0 "statement" := fun pl r _ => FW.wrong pl dp d _ h4 hs
theorem stop_nest (h4 : 4 < dp) : Stop g dp (d :: ds) 0 0 "nest" := fun pl r _ => FW.nest pl dp d _ h4
theorem stop_in (h4 : dp ≤ 4) (hs : isStmt d g = true) (hi : innerQ dp d = inn.map (fun d => (dp + 1, d))) (h1 : Stop g (dp + 1) inn n c w) : Stop g dp (d :: ds) (n + 1) (inn.length + ds.length + c) w := by
  intro pl r hr
  have B := h1 (pl + 1) (ds.map (fun d => (dp, d)) ++ r) (by rw [List.length_append, List.length_map]; omega)
  rw [show pl + 1 + n = pl + (n + 1) by omega] at B
  refine FW.step h4 hs ?_ ?_
  · rw [hi]
    show (List.map (fun d => (dp + 1, d)) inn ++ (List.map (fun d => (dp, d)) ds ++ r)).length ≤ 100000
    rw [List.length_append, List.length_append, List.length_map, List.length_map]
    omega
  · rw [hi]
    exact B
theorem stop_skip (h1 : Pass g dp a n1 c1) (h2 : Stop g dp b n2 c2 w) : Stop g dp (a ++ b) (n1 + n2) (b.length + c1 + c2) w := by
  intro pl r hr
  have A := h2 (pl + n1) r (by omega)
  have B := h1 pl n2 (b.map (fun d => (dp, d)) ++ r) _ (by rw [List.length_append, List.length_map]; omega) A
  rw [List.map_append, List.append_assoc, show pl + (n1 + n2) = pl + n1 + n2 by omega, show n1 + n2 = n2 + n1 by omega]
  exact B
theorem stop_more (h : Stop g dp a n c w) : Stop g dp (a ++ b) n (b.length + c) w := by
  intro pl r hr
  rw [List.map_append, List.append_assoc]
  exact h pl _ (by rw [List.length_append, List.length_map]; omega)
theorem Stop.mono (h : Stop g dp a n c w) (l : c ≤ c1) : Stop g dp a n c1 w := fun pl r hr => h pl r (by omega)
theorem Pass.mono (h : Pass g dp a n c) (l : c ≤ c1) : Pass g dp a n c1 := fun pl m r o hr => h pl m r o (by omega)
theorem inner_rep {k : PyData} : innerQ dp (.tuple [.str "repeat", k, .tuple ds]) = ds.map (fun d => (dp + 1, d)) := by
  show (List.flatMap _ (if blkW (Str.ofString "repeat") then [PyData.tuple ds] else [])) = _
  rw [show blkW (Str.ofString "repeat") = true by decide +kernel]
  show ds.map _ ++ [] = _
  rw [List.append_nil]
theorem inner_if {t : PyData} : innerQ dp (.tuple [.str "if", t, .tuple a, .tuple b]) = (a ++ b).map (fun d => (dp + 1, d)) := by
  show (List.flatMap _ (if blkW (Str.ofString "if") then [PyData.tuple a, PyData.tuple b] else [])) = _
  rw [show blkW (Str.ofString "if") = true by decide +kernel]
  show a.map _ ++ (b.map _ ++ []) = _
  rw [List.append_nil, List.map_append]
theorem inner_act (x : Act) : innerQ dp x.data = [] := by
  cases x <;> (unfold innerQ; rfl)
end
end G

set_option Elab.async false
set_option linter.all false
set_option maxRecDepth 100000
set_option maxHeartbeats 4000000
/-! On paper: weights and wishes of data; what program_error says of rows that pass, of rows that stop. -/
namespace G
open PySem PySem.Spec PyProof.Rows L2 StX RZ
def tmD : PyData → Int
  | .int i => i
  | _ => 1
mutual
def wD : PyData → Int
  | .tuple (.str w :: a :: ds) => 1 + (if blkW w then tmD a * wBs ds else 0)
  | _ => 1
def wBs : List PyData → Int
  | [] => 0
  | b :: r => wBk b + wBs r
def wBk : PyData → Int
  | .tuple xs => wDs xs
  | _ => 0
def wDs : List PyData → Int
  | [] => 0
  | x :: r => wD x + wDs r
end
theorem wD_no (z : String) (a : PyData) (ds : List PyData) (h : blkW (Str.ofString z) = false) : wD (.tuple (.str z :: a :: ds)) = 1 := by
  rw [wD, h]
  rfl
mutual
theorem wD_sta : ∀ s : Sta, wD s.data = wtS s
  | .act a => by
    show wD a.data = 1
    cases a with
    | make x => exact wD_no "make" _ _ (by decide +kernel)
    | wish x w => exact wD_no "wish" _ _ (by decide +kernel)
    | keep x => exact wD_no "keep" _ _ (by decide +kernel)
    | name x y => exact wD_no "name" _ _ (by decide +kernel)
    | drop x => exact wD_no "drop" _ _ (by decide +kernel)
    | hold x f y => exact wD_no "hold" _ _ (by decide +kernel)
    | weak x f y => exact wD_no "weak" _ _ (by decide +kernel)
    | cut x f => exact wD_no "cut" _ _ (by decide +kernel)
    | take z x f => exact wD_no "take" _ _ (by decide +kernel)
    | say w => exact wD_no "say" _ _ (by decide +kernel)
    | ask t => exact wD_no "ask" _ _ (by decide +kernel)
  | .cond t y n => by
    show wD (.tuple [.str "if", t.data, .tuple (blkData y), .tuple (blkData n)]) = 1 + (wtB y + wtB n)
    have e : tmD t.data = 1 := by cases t <;> rfl
    rw [wD, show blkW (Str.ofString "if") = true by decide +kernel, if_pos rfl, wBs, wBs, wBs, wBk, wBk, wDs_blk y, wDs_blk n, e]
    omega
  | .rep k b => by
    show wD (.tuple [.str "repeat", .int k, .tuple (blkData b)]) = 1 + (k : Int) * wtB b
    rw [wD, show blkW (Str.ofString "repeat") = true by decide +kernel, if_pos rfl, wBs, wBs, wBk, wDs_blk b]
    show 1 + (k : Int) * (wtB b + 0) = _
    rw [Int.add_zero]
theorem wDs_blk : ∀ b : List Sta, wDs (blkData b) = wtB b
  | [] => by simp [blkData, wDs, wtB]
  | s :: r => by
    show wDs (s.data :: blkData r) = wtS s + wtB r
    rw [wDs, wD_sta s, wDs_blk r]
end
theorem wDs_append : ∀ a b : List PyData, wDs (a ++ b) = wDs a + wDs b
  | [], b => by simp [wDs]
  | x :: r, b => by
    rw [List.cons_append, wDs, wDs, wDs_append r b]
    omega
/-! ### wishes -/
def ownV (w : Str) (ds : List PyData) : List Str := if w = Str.ofString "wish" then (match ds with
  | .str z :: _ => [z]
  | _ => []) else []
mutual
def vD : PyData → List Str
  | .tuple (.str w :: _ :: ds) => ownV w ds ++ (if blkW w then vBs ds else [])
  | _ => []
def vBs : List PyData → List Str
  | [] => []
  | b :: r => vBk b ++ vBs r
def vBk : PyData → List Str
  | .tuple xs => vDs xs
  | _ => []
def vDs : List PyData → List Str
  | [] => []
  | x :: r => vD x ++ vDs r
end
theorem wishes_app (a b : List (Nat × Sta)) : wishesL (a ++ b) = wishesL a ++ wishesL b := List.filterMap_append
theorem ownV_no {w : Str} {ds : List PyData} (h : w ≠ Str.ofString "wish") : ownV w ds = [] := if_neg h
theorem vD_no (z : String) (a : PyData) (ds : List PyData) (h : Str.ofString z ≠ Str.ofString "wish") (h2 : blkW (Str.ofString z) = false) : vD (.tuple (.str z :: a :: ds)) = [] := by
  rw [vD, ownV_no h, h2]
  rfl
mutual
theorem vD_sta : ∀ (d : Nat) (s : Sta), vD s.data = wishesL (staRows d s)
  | d, .act a => by
    show vD a.data = wishesL [(d, .act a)]
    cases a with
    | wish x wd =>
      show vD (.tuple [.str "wish", .str x, .str wd]) = [wd]
      rw [vD, show blkW (Str.ofString "wish") = false by decide +kernel]
      unfold ownV
      rw [if_pos rfl]
      rfl
    | make x => exact vD_no "make" _ _ (by decide +kernel) (by decide +kernel)
    | keep x => exact vD_no "keep" _ _ (by decide +kernel) (by decide +kernel)
    | drop x => exact vD_no "drop" _ _ (by decide +kernel) (by decide +kernel)
    | name x y => exact vD_no "name" _ _ (by decide +kernel) (by decide +kernel)
    | hold x f y => exact vD_no "hold" _ _ (by decide +kernel) (by decide +kernel)
    | weak x f y => exact vD_no "weak" _ _ (by decide +kernel) (by decide +kernel)
    | cut x f => exact vD_no "cut" _ _ (by decide +kernel) (by decide +kernel)
    | take x f y => exact vD_no "take" _ _ (by decide +kernel) (by decide +kernel)
    | say x => exact vD_no "say" _ _ (by decide +kernel) (by decide +kernel)
    | ask t => exact vD_no "ask" _ _ (by decide +kernel) (by decide +kernel)
  | d, .cond t y n => by
    show vD (.tuple [.str "if", t.data, .tuple (blkData y), .tuple (blkData n)]) = wishesL (rowsP (d + 1) y ++ rowsP (d + 1) n)
    rw [wishes_app, vD, show blkW (Str.ofString "if") = true by decide +kernel, if_pos rfl, ownV_no (by decide +kernel), vBs, vBs, vBs, vBk, vBk, vDs_blk (d + 1) y, vDs_blk (d + 1) n, List.append_nil, List.nil_append]
  | d, .rep k b => by
    show vD (.tuple [.str "repeat", .int k, .tuple (blkData b)]) = wishesL (rowsP (d + 1) b)
    rw [vD, show blkW (Str.ofString "repeat") = true by decide +kernel, if_pos rfl, ownV_no (by decide +kernel), vBs, vBs, vBk, vDs_blk (d + 1) b, List.append_nil, List.nil_append]
theorem vDs_blk : ∀ (d : Nat) (b : List Sta), vDs (blkData b) = wishesL (rowsP d b)
  | _, [] => by simp [blkData, vDs, rowsP, wishesL]
  | d, s :: r => by
    show vDs (s.data :: blkData r) = wishesL (staRows d s ++ rowsP d r)
    rw [wishes_app, vDs, vD_sta d s, vDs_blk d r]
end
theorem vDs_append : ∀ a b : List PyData, vDs (a ++ b) = vDs a ++ vDs b
  | [], b => by simp [vDs]
  | x :: r, b => by rw [List.cons_append, vDs, vDs, vDs_append r b, List.append_assoc]
theorem nodup_len : ∀ {ys ws : List Str}, ys.Nodup → (∀ y ∈ ys, y ∈ ws) → ys.length ≤ ws.length
  | [], _, _, _ => Nat.zero_le _
  | y :: ys, ws, h, hs => by
    obtain ⟨h1, h2⟩ := List.nodup_cons.mp h
    have hy := hs y (List.mem_cons_self ..)
    have z := nodup_len (ws := ws.erase y) h2 fun x hx => (List.mem_erase_of_ne (fun e => h1 (by rw [← e]; exact hx))).mpr (hs x (List.mem_cons_of_mem _ hx))
    have l := List.length_erase_of_mem hy
    have lp : 0 < ws.length := List.length_pos_of_mem hy
    rw [List.length_cons]
    omega
/-! ### what program_error says -/
def resD (ds : List PyData) (n k : Nat) : PyData := if 30 < n then .tuple [.none, .str "places"] else if 200 < wDs ds then .tuple [.none, .str "weight"] else if 4 < k then .tuple [.none, .str "wishes"] else .none
theorem bnd_res {blk : List Sta} {n k : Nat} (hn : sizeB blk = n) (hk : WishN blk k) : bndD blk k = resD (blkData blk) n k ∧ (n ≤ 30 → wDs (blkData blk) ≤ 200 → ∃ ys, SortD (vDs (blkData blk)) ys ∧ k = ys.length) := by
  constructor
  · unfold bndD resD
    rw [hn, wDs_blk]
  · intro h1 h2
    rw [vDs_blk 0]
    exact hk (by omega) (by rw [← wDs_blk]; exact h2)
theorem pairOk {g : Int} {ds : List PyData} (h0 : 0 ≤ g) (h3 : g ≤ 3) : pairD (.tuple [.int g, .tuple ds]) = true := by
  show (rngD 0 3 (.int g) && true) = true
  rw [Bool.and_true]
  show (decide (0 ≤ g) && decide (g ≤ 3)) = true
  rw [decide_eq_true h0, decide_eq_true h3]
  rfl
theorem spPE_stop {G : Addr → Prop} {H : Hp} {v : V} {ds : List PyData} {g : Int} {n c : Nat} {w : String} {Q : VK} {E : XK} (gv : GV G H v (.tuple [.int g, .tuple ds])) (h0 : 0 ≤ g) (h3 : g ≤ 3) (hl : ds.length ≤ 100000) (hn : n ≤ 10000) (hc : c ≤ 100000) (st : Stop g 0 ds n c w)
    (q : ∀ H' u, Same H H' → TD H' u (.tuple [.int (n : Int), .str w]) → Q u H') : spPE [v] H Q E := by
  refine ⟨G, v, _, rfl, gv, fun h => by rw [pairOk h0 h3] at h; exact absurd h (by decide), fun _ => ⟨g, ds, n, some (n, Str.ofString w), rfl, hl, hn, ?_, fun x hx H' u s t => ?_, fun h => by cases h⟩⟩
  · have z := st 0 [] (by show 0 + c ≤ 100000; omega)
    rw [List.append_nil, Nat.zero_add] at z
    exact z
  · cases hx
    exact q H' u s t
theorem spPE_pass {G : Addr → Prop} {H : Hp} {v : V} {ds : List PyData} {g : Int} {n c : Nat} {Q : VK} {E : XK} (gv : GV G H v (.tuple [.int g, .tuple ds])) (h0 : 0 ≤ g) (h3 : g ≤ 3) (hl : ds.length ≤ 100000) (hn : n ≤ 10000) (hc : c ≤ 100000) (st : Pass g 0 ds n c)
    (q : ∀ k, (n ≤ 30 → wDs ds ≤ 200 → ∃ ys, SortD (vDs ds) ys ∧ k = ys.length) → ∀ H' u, Same H H' → TD H' u (resD ds n k) → Q u H') : spPE [v] H Q E := by
  refine ⟨G, v, _, rfl, gv, fun h => by rw [pairOk h0 h3] at h; exact absurd h (by decide), fun _ => ⟨g, ds, n, none, rfl, hl, hn, ?_, (fun x hx => by cases hx), fun _ blk eb hb hs k hk H' u s t => ?_⟩⟩
  · have z := st 0 0 [] none (by show 0 + c ≤ 100000; omega) (by rw [Nat.zero_add]; exact FW.nil n)
    rw [List.append_nil, Nat.zero_add] at z
    exact z
  · obtain ⟨e1, e2⟩ := bnd_res hs hk
    rw [e1, ← eb] at t
    rw [← eb] at e2
    exact q k e2 H' u s t
end G

set_option Elab.async false
set_option linter.all false
set_option maxRecDepth 100000
set_option maxHeartbeats 4000000
/-! _law_rows, _law_inner. -/
namespace G
open PySem PySem.Spec PyProof.Rows L2
theorem pe_cons {X : Cx} {e : Expr} {te tw : TE} (h : PE X e te) (w : ∀ σ H Q, tw σ H Q → te σ H Q) : PE X e tw := ⟨fun pins s σ H Q I q => h.run pins s σ H Q I (w σ H Q q)⟩
def tFalse : TE := fun _ _ _ => False
theorem pe_never {X : Cx} {e : Expr} : PE X e tFalse := ⟨fun _ _ _ _ _ _ h => h.elim⟩
def StaR (g : Int) (W : Str → Prop) : Nat → Sta → Prop
  | 0, _ => False
  | _ + 1, .act a => a.nmR g W
  | d + 1, .cond t y n => t.okR g W ∧ (∀ s ∈ y, StaR g W d s) ∧ ∀ s ∈ n, StaR g W d s
  | d + 1, .rep k b => k < 13 ∧ ∀ s ∈ b, StaR g W d s
theorem PoolY.kpL {H H' : Hp} {D L a Lf : Addr} {g l0 l1 : Int} {ws : List Str} (p : PoolY H D L a g ws) (gL : H Lf = some (.lst [.int l0, .int l1])) (k : Kp [D, L, Lf] H H') : PoolY H' D L a g ws := by
  obtain ⟨N, Wd, ns, h1, h2, h3, h4, h5, h6, h7, h8, n1, n2, n3⟩ := p
  have e1 : a ≠ Lf := fun z => by rw [z, gL] at h1; cases h1
  have key : ∀ {A : Addr} {l : List Str}, H A = some (.lst (l.map V.str)) → 0 < l.length → A ≠ Lf := fun {A l} h hl z => by
    rw [z, gL] at h
    cases l with
    | nil => exact absurd hl (Nat.lt_irrefl 0)
    | cons x r => cases h
  have e2 := key h2 h6.1
  have e3 := key h3 h7.1
  have up : ∀ {A : Addr}, A ∉ [D, L] → A ≠ Lf → A ∉ [D, L, Lf] := fun {A} h z y => by
    simp at h y
    rcases y with y | y | y
    · exact h.1 y
    · exact h.2 y
    · exact z y
  exact ⟨N, Wd, ns, k _ _ (up n1 e1) h1, k _ _ (up n2 e2) h2, k _ _ (up n3 e3) h3, h4, h5, h6, h7, h8, n1, n2, n3⟩
def cI : Nat → Nat
  | 0 => 0
  | r + 1 => 633 + 60 * cI r
theorem blk_snoc (b : List Sta) (s : Sta) : blkData (b ++ [s]) = blkData b ++ [s.data] := by
  rw [blkData_eq, blkData_eq, List.map_append]
  rfl
/-- a drawn block -/
def spBl (dp : Int) (c d : Nat) : Sp := fun vs H Q _ => ∃ (D L a Lf : Addr) (n : Nat) (g l0 l1 times : Int) (ws : List Str), vs = [.ref D, .ref a, .ref Lf, .int dp, .int times] ∧ Deck H D L n ∧ n + c < 10 ^ 11 - 100 ∧ PoolY H D L a g ws ∧ H Lf = some (.lst [.int l0, .int l1]) ∧ Lf ∉ [D, L] ∧ (0 ≤ l0 ∧ l0 ≤ 31) ∧ (0 ≤ l1 ∧ l1 ≤ 200) ∧ (0 ≤ times ∧ times ≤ 2400) ∧
  ∀ (H' : Hp) (t : Addr) (blk : List Sta) (l0' l1' : Int), Ch [D, L, Lf] H H' → Deck H' D L (n + c) → H' Lf = some (.lst [.int l0', .int l1']) → TD H' (.ref t) (.tuple (blkData blk)) → (∀ s ∈ blk, StaR g (· ∈ ws) d s) → ((sizeB blk : Nat) : Int) + l0' ≤ l0 → 0 ≤ l0' → (0 ≤ l1' ∧ l1' ≤ 200) → times * wtB blk + l1' ≤ l1 → Q (.ref t) H'
def rSubE : R2 := fun x y H Q => ∃ i j, x = .int i ∧ y = .int j ∧ ∀ z, z = i - j → Q (.int z) H
theorem op_subE {X : Cx} : OpR X (binaryOp .Sub) rSubE := by
  intro pins s σ H x y v u Q I rx ry h
  obtain ⟨i, j, rfl, rfl, q⟩ := h
  exact op_sub pins s σ H _ _ v u Q I rx ry ⟨i, j, rfl, rfl, q _ rfl⟩
def twMany : TE := fun σ H Q => ∃ (D L : Addr) (n : Nat) (dp : Int), σ[0]? = some (some (.ref D)) ∧ σ[3]? = some (some (.int dp)) ∧ Deck H D L n ∧ n < 10 ^ 11 ∧ ∀ (H' : Hp) (v : Int), Kp [D, L] H H' → Deck H' D L (n + 2) → 0 ≤ v → v < 31 → Q (.int v) H'
section
variable {P : Program} {w : World} {K : PySem.W.Frag} {mg : Str → Option Value} {base : Heap}
abbrev s__law_inner : Stmt := top 52
abbrev p__law_rows : List Str := ["_law_deck_here", "_law_pool_here", "_law_left", "_law_depth", "_law_times"]
abbrev n__law_inner : List Str := ["_law_deck_here", "_law_pool_here", "_law_left", "_law_depth", "_law_times"]
theorem sc__law_inner : FnScope n__law_inner p__law_rows (defScope s__law_inner) := ⟨rfl, rfl, rfl, by decide +kernel, rfl, by decide +kernel, by decide +kernel⟩
theorem ok_inner0 {f : Addr} {fd : FuncData} (F : Fun K "_law_inner" "_law_inner" s__law_inner f fd) : FnOk P w K mg base CX0 5 f fd p__law_rows (spBl 4 (cI 0) 0) := by
  refine F.ok sc__law_inner (fun vs H Q E ⟨D, L, a, Lf, n, g, l0, l1, times, ws, ev, _⟩ => by rw [ev]; rfl) (fun cdv A outer s H vs Q E hr ⟨D, L, a, Lf, n, g, l0, l1, times, ws, ev, hD, hn, hp, gL, nL, b0, b1, b2, q⟩ => ?_)
  subst ev
  refine ⟨_, (pss_one (ps_ret (pe_ifExp (pt_cmpR op_lt (pv 3) pe_int (nomark _)) pe_never (pe_tup pa_nil)))), ?_⟩
  refine ⟨_, rfl, _, _, rfl, rfl, _, rfl, ite2 (fun h => absurd h (by decide)) (fun _ => ⟨Nat.zero_le _, fun t nt => ?_⟩)⟩
  exact q _ t [] l0 l1 (Ch.same (Same.up nt)) ((hD.kp (Kp.same (S := []) (Same.up nt)) (fun z => nomatch z) (fun z => nomatch z)).mono (by omega)) (Same.up nt _ _ gL) (.tup upd_same .nil) (fun _ z => nomatch z) (by show ((0 : Nat) : Int) + l0 ≤ l0; omega) b0.1 b1 (by show times * 0 + l1 ≤ l1; omega)
theorem ok_innerS {f fR : Addr} {fd dR : FuncData} {r k : Nat} (hr4 : r < 4) (F : Fun K "_law_inner" "_law_inner" s__law_inner f fd) (mR : mg "_law_rows" = some (.ref fR)) (kR : PySem.W.keepIn K (.ref fR) = true) (bR : Binds K dR p__law_rows [])
    (GR : FnOk P w K mg base CX0 k fR dR p__law_rows (spBl (4 - (r : Int)) (cI (r + 1)) (r + 1))) : FnOk P w K mg base CX0 (k + 1) f fd p__law_rows (spBl (4 - ((r + 1 : Nat) : Int)) (cI (r + 1)) (r + 1)) := by
  refine F.ok sc__law_inner (fun vs H Q E ⟨D, L, a, Lf, n, g, l0, l1, times, ws, ev, _⟩ => by rw [ev]; rfl) (fun cdv A outer s H vs Q E hr ⟨D, L, a, Lf, n, g, l0, l1, times, ws, ev, hD, hn, hp, gL, nL, b0, b1, b2, q⟩ => ?_)
  subst ev
  refine ⟨_, (pss_one (ps_ret (pe_ifExp (pt_cmpR op_lt (pv 3) pe_int (nomark _)) (pe_call GR hr (by rfl) mR kR bR .nil pass0 (pa_cons (pv 0) (pa_cons (pv 1) (pa_cons (pv 2) (pa_cons (pe_op op_addE (pv 3) pe_int) (pa_cons (pv 4) pa_nil)))))) pe_never))), ?_⟩
  refine ⟨_, rfl, _, _, rfl, rfl, _, rfl, ite2 (fun _ => ?_) (fun h => absurd (decide_eq_true (by omega)) h)⟩
  refine ⟨_, rfl, _, rfl, _, rfl, _, rfl, _, _, rfl, rfl, fun z ez => ⟨_, rfl, D, L, a, Lf, n, g, l0, l1, times, ws, ?_, hD, hn, hp, gL, nL, b0, b1, b2, q⟩⟩
  have e : z = 4 - (r : Int) := by rw [ez]; push_cast; omega
  rw [e]
  rfl
abbrev s__law_rows : Stmt := top 51
abbrev n__law_rows : List Str := ["_law_deck_here", "_law_pool_here", "_law_left", "_law_depth", "_law_times", "_law_rows_here", "_law_k", "_law_way", "_law_count", "_law_test", "_law_yes"]
theorem sc__law_rows : FnScope n__law_rows p__law_rows (defScope s__law_rows) := ⟨rfl, rfl, rfl, by decide +kernel, rfl, by decide +kernel, by decide +kernel⟩
theorem ok_rows {f f1 f2 f3 f4 fI : Addr} {fd fd1 fd2 fd3 fd4 dI : FuncData} {r k : Nat} (hr4 : r ≤ 4) (F : Fun K "_law_rows" "_law_rows" s__law_rows f fd) (T : Bi mg) (z_tuple : mg "tuple" = none)
    (D1 : Df K mg "_law_draw" s__law_draw ["_law_deck_here", "_law_many"] f1 fd1) (G1 : FnOk P w K mg base CX0 1 f1 fd1 ["_law_deck_here", "_law_many"] spDraw)
    (D2 : Df K mg "_law_one" s__law_one ["_law_deck_here", "_law_items"] f2 fd2) (G2 : FnOk P w K mg base CX0 2 f2 fd2 ["_law_deck_here", "_law_items"] (spOne K))
    (D3 : Df K mg "_law_any_test" s__law_any_test ["_law_deck_here", "_law_pool_here"] f3 fd3) (G3 : FnOk P w K mg base CX0 3 f3 fd3 ["_law_deck_here", "_law_pool_here"] spTestY)
    (D4 : Df K mg "_law_row" s__law_row ["_law_deck_here", "_law_pool_here"] f4 fd4) (G4 : FnOk P w K mg base CX0 4 f4 fd4 ["_law_deck_here", "_law_pool_here"] spRowY)
    (mI : mg "_law_inner" = some (.ref fI)) (kI : PySem.W.keepIn K (.ref fI) = true) (bI : Binds K dI p__law_rows []) (hk : 5 ≤ k) (GI : FnOk P w K mg base CX0 k fI dI p__law_rows (spBl (4 - (r : Int)) (cI r) r)) : FnOk P w K mg base CX0 (k + 1) f fd p__law_rows (spBl (4 - (r : Int)) (cI (r + 1)) (r + 1)) := by
  refine F.ok sc__law_rows (fun vs H Q E ⟨D, L, a, Lf, n, g, l0, l1, times, ws, ev, _⟩ => by rw [ev]; rfl) (fun cdv A outer s H vs Q E hr ⟨D, L, a, Lf, n, g, l0, l1, times, ws, ev, hD, hn, hp, gL, nL, b0, b1, b2, q⟩ => ?_)
  subst ev
  have hr1 : Room 1 _ := hr.mono (by omega)
  have hr2 : Room 2 _ := hr.mono (by omega)
  have hr3 : Room 3 _ := hr.mono (by omega)
  have hr4' : Room 4 _ := hr.mono (by omega)
  refine ⟨_, (pss_cons (ps_set (i := 5) sc__law_rows.nd rfl (.inl rfl) (pe_lst pa_nil))
      (pss_cons (ps_for PassesOwn.never rfl (pi_range1 (by rfl) T.z_range (pa_cons (pe_cons (tw := twMany) (pe_call G1 hr1 (by rfl) D1.m D1.F.kp D1.b .nil pass0 (pa_cons (pv 0) (pa_cons (pe_ifExp (pt_cmpR op_eq (pv 3) pe_int (nomark _)) (pe_call G2 hr2 (by rfl) D2.m D2.F.kp D2.b .nil pass0 (pa_cons (pv 0) (pa_cons (pe_lst (pa_cons pe_int (pa_cons pe_int (pa_cons pe_int pa_nil)))) pa_nil))) pe_int) pa_nil))) (fun σ H Q ⟨D, L, n, dp, e0, e3, hD, hn, q⟩ => by
        refine ⟨_, e0, _, e3, rfl, _, rfl, ite2 (fun _ => ?_) (fun _ => ?_)⟩
        · refine ⟨_, e0, line1000 (Nat.le_of_ble_eq_true rfl), fun l nl => ?_⟩
          have hl : l ∉ [D, L] := by simpa using hD.neD nl
          have s7 := Same.up (o := HO.lst [V.int 3, V.int 6, V.int 31]) nl
          have hD7 := hD.kp (Kp.same (S := []) s7) (fun z => nomatch z) (fun z => nomatch z)
          refine ⟨D, L, _, .ref l, rfl, hD7, by omega, .inl ⟨l, _, rfl, .inl ⟨SqL.of upd_same, hl⟩, Nat.le_of_ble_eq_true rfl, Nat.le_of_ble_eq_true rfl, fun H8 y8 k8 hD8 hy8 => ?_⟩⟩
          obtain ⟨m, rfl, m0, m3⟩ : ∃ m : Int, y8 = .int m ∧ 3 ≤ m ∧ m ≤ 31 := by
            simp only [List.mem_cons, List.not_mem_nil, or_false] at hy8
            rcases hy8 with rfl | rfl | rfl
            · exact ⟨3, rfl, by decide, by decide⟩
            · exact ⟨6, rfl, by decide, by decide⟩
            · exact ⟨31, rfl, by decide, by decide⟩
          exact ⟨D, L, _, m, rfl, hD8, by omega, by omega, by omega, fun H9 r k9 hD9 r0 r1 => q H9 r ((Kp.same s7).trans (k8.trans k9)) hD9 r0 (by omega)⟩
        · exact ⟨D, L, n, 4, rfl, hD, by omega, by decide, by decide, fun H9 r k9 hD9 r0 r1 => q H9 r k9 (hD9.mono (by omega)) r0 (by omega)⟩)) pa_nil)) (pg_name (i := 6) sc__law_rows.nd rfl (.inl rfl))
      (pss_cons (ps_set (i := 7) sc__law_rows.nd rfl (.inl rfl) (pe_call G1 hr1 (by rfl) D1.m D1.F.kp D1.b .nil pass0 (pa_cons (pv 0) (pa_cons pe_int pa_nil))))
      (pss_one (ps_if (PW.pt (pw_and (pt_cmpR op_gt (pe_ix ix_list (pv 2) pe_int (fun _ _ => rfl)) pe_int (nomark _)) (pw_and1 (pt_cmpR op_ge (pe_ix ix_list (pv 2) pe_int (fun _ _ => rfl)) (pv 4) (nomark _)))))
      (pss_cons (ps_asg (pe_tup (pa_cons (pe_op op_subE (pe_ix ix_list (pv 2) pe_int (fun _ _ => rfl)) pe_int) (pa_cons (pe_op op_subE (pe_ix ix_list (pv 2) pe_int (fun _ _ => rfl)) (pv 4)) pa_nil))) (pg_tup rfl (pgs_cons (pg_sub (pv 2) pe_int set_list) (pgs_cons (pg_sub (pv 2) pe_int set_list) pgs_nil))))
      (pss_one (ps_if (pt_cmpR op_lt (pv 7) pe_int (nomark _))
      (pss_one (ps_expr (pe_bm PySem.F.plainAttrs_list PySem.F.slot_list_append PySem.F.type_list_append mt_append (pv 5) (pa_cons (pe_call G4 hr4' (by rfl) D4.m D4.F.kp D4.b .nil pass0 (pa_cons (pv 0) (pa_cons (pv 1) pa_nil))) pa_nil))))
      (pss_one (ps_if (pt_cmpR op_eq (pv 7) pe_int (nomark _))
      (pss_cons (ps_set (i := 8) sc__law_rows.nd rfl (.inl rfl) (pe_call G1 hr1 (by rfl) D1.m D1.F.kp D1.b .nil pass0 (pa_cons (pv 0) (pa_cons pe_int pa_nil))))
      (pss_one (ps_expr (pe_bm PySem.F.plainAttrs_list PySem.F.slot_list_append PySem.F.type_list_append mt_append (pv 5) (pa_cons (pe_tup (pa_cons pe_str (pa_cons (pv 8) (pa_cons (pe_call GI hr (by rfl) mI kI bI .nil pass0 (pa_cons (pv 0) (pa_cons (pv 1) (pa_cons (pv 2) (pa_cons (pv 3) (pa_cons (pe_op op_mul (pv 4) (pv 8)) pa_nil)))))) pa_nil)))) pa_nil)))))
      (pss_cons (ps_par (i := 9) (j := 10) (by rfl) sc__law_rows.nd rfl rfl (by decide) rfl rfl (pa_cons (pe_call G3 hr3 (by rfl) D3.m D3.F.kp D3.b .nil pass0 (pa_cons (pv 0) (pa_cons (pv 1) pa_nil))) (pa_cons (pe_call GI hr (by rfl) mI kI bI .nil pass0 (pa_cons (pv 0) (pa_cons (pv 1) (pa_cons (pv 2) (pa_cons (pv 3) (pa_cons (pv 4) pa_nil)))))) pa_nil)) (by rfl))
      (pss_one (ps_expr (pe_bm PySem.F.plainAttrs_list PySem.F.slot_list_append PySem.F.type_list_append mt_append (pv 5) (pa_cons (pe_tup (pa_cons pe_str (pa_cons (pv 9) (pa_cons (pv 10) (pa_cons (pe_call GI hr (by rfl) mI kI bI .nil pass0 (pa_cons (pv 0) (pa_cons (pv 1) (pa_cons (pv 2) (pa_cons (pv 3) (pa_cons (pv 4) pa_nil)))))) pa_nil))))) pa_nil))))))))))
      pss_nil))))
      (pss_one (ps_ret (pe_callTy call_tuple_of (by rfl) z_tuple (by decide +kernel) (pa_cons (pv 5) pa_nil)))))), ?_⟩
  have ec : cI (r + 1) = 633 + 60 * cI r := rfl
  rw [ec] at hn q
  obtain ⟨C, eC⟩ : ∃ C, C = 21 + 2 * cI r := ⟨_, rfl⟩
  refine ⟨Nat.zero_le _, fun R nR => ?_⟩
  have s1 := Same.up (o := HO.lst []) nR
  have gR1 : upd H R (HO.lst []) R = some (.lst []) := upd_same
  have nR' : R ∉ [D, L] := by simpa using hD.neD nR
  have nRL : Lf ≠ R := fun z => by rw [z, nR] at gL; cases gL
  have hD1 := hD.kp (Kp.same (S := []) s1) (fun z => nomatch z) (fun z => nomatch z)
  have gL1 := s1 _ _ gL
  generalize upd H R (HO.lst []) = H1 at s1 gR1 hD1 gL1 ⊢
  refine ⟨D, L, n, 4 - (r : Int), rfl, rfl, hD1, by omega, fun H2 m k2 hD2 m0 m1 => ⟨m, rfl, by omega, by omega, for_range (lo := 0) (n := m.toNat) (fun j σ H' => Ch [D, L, Lf, R] H1 H' ∧ Deck H' D L (n + 2 + j * C) ∧ ∃ (acc : List V) (blk : List Sta) (l0' l1' : Int) (x6 x7 x8 x9 x10 : Option V), H' R = some (.lst acc) ∧ TDs H' acc (blkData blk) ∧ H' Lf = some (.lst [.int l0', .int l1']) ∧ (∀ s ∈ blk, StaR g (· ∈ ws) (r + 1) s) ∧ ((sizeB blk : Nat) : Int) + l0' ≤ l0 ∧ 0 ≤ l0' ∧ (0 ≤ l1' ∧ l1' ≤ 200) ∧ times * wtB blk + l1' ≤ l1 ∧ blk.length ≤ j ∧
      σ = [some (.ref D), some (.ref a), some (.ref Lf), some (.int (4 - (r : Int))), some (.int times), some (.ref R), x6, x7, x8, x9, x10])
    ⟨(deck_ch hD1 hD2 k2).mono (fun b hb => by simp at hb; rcases hb with rfl | rfl <;> simp), hD2.mono (by omega), [], [], l0, l1, none, none, none, none, none, k2 _ _ nR' gR1, .nil, k2 _ _ nL gL1, (fun _ z => nomatch z), (by show ((0 : Nat) : Int) + l0 ≤ l0; omega), b0.1, b1, (by show times * 0 + l1 ≤ l1; omega), Nat.zero_le _, rfl⟩ ?_ ?_⟩⟩
  · rintro j σ H' hj ⟨ch, hD', acc, blk, l0', l1', x6, x7, x8, x9, x10, gR, td, gL', hb, hs, c0, c1, wb, lb, rfl⟩
    have hj30 : j < 30 := by omega
    have hC : (j + 1) * C ≤ 30 * C := Nat.mul_le_mul_right C hj30
    rw [Nat.succ_mul] at hC
    refine ⟨.ref D, rfl, D, L, _, 6, rfl, hD', by omega, by decide, by decide, fun Ha way ka hDa w0 w1 => ?_⟩
    have ca := deck_ch hD' hDa ka
    have gRa := ka _ _ nR' gR
    have gLa := ka _ _ nL gL'
    have tda := TDs.ch ca _ _ td
    have cha : Ch [D, L, Lf, R] H1 Ha := ch.trans (ca.mono (fun b hb => by simp at hb; rcases hb with rfl | rfl <;> simp))
    have la : acc.length ≤ 30 := by rw [td.len, blkData_eq, List.length_map]; omega
    have e1 : (j + 1) * C = j * C + C := Nat.succ_mul _ _
    have no : ∀ (H'' : Hp), H'' = Ha → Ch [D, L, Lf, R] H1 H'' ∧ Deck H'' D L (n + 2 + (j + 1) * C) ∧ ∃ (acc : List V) (blk : List Sta) (l0' l1' : Int) (y6 y7 y8 y9 y10 : Option V), H'' R = some (.lst acc) ∧ TDs H'' acc (blkData blk) ∧ H'' Lf = some (.lst [.int l0', .int l1']) ∧ (∀ s ∈ blk, StaR g (· ∈ ws) (r + 1) s) ∧ ((sizeB blk : Nat) : Int) + l0' ≤ l0 ∧ 0 ≤ l0' ∧ (0 ≤ l1' ∧ l1' ≤ 200) ∧ times * wtB blk + l1' ≤ l1 ∧ blk.length ≤ j + 1 ∧
        [some (.ref D), some (.ref a), some (.ref Lf), some (.int (4 - (r : Int))), some (.int times), some (.ref R), some (.int (0 + (j : Int))), some (.int way), x8, x9, x10] = [some (.ref D), some (.ref a), some (.ref Lf), some (.int (4 - (r : Int))), some (.int times), some (.ref R), y6, y7, y8, y9, y10] := fun H'' e => by
      rw [e]
      exact ⟨cha, hDa.mono (by omega), acc, blk, l0', l1', _, _, _, _, _, gRa, tda, gLa, hb, hs, c0, c1, wb, by omega, rfl⟩
    refine ⟨_, rfl, Lf, _, _, _, rfl, rfl, SqL.of gLa, atI_nat (j := 0) rfl, _, _, rfl, rfl, _, rfl, ite2 (fun h0 => ?_) (fun _ => iteF (no _ rfl))⟩
    have h0 : 0 < l0' := of_decide_eq_true h0
    refine ⟨_, rfl, Lf, _, _, _, rfl, rfl, SqL.of gLa, atI_nat (j := 1) rfl, _, rfl, _, _, rfl, rfl, _, rfl, ite2 (fun h1 => ?_) (fun _ => no _ rfl)⟩
    have h1 : times ≤ l1' := of_decide_eq_true h1
    refine ⟨_, rfl, Lf, _, _, _, rfl, rfl, SqL.of gLa, atI_nat (j := 0) rfl, _, _, rfl, rfl, fun z0 ez0 => ⟨_, rfl, Lf, _, _, _, rfl, rfl, SqL.of gLa, atI_nat (j := 1) rfl, _, rfl, _, _, rfl, rfl, fun z1 ez1 => ⟨line1000 (Nat.le_of_ble_eq_true rfl), fun tt ntt => ?_⟩⟩⟩
    have sT := Same.up (o := HO.tup [V.int z0, V.int z1]) ntt
    refine ⟨tt, _, rfl, SqT.of upd_same, rfl, _, _, rfl, _, rfl, Lf, _, _, _, rfl, rfl, sT _ _ gLa, rfl, _, _, rfl, _, rfl, Lf, _, _, _, rfl, rfl, upd_same, rfl, rfl, ?_⟩
    generalize hHb : upd (upd (upd Ha tt _) Lf _) Lf _ = Hb
    have gLb : Hb Lf = some (.lst [.int z0, .int z1]) := by rw [← hHb]; exact upd_same
    have cb : Ch [Lf] Ha Hb := by
      rw [← hHb]
      exact ((Ch.same sT).put (by simp) (sT _ _ gLa) (fun xs z => by cases z)).put (by simp) upd_same (fun xs z => by cases z)
    clear hHb
    have nR3 : R ∉ [D, L, Lf] := by simp at nR' ⊢; exact ⟨nR'.1, nR'.2, Ne.symm nRL⟩
    have gRb := cb.kp _ _ (by simpa using Ne.symm nRL) gRa
    have hDb := hDa.kp cb.kp (by simp at nL ⊢; exact Ne.symm nL.1) (by simp at nL ⊢; exact Ne.symm nL.2)
    have tdb := TDs.ch cb _ _ tda
    have chb : Ch [D, L, Lf, R] H1 Hb := cha.trans (cb.mono (fun b hb => by simp at hb; simp [hb]))
    have poolb : PoolY Hb D L a g ws := by
      refine hp.kpL gL (Kp.fresh (p := R) ?_ nR)
      exact (Kp.same s1).trans (chb.kp.mono (fun b hb => by simp at hb ⊢; rcases hb with rfl | rfl | rfl | rfl <;> simp))
    have fin : ∀ (Hd : Hp) (v : V) (sta : Sta) (l0'' l1'' : Int), Ch [D, L, Lf] Hb Hd → Deck Hd D L (n + 2 + (j + 1) * C) → Hd Lf = some (.lst [.int l0'', .int l1'']) → TD Hd v sta.data → StaR g (· ∈ ws) (r + 1) sta → ((sta.size : Nat) : Int) + l0'' ≤ l0' → 0 ≤ l0'' → (0 ≤ l1'' ∧ l1'' ≤ 200) → times * wtS sta + l1'' ≤ l1' → ∀ x8 x9 x10 : Option V,
        Ch [D, L, Lf, R] H1 (upd Hd R (.lst (acc ++ [v]))) ∧ Deck (upd Hd R (.lst (acc ++ [v]))) D L (n + 2 + (j + 1) * C) ∧ ∃ (acc' : List V) (blk : List Sta) (l0' l1' : Int) (y6 y7 y8 y9 y10 : Option V), upd Hd R (.lst (acc ++ [v])) R = some (.lst acc') ∧ TDs (upd Hd R (.lst (acc ++ [v]))) acc' (blkData blk) ∧ upd Hd R (.lst (acc ++ [v])) Lf = some (.lst [.int l0', .int l1']) ∧ (∀ s ∈ blk, StaR g (· ∈ ws) (r + 1) s) ∧ ((sizeB blk : Nat) : Int) + l0' ≤ l0 ∧ 0 ≤ l0' ∧ (0 ≤ l1' ∧ l1' ≤ 200) ∧ times * wtB blk + l1' ≤ l1 ∧ blk.length ≤ j + 1 ∧
        [some (.ref D), some (.ref a), some (.ref Lf), some (.int (4 - (r : Int))), some (.int times), some (.ref R), some (.int (0 + (j : Int))), some (.int way), x8, x9, x10] = [some (.ref D), some (.ref a), some (.ref Lf), some (.int (4 - (r : Int))), some (.int times), some (.ref R), y6, y7, y8, y9, y10] := fun Hd v sta l0'' l1'' cd hDd gLd tdv ok hsz e0 e1 ew x8 x9 x10 => by
      have gRd := cd.kp _ _ nR3 gRb
      have c5 : Ch [R] Hd (upd Hd R (.lst (acc ++ [v]))) := (Ch.refl _ _).put (by simp) gRd (fun xs z => by cases z)
      refine ⟨chb.trans ((cd.mono (fun b hb => by simp at hb; rcases hb with rfl | rfl | rfl <;> simp)).trans (c5.mono (fun b hb => by simp at hb; simp [hb]))), hDd.kp c5.kp (by simp at nR' ⊢; exact Ne.symm nR'.1) (by simp at nR' ⊢; exact Ne.symm nR'.2), _, blk ++ [sta], l0'', l1'', _, _, _, _, _, upd_same, ?_, ?_, ?_, ?_, e0, e1, ?_, by rw [List.length_append]; exact Nat.succ_le_succ lb, rfl⟩
      · rw [blk_snoc]
        exact (TDs.ch c5 _ _ (TDs.ch cd _ _ tdb)).snoc (TD.ch c5 _ _ tdv)
      · rw [upd_ne nRL]
        exact gLd
      · intro s hs
        rcases List.mem_append.mp hs with hs | hs
        · exact hb s hs
        · rw [List.mem_singleton.mp hs]
          exact ok
      · rw [sizeB_snoc]
        push_cast
        omega
      · rw [wtB_snoc, Int.mul_add]
        omega
    clear no
    refine ⟨_, rfl, _, _, rfl, rfl, _, rfl, ite2 (fun hw => ?_) (fun hw => ?_)⟩
    · refine ⟨_, rfl, .inl ⟨rfl, _, SqL.of gRb⟩, .ref D, rfl, .ref a, rfl, D, L, a, _, g, ws, rfl, hDb, by omega, poolb, fun Hc v b kc hDc tdv bn => ?_⟩
      have cc := deck_ch hDb hDc kc
      exact ⟨R, acc, _, rfl, rfl, kc _ _ nR' gRb, lt_line (by omega), fin Hc v (.act b) z0 z1 (cc.mono (fun b hb => by simp at hb; rcases hb with rfl | rfl <;> simp)) (hDc.mono (by omega)) (kc _ _ nL gLb) tdv (by cases b <;> exact bn) (by show ((1 : Nat) : Int) + z0 ≤ l0'; omega) (by omega) (by omega) (by show times * 1 + z1 ≤ l1'; omega) _ _ _⟩
    refine ⟨_, rfl, rfl, _, rfl, ite2 (fun hw4 => ?_) (fun hw4 => ?_)⟩
    · refine ⟨.ref D, rfl, D, L, _, 13, rfl, hDb, by omega, by decide, by decide, fun Hc cnt kc hDc r0 r1 => ?_⟩
      have cc := deck_ch hDb hDc kc
      have gRc := kc _ _ nR' gRb
      have hmul : 0 ≤ times * cnt ∧ times * cnt ≤ 2400 := by
        have h2 : times * cnt ≤ 200 * 12 := Int.mul_le_mul (by omega) (by omega) r0 (by decide)
        exact ⟨Int.mul_nonneg b2.1 r0, by omega⟩
      refine ⟨_, rfl, .inl ⟨rfl, _, SqL.of gRc⟩, _, rfl, .ref D, rfl, .ref a, rfl, .ref Lf, rfl, _, rfl, _, rfl, _, rfl, _, _, rfl, rfl, .inl ⟨by omega, by omega⟩, D, L, a, Lf, _, g, z0, z1, times * cnt, ws, rfl, hDc, by omega, poolb.kp kc, kc _ _ nL gLb, nL, ⟨by omega, by omega⟩, ⟨by omega, by omega⟩, hmul, fun Hd t blk' l0'' l1'' cd hDd gLd tdt hbk hsz e0 e1 ew => ⟨line1000 (Nat.le_of_ble_eq_true rfl), fun t3 n3 => ?_⟩⟩
      have s3 := Same.up (o := HO.tup [V.str "repeat", V.int cnt, V.ref t]) n3
      have cbd : Ch [D, L, Lf] Hb (upd Hd t3 (.tup [.str "repeat", .int cnt, .ref t])) := (cc.mono (fun b hb => by simp at hb; rcases hb with rfl | rfl <;> simp)).trans (cd.trans (Ch.same s3))
      have hDe := hDd.kp (Kp.same (S := []) s3) (fun z => nomatch z) (fun z => nomatch z)
      have tdv : TD (upd Hd t3 (.tup [.str "repeat", .int cnt, .ref t])) (.ref t3) (Sta.rep cnt.toNat blk').data := by
        refine .tup upd_same (.cons (.str _) (.cons ?_ (.cons (TD.ch (Ch.same (S := []) s3) _ _ tdt) .nil)))
        rw [show V.int cnt = V.int ((cnt.toNat : Nat) : Int) by rw [Int.toNat_of_nonneg r0]]
        exact .int _
      exact ⟨R, acc, _, rfl, rfl, cbd.kp _ _ nR3 gRb, lt_line (by omega), fin _ _ (.rep cnt.toNat blk') l0'' l1'' cbd (hDe.mono (by omega)) (s3 _ _ gLd) tdv ⟨by omega, hbk⟩ (by show ((1 + sizeB blk' : Nat) : Int) + l0'' ≤ l0'; push_cast; omega) e0 e1 (by show times * (1 + ((cnt.toNat : Nat) : Int) * wtB blk') + l1'' ≤ l1'; rw [Int.toNat_of_nonneg r0, Int.mul_add, ← Int.mul_assoc]; omega) _ _ _⟩
    · refine ⟨.ref D, rfl, .ref a, rfl, D, L, a, _, g, ws, rfl, hDb, by omega, poolb, fun Hc v t kc hDc tdv tok => ?_⟩
      have cc := deck_ch hDb hDc kc
      refine ⟨.ref D, rfl, .ref a, rfl, .ref Lf, rfl, _, rfl, _, rfl, D, L, a, Lf, _, g, z0, z1, times, ws, rfl, hDc, by omega, poolb.kp kc, kc _ _ nL gLb, nL, ⟨by omega, by omega⟩, ⟨by omega, by omega⟩, b2, fun Hd ty by1 y0 y1 cd hDd gLd tdy hby hszy f0 f1 fw => ?_⟩
      have cbd : Ch [D, L, Lf] Hb Hd := (cc.mono (fun b hb => by simp at hb; rcases hb with rfl | rfl <;> simp)).trans cd
      have gRd := cbd.kp _ _ nR3 gRb
      have poold : PoolY Hd D L a g ws := poolb.kpL gLb cbd.kp
      refine ⟨_, _, rfl, _, rfl, .inl ⟨rfl, _, SqL.of gRd⟩, _, rfl, _, rfl, .ref D, rfl, .ref a, rfl, .ref Lf, rfl, _, rfl, _, rfl, D, L, a, Lf, _, g, y0, y1, times, ws, rfl, hDd, by omega, poold, gLd, nL, ⟨by omega, by omega⟩, f1, b2, fun He tn bn x0 x1 ce hDe gLe tdn hbn hszn h0' h1' hw' => ⟨line1000 (Nat.le_of_ble_eq_true rfl), fun t3 n3 => ?_⟩⟩
      have s3 := Same.up (o := HO.tup [V.str "if", v, V.ref ty, V.ref tn]) n3
      have cbe : Ch [D, L, Lf] Hb (upd He t3 (.tup [.str "if", v, .ref ty, .ref tn])) := cbd.trans (ce.trans (Ch.same s3))
      have hDf := hDe.kp (Kp.same (S := []) s3) (fun z => nomatch z) (fun z => nomatch z)
      have cde : Ch [D, L, Lf] Hd (upd He t3 (.tup [.str "if", v, .ref ty, .ref tn])) := ce.trans (Ch.same s3)
      have tdv' : TD (upd He t3 (.tup [.str "if", v, .ref ty, .ref tn])) (.ref t3) (Sta.cond t by1 bn).data :=
        .tup upd_same (.cons (.str _) (.cons (TD.ch cde _ _ (TD.ch cd _ _ tdv)) (.cons (TD.ch cde _ _ tdy) (.cons (TD.ch (Ch.same (S := []) s3) _ _ tdn) .nil))))
      exact ⟨R, acc, _, rfl, rfl, cbe.kp _ _ nR3 gRb, lt_line (by omega), fin _ _ (.cond t by1 bn) x0 x1 cbe (hDf.mono (by omega)) (s3 _ _ gLe) tdv' ⟨tok, hby, hbn⟩ (by show ((1 + (sizeB by1 + sizeB bn) : Nat) : Int) + x0 ≤ l0'; push_cast; omega) h0' h1' (by show times * (1 + (wtB by1 + wtB bn)) + x1 ≤ l1'; rw [Int.mul_add, Int.mul_add]; omega) _ _ _⟩
  · rintro σ H' ⟨ch, hD', acc, blk, l0', l1', x6, x7, x8, x9, x10, gR, td, gL', hb, hs, c0, c1, wb, lb, rfl⟩
    have hm30 : m.toNat * C ≤ 30 * C := Nat.mul_le_mul_right C (by omega)
    refine ⟨_, rfl, R, _, rfl, .inl ⟨SqL.of gR, fun t nt => ?_⟩⟩
    have sE := Same.up (o := HO.tup acc) nt
    have cE : Ch [D, L, Lf] H (upd H' t (.tup acc)) := by
      have c : Ch [D, L, Lf, R] H (upd H' t (.tup acc)) := (Ch.same s1).trans (ch.trans (Ch.same sE))
      exact c.lessS fun b hb => by
        simp at hb
        rcases hb with rfl | rfl | rfl | rfl
        · exact .inl (by simp)
        · exact .inl (by simp)
        · exact .inl (by simp)
        · exact .inr nR
    exact q _ t blk l0' l1' cE ((hD'.kp (Kp.same (S := []) sE) (fun z => nomatch z) (fun z => nomatch z)).mono (by omega)) (sE _ _ gL') (.tup upd_same (TDs.ch (Ch.same (S := []) sE) _ _ td)) hb hs c0 c1 wb
end
end G

set_option Elab.async false
set_option linter.all false
set_option maxRecDepth 100000
set_option maxHeartbeats 4000000
/-! _law_free. -/
namespace G
open PySem PySem.Spec PyProof.Rows L2
section
variable {P : Program} {w : World} {K : PySem.W.Frag} {mg : Str → Option Value} {base : Heap}
/-- the rows at depth 0, from the other defs -/
theorem rows_all {f1 f2 f3 f4 fR fI : Addr} {fd1 fd2 fd3 fd4 dR dI : FuncData} (T : Bi mg) (z_tuple : mg "tuple" = none)
    (D1 : Df K mg "_law_draw" s__law_draw ["_law_deck_here", "_law_many"] f1 fd1) (G1 : FnOk P w K mg base CX0 1 f1 fd1 ["_law_deck_here", "_law_many"] spDraw)
    (D2 : Df K mg "_law_one" s__law_one ["_law_deck_here", "_law_items"] f2 fd2) (G2 : FnOk P w K mg base CX0 2 f2 fd2 ["_law_deck_here", "_law_items"] (spOne K))
    (D3 : Df K mg "_law_any_test" s__law_any_test ["_law_deck_here", "_law_pool_here"] f3 fd3) (G3 : FnOk P w K mg base CX0 3 f3 fd3 ["_law_deck_here", "_law_pool_here"] spTestY)
    (D4 : Df K mg "_law_row" s__law_row ["_law_deck_here", "_law_pool_here"] f4 fd4) (G4 : FnOk P w K mg base CX0 4 f4 fd4 ["_law_deck_here", "_law_pool_here"] spRowY)
    (DR : Df K mg "_law_rows" s__law_rows p__law_rows fR dR) (DI : Df K mg "_law_inner" s__law_inner p__law_rows fI dI) : FnOk P w K mg base CX0 14 fR dR p__law_rows (spBl 0 (cI 5) 5) := by
  have I0 := ok_inner0 (P := P) (w := w) (mg := mg) (base := base) DI.F
  have R0 := ok_rows (r := 0) (by decide) DR.F T z_tuple D1 G1 D2 G2 D3 G3 D4 G4 DI.m DI.F.kp DI.b (by decide) I0
  have I1 := ok_innerS (r := 0) (by decide) DI.F DR.m DR.F.kp DR.b R0
  have R1 := ok_rows (r := 1) (by decide) DR.F T z_tuple D1 G1 D2 G2 D3 G3 D4 G4 DI.m DI.F.kp DI.b (by decide) I1
  have I2 := ok_innerS (r := 1) (by decide) DI.F DR.m DR.F.kp DR.b R1
  have R2 := ok_rows (r := 2) (by decide) DR.F T z_tuple D1 G1 D2 G2 D3 G3 D4 G4 DI.m DI.F.kp DI.b (by decide) I2
  have I3 := ok_innerS (r := 2) (by decide) DI.F DR.m DR.F.kp DR.b R2
  have R3 := ok_rows (r := 3) (by decide) DR.F T z_tuple D1 G1 D2 G2 D3 G3 D4 G4 DI.m DI.F.kp DI.b (by decide) I3
  have I4 := ok_innerS (r := 3) (by decide) DI.F DR.m DR.F.kp DR.b R3
  exact ok_rows (r := 4) (by decide) DR.F T z_tuple D1 G1 D2 G2 D3 G3 D4 G4 DI.m DI.F.kp DI.b (by decide) I4
abbrev s__law_free : Stmt := top 53
abbrev n__law_free : List Str := ["_law_deck_here", "_law_most", "_law_pool_here"]
theorem sc__law_free : FnScope n__law_free ["_law_deck_here", "_law_most"] (defScope s__law_free) := ⟨rfl, rfl, rfl, by decide +kernel, rfl, by decide +kernel, by decide +kernel⟩
/-- a program and its pool -/
def spFree : Sp := fun vs H Q _ => ∃ (D L : Addr) (n : Nat) (most : Int), vs = [.ref D, .int most] ∧ Deck H D L n ∧ n < 8 * 10 ^ 10 ∧ (0 ≤ most ∧ most ≤ 31) ∧
  ∀ (H' : Hp) (t p a : Addr) (g : Int) (blk : List Sta) (ws : List Str), Kp [D, L] H H' → Deck H' D L (n + 9 * 10 ^ 9) → H' t = some (.tup [.ref p, .ref a]) → TD H' (.ref p) (.tuple [.int g, .tuple (blkData blk)]) → (0 ≤ g ∧ g < 4) → (∀ s ∈ blk, StaR g (· ∈ ws) 5 s) → ((sizeB blk : Nat) : Int) ≤ most → wtB blk ≤ 200 → PoolY H' D L a g ws → Q (.ref t) H'
theorem ok_free {f fP fR : Addr} {fd dP dR : FuncData} (F : Fun K "_law_free" "_law_free" s__law_free f fd)
    (DP : Df K mg "_law_pool" s__law_pool ["_law_deck_here"] fP dP) (GP : FnOk P w K mg base CX0 4 fP dP ["_law_deck_here"] spPoolY)
    (DR : Df K mg "_law_rows" s__law_rows p__law_rows fR dR) (GR : FnOk P w K mg base CX0 14 fR dR p__law_rows (spBl 0 (cI 5) 5)) : FnOk P w K mg base CX0 15 f fd ["_law_deck_here", "_law_most"] spFree := by
  refine F.ok sc__law_free (fun vs H Q E ⟨D, L, n, most, ev, _⟩ => by rw [ev]; rfl) (fun cdv A outer s H vs Q E hr ⟨D, L, n, most, ev, hD, hn, hm, q⟩ => ?_)
  subst ev
  have hr4 : Room 4 _ := hr.mono (by decide)
  refine ⟨_, (pss_cons (ps_set (i := 2) sc__law_free.nd rfl (.inl rfl) (pe_call GP hr4 (by rfl) DP.m DP.F.kp DP.b .nil pass0 (pa_cons (pv 0) pa_nil)))
      (pss_one (ps_ret (pe_tup (pa_cons (pe_tup (pa_cons (pe_ix ix_list (pv 2) pe_int (fun _ _ => rfl)) (pa_cons (pe_call GR hr (by rfl) DR.m DR.F.kp DR.b .nil pass0 (pa_cons (pv 0) (pa_cons (pv 2) (pa_cons (pe_lst (pa_cons (pv 1) (pa_cons pe_int pa_nil))) (pa_cons pe_int (pa_cons pe_int pa_nil)))))) pa_nil))) (pa_cons (pv 2) pa_nil)))))), ?_⟩
  have e5 : cI 5 = 8342725413 := by decide
  refine ⟨.ref D, rfl, D, L, n, rfl, hD, by omega, fun H1 a g ws k1 hD1 hp => ?_⟩
  obtain ⟨N, Wd, ns, ga, gN, gW, hN, hW, lN, lW, hg, na, neN, neW⟩ := id hp
  refine ⟨_, rfl, a, _, _, _, rfl, rfl, SqL.of ga, atI_nat (j := 2) rfl, ?_⟩
  refine ⟨.ref D, rfl, .ref a, rfl, _, rfl, line1000 (Nat.le_of_ble_eq_true rfl), fun l nl => ?_⟩
  have s2 := Same.up (o := HO.lst [V.int most, V.int 200]) nl
  have gl : upd H1 l (HO.lst [V.int most, V.int 200]) l = some (.lst [V.int most, V.int 200]) := upd_same
  have nl' : l ∉ [D, L] := by simpa using hD1.neD nl
  have hD2 := hD1.kp (Kp.same (S := []) s2) (fun z => nomatch z) (fun z => nomatch z)
  have hp2 := hp.kp (Kp.same s2)
  generalize upd H1 l (HO.lst [V.int most, V.int 200]) = H2 at s2 gl hD2 hp2 ⊢
  refine ⟨D, L, a, l, _, g, most, 200, 1, ws, rfl, hD2, by rw [e5]; omega, hp2, gl, nl', hm, ⟨by decide, by decide⟩, ⟨by decide, by decide⟩, fun H3 t blk l0' l1' c3 hD3 gl3 tdt hok hsz h0 h1 hw => ⟨line1000 (Nat.le_of_ble_eq_true rfl), fun p np => ⟨_, rfl, line1000 (Nat.le_of_ble_eq_true rfl), fun tt ntt => ?_⟩⟩⟩
  have sP := Same.up (o := HO.tup [V.int g, V.ref t]) np
  have sT := Same.up (o := HO.tup [V.ref p, V.ref a]) ntt
  have sPT := Same.trans sP sT
  have hp3 : PoolY H3 D L a g ws := hp2.kpL gl c3.kp
  have nlH : H l = none := k1.none_of nl nl'
  have k13 : Kp [D, L] H H3 := Kp.fresh (p := l) ((k1.mono (T := [l, D, L]) (fun b hb => List.mem_cons_of_mem _ hb)).trans ((Kp.same s2).trans (c3.kp.mono (fun b hb => by simp at hb ⊢; rcases hb with rfl | rfl | rfl <;> simp)))) nlH
  refine q _ tt p a g blk ws (k13.trans (Kp.same sPT)) ((hD3.kp (Kp.same (S := []) sPT) (fun z => nomatch z) (fun z => nomatch z)).mono (by rw [e5]; omega)) upd_same (.tup (sT _ _ upd_same) (.cons (.int g) (.cons (TD.ch (Ch.same (S := []) sPT) _ _ tdt) .nil))) hg hok (by omega) (by omega) (hp3.kp (Kp.same sPT))
end
end G

set_option Elab.async false
set_option linter.all false
set_option maxRecDepth 100000
set_option maxHeartbeats 8000000
/-! Rows that are wrong. Written by mkY6.py. -/
namespace G
open PySem PySem.Spec PyProof.Rows L2 StX RZ
def emptyT : PyData → Bool
  | .tuple l => l.isEmpty
  | _ => true
def wrOk : PyData → Bool
  | .tuple (.str w :: _ :: y :: r) => !(blkW w) || (y :: r).all emptyT
  | .tuple (_ :: _ :: _ :: _) => false
  | _ => true
def lnOk : PyData → Bool
  | .tuple l => Nat.ble l.length 1000
  | _ => true
def wrL (d : PyData) : Bool := wrOk d && lnOk d
theorem wrL_ok {d : PyData} (h : wrL d = true) : wrOk d = true ∧ ∀ l, d = .tuple l → l.length ≤ 1000 := by
  obtain ⟨a, b⟩ := Bool.and_eq_true_iff.mp h
  exact ⟨a, fun l e => by rw [e] at b; exact Nat.le_of_ble_eq_true b⟩
theorem wr_no0 (z : String) (r : List PyData) (h : blkW (Str.ofString z) = false) : wrOk (.tuple (.str z :: r)) = true := by
  match r with
  | [] => rfl
  | [_] => rfl
  | _ :: y :: r =>
    show (!(blkW (Str.ofString z)) || (y :: r).all emptyT) = true
    rw [h]; rfl
theorem wr_all0 {w : Str} {x y : PyData} {r : List PyData} (h : (y :: r).all emptyT = true) : wrOk (.tuple (.str w :: x :: y :: r)) = true := by
  show (!(blkW w) || (y :: r).all emptyT) = true
  rw [h, Bool.or_true]
theorem wr_no (z : String) (r : List PyData) (h : blkW (Str.ofString z) = false) (l : Nat.ble (r.length + 1) 1000 = true) : wrL (.tuple (.str z :: r)) = true := Bool.and_eq_true_iff.mpr ⟨wr_no0 z r h, l⟩
theorem wr_all {w : Str} {x y : PyData} {r : List PyData} (h : (y :: r).all emptyT = true) (l : Nat.ble (r.length + 3) 1000 = true) : wrL (.tuple (.str w :: x :: y :: r)) = true := Bool.and_eq_true_iff.mpr ⟨wr_all0 h, l⟩
def AF (g : Int) : List PyData → Prop
  | [] => True
  | d :: ds => isStmt d g = false ∧ wrL d = true ∧ AF g ds
theorem AF.app {g : Int} {b : List PyData} : ∀ {a : List PyData}, AF g a → AF g b → AF g (a ++ b)
  | [], _, h => h
  | _ :: _, h1, h2 => ⟨h1.1, h1.2.1, AF.app h1.2.2 h2⟩
theorem AF.mem {g : Int} {d : PyData} : ∀ {a : List PyData}, AF g a → d ∈ a → isStmt d g = false ∧ wrL d = true
  | e :: a, h, m => by
    rcases List.mem_cons.mp m with rfl | m
    · exact ⟨h.1, h.2.1⟩
    · exact AF.mem h.2.2 m
def GB (D L : Addr) (g : Int) (H : Hp) (xs : List V) : Prop := ∃ ds, GVs (FD D L) H xs ds ∧ AF g ds
theorem GB.same {D L : Addr} {g : Int} {H H' : Hp} {xs : List V} (h : GB D L g H xs) (s : Same H H') : GB D L g H' xs := by
  obtain ⟨ds, a, b⟩ := h
  exact ⟨ds, a.same s, b⟩
theorem GB.app {D L : Addr} {g : Int} {H : Hp} {xs ys : List V} (h : GB D L g H xs) (h2 : GB D L g H ys) : GB D L g H (xs ++ ys) := by
  obtain ⟨ds, a, b⟩ := h
  obtain ⟨es, c, e⟩ := h2
  exact ⟨_, a.append c, b.app e⟩
theorem one_gb {K : PySem.W.Frag} {D L A : Addr} {g : Int} {H : Hp} {xs : List V} {i : Nat} (d : Deck H D L i) (hm : i < 10 ^ 12) (gA : H A = some (.lst xs)) (gx : GB D L g H xs) (na : A ∉ [D, L]) (l0 : 0 < xs.length) (l1 : xs.length ≤ 1000) {Q' : VK}
    (h : ∀ H' y e, Kp [D, L] H H' → Deck H' D L (i + 1) → GV (FD D L) H' y e → isStmt e g = false ∧ wrL e = true → Q' y H') : spOne K [.ref D, .ref A] H Q' E0 := by
  obtain ⟨ds, gs, w⟩ := gx
  refine ⟨D, L, i, _, rfl, d, hm, .inl ⟨A, _, rfl, .inl ⟨SqL.of gA, na⟩, l0, l1, fun H' y k' d' hy => ?_⟩⟩
  obtain ⟨e, he, t⟩ := (gs.kd d d' k').mem hy
  exact h H' y e k' d' t (w.mem he)
theorem fit_no {ck : Ck → PyData → Int → Bool} {cks : List Ck} {r : List PyData} {g : Int} {i : Nat} {c : Ck} {d : PyData} (h1 : cks[i]? = some c) (h2 : r[i]? = some d) (h3 : ck c d g = false) : fitW ck cks r g = false := by
  unfold fitW
  have hz : (List.zipWith (fun c d => ck c d g) cks r)[i]? = some false := by
    rw [List.getElem?_zipWith, h1, h2]
    show some (ck c d g) = _
    rw [h3]
  have ha : (List.zipWith (fun c d => ck c d g) cks r).all id = false := by
    cases e : (List.zipWith (fun c d => ck c d g) cks r).all id with
    | false => rfl
    | true => exact absurd (List.all_eq_true.mp e false (List.mem_of_getElem? hz)) Bool.false_ne_true
  rw [ha, Bool.and_false]
theorem st_len (z : String) (cks : List Ck) (r : List PyData) (g : Int) (h : stmtT (Str.ofString z) = some cks) (l : r.length ≠ cks.length) : isStmt (.tuple (.str z :: r)) g = false := by
  rw [sU_str, h]
  show (decide (r.length = cks.length) && _) = false
  rw [decide_eq_false l]
  rfl
theorem st_part (z : String) (cks : List Ck) (r : List PyData) (g : Int) (h : stmtT (Str.ofString z) = some cks) (i : Nat) (c : Ck) (d : PyData) (h1 : cks[i]? = some c) (h2 : r[i]? = some d) (h3 : ckB c d g = false) : isStmt (.tuple (.str z :: r)) g = false := by
  rw [sU_str, h]
  exact fit_no h1 h2 h3
theorem st_word (z : String) (r : List PyData) (g : Int) (h : stmtT (Str.ofString z) = none) : isStmt (.tuple (.str z :: r)) g = false := by
  rw [sU_str, h]
theorem test_str (x : Str) (g : Int) : ckB .test (.str x) g = false := by
  show isTest (.str x) g = false
  rw [isTest_U, unN_base.unN_same _ (by intro h; cases h) 3]
  exact tU_0 rfl
theorem test_given (g : Int) : ckB .test (.tuple [.str "given", .int g]) g = false := by
  show isTest (.tuple (.str "given" :: [.int g])) g = false
  rw [isTest_U, unN_base.unN_same _ (by show some (Str.ofString "given") ≠ _; decide +kernel) 3, tU_given]
  show (true && (decide ((0 : Int) ≤ g) && decide (g ≤ g - 1))) = false
  rw [decide_eq_false (by omega : ¬ g ≤ g - 1), Bool.and_false]
  rfl
theorem test_set (g : Int) : ckB .test (.tuple [.str "set"]) g = false := by
  show isTest (.tuple [.str "set"]) g = false
  rw [isTest_U, unN_base.unN_same _ (by show some (Str.ofString "set") ≠ _; decide +kernel) 3]
  exact tU_short (by decide)
theorem deep_not : ∀ (j : Nat) (t : Tst), j < t.depth → ∃ t', unN t.data j = (Tst.not t').data
  | 0, .not t, _ => ⟨t, rfl⟩
  | j + 1, .not t, h => by
    rw [unN_in, unNot_not]
    exact deep_not j t (Nat.lt_of_succ_lt_succ h)
  | 0, .given _, h => absurd h (Nat.lt_irrefl _)
  | 0, .set _, h => absurd h (Nat.lt_irrefl _)
  | 0, .same _ _, h => absurd h (Nat.lt_irrefl _)
  | 0, .full _ _, h => absurd h (Nat.lt_irrefl _)
  | 0, .wished _, h => absurd h (Nat.lt_irrefl _)
  | j + 1, .given _, h => absurd h (Nat.not_lt_zero _)
  | j + 1, .set _, h => absurd h (Nat.not_lt_zero _)
  | j + 1, .same _ _, h => absurd h (Nat.not_lt_zero _)
  | j + 1, .full _ _, h => absurd h (Nat.not_lt_zero _)
  | j + 1, .wished _, h => absurd h (Nat.not_lt_zero _)
theorem test_deep {t : Tst} {g : Int} (h : t.depth = 4) : ckB .test t.data g = false := by
  show isTest t.data g = false
  obtain ⟨t', e⟩ := deep_not 3 t (by omega)
  rw [isTest_U, e]
  show isTestU (.tuple (.str "not" :: [t'.data])) g = false
  rw [tU_str, show plainT (Str.ofString "not") = none by decide +kernel]
theorem name_us (w : Str) {g : Int} : ckB .name (.str (w ++ Str.ofString "_")) g = false := by
  show nameB (w ++ Str.ofString "_") = false
  unfold nameB
  rw [cps_app, List.all_append, show (Str.ofString "_").cps.toList.all sgnB = false by decide +kernel, Bool.and_false, Bool.and_false, Bool.and_false]
theorem name_long (x : Str) {g : Int} : ckB .name (.str (x ++ Str.ofString "234567890")) g = false := by
  show nameB (x ++ Str.ofString "234567890") = false
  have e : (Str.ofString "234567890").length = 9 := by decide +kernel
  unfold nameB len18
  rw [decide_eq_false (by rw [strLen_append]; omega : ¬ (x ++ Str.ofString "234567890").length ≤ 8), Bool.and_false]
  rfl
theorem name_len {x : Str} (h : nameB x = true) : x.length ≤ 8 := by
  unfold nameB len18 at h
  exact of_decide_eq_true (Bool.and_eq_true_iff.mp (Bool.and_eq_true_iff.mp h).1).2
theorem word_len {x : Str} (h : wordB x = true) : x.length ≤ 8 := by
  unfold wordB len18 at h
  exact of_decide_eq_true (Bool.and_eq_true_iff.mp (Bool.and_eq_true_iff.mp h).1).2
section
variable {P : Program} {w : World} {K : PySem.W.Frag} {mg : Str → Option Value} {base : Heap} {RV : Addr}
abbrev s__law_wrong_row : Stmt := top 57
abbrev n__law_wrong_row : List Str := ["_law_deck_here", "_law_pool_here", "_law_x", "_law_word_here", "_law_n", "_law_some", "_law_deep", "_law_k"]
theorem sc__law_wrong_row : FnScope n__law_wrong_row ["_law_deck_here", "_law_pool_here"] (defScope s__law_wrong_row) := ⟨rfl, rfl, rfl, by decide +kernel, rfl, by decide +kernel, by decide +kernel⟩
def spWrong : Sp := fun vs H Q _ => ∃ (D L a : Addr) (n : Nat) (g : Int) (ws : List Str), vs = [.ref D, .ref a] ∧ Deck H D L n ∧ n < 10 ^ 11 ∧ PoolY H D L a g ws ∧ ∀ (H' : Hp) (v : V) (d : PyData), Kp [D, L] H H' → Deck H' D L (n + 3) → GV (FD D L) H' v d → isStmt d g = false ∧ wrL d = true → Q v H'
theorem ok_wrong_row {f f2 : Addr} {fd fd2 : FuncData} (F : Fun K "_law_wrong_row" "_law_wrong_row" s__law_wrong_row f fd) (T : Bi mg)
    (D2 : Df K mg "_law_one" s__law_one ["_law_deck_here", "_law_items"] f2 fd2) (G2 : FnOk P w K mg base CX0 2 f2 fd2 ["_law_deck_here", "_law_items"] (spOne K)) : FnOk P w K mg base CX0 3 f fd ["_law_deck_here", "_law_pool_here"] spWrong := by
  refine F.ok sc__law_wrong_row (fun vs H Q E ⟨D, L, a, n, g, ws, ev, _⟩ => by rw [ev]; rfl) (fun cdv A outer s H vs Q E hr ⟨D, L, a, n, g, ws, ev, hD, hn, hp, q⟩ => ?_)
  subst ev
  refine ⟨_, (pss_cons (ps_par3 (i := 2) (j := 3) (l := 4) (by rfl) sc__law_wrong_row.nd rfl rfl rfl (by decide) (by decide) (by decide) rfl rfl rfl (pa_cons (pe_call G2 hr (by rfl) D2.m D2.F.kp D2.b .nil pass0 (pa_cons (pv 0) (pa_cons (pe_ix ix_list (pv 1) pe_int (fun _ _ => rfl)) pa_nil))) (pa_cons (pe_call G2 hr (by rfl) D2.m D2.F.kp D2.b .nil pass0 (pa_cons (pv 0) (pa_cons (pe_ix ix_list (pv 1) pe_int (fun _ _ => rfl)) pa_nil))) (pa_cons (pe_ix ix_list (pv 1) pe_int (fun _ _ => rfl)) pa_nil))) (by rfl))
      (pss_cons (ps_set (i := 5) sc__law_wrong_row.nd rfl (.inl rfl) (pe_lst (pa_cons (pe_tup (pa_cons pe_str pa_nil)) (pa_cons (pe_tup (pa_cons pe_str (pa_cons (pv 2) (pa_cons (pv 2) pa_nil)))) (pa_cons (pe_tup (pa_cons pe_str (pa_cons pe_str pa_nil))) (pa_cons (pe_tup (pa_cons pe_str (pa_cons (pv 2) (pa_cons pe_str pa_nil)))) (pa_cons (pe_tup (pa_cons pe_str (pa_cons (pv 2) pa_nil))) (pa_cons (pe_tup (pa_cons pe_str (pa_cons (pv 2) pa_nil))) (pa_cons (pe_tup (pa_cons pe_str (pa_cons pe_str pa_nil))) pa_nil)))))))))
      (pss_cons (ps_set (i := 5) sc__law_wrong_row.nd rfl (.inl rfl) (pe_op op_cat (pv 5) (pe_lst (pa_cons (pe_tup (pa_cons pe_str (pa_cons (pv 2) (pa_cons pe_str (pa_cons (pv 2) pa_nil))))) (pa_cons (pe_tup (pa_cons pe_str (pa_cons (pv 2) (pa_cons (pv 2) pa_nil)))) (pa_cons (pe_tup (pa_cons pe_str (pa_cons (pv 2) (pa_cons pe_int pa_nil)))) (pa_cons (pe_tup (pa_cons pe_str (pa_cons (pv 2) (pa_cons (pv 2) (pa_cons pe_non pa_nil))))) (pa_cons (pe_tup (pa_cons pe_str (pa_cons pe_str pa_nil))) (pa_cons pe_str pa_nil)))))))))
      (pss_cons (ps_set (i := 5) sc__law_wrong_row.nd rfl (.inl rfl) (pe_op op_cat (pv 5) (pe_lst (pa_cons (pe_tup (pa_cons pe_str (pa_cons (pe_lst (pa_cons (pv 3) pa_nil)) pa_nil))) (pa_cons (pe_tup (pa_cons pe_str (pa_cons (pv 2) pa_nil))) (pa_cons (pe_tup (pa_cons pe_str (pa_cons (pe_tup (pa_cons pe_str (pa_cons (pv 4) pa_nil))) pa_nil))) (pa_cons (pe_tup (pa_cons pe_str (pa_cons (pe_tup (pa_cons pe_str pa_nil)) pa_nil))) (pa_cons (pe_tup (pa_cons pe_str (pa_cons (pe_tup (pa_cons pe_str (pa_cons (pv 2) pa_nil))) (pa_cons (pe_tup pa_nil) pa_nil)))) (pa_cons pe_int pa_nil)))))))))
      (pss_cons (ps_set (i := 5) sc__law_wrong_row.nd rfl (.inl rfl) (pe_op op_cat (pv 5) (pe_lst (pa_cons (pe_tup (pa_cons pe_str (pa_cons (pe_tup (pa_cons pe_str (pa_cons (pv 2) pa_nil))) (pa_cons (pe_lst pa_nil) (pa_cons (pe_tup pa_nil) pa_nil))))) (pa_cons (pe_tup (pa_cons pe_str (pa_cons pe_int (pa_cons (pe_tup pa_nil) pa_nil)))) (pa_cons (pe_tup (pa_cons pe_str (pa_cons (pe_un un_neg pe_int) (pa_cons (pe_tup pa_nil) pa_nil)))) (pa_cons (pe_tup (pa_cons pe_str (pa_cons pe_bl (pa_cons (pe_tup pa_nil) pa_nil)))) (pa_cons (pe_tup pa_nil) (pa_cons (pe_lst pa_nil) pa_nil)))))))))
      (pss_cons (ps_set (i := 6) sc__law_wrong_row.nd rfl (.inl rfl) (pe_tup (pa_cons pe_str (pa_cons (pv 2) pa_nil))))
      (pss_cons (ps_for PassesOwn.never rfl (pi_range1 (by rfl) T.z_range (pa_cons pe_int pa_nil)) (pg_name (i := 7) sc__law_wrong_row.nd rfl (.inl rfl))
      (pss_one (ps_set (i := 6) sc__law_wrong_row.nd rfl (.inl rfl) (pe_tup (pa_cons pe_str (pa_cons (pv 6) pa_nil))))))
      (pss_cons (ps_set (i := 5) sc__law_wrong_row.nd rfl (.inl rfl) (pe_op op_cat (pv 5) (pe_lst (pa_cons (pe_tup (pa_cons pe_str (pa_cons (pv 6) pa_nil))) (pa_cons (pe_tup (pa_cons pe_str (pa_cons (pe_op op_add_str (pv 3) pe_str) pa_nil))) (pa_cons (pe_tup (pa_cons pe_str (pa_cons (pe_op op_add_str (pv 2) pe_str) pa_nil))) (pa_cons (pe_tup (pa_cons pe_dnewK (pa_cons (pv 2) pa_nil))) (pa_cons pe_dnewK (pa_cons (pe_tup (pa_cons (pe_lst (pa_cons pe_str pa_nil)) (pa_cons (pv 3) pa_nil))) (pa_cons (pv 2) pa_nil))))))))))
      (pss_one (ps_ret (pe_call G2 hr (by rfl) D2.m D2.F.kp D2.b .nil pass0 (pa_cons (pv 0) (pa_cons (pe_op op_cat (pv 5) (pe_lst (pa_cons (pe_tup (pa_cons pe_str (pa_cons pe_int pa_nil))) (pa_cons (pe_tup (pa_cons pe_str pa_nil)) (pa_cons pe_non pa_nil))))) pa_nil))))))))))))), ?_⟩
  obtain ⟨N, Wd, ns, ga, gN, gW, hN, hW, lN, lW, ⟨g0, g4⟩, na, neN, neW⟩ := id hp
  refine ⟨.ref D, rfl, _, rfl, a, _, _, _, rfl, rfl, SqL.of ga, atI_nat (j := 0) rfl, one_p hD (by omega) gN neN lN.1 lN.2 hN fun H1 x k1 hD1 hx => ?_⟩
  refine ⟨.ref D, rfl, _, rfl, a, _, _, _, rfl, rfl, SqL.of (k1 _ _ na ga), atI_nat (j := 1) rfl, one_p hD1 (by omega) (k1 _ _ neW gW) neW lW.1 (by omega) hW fun H3 wd k2 hD2 hw => ?_⟩
  have kP := k1.trans k2
  refine ⟨_, rfl, a, _, _, _, rfl, rfl, SqL.of (kP _ _ na ga), atI_nat (j := 2) rfl, _, _, _, rfl, ?_⟩
  have lx8 := name_len hx
  have lw8 := word_len hw
  have lx : x.length ≤ 1000 := by omega
  have lw : wd.length ≤ 1000 := by omega
  have lxs : (x ++ Str.ofString "234567890").length ≤ 1000 := by rw [strLen_append, show (Str.ofString "234567890").length = 9 by decide +kernel]; omega
  have lws : (wd ++ Str.ofString "_").length ≤ 1000 := by rw [strLen_append, show (Str.ofString "_").length = 1 by decide +kernel]; omega
  have lxs' : x.length + (Str.ofString "234567890").length ≤ 1000 := by rw [show (Str.ofString "234567890").length = 9 by decide +kernel]; omega
  have lws' : wd.length + (Str.ofString "_").length ≤ 1000 := by rw [show (Str.ofString "_").length = 1 by decide +kernel]; omega
  have hDk : Deck H3 D L (n + 2) := hD2
  clear hD1 hD2 k1 k2 gN gW ga
  have d0 := hDk
  refine ⟨line1000 (Nat.le_of_ble_eq_true rfl), fun p4 n4 => ?_⟩
  have s4 := Same.up (o := HO.tup [V.str "make"]) n4
  have g4 : upd H3 p4 (HO.tup [V.str "make"]) p4 = some (HO.tup [V.str "make"]) := upd_same
  generalize upd H3 p4 (HO.tup [V.str "make"]) = H4 at s4 g4 ⊢
  refine ⟨_, rfl, _, rfl, line1000 (Nat.le_of_ble_eq_true rfl), fun p5 n5 => ?_⟩
  have s5 := Same.up (o := HO.tup [V.str "make", V.str x, V.str x]) n5
  have g5 : upd H4 p5 (HO.tup [V.str "make", V.str x, V.str x]) p5 = some (HO.tup [V.str "make", V.str x, V.str x]) := upd_same
  generalize upd H4 p5 (HO.tup [V.str "make", V.str x, V.str x]) = H5 at s5 g5 ⊢
  refine ⟨line1000 (Nat.le_of_ble_eq_true rfl), fun p6 n6 => ?_⟩
  have s6 := Same.up (o := HO.tup [V.str "make", V.str "Make"]) n6
  have g6 : upd H5 p6 (HO.tup [V.str "make", V.str "Make"]) p6 = some (HO.tup [V.str "make", V.str "Make"]) := upd_same
  generalize upd H5 p6 (HO.tup [V.str "make", V.str "Make"]) = H6 at s6 g6 ⊢
  refine ⟨_, rfl, line1000 (Nat.le_of_ble_eq_true rfl), fun p7 n7 => ?_⟩
  have s7 := Same.up (o := HO.tup [V.str "wish", V.str x, V.str ""]) n7
  have g7 : upd H6 p7 (HO.tup [V.str "wish", V.str x, V.str ""]) p7 = some (HO.tup [V.str "wish", V.str x, V.str ""]) := upd_same
  generalize upd H6 p7 (HO.tup [V.str "wish", V.str x, V.str ""]) = H7 at s7 g7 ⊢
  refine ⟨_, rfl, line1000 (Nat.le_of_ble_eq_true rfl), fun p8 n8 => ?_⟩
  have s8 := Same.up (o := HO.tup [V.str "wish", V.str x]) n8
  have g8 : upd H7 p8 (HO.tup [V.str "wish", V.str x]) p8 = some (HO.tup [V.str "wish", V.str x]) := upd_same
  generalize upd H7 p8 (HO.tup [V.str "wish", V.str x]) = H8 at s8 g8 ⊢
  refine ⟨_, rfl, line1000 (Nat.le_of_ble_eq_true rfl), fun p9 n9 => ?_⟩
  have s9 := Same.up (o := HO.tup [V.str "name", V.str x]) n9
  have g9 : upd H8 p9 (HO.tup [V.str "name", V.str x]) p9 = some (HO.tup [V.str "name", V.str x]) := upd_same
  generalize upd H8 p9 (HO.tup [V.str "name", V.str x]) = H9 at s9 g9 ⊢
  refine ⟨line1000 (Nat.le_of_ble_eq_true rfl), fun p10 n10 => ?_⟩
  have s10 := Same.up (o := HO.tup [V.str "drop", V.str "drop"]) n10
  have g10 : upd H9 p10 (HO.tup [V.str "drop", V.str "drop"]) p10 = some (HO.tup [V.str "drop", V.str "drop"]) := upd_same
  generalize upd H9 p10 (HO.tup [V.str "drop", V.str "drop"]) = H10 at s10 g10 ⊢
  refine ⟨line1000 (Nat.le_of_ble_eq_true rfl), fun p11 n11 => ?_⟩
  have s11 := Same.up (o := HO.lst [V.ref p4, V.ref p5, V.ref p6, V.ref p7, V.ref p8, V.ref p9, V.ref p10]) n11
  have g11 : upd H10 p11 (HO.lst [V.ref p4, V.ref p5, V.ref p6, V.ref p7, V.ref p8, V.ref p9, V.ref p10]) p11 = some (HO.lst [V.ref p4, V.ref p5, V.ref p6, V.ref p7, V.ref p8, V.ref p9, V.ref p10]) := upd_same
  generalize upd H10 p11 (HO.lst [V.ref p4, V.ref p5, V.ref p6, V.ref p7, V.ref p8, V.ref p9, V.ref p10]) = H11 at s11 g11 ⊢
  have gb0 : GB D L g H11 [V.ref p4, V.ref p5, V.ref p6, V.ref p7, V.ref p8, V.ref p9, V.ref p10] := ⟨_, (.cons (.tup ((Same.trans s5 (Same.trans s6 (Same.trans s7 (Same.trans s8 (Same.trans s9 (Same.trans s10 s11)))))) _ _ g4) (.cons (.str _ (by decide +kernel)) .nil)) (.cons (.tup ((Same.trans s6 (Same.trans s7 (Same.trans s8 (Same.trans s9 (Same.trans s10 s11))))) _ _ g5) (.cons (.str _ (by decide +kernel)) (.cons (.str _ lx) (.cons (.str _ lx) .nil)))) (.cons (.tup ((Same.trans s7 (Same.trans s8 (Same.trans s9 (Same.trans s10 s11)))) _ _ g6) (.cons (.str _ (by decide +kernel)) (.cons (.str _ (by decide +kernel)) .nil))) (.cons (.tup ((Same.trans s8 (Same.trans s9 (Same.trans s10 s11))) _ _ g7) (.cons (.str _ (by decide +kernel)) (.cons (.str _ lx) (.cons (.str _ (by decide +kernel)) .nil)))) (.cons (.tup ((Same.trans s9 (Same.trans s10 s11)) _ _ g8) (.cons (.str _ (by decide +kernel)) (.cons (.str _ lx) .nil))) (.cons (.tup ((Same.trans s10 s11) _ _ g9) (.cons (.str _ (by decide +kernel)) (.cons (.str _ lx) .nil))) (.cons (.tup (s11 _ _ g10) (.cons (.str _ (by decide +kernel)) (.cons (.str _ (by decide +kernel)) .nil))) .nil))))))), ⟨st_len "make" [.name] _ _ (by decide +kernel) (by simp), wr_no "make" _ (by decide +kernel) rfl, st_len "make" [.name] _ _ (by decide +kernel) (by simp), wr_no "make" _ (by decide +kernel) rfl, st_part "make" [.name] _ _ (by decide +kernel) 0 .name (.str "Make") rfl rfl (by show nameB (Str.ofString "Make") = false; decide +kernel), wr_no "make" _ (by decide +kernel) rfl, st_part "wish" [.name, .word] _ _ (by decide +kernel) 1 .word (.str "") rfl rfl (by show wordB (Str.ofString "") = false; decide +kernel), wr_no "wish" _ (by decide +kernel) rfl, st_len "wish" [.name, .word] _ _ (by decide +kernel) (by simp), wr_no "wish" _ (by decide +kernel) rfl, st_len "name" [.name, .name] _ _ (by decide +kernel) (by simp), wr_no "name" _ (by decide +kernel) rfl, st_part "drop" [.name] _ _ (by decide +kernel) 0 .name (.str "drop") rfl rfl (by show nameB (Str.ofString "drop") = false; decide +kernel), wr_no "drop" _ (by decide +kernel) rfl, trivial⟩⟩
  have sb0 := (Same.trans s4 (Same.trans s5 (Same.trans s6 (Same.trans s7 (Same.trans s8 (Same.trans s9 (Same.trans s10 s11)))))))
  replace hDk := d0.sm sb0
  replace kP := kP.trans (Kp.same sb0)
  obtain ⟨P0, xsP, eP, exs⟩ : ∃ (P0 : Addr) (xsP : List V), P0 = p11 ∧ xsP = [V.ref p4, V.ref p5, V.ref p6, V.ref p7, V.ref p8, V.ref p9, V.ref p10] := ⟨_, _, rfl, rfl⟩
  have gP : H11 P0 = some (.lst xsP) := by rw [eP, exs]; exact g11
  have gbP : GB D L g H11 xsP := by rw [exs]; exact gb0
  have lP : xsP.length = 7 := by rw [exs]; rfl
  have nP : P0 ∉ [D, L] := by rw [eP]; exact (d0.sm (Same.trans s4 (Same.trans s5 (Same.trans s6 (Same.trans s7 (Same.trans s8 (Same.trans s9 s10))))))).nin n11
  rw [← eP]
  clear s4 s5 s6 s7 s8 s9 s10 s11 g4 g5 g6 g7 g8 g9 g10 g11 gb0 sb0 d0 eP exs
  have d0 := hDk
  refine ⟨_, rfl, _, rfl, _, rfl, line1000 (Nat.le_of_ble_eq_true rfl), fun p12 n12 => ?_⟩
  have s12 := Same.up (o := HO.tup [V.str "hold", V.str x, V.str "f.g", V.str x]) n12
  have g12 : upd H11 p12 (HO.tup [V.str "hold", V.str x, V.str "f.g", V.str x]) p12 = some (HO.tup [V.str "hold", V.str x, V.str "f.g", V.str x]) := upd_same
  generalize upd H11 p12 (HO.tup [V.str "hold", V.str x, V.str "f.g", V.str x]) = H12 at s12 g12 ⊢
  refine ⟨_, rfl, _, rfl, line1000 (Nat.le_of_ble_eq_true rfl), fun p13 n13 => ?_⟩
  have s13 := Same.up (o := HO.tup [V.str "weak", V.str x, V.str x]) n13
  have g13 : upd H12 p13 (HO.tup [V.str "weak", V.str x, V.str x]) p13 = some (HO.tup [V.str "weak", V.str x, V.str x]) := upd_same
  generalize upd H12 p13 (HO.tup [V.str "weak", V.str x, V.str x]) = H13 at s13 g13 ⊢
  refine ⟨_, rfl, line1000 (Nat.le_of_ble_eq_true rfl), fun p14 n14 => ?_⟩
  have s14 := Same.up (o := HO.tup [V.str "cut", V.str x, V.int 1]) n14
  have g14 : upd H13 p14 (HO.tup [V.str "cut", V.str x, V.int 1]) p14 = some (HO.tup [V.str "cut", V.str x, V.int 1]) := upd_same
  generalize upd H13 p14 (HO.tup [V.str "cut", V.str x, V.int 1]) = H14 at s14 g14 ⊢
  refine ⟨_, rfl, _, rfl, line1000 (Nat.le_of_ble_eq_true rfl), fun p15 n15 => ?_⟩
  have s15 := Same.up (o := HO.tup [V.str "take", V.str x, V.str x, V.non]) n15
  have g15 : upd H14 p15 (HO.tup [V.str "take", V.str x, V.str x, V.non]) p15 = some (HO.tup [V.str "take", V.str x, V.str x, V.non]) := upd_same
  generalize upd H14 p15 (HO.tup [V.str "take", V.str x, V.str x, V.non]) = H15 at s15 g15 ⊢
  refine ⟨line1000 (Nat.le_of_ble_eq_true rfl), fun p16 n16 => ?_⟩
  have s16 := Same.up (o := HO.tup [V.str "say", V.str "a b"]) n16
  have g16 : upd H15 p16 (HO.tup [V.str "say", V.str "a b"]) p16 = some (HO.tup [V.str "say", V.str "a b"]) := upd_same
  generalize upd H15 p16 (HO.tup [V.str "say", V.str "a b"]) = H16 at s16 g16 ⊢
  refine ⟨line1000 (Nat.le_of_ble_eq_true rfl), fun p17 n17 => ?_⟩
  have s17 := Same.up (o := HO.lst [V.ref p12, V.ref p13, V.ref p14, V.ref p15, V.ref p16, V.str "make"]) n17
  have g17 : upd H16 p17 (HO.lst [V.ref p12, V.ref p13, V.ref p14, V.ref p15, V.ref p16, V.str "make"]) p17 = some (HO.lst [V.ref p12, V.ref p13, V.ref p14, V.ref p15, V.ref p16, V.str "make"]) := upd_same
  generalize upd H16 p17 (HO.lst [V.ref p12, V.ref p13, V.ref p14, V.ref p15, V.ref p16, V.str "make"]) = H17 at s17 g17 ⊢
  have gb1 : GB D L g H17 [V.ref p12, V.ref p13, V.ref p14, V.ref p15, V.ref p16, V.str "make"] := ⟨_, (.cons (.tup ((Same.trans s13 (Same.trans s14 (Same.trans s15 (Same.trans s16 s17)))) _ _ g12) (.cons (.str _ (by decide +kernel)) (.cons (.str _ lx) (.cons (.str _ (by decide +kernel)) (.cons (.str _ lx) .nil))))) (.cons (.tup ((Same.trans s14 (Same.trans s15 (Same.trans s16 s17))) _ _ g13) (.cons (.str _ (by decide +kernel)) (.cons (.str _ lx) (.cons (.str _ lx) .nil)))) (.cons (.tup ((Same.trans s15 (Same.trans s16 s17)) _ _ g14) (.cons (.str _ (by decide +kernel)) (.cons (.str _ lx) (.cons (.int _) .nil)))) (.cons (.tup ((Same.trans s16 s17) _ _ g15) (.cons (.str _ (by decide +kernel)) (.cons (.str _ lx) (.cons (.str _ lx) (.cons .non .nil))))) (.cons (.tup (s17 _ _ g16) (.cons (.str _ (by decide +kernel)) (.cons (.str _ (by decide +kernel)) .nil))) (.cons (.str _ (by decide +kernel)) .nil)))))), ⟨st_part "hold" [.name, .name, .name] _ _ (by decide +kernel) 1 .name (.str "f.g") rfl rfl (by show nameB (Str.ofString "f.g") = false; decide +kernel), wr_no "hold" _ (by decide +kernel) rfl, st_len "weak" [.name, .name, .name] _ _ (by decide +kernel) (by simp), wr_no "weak" _ (by decide +kernel) rfl, st_part "cut" [.name, .name] _ _ (by decide +kernel) 1 .name (.int 1) rfl rfl rfl, wr_no "cut" _ (by decide +kernel) rfl, st_part "take" [.name, .name, .name] _ _ (by decide +kernel) 2 .name .none rfl rfl rfl, wr_no "take" _ (by decide +kernel) rfl, st_part "say" [.word] _ _ (by decide +kernel) 0 .word (.str "a b") rfl rfl (by show wordB (Str.ofString "a b") = false; decide +kernel), wr_no "say" _ (by decide +kernel) rfl, rfl, rfl, trivial⟩⟩
  have sb1 := (Same.trans s12 (Same.trans s13 (Same.trans s14 (Same.trans s15 (Same.trans s16 s17)))))
  replace hDk := d0.sm sb1
  replace gP := sb1 _ _ gP
  replace gbP := gbP.same sb1
  refine ⟨P0, p17, xsP, _, rfl, rfl, gP, g17, Nat.le_of_lt (lt_line (by show xsP.length + 6 < _; omega)), fun p18 n18 => ?_⟩
  have sc := Same.up (o := HO.lst (xsP ++ [V.ref p12, V.ref p13, V.ref p14, V.ref p15, V.ref p16, V.str "make"])) n18
  have gc : upd H17 p18 (HO.lst (xsP ++ [V.ref p12, V.ref p13, V.ref p14, V.ref p15, V.ref p16, V.str "make"])) p18 = some (.lst (xsP ++ [V.ref p12, V.ref p13, V.ref p14, V.ref p15, V.ref p16, V.str "make"])) := upd_same
  generalize upd H17 p18 (HO.lst (xsP ++ [V.ref p12, V.ref p13, V.ref p14, V.ref p15, V.ref p16, V.str "make"])) = H18 at sc gc ⊢
  replace gbP := (gbP.same sc).app (gb1.same sc)
  replace kP := kP.trans ((Kp.same sb1).trans (Kp.same sc))
  have nc := hDk.nin n18
  replace hDk := hDk.sm sc
  replace lP : (xsP ++ [V.ref p12, V.ref p13, V.ref p14, V.ref p15, V.ref p16, V.str "make"]).length = 13 := by rw [List.length_append, lP]; rfl
  clear gP nP
  generalize xsP ++ [V.ref p12, V.ref p13, V.ref p14, V.ref p15, V.ref p16, V.str "make"] = xsQ at gc gbP lP
  obtain ⟨xsP1, ex⟩ : ∃ xsP, xsP = xsQ := ⟨_, rfl⟩
  obtain ⟨P1, eP⟩ : ∃ P0, P0 = p18 := ⟨_, rfl⟩
  rw [← ex] at gbP lP gc
  rw [← eP] at gc nc
  rw [← eP]
  have gP := gc
  have nP := nc
  clear s12 s13 s14 s15 s16 s17 g12 g13 g14 g15 g16 g17 gb1 sb1 d0 sc gc nc eP ex xsQ
  have d0 := hDk
  refine ⟨_, rfl, _, rfl, line1000 (Nat.le_of_ble_eq_true rfl), fun p19 n19 => ?_⟩
  have s19 := Same.up (o := HO.lst [V.str wd]) n19
  have g19 : upd H18 p19 (HO.lst [V.str wd]) p19 = some (HO.lst [V.str wd]) := upd_same
  generalize upd H18 p19 (HO.lst [V.str wd]) = H19 at s19 g19 ⊢
  refine ⟨line1000 (Nat.le_of_ble_eq_true rfl), fun p20 n20 => ?_⟩
  have s20 := Same.up (o := HO.tup [V.str "say", V.ref p19]) n20
  have g20 : upd H19 p20 (HO.tup [V.str "say", V.ref p19]) p20 = some (HO.tup [V.str "say", V.ref p19]) := upd_same
  generalize upd H19 p20 (HO.tup [V.str "say", V.ref p19]) = H20 at s20 g20 ⊢
  refine ⟨_, rfl, line1000 (Nat.le_of_ble_eq_true rfl), fun p21 n21 => ?_⟩
  have s21 := Same.up (o := HO.tup [V.str "ask", V.str x]) n21
  have g21 : upd H20 p21 (HO.tup [V.str "ask", V.str x]) p21 = some (HO.tup [V.str "ask", V.str x]) := upd_same
  generalize upd H20 p21 (HO.tup [V.str "ask", V.str x]) = H21 at s21 g21 ⊢
  refine ⟨_, rfl, line1000 (Nat.le_of_ble_eq_true rfl), fun p22 n22 => ?_⟩
  have s22 := Same.up (o := HO.tup [V.str "given", V.int g]) n22
  have g22 : upd H21 p22 (HO.tup [V.str "given", V.int g]) p22 = some (HO.tup [V.str "given", V.int g]) := upd_same
  generalize upd H21 p22 (HO.tup [V.str "given", V.int g]) = H22 at s22 g22 ⊢
  refine ⟨line1000 (Nat.le_of_ble_eq_true rfl), fun p23 n23 => ?_⟩
  have s23 := Same.up (o := HO.tup [V.str "ask", V.ref p22]) n23
  have g23 : upd H22 p23 (HO.tup [V.str "ask", V.ref p22]) p23 = some (HO.tup [V.str "ask", V.ref p22]) := upd_same
  generalize upd H22 p23 (HO.tup [V.str "ask", V.ref p22]) = H23 at s23 g23 ⊢
  refine ⟨line1000 (Nat.le_of_ble_eq_true rfl), fun p24 n24 => ?_⟩
  have s24 := Same.up (o := HO.tup [V.str "set"]) n24
  have g24 : upd H23 p24 (HO.tup [V.str "set"]) p24 = some (HO.tup [V.str "set"]) := upd_same
  generalize upd H23 p24 (HO.tup [V.str "set"]) = H24 at s24 g24 ⊢
  refine ⟨line1000 (Nat.le_of_ble_eq_true rfl), fun p25 n25 => ?_⟩
  have s25 := Same.up (o := HO.tup [V.str "ask", V.ref p24]) n25
  have g25 : upd H24 p25 (HO.tup [V.str "ask", V.ref p24]) p25 = some (HO.tup [V.str "ask", V.ref p24]) := upd_same
  generalize upd H24 p25 (HO.tup [V.str "ask", V.ref p24]) = H25 at s25 g25 ⊢
  refine ⟨_, rfl, line1000 (Nat.le_of_ble_eq_true rfl), fun p26 n26 => ?_⟩
  have s26 := Same.up (o := HO.tup [V.str "set", V.str x]) n26
  have g26 : upd H25 p26 (HO.tup [V.str "set", V.str x]) p26 = some (HO.tup [V.str "set", V.str x]) := upd_same
  generalize upd H25 p26 (HO.tup [V.str "set", V.str x]) = H26 at s26 g26 ⊢
  refine ⟨line1000 (Nat.le_of_ble_eq_true rfl), fun p27 n27 => ?_⟩
  have s27 := Same.up (o := HO.tup []) n27
  have g27 : upd H26 p27 (HO.tup []) p27 = some (HO.tup []) := upd_same
  generalize upd H26 p27 (HO.tup []) = H27 at s27 g27 ⊢
  refine ⟨line1000 (Nat.le_of_ble_eq_true rfl), fun p28 n28 => ?_⟩
  have s28 := Same.up (o := HO.tup [V.str "if", V.ref p26, V.ref p27]) n28
  have g28 : upd H27 p28 (HO.tup [V.str "if", V.ref p26, V.ref p27]) p28 = some (HO.tup [V.str "if", V.ref p26, V.ref p27]) := upd_same
  generalize upd H27 p28 (HO.tup [V.str "if", V.ref p26, V.ref p27]) = H28 at s28 g28 ⊢
  refine ⟨line1000 (Nat.le_of_ble_eq_true rfl), fun p29 n29 => ?_⟩
  have s29 := Same.up (o := HO.lst [V.ref p20, V.ref p21, V.ref p23, V.ref p25, V.ref p28, V.int 7]) n29
  have g29 : upd H28 p29 (HO.lst [V.ref p20, V.ref p21, V.ref p23, V.ref p25, V.ref p28, V.int 7]) p29 = some (HO.lst [V.ref p20, V.ref p21, V.ref p23, V.ref p25, V.ref p28, V.int 7]) := upd_same
  generalize upd H28 p29 (HO.lst [V.ref p20, V.ref p21, V.ref p23, V.ref p25, V.ref p28, V.int 7]) = H29 at s29 g29 ⊢
  have gb2 : GB D L g H29 [V.ref p20, V.ref p21, V.ref p23, V.ref p25, V.ref p28, V.int 7] := ⟨_, (.cons (.tup ((Same.trans s21 (Same.trans s22 (Same.trans s23 (Same.trans s24 (Same.trans s25 (Same.trans s26 (Same.trans s27 (Same.trans s28 s29)))))))) _ _ g20) (.cons (.str _ (by decide +kernel)) (.cons (.lst ((d0.sm (Same.refl _)).nin n19) ((Same.trans s20 (Same.trans s21 (Same.trans s22 (Same.trans s23 (Same.trans s24 (Same.trans s25 (Same.trans s26 (Same.trans s27 (Same.trans s28 s29))))))))) _ _ g19) (.cons (.str _ lw) .nil)) .nil))) (.cons (.tup ((Same.trans s22 (Same.trans s23 (Same.trans s24 (Same.trans s25 (Same.trans s26 (Same.trans s27 (Same.trans s28 s29))))))) _ _ g21) (.cons (.str _ (by decide +kernel)) (.cons (.str _ lx) .nil))) (.cons (.tup ((Same.trans s24 (Same.trans s25 (Same.trans s26 (Same.trans s27 (Same.trans s28 s29))))) _ _ g23) (.cons (.str _ (by decide +kernel)) (.cons (.tup ((Same.trans s23 (Same.trans s24 (Same.trans s25 (Same.trans s26 (Same.trans s27 (Same.trans s28 s29)))))) _ _ g22) (.cons (.str _ (by decide +kernel)) (.cons (.int _) .nil))) .nil))) (.cons (.tup ((Same.trans s26 (Same.trans s27 (Same.trans s28 s29))) _ _ g25) (.cons (.str _ (by decide +kernel)) (.cons (.tup ((Same.trans s25 (Same.trans s26 (Same.trans s27 (Same.trans s28 s29)))) _ _ g24) (.cons (.str _ (by decide +kernel)) .nil)) .nil))) (.cons (.tup (s29 _ _ g28) (.cons (.str _ (by decide +kernel)) (.cons (.tup ((Same.trans s27 (Same.trans s28 s29)) _ _ g26) (.cons (.str _ (by decide +kernel)) (.cons (.str _ lx) .nil))) (.cons (.tup ((Same.trans s28 s29) _ _ g27) .nil) .nil)))) (.cons (.int _) .nil)))))), ⟨st_part "say" [.word] _ _ (by decide +kernel) 0 .word (.list [.str wd]) rfl rfl rfl, wr_no "say" _ (by decide +kernel) rfl, st_part "ask" [.test] _ _ (by decide +kernel) 0 .test (.str x) rfl rfl (test_str x g), wr_no "ask" _ (by decide +kernel) rfl, st_part "ask" [.test] _ _ (by decide +kernel) 0 .test (.tuple [.str "given", .int g]) rfl rfl (test_given g), wr_no "ask" _ (by decide +kernel) rfl, st_part "ask" [.test] _ _ (by decide +kernel) 0 .test (.tuple [.str "set"]) rfl rfl (test_set g), wr_no "ask" _ (by decide +kernel) rfl, st_len "if" [.test, .block, .block] _ _ (by decide +kernel) (by simp), wr_all rfl rfl, rfl, rfl, trivial⟩⟩
  have sb2 := (Same.trans s19 (Same.trans s20 (Same.trans s21 (Same.trans s22 (Same.trans s23 (Same.trans s24 (Same.trans s25 (Same.trans s26 (Same.trans s27 (Same.trans s28 s29))))))))))
  replace hDk := d0.sm sb2
  replace gP := sb2 _ _ gP
  replace gbP := gbP.same sb2
  refine ⟨P1, p29, xsP1, _, rfl, rfl, gP, g29, Nat.le_of_lt (lt_line (by show xsP1.length + 6 < _; omega)), fun p30 n30 => ?_⟩
  have sc := Same.up (o := HO.lst (xsP1 ++ [V.ref p20, V.ref p21, V.ref p23, V.ref p25, V.ref p28, V.int 7])) n30
  have gc : upd H29 p30 (HO.lst (xsP1 ++ [V.ref p20, V.ref p21, V.ref p23, V.ref p25, V.ref p28, V.int 7])) p30 = some (.lst (xsP1 ++ [V.ref p20, V.ref p21, V.ref p23, V.ref p25, V.ref p28, V.int 7])) := upd_same
  generalize upd H29 p30 (HO.lst (xsP1 ++ [V.ref p20, V.ref p21, V.ref p23, V.ref p25, V.ref p28, V.int 7])) = H30 at sc gc ⊢
  replace gbP := (gbP.same sc).app (gb2.same sc)
  replace kP := kP.trans ((Kp.same sb2).trans (Kp.same sc))
  have nc := hDk.nin n30
  replace hDk := hDk.sm sc
  replace lP : (xsP1 ++ [V.ref p20, V.ref p21, V.ref p23, V.ref p25, V.ref p28, V.int 7]).length = 19 := by rw [List.length_append, lP]; rfl
  clear gP nP
  generalize xsP1 ++ [V.ref p20, V.ref p21, V.ref p23, V.ref p25, V.ref p28, V.int 7] = xsQ at gc gbP lP
  obtain ⟨xsP2, ex⟩ : ∃ xsP, xsP = xsQ := ⟨_, rfl⟩
  obtain ⟨P2, eP⟩ : ∃ P0, P0 = p30 := ⟨_, rfl⟩
  rw [← ex] at gbP lP gc
  rw [← eP] at gc nc
  rw [← eP]
  have gP := gc
  have nP := nc
  clear s19 s20 s21 s22 s23 s24 s25 s26 s27 s28 s29 g19 g20 g21 g22 g23 g24 g25 g26 g27 g28 g29 gb2 sb2 d0 sc gc nc eP ex xsQ
  have d0 := hDk
  refine ⟨_, rfl, _, rfl, line1000 (Nat.le_of_ble_eq_true rfl), fun p31 n31 => ?_⟩
  have s31 := Same.up (o := HO.tup [V.str "set", V.str x]) n31
  have g31 : upd H30 p31 (HO.tup [V.str "set", V.str x]) p31 = some (HO.tup [V.str "set", V.str x]) := upd_same
  generalize upd H30 p31 (HO.tup [V.str "set", V.str x]) = H31 at s31 g31 ⊢
  refine ⟨line1000 (Nat.le_of_ble_eq_true rfl), fun p32 n32 => ?_⟩
  have s32 := Same.up (o := HO.lst []) n32
  have g32 : upd H31 p32 (HO.lst []) p32 = some (HO.lst []) := upd_same
  generalize upd H31 p32 (HO.lst []) = H32 at s32 g32 ⊢
  refine ⟨line1000 (Nat.le_of_ble_eq_true rfl), fun p33 n33 => ?_⟩
  have s33 := Same.up (o := HO.tup []) n33
  have g33 : upd H32 p33 (HO.tup []) p33 = some (HO.tup []) := upd_same
  generalize upd H32 p33 (HO.tup []) = H33 at s33 g33 ⊢
  refine ⟨line1000 (Nat.le_of_ble_eq_true rfl), fun p34 n34 => ?_⟩
  have s34 := Same.up (o := HO.tup [V.str "if", V.ref p31, V.ref p32, V.ref p33]) n34
  have g34 : upd H33 p34 (HO.tup [V.str "if", V.ref p31, V.ref p32, V.ref p33]) p34 = some (HO.tup [V.str "if", V.ref p31, V.ref p32, V.ref p33]) := upd_same
  generalize upd H33 p34 (HO.tup [V.str "if", V.ref p31, V.ref p32, V.ref p33]) = H34 at s34 g34 ⊢
  refine ⟨line1000 (Nat.le_of_ble_eq_true rfl), fun p35 n35 => ?_⟩
  have s35 := Same.up (o := HO.tup []) n35
  have g35 : upd H34 p35 (HO.tup []) p35 = some (HO.tup []) := upd_same
  generalize upd H34 p35 (HO.tup []) = H35 at s35 g35 ⊢
  refine ⟨line1000 (Nat.le_of_ble_eq_true rfl), fun p36 n36 => ?_⟩
  have s36 := Same.up (o := HO.tup [V.str "repeat", V.int 13, V.ref p35]) n36
  have g36 : upd H35 p36 (HO.tup [V.str "repeat", V.int 13, V.ref p35]) p36 = some (HO.tup [V.str "repeat", V.int 13, V.ref p35]) := upd_same
  generalize upd H35 p36 (HO.tup [V.str "repeat", V.int 13, V.ref p35]) = H36 at s36 g36 ⊢
  refine ⟨1, rfl, line1000 (Nat.le_of_ble_eq_true rfl), fun p37 n37 => ?_⟩
  have s37 := Same.up (o := HO.tup []) n37
  have g37 : upd H36 p37 (HO.tup []) p37 = some (HO.tup []) := upd_same
  generalize upd H36 p37 (HO.tup []) = H37 at s37 g37 ⊢
  refine ⟨line1000 (Nat.le_of_ble_eq_true rfl), fun p38 n38 => ?_⟩
  have s38 := Same.up (o := HO.tup [V.str "repeat", V.int (-1), V.ref p37]) n38
  have g38 : upd H37 p38 (HO.tup [V.str "repeat", V.int (-1), V.ref p37]) p38 = some (HO.tup [V.str "repeat", V.int (-1), V.ref p37]) := upd_same
  generalize upd H37 p38 (HO.tup [V.str "repeat", V.int (-1), V.ref p37]) = H38 at s38 g38 ⊢
  refine ⟨line1000 (Nat.le_of_ble_eq_true rfl), fun p39 n39 => ?_⟩
  have s39 := Same.up (o := HO.tup []) n39
  have g39 : upd H38 p39 (HO.tup []) p39 = some (HO.tup []) := upd_same
  generalize upd H38 p39 (HO.tup []) = H39 at s39 g39 ⊢
  refine ⟨line1000 (Nat.le_of_ble_eq_true rfl), fun p40 n40 => ?_⟩
  have s40 := Same.up (o := HO.tup [V.str "repeat", V.bl true, V.ref p39]) n40
  have g40 : upd H39 p40 (HO.tup [V.str "repeat", V.bl true, V.ref p39]) p40 = some (HO.tup [V.str "repeat", V.bl true, V.ref p39]) := upd_same
  generalize upd H39 p40 (HO.tup [V.str "repeat", V.bl true, V.ref p39]) = H40 at s40 g40 ⊢
  refine ⟨line1000 (Nat.le_of_ble_eq_true rfl), fun p41 n41 => ?_⟩
  have s41 := Same.up (o := HO.tup []) n41
  have g41 : upd H40 p41 (HO.tup []) p41 = some (HO.tup []) := upd_same
  generalize upd H40 p41 (HO.tup []) = H41 at s41 g41 ⊢
  refine ⟨line1000 (Nat.le_of_ble_eq_true rfl), fun p42 n42 => ?_⟩
  have s42 := Same.up (o := HO.lst []) n42
  have g42 : upd H41 p42 (HO.lst []) p42 = some (HO.lst []) := upd_same
  generalize upd H41 p42 (HO.lst []) = H42 at s42 g42 ⊢
  refine ⟨line1000 (Nat.le_of_ble_eq_true rfl), fun p43 n43 => ?_⟩
  have s43 := Same.up (o := HO.lst [V.ref p34, V.ref p36, V.ref p38, V.ref p40, V.ref p41, V.ref p42]) n43
  have g43 : upd H42 p43 (HO.lst [V.ref p34, V.ref p36, V.ref p38, V.ref p40, V.ref p41, V.ref p42]) p43 = some (HO.lst [V.ref p34, V.ref p36, V.ref p38, V.ref p40, V.ref p41, V.ref p42]) := upd_same
  generalize upd H42 p43 (HO.lst [V.ref p34, V.ref p36, V.ref p38, V.ref p40, V.ref p41, V.ref p42]) = H43 at s43 g43 ⊢
  have gb3 : GB D L g H43 [V.ref p34, V.ref p36, V.ref p38, V.ref p40, V.ref p41, V.ref p42] := ⟨_, (.cons (.tup ((Same.trans s35 (Same.trans s36 (Same.trans s37 (Same.trans s38 (Same.trans s39 (Same.trans s40 (Same.trans s41 (Same.trans s42 s43)))))))) _ _ g34) (.cons (.str _ (by decide +kernel)) (.cons (.tup ((Same.trans s32 (Same.trans s33 (Same.trans s34 (Same.trans s35 (Same.trans s36 (Same.trans s37 (Same.trans s38 (Same.trans s39 (Same.trans s40 (Same.trans s41 (Same.trans s42 s43))))))))))) _ _ g31) (.cons (.str _ (by decide +kernel)) (.cons (.str _ lx) .nil))) (.cons (.lst ((d0.sm s31).nin n32) ((Same.trans s33 (Same.trans s34 (Same.trans s35 (Same.trans s36 (Same.trans s37 (Same.trans s38 (Same.trans s39 (Same.trans s40 (Same.trans s41 (Same.trans s42 s43)))))))))) _ _ g32) .nil) (.cons (.tup ((Same.trans s34 (Same.trans s35 (Same.trans s36 (Same.trans s37 (Same.trans s38 (Same.trans s39 (Same.trans s40 (Same.trans s41 (Same.trans s42 s43))))))))) _ _ g33) .nil) .nil))))) (.cons (.tup ((Same.trans s37 (Same.trans s38 (Same.trans s39 (Same.trans s40 (Same.trans s41 (Same.trans s42 s43)))))) _ _ g36) (.cons (.str _ (by decide +kernel)) (.cons (.int _) (.cons (.tup ((Same.trans s36 (Same.trans s37 (Same.trans s38 (Same.trans s39 (Same.trans s40 (Same.trans s41 (Same.trans s42 s43))))))) _ _ g35) .nil) .nil)))) (.cons (.tup ((Same.trans s39 (Same.trans s40 (Same.trans s41 (Same.trans s42 s43)))) _ _ g38) (.cons (.str _ (by decide +kernel)) (.cons (.int _) (.cons (.tup ((Same.trans s38 (Same.trans s39 (Same.trans s40 (Same.trans s41 (Same.trans s42 s43))))) _ _ g37) .nil) .nil)))) (.cons (.tup ((Same.trans s41 (Same.trans s42 s43)) _ _ g40) (.cons (.str _ (by decide +kernel)) (.cons (.bl _) (.cons (.tup ((Same.trans s40 (Same.trans s41 (Same.trans s42 s43))) _ _ g39) .nil) .nil)))) (.cons (.tup ((Same.trans s42 s43) _ _ g41) .nil) (.cons (.lst ((d0.sm (Same.trans s31 (Same.trans s32 (Same.trans s33 (Same.trans s34 (Same.trans s35 (Same.trans s36 (Same.trans s37 (Same.trans s38 (Same.trans s39 (Same.trans s40 s41))))))))))).nin n42) (s43 _ _ g42) .nil) .nil)))))), ⟨st_part "if" [.test, .block, .block] _ _ (by decide +kernel) 1 .block (.list []) rfl rfl rfl, wr_all rfl rfl, st_part "repeat" [.times, .block] _ _ (by decide +kernel) 0 .times (.int 13) rfl rfl rfl, wr_all rfl rfl, st_part "repeat" [.times, .block] _ _ (by decide +kernel) 0 .times (.int (-1)) rfl rfl rfl, wr_all rfl rfl, st_part "repeat" [.times, .block] _ _ (by decide +kernel) 0 .times (.bool true) rfl rfl rfl, wr_all rfl rfl, rfl, rfl, rfl, rfl, trivial⟩⟩
  have sb3 := (Same.trans s31 (Same.trans s32 (Same.trans s33 (Same.trans s34 (Same.trans s35 (Same.trans s36 (Same.trans s37 (Same.trans s38 (Same.trans s39 (Same.trans s40 (Same.trans s41 (Same.trans s42 s43))))))))))))
  replace hDk := d0.sm sb3
  replace gP := sb3 _ _ gP
  replace gbP := gbP.same sb3
  refine ⟨P2, p43, xsP2, _, rfl, rfl, gP, g43, Nat.le_of_lt (lt_line (by show xsP2.length + 6 < _; omega)), fun p44 n44 => ?_⟩
  have sc := Same.up (o := HO.lst (xsP2 ++ [V.ref p34, V.ref p36, V.ref p38, V.ref p40, V.ref p41, V.ref p42])) n44
  have gc : upd H43 p44 (HO.lst (xsP2 ++ [V.ref p34, V.ref p36, V.ref p38, V.ref p40, V.ref p41, V.ref p42])) p44 = some (.lst (xsP2 ++ [V.ref p34, V.ref p36, V.ref p38, V.ref p40, V.ref p41, V.ref p42])) := upd_same
  generalize upd H43 p44 (HO.lst (xsP2 ++ [V.ref p34, V.ref p36, V.ref p38, V.ref p40, V.ref p41, V.ref p42])) = H44 at sc gc ⊢
  replace gbP := (gbP.same sc).app (gb3.same sc)
  replace kP := kP.trans ((Kp.same sb3).trans (Kp.same sc))
  have nc := hDk.nin n44
  replace hDk := hDk.sm sc
  replace lP : (xsP2 ++ [V.ref p34, V.ref p36, V.ref p38, V.ref p40, V.ref p41, V.ref p42]).length = 25 := by rw [List.length_append, lP]; rfl
  clear gP nP
  generalize xsP2 ++ [V.ref p34, V.ref p36, V.ref p38, V.ref p40, V.ref p41, V.ref p42] = xsQ at gc gbP lP
  obtain ⟨xsP3, ex⟩ : ∃ xsP, xsP = xsQ := ⟨_, rfl⟩
  obtain ⟨P3, eP⟩ : ∃ P0, P0 = p44 := ⟨_, rfl⟩
  rw [← ex] at gbP lP gc
  rw [← eP] at gc nc
  rw [← eP]
  have gP := gc
  have nP := nc
  clear s31 s32 s33 s34 s35 s36 s37 s38 s39 s40 s41 s42 s43 g31 g32 g33 g34 g35 g36 g37 g38 g39 g40 g41 g42 g43 gb3 sb3 d0 sc gc nc eP ex xsQ
  -- four nots
  have d0 := hDk
  refine ⟨_, rfl, line1000 (Nat.le_of_ble_eq_true rfl), fun pt nt => ?_⟩
  have st := Same.up (o := HO.tup [.str "set", .str x]) nt
  have gt : upd H44 pt (HO.tup [.str "set", .str x]) pt = some (.tup [.str "set", .str x]) := upd_same
  generalize upd H44 pt (HO.tup [.str "set", .str x]) = Ht at st gt ⊢
  refine ⟨_, rfl, by decide, by decide, for_range (lo := 0) (n := 4) (fun i σ H' => Same H44 H' ∧ ∃ (v : V) (t : Tst) (x7 : Option V), TD H' v t.data ∧ WS 4 t.data ∧ t.depth = i ∧ σ = [some (.ref D), some (.ref a), some (.str x), some (.str wd), some (.int g), some (.ref P3), some v, x7]) ⟨st, .ref pt, .set x, none, .tup gt (.cons (.str _) (.cons (.str _) .nil)), ⟨Nat.le_of_ble_eq_true rfl, (by decide +kernel : (Str.ofString "set").length ≤ 1000), lx, trivial⟩, rfl, rfl⟩ ?_ ?_⟩
  · rintro i σ H' hi ⟨s', v, t, x7, td, ws, dt, rfl⟩
    refine ⟨_, rfl, line1000 (Nat.le_of_ble_eq_true rfl), fun p np => ?_⟩
    have sp := Same.up (o := HO.tup [.str "not", v]) np
    exact ⟨Same.trans s' sp, .ref p, .not t, _, .tup upd_same (.cons (.str _) (.cons (TD.ch (Ch.same (S := []) sp) _ _ td) .nil)), ⟨Nat.le_of_ble_eq_true rfl, (by decide +kernel : (Str.ofString "not").length ≤ 1000), ws, trivial⟩, by show t.depth + 1 = i + 1; rw [dt], rfl⟩
  rintro σ H45 ⟨s45, vd, dt, x7, tdd, wsd, hdt, rfl⟩
  have gvd := (TD.gv (F := FD D L) _ _ wsd tdd).1
  replace hDk := d0.sm s45
  replace gP := s45 _ _ gP
  replace gbP := gbP.same s45
  replace kP := kP.trans (Kp.same s45)
  clear st gt d0 s45 tdd wsd
  have d0 := hDk
  refine ⟨_, rfl, _, rfl, line1000 (Nat.le_of_ble_eq_true rfl), fun p46 n46 => ?_⟩
  have s46 := Same.up (o := HO.tup [V.str "ask", vd]) n46
  have g46 : upd H45 p46 (HO.tup [V.str "ask", vd]) p46 = some (HO.tup [V.str "ask", vd]) := upd_same
  generalize upd H45 p46 (HO.tup [V.str "ask", vd]) = H46 at s46 g46 ⊢
  refine ⟨_, rfl, _, _, rfl, rfl, line1000 (by omega), line1000 (Nat.le_of_ble_eq_true rfl), fun p47 n47 => ?_⟩
  have s47 := Same.up (o := HO.tup [V.str "keep", V.str (wd ++ Str.ofString "_")]) n47
  have g47 : upd H46 p47 (HO.tup [V.str "keep", V.str (wd ++ Str.ofString "_")]) p47 = some (HO.tup [V.str "keep", V.str (wd ++ Str.ofString "_")]) := upd_same
  generalize upd H46 p47 (HO.tup [V.str "keep", V.str (wd ++ Str.ofString "_")]) = H47 at s47 g47 ⊢
  refine ⟨_, rfl, _, _, rfl, rfl, line1000 (by omega), line1000 (Nat.le_of_ble_eq_true rfl), fun p48 n48 => ?_⟩
  have s48 := Same.up (o := HO.tup [V.str "make", V.str (x ++ Str.ofString "234567890")]) n48
  have g48 : upd H47 p48 (HO.tup [V.str "make", V.str (x ++ Str.ofString "234567890")]) p48 = some (HO.tup [V.str "make", V.str (x ++ Str.ofString "234567890")]) := upd_same
  generalize upd H47 p48 (HO.tup [V.str "make", V.str (x ++ Str.ofString "234567890")]) = H48 at s48 g48 ⊢
  refine fun p49 n49 => ?_
  have s49 := Same.up (o := HO.dK []) n49
  have g49 : upd H48 p49 (HO.dK []) p49 = some (HO.dK []) := upd_same
  generalize upd H48 p49 (HO.dK []) = H49 at s49 g49 ⊢
  refine ⟨_, rfl, line1000 (Nat.le_of_ble_eq_true rfl), fun p50 n50 => ?_⟩
  have s50 := Same.up (o := HO.tup [V.ref p49, V.str x]) n50
  have g50 : upd H49 p50 (HO.tup [V.ref p49, V.str x]) p50 = some (HO.tup [V.ref p49, V.str x]) := upd_same
  generalize upd H49 p50 (HO.tup [V.ref p49, V.str x]) = H50 at s50 g50 ⊢
  refine fun p51 n51 => ?_
  have s51 := Same.up (o := HO.dK []) n51
  have g51 : upd H50 p51 (HO.dK []) p51 = some (HO.dK []) := upd_same
  generalize upd H50 p51 (HO.dK []) = H51 at s51 g51 ⊢
  refine ⟨line1000 (Nat.le_of_ble_eq_true rfl), fun p52 n52 => ?_⟩
  have s52 := Same.up (o := HO.lst [V.str "say"]) n52
  have g52 : upd H51 p52 (HO.lst [V.str "say"]) p52 = some (HO.lst [V.str "say"]) := upd_same
  generalize upd H51 p52 (HO.lst [V.str "say"]) = H52 at s52 g52 ⊢
  refine ⟨_, rfl, line1000 (Nat.le_of_ble_eq_true rfl), fun p53 n53 => ?_⟩
  have s53 := Same.up (o := HO.tup [V.ref p52, V.str wd]) n53
  have g53 : upd H52 p53 (HO.tup [V.ref p52, V.str wd]) p53 = some (HO.tup [V.ref p52, V.str wd]) := upd_same
  generalize upd H52 p53 (HO.tup [V.ref p52, V.str wd]) = H53 at s53 g53 ⊢
  refine ⟨_, rfl, line1000 (Nat.le_of_ble_eq_true rfl), fun p54 n54 => ?_⟩
  have s54 := Same.up (o := HO.lst [V.ref p46, V.ref p47, V.ref p48, V.ref p50, V.ref p51, V.ref p53, V.str x]) n54
  have g54 : upd H53 p54 (HO.lst [V.ref p46, V.ref p47, V.ref p48, V.ref p50, V.ref p51, V.ref p53, V.str x]) p54 = some (HO.lst [V.ref p46, V.ref p47, V.ref p48, V.ref p50, V.ref p51, V.ref p53, V.str x]) := upd_same
  generalize upd H53 p54 (HO.lst [V.ref p46, V.ref p47, V.ref p48, V.ref p50, V.ref p51, V.ref p53, V.str x]) = H54 at s54 g54 ⊢
  have gb4 : GB D L g H54 [V.ref p46, V.ref p47, V.ref p48, V.ref p50, V.ref p51, V.ref p53, V.str x] := ⟨_, (.cons (.tup ((Same.trans s47 (Same.trans s48 (Same.trans s49 (Same.trans s50 (Same.trans s51 (Same.trans s52 (Same.trans s53 s54))))))) _ _ g46) (.cons (.str _ (by decide +kernel)) (.cons (gvd.same (Same.trans s46 (Same.trans s47 (Same.trans s48 (Same.trans s49 (Same.trans s50 (Same.trans s51 (Same.trans s52 (Same.trans s53 s54))))))))) .nil))) (.cons (.tup ((Same.trans s48 (Same.trans s49 (Same.trans s50 (Same.trans s51 (Same.trans s52 (Same.trans s53 s54)))))) _ _ g47) (.cons (.str _ (by decide +kernel)) (.cons (.str _ lws) .nil))) (.cons (.tup ((Same.trans s49 (Same.trans s50 (Same.trans s51 (Same.trans s52 (Same.trans s53 s54))))) _ _ g48) (.cons (.str _ (by decide +kernel)) (.cons (.str _ lxs) .nil))) (.cons (.tup ((Same.trans s51 (Same.trans s52 (Same.trans s53 s54))) _ _ g50) (.cons (.dct ((d0.sm (Same.trans s46 (Same.trans s47 s48))).nin n49) ((Same.trans s50 (Same.trans s51 (Same.trans s52 (Same.trans s53 s54)))) _ _ g49)) (.cons (.str _ lx) .nil))) (.cons (.dct ((d0.sm (Same.trans s46 (Same.trans s47 (Same.trans s48 (Same.trans s49 s50))))).nin n51) ((Same.trans s52 (Same.trans s53 s54)) _ _ g51)) (.cons (.tup (s54 _ _ g53) (.cons (.lst ((d0.sm (Same.trans s46 (Same.trans s47 (Same.trans s48 (Same.trans s49 (Same.trans s50 s51)))))).nin n52) ((Same.trans s53 s54) _ _ g52) (.cons (.str _ (by decide +kernel)) .nil)) (.cons (.str _ lw) .nil))) (.cons (.str _ lx) .nil))))))), ⟨st_part "ask" [.test] _ _ (by decide +kernel) 0 .test _ rfl rfl (test_deep hdt), wr_no "ask" _ (by decide +kernel) rfl, st_part "keep" [.name] _ _ (by decide +kernel) 0 .name (.str (wd ++ Str.ofString "_")) rfl rfl (name_us wd), wr_no "keep" _ (by decide +kernel) rfl, st_part "make" [.name] _ _ (by decide +kernel) 0 .name (.str (x ++ Str.ofString "234567890")) rfl rfl (name_long x), wr_no "make" _ (by decide +kernel) rfl, rfl, rfl, rfl, rfl, rfl, rfl, rfl, rfl, trivial⟩⟩
  have sb4 := (Same.trans s46 (Same.trans s47 (Same.trans s48 (Same.trans s49 (Same.trans s50 (Same.trans s51 (Same.trans s52 (Same.trans s53 s54))))))))
  replace hDk := d0.sm sb4
  replace gP := sb4 _ _ gP
  replace gbP := gbP.same sb4
  refine ⟨P3, p54, xsP3, _, rfl, rfl, gP, g54, Nat.le_of_lt (lt_line (by show xsP3.length + 7 < _; omega)), fun p55 n55 => ?_⟩
  have sc := Same.up (o := HO.lst (xsP3 ++ [V.ref p46, V.ref p47, V.ref p48, V.ref p50, V.ref p51, V.ref p53, V.str x])) n55
  have gc : upd H54 p55 (HO.lst (xsP3 ++ [V.ref p46, V.ref p47, V.ref p48, V.ref p50, V.ref p51, V.ref p53, V.str x])) p55 = some (.lst (xsP3 ++ [V.ref p46, V.ref p47, V.ref p48, V.ref p50, V.ref p51, V.ref p53, V.str x])) := upd_same
  generalize upd H54 p55 (HO.lst (xsP3 ++ [V.ref p46, V.ref p47, V.ref p48, V.ref p50, V.ref p51, V.ref p53, V.str x])) = H55 at sc gc ⊢
  replace gbP := (gbP.same sc).app (gb4.same sc)
  replace kP := kP.trans ((Kp.same sb4).trans (Kp.same sc))
  have nc := hDk.nin n55
  replace hDk := hDk.sm sc
  replace lP : (xsP3 ++ [V.ref p46, V.ref p47, V.ref p48, V.ref p50, V.ref p51, V.ref p53, V.str x]).length = 32 := by rw [List.length_append, lP]; rfl
  clear gP nP
  generalize xsP3 ++ [V.ref p46, V.ref p47, V.ref p48, V.ref p50, V.ref p51, V.ref p53, V.str x] = xsQ at gc gbP lP
  obtain ⟨xsP4, ex⟩ : ∃ xsP, xsP = xsQ := ⟨_, rfl⟩
  obtain ⟨P4, eP⟩ : ∃ P0, P0 = p55 := ⟨_, rfl⟩
  rw [← ex] at gbP lP gc
  rw [← eP] at gc nc
  rw [← eP]
  have gP := gc
  have nP := nc
  clear s46 s47 s48 s49 s50 s51 s52 s53 s54 g46 g47 g48 g49 g50 g51 g52 g53 g54 gb4 sb4 d0 sc gc nc eP ex xsQ
  have d0 := hDk
  refine ⟨.ref D, rfl, _, rfl, line1000 (Nat.le_of_ble_eq_true rfl), fun p56 n56 => ?_⟩
  have s56 := Same.up (o := HO.tup [V.str "repeat", V.int 1]) n56
  have g56 : upd H55 p56 (HO.tup [V.str "repeat", V.int 1]) p56 = some (HO.tup [V.str "repeat", V.int 1]) := upd_same
  generalize upd H55 p56 (HO.tup [V.str "repeat", V.int 1]) = H56 at s56 g56 ⊢
  refine ⟨line1000 (Nat.le_of_ble_eq_true rfl), fun p57 n57 => ?_⟩
  have s57 := Same.up (o := HO.tup [V.str "else"]) n57
  have g57 : upd H56 p57 (HO.tup [V.str "else"]) p57 = some (HO.tup [V.str "else"]) := upd_same
  generalize upd H56 p57 (HO.tup [V.str "else"]) = H57 at s57 g57 ⊢
  refine ⟨line1000 (Nat.le_of_ble_eq_true rfl), fun p58 n58 => ?_⟩
  have s58 := Same.up (o := HO.lst [V.ref p56, V.ref p57, V.non]) n58
  have g58 : upd H57 p58 (HO.lst [V.ref p56, V.ref p57, V.non]) p58 = some (HO.lst [V.ref p56, V.ref p57, V.non]) := upd_same
  generalize upd H57 p58 (HO.lst [V.ref p56, V.ref p57, V.non]) = H58 at s58 g58 ⊢
  have gb5 : GB D L g H58 [V.ref p56, V.ref p57, V.non] := ⟨_, (.cons (.tup ((Same.trans s57 s58) _ _ g56) (.cons (.str _ (by decide +kernel)) (.cons (.int _) .nil))) (.cons (.tup (s58 _ _ g57) (.cons (.str _ (by decide +kernel)) .nil)) (.cons .non .nil))), ⟨st_len "repeat" [.times, .block] _ _ (by decide +kernel) (by simp), rfl, st_word "else" _ _ (by decide +kernel), wr_no "else" _ (by decide +kernel) rfl, rfl, rfl, trivial⟩⟩
  have sb5 := (Same.trans s56 (Same.trans s57 s58))
  refine ⟨P4, p58, xsP4, _, rfl, rfl, sb5 _ _ gP, g58, Nat.le_of_lt (lt_line (by show xsP4.length + 3 < _; omega)), fun pf nf => ?_⟩
  have sc := Same.up (o := HO.lst (xsP4 ++ [V.ref p56, V.ref p57, V.non])) nf
  have hDf := (d0.sm sb5).sm sc
  have gbf := ((gbP.same sb5).same sc).app (gb5.same sc)
  refine one_gb hDf (by omega) upd_same gbf ((d0.sm sb5).nin nf) (by rw [List.length_append]; omega) (by rw [List.length_append, lP]; exact Nat.le_of_ble_eq_true rfl) fun H' y d k' d' gy fy => ?_
  exact q H' y d (kP.trans ((Kp.same sb5).trans ((Kp.same sc).trans k'))) (d'.mono (by omega)) gy fy
end
end G

set_option Elab.async false
set_option linter.all false
set_option maxRecDepth 100000
set_option maxHeartbeats 4000000
/-! Rows that may be wrong, on paper: put a row at a place of the walk. -/
namespace G
open PySem PySem.Spec PyProof.Rows L2
inductive Rw where
  | lf (d : PyData)
  | cond (t : PyData) (y n : List Rw)
  | rep (k : Nat) (b : List Rw)
mutual
def Rw.data : Rw → PyData
  | .lf d => d
  | .cond t y n => .tuple [.str "if", t, .tuple (rwD y), .tuple (rwD n)]
  | .rep k b => .tuple [.str "repeat", .int k, .tuple (rwD b)]
def rwD : List Rw → List PyData
  | [] => []
  | s :: r => s.data :: rwD r
end
mutual
def Rw.size : Rw → Nat
  | .lf _ => 1
  | .cond _ y n => 1 + (rwN y + rwN n)
  | .rep _ b => 1 + rwN b
def rwN : List Rw → Nat
  | [] => 0
  | s :: r => s.size + rwN r
end
mutual
def Rw.put (x : Rw) : Int → Rw → Rw
  | _, .lf d => .lf d
  | p, .cond t y n => .cond t (rwPut x (p - 1) y) (rwPut x (p - 1 - rwN y) n)
  | p, .rep k b => .rep k (rwPut x (p - 1) b)
def rwPut (x : Rw) : Int → List Rw → List Rw
  | _, [] => []
  | p, s :: r => (if p = 0 then x else if 0 < p ∧ p < s.size then Rw.put x p s else s) :: rwPut x (p - s.size) r
end
mutual
/-- rows of a smaller number than p are right; the row p itself is at most 4 deep -/
def Rw.good (g : Int) : Nat → Int → Rw → Prop
  | _, p, .lf d => 0 < p → isStmt d g = true ∧ ∀ dp, innerQ dp d = []
  | dp, p, .cond t y n => 0 < p → isTest t g = true ∧ rwGood g (dp + 1) (p - 1) y ∧ rwGood g (dp + 1) (p - 1 - rwN y) n
  | dp, p, .rep k b => 0 < p → k ≤ 12 ∧ rwGood g (dp + 1) (p - 1) b
def rwGood (g : Int) : Nat → Int → List Rw → Prop
  | _, _, [] => True
  | dp, p, s :: r => (0 ≤ p → dp ≤ 4) ∧ s.good g dp p ∧ rwGood g dp (p - s.size) r
end
theorem rw_pos : ∀ s : Rw, 0 < s.size
  | .lf _ => Nat.one_pos
  | .cond _ y n => by show 0 < 1 + (rwN y + rwN n); omega
  | .rep _ b => by show 0 < 1 + rwN b; omega
theorem rwN_len : ∀ f : List Rw, (rwD f).length ≤ rwN f
  | [] => Nat.le_refl 0
  | s :: r => by
    show (rwD r).length + 1 ≤ s.size + rwN r
    have := rwN_len r
    have := rw_pos s
    omega
theorem good_neg {g : Int} {dp : Nat} {p : Int} (h : p ≤ 0) : ∀ s : Rw, s.good g dp p
  | .lf _ => fun z => absurd z (by omega)
  | .cond .. => fun z => absurd z (by omega)
  | .rep .. => fun z => absurd z (by omega)
theorem rwGood_neg {g : Int} {dp : Nat} : ∀ {p : Int} (f : List Rw), p < 0 → rwGood g dp p f
  | _, [], _ => trivial
  | p, s :: r, h => ⟨fun z => absurd z (by omega), good_neg (by omega) s, rwGood_neg r (by omega)⟩
theorem rwPut_neg {x : Rw} : ∀ {p : Int} (f : List Rw), p < 0 → rwPut x p f = f
  | _, [], _ => rfl
  | p, s :: r, h => by
    show (if p = 0 then x else if 0 < p ∧ p < s.size then Rw.put x p s else s) :: rwPut x (p - s.size) r = s :: r
    rw [if_neg (by omega), if_neg (by omega), rwPut_neg r (by omega)]
mutual
theorem good_mono {g : Int} : ∀ {dp : Nat} {p p' : Int} (s : Rw), p' ≤ p → s.good g dp p → s.good g dp p'
  | _, _, _, .lf _, l, h => fun z => h (by omega)
  | _, _, _, .cond t y n, l, h => fun z => by
    obtain ⟨a, b, c⟩ := h (by omega)
    exact ⟨a, rwGood_mono y (by omega) b, rwGood_mono n (by omega) c⟩
  | _, _, _, .rep k b, l, h => fun z => by
    obtain ⟨a, c⟩ := h (by omega)
    exact ⟨a, rwGood_mono b (by omega) c⟩
theorem rwGood_mono {g : Int} : ∀ {dp : Nat} {p p' : Int} (f : List Rw), p' ≤ p → rwGood g dp p f → rwGood g dp p' f
  | _, _, _, [], _, _ => trivial
  | _, _, _, s :: r, l, h => ⟨fun z => h.1 (by omega), good_mono s l h.2.1, rwGood_mono r (by omega) h.2.2⟩
end
end G

set_option Elab.async false
set_option linter.all false
set_option maxRecDepth 100000
set_option maxHeartbeats 4000000
/-! A row put at a place: the walk stops there. -/
namespace G
open PySem PySem.Spec PyProof.Rows L2
section
variable {g : Int} {dp n n1 n2 c c1 c2 C : Nat} {d : PyData} {ds inn a b : List PyData} {w : String}
theorem pass_consN (h4 : dp ≤ 4) (hs : isStmt d g = true) (hi : innerQ dp d = inn.map (fun d => (dp + 1, d))) (h1 : Pass g (dp + 1) inn n1 c1) (h2 : Pass g dp ds n2 c2) (l0 : inn.length + ds.length ≤ C) (l1 : ds.length + c1 ≤ C) (l2 : c2 ≤ C) : Pass g dp (d :: ds) (1 + n1 + n2) C := by
  intro pl m r o hr f
  have A := h2 (pl + 1 + n1) m r o (by omega) (by rw [show pl + 1 + n1 + n2 = pl + (1 + n1 + n2) by omega]; exact f)
  have B := h1 (pl + 1) (m + n2) (ds.map (fun d => (dp, d)) ++ r) o (by rw [List.length_append, List.length_map]; omega) A
  have e : m + (1 + n1 + n2) = m + n2 + n1 + 1 := by omega
  rw [e]
  refine FW.step h4 hs ?_ ?_
  · rw [hi]
    show (List.map (fun d => (dp + 1, d)) inn ++ (List.map (fun d => (dp, d)) ds ++ r)).length ≤ 100000
    rw [List.length_append, List.length_append, List.length_map, List.length_map]
    omega
  · rw [hi]
    exact B
theorem pass_appN (h1 : Pass g dp a n1 c1) (h2 : Pass g dp b n2 c2) (l1 : b.length + c1 ≤ C) (l2 : c2 ≤ C) : Pass g dp (a ++ b) (n1 + n2) C := by
  intro pl m r o hr f
  have A := h2 (pl + n1) m r o (by omega) (by rw [Nat.add_assoc]; exact f)
  have B := h1 pl (m + n2) (b.map (fun d => (dp, d)) ++ r) o (by rw [List.length_append, List.length_map]; omega) A
  rw [show m + (n1 + n2) = m + n2 + n1 by omega, List.map_append, List.append_assoc]
  exact B
theorem stop_inN (h4 : dp ≤ 4) (hs : isStmt d g = true) (hi : innerQ dp d = inn.map (fun d => (dp + 1, d))) (h1 : Stop g (dp + 1) inn n c w) (l0 : inn.length + ds.length ≤ C) (l1 : ds.length + c ≤ C) : Stop g dp (d :: ds) (n + 1) C w := by
  intro pl r hr
  have B := h1 (pl + 1) (ds.map (fun d => (dp, d)) ++ r) (by rw [List.length_append, List.length_map]; omega)
  rw [show pl + 1 + n = pl + (n + 1) by omega] at B
  refine FW.step h4 hs ?_ ?_
  · rw [hi]
    show (List.map (fun d => (dp + 1, d)) inn ++ (List.map (fun d => (dp, d)) ds ++ r)).length ≤ 100000
    rw [List.length_append, List.length_append, List.length_map, List.length_map]
    omega
  · rw [hi]
    exact B
theorem stop_skipN (h1 : Pass g dp a n1 c1) (h2 : Stop g dp b n2 c2 w) (l1 : b.length + c1 ≤ C) (l2 : c2 ≤ C) : Stop g dp (a ++ b) (n1 + n2) C w := by
  intro pl r hr
  have A := h2 (pl + n1) r (by omega)
  have B := h1 pl n2 (b.map (fun d => (dp, d)) ++ r) _ (by rw [List.length_append, List.length_map]; omega) A
  rw [List.map_append, List.append_assoc, show pl + (n1 + n2) = pl + n1 + n2 by omega, show n1 + n2 = n2 + n1 by omega]
  exact B
end
theorem rwPut_big {x : Rw} : ∀ {p : Int} (f : List Rw), (rwN f : Int) ≤ p → rwPut x p f = f
  | _, [], _ => rfl
  | p, s :: r, h => by
    have h : ((s.size + rwN r : Nat) : Int) ≤ p := h
    have := rw_pos s
    show (if p = 0 then x else if 0 < p ∧ p < s.size then Rw.put x p s else s) :: rwPut x (p - s.size) r = s :: r
    rw [if_neg (by omega), if_neg (by omega), rwPut_big r (by omega)]
theorem rwPut_len {x : Rw} : ∀ {p : Int} (f : List Rw), (rwD (rwPut x p f)).length = (rwD f).length
  | _, [] => rfl
  | p, s :: r => congrArg (· + 1) (rwPut_len (x := x) (p := p - s.size) r)
theorem pass_good {g : Int} : ∀ {dp : Nat} {p : Int} (f : List Rw), (rwN f : Int) ≤ p → rwGood g dp p f → Pass g dp (rwD f) (rwN f) (rwN f)
  | _, _, [], _, _ => pass_nil
  | dp, p, .lf d :: r, l, h => by
    have l : ((1 + rwN r : Nat) : Int) ≤ p := l
    have hs := h.2.1 (by omega)
    have hr : rwGood g dp (p - 1) r := h.2.2
    have := rwN_len r
    have z := pass_consN (C := 1 + rwN r) (inn := []) (h.1 (by omega)) hs.1 (hs.2 dp) pass_nil (pass_good r (by omega) hr) (by simp; omega) (by omega) (by omega)
    exact z
  | dp, p, .cond t y n :: r, l, h => by
    have l : ((1 + (rwN y + rwN n) + rwN r : Nat) : Int) ≤ p := l
    obtain ⟨ht, hy, hn⟩ := h.2.1 (by omega)
    have hr : rwGood g dp (p - (1 + (rwN y + rwN n) : Nat)) r := h.2.2
    have := rwN_len r
    have := rwN_len y
    have := rwN_len n
    have i := pass_appN (C := rwN y + rwN n) (pass_good y (by omega) hy) (pass_good n (by omega) hn) (by omega) (by omega)
    have z := pass_consN (C := 1 + (rwN y + rwN n) + rwN r) (h.1 (by omega)) (cond_R ht) inner_if i (pass_good r (by omega) hr) (by rw [List.length_append]; omega) (by omega) (by omega)
    exact z
  | dp, p, .rep k b :: r, l, h => by
    have l : ((1 + rwN b + rwN r : Nat) : Int) ≤ p := l
    obtain ⟨hk, hb⟩ := h.2.1 (by omega)
    have hr : rwGood g dp (p - (1 + rwN b : Nat)) r := h.2.2
    have := rwN_len r
    have := rwN_len b
    have z := pass_consN (C := 1 + rwN b + rwN r) (h.1 (by omega)) (rep_R hk) inner_rep (pass_good b (by omega) hb) (pass_good r (by omega) hr) (by omega) (by omega) (by omega)
    exact z
theorem stop_put {g : Int} {d : PyData} (hw : isStmt d g = false) : ∀ {dp : Nat} {p : Int} (f : List Rw), 0 ≤ p → p < rwN f → rwGood g dp p f → Stop g dp (rwD (rwPut (.lf d) p f)) p.toNat (rwN f) "statement"
  | _, _, [], h0, h1, _ => absurd h1 (by show ¬ _ < ((0 : Nat) : Int); omega)
  | dp, p, s :: r, h0, h1, h => by
    have h1 : p < ((s.size + rwN r : Nat) : Int) := h1
    have sp := rw_pos s
    have lr := rwN_len r
    show Stop g dp ((if p = 0 then (Rw.lf d) else if 0 < p ∧ p < s.size then Rw.put (.lf d) p s else s).data :: rwD (rwPut (.lf d) (p - s.size) r)) _ (s.size + rwN r) _
    by_cases e : p = 0
    · rw [if_pos e, e]
      exact (stop_wrong (h.1 h0) hw).mono (Nat.zero_le _)
    rw [if_neg e]
    by_cases e1 : p < s.size
    · rw [if_pos ⟨by omega, e1⟩]
      have ll : (rwD (rwPut (.lf d) (p - s.size) r)).length = (rwD r).length := rwPut_len r
      have ep : p.toNat = (p - 1).toNat + 1 := by omega
      rw [ep]
      match s, h, e1 with
      | .lf d', h, e1 => exact absurd e1 (by show ¬ p < ((1 : Nat) : Int); omega)
      | .cond t y n, h, e1 =>
        have e1 : p < ((1 + (rwN y + rwN n) : Nat) : Int) := e1
        obtain ⟨ht, hy, hn⟩ := h.2.1 (by omega)
        have ly := rwN_len y
        have ln := rwN_len n
        have ly' : (rwD (rwPut (.lf d) (p - 1) y)).length = (rwD y).length := rwPut_len y
        have ln' : (rwD (rwPut (.lf d) (p - 1 - rwN y) n)).length = (rwD n).length := rwPut_len n
        have i : Stop g (dp + 1) (rwD (rwPut (.lf d) (p - 1) y) ++ rwD (rwPut (.lf d) (p - 1 - rwN y) n)) (p - 1).toNat (rwN y + rwN n) "statement" := by
          by_cases e2 : p - 1 < rwN y
          · exact (stop_more (stop_put hw y (by omega) e2 hy)).mono (by omega)
          · rw [rwPut_big y (by omega)]
            have z := stop_skipN (C := rwN y + rwN n) (pass_good y (by omega) hy) (stop_put hw n (by omega) (by omega) hn) (by omega) (by omega)
            rw [show (p - 1).toNat = rwN y + (p - 1 - rwN y).toNat by omega]
            exact z
        exact stop_inN (h.1 h0) (cond_R ht) inner_if i (by rw [List.length_append]; show _ ≤ 1 + (rwN y + rwN n) + rwN r; omega) (by show _ ≤ 1 + (rwN y + rwN n) + rwN r; omega)
      | .rep k b, h, e1 =>
        have e1 : p < ((1 + rwN b : Nat) : Int) := e1
        obtain ⟨hk, hb⟩ := h.2.1 (by omega)
        have lb := rwN_len b
        have lb' : (rwD (rwPut (.lf d) (p - 1) b)).length = (rwD b).length := rwPut_len b
        exact stop_inN (h.1 h0) (rep_R hk) inner_rep (stop_put hw b (by omega) (by omega) hb) (by show _ ≤ 1 + rwN b + rwN r; omega) (by show _ ≤ 1 + rwN b + rwN r; omega)
    · rw [if_neg (fun z => e1 z.2)]
      have ll : (rwD (rwPut (.lf d) (p - s.size) r)).length = (rwD r).length := rwPut_len r
      have P1 : Pass g dp (rwD [s]) (rwN [s]) (rwN [s]) := pass_good (p := p) [s] (by show ((s.size + 0 : Nat) : Int) ≤ p; omega) ⟨h.1, h.2.1, trivial⟩
      have z := stop_skipN (C := s.size + rwN r) P1 (stop_put hw r (by omega) (by omega) h.2.2) (by show _ + (s.size + 0) ≤ _; omega) (by omega)
      rw [show p.toNat = rwN [s] + (p - s.size).toNat by show _ = (s.size + 0) + _; omega]
      exact z
end G

set_option Elab.async false
set_option linter.all false
set_option maxRecDepth 100000
set_option maxHeartbeats 4000000
/-! What a put row leaves: sizes, right rows before it. Rows of a right program. -/
namespace G
open PySem PySem.Spec PyProof.Rows L2
theorem rwPut_cons (x : Rw) (p : Int) (s : Rw) (r : List Rw) : rwPut x p (s :: r) = (if p = 0 then x else if 0 < p ∧ p < s.size then Rw.put x p s else s) :: rwPut x (p - s.size) r := rfl
theorem rwN_cons (s : Rw) (r : List Rw) : rwN (s :: r) = s.size + rwN r := rfl
mutual
theorem put_size {x : Rw} : ∀ {p : Int} (s : Rw), 0 < p → p < s.size → p < (Rw.put x p s).size
  | p, .lf d, h, l => absurd l (by show ¬ p < ((1 : Nat) : Int); omega)
  | p, .cond t y n, h, l => by
    have l : p < ((1 + (rwN y + rwN n) : Nat) : Int) := l
    show p < ((1 + (rwN (rwPut x (p - 1) y) + rwN (rwPut x (p - 1 - rwN y) n)) : Nat) : Int)
    by_cases e : p - 1 < rwN y
    · have := rwPut_size (x := x) y (by omega) e
      omega
    · rw [rwPut_big y (by omega)]
      have := rwPut_size (x := x) (p := p - 1 - rwN y) n (by omega) (by omega)
      omega
  | p, .rep k b, h, l => by
    have l : p < ((1 + rwN b : Nat) : Int) := l
    show p < ((1 + rwN (rwPut x (p - 1) b) : Nat) : Int)
    have := rwPut_size (x := x) (p := p - 1) b (by omega) (by omega)
    omega
theorem rwPut_size {x : Rw} : ∀ {p : Int} (f : List Rw), 0 ≤ p → p < rwN f → p < rwN (rwPut x p f)
  | p, [], h, l => absurd l (by show ¬ p < ((0 : Nat) : Int); omega)
  | p, s :: r, h, l => by
    have l : p < ((s.size + rwN r : Nat) : Int) := l
    rw [rwPut_cons, rwN_cons]
    have := rw_pos x
    by_cases e : p = 0
    · rw [if_pos e]; omega
    rw [if_neg e]
    by_cases e1 : p < s.size
    · rw [if_pos ⟨by omega, e1⟩]
      have := put_size (x := x) s (by omega) e1
      omega
    · rw [if_neg (fun z => e1 z.2)]
      have := rwPut_size (x := x) (p := p - s.size) r (by omega) (by omega)
      omega
end
mutual
theorem put_le {x : Rw} (hx : x.size = 1) : ∀ {p : Int} (s : Rw), (Rw.put x p s).size ≤ s.size
  | p, .lf d => Nat.le_refl _
  | p, .cond t y n => by
    show 1 + (rwN (rwPut x (p - 1) y) + rwN (rwPut x (p - 1 - rwN y) n)) ≤ 1 + (rwN y + rwN n)
    have := rwPut_le hx (p := p - 1) y
    have := rwPut_le hx (p := p - 1 - rwN y) n
    omega
  | p, .rep k b => by
    show 1 + rwN (rwPut x (p - 1) b) ≤ 1 + rwN b
    have := rwPut_le hx (p := p - 1) b
    omega
theorem rwPut_le {x : Rw} (hx : x.size = 1) : ∀ {p : Int} (f : List Rw), rwN (rwPut x p f) ≤ rwN f
  | p, [] => Nat.le_refl _
  | p, s :: r => by
    rw [rwPut_cons, rwN_cons, rwN_cons]
    have := rwPut_le hx (p := p - s.size) r
    have := put_le hx (p := p) s
    have := rw_pos s
    split
    · omega
    · split <;> omega
end
mutual
theorem good_put {g : Int} {d : PyData} : ∀ {dp : Nat} {p : Int} (s : Rw), 0 < p → p < s.size → s.good g dp p → (Rw.put (.lf d) p s).good g dp p
  | dp, p, .lf d', _, _, h => h
  | dp, p, .cond t y n, h0, l, h => fun _ => by
    have l : p < ((1 + (rwN y + rwN n) : Nat) : Int) := l
    obtain ⟨ht, hy, hn⟩ := h h0
    refine ⟨ht, rwGood_put y hy, ?_⟩
    by_cases e : p - 1 < rwN y
    · have := rwPut_size (x := .lf d) y (by omega) e
      exact rwGood_neg _ (by omega)
    · rw [rwPut_big y (by omega)]
      exact rwGood_put n hn
  | dp, p, .rep k b, h0, l, h => fun _ => ⟨(h h0).1, rwGood_put b (h h0).2⟩
theorem rwGood_put {g : Int} {d : PyData} : ∀ {dp : Nat} {p : Int} (f : List Rw), rwGood g dp p f → rwGood g dp p (rwPut (.lf d) p f)
  | dp, p, [], _ => trivial
  | dp, p, s :: r, h => by
    by_cases hn : p < 0
    · rw [rwPut_neg _ hn]; exact h
    rw [rwPut_cons]
    by_cases e : p = 0
    · rw [if_pos e]
      exact ⟨h.1, good_neg (by omega) _, rwGood_neg _ (by show p - ((1 : Nat) : Int) < 0; omega)⟩
    rw [if_neg e]
    by_cases e1 : p < s.size
    · rw [if_pos ⟨by omega, e1⟩]
      have := put_size (x := .lf d) s (by omega) e1
      exact ⟨h.1, good_put s (by omega) e1 h.2.1, rwGood_neg _ (by omega)⟩
    · rw [if_neg (fun z => e1 z.2)]
      exact ⟨h.1, h.2.1, rwGood_put r h.2.2⟩
end
/-! ### right programs -/
mutual
def Sta.rw : Sta → Rw
  | .act a => .lf a.data
  | .cond t y n => .cond t.data (staRw y) (staRw n)
  | .rep k b => .rep k (staRw b)
def staRw : List Sta → List Rw
  | [] => []
  | s :: r => s.rw :: staRw r
end
mutual
theorem rw_data : ∀ s : Sta, s.rw.data = s.data
  | .act a => rfl
  | .cond t y n => by
    show PyData.tuple [.str "if", t.data, .tuple (rwD (staRw y)), .tuple (rwD (staRw n))] = .tuple [.str "if", t.data, .tuple (blkData y), .tuple (blkData n)]
    rw [rwD_sta y, rwD_sta n]
  | .rep k b => by
    show PyData.tuple [.str "repeat", .int k, .tuple (rwD (staRw b))] = .tuple [.str "repeat", .int k, .tuple (blkData b)]
    rw [rwD_sta b]
theorem rwD_sta : ∀ b : List Sta, rwD (staRw b) = blkData b
  | [] => rfl
  | s :: r => by
    show s.rw.data :: rwD (staRw r) = s.data :: blkData r
    rw [rw_data s, rwD_sta r]
end
mutual
theorem rw_size : ∀ s : Sta, s.rw.size = s.size
  | .act a => rfl
  | .cond t y n => by
    show 1 + (rwN (staRw y) + rwN (staRw n)) = 1 + (sizeB y + sizeB n)
    rw [rwN_sta y, rwN_sta n]
  | .rep k b => by
    show 1 + rwN (staRw b) = 1 + sizeB b
    rw [rwN_sta b]
theorem rwN_sta : ∀ b : List Sta, rwN (staRw b) = sizeB b
  | [] => rfl
  | s :: r => by
    show s.rw.size + rwN (staRw r) = s.size + sizeB r
    rw [rw_size s, rwN_sta r]
end
theorem rwGood_sta {g : Int} {W : Str → Prop} (hW : ∀ w, W w → wordB w = true) : ∀ {e dp : Nat} {p : Int} (b : List Sta), e + dp ≤ 5 → (∀ s ∈ b, StaR g W e s) → rwGood g dp p (staRw b)
  | _, _, _, [], _, _ => trivial
  | 0, _, _, s :: r, _, h => (h s (List.mem_cons_self ..)).elim
  | e + 1, dp, p, .act a :: r, l, h => ⟨fun _ => by omega, fun _ => ⟨act_R hW a (h _ (List.mem_cons_self ..)), fun _ => inner_act a⟩, rwGood_sta hW r l fun s hs => h s (List.mem_cons_of_mem _ hs)⟩
  | e + 1, dp, p, .cond t y n :: r, l, h => by
    obtain ⟨ht, hy, hn⟩ := h _ (List.mem_cons_self ..)
    exact ⟨fun _ => by omega, fun _ => ⟨test_R hW ht, rwGood_sta hW y (by omega) hy, rwGood_sta hW n (by omega) hn⟩, rwGood_sta hW r l fun s hs => h s (List.mem_cons_of_mem _ hs)⟩
  | e + 1, dp, p, .rep k b :: r, l, h => by
    obtain ⟨hk, hb⟩ := h _ (List.mem_cons_self ..)
    exact ⟨fun _ => by omega, fun _ => ⟨by omega, rwGood_sta hW b (by omega) hb⟩, rwGood_sta hW r l fun s hs => h s (List.mem_cons_of_mem _ hs)⟩
end G

set_option Elab.async false
set_option linter.all false
set_option maxRecDepth 100000
set_option maxHeartbeats 4000000
/-! _law_blocks of any row. -/
namespace G
open PySem PySem.Spec PyProof.Rows L2
def hdOk : PyData → Bool
  | .tuple (.str _ :: _ :: _ :: _) => true
  | .tuple (_ :: _ :: _ :: _) => false
  | _ => true
theorem lc_partsV {K : PySem.W.Frag} {F : Addr → Prop} {H1 : Hp} {p D : Addr} {ys : List V} {ds : List PyData} {x0 x1 x2 : Option V} {Qd : Hp → Prop} (gp : H1 p = some (.tup ys)) (gx : GVs F H1 ys ds) (hl : ds.length ≤ 1000) (nD : H1 D = none)
    (q : ∀ H' zs, Same H1 H' → H' D = some (.lst zs) → GVs F H' zs (ds.filter isTupD) → Qd H') :
    ∃ W : Nat → Nat → Hp → Prop, (∃ m, W 0 m (upd H1 D (.lst []))) ∧ ∀ i m H, W i m H →
      ((Itt K p).stop i H ∧ Qd H) ∨ ((Itt K p).go i H ∧ ∃ Nx : Hp → Prop, (∀ H', Nx H' → ∃ m', m' < m ∧ W (i + 1) m' H') ∧ ∀ x H', (Itt K p).yld i H x H' → gName 2 x (wipe [x0, x1, x2] [2]) H' fun σ2 H2 => wipe σ2 [2] = wipe [x0, x1, x2] [2] ∧ tB (tCB (rIsi K) (tCons (tVar 2) (tCons (tC (V.ty "tuple")) tNil))) σ2 H2 fun b H3 =>
        if b = true then tVar 2 σ2 H3 fun y H4 => ∃ acc, H4 D = some (.lst acc) ∧ acc.length < sizeLine ∧ Nx (upd H4 D (.lst (acc ++ [y]))) else Nx H3) := by
  have el := gx.len
  refine lc_tup (xs := ys) (fun i H' => Ch [D] H1 H' ∧ ∃ zs, H' D = some (.lst zs) ∧ zs.length ≤ i ∧ GVs F H1 zs ((ds.take i).filter isTupD)) ⟨(Ch.refl _ _).new nD, [], upd_same, Nat.le_refl _, .nil⟩ (fun i H' _ h => SqT.of (h.1.tu _ _ gp)) ?_ ?_
  · rintro i x H' hx ⟨ch, zs, gD, lz, gz⟩
    obtain ⟨d, hd, gdx⟩ := gx.at hx
    have hi := (List.getElem?_eq_some_iff.mp hd).1
    have s0 : Same H1 H' := (ch.kp.fresh nD).toSame
    refine ⟨rfl, _, rfl, _, _, _, _, _, rfl, .ty "tuple", (gdx.same s0).ty, kit_tup d, ?_⟩
    refine ⟨_, rfl, ?_⟩
    cases e : isTupD d with
    | false =>
      refine iteF ⟨ch, zs, gD, by omega, ?_⟩
      rw [List.take_add_one, hd, List.filter_append]
      simp [e]
      exact gz
    | true =>
      refine iteT ⟨_, rfl, _, gD, small1000 (by omega), ch.put (by simp) gD (fun xs z => by cases z), _, upd_same, by rw [List.length_append]; simp; omega, ?_⟩
      have : (ds.take (i + 1)).filter isTupD = (ds.take i).filter isTupD ++ [d] := by
        rw [List.take_add_one, hd, List.filter_append]
        simp [e]
      rw [this]
      exact gz.snoc gdx
  · rintro H' ⟨ch, zs, gD, _, gz⟩
    rw [el, List.take_length] at gz
    have s0 : Same H1 H' := (ch.kp.fresh nD).toSame
    exact q H' zs s0 gD (gz.same s0)
section
variable {P : Program} {w : World} {K : PySem.W.Frag} {mg : Str → Option Value} {base : Heap}
abbrev s__law_blocks : Stmt := top 54
abbrev n__law_blocks : List Str := ["_law_row_here", "_law_has_blocks", "_law_part"]
theorem sc__law_blocks : FnScope n__law_blocks ["_law_row_here"] (defScope s__law_blocks) := ⟨rfl, rfl, rfl, by decide +kernel, rfl, by decide +kernel, by decide +kernel⟩
def spLBd : Sp := fun vs H Q _ => ∃ (F : Addr → Prop) (v : V) (d : PyData), vs = [v] ∧ GV F H v d ∧ hdOk d = true ∧ (∀ l, d = .tuple l → l.length ≤ 1000) ∧ ∀ (H' : Hp) (p : Addr) (xs : List V), Same H H' → H p = none → H' p = some (.lst xs) → GVs F H' xs ((partsD d).filter isTupD) → Q (.ref p) H'
theorem ok_lbd {f : Addr} {fd : FuncData} (F : Fun K "_law_blocks" "_law_blocks" s__law_blocks f fd) (T : Bi mg) (z_isi : mg "isinstance" = none) (z_tuple : mg "tuple" = none) : FnOk P w K mg base CX0 1 f fd ["_law_row_here"] spLBd := by
  refine F.ok sc__law_blocks (fun vs H Q E ⟨_, v, s, ev, _⟩ => by rw [ev]; rfl) (fun cdv A outer s0 H vs Q E hr ⟨FA, v, d, ev, gd, hh, ll, q⟩ => ?_)
  subst ev
  refine ⟨_, (pss_cons (ps_set (i := 1) sc__law_blocks.nd rfl (.inl rfl) (pe_and (pe_callB (show CallR _ (.builtin "isinstance") (rIsi K) from call_isi) (by rfl) z_isi (by decide +kernel) (pa_cons (pv 0) (pa_cons (pe_bltn (v := .ty "tuple") (by rfl) z_tuple rfl rfl) pa_nil))) (pe_and (pe_cmpR op_gt (pe_callB call_len_seq (by rfl) T.z_len (by decide +kernel) (pa_cons (pv 0) pa_nil)) pe_int (nomark _)) (pe_one (pe_or (pe_cmpR op_eq (pe_ix ix_tup (pv 0) pe_int (fun _ _ => rfl)) pe_str (nomark _)) (pe_one (pe_cmpR op_eq (pe_ix ix_tup (pv 0) pe_int (fun _ _ => rfl)) pe_str (nomark _))))))))
      (pss_one (ps_ret (pe_ifExp (pt_truth (pv 1) (by intro _; rfl)) (pe_lc (own := [("_law_part", 2)]) (by rfl) sc__law_blocks.nd (pi_tup (pe_slice sl_tupA (pv 0) (po_some pe_int) po_none)) (blkOk_by (N := n__law_blocks) (sc := defScope s__law_blocks) (by decide +kernel)) (fun _ _ _ _ _ => (pg_name (i := 2) sc__law_blocks.nd rfl (.inl rfl))) (fun _ _ _ _ _ => pts_one (pt_val (pe_callB (show CallR _ (.builtin "isinstance") (rIsi K) from call_isi) (by rfl) z_isi (by decide +kernel) (pa_cons (pv 2) (pa_cons (pe_bltn (v := .ty "tuple") (by rfl) z_tuple rfl rfl) pa_nil))))) (fun _ _ _ _ _ => (pv 2))) (pe_lst pa_nil))))), ?_⟩
  refine ⟨_, rfl, _, _, _, _, _, rfl, .ty "tuple", gd.ty, kit_tup d, _, rfl, ?_⟩
  have nope : (partsD d).filter isTupD = [] → ∀ H', Same H H' → ∀ p, H' p = none → Q (.ref p) (upd H' p (.lst [])) := fun e H' s' p np => q _ p [] (Same.trans s' (Same.up np)) (s'.free np) upd_same (by rw [e]; exact .nil)
  cases e : isTupD d with
  | false =>
    have e2 : (partsD d).filter isTupD = [] := by cases d <;> first | rfl | cases e
    exact iteF ⟨_, rfl, _, rfl, iteF ⟨line1000 (Nat.zero_le _), fun p np => nope e2 H (Same.refl _) p np⟩⟩
  | true =>
    obtain ⟨ds, rfl⟩ := tupD_of e
    obtain ⟨r, xs, rfl, gr, gx⟩ := gd_tup gd
    have lx := gx.len
    have ll := ll _ rfl
    refine iteT ⟨_, rfl, _, _, rfl, .inr (SqT.of gr), _, _, rfl, rfl, _, rfl, ite2 (fun h => ?_) (fun h => ?_)⟩
    · have h : (2 : Int) < (xs.length : Int) := of_decide_eq_true h
      match ds, hh, lx, gx, ll with
      | [], _, lx, _, _ => rw [lx] at h; exact absurd h (by simp)
      | [_], _, lx, _, _ => rw [lx] at h; exact absurd h (by simp)
      | [_, _], _, lx, _, _ => rw [lx] at h; exact absurd h (by simp)
      | .str wd :: dx :: dy :: dr, _, lx, gx, ll =>
        obtain ⟨v0, xs1, rfl, g0, gx1⟩ := gds_cons gx
        obtain ⟨v1, ys2, rfl, g1, gx2⟩ := gds_cons gx1
        cases g0
        have eP : partsD (.tuple (.str wd :: dx :: dy :: dr)) = if blkW wd then dy :: dr else [] := rfl
        refine ⟨_, rfl, r, _, _, _, rfl, rfl, SqT.of gr, atI_nat (j := 0) rfl, rfl, _, rfl, ?_⟩
        by_cases e1 : wd = Str.ofString "if"
        · rw [show decide (V.str wd = V.str (Str.ofString "if")) = true from decide_eq_true (congrArg V.str e1)]
          have hb : blkW wd = true := by rw [e1]; decide +kernel
          refine iteT ⟨_, rfl, _, rfl, iteT ?_⟩
          have ec : cutV (V.str wd :: v1 :: ys2) (some 2) none = ys2 := cut2 _ _ _
          refine ⟨_, rfl, _, rfl, r, _, rfl, SqT.of gr, fun h => ?_, fun _ p np => ?_⟩
          · exact absurd h.1 (sIx2 _ _ _)
          · rw [ec]
            have s1 := Same.up (o := HO.tup ys2) np
            refine ⟨p, rfl, ⟨_, SqT.of upd_same⟩, fun D nD => lc_partsV upd_same (gx2.same s1) (by simp only [List.length_cons] at ll ⊢; omega) nD fun H' zs s' gD gz => q H' D zs (Same.trans s1 s') (s1.free nD) gD (by rw [eP, if_pos hb]; exact gz)⟩
        rw [show decide (V.str wd = V.str (Str.ofString "if")) = false from decide_eq_false fun z => e1 (V.str.inj z)]
        refine iteF ⟨_, rfl, r, _, _, _, rfl, rfl, SqT.of gr, atI_nat (j := 0) rfl, rfl, ?_⟩
        by_cases e2 : wd = Str.ofString "repeat"
        · rw [show decide (V.str wd = V.str (Str.ofString "repeat")) = true from decide_eq_true (congrArg V.str e2)]
          have hb : blkW wd = true := by rw [e2]; decide +kernel
          refine ⟨_, rfl, _, rfl, iteT ?_⟩
          have ec : cutV (V.str wd :: v1 :: ys2) (some 2) none = ys2 := cut2 _ _ _
          refine ⟨_, rfl, _, rfl, r, _, rfl, SqT.of gr, fun h => ?_, fun _ p np => ?_⟩
          · exact absurd h.1 (sIx2 _ _ _)
          · rw [ec]
            have s1 := Same.up (o := HO.tup ys2) np
            refine ⟨p, rfl, ⟨_, SqT.of upd_same⟩, fun D nD => lc_partsV upd_same (gx2.same s1) (by simp only [List.length_cons] at ll ⊢; omega) nD fun H' zs s' gD gz => q H' D zs (Same.trans s1 s') (s1.free nD) gD (by rw [eP, if_pos hb]; exact gz)⟩
        · rw [show decide (V.str wd = V.str (Str.ofString "repeat")) = false from decide_eq_false fun z => e2 (V.str.inj z)]
          have hb : blkW wd = false := by
            simp [blkW, inV, e1, e2]
            exact ⟨decide_eq_false fun z => e1 (by first | exact (V.str.inj z).symm | exact z.symm), decide_eq_false fun z => e2 (by first | exact (V.str.inj z).symm | exact z.symm)⟩
          exact ⟨_, rfl, _, rfl, iteF ⟨line1000 (Nat.zero_le _), fun p np => nope (by rw [eP, hb]; rfl) H (Same.refl _) p np⟩⟩
    · have h : ¬ (2 : Int) < (xs.length : Int) := fun z => h (decide_eq_true z)
      refine ⟨_, rfl, _, rfl, iteF ⟨line1000 (Nat.zero_le _), fun p np => nope ?_ H (Same.refl _) p np⟩⟩
      match ds, lx with
      | [], _ => rfl
      | [d1], _ => cases d1 <;> rfl
      | [d1, d2], _ =>
        cases d1 with
        | str z =>
          show (if blkW z then [] else []).filter isTupD = []
          split <;> rfl
        | _ => rfl
      | _ :: _ :: _ :: _, lx => rw [lx] at h; exact absurd (by simp only [List.length_cons]; omega) h
end
end G

set_option Elab.async false
set_option linter.all false
set_option maxRecDepth 100000
set_option maxHeartbeats 4000000
/-! _law_flat: how many rows. -/
namespace G
open PySem PySem.Spec PyProof.Rows L2
def lfOk (d : PyData) : Prop := hdOk d = true ∧ (∀ l, d = .tuple l → l.length ≤ 1000) ∧ ∀ b ∈ (partsD d).filter isTupD, b = .tuple []
def okR : Nat → Rw → Prop
  | 0, _ => False
  | _ + 1, .lf d => lfOk d
  | e + 1, .cond _ y n => (∀ s ∈ y, okR e s) ∧ ∀ s ∈ n, okR e s
  | e + 1, .rep _ b => ∀ s ∈ b, okR e s
def bkD (b : List Rw) : PyData := .tuple (rwD b)
theorem rwD_eq : ∀ f : List Rw, rwD f = f.map Rw.data
  | [] => rfl
  | s :: r => by show s.data :: rwD r = s.data :: r.map Rw.data; rw [rwD_eq r]
theorem rwN_eq : ∀ f : List Rw, rwN f = (f.map Rw.size).sum
  | [] => rfl
  | s :: r => by show s.size + rwN r = s.size + (r.map Rw.size).sum; rw [rwN_eq r]
theorem all_nil : ∀ {l : List PyData}, (∀ b ∈ l, b = .tuple []) → ∃ bs : List (List Rw), l = bs.map bkD ∧ (∀ b ∈ bs, b = []) ∧ (bs.map rwN).sum = 0
  | [], _ => ⟨[], rfl, (fun _ z => nomatch z), rfl⟩
  | x :: r, h => by
    obtain ⟨bs, e, a, z⟩ := all_nil fun b hb => h b (List.mem_cons_of_mem _ hb)
    refine ⟨[] :: bs, ?_, ?_, ?_⟩
    · rw [h x (List.mem_cons_self ..), e]; rfl
    · intro b hb
      rcases List.mem_cons.mp hb with rfl | hb
      · rfl
      · exact a b hb
    · show 0 + (bs.map rwN).sum = 0
      omega
theorem parts_rw : ∀ {e : Nat} {s : Rw}, okR e s → hdOk s.data = true ∧ (∀ l, s.data = .tuple l → l.length ≤ 1000) ∧ ∃ (e' : Nat) (bs : List (List Rw)), e = e' + 1 ∧ (partsD s.data).filter isTupD = bs.map bkD ∧ (∀ b ∈ bs, ∀ s ∈ b, okR e' s) ∧ s.size = 1 + (bs.map rwN).sum
  | 0, _, h => h.elim
  | e + 1, .lf d, h => by
    obtain ⟨h1, h2, h3⟩ := h
    obtain ⟨bs, a, b, c⟩ := all_nil h3
    exact ⟨h1, h2, e, bs, rfl, a, (fun x hx s hs => by rw [b x hx] at hs; cases hs), by show 1 = 1 + _; omega⟩
  | e + 1, .cond t y n, h => by
    refine ⟨rfl, fun l z => ?_, e, [y, n], rfl, ?_, ?_, ?_⟩
    · cases z; exact Nat.le_of_ble_eq_true rfl
    · show List.filter isTupD (if blkW (Str.ofString "if") then [PyData.tuple (rwD y), PyData.tuple (rwD n)] else []) = _
      rw [show blkW (Str.ofString "if") = true by decide +kernel]
      rfl
    · intro b hb
      simp only [List.mem_cons, List.not_mem_nil, or_false] at hb
      rcases hb with rfl | rfl
      · exact h.1
      · exact h.2
    · show 1 + (rwN y + rwN n) = 1 + (rwN y + (rwN n + 0))
      omega
  | e + 1, .rep k b, h => by
    refine ⟨rfl, fun l z => ?_, e, [b], rfl, ?_, ?_, ?_⟩
    · cases z; exact Nat.le_of_ble_eq_true rfl
    · show List.filter isTupD (if blkW (Str.ofString "repeat") then [PyData.tuple (rwD b)] else []) = _
      rw [show blkW (Str.ofString "repeat") = true by decide +kernel]
      rfl
    · intro x hx
      rw [List.mem_singleton.mp hx]
      exact h
    · show 1 + rwN b = 1 + (rwN b + 0)
      omega
theorem sum_take (bs : List (List Rw)) (i : Nat) : ((bs.take i).map rwN).sum ≤ (bs.map rwN).sum := by
  have := List.take_append_drop i bs
  conv => rhs; rw [← this]
  rw [List.map_append, List.sum_append]
  omega
theorem rwN_take (f : List Rw) (i : Nat) : rwN (f.take i) ≤ rwN f := by
  rw [rwN_eq, rwN_eq]
  conv => rhs; rw [← List.take_append_drop i f]
  rw [List.map_append, List.sum_append]
  omega
theorem rwN_snoc {f : List Rw} {j : Nat} {s : Rw} (h : f[j]? = some s) : rwN (f.take (j + 1)) = rwN (f.take j) + s.size := by
  rw [rwN_eq, rwN_eq, List.take_add_one, h, List.map_append, List.sum_append]
  show _ + (s.size + 0) = _
  omega
theorem sum_snoc {bs : List (List Rw)} {i : Nat} {b : List Rw} (h : bs[i]? = some b) : ((bs.take (i + 1)).map rwN).sum = ((bs.take i).map rwN).sum + rwN b := by
  rw [List.take_add_one, h, List.map_append, List.sum_append]
  show _ + (rwN b + 0) = _
  omega
def spFl (e : Nat) : Sp := fun vs H Q _ => ∃ (F : Addr → Prop) (v : V) (f : List Rw) (k : Int), vs = [v, .int k] ∧ GV F H v (.tuple (rwD f)) ∧ (∀ s ∈ f, okR e s) ∧ rwN f ≤ 10000 ∧ ∀ (H' : Hp) (L : Addr) (acc : List V), Same H H' → H L = none → H' L = some (.lst acc) → acc.length = rwN f → Q (.ref L) H'
def spFl' : Nat → Sp
  | 0 => fun _ _ _ _ => False
  | e + 1 => spFl e
section
variable {P : Program} {w : World} {K : PySem.W.Frag} {mg : Str → Option Value} {base : Heap}
abbrev s__law_flat : Stmt := top 55
abbrev n__law_flat : List Str := ["_law_block", "_law_depth", "_law_found", "_law_row_here", "_law_inner_here"]
theorem sc__law_flat : FnScope n__law_flat ["_law_block", "_law_depth"] (defScope s__law_flat) := ⟨rfl, rfl, rfl, by decide +kernel, rfl, by decide +kernel, by decide +kernel⟩
theorem same_put {H H1 H2 : Hp} {L : Addr} (s : Same H H1) (n : H L = none) (c : Ch [L] H1 H2) : Same H H2 :=
  (Ch.lessS (S := []) ((Ch.same s).trans c) (fun a z => .inr (by rw [List.mem_singleton.mp z]; exact n))).kp.toSame
theorem ok_fl {f fB fS : Addr} {fd dB dS : FuncData} {d k0 : Nat} (F : Fun K "_law_flat" "_law_flat" s__law_flat f fd)
    (DB : Df K mg "_law_blocks" s__law_blocks ["_law_row_here"] fB dB) (GB : FnOk P w K mg base CX0 1 fB dB ["_law_row_here"] spLBd)
    (mS : mg "_law_flat" = some (.ref fS)) (kS : PySem.W.keepIn K (.ref fS) = true) (bS : Binds K dS ["_law_block", "_law_depth"] []) (hk0 : 1 ≤ k0) (GS : FnOk P w K mg base CX0 k0 fS dS ["_law_block", "_law_depth"] (spFl' d)) : FnOk P w K mg base CX0 (k0 + 1) f fd ["_law_block", "_law_depth"] (spFl d) := by
  refine F.ok sc__law_flat (fun vs H Q E ⟨_, v, b, k, ev, _⟩ => by rw [ev]; rfl) (fun cdv A outer s0 H vs Q E hr ⟨FA, v, b, k, ev, gd, ok, hz, q⟩ => ?_)
  subst ev
  have hr1 : Room 1 _ := hr.mono hk0
  refine ⟨_, (pss_cons (ps_set (i := 2) sc__law_flat.nd rfl (.inl rfl) (pe_lst pa_nil))
      (pss_cons (ps_for PassesOwn.never rfl (pi_tup (pv 0)) (pg_name (i := 3) sc__law_flat.nd rfl (.inl rfl))
      (pss_cons (ps_expr (pe_bm PySem.F.plainAttrs_list PySem.F.slot_list_append PySem.F.type_list_append mt_append (pv 2) (pa_cons (pe_tup (pa_cons (pv 1) (pa_cons (pv 3) pa_nil))) pa_nil)))
      (pss_one (ps_for PassesOwn.never rfl (pi_list (pe_call GB hr1 (by rfl) DB.m DB.F.kp DB.b .nil pass0 (pa_cons (pv 3) pa_nil))) (pg_name (i := 4) sc__law_flat.nd rfl (.inl rfl))
      (pss_one (ps_set (i := 2) sc__law_flat.nd rfl (.inl rfl) (pe_op op_cat (pv 2) (pe_call GS hr (by rfl) mS kS bS .nil pass0 (pa_cons (pv 4) (pa_cons (pe_op op_addE (pv 1) pe_int) pa_nil))))))))))
      (pss_one (ps_ret (pv 2))))), ?_⟩
  obtain ⟨r0, xs, rfl, gr0, gx⟩ := gd_tup gd
  refine ⟨Nat.zero_le _, fun Ln nLn => ?_⟩
  have s1 := Same.up (o := HO.lst []) nLn
  have gL1 : upd H Ln (HO.lst []) Ln = some (.lst []) := upd_same
  generalize upd H Ln (HO.lst []) = H1 at s1 gL1 ⊢
  refine ⟨_, rfl, r0, rfl, ⟨_, SqT.of (s1 _ _ gr0)⟩, for_tup (xs := xs) (fun j σ H' => Same H H' ∧ ∃ (L : Addr) (acc : List V) (x3 x4 : Option V), H L = none ∧ H' L = some (.lst acc) ∧ acc.length = rwN (b.take j) ∧ σ = [some (.ref r0), some (.int k), some (.ref L), x3, x4])
    ⟨s1, Ln, [], none, none, nLn, gL1, rfl, rfl⟩ (fun j σ H' _ h => SqT.of (h.1 _ _ gr0)) ?_ ?_⟩
  · rintro j x σ H' hx ⟨sm, L, acc, x3, x4, nL, gL, ea, rfl⟩
    obtain ⟨dt, edt, tdv⟩ := (gx.same sm).at hx
    rw [rwD_eq, List.getElem?_map] at edt
    obtain ⟨s, hs, rfl⟩ := Option.map_eq_some_iff.mp edt
    have oks := ok s (List.mem_of_getElem? hs)
    obtain ⟨hh, hl, e', bs, rfl, ep, okb, esz⟩ := parts_rw oks
    have e1 := rwN_snoc hs
    have e2 := rwN_take b (j + 1)
    refine ⟨_, rfl, .inl ⟨rfl, _, SqL.of gL⟩, _, rfl, _, rfl, line1000 (Nat.le_of_ble_eq_true rfl), fun t0 n0 => ?_⟩
    have s2 := Same.up (o := HO.tup [V.int k, x]) n0
    have gL2 := s2 _ _ gL
    have sm2 := Same.trans sm s2
    have tdx2 := tdv.same s2
    generalize upd H' t0 (HO.tup [V.int k, x]) = H2 at s2 gL2 sm2 tdx2 ⊢
    refine ⟨L, _, _, rfl, rfl, gL2, lt_line (by omega), ?_⟩
    have c3 : Ch [L] H2 (upd H2 L (.lst (acc ++ [.ref t0]))) := (Ch.refl _ _).put (by simp) gL2 (fun xs z => by cases z)
    have gL3 : upd H2 L (.lst (acc ++ [.ref t0])) L = some (.lst (acc ++ [.ref t0])) := upd_same
    have sm3 := same_put sm2 nL c3
    have tdx3 : GV FA (upd H2 L (.lst (acc ++ [.ref t0]))) x s.data := by
      obtain ⟨dt, edt, td0⟩ := gx.at hx
      rw [rwD_eq, List.getElem?_map, hs] at edt
      cases edt
      exact td0.same sm3
    generalize upd H2 L (.lst (acc ++ [.ref t0])) = H3 at c3 gL3 tdx3 sm3 ⊢
    refine ⟨_, rfl, FA, x, s.data, rfl, tdx3, hh, hl, fun H4 p ps s4 np gp gps => ?_⟩
    rw [ep] at gps
    have lps : ps.length = bs.length := by rw [gps.len, List.length_map]
    have sm4 := Same.trans sm3 s4
    refine ⟨p, rfl, ⟨_, SqL.of gp⟩, for_list (xs := ps) (fun i σ H' => Same H4 H' ∧ ∃ (L : Addr) (ac : List V) (x4 : Option V), H L = none ∧ H' L = some (.lst ac) ∧ ac.length = rwN (b.take j) + 1 + ((bs.take i).map rwN).sum ∧ σ = [some (.ref r0), some (.int k), some (.ref L), some x, x4])
      ⟨Same.refl _, L, acc ++ [.ref t0], x4, nL, s4 _ _ gL3, ?_, rfl⟩ (fun i σ H' _ h => SqL.of (h.1 _ _ gp)) ?_ ?_⟩
    · rw [List.length_append, ea]
      rfl
    · rintro i y σ H5 hy ⟨s5, L5, ac, y4, nL5, gL5, e5, rfl⟩
      obtain ⟨dp, edp, tdy⟩ := (gps.same s5).at hy
      rw [List.getElem?_map] at edp
      obtain ⟨pb, hpb, rfl⟩ := Option.map_eq_some_iff.mp edp
      have e6 := sum_take bs (i + 1)
      have e7 := sum_snoc hpb
      refine ⟨_, rfl, _, rfl, _, rfl, _, _, rfl, rfl, fun z ez => ⟨FA, y, pb, z, rfl, tdy, okb pb (List.mem_of_getElem? hpb), by omega, fun H6 qa zs s6 nq gq eq => ⟨L5, qa, _, _, rfl, rfl, s6 _ _ gL5, gq, Nat.le_of_lt (lt_line (by omega)), fun np nnp => ?_⟩⟩⟩
      have sn := Same.up (o := HO.lst (ac ++ zs)) nnp
      have sm6 := Same.trans sm4 (Same.trans s5 s6)
      refine ⟨Same.trans s5 (Same.trans s6 sn), np, ac ++ zs, _, sm6.free nnp, upd_same, ?_, rfl⟩
      rw [List.length_append]
      omega
    · rintro σ H5 ⟨s5, L5, ac, y4, nL5, gL5, e5, rfl⟩
      refine ⟨Same.trans sm4 s5, L5, ac, _, _, nL5, gL5, ?_, rfl⟩
      rw [lps, List.take_length] at e5
      omega
  · rintro σ H' ⟨sm, L, acc, x3, x4, nL, gL, ea, rfl⟩
    have lx : xs.length = b.length := by rw [gx.len, rwD_eq, List.length_map]
    rw [lx, List.take_length] at ea
    exact ⟨_, rfl, q H' L acc sm nL gL ea⟩
theorem ok_flAll {f fB : Addr} {fd dB : FuncData} (D : Df K mg "_law_flat" s__law_flat ["_law_block", "_law_depth"] f fd)
    (DB : Df K mg "_law_blocks" s__law_blocks ["_law_row_here"] fB dB) (GB : FnOk P w K mg base CX0 1 fB dB ["_law_row_here"] spLBd) : FnOk P w K mg base CX0 7 f fd ["_law_block", "_law_depth"] (spFl 5) := by
  have Z : FnOk P w K mg base CX0 1 f fd ["_law_block", "_law_depth"] (spFl' 0) := ⟨fun _ _ _ _ h => h.elim, fun _ _ _ _ _ _ _ _ _ _ _ _ _ h => h.elim⟩
  have B0 := ok_fl (d := 0) D.F DB GB D.m D.F.kp D.b (by decide) Z
  have B1 := ok_fl (d := 1) D.F DB GB D.m D.F.kp D.b (by decide) B0
  have B2 := ok_fl (d := 2) D.F DB GB D.m D.F.kp D.b (by decide) B1
  have B3 := ok_fl (d := 3) D.F DB GB D.m D.F.kp D.b (by decide) B2
  have B4 := ok_fl (d := 4) D.F DB GB D.m D.F.kp D.b (by decide) B3
  exact ok_fl (d := 5) D.F DB GB D.m D.F.kp D.b (by decide) B4
end
end G

set_option Elab.async false
set_option linter.all false
set_option maxRecDepth 100000
set_option maxHeartbeats 4000000
/-! For _law_put: on paper. -/
namespace G
open PySem PySem.Spec PyProof.Rows L2
def put1 (x : Rw) (p : Int) (s : Rw) : Rw := if p = 0 then x else if 0 < p ∧ p < s.size then Rw.put x p s else s
theorem rwPut_at {x : Rw} : ∀ {p : Int} {f : List Rw} {j : Nat} {s : Rw}, f[j]? = some s → (rwPut x p f)[j]? = some (put1 x (p - rwN (f.take j)) s)
  | _, [], _, _, h => by cases h
  | p, a :: r, 0, s, h => by
    cases h
    show some (put1 x p a) = some (put1 x (p - ((0 : Nat) : Int)) a)
    rw [show p - ((0 : Nat) : Int) = p by omega]
  | p, a :: r, j + 1, s, h => by
    have h : r[j]? = some s := h
    have e := rwPut_at (x := x) (p := p - a.size) h
    show (rwPut x (p - a.size) r)[j]? = _
    rw [e]
    have : ((rwN ((a :: r).take (j + 1)) : Nat) : Int) = a.size + rwN (r.take j) := by
      show ((a.size + rwN (r.take j) : Nat) : Int) = _
      push_cast; rfl
    rw [this, show p - a.size - rwN (r.take j) = p - (a.size + rwN (r.take j)) by omega]
theorem rwPut_count {x : Rw} : ∀ {p : Int} (f : List Rw), (rwPut x p f).length = f.length
  | _, [] => rfl
  | p, s :: r => congrArg (· + 1) (rwPut_count (x := x) (p := p - s.size) r)
theorem rwPut_step {x : Rw} {p : Int} {f : List Rw} {j : Nat} {s : Rw} (h : f[j]? = some s) : rwD ((rwPut x p f).take (j + 1)) = rwD ((rwPut x p f).take j) ++ [(put1 x (p - rwN (f.take j)) s).data] := by
  rw [rwD_eq, rwD_eq, List.take_add_one, rwPut_at h, List.map_append]
  rfl
mutual
theorem okR_put {d : PyData} (hd : lfOk d) : ∀ {e : Nat} {p : Int} (s : Rw), okR e s → okR e (Rw.put (.lf d) p s)
  | 0, _, _, h => h.elim
  | e + 1, p, .lf _, h => h
  | e + 1, p, .cond t y n, h => ⟨okF_put hd y h.1, okF_put hd n h.2⟩
  | e + 1, p, .rep k b, h => okF_put hd b h
theorem okF_put {d : PyData} (hd : lfOk d) : ∀ {e : Nat} {p : Int} (f : List Rw), (∀ s ∈ f, okR e s) → ∀ s ∈ rwPut (.lf d) p f, okR e s
  | e, p, [], _ => fun _ z => nomatch z
  | e, p, s :: r, h => by
    intro x hx
    rw [rwPut_cons] at hx
    rcases List.mem_cons.mp hx with rfl | hx
    · have hs := h s (List.mem_cons_self ..)
      split
      · cases e with
        | zero => exact hs.elim
        | succ e => exact hd
      · split
        · exact okR_put hd s hs
        · exact hs
    · exact okF_put hd r (fun s hs => h s (List.mem_cons_of_mem _ hs)) x hx
end
theorem okR_mono : ∀ {e e' : Nat} {s : Rw}, e ≤ e' → okR e s → okR e' s
  | 0, _, _, _, h => h.elim
  | e + 1, 0, _, l, _ => absurd l (by omega)
  | e + 1, e' + 1, .lf _, _, h => h
  | e + 1, e' + 1, .cond t y n, l, h => ⟨fun s hs => okR_mono (by omega) (h.1 s hs), fun s hs => okR_mono (by omega) (h.2 s hs)⟩
  | e + 1, e' + 1, .rep k b, l, h => fun s hs => okR_mono (by omega) (h s hs)
/-- wrong rows are leaves -/
theorem lf_wr {d : PyData} (h : wrOk d = true) (l : ∀ r, d = .tuple r → r.length ≤ 1000) : lfOk d := by
  have A : ∀ ds : List PyData, ds.all emptyT = true → ∀ b ∈ ds.filter isTupD, b = .tuple [] := fun ds h b hb => by
    obtain ⟨m, t⟩ := List.mem_filter.mp hb
    have e := List.all_eq_true.mp h b m
    obtain ⟨r, rfl⟩ := tupD_of t
    cases r with
    | nil => rfl
    | cons _ _ => cases e
  have N : partsD d = [] → ∀ b ∈ (partsD d).filter isTupD, b = .tuple [] := fun z b hb => by rw [z] at hb; cases hb
  match d, h with
  | .tuple (.str w :: x :: y :: r), h =>
    refine ⟨rfl, l, ?_⟩
    have h : (!(blkW w) || (y :: r).all emptyT) = true := h
    show ∀ b ∈ (if blkW w then y :: r else []).filter isTupD, _
    cases e : blkW w with
    | false => intro b hb; cases hb
    | true =>
      rw [e] at h
      exact A _ h
  | .tuple [], _ => exact ⟨rfl, l, N rfl⟩
  | .tuple [a], _ => exact ⟨by cases a <;> rfl, l, N (by cases a <;> rfl)⟩
  | .tuple [.str w, b], _ => exact ⟨rfl, l, N (by show (if blkW w then [] else []) = []; split <;> rfl)⟩
  | .none, _ => exact ⟨rfl, l, N rfl⟩
  | .bool _, _ => exact ⟨rfl, l, N rfl⟩
  | .int _, _ => exact ⟨rfl, l, N rfl⟩
  | .str _, _ => exact ⟨rfl, l, N rfl⟩
  | .list _, _ => exact ⟨rfl, l, N rfl⟩
  | .dict _, _ => exact ⟨rfl, l, N rfl⟩
  | .tuple (a :: b :: r), h =>
    cases a with
    | str w =>
      cases r with
      | nil => exact ⟨rfl, l, N (by show (if blkW w then [] else []) = []; split <;> rfl)⟩
      | cons y r =>
        refine ⟨rfl, l, ?_⟩
        have h : (!(blkW w) || (y :: r).all emptyT) = true := h
        show ∀ b ∈ (if blkW w then y :: r else []).filter isTupD, _
        cases e : blkW w with
        | false => intro b hb; cases hb
        | true =>
          rw [e] at h
          exact A _ h
    | _ => cases r with
      | nil => exact ⟨rfl, l, N rfl⟩
      | cons _ _ => cases h
end G

set_option Elab.async false
set_option linter.all false
set_option maxRecDepth 100000
set_option maxHeartbeats 4000000
/-! _law_put. -/
namespace G
open PySem PySem.Spec PyProof.Rows L2
def putPs (x : Rw) : Int → List (List Rw) → List (List Rw)
  | _, [] => []
  | p, b :: r => rwPut x p b :: putPs x (p - rwN b) r
theorem putPs_at {x : Rw} : ∀ {p : Int} {bs : List (List Rw)} {i : Nat} {b : List Rw}, bs[i]? = some b → (putPs x p bs)[i]? = some (rwPut x (p - ((bs.take i).map rwN).sum) b)
  | _, [], _, _, h => by cases h
  | p, a :: r, 0, b, h => by
    cases h
    show some (rwPut x p a) = some (rwPut x (p - ((0 : Nat) : Int)) a)
    rw [show p - ((0 : Nat) : Int) = p by omega]
  | p, a :: r, i + 1, b, h => by
    have h : r[i]? = some b := h
    have e := putPs_at (x := x) (p := p - rwN a) h
    show (putPs x (p - rwN a) r)[i]? = _
    rw [e]
    have : (((((a :: r).take (i + 1)).map rwN).sum : Nat) : Int) = rwN a + ((r.take i).map rwN).sum := by
      show ((rwN a + ((r.take i).map rwN).sum : Nat) : Int) = _
      push_cast; rfl
    rw [this, show p - rwN a - ((r.take i).map rwN).sum = p - (rwN a + ((r.take i).map rwN).sum) by omega]
theorem putPs_len {x : Rw} : ∀ {p : Int} (bs : List (List Rw)), (putPs x p bs).length = bs.length
  | _, [] => rfl
  | p, b :: r => congrArg (· + 1) (putPs_len (x := x) (p := p - rwN b) r)
theorem node_rw : ∀ {e : Nat} {s : Rw}, okR e s → 1 < s.size → ∃ (w0 t0 : PyData) (bs : List (List Rw)) (e' : Nat), e = e' + 1 ∧ s.data = .tuple (w0 :: t0 :: bs.map bkD) ∧ (partsD s.data).filter isTupD = bs.map bkD ∧ (∀ b ∈ bs, ∀ s ∈ b, okR e' s) ∧ s.size = 1 + (bs.map rwN).sum ∧ bs.length ≤ 2 ∧ ∀ x p, (Rw.put x p s).data = .tuple (w0 :: t0 :: (putPs x (p - 1) bs).map bkD)
  | 0, _, h, _ => h.elim
  | e + 1, .lf d, h, l => absurd l (by show ¬ 1 < 1; omega)
  | e + 1, .cond t y n, h, _ => by
    refine ⟨_, t, [y, n], e, rfl, rfl, ?_, ?_, ?_, Nat.le_refl _, fun x p => rfl⟩
    · show List.filter isTupD (if blkW (Str.ofString "if") then [PyData.tuple (rwD y), PyData.tuple (rwD n)] else []) = _
      rw [show blkW (Str.ofString "if") = true by decide +kernel]
      rfl
    · intro b hb
      simp only [List.mem_cons, List.not_mem_nil, or_false] at hb
      rcases hb with rfl | rfl
      · exact h.1
      · exact h.2
    · show 1 + (rwN y + rwN n) = 1 + (rwN y + (rwN n + 0))
      omega
  | e + 1, .rep k b, h, _ => by
    refine ⟨_, _, [b], e, rfl, rfl, ?_, ?_, ?_, Nat.le_of_ble_eq_true rfl, fun x p => rfl⟩
    · show List.filter isTupD (if blkW (Str.ofString "repeat") then [PyData.tuple (rwD b)] else []) = _
      rw [show blkW (Str.ofString "repeat") = true by decide +kernel]
      rfl
    · intro x hx
      rw [List.mem_singleton.mp hx]
      exact h
    · show 1 + rwN b = 1 + (rwN b + 0)
      omega
def spPut (e : Nat) : Sp := fun vs H Q _ => ∃ (F : Addr → Prop) (v u : V) (f : List Rw) (d : PyData) (p : Int), vs = [v, .int p, u] ∧ GV F H v (.tuple (rwD f)) ∧ GV F H u d ∧ (∀ s ∈ f, okR e s) ∧ rwN f ≤ 1000 ∧ ∀ (H' : Hp) (t : Addr), Same H H' → GV F H' (.ref t) (.tuple (rwD (rwPut (.lf d) p f))) → Q (.ref t) H'
def spPut' : Nat → Sp
  | 0 => fun _ _ _ _ => False
  | e + 1 => spPut e
end G

set_option Elab.async false
set_option linter.all false
set_option maxRecDepth 100000
set_option maxHeartbeats 4000000
/-! _law_put. -/
namespace G
open PySem PySem.Spec PyProof.Rows L2 StX
section
variable {P : Program} {w : World} {K : PySem.W.Frag} {mg : Str → Option Value} {base : Heap}
abbrev s__law_put : Stmt := top 56
abbrev n__law_put : List Str := ["_law_block", "_law_place", "_law_row_here", "_law_rows_here", "_law_one_here", "_law_count", "_law_inner_here", "_law_at", "_law_part"]
abbrev p__law_put : List Str := ["_law_block", "_law_place", "_law_row_here"]
theorem sc__law_put : FnScope n__law_put p__law_put (defScope s__law_put) := ⟨rfl, rfl, rfl, by decide +kernel, rfl, by decide +kernel, by decide +kernel⟩
theorem ok_putE {f fB fF fS : Addr} {fd dB dF dS : FuncData} {e k0 : Nat} (he : e ≤ 5) (F : Fun K "_law_put" "_law_put" s__law_put f fd) (T : Bi mg) (z_tuple : mg "tuple" = none)
    (DB : Df K mg "_law_blocks" s__law_blocks ["_law_row_here"] fB dB) (GB : FnOk P w K mg base CX0 1 fB dB ["_law_row_here"] spLBd)
    (DF : Df K mg "_law_flat" s__law_flat ["_law_block", "_law_depth"] fF dF) (GF : FnOk P w K mg base CX0 7 fF dF ["_law_block", "_law_depth"] (spFl 5))
    (mS : mg "_law_put" = some (.ref fS)) (kS : PySem.W.keepIn K (.ref fS) = true) (bS : Binds K dS p__law_put []) (hk0 : 7 ≤ k0) (GS : FnOk P w K mg base CX0 k0 fS dS p__law_put (spPut' e)) : FnOk P w K mg base CX0 (k0 + 1) f fd p__law_put (spPut e) := by
  refine F.ok sc__law_put (fun vs H Q E ⟨_, v, u, b, d, p, ev, _⟩ => by rw [ev]; rfl) (fun cdv A outer s0 H vs Q E hr ⟨FA, v, u, b, d, p, ev, gd, gu, ok, hz, q⟩ => ?_)
  subst ev
  have hr1 : Room 1 _ := hr.mono (by omega)
  have hr7 : Room 7 _ := hr.mono hk0
  refine ⟨_, (pss_cons (ps_set (i := 3) sc__law_put.nd rfl (.inl rfl) (pe_lst pa_nil))
      (pss_cons (ps_for PassesOwn.never rfl (pi_tup (pv 0)) (pg_name (i := 4) sc__law_put.nd rfl (.inl rfl))
      (pss_cons (ps_set (i := 5) sc__law_put.nd rfl (.inl rfl) (pe_callB call_len_seq (by rfl) T.z_len (by decide +kernel) (pa_cons (pe_call GF hr7 (by rfl) DF.m DF.F.kp DF.b .nil pass0 (pa_cons (pe_tup (pa_cons (pv 4) pa_nil)) (pa_cons pe_int pa_nil))) pa_nil)))
      (pss_cons (ps_if (pt_cmpR op_eq (pv 1) pe_int (nomark _))
      (pss_one (ps_expr (pe_bm PySem.F.plainAttrs_list PySem.F.slot_list_append PySem.F.type_list_append mt_append (pv 3) (pa_cons (pv 2) pa_nil))))
      (pss_one (ps_if (pt_chain op_lt op_lt pe_int (pv 1) (pv 5))
      (pss_cons (ps_par (i := 6) (j := 7) (by rfl) sc__law_put.nd rfl rfl (by decide) rfl rfl (pa_cons (pe_lst pa_nil) (pa_cons (pe_op op_subE (pv 1) pe_int) pa_nil)) (by rfl))
      (pss_cons (ps_for PassesOwn.never rfl (pi_list (pe_call GB hr1 (by rfl) DB.m DB.F.kp DB.b .nil pass0 (pa_cons (pv 4) pa_nil))) (pg_name (i := 8) sc__law_put.nd rfl (.inl rfl))
      (pss_cons (ps_expr (pe_bm PySem.F.plainAttrs_list PySem.F.slot_list_append PySem.F.type_list_append mt_append (pv 6) (pa_cons (pe_call GS hr (by rfl) mS kS bS .nil pass0 (pa_cons (pv 8) (pa_cons (pv 7) (pa_cons (pv 2) pa_nil)))) pa_nil)))
      (pss_one (ps_set (i := 7) sc__law_put.nd rfl (.inl rfl) (pe_op op_subE (pv 7) (pe_callB call_len_seq (by rfl) T.z_len (by decide +kernel) (pa_cons (pe_call GF hr7 (by rfl) DF.m DF.F.kp DF.b .nil pass0 (pa_cons (pv 8) (pa_cons pe_int pa_nil))) pa_nil)))))))
      (pss_one (ps_expr (pe_bm PySem.F.plainAttrs_list PySem.F.slot_list_append PySem.F.type_list_append mt_append (pv 3) (pa_cons (pe_op op_catA (pe_slice sl_tupA (pv 4) po_none (po_some pe_int)) (pe_callTy call_tuple_of (by rfl) z_tuple (by decide +kernel) (pa_cons (pv 6) pa_nil))) pa_nil))))))
      (pss_one (ps_expr (pe_bm PySem.F.plainAttrs_list PySem.F.slot_list_append PySem.F.type_list_append mt_append (pv 3) (pa_cons (pv 4) pa_nil)))))))
      (pss_one (ps_set (i := 1) sc__law_put.nd rfl (.inl rfl) (pe_op op_subE (pv 1) (pv 5)))))))
      (pss_one (ps_ret (pe_callTy call_tuple_of (by rfl) z_tuple (by decide +kernel) (pa_cons (pv 3) pa_nil)))))), ?_⟩
  obtain ⟨r0, xs, rfl, gr0, gx⟩ := gd_tup gd
  refine ⟨Nat.zero_le _, fun R nR => ?_⟩
  obtain ⟨FR, eF⟩ : ∃ FR : Addr → Prop, FR = fun a => FA a ∧ a ≠ R := ⟨_, rfl⟩
  have hF : ∀ a, FA a → (∃ o, H a = some o) → a ∉ ([] : List Addr) ∧ FR a := fun a fa ⟨o, ho⟩ => ⟨List.not_mem_nil, by rw [eF]; exact ⟨fa, fun z => by rw [z, nR] at ho; cases ho⟩⟩
  have gx := GVs.ch (F' := FR) (Ch.same (S := []) (Same.refl H)) hF _ _ gx
  have gu := GV.ch (F' := FR) (Ch.same (S := []) (Same.refl H)) hF _ _ gu
  have hFR : ∀ (H : Hp) a, FR a → (∃ o, H a = some o) → a ∉ [R] ∧ FR a := fun _ a fa _ => ⟨fun z => by rw [eF] at fa; exact fa.2 (List.mem_singleton.mp z), fa⟩
  have hFA : ∀ (H : Hp) a, FR a → (∃ o, H a = some o) → a ∉ ([] : List Addr) ∧ FA a := fun _ a fa _ => ⟨List.not_mem_nil, by rw [eF] at fa; exact fa.1⟩
  have s1 := Same.up (o := HO.lst []) nR
  have gR1 : upd H R (HO.lst []) R = some (.lst []) := upd_same
  generalize upd H R (HO.lst []) = H1 at s1 gR1 ⊢
  refine ⟨_, rfl, r0, rfl, ⟨_, SqT.of (s1 _ _ gr0)⟩, for_tup (xs := xs) (fun j σ H' => Same H H' ∧ ∃ (acc : List V) (x4 x5 x6 x7 x8 : Option V), H' R = some (.lst acc) ∧ GVs FR H' acc (rwD ((rwPut (.lf d) p b).take j)) ∧ σ = [some (.ref r0), some (.int (p - rwN (b.take j))), some u, some (.ref R), x4, x5, x6, x7, x8])
    ⟨s1, [], none, none, none, none, none, gR1, .nil, by rw [List.take_zero]; show _ = [_, some (V.int (p - ((0 : Nat) : Int))), _, _, _, _, _, _, _]; rw [show p - ((0 : Nat) : Int) = p by omega]; rfl⟩ (fun j σ H' _ h => SqT.of (h.1 _ _ gr0)) ?_ ?_⟩
  · rintro j x σ H' hx ⟨sm, acc, x4, x5, x6, x7, x8, gR, ga, rfl⟩
    obtain ⟨dt, edt, tdv⟩ := (gx.same sm).at hx
    rw [rwD_eq, List.getElem?_map] at edt
    obtain ⟨s, hs, rfl⟩ := Option.map_eq_some_iff.mp edt
    have oks := ok s (List.mem_of_getElem? hs)
    have e1 := rwN_snoc hs
    have e2 := rwN_take b (j + 1)
    refine ⟨_, rfl, line1000 (Nat.le_of_ble_eq_true rfl), fun tt nt => ?_⟩
    have s2 := Same.up (o := HO.tup [x]) nt
    have g2 : upd H' tt (HO.tup [x]) tt = some (.tup [x]) := upd_same
    refine ⟨FR, .ref tt, [s], 0, rfl, .tup g2 (.cons (tdv.same s2) .nil), (fun z hz => by rw [List.mem_singleton.mp hz]; exact okR_mono he oks), by show s.size + 0 ≤ 10000; omega, fun H3 L lc s3 nL gL el => ?_⟩
    have s23 := Same.trans s2 s3
    refine ⟨_, _, rfl, .inl (SqL.of gL), ?_⟩
    have sm3 := Same.trans sm s23
    have gR3 := s23 _ _ gR
    have ga3 := ga.same s23
    have elS : (lc.length : Int) = s.size := by rw [el]; show ((s.size + 0 : Nat) : Int) = _; omega
    have la : acc.length ≤ 1000 := by
      have l1 := ga.len
      have l2 : (rwD ((rwPut (.lf d) p b).take j)).length ≤ b.length := by rw [rwD_eq, List.length_map, List.length_take, rwPut_count]; omega
      have l3 := rwN_len b
      rw [rwD_eq, List.length_map] at l3
      omega
    have fin : ∀ (H4 : Hp) (y : V), Same H3 H4 → GV FR H4 y (put1 (.lf d) (p - rwN (b.take j)) s).data → ∀ x6 x7 x8 : Option V, ∀ z : Int, z = p - rwN (b.take j) - lc.length → Same H (upd H4 R (.lst (acc ++ [y]))) ∧ ∃ (acc' : List V) (y4 y5 y6 y7 y8 : Option V), upd H4 R (.lst (acc ++ [y])) R = some (.lst acc') ∧ GVs FR (upd H4 R (.lst (acc ++ [y]))) acc' (rwD ((rwPut (.lf d) p b).take (j + 1))) ∧ [some (.ref r0), some (.int z), some u, some (.ref R), some x, some (.int lc.length), x6, x7, x8] = [some (.ref r0), some (.int (p - rwN (b.take (j + 1)))), some u, some (.ref R), y4, y5, y6, y7, y8] := fun H4 y s4 gy x6 x7 x8 z ez => by
      have gR4 := s4 _ _ gR3
      have c5 : Ch [R] H4 (upd H4 R (.lst (acc ++ [y]))) := (Ch.refl _ _).put (by simp) gR4 (fun xs z => by cases z)
      refine ⟨same_put (Same.trans sm3 s4) nR c5, acc ++ [y], some x, some (.int lc.length), x6, x7, x8, upd_same, ?_, ?_⟩
      · rw [rwPut_step hs]
        exact GVs.ch c5 (hFR _) _ _ ((ga3.same s4).snoc gy)
      · rw [show z = p - rwN (b.take (j + 1)) by rw [ez, elS, e1]; push_cast; omega]
    refine ⟨_, rfl, rfl, _, rfl, ite2 (fun h0 => ?_) (fun h0 => ?_)⟩
    · have h0 : p - rwN (b.take j) = 0 := V.int.inj (of_decide_eq_true h0)
      refine ⟨_, rfl, .inl ⟨rfl, _, SqL.of gR3⟩, _, rfl, R, acc, _, rfl, rfl, gR3, lt_line (by omega), ?_⟩
      refine ⟨_, rfl, _, rfl, _, _, rfl, rfl, fun z ez => fin _ u (Same.refl _) (by rw [put1, if_pos h0]; exact gu.same sm3) _ _ _ z ez⟩
    have h0 : ¬ p - rwN (b.take j) = 0 := fun z => h0 (decide_eq_true (by rw [z]))
    have els : ∀ (x6 x7 x8 : Option V), ¬ (0 < p - rwN (b.take j) ∧ p - rwN (b.take j) < s.size) → ∀ z : Int, z = p - rwN (b.take j) - lc.length → _ := fun x6 x7 x8 hc z ez => fin _ x (Same.refl _) (by rw [put1, if_neg h0, if_neg hc]; exact (tdv.same s23)) x6 x7 x8 z ez
    refine ⟨_, rfl, _, _, rfl, rfl, _, rfl, ite2 (fun h1 => ?_) (fun h1 => ?_)⟩
    · have h1 : 0 < p - rwN (b.take j) := of_decide_eq_true h1
      refine ⟨_, rfl, _, _, rfl, rfl, _, rfl, ite2 (fun h2 => ?_) (fun h2 => ?_)⟩
      · have h2 : p - rwN (b.take j) < (lc.length : Int) := of_decide_eq_true h2
        obtain ⟨w0, t0, bs, e', ee, edt', efl, okb, esz, lbs, eput⟩ := node_rw oks (by omega)
        subst ee
        obtain ⟨hh, hl, _⟩ := parts_rw oks
        refine ⟨Nat.zero_le _, fun I nI => ⟨_, rfl, _, _, rfl, rfl, fun z ez => ?_⟩⟩
        obtain ⟨FI, eFI⟩ : ∃ FI : Addr → Prop, FI = fun a => FR a ∧ a ≠ I := ⟨_, rfl⟩
        have s4 := Same.up (o := HO.lst []) nI
        have gI4 : upd H3 I (HO.lst []) I = some (.lst []) := upd_same
        generalize upd H3 I (HO.lst []) = H4 at s4 gI4 ⊢
        have sm4 := Same.trans sm3 s4
        have hI0 : H I = none := sm3.free nI
        have hFI : ∀ a, FR a → (∃ o, H a = some o) → a ∉ ([] : List Addr) ∧ FI a := fun a fa ⟨o, ho⟩ => ⟨List.not_mem_nil, by rw [eFI]; exact ⟨fa, fun z => by rw [z, hI0] at ho; cases ho⟩⟩
        have gxI := GVs.ch (F' := FI) (Ch.same (S := []) (Same.refl H)) hFI _ _ gx
        have guI := GV.ch (F' := FI) (Ch.same (S := []) (Same.refl H)) hFI _ _ gu
        obtain ⟨dt2, edt2, tdx⟩ := gxI.at hx
        rw [rwD_eq, List.getElem?_map, hs] at edt2
        cases edt2
        refine ⟨_, _, rfl, ?_⟩
        refine ⟨_, rfl, FI, x, s.data, rfl, tdx.same sm4, hh, hl, fun H5 p5 ps s5 np5 gp5 gps => ?_⟩
        rw [efl] at gps
        have lps : ps.length = bs.length := by rw [gps.len, List.length_map]
        have pI : p5 ≠ I := fun z => by rw [z, gI4] at np5; cases np5
        have s35 := Same.trans s4 s5
        have gI5 := s5 _ _ gI4
        have hput : ∀ (A : Hp) a, FI a → (∃ o, A a = some o) → a ∉ [I] ∧ FI a := fun _ a fa _ => ⟨fun z => by rw [eFI] at fa; exact fa.2 (List.mem_singleton.mp z), fa⟩
        refine ⟨p5, rfl, ⟨_, SqL.of gp5⟩, for_list (xs := ps) (fun i σ H' => Same H3 H' ∧ Ch [I] H5 H' ∧ ∃ (ac : List V) (x8 : Option V), H' I = some (.lst ac) ∧ GVs FI H' ac (((putPs (.lf d) (p - rwN (b.take j) - 1) bs).take i).map bkD) ∧ σ = [some (.ref r0), some (.int (p - rwN (b.take j))), some u, some (.ref R), some x, some (.int lc.length), some (.ref I), some (.int (p - rwN (b.take j) - 1 - ((bs.take i).map rwN).sum)), x8])
          ⟨s35, Ch.refl _ _, [], x8, gI5, .nil, ?_⟩ (fun i σ H' _ h => h.2.1.kp.seq (by simpa using pI) (SqL.of gp5)) ?_ ?_⟩
        · rw [ez]
          show [_, _, _, _, _, _, _, some (V.int (p - rwN (b.take j) - 1)), _] = [_, _, _, _, _, _, _, some (V.int (p - rwN (b.take j) - 1 - ((0 : Nat) : Int))), _]
          rw [show p - rwN (b.take j) - 1 - ((0 : Nat) : Int) = p - rwN (b.take j) - 1 by omega]
        · rintro i y σ H6 hy ⟨s36, c56, ac, y8, gI6, gac, rfl⟩
          obtain ⟨dp, edp, tdy⟩ := gps.at hy
          rw [List.getElem?_map] at edp
          obtain ⟨pb, hpb, rfl⟩ := Option.map_eq_some_iff.mp edp
          have tdy6 := GV.ch (F' := FI) c56 (hput _) _ _ tdy
          have e6 := sum_take bs (i + 1)
          have e7 := sum_snoc hpb
          have okp := okb pb (List.mem_of_getElem? hpb)
          have sm6 := Same.trans sm3 s36
          have li : i < bs.length := by
            have := (List.getElem?_eq_some_iff.mp hpb).1
            exact this
          have lac : ac.length ≤ 1000 := by
            rw [gac.len, List.length_map, List.length_take]
            omega
          refine ⟨_, rfl, .inl ⟨rfl, _, SqL.of gI6⟩, _, rfl, _, rfl, _, rfl, FI, y, u, pb, d, _, rfl, tdy6, guI.same sm6, okp, by omega, fun H7 t7 s7 gt7 => ⟨I, ac, _, rfl, rfl, s7 _ _ gI6, lt_line (by omega), ?_⟩⟩
          have c7 : Ch [I] H7 (upd H7 I (.lst (ac ++ [.ref t7]))) := (Ch.refl _ _).put (by simp) (s7 _ _ gI6) (fun xs z => by cases z)
          have gI8 : upd H7 I (.lst (ac ++ [.ref t7])) I = some (.lst (ac ++ [.ref t7])) := upd_same
          have gac8 : GVs FI (upd H7 I (.lst (ac ++ [.ref t7]))) (ac ++ [.ref t7]) (((putPs (.lf d) (p - rwN (b.take j) - 1) bs).take (i + 1)).map bkD) := by
            rw [List.take_add_one, putPs_at hpb, List.map_append]
            exact GVs.ch c7 (hput _) _ _ ((gac.same s7).snoc gt7)
          have tdy8 := GV.ch c7 (hput _) _ _ (tdy6.same s7)
          have s38 := same_put (Same.trans s36 s7) nI c7
          have c58 := (c56.trans (Ch.same s7)).trans c7
          generalize upd H7 I (.lst (ac ++ [.ref t7])) = H8 at gI8 gac8 tdy8 s38 c58 ⊢
          refine ⟨_, rfl, _, rfl, FI, y, pb, 0, rfl, tdy8, (fun s hs => okR_mono (by omega) (okp s hs)), by omega, fun H9 L9 l9 s9 nL9 gL9 el9 => ⟨_, _, rfl, .inl (SqL.of gL9), _, _, rfl, rfl, fun z9 ez9 => ⟨Same.trans s38 s9, c58.trans (Ch.same s9), _, some y, s9 _ _ gI8, gac8.same s9, ?_⟩⟩⟩
          rw [show z9 = p - rwN (b.take j) - 1 - ((bs.take (i + 1)).map rwN).sum by rw [ez9, el9, e7]; push_cast; omega]
          rfl
        · rintro σ H6 ⟨s36, c56, ac, y8, gI6, gac, rfl⟩
          rw [lps, ← putPs_len (x := .lf d) (p := p - rwN (b.take j) - 1) bs, List.take_length] at gac
          have sm6 := Same.trans sm3 s36
          have gR6 := s36 _ _ gR3
          have g6 := tdx.same sm6
          rw [edt'] at g6
          obtain ⟨xr, ys, rfl, gxr, gys⟩ := gd_tup g6
          obtain ⟨v0, ys1, rfl, gv0, gys1⟩ := gds_cons gys
          obtain ⟨v1, ys2, rfl, gv1, gys2⟩ := gds_cons gys1
          have lac : ac.length ≤ 2 := by rw [gac.len, List.length_map, putPs_len]; exact lbs
          refine ⟨_, rfl, .inl ⟨rfl, _, SqL.of gR6⟩, _, rfl, noP ⟨2, rfl, sl_any gxr fun p7 H7 s7 g7 => ?_⟩⟩
          have ec : cutV (v0 :: v1 :: ys2) none (some 2) = [v0, v1] := cut_take 2 (by simp)
          rw [ec] at g7
          refine ⟨_, rfl, I, _, rfl, .inl ⟨SqL.of (s7 _ _ gI6), fun t8 nt8 => ?_⟩⟩
          have s8 := Same.up (o := HO.tup ac) nt8
          refine cat_any (s8 _ _ g7) upd_same (by simp; omega) fun p9 H9 s9 g9 => ⟨R, acc, _, rfl, rfl, s9 _ _ (s8 _ _ (s7 _ _ gR6)), lt_line (by omega), ?_⟩
          have s69 := Same.trans s7 (Same.trans s8 s9)
          have sm9 := Same.trans s36 s69
          have hFR' : ∀ (H : Hp) a, FI a → (∃ o, H a = some o) → a ∉ ([] : List Addr) ∧ FR a := fun _ a fa _ => ⟨List.not_mem_nil, by rw [eFI] at fa; exact fa.1⟩
          have gy : GV FR H9 (.ref p9) (put1 (.lf d) (p - rwN (b.take j)) s).data := by
            rw [put1, if_neg h0, if_pos ⟨h1, by omega⟩, eput]
            refine GV.ch (F := FI) (Ch.same (S := []) (Same.refl _)) (hFR' _) _ _ (.tup g9 ?_)
            exact .cons (gv0.same s69) (.cons (gv1.same s69) (gac.same s69))
          refine ⟨_, rfl, _, rfl, _, _, rfl, rfl, fun z ez => fin _ _ sm9 gy _ _ _ z ez⟩
      · have h2 : ¬ p - rwN (b.take j) < (lc.length : Int) := fun z => h2 (decide_eq_true z)
        refine ⟨_, rfl, .inl ⟨rfl, _, SqL.of gR3⟩, _, rfl, R, acc, _, rfl, rfl, gR3, lt_line (by omega), ?_⟩
        refine ⟨_, rfl, _, rfl, _, _, rfl, rfl, fun z ez => els _ _ _ (fun c => h2 (by omega)) z ez⟩
    · have h1 : ¬ 0 < p - rwN (b.take j) := fun z => h1 (decide_eq_true z)
      refine ⟨_, rfl, iteF ⟨_, rfl, .inl ⟨rfl, _, SqL.of gR3⟩, _, rfl, R, acc, _, rfl, rfl, gR3, lt_line (by omega), ?_⟩⟩
      refine ⟨_, rfl, _, rfl, _, _, rfl, rfl, fun z ez => els _ _ _ (fun c => h1 c.1) z ez⟩
  · rintro σ H' ⟨sm, acc, x4, x5, x6, x7, x8, gR, ga, rfl⟩
    have lx : xs.length = (rwPut (.lf d) p b).length := by rw [gx.len, rwD_eq, List.length_map, rwPut_count]
    rw [lx, List.take_length] at ga
    refine ⟨_, rfl, R, _, rfl, .inl ⟨SqL.of gR, fun t nt => ?_⟩⟩
    have sE := Same.up (o := HO.tup acc) nt
    exact q _ t (Same.trans sm sE) (.tup upd_same (GVs.ch (Ch.same (S := []) sE) (hFA _) _ _ ga))
theorem ok_putAll {f fB fF : Addr} {fd dB dF : FuncData} (D : Df K mg "_law_put" s__law_put p__law_put f fd) (T : Bi mg) (z_tuple : mg "tuple" = none)
    (DB : Df K mg "_law_blocks" s__law_blocks ["_law_row_here"] fB dB) (GB : FnOk P w K mg base CX0 1 fB dB ["_law_row_here"] spLBd)
    (DF : Df K mg "_law_flat" s__law_flat ["_law_block", "_law_depth"] fF dF) (GF : FnOk P w K mg base CX0 7 fF dF ["_law_block", "_law_depth"] (spFl 5)) : FnOk P w K mg base CX0 13 f fd p__law_put (spPut 5) := by
  have Z : FnOk P w K mg base CX0 7 f fd p__law_put (spPut' 0) := ⟨fun _ _ _ _ h => h.elim, fun _ _ _ _ _ _ _ _ _ _ _ _ _ h => h.elim⟩
  have B0 := ok_putE (e := 0) (by decide) D.F T z_tuple DB GB DF GF D.m D.F.kp D.b (by decide) Z
  have B1 := ok_putE (e := 1) (by decide) D.F T z_tuple DB GB DF GF D.m D.F.kp D.b (by decide) B0
  have B2 := ok_putE (e := 2) (by decide) D.F T z_tuple DB GB DF GF D.m D.F.kp D.b (by decide) B1
  have B3 := ok_putE (e := 3) (by decide) D.F T z_tuple DB GB DF GF D.m D.F.kp D.b (by decide) B2
  have B4 := ok_putE (e := 4) (by decide) D.F T z_tuple DB GB DF GF D.m D.F.kp D.b (by decide) B3
  exact ok_putE (e := 5) (by decide) D.F T z_tuple DB GB DF GF D.m D.F.kp D.b (by decide) B4
end
end G

set_option Elab.async false
set_option linter.all false
set_option maxRecDepth 100000
set_option maxHeartbeats 8000000
/-! Values that are no programs. Written by mkZ11.py. -/
namespace G
open PySem PySem.Spec PyProof.Rows L2 StX RZ
def AN : List PyData → Prop
  | [] => True
  | d :: ds => pairD d = false ∧ AN ds
theorem AN.app {b : List PyData} : ∀ {a : List PyData}, AN a → AN b → AN (a ++ b)
  | [], _, h => h
  | _ :: _, h1, h2 => ⟨h1.1, AN.app h1.2 h2⟩
theorem AN.mem {d : PyData} : ∀ {a : List PyData}, AN a → d ∈ a → pairD d = false
  | e :: a, h, m => by
    rcases List.mem_cons.mp m with rfl | m
    · exact h.1
    · exact AN.mem h.2 m
def GN (D L : Addr) (H : Hp) (xs : List V) : Prop := ∃ ds, GVs (FD D L) H xs ds ∧ AN ds
theorem GN.same {D L : Addr} {H H' : Hp} {xs : List V} (h : GN D L H xs) (s : Same H H') : GN D L H' xs := by
  obtain ⟨ds, a, b⟩ := h
  exact ⟨ds, a.same s, b⟩
theorem GN.app {D L : Addr} {H : Hp} {xs ys : List V} (h : GN D L H xs) (h2 : GN D L H ys) : GN D L H (xs ++ ys) := by
  obtain ⟨ds, a, b⟩ := h
  obtain ⟨es, c, e⟩ := h2
  exact ⟨_, a.append c, b.app e⟩
theorem one_gn {K : PySem.W.Frag} {D L A : Addr} {H : Hp} {xs : List V} {i : Nat} (d : Deck H D L i) (hm : i < 10 ^ 12) (gA : H A = some (.lst xs)) (gx : GN D L H xs) (na : A ∉ [D, L]) (l0 : 0 < xs.length) (l1 : xs.length ≤ 1000) {Q' : VK}
    (h : ∀ H' y e, Kp [D, L] H H' → Deck H' D L (i + 1) → GV (FD D L) H' y e → pairD e = false → Q' y H') : spOne K [.ref D, .ref A] H Q' E0 := by
  obtain ⟨ds, gs, w⟩ := gx
  refine ⟨D, L, i, _, rfl, d, hm, .inl ⟨A, _, rfl, .inl ⟨SqL.of gA, na⟩, l0, l1, fun H' y k' d' hy => ?_⟩⟩
  obtain ⟨e, he, t⟩ := (gs.kd d d' k').mem hy
  exact h H' y e k' d' t (w.mem he)
def bigI : Int := 10 ^ 39
def lowI : Int := 1 - 10 ^ 39
theorem big_no {d : PyData} : pairD (.tuple [.int bigI, d]) = false := by
  show (rngD 0 3 (.int bigI) && isTupD d) = false
  rw [show rngD 0 3 (.int bigI) = false by decide +kernel]
  rfl
theorem low_no {d : PyData} : pairD (.tuple [.int lowI, d]) = false := by
  show (rngD 0 3 (.int lowI) && isTupD d) = false
  rw [show rngD 0 3 (.int lowI) = false by decide +kernel]
  rfl
section
variable {P : Program} {w : World} {K : PySem.W.Frag} {mg : Str → Option Value} {base : Heap} {RV : Addr}
abbrev s__law_no_program : Stmt := top 58
abbrev n__law_no_program : List Str := ["_law_deck_here", "_law_program", "_law_givens", "_law_block", "_law_some"]
theorem sc__law_no_program : FnScope n__law_no_program ["_law_deck_here", "_law_program"] (defScope s__law_no_program) := ⟨rfl, rfl, rfl, by decide +kernel, rfl, by decide +kernel, by decide +kernel⟩
def spNoP : Sp := fun vs H Q _ => ∃ (D L r rb : Addr) (n : Nat) (g : Int) (bds : List PyData), vs = [.ref D, .ref r] ∧ Deck H D L n ∧ n < 10 ^ 11 ∧ H r = some (.tup [.int g, .ref rb]) ∧ GV (FD D L) H (.ref rb) (.tuple bds) ∧ pairD (.tuple bds) = false ∧ ∀ (H' : Hp) (v : V) (d : PyData), Kp [D, L] H H' → Deck H' D L (n + 1) → GV (FD D L) H' v d → pairD d = false → Q v H'
theorem ok_no_program {f f2 : Addr} {fd fd2 : FuncData} (F : Fun K "_law_no_program" "_law_no_program" s__law_no_program f fd) (T : Bi mg) (z_list : mg "list" = none)
    (D2 : Df K mg "_law_one" s__law_one ["_law_deck_here", "_law_items"] f2 fd2) (G2 : FnOk P w K mg base CX0 2 f2 fd2 ["_law_deck_here", "_law_items"] (spOne K)) : FnOk P w K mg base CX0 3 f fd ["_law_deck_here", "_law_program"] spNoP := by
  refine F.ok sc__law_no_program (fun vs H Q E ⟨D, L, r, rb, n, g, bds, ev, _⟩ => by rw [ev]; rfl) (fun cdv A outer s H3 vs Q E hr ⟨D, L, r, rb, n, g, bds, ev, hD, hn, gr, gB, hb, q⟩ => ?_)
  subst ev
  refine ⟨_, (pss_cons (ps_asg (pv 1) (pg_tup rfl (pgs_cons (pg_name (i := 2) sc__law_no_program.nd rfl (.inl rfl)) (pgs_cons (pg_name (i := 3) sc__law_no_program.nd rfl (.inl rfl)) pgs_nil))))
      (pss_cons (ps_set (i := 4) sc__law_no_program.nd rfl (.inl rfl) (pe_lst (pa_cons pe_non (pa_cons pe_int (pa_cons pe_str (pa_cons (pe_tup pa_nil) (pa_cons (pe_lst pa_nil) (pa_cons pe_dnewK (pa_cons (pv 3) (pa_cons (pe_callTy call_list_of (by rfl) z_list (by decide +kernel) (pa_cons (pv 1) pa_nil)) (pa_cons (pe_tup (pa_cons (pv 3) (pa_cons (pv 2) pa_nil))) (pa_cons (pe_op op_catA (pv 1) (pe_tup (pa_cons (pe_tup pa_nil) pa_nil))) (pa_cons (pe_tup (pa_cons (pv 2) pa_nil)) (pa_cons (pe_tup (pa_cons (pe_un un_neg pe_int) (pa_cons (pv 3) pa_nil))) pa_nil))))))))))))))
      (pss_cons (ps_set (i := 4) sc__law_no_program.nd rfl (.inl rfl) (pe_op op_cat (pv 4) (pe_lst (pa_cons (pe_tup (pa_cons (pv 2) (pa_cons (pe_callTy call_list_of (by rfl) z_list (by decide +kernel) (pa_cons (pv 3) pa_nil)) pa_nil))) (pa_cons (pe_tup (pa_cons pe_int (pa_cons (pv 3) pa_nil))) (pa_cons (pe_tup (pa_cons pe_bl (pa_cons (pv 3) pa_nil))) (pa_cons (pe_tup (pa_cons pe_bl (pa_cons (pv 3) pa_nil))) (pa_cons (pe_tup (pa_cons pe_non (pa_cons (pv 3) pa_nil))) (pa_cons (pe_tup (pa_cons pe_str (pa_cons (pv 3) pa_nil))) pa_nil)))))))))
      (pss_cons (ps_set (i := 4) sc__law_no_program.nd rfl (.inl rfl) (pe_op op_cat (pv 4) (pe_lst (pa_cons (pe_tup (pa_cons (pe_cons (tw := tC (.int bigI)) (pe_op op_pow pe_int pe_int) ?WA) (pa_cons (pv 3) pa_nil))) (pa_cons (pe_tup (pa_cons (pe_cons (tw := tC (.int lowI)) (pe_op op_sub pe_int (pe_op op_pow pe_int pe_int)) ?WB) (pa_cons (pv 3) pa_nil))) (pa_cons (pe_tup (pa_cons (pe_lst (pa_cons (pv 2) pa_nil)) (pa_cons (pv 3) pa_nil))) pa_nil))))))
      (pss_one (ps_ret (pe_call G2 hr (by rfl) D2.m D2.F.kp D2.b .nil pass0 (pa_cons (pv 0) (pa_cons (pe_op op_cat (pv 4) (pe_lst (pa_cons (pe_tup (pa_cons (pv 2) (pa_cons pe_non pa_nil))) (pa_cons (pe_tup (pa_cons (pv 2) (pa_cons pe_str pa_nil))) (pa_cons (pe_tup (pa_cons (pv 2) (pa_cons pe_dnewK pa_nil))) (pa_cons (pe_tup (pa_cons (pv 2) (pa_cons pe_int pa_nil))) (pa_cons (pe_tup (pa_cons (pe_tup (pa_cons (pv 2) pa_nil)) (pa_cons (pv 3) pa_nil))) pa_nil))))))) pa_nil))))))))), ?_⟩
  case WA => exact fun σ H Q q => ⟨_, _, rfl, rfl, ⟨by decide, by decide, by decide⟩, q⟩
  case WB => exact fun σ H Q q => ⟨_, _, rfl, rfl, ⟨by decide, by decide, by decide⟩, _, _, rfl, rfl, q⟩
  obtain ⟨rb', bys, erb, grb, gBy⟩ := gd_tup gB
  cases erb
  have hDk : Deck H3 D L n := hD
  have kP : Kp [D, L] H3 H3 := Kp.refl _ _
  refine ⟨_, rfl, r, _, rfl, SqT.of gr, rfl, _, _, rfl, _, _, rfl, rfl, ?_⟩
  have d0 := hDk
  refine ⟨line1000 (Nat.le_of_ble_eq_true rfl), fun p4 n4 => ?_⟩
  have s4 := Same.up (o := HO.tup []) n4
  have g4 : upd H3 p4 (HO.tup []) p4 = some (HO.tup []) := upd_same
  generalize upd H3 p4 (HO.tup []) = H4 at s4 g4 ⊢
  refine ⟨line1000 (Nat.le_of_ble_eq_true rfl), fun p5 n5 => ?_⟩
  have s5 := Same.up (o := HO.lst []) n5
  have g5 : upd H4 p5 (HO.lst []) p5 = some (HO.lst []) := upd_same
  generalize upd H4 p5 (HO.lst []) = H5 at s5 g5 ⊢
  refine fun p6 n6 => ?_
  have s6 := Same.up (o := HO.dK []) n6
  have g6 : upd H5 p6 (HO.dK []) p6 = some (HO.dK []) := upd_same
  generalize upd H5 p6 (HO.dK []) = H6 at s6 g6 ⊢
  refine ⟨_, rfl, _, rfl, r, _, rfl, .inr (SqT.of ((Same.trans s4 (Same.trans s5 s6)) _ _ gr)), fun p7 n7 => ?_⟩
  have s7 := Same.up (o := HO.lst [V.int g, V.ref rb]) n7
  have g7 : upd H6 p7 (HO.lst [V.int g, V.ref rb]) p7 = some (HO.lst [V.int g, V.ref rb]) := upd_same
  generalize upd H6 p7 (HO.lst [V.int g, V.ref rb]) = H7 at s7 g7 ⊢
  refine ⟨_, rfl, _, rfl, line1000 (Nat.le_of_ble_eq_true rfl), fun p8 n8 => ?_⟩
  have s8 := Same.up (o := HO.tup [V.ref rb, V.int g]) n8
  have g8 : upd H7 p8 (HO.tup [V.ref rb, V.int g]) p8 = some (HO.tup [V.ref rb, V.int g]) := upd_same
  generalize upd H7 p8 (HO.tup [V.ref rb, V.int g]) = H8 at s8 g8 ⊢
  refine ⟨_, rfl, line1000 (Nat.le_of_ble_eq_true rfl), fun p9 n9 => ?_⟩
  have s9 := Same.up (o := HO.tup []) n9
  have g9 : upd H8 p9 (HO.tup []) p9 = some (HO.tup []) := upd_same
  generalize upd H8 p9 (HO.tup []) = H9 at s9 g9 ⊢
  refine ⟨line1000 (Nat.le_of_ble_eq_true rfl), fun p10 n10 => ?_⟩
  have s10 := Same.up (o := HO.tup [V.ref p9]) n10
  have g10 : upd H9 p10 (HO.tup [V.ref p9]) p10 = some (HO.tup [V.ref p9]) := upd_same
  generalize upd H9 p10 (HO.tup [V.ref p9]) = H10 at s10 g10 ⊢
  refine cat_any ((Same.trans s4 (Same.trans s5 (Same.trans s6 (Same.trans s7 (Same.trans s8 (Same.trans s9 s10)))))) _ _ gr) g10 (by simp) fun p11 H11 s11 g11 => ?_
  refine ⟨_, rfl, line1000 (Nat.le_of_ble_eq_true rfl), fun p12 n12 => ?_⟩
  have s12 := Same.up (o := HO.tup [V.int g]) n12
  have g12 : upd H11 p12 (HO.tup [V.int g]) p12 = some (HO.tup [V.int g]) := upd_same
  generalize upd H11 p12 (HO.tup [V.int g]) = H12 at s12 g12 ⊢
  refine ⟨1, rfl, _, rfl, line1000 (Nat.le_of_ble_eq_true rfl), fun p13 n13 => ?_⟩
  have s13 := Same.up (o := HO.tup [V.int (-1), V.ref rb]) n13
  have g13 : upd H12 p13 (HO.tup [V.int (-1), V.ref rb]) p13 = some (HO.tup [V.int (-1), V.ref rb]) := upd_same
  generalize upd H12 p13 (HO.tup [V.int (-1), V.ref rb]) = H13 at s13 g13 ⊢
  refine ⟨line1000 (Nat.le_of_ble_eq_true rfl), fun p14 n14 => ?_⟩
  have s14 := Same.up (o := HO.lst [V.non, V.int 0, V.str "", V.ref p4, V.ref p5, V.ref p6, V.ref rb, V.ref p7, V.ref p8, V.ref p11, V.ref p12, V.ref p13]) n14
  have g14 : upd H13 p14 (HO.lst [V.non, V.int 0, V.str "", V.ref p4, V.ref p5, V.ref p6, V.ref rb, V.ref p7, V.ref p8, V.ref p11, V.ref p12, V.ref p13]) p14 = some (HO.lst [V.non, V.int 0, V.str "", V.ref p4, V.ref p5, V.ref p6, V.ref rb, V.ref p7, V.ref p8, V.ref p11, V.ref p12, V.ref p13]) := upd_same
  generalize upd H13 p14 (HO.lst [V.non, V.int 0, V.str "", V.ref p4, V.ref p5, V.ref p6, V.ref rb, V.ref p7, V.ref p8, V.ref p11, V.ref p12, V.ref p13]) = H14 at s14 g14 ⊢
  have gb0 : GN D L H14 [V.non, V.int 0, V.str "", V.ref p4, V.ref p5, V.ref p6, V.ref rb, V.ref p7, V.ref p8, V.ref p11, V.ref p12, V.ref p13] := ⟨_, (.cons .non (.cons (.int _) (.cons (.str _ (by decide +kernel)) (.cons (.tup ((Same.trans s5 (Same.trans s6 (Same.trans s7 (Same.trans s8 (Same.trans s9 (Same.trans s10 (Same.trans s11 (Same.trans s12 (Same.trans s13 s14))))))))) _ _ g4) .nil) (.cons (.lst ((d0.sm s4).nin n5) ((Same.trans s6 (Same.trans s7 (Same.trans s8 (Same.trans s9 (Same.trans s10 (Same.trans s11 (Same.trans s12 (Same.trans s13 s14)))))))) _ _ g5) .nil) (.cons (.dct ((d0.sm (Same.trans s4 s5)).nin n6) ((Same.trans s7 (Same.trans s8 (Same.trans s9 (Same.trans s10 (Same.trans s11 (Same.trans s12 (Same.trans s13 s14))))))) _ _ g6)) (.cons (gB.same (Same.trans s4 (Same.trans s5 (Same.trans s6 (Same.trans s7 (Same.trans s8 (Same.trans s9 (Same.trans s10 (Same.trans s11 (Same.trans s12 (Same.trans s13 s14))))))))))) (.cons (.lst ((d0.sm (Same.trans s4 (Same.trans s5 s6))).nin n7) ((Same.trans s8 (Same.trans s9 (Same.trans s10 (Same.trans s11 (Same.trans s12 (Same.trans s13 s14)))))) _ _ g7) (.cons (.int _) (.cons (gB.same (Same.trans s4 (Same.trans s5 (Same.trans s6 (Same.trans s7 (Same.trans s8 (Same.trans s9 (Same.trans s10 (Same.trans s11 (Same.trans s12 (Same.trans s13 s14))))))))))) .nil))) (.cons (.tup ((Same.trans s9 (Same.trans s10 (Same.trans s11 (Same.trans s12 (Same.trans s13 s14))))) _ _ g8) (.cons (gB.same (Same.trans s4 (Same.trans s5 (Same.trans s6 (Same.trans s7 (Same.trans s8 (Same.trans s9 (Same.trans s10 (Same.trans s11 (Same.trans s12 (Same.trans s13 s14))))))))))) (.cons (.int _) .nil))) (.cons (.tup ((Same.trans s12 (Same.trans s13 s14)) _ _ g11) (.cons (.int _) (.cons (gB.same (Same.trans s4 (Same.trans s5 (Same.trans s6 (Same.trans s7 (Same.trans s8 (Same.trans s9 (Same.trans s10 (Same.trans s11 (Same.trans s12 (Same.trans s13 s14))))))))))) (.cons (.tup ((Same.trans s10 (Same.trans s11 (Same.trans s12 (Same.trans s13 s14)))) _ _ g9) .nil) .nil)))) (.cons (.tup ((Same.trans s13 s14) _ _ g12) (.cons (.int _) .nil)) (.cons (.tup (s14 _ _ g13) (.cons (.int _) (.cons (gB.same (Same.trans s4 (Same.trans s5 (Same.trans s6 (Same.trans s7 (Same.trans s8 (Same.trans s9 (Same.trans s10 (Same.trans s11 (Same.trans s12 (Same.trans s13 s14))))))))))) .nil))) .nil)))))))))))), ⟨rfl, rfl, rfl, rfl, rfl, rfl, hb, rfl, rfl, rfl, rfl, rfl, trivial⟩⟩
  have sb0 := (Same.trans s4 (Same.trans s5 (Same.trans s6 (Same.trans s7 (Same.trans s8 (Same.trans s9 (Same.trans s10 (Same.trans s11 (Same.trans s12 (Same.trans s13 s14))))))))))
  replace hDk := d0.sm sb0
  replace gr := sb0 _ _ gr
  replace grb := sb0 _ _ grb
  replace gB := gB.same sb0
  replace gBy := gBy.same sb0
  replace kP := kP.trans (Kp.same sb0)
  obtain ⟨P0, xsP, eP, exs⟩ : ∃ (P0 : Addr) (xsP : List V), P0 = p14 ∧ xsP = [V.non, V.int 0, V.str "", V.ref p4, V.ref p5, V.ref p6, V.ref rb, V.ref p7, V.ref p8, V.ref p11, V.ref p12, V.ref p13] := ⟨_, _, rfl, rfl⟩
  have gP : H14 P0 = some (.lst xsP) := by rw [eP, exs]; exact g14
  have gbP : GN D L H14 xsP := by rw [exs]; exact gb0
  have lP : xsP.length = 12 := by rw [exs]; rfl
  have nP : P0 ∉ [D, L] := by rw [eP]; exact (d0.sm (Same.trans s4 (Same.trans s5 (Same.trans s6 (Same.trans s7 (Same.trans s8 (Same.trans s9 (Same.trans s10 (Same.trans s11 (Same.trans s12 s13)))))))))).nin n14
  rw [← eP]
  clear s4 s5 s6 s7 s8 s9 s10 s11 s12 s13 s14 g4 g5 g6 g7 g8 g9 g10 g11 g12 g13 g14 gb0 sb0 d0 eP exs
  have d0 := hDk
  refine ⟨_, rfl, _, rfl, _, rfl, rb, _, rfl, .inr (SqT.of ((Same.refl _) _ _ grb)), fun p15 n15 => ?_⟩
  have s15 := Same.up (o := HO.lst bys) n15
  have g15 : upd H14 p15 (HO.lst bys) p15 = some (HO.lst bys) := upd_same
  generalize upd H14 p15 (HO.lst bys) = H15 at s15 g15 ⊢
  refine ⟨line1000 (Nat.le_of_ble_eq_true rfl), fun p16 n16 => ?_⟩
  have s16 := Same.up (o := HO.tup [V.int g, V.ref p15]) n16
  have g16 : upd H15 p16 (HO.tup [V.int g, V.ref p15]) p16 = some (HO.tup [V.int g, V.ref p15]) := upd_same
  generalize upd H15 p16 (HO.tup [V.int g, V.ref p15]) = H16 at s16 g16 ⊢
  refine ⟨_, rfl, line1000 (Nat.le_of_ble_eq_true rfl), fun p17 n17 => ?_⟩
  have s17 := Same.up (o := HO.tup [V.int 4, V.ref rb]) n17
  have g17 : upd H16 p17 (HO.tup [V.int 4, V.ref rb]) p17 = some (HO.tup [V.int 4, V.ref rb]) := upd_same
  generalize upd H16 p17 (HO.tup [V.int 4, V.ref rb]) = H17 at s17 g17 ⊢
  refine ⟨_, rfl, line1000 (Nat.le_of_ble_eq_true rfl), fun p18 n18 => ?_⟩
  have s18 := Same.up (o := HO.tup [V.bl true, V.ref rb]) n18
  have g18 : upd H17 p18 (HO.tup [V.bl true, V.ref rb]) p18 = some (HO.tup [V.bl true, V.ref rb]) := upd_same
  generalize upd H17 p18 (HO.tup [V.bl true, V.ref rb]) = H18 at s18 g18 ⊢
  refine ⟨_, rfl, line1000 (Nat.le_of_ble_eq_true rfl), fun p19 n19 => ?_⟩
  have s19 := Same.up (o := HO.tup [V.bl false, V.ref rb]) n19
  have g19 : upd H18 p19 (HO.tup [V.bl false, V.ref rb]) p19 = some (HO.tup [V.bl false, V.ref rb]) := upd_same
  generalize upd H18 p19 (HO.tup [V.bl false, V.ref rb]) = H19 at s19 g19 ⊢
  refine ⟨_, rfl, line1000 (Nat.le_of_ble_eq_true rfl), fun p20 n20 => ?_⟩
  have s20 := Same.up (o := HO.tup [V.non, V.ref rb]) n20
  have g20 : upd H19 p20 (HO.tup [V.non, V.ref rb]) p20 = some (HO.tup [V.non, V.ref rb]) := upd_same
  generalize upd H19 p20 (HO.tup [V.non, V.ref rb]) = H20 at s20 g20 ⊢
  refine ⟨_, rfl, line1000 (Nat.le_of_ble_eq_true rfl), fun p21 n21 => ?_⟩
  have s21 := Same.up (o := HO.tup [V.str "0", V.ref rb]) n21
  have g21 : upd H20 p21 (HO.tup [V.str "0", V.ref rb]) p21 = some (HO.tup [V.str "0", V.ref rb]) := upd_same
  generalize upd H20 p21 (HO.tup [V.str "0", V.ref rb]) = H21 at s21 g21 ⊢
  refine ⟨line1000 (Nat.le_of_ble_eq_true rfl), fun p22 n22 => ?_⟩
  have s22 := Same.up (o := HO.lst [V.ref p16, V.ref p17, V.ref p18, V.ref p19, V.ref p20, V.ref p21]) n22
  have g22 : upd H21 p22 (HO.lst [V.ref p16, V.ref p17, V.ref p18, V.ref p19, V.ref p20, V.ref p21]) p22 = some (HO.lst [V.ref p16, V.ref p17, V.ref p18, V.ref p19, V.ref p20, V.ref p21]) := upd_same
  generalize upd H21 p22 (HO.lst [V.ref p16, V.ref p17, V.ref p18, V.ref p19, V.ref p20, V.ref p21]) = H22 at s22 g22 ⊢
  have gb1 : GN D L H22 [V.ref p16, V.ref p17, V.ref p18, V.ref p19, V.ref p20, V.ref p21] := ⟨_, (.cons (.tup ((Same.trans s17 (Same.trans s18 (Same.trans s19 (Same.trans s20 (Same.trans s21 s22))))) _ _ g16) (.cons (.int _) (.cons (.lst ((d0.sm (Same.refl _)).nin n15) ((Same.trans s16 (Same.trans s17 (Same.trans s18 (Same.trans s19 (Same.trans s20 (Same.trans s21 s22)))))) _ _ g15) (gBy.same (Same.trans s15 (Same.trans s16 (Same.trans s17 (Same.trans s18 (Same.trans s19 (Same.trans s20 (Same.trans s21 s22))))))))) .nil))) (.cons (.tup ((Same.trans s18 (Same.trans s19 (Same.trans s20 (Same.trans s21 s22)))) _ _ g17) (.cons (.int _) (.cons (gB.same (Same.trans s15 (Same.trans s16 (Same.trans s17 (Same.trans s18 (Same.trans s19 (Same.trans s20 (Same.trans s21 s22)))))))) .nil))) (.cons (.tup ((Same.trans s19 (Same.trans s20 (Same.trans s21 s22))) _ _ g18) (.cons (.bl _) (.cons (gB.same (Same.trans s15 (Same.trans s16 (Same.trans s17 (Same.trans s18 (Same.trans s19 (Same.trans s20 (Same.trans s21 s22)))))))) .nil))) (.cons (.tup ((Same.trans s20 (Same.trans s21 s22)) _ _ g19) (.cons (.bl _) (.cons (gB.same (Same.trans s15 (Same.trans s16 (Same.trans s17 (Same.trans s18 (Same.trans s19 (Same.trans s20 (Same.trans s21 s22)))))))) .nil))) (.cons (.tup ((Same.trans s21 s22) _ _ g20) (.cons .non (.cons (gB.same (Same.trans s15 (Same.trans s16 (Same.trans s17 (Same.trans s18 (Same.trans s19 (Same.trans s20 (Same.trans s21 s22)))))))) .nil))) (.cons (.tup (s22 _ _ g21) (.cons (.str _ (by decide +kernel)) (.cons (gB.same (Same.trans s15 (Same.trans s16 (Same.trans s17 (Same.trans s18 (Same.trans s19 (Same.trans s20 (Same.trans s21 s22)))))))) .nil))) .nil)))))), ⟨(Bool.and_false _), rfl, rfl, rfl, rfl, rfl, trivial⟩⟩
  have sb1 := (Same.trans s15 (Same.trans s16 (Same.trans s17 (Same.trans s18 (Same.trans s19 (Same.trans s20 (Same.trans s21 s22)))))))
  replace hDk := d0.sm sb1
  replace gr := sb1 _ _ gr
  replace grb := sb1 _ _ grb
  replace gB := gB.same sb1
  replace gBy := gBy.same sb1
  replace gP := sb1 _ _ gP
  replace gbP := gbP.same sb1
  refine ⟨P0, p22, xsP, _, rfl, rfl, gP, g22, Nat.le_of_lt (lt_line (by show xsP.length + 6 < _; omega)), fun p23 n23 => ?_⟩
  have sc := Same.up (o := HO.lst (xsP ++ [V.ref p16, V.ref p17, V.ref p18, V.ref p19, V.ref p20, V.ref p21])) n23
  have gc : upd H22 p23 (HO.lst (xsP ++ [V.ref p16, V.ref p17, V.ref p18, V.ref p19, V.ref p20, V.ref p21])) p23 = some (.lst (xsP ++ [V.ref p16, V.ref p17, V.ref p18, V.ref p19, V.ref p20, V.ref p21])) := upd_same
  generalize upd H22 p23 (HO.lst (xsP ++ [V.ref p16, V.ref p17, V.ref p18, V.ref p19, V.ref p20, V.ref p21])) = H23 at sc gc ⊢
  replace gbP := (gbP.same sc).app (gb1.same sc)
  replace kP := kP.trans ((Kp.same sb1).trans (Kp.same sc))
  have nc := hDk.nin n23
  replace hDk := hDk.sm sc
  replace gr := sc _ _ gr
  replace grb := sc _ _ grb
  replace gB := gB.same sc
  replace gBy := gBy.same sc
  replace lP : (xsP ++ [V.ref p16, V.ref p17, V.ref p18, V.ref p19, V.ref p20, V.ref p21]).length = 18 := by rw [List.length_append, lP]; rfl
  clear gP nP
  generalize xsP ++ [V.ref p16, V.ref p17, V.ref p18, V.ref p19, V.ref p20, V.ref p21] = xsQ at gc gbP lP
  obtain ⟨xsP1, ex⟩ : ∃ xsP, xsP = xsQ := ⟨_, rfl⟩
  obtain ⟨P1, eP⟩ : ∃ P0, P0 = p23 := ⟨_, rfl⟩
  rw [← ex] at gbP lP gc
  rw [← eP] at gc nc
  rw [← eP]
  have gP := gc
  have nP := nc
  clear s15 s16 s17 s18 s19 s20 s21 s22 g15 g16 g17 g18 g19 g20 g21 g22 gb1 sb1 d0 sc gc nc eP ex xsQ
  have d0 := hDk
  refine ⟨_, rfl, _, rfl, line1000 (Nat.le_of_ble_eq_true rfl), fun p24 n24 => ?_⟩
  have s24 := Same.up (o := HO.tup [V.int bigI, V.ref rb]) n24
  have g24 : upd H23 p24 (HO.tup [V.int bigI, V.ref rb]) p24 = some (HO.tup [V.int bigI, V.ref rb]) := upd_same
  generalize upd H23 p24 (HO.tup [V.int bigI, V.ref rb]) = H24 at s24 g24 ⊢
  refine ⟨_, rfl, line1000 (Nat.le_of_ble_eq_true rfl), fun p25 n25 => ?_⟩
  have s25 := Same.up (o := HO.tup [V.int lowI, V.ref rb]) n25
  have g25 : upd H24 p25 (HO.tup [V.int lowI, V.ref rb]) p25 = some (HO.tup [V.int lowI, V.ref rb]) := upd_same
  generalize upd H24 p25 (HO.tup [V.int lowI, V.ref rb]) = H25 at s25 g25 ⊢
  refine ⟨_, rfl, line1000 (Nat.le_of_ble_eq_true rfl), fun p26 n26 => ?_⟩
  have s26 := Same.up (o := HO.lst [V.int g]) n26
  have g26 : upd H25 p26 (HO.lst [V.int g]) p26 = some (HO.lst [V.int g]) := upd_same
  generalize upd H25 p26 (HO.lst [V.int g]) = H26 at s26 g26 ⊢
  refine ⟨_, rfl, line1000 (Nat.le_of_ble_eq_true rfl), fun p27 n27 => ?_⟩
  have s27 := Same.up (o := HO.tup [V.ref p26, V.ref rb]) n27
  have g27 : upd H26 p27 (HO.tup [V.ref p26, V.ref rb]) p27 = some (HO.tup [V.ref p26, V.ref rb]) := upd_same
  generalize upd H26 p27 (HO.tup [V.ref p26, V.ref rb]) = H27 at s27 g27 ⊢
  refine ⟨line1000 (Nat.le_of_ble_eq_true rfl), fun p28 n28 => ?_⟩
  have s28 := Same.up (o := HO.lst [V.ref p24, V.ref p25, V.ref p27]) n28
  have g28 : upd H27 p28 (HO.lst [V.ref p24, V.ref p25, V.ref p27]) p28 = some (HO.lst [V.ref p24, V.ref p25, V.ref p27]) := upd_same
  generalize upd H27 p28 (HO.lst [V.ref p24, V.ref p25, V.ref p27]) = H28 at s28 g28 ⊢
  have gb2 : GN D L H28 [V.ref p24, V.ref p25, V.ref p27] := ⟨_, (.cons (.tup ((Same.trans s25 (Same.trans s26 (Same.trans s27 s28))) _ _ g24) (.cons (.int _) (.cons (gB.same (Same.trans s24 (Same.trans s25 (Same.trans s26 (Same.trans s27 s28))))) .nil))) (.cons (.tup ((Same.trans s26 (Same.trans s27 s28)) _ _ g25) (.cons (.int _) (.cons (gB.same (Same.trans s24 (Same.trans s25 (Same.trans s26 (Same.trans s27 s28))))) .nil))) (.cons (.tup (s28 _ _ g27) (.cons (.lst ((d0.sm (Same.trans s24 s25)).nin n26) ((Same.trans s27 s28) _ _ g26) (.cons (.int _) .nil)) (.cons (gB.same (Same.trans s24 (Same.trans s25 (Same.trans s26 (Same.trans s27 s28))))) .nil))) .nil))), ⟨big_no, low_no, rfl, trivial⟩⟩
  have sb2 := (Same.trans s24 (Same.trans s25 (Same.trans s26 (Same.trans s27 s28))))
  replace hDk := d0.sm sb2
  replace gr := sb2 _ _ gr
  replace grb := sb2 _ _ grb
  replace gB := gB.same sb2
  replace gBy := gBy.same sb2
  replace gP := sb2 _ _ gP
  replace gbP := gbP.same sb2
  refine ⟨P1, p28, xsP1, _, rfl, rfl, gP, g28, Nat.le_of_lt (lt_line (by show xsP1.length + 3 < _; omega)), fun p29 n29 => ?_⟩
  have sc := Same.up (o := HO.lst (xsP1 ++ [V.ref p24, V.ref p25, V.ref p27])) n29
  have gc : upd H28 p29 (HO.lst (xsP1 ++ [V.ref p24, V.ref p25, V.ref p27])) p29 = some (.lst (xsP1 ++ [V.ref p24, V.ref p25, V.ref p27])) := upd_same
  generalize upd H28 p29 (HO.lst (xsP1 ++ [V.ref p24, V.ref p25, V.ref p27])) = H29 at sc gc ⊢
  replace gbP := (gbP.same sc).app (gb2.same sc)
  replace kP := kP.trans ((Kp.same sb2).trans (Kp.same sc))
  have nc := hDk.nin n29
  replace hDk := hDk.sm sc
  replace gr := sc _ _ gr
  replace grb := sc _ _ grb
  replace gB := gB.same sc
  replace gBy := gBy.same sc
  replace lP : (xsP1 ++ [V.ref p24, V.ref p25, V.ref p27]).length = 21 := by rw [List.length_append, lP]; rfl
  clear gP nP
  generalize xsP1 ++ [V.ref p24, V.ref p25, V.ref p27] = xsQ at gc gbP lP
  obtain ⟨xsP2, ex⟩ : ∃ xsP, xsP = xsQ := ⟨_, rfl⟩
  obtain ⟨P2, eP⟩ : ∃ P0, P0 = p29 := ⟨_, rfl⟩
  rw [← ex] at gbP lP gc
  rw [← eP] at gc nc
  rw [← eP]
  have gP := gc
  have nP := nc
  clear s24 s25 s26 s27 s28 g24 g25 g26 g27 g28 gb2 sb2 d0 sc gc nc eP ex xsQ
  have d0 := hDk
  refine ⟨.ref D, rfl, _, rfl, _, rfl, line1000 (Nat.le_of_ble_eq_true rfl), fun p30 n30 => ?_⟩
  have s30 := Same.up (o := HO.tup [V.int g, V.non]) n30
  have g30 : upd H29 p30 (HO.tup [V.int g, V.non]) p30 = some (HO.tup [V.int g, V.non]) := upd_same
  generalize upd H29 p30 (HO.tup [V.int g, V.non]) = H30 at s30 g30 ⊢
  refine ⟨_, rfl, line1000 (Nat.le_of_ble_eq_true rfl), fun p31 n31 => ?_⟩
  have s31 := Same.up (o := HO.tup [V.int g, V.str "make"]) n31
  have g31 : upd H30 p31 (HO.tup [V.int g, V.str "make"]) p31 = some (HO.tup [V.int g, V.str "make"]) := upd_same
  generalize upd H30 p31 (HO.tup [V.int g, V.str "make"]) = H31 at s31 g31 ⊢
  refine ⟨_, rfl, fun p32 n32 => ?_⟩
  have s32 := Same.up (o := HO.dK []) n32
  have g32 : upd H31 p32 (HO.dK []) p32 = some (HO.dK []) := upd_same
  generalize upd H31 p32 (HO.dK []) = H32 at s32 g32 ⊢
  refine ⟨line1000 (Nat.le_of_ble_eq_true rfl), fun p33 n33 => ?_⟩
  have s33 := Same.up (o := HO.tup [V.int g, V.ref p32]) n33
  have g33 : upd H32 p33 (HO.tup [V.int g, V.ref p32]) p33 = some (HO.tup [V.int g, V.ref p32]) := upd_same
  generalize upd H32 p33 (HO.tup [V.int g, V.ref p32]) = H33 at s33 g33 ⊢
  refine ⟨_, rfl, line1000 (Nat.le_of_ble_eq_true rfl), fun p34 n34 => ?_⟩
  have s34 := Same.up (o := HO.tup [V.int g, V.int 0]) n34
  have g34 : upd H33 p34 (HO.tup [V.int g, V.int 0]) p34 = some (HO.tup [V.int g, V.int 0]) := upd_same
  generalize upd H33 p34 (HO.tup [V.int g, V.int 0]) = H34 at s34 g34 ⊢
  refine ⟨_, rfl, line1000 (Nat.le_of_ble_eq_true rfl), fun p35 n35 => ?_⟩
  have s35 := Same.up (o := HO.tup [V.int g]) n35
  have g35 : upd H34 p35 (HO.tup [V.int g]) p35 = some (HO.tup [V.int g]) := upd_same
  generalize upd H34 p35 (HO.tup [V.int g]) = H35 at s35 g35 ⊢
  refine ⟨_, rfl, line1000 (Nat.le_of_ble_eq_true rfl), fun p36 n36 => ?_⟩
  have s36 := Same.up (o := HO.tup [V.ref p35, V.ref rb]) n36
  have g36 : upd H35 p36 (HO.tup [V.ref p35, V.ref rb]) p36 = some (HO.tup [V.ref p35, V.ref rb]) := upd_same
  generalize upd H35 p36 (HO.tup [V.ref p35, V.ref rb]) = H36 at s36 g36 ⊢
  refine ⟨line1000 (Nat.le_of_ble_eq_true rfl), fun p37 n37 => ?_⟩
  have s37 := Same.up (o := HO.lst [V.ref p30, V.ref p31, V.ref p33, V.ref p34, V.ref p36]) n37
  have g37 : upd H36 p37 (HO.lst [V.ref p30, V.ref p31, V.ref p33, V.ref p34, V.ref p36]) p37 = some (HO.lst [V.ref p30, V.ref p31, V.ref p33, V.ref p34, V.ref p36]) := upd_same
  generalize upd H36 p37 (HO.lst [V.ref p30, V.ref p31, V.ref p33, V.ref p34, V.ref p36]) = H37 at s37 g37 ⊢
  have gb5 : GN D L H37 [V.ref p30, V.ref p31, V.ref p33, V.ref p34, V.ref p36] := ⟨_, (.cons (.tup ((Same.trans s31 (Same.trans s32 (Same.trans s33 (Same.trans s34 (Same.trans s35 (Same.trans s36 s37)))))) _ _ g30) (.cons (.int _) (.cons .non .nil))) (.cons (.tup ((Same.trans s32 (Same.trans s33 (Same.trans s34 (Same.trans s35 (Same.trans s36 s37))))) _ _ g31) (.cons (.int _) (.cons (.str _ (by decide +kernel)) .nil))) (.cons (.tup ((Same.trans s34 (Same.trans s35 (Same.trans s36 s37))) _ _ g33) (.cons (.int _) (.cons (.dct ((d0.sm (Same.trans s30 s31)).nin n32) ((Same.trans s33 (Same.trans s34 (Same.trans s35 (Same.trans s36 s37)))) _ _ g32)) .nil))) (.cons (.tup ((Same.trans s35 (Same.trans s36 s37)) _ _ g34) (.cons (.int _) (.cons (.int _) .nil))) (.cons (.tup (s37 _ _ g36) (.cons (.tup ((Same.trans s36 s37) _ _ g35) (.cons (.int _) .nil)) (.cons (gB.same (Same.trans s30 (Same.trans s31 (Same.trans s32 (Same.trans s33 (Same.trans s34 (Same.trans s35 (Same.trans s36 s37)))))))) .nil))) .nil))))), ⟨(Bool.and_false _), (Bool.and_false _), (Bool.and_false _), (Bool.and_false _), rfl, trivial⟩⟩
  have sb5 := (Same.trans s30 (Same.trans s31 (Same.trans s32 (Same.trans s33 (Same.trans s34 (Same.trans s35 (Same.trans s36 s37)))))))
  refine ⟨P2, p37, xsP2, _, rfl, rfl, sb5 _ _ gP, g37, Nat.le_of_lt (lt_line (by show xsP2.length + 5 < _; omega)), fun pf nf => ?_⟩
  have sc := Same.up (o := HO.lst (xsP2 ++ [V.ref p30, V.ref p31, V.ref p33, V.ref p34, V.ref p36])) nf
  have hDf := (d0.sm sb5).sm sc
  have gbf := ((gbP.same sb5).same sc).app (gb5.same sc)
  refine one_gn hDf (by omega) upd_same gbf ((d0.sm sb5).nin nf) (by rw [List.length_append]; omega) (by rw [List.length_append, lP]; exact Nat.le_of_ble_eq_true rfl) fun H' y d k' d' gy fy => ?_
  exact q H' y d (kP.trans ((Kp.same sb5).trans ((Kp.same sc).trans k'))) (d'.mono (by omega)) gy fy
end
end G

set_option Elab.async false
set_option linter.all false
set_option maxRecDepth 100000
set_option maxHeartbeats 4000000
/-! Right rows as values of any kind. -/
namespace G
open PySem PySem.Spec PyProof.Rows L2 StX RZ
/-- a new list of rows grows -/
def GrowA (p : Act → Prop) (D L a : Addr) (H1 : Hp) (m c : Nat) (i : Nat) (H' : Hp) : Prop := ∃ (xs : List V) (bs : List Act), Ch [a, D, L] H1 H' ∧ Deck H' D L (m + i * c) ∧ H' a = some (.lst xs) ∧ TDs H' xs (bs.map Act.data) ∧ bs.length = i ∧ ∀ b ∈ bs, p b
theorem GrowA.start {p : Act → Prop} {D L a : Addr} {H1 : Hp} {m c : Nat} (d : Deck H1 D L m) (na : H1 a = none) : GrowA p D L a H1 m c 0 (upd H1 a (.lst [])) :=
  ⟨[], [], (Ch.refl _ _).new na, (d.new na).mono (by omega), upd_same, .nil, rfl, fun _ z => nomatch z⟩
theorem GrowA.step {p : Act → Prop} {D L a : Addr} {H1 H' H4 : Hp} {m c i : Nat} {y : V} {b : Act} (g : GrowA p D L a H1 m c i H') (hi : i < 1000) (kp : Ch [D, L] H' H4) (d : Deck H4 D L (m + i * c + c)) (ne : a ∉ [D, L]) (td : TD H4 y b.data) (hy : p b) :
    ∃ acc, H4 a = some (.lst acc) ∧ acc.length < sizeLine ∧ GrowA p D L a H1 m c (i + 1) (upd H4 a (.lst (acc ++ [y]))) := by
  obtain ⟨xs, bs, k0, d0, ha, hx, hl, hb⟩ := g
  have ne1 : a ≠ D := fun z => ne (by simp [z])
  have ne2 : a ≠ L := fun z => ne (by simp [z])
  have ha4 := kp.kp _ _ ne ha
  have lx : xs.length = i := by rw [hx.len, List.length_map, hl]
  have cp : Ch [a] H4 (upd H4 a (.lst (xs ++ [y]))) := (Ch.refl _ _).put (by simp) ha4 (fun xs z => by cases z)
  refine ⟨xs, ha4, by rw [lx]; exact small1000 (by omega), xs ++ [y], bs ++ [b], (k0.trans (kp.mono fun b hb => List.mem_cons_of_mem _ hb)).put (by simp) ha4 (fun xs z => by cases z), ?_, upd_same, ?_, by rw [List.length_append, hl]; rfl, fun z hz => ?_⟩
  · refine Deck.mono (n := m + i * c + c) ?_ (by rw [Nat.add_mul]; omega)
    exact d.kp (S := [a]) cp.kp (by simpa using ne1.symm) (by simpa using ne2.symm)
  · rw [List.map_append]
    exact (TDs.ch (kp.mono (T := [a, D, L]) (fun b hb => List.mem_cons_of_mem _ hb) |>.trans (cp.mono fun b hb => by simp at hb; simp [hb])) _ _ hx).snoc (TD.ch cp _ _ td)
  · rcases List.mem_append.mp hz with h | h
    · exact hb z h
    · rw [List.mem_singleton.mp h]
      exact hy
theorem nm_1000R {x : Str} (h : nameB x = true) : x.length ≤ 1000 := Nat.le_trans (name_len h) (by decide)
theorem ws_tstR {g : Int} {W : Str → Prop} (hW : ∀ w, W w → wordB w = true) : ∀ t : Tst, t.nmR g W → WS 4 t.data
  | .given i, _ => ⟨Nat.le_of_ble_eq_true rfl, (by decide +kernel : (Str.ofString "given").length ≤ 1000), trivial, trivial⟩
  | .set x, h => ⟨Nat.le_of_ble_eq_true rfl, (by decide +kernel : (Str.ofString "set").length ≤ 1000), nm_1000R h, trivial⟩
  | .same x y, h => ⟨Nat.le_of_ble_eq_true rfl, (by decide +kernel : (Str.ofString "same").length ≤ 1000), nm_1000R h.1, nm_1000R h.2, trivial⟩
  | .full x y, h => ⟨Nat.le_of_ble_eq_true rfl, (by decide +kernel : (Str.ofString "full").length ≤ 1000), nm_1000R h.1, nm_1000R h.2, trivial⟩
  | .wished x, h => ⟨Nat.le_of_ble_eq_true rfl, (by decide +kernel : (Str.ofString "wished").length ≤ 1000), Nat.le_trans (word_len (hW x h)) (by decide), trivial⟩
  | .not t, h => ⟨Nat.le_of_ble_eq_true rfl, (by decide +kernel : (Str.ofString "not").length ≤ 1000), ws_tstR hW t h, trivial⟩
theorem nmR_nm {g : Int} {W : Str → Prop} (hW : ∀ w, W w → wordB w = true) : ∀ {b : Act}, b.nmR g W → WS 4 b.data
  | .make x, h => ⟨Nat.le_of_ble_eq_true rfl, (by decide +kernel : (Str.ofString "make").length ≤ 1000), nm_1000R h, trivial⟩
  | .wish x y, h => ⟨Nat.le_of_ble_eq_true rfl, (by decide +kernel : (Str.ofString "wish").length ≤ 1000), nm_1000R h.1, Nat.le_trans (word_len (hW y h.2)) (by decide), trivial⟩
  | .keep x, h => ⟨Nat.le_of_ble_eq_true rfl, (by decide +kernel : (Str.ofString "keep").length ≤ 1000), nm_1000R h, trivial⟩
  | .name x y, h => ⟨Nat.le_of_ble_eq_true rfl, (by decide +kernel : (Str.ofString "name").length ≤ 1000), nm_1000R h.1, nm_1000R h.2, trivial⟩
  | .drop x, h => ⟨Nat.le_of_ble_eq_true rfl, (by decide +kernel : (Str.ofString "drop").length ≤ 1000), nm_1000R h, trivial⟩
  | .hold x f y, h => ⟨Nat.le_of_ble_eq_true rfl, (by decide +kernel : (Str.ofString "hold").length ≤ 1000), nm_1000R h.1, nm_1000R h.2.1, nm_1000R h.2.2, trivial⟩
  | .weak x f y, h => ⟨Nat.le_of_ble_eq_true rfl, (by decide +kernel : (Str.ofString "weak").length ≤ 1000), nm_1000R h.1, nm_1000R h.2.1, nm_1000R h.2.2, trivial⟩
  | .cut x f, h => ⟨Nat.le_of_ble_eq_true rfl, (by decide +kernel : (Str.ofString "cut").length ≤ 1000), nm_1000R h.1, nm_1000R h.2, trivial⟩
  | .take x f y, h => ⟨Nat.le_of_ble_eq_true rfl, (by decide +kernel : (Str.ofString "take").length ≤ 1000), nm_1000R h.1, nm_1000R h.2.1, nm_1000R h.2.2, trivial⟩
  | .say x, h => ⟨Nat.le_of_ble_eq_true rfl, (by decide +kernel : (Str.ofString "say").length ≤ 1000), Nat.le_trans (word_len (hW x h)) (by decide), trivial⟩
  | .ask t, h => ⟨Nat.le_of_ble_eq_true rfl, (by decide +kernel : (Str.ofString "ask").length ≤ 1000), ws_tstR hW t h.1, trivial⟩
theorem acts_gv {F : Addr → Prop} {g : Int} {W : Str → Prop} {H : Hp} (hW : ∀ w, W w → wordB w = true) : ∀ {bs : List Act} {xs : List V}, (∀ b ∈ bs, b.nmR g W) → TDs H xs (bs.map Act.data) → GVs F H xs (bs.map Act.data)
  | [], _, _, .nil => .nil
  | b :: bs, _, h, .cons t r => .cons (TD.gv (n := 4) _ _ (nmR_nm hW (h b (List.mem_cons_self ..))) t).1 (acts_gv hW (fun b hb => h b (List.mem_cons_of_mem _ hb)) r)
section
variable {F : Addr → Prop} {g : Int} {W : Str → Prop} {H : Hp}
mutual
theorem sta_gv (hW : ∀ w, W w → wordB w = true) : ∀ {e : Nat} (s : Sta) (v : V), StaR g W e s → TD H v s.data → GV F H v s.data
  | 0, _, _, h, _ => h.elim
  | e + 1, .act a, v, h, t => (TD.gv (n := 4) _ _ (nmR_nm hW (b := a) h) t).1
  | e + 1, .cond t y n, v, h, td => by
    have td : TD H v (.tuple [.str "if", t.data, .tuple (blkData y), .tuple (blkData n)]) := td
    obtain ⟨r, xs, rfl, gr, h1⟩ := td_tup td
    obtain ⟨v1, xs, rfl, d1, h2⟩ := tds_cons h1
    obtain ⟨v2, xs, rfl, d2, h3⟩ := tds_cons h2
    obtain ⟨v3, xs, rfl, d3, h4⟩ := tds_cons h3
    obtain ⟨v4, xs, rfl, d4, h5⟩ := tds_cons h4
    cases h5
    cases d1
    obtain ⟨r3, ys, rfl, g3, e3⟩ := td_tup d3
    obtain ⟨r4, zs, rfl, g4, e4⟩ := td_tup d4
    exact .tup gr (.cons (.str _ (by decide +kernel)) (.cons (TD.gv (n := 4) _ _ (ws_tstR hW t h.1.1) d2).1 (.cons (.tup g3 (blk_gv hW y ys h.2.1 e3)) (.cons (.tup g4 (blk_gv hW n zs h.2.2 e4)) .nil))))
  | e + 1, .rep k b, v, h, td => by
    have td : TD H v (.tuple [.str "repeat", .int k, .tuple (blkData b)]) := td
    obtain ⟨r, xs, rfl, gr, h1⟩ := td_tup td
    obtain ⟨v1, xs, rfl, d1, h2⟩ := tds_cons h1
    obtain ⟨v2, xs, rfl, d2, h3⟩ := tds_cons h2
    obtain ⟨v3, xs, rfl, d3, h4⟩ := tds_cons h3
    cases h4
    cases d1
    cases d2
    obtain ⟨r3, ys, rfl, g3, e3⟩ := td_tup d3
    exact .tup gr (.cons (.str _ (by decide +kernel)) (.cons (.int _) (.cons (.tup g3 (blk_gv hW b ys h.2 e3)) .nil)))
theorem blk_gv (hW : ∀ w, W w → wordB w = true) : ∀ {e : Nat} (b : List Sta) (vs : List V), (∀ s ∈ b, StaR g W e s) → TDs H vs (blkData b) → GVs F H vs (blkData b)
  | _, [], vs, _, t => by cases t; exact .nil
  | e, s :: r, vs, h, t => by
    have t : TDs H vs (s.data :: blkData r) := t
    obtain ⟨v1, xs, rfl, d1, h2⟩ := tds_cons t
    exact .cons (sta_gv hW s v1 (h s (List.mem_cons_self ..)) d1) (blk_gv hW r xs (fun s hs => h s (List.mem_cons_of_mem _ hs)) h2)
end
end
end G

set_option Elab.async false
set_option linter.all false
set_option maxRecDepth 100000
set_option maxHeartbeats 8000000
/-! For the law, on paper. -/
namespace G
open PySem PySem.Spec PyProof.Rows L2 StX RZ
theorem vD_actR {g : Int} {W : Str → Prop} {b : Act} (h : b.nmR g W) : ∀ v ∈ vD b.data, W v := by
  intro v hv
  rw [show vD b.data = wishesL [(0, Sta.act b)] from vD_sta 0 (.act b)] at hv
  cases b <;> first | exact absurd hv List.not_mem_nil | skip
  rename_i x wd
  have hv : v ∈ [wd] := hv
  rw [List.mem_singleton.mp hv]
  exact h.2
mutual
theorem vD_R {g : Int} {W : Str → Prop} : ∀ {e : Nat} (s : Sta), StaR g W e s → ∀ v ∈ vD s.data, W v
  | 0, _, h, _, _ => h.elim
  | e + 1, .act a, h, v, hv => vD_actR (b := a) h v hv
  | e + 1, .cond t y n, h, v, hv => by
    have hv : v ∈ vD (.tuple [.str "if", t.data, .tuple (blkData y), .tuple (blkData n)]) := hv
    rw [vD, show blkW (Str.ofString "if") = true by decide +kernel, if_pos rfl, ownV_no (by decide +kernel), vBs, vBs, vBs, vBk, vBk, List.append_nil, List.nil_append] at hv
    rcases List.mem_append.mp hv with hv | hv
    · exact vDs_R y h.2.1 v hv
    · exact vDs_R n h.2.2 v hv
  | e + 1, .rep k b, h, v, hv => by
    have hv : v ∈ vD (.tuple [.str "repeat", .int k, .tuple (blkData b)]) := hv
    rw [vD, show blkW (Str.ofString "repeat") = true by decide +kernel, if_pos rfl, ownV_no (by decide +kernel), vBs, vBs, vBk, List.append_nil, List.nil_append] at hv
    exact vDs_R b h.2 v hv
theorem vDs_R {g : Int} {W : Str → Prop} : ∀ {e : Nat} (b : List Sta), (∀ s ∈ b, StaR g W e s) → ∀ v ∈ vDs (blkData b), W v
  | _, [], _, v, hv => by simp [blkData, vDs] at hv
  | e, s :: r, h, v, hv => by
    have hv : v ∈ vDs (s.data :: blkData r) := hv
    rw [vDs] at hv
    rcases List.mem_append.mp hv with hv | hv
    · exact vD_R s (h s (List.mem_cons_self ..)) v hv
    · exact vDs_R r (fun s hs => h s (List.mem_cons_of_mem _ hs)) v hv
end
/-- a right program -/
theorem spPE_right {G : Addr → Prop} {H : Hp} {v : V} {g : Int} {ws : List Str} {blk : List Sta} {Q : VK} {E : XK} (gv : GV G H v (.tuple [.int g, .tuple (blkData blk)])) (h0 : 0 ≤ g) (h3 : g ≤ 3) (hW : ∀ w ∈ ws, wordB w = true) (l4 : ws.length ≤ 4) (hok : ∀ s ∈ blk, StaR g (· ∈ ws) 5 s) (hz : sizeB blk ≤ 30) (hw : wtB blk ≤ 200)
    (q : ∀ H', Same H H' → Q .non H') : spPE [v] H Q E := by
  have hp : Pass g 0 (blkData blk) (sizeB blk) (sizeB blk) := by
    have z := pass_good (g := g) (dp := 0) (p := (sizeB blk : Nat)) (staRw blk) (by rw [rwN_sta]; omega) (rwGood_sta hW blk (by decide) hok)
    rw [rwD_sta, rwN_sta] at z
    exact z
  have ll : (blkData blk).length ≤ sizeB blk := by rw [← rwD_sta, ← rwN_sta]; exact rwN_len _
  refine spPE_pass gv h0 h3 (by omega) (by omega) (by omega) hp fun k hk H' u s t => ?_
  have wt := wDs_blk blk
  obtain ⟨ys, sd, ek⟩ := hk hz (by omega)
  have l5 : ys.length ≤ ws.length := nodup_len sd.2.1 fun y hy => vDs_R blk hok y ((sd.2.2.1 y).mp hy)
  unfold resD at t
  rw [if_neg (by omega), if_neg (by omega), if_neg (by omega)] at t
  cases t
  exact q H' s
theorem rp_st : ∀ n : Fin 200, (PyData.tuple [.int (n.val : Int), .str "statement"]).showable = true ∧ (PyData.tuple [.int (n.val : Int), .str "statement"]).hasDict = false ∧ (PyData.tuple [.int (n.val : Int), .str "statement"]).depth ≤ 100 ∧ (PyData.tuple [.int (n.val : Int), .str "statement"]).shown.length ≤ 1000 := by decide +kernel
theorem dp_simple {K : PySem.W.Frag} {H : Hp} {u : V} {d : PyData} (h : TD H u d) (hs : d = .none ∨ (∃ i, d = .int i) ∨ ∃ x, d = .str x) : Dp K H u d := by
  rcases hs with rfl | ⟨i, rfl⟩ | ⟨x, rfl⟩
  · cases h; exact .non
  · cases h; exact .int i
  · cases h; exact .str x
theorem dp_pair {K : PySem.W.Frag} {H : Hp} {v : V} {x y : PyData} (h : TD H v (.tuple [x, y])) (hx : x = .none ∨ (∃ i, x = .int i) ∨ ∃ z, x = .str z) (hy : y = .none ∨ (∃ i, y = .int i) ∨ ∃ z, y = .str z) : Dp K H v (.tuple [x, y]) := by
  obtain ⟨t, xs, rfl, gt, h1⟩ := td_tup h
  obtain ⟨v1, xs, rfl, d1, h2⟩ := tds_cons h1
  obtain ⟨v2, xs, rfl, d2, h3⟩ := tds_cons h2
  cases h3
  exact .tup (SqT.of gt) (.cons (dp_simple d1 hx) (.cons (dp_simple d2 hy) .nil))
theorem st_repr {K : PySem.W.Frag} {H : Hp} {v : V} {n : Nat} {Q : VK} (h : TD H v (.tuple [.int (n : Int), .str "statement"])) (hn : n < 200) (q : Q (.str (PyData.tuple [.int (n : Int), .str "statement"]).shown) H) : rRepr K [v] H Q := by
  have r := rp_st ⟨n, hn⟩
  exact ⟨v, _, rfl, dp_pair h (.inr (.inl ⟨_, rfl⟩)) (.inr (.inr ⟨_, rfl⟩)), r.1, r.2.1, r.2.2.1, Nat.le_trans r.2.2.2 (Nat.le_of_lt (lt_line (by decide : 1000 < _))), q⟩
/-- the block while rows are put: how far down it is right -/
structure Rdy (g : Int) (b : Int) (f : List Rw) : Prop where
  ok : ∀ s ∈ f, okR 5 s
  sz : rwN f ≤ 31
  good : rwGood g 0 b f
  lt : b < rwN f
theorem Rdy.put {g b q : Int} {f : List Rw} {d : PyData} (h : Rdy g b f) (h0 : 0 ≤ q) (hq : q ≤ b) (hd : wrL d = true) : Rdy g q (rwPut (.lf d) q f) where
  ok := by
    obtain ⟨a, l⟩ := wrL_ok hd
    exact okF_put (lf_wr a l) f h.ok
  sz := by have := rwPut_le (x := .lf d) rfl (p := q) f; have := h.sz; omega
  good := rwGood_put f (rwGood_mono f hq h.good)
  lt := rwPut_size f h0 (by have := h.lt; omega)
theorem Rdy.stop {g b q : Int} {f : List Rw} {d : PyData} (h : Rdy g b f) (h0 : 0 ≤ q) (hq : q ≤ b) (hd : isStmt d g = false) : Stop g 0 (rwD (rwPut (.lf d) q f)) q.toNat 31 "statement" :=
  (stop_put hd f h0 (by have := h.lt; omega) (rwGood_mono f hq h.good)).mono h.sz
theorem act_lf (b : Act) : lfOk b.data := by
  have A : ∀ (z : String) (r : List PyData), blkW (Str.ofString z) = false → r.length ≤ 999 → lfOk (.tuple (.str z :: r)) := fun z r h l => by
    refine ⟨?_, fun x e => by cases e; show r.length + 1 ≤ 1000; omega, ?_⟩
    · match r with
      | [] => rfl
      | [_] => rfl
      | _ :: _ :: _ => rfl
    · intro x hx
      have e : partsD (.tuple (.str z :: r)) = [] := by
        match r with
        | [] => rfl
        | [a] => show (if blkW (Str.ofString z) then [] else []) = []; rw [h]; rfl
        | a :: b :: r => show (if blkW (Str.ofString z) then b :: r else []) = []; rw [h]; rfl
      rw [e] at hx
      cases hx
  cases b with
  | wish x wd => exact A "wish" _ (by decide +kernel) (Nat.le_of_ble_eq_true rfl)
  | make x => exact A "make" _ (by decide +kernel) (Nat.le_of_ble_eq_true rfl)
  | keep x => exact A "keep" _ (by decide +kernel) (Nat.le_of_ble_eq_true rfl)
  | drop x => exact A "drop" _ (by decide +kernel) (Nat.le_of_ble_eq_true rfl)
  | name x y => exact A "name" _ (by decide +kernel) (Nat.le_of_ble_eq_true rfl)
  | hold x f y => exact A "hold" _ (by decide +kernel) (Nat.le_of_ble_eq_true rfl)
  | weak x f y => exact A "weak" _ (by decide +kernel) (Nat.le_of_ble_eq_true rfl)
  | cut x f => exact A "cut" _ (by decide +kernel) (Nat.le_of_ble_eq_true rfl)
  | take x f y => exact A "take" _ (by decide +kernel) (Nat.le_of_ble_eq_true rfl)
  | say x => exact A "say" _ (by decide +kernel) (Nat.le_of_ble_eq_true rfl)
  | ask t => exact A "ask" _ (by decide +kernel) (Nat.le_of_ble_eq_true rfl)
mutual
theorem okR_sta {g : Int} {W : Str → Prop} : ∀ {e : Nat} (s : Sta), StaR g W e s → okR e s.rw
  | 0, _, h => h.elim
  | _ + 1, .act a, _ => act_lf a
  | _ + 1, .cond _ y n, h => ⟨okF_sta y h.2.1, okF_sta n h.2.2⟩
  | _ + 1, .rep _ b, h => okF_sta b h.2
theorem okF_sta {g : Int} {W : Str → Prop} : ∀ {e : Nat} (b : List Sta), (∀ s ∈ b, StaR g W e s) → ∀ s ∈ staRw b, okR e s
  | _, [], _, _, h => nomatch h
  | _, s :: r, h, x, hx => by
    rcases List.mem_cons.mp hx with rfl | hx
    · exact okR_sta s (h s (List.mem_cons_self ..))
    · exact okF_sta r (fun s hs => h s (List.mem_cons_of_mem _ hs)) x hx
end
theorem staRw_app : ∀ a b : List Sta, staRw (a ++ b) = staRw a ++ staRw b
  | [], _ => rfl
  | s :: r, b => congrArg (s.rw :: ·) (staRw_app r b)
theorem blkData_app : ∀ a b : List Sta, blkData (a ++ b) = blkData a ++ blkData b
  | [], _ => rfl
  | s :: r, b => congrArg (s.data :: ·) (blkData_app r b)
theorem sizeB_app : ∀ a b : List Sta, sizeB (a ++ b) = sizeB a + sizeB b
  | [], b => by show sizeB b = 0 + sizeB b; omega
  | s :: r, b => by
    show s.size + sizeB (r ++ b) = s.size + sizeB r + sizeB b
    rw [sizeB_app r b]
    omega
theorem Rdy.start {g : Int} {ws : List Str} {blk : List Sta} {a : Act} (hW : ∀ w ∈ ws, wordB w = true) (hok : ∀ s ∈ blk, StaR g (· ∈ ws) 5 s) (ha : a.nmR g (· ∈ ws)) (hz : sizeB blk ≤ 30) : Rdy g (sizeB blk : Nat) (staRw (blk ++ [.act a])) := by
  have h5 : ∀ s ∈ blk ++ [.act a], StaR g (· ∈ ws) 5 s := fun s hs => by
    rcases List.mem_append.mp hs with hs | hs
    · exact hok s hs
    · rw [List.mem_singleton.mp hs]
      exact ha
  have e : rwN (staRw (blk ++ [.act a])) = sizeB blk + 1 := by
    rw [rwN_sta, sizeB_app]
    rfl
  exact ⟨okF_sta _ h5, by omega, rwGood_sta hW _ (by decide) h5, by omega⟩
/-- the block itself is no program -/
theorem blk_noP : ∀ b : List Sta, pairD (.tuple (blkData b)) = false
  | [] => rfl
  | [_] => rfl
  | [s, t] => by
    show (rngD 0 3 s.data && isTupD t.data) = false
    have e : rngD 0 3 s.data = false := by
      cases s with
      | act a => cases a <;> rfl
      | cond _ _ _ => rfl
      | rep _ _ => rfl
    rw [e]
    rfl
  | _ :: _ :: _ :: _ => rfl
end G

set_option Elab.async false
set_option linter.all false
set_option maxRecDepth 100000
set_option maxHeartbeats 4000000
/-! A tuple of one item, n times, n = 0 and n = 1 too. -/
namespace G
open PySem PySem.Spec PyProof.Rows L2
theorem tuple_mul1 (l : Addr) (items : Array Value) (n : Nat) (dd : Option Addr) (sl : Array (Option Value)) (u : Tok) :
    Meets (Builtin.«tuple.__mul__» ⟨[.ref l, .int 1 u], []⟩) (fun _ R s => s.heap.get? l = some { cls := .type "tuple", dict := dd, data := .seq items n, slots := sl } ∧ R (.ok (.ret (Value.ref l))) s) :=
  .of_wp fun prog w A R s h => by
    obtain ⟨hp, g, d, tk, os⟩ := s
    obtain ⟨hl, h⟩ := h
    have f1 := AutoSeq1.idx_int
    have c1 : (items.isEmpty || (1 : Int) == 1) = true := by rw [Bool.or_eq_true]; exact .inr rfl
    wp_walk using wpAny_loadPart' hl
    repeat (first
      | (refine wpAny_ite_false (by decide) ?_; wp_walk using wpAny_loadPart' hl)
      | (refine wpAny_ite_true (decide_eq_true (by rw [c1])) ?_; wp_walk using wpAny_loadPart' hl)
      | (refine wpAny_ite_true (by rw [c1]) ?_; wp_walk using wpAny_loadPart' hl))
    exact ⟨_, rfl, h⟩
theorem tuple_mul0 (l : Addr) (items : Array Value) (n : Nat) (dd : Option Addr) (sl : Array (Option Value)) (u : Tok) (hi : items.isEmpty = false) :
    Meets (Builtin.«tuple.__mul__» ⟨[.ref l, .int 0 u], []⟩) (fun _ R s => s.heap.get? l = some { cls := .type "tuple", dict := dd, data := .seq items n, slots := sl } ∧
      R (.ok (.ret (Value.ref s.heap.objs.size))) { s with heap := s.heap.push { cls := Value.type "tuple", data := Data.seq #[] }, toks := s.toks }) :=
  .of_wp fun prog w A R s h => by
    obtain ⟨hp, g, d, tk, os⟩ := s
    obtain ⟨hl, h⟩ := h
    have f1 := AutoSeq1.idx_int
    have c1 : (items.isEmpty || (0 : Int) == 1) = false := by rw [hi]; rfl
    have c2 : (decide ((0 : Int) ≤ 0) || items.isEmpty) = true := rfl
    wp_walk using wpAny_loadPart' hl
    repeat (first
      | (refine wpAny_ite_false (by decide) ?_; wp_walk using wpAny_loadPart' hl)
      | (refine wpAny_ite_false (decide_eq_false (by rw [c1]; exact Bool.false_ne_true)) ?_; wp_walk using wpAny_loadPart' hl)
      | (refine wpAny_ite_true (decide_eq_true (by rw [c2])) ?_; wp_walk using wpAny_loadPart' hl)
      | (refine wpAny_ite_true (by rw [c2]) ?_; wp_walk using wpAny_loadPart' hl))
    exact ⟨_, rfl, h⟩
theorem flat_rep {α : Type} (b : α) : ∀ k : Nat, (List.replicate k [b]).flatten = List.replicate k b
  | 0 => rfl
  | k + 1 => by rw [List.replicate_succ, List.flatten_cons, flat_rep b k]; rfl
/-- (x,) * n -/
def rRep1 (K : PySem.W.Frag) : R2 := fun x y H Q => ∃ l v n, x = .ref l ∧ y = .int (n : Nat) ∧ SqT K H l [v] ∧ n ≤ 1000 ∧ (n = 1 → Q (.ref l) H) ∧ (n ≠ 1 → ∀ p, H p = none → Q (.ref p) (upd H p (.tup (List.replicate n v))))
theorem op_rep1 {X : Cx} : OpR X (binaryOp .Mult) (rRep1 X.K) := by
  intro pins s σ H x y v u Q I rx ry h
  obtain ⟨l, b, k, rfl, rfl, hT, h2, q1, q2⟩ := h
  by_cases hk : 2 ≤ k
  · refine op_repT pins s σ H _ _ v u Q I rx ry ⟨l, (k : Int), [b], rfl, rfl, hT, by simp, by omega, by omega, by simp, fun p np => ?_⟩
    have e : (List.replicate (k : Int).toNat [b]).flatten = List.replicate k b := by
      rw [Int.toNat_natCast]
      exact flat_rep b k
    rw [e]
    exact q2 (by omega) p np
  cases rx
  obtain ⟨t, rfl⟩ := ry
  obtain ⟨its, r, ⟨⟨cls, dd, data, sl⟩, ho, hc, n, hd⟩, hs⟩ := I.tuple hT
  simp only at hc hd
  subst hc hd
  have hle : its.length = 1 := r.length.symm
  have hi : its.toArray.isEmpty = false := by
    cases its with
    | nil => cases hle
    | cons a b => rfl
  rcases (by omega : k = 0 ∨ k = 1) with rfl | rfl
  · refine wpAny_binaryOp_repeat_ref (T := "tuple") (U := "int") (by decide) ⟨_, ho, rfl⟩ (fun s' => typeIs_int s' _ t) noFill_tuple_mul F.fills_int_mul F.slot_int_rmul repeat_tuple F.slot_int_index.lookup
      (call_meets F.slot_int_rmul (typeIs_int s _ t) F.entry_int_rmul (F.args_int_rmul_2 _ _) (int_rmul_tuple _ t l its.toArray n dd sl)
        ⟨ho, rfl, ⟨_, ho, rfl⟩, call_meets F.slot_tuple_mul ⟨_, ho, rfl⟩ F.entry_tuple_mul (F.args_tuple_mul_2 _ _) (tuple_mul0 l its.toArray n dd sl t hi) ⟨ho, ?_⟩⟩)
    refine ⟨.ref s.heap.objs.size, _, I.laid (t' := s.toks) (o := .tup []) (fun b ob q => Heap.get?_push_of_some _ q) (Nat.le_refl _) ?_, rfl, q2 (by decide) _ (I.hok.fresh (Nat.le_refl _))⟩
    exact ⟨Nat.zero_le _, [], .nil, IsTup.new _ _⟩
  · refine wpAny_binaryOp_repeat_ref (T := "tuple") (U := "int") (by decide) ⟨_, ho, rfl⟩ (fun s' => typeIs_int s' _ t) noFill_tuple_mul F.fills_int_mul F.slot_int_rmul repeat_tuple F.slot_int_index.lookup
      (call_meets F.slot_int_rmul (typeIs_int s _ t) F.entry_int_rmul (F.args_int_rmul_2 _ _) (int_rmul_tuple _ t l its.toArray n dd sl)
        ⟨ho, rfl, ⟨_, ho, rfl⟩, call_meets F.slot_tuple_mul ⟨_, ho, rfl⟩ F.entry_tuple_mul (F.args_tuple_mul_2 _ _) (tuple_mul1 l its.toArray n dd sl t) ⟨ho, ?_⟩⟩)
    exact ⟨.ref l, H, I, rfl, q1 rfl⟩
end G

set_option Elab.async false
set_option linter.all false
set_option maxRecDepth 100000
set_option maxHeartbeats 8000000
/-! Drawn places, sorted; what one of a list gives. -/
namespace G
open PySem PySem.Spec PyProof.Rows L2 StX RZ
def Bq (c : Int) (ns : List Int) : Nat → Int
  | 0 => c
  | j + 1 => ns.getD (ns.length - 1 - j) 0
theorem bq_at {c : Int} {ns : List Int} {j : Nat} (hj : j < ns.length) : ns[ns.length - 1 - j]? = some (Bq c ns (j + 1)) := by
  show _ = some (ns.getD (ns.length - 1 - j) 0)
  rw [List.getD_eq_getElem?_getD, List.getElem?_eq_getElem (by omega)]
  rfl
theorem bq_step {c : Int} {ns : List Int} (pw : ns.Pairwise (· ≤ ·)) (hc : ∀ y ∈ ns, 0 ≤ y ∧ y ≤ c) {j : Nat} (hj : j < ns.length) : 0 ≤ Bq c ns (j + 1) ∧ Bq c ns (j + 1) ≤ Bq c ns j := by
  have e := bq_at (c := c) hj
  have m := hc _ (List.mem_of_getElem? e)
  refine ⟨m.1, ?_⟩
  cases j with
  | zero => exact m.2
  | succ j =>
    have e2 := bq_at (c := c) (ns := ns) (j := j) (by omega)
    obtain ⟨l1, q1⟩ := List.getElem?_eq_some_iff.mp e
    obtain ⟨l2, q2⟩ := List.getElem?_eq_some_iff.mp e2
    rw [← q1, ← q2]
    exact List.pairwise_iff_getElem.mp pw _ _ l1 l2 (by omega)
theorem bq_min {c m : Int} {ns : List Int} (pw : ns.Pairwise (· ≤ ·)) (hl : 0 < ns.length) (hm : m ∈ ns) (h : ∀ y ∈ ns, m ≤ y) : Bq c ns ns.length = m := by
  match ns, hl with
  | x :: r, _ =>
    have e : Bq c (x :: r) (x :: r).length = x := by
      show (x :: r).getD ((x :: r).length - 1 - r.length) 0 = x
      rw [show (x :: r).length - 1 - r.length = 0 by show r.length + 1 - 1 - r.length = 0; omega]
      rfl
    rw [e]
    have h1 := h x (List.mem_cons_self ..)
    rcases List.mem_cons.mp hm with rfl | hm
    · rfl
    · have h2 := (List.pairwise_cons.mp pw).1 m hm
      omega
theorem one_li {K : PySem.W.Frag} {D L A : Addr} {H : Hp} {xs : List V} {i : Nat} (d : Deck H D L i) (hm : i < 10 ^ 12) (gA : H A = some (.lst xs)) (na : A ∉ [D, L]) (l0 : 0 < xs.length) (l1 : xs.length ≤ 1000) {Q' : VK}
    (h : ∀ H' y, Kp [D, L] H H' → Deck H' D L (i + 1) → y ∈ xs → Q' y H') : spOne K [.ref D, .ref A] H Q' E0 :=
  ⟨D, L, i, _, rfl, d, hm, .inl ⟨A, _, rfl, .inl ⟨SqL.of gA, na⟩, l0, l1, fun H' y k' d' hy => h H' y k' d' hy⟩⟩
/-- a list of drawn numbers grows -/
def GrowI (p : Int → Prop) (D L a : Addr) (H1 : Hp) (m : Nat) (i : Nat) (H' : Hp) : Prop := ∃ ys : List Int, Ch [a, D, L] H1 H' ∧ Deck H' D L (m + i) ∧ H' a = some (.lst (ys.map V.int)) ∧ ys.length = i ∧ ∀ y ∈ ys, p y
theorem GrowI.start {p : Int → Prop} {D L a : Addr} {H1 : Hp} {m : Nat} (d : Deck H1 D L m) (na : H1 a = none) : GrowI p D L a H1 m 0 (upd H1 a (.lst [])) :=
  ⟨[], (Ch.refl _ _).new na, (d.new na).mono (by omega), upd_same, rfl, fun _ z => nomatch z⟩
theorem GrowI.step {p : Int → Prop} {D L a : Addr} {H1 H' H4 : Hp} {m i : Nat} {y : Int} (g : GrowI p D L a H1 m i H') (hi : i < 1000) (kp : Ch [D, L] H' H4) (d : Deck H4 D L (m + i + 1)) (ne : a ∉ [D, L]) (hy : p y) :
    ∃ acc, H4 a = some (.lst acc) ∧ acc.length < sizeLine ∧ GrowI p D L a H1 m (i + 1) (upd H4 a (.lst (acc ++ [.int y]))) := by
  obtain ⟨ys, k0, d0, ha, hl, hb⟩ := g
  have ne1 : a ≠ D := fun z => ne (by simp [z])
  have ne2 : a ≠ L := fun z => ne (by simp [z])
  have ha4 := kp.kp _ _ ne ha
  refine ⟨_, ha4, by rw [List.length_map, hl]; exact small1000 (by omega), ys ++ [y], (k0.trans (kp.mono fun b hb => List.mem_cons_of_mem _ hb)).put (by simp) ha4 (fun xs z => by cases z), ?_, ?_, by rw [List.length_append, hl]; rfl, fun z hz => ?_⟩
  · refine Deck.mono (n := m + i + 1) ?_ (by omega)
    exact d.kp (S := [a]) ((Kp.refl _ _).put (by simp)) (by simpa using ne1.symm) (by simpa using ne2.symm)
  · rw [upd_same, List.map_append]
    rfl
  · rcases List.mem_append.mp hz with h | h
    · exact hb z h
    · rw [List.mem_singleton.mp h]; exact hy
/-- the rows behind -/
def rp12 (d : PyData) : PyData := .tuple [.str "repeat", .int 12, .tuple [d]]
end G

set_option Elab.async false
set_option linter.all false
set_option maxRecDepth 100000
set_option maxHeartbeats 8000000
/-! k01: the law. -/
namespace G
open PySem PySem.Spec PyProof.Rows L2 StX RZ
abbrev rTupK (K : PySem.W.Frag) : List V → Hp → VK → Prop := fun xs H Q => ∃ p ys, xs = [.ref p] ∧ ((SqL K H p ys ∧ ∀ l, H l = none → Q (.ref l) (upd H l (.tup ys))) ∨ (SqT K H p ys ∧ Q (.ref p) H))
theorem repg {F : Addr → Prop} {H : Hp} {v : V} {d : PyData} (h : GV F H v d) : ∀ n : Nat, GVs F H (List.replicate n v) (List.replicate n d)
  | 0 => .nil
  | n + 1 => .cons h (repg h n)
theorem rep_any {K : PySem.W.Frag} {H : Hp} {Q : VK} {l : Addr} {v : V} {n : Nat} (g : H l = some (.tup [v])) (hn : n ≤ 1000) (q : ∀ p H', Same H H' → H' p = some (.tup (List.replicate n v)) → Q (.ref p) H') : rRep1 K (.ref l) (.int (n : Int)) H Q :=
  ⟨l, v, n, rfl, rfl, SqT.of g, hn, fun h => q l H (Same.refl _) (by rw [h]; exact g), fun _ p np => q p _ (Same.up np) upd_same⟩
section
variable {P : Program} {w : World} {K : PySem.W.Frag} {mg : Str → Option Value} {base : Heap} {RV : Addr}
abbrev s_law : Stmt := top 59
abbrev n_law : List Str := ["_law_script", "_law_deck_here", "_law_turn", "_law_program", "_law_pool_here", "_law_count", "_law_places", "_law_block", "_law_place", "_law_more", "_law_k"]
theorem sc_law : FnScope n_law ["_law_script"] (defScope s_law) := ⟨rfl, rfl, rfl, by decide +kernel, rfl, by decide +kernel, by decide +kernel⟩
abbrev dp2 : List Str := ["_law_deck_here", "_law_pool_here"]
theorem ok_law {f fD fF f1 fE fN fL fR fP fW f2 : Addr} {fd dD dF d1 dE dN dL dR dP dW d2 : FuncData} (F : Fun K "law" "law" s_law f fd) (T : Bi mg) (z_repr : mg "repr" = none) (z_sorted : mg "sorted" = none) (z_reversed : mg "reversed" = none) (z_min : mg "min" = none)
    (DD : Df K mg "_law_deck" s__law_deck ["_law_script"] fD dD) (GD : FnOk P w K mg base CX0 1 fD dD ["_law_script"] (spDeck K))
    (DF : Df K mg "_law_free" s__law_free ["_law_deck_here", "_law_most"] fF dF) (GF : FnOk P w K mg base CX0 15 fF dF ["_law_deck_here", "_law_most"] spFree)
    (D1 : Df K mg "_law_draw" s__law_draw ["_law_deck_here", "_law_many"] f1 d1) (G1 : FnOk P w K mg base CX0 1 f1 d1 ["_law_deck_here", "_law_many"] spDraw)
    (DE : Df K mg "program_error" s_program_error ["value"] fE dE) (GE : FnOk P w K mg base CX0 14 fE dE ["value"] spPE)
    (DN : Df K mg "_law_no_program" s__law_no_program ["_law_deck_here", "_law_program"] fN dN) (GN : FnOk P w K mg base CX0 3 fN dN ["_law_deck_here", "_law_program"] spNoP)
    (DL : Df K mg "_law_flat" s__law_flat ["_law_block", "_law_depth"] fL dL) (GL : FnOk P w K mg base CX0 7 fL dL ["_law_block", "_law_depth"] (spFl 5))
    (DR : Df K mg "_law_row" s__law_row dp2 fR dR) (GR : FnOk P w K mg base CX0 4 fR dR dp2 spRowY)
    (DP : Df K mg "_law_put" s__law_put p__law_put fP dP) (GP : FnOk P w K mg base CX0 13 fP dP p__law_put (spPut 5))
    (DW : Df K mg "_law_wrong_row" s__law_wrong_row dp2 fW dW) (GW : FnOk P w K mg base CX0 3 fW dW dp2 spWrong)
    (D2 : Df K mg "_law_one" s__law_one ["_law_deck_here", "_law_items"] f2 d2) (G2 : FnOk P w K mg base CX0 2 f2 d2 ["_law_deck_here", "_law_items"] (spOne K)) : FnOkG P w K mg base 16 f fd ["_law_script"] (spLawN K 63) := by
  refine G.Fun.okG F sc_law (fun vs H Q E ⟨a, ns, ev, _⟩ => by rw [ev]; rfl) (fun cdv A outer s H vs Q E gA hr ⟨sa, sns, ev, hS, hlen, q⟩ => ?_)
  subst ev
  have hr1 : Room 1 _ := hr.mono (by decide)
  have hr2 : Room 2 _ := hr.mono (by decide)
  have hr3 : Room 3 _ := hr.mono (by decide)
  have hr4 : Room 4 _ := hr.mono (by decide)
  have hr7 : Room 7 _ := hr.mono (by decide)
  have hr13 : Room 13 _ := hr.mono (by decide)
  have hr14 : Room 14 _ := hr.mono (by decide)
  have hu64 : (A.deeper (envOfC "law" (defScope s_law) s.heap.objs.size f cdv)).units + 64 < cLine := by have := hr.un; omega
  have hu101 : (A.deeper (envOfC "law" (defScope s_law) s.heap.objs.size f cdv)).units + 101 < cLine := by have := hr.un; omega
  have gu : (A.deeper (envOfC "law" (defScope s_law) s.heap.objs.size f cdv)).guards = some [] := gA
  refine ⟨_, (pss_cons (ps_set (i := 1) sc_law.nd rfl (.inr rfl) (pe_call GD hr1 (by rfl) DD.m DD.F.kp DD.b .nil pass0 (pa_cons (pv 0) pa_nil)))
      (pss_cons (ps_for PassesOwn.never rfl (pi_range1 (by rfl) T.z_range (pa_cons pe_int pa_nil)) (pg_name (i := 2) sc_law.nd rfl (.inl rfl))
      (pss_cons (ps_asg (pe_call GF hr (by rfl) DF.m DF.F.kp DF.b .nil pass0 (pa_cons (pv 1) (pa_cons (pe_op op_addE pe_int (pe_call G1 hr1 (by rfl) D1.m D1.F.kp D1.b .nil pass0 (pa_cons (pv 1) (pa_cons pe_int pa_nil)))) pa_nil))) (pg_tup rfl (pgs_cons (pg_name (i := 3) sc_law.nd rfl (.inl rfl)) (pgs_cons (pg_name (i := 4) sc_law.nd rfl (.inl rfl)) pgs_nil))))
      (pss_cons (ps_if (PW.pt (pw_or (pt_cmpR op_notN (pe_call GE hr14 (by rfl) DE.m DE.F.kp DE.b .nil pass0 (pa_cons (pv 3) pa_nil)) pe_non (nomark _)) (pw_or1 (pt_cmpR (op_neD hu64) (pe_call GE hr14 (by rfl) DE.m DE.F.kp DE.b .nil pass0 (pa_cons (pe_call GN hr3 (by rfl) DN.m DN.F.kp DN.b .nil pass0 (pa_cons (pv 1) (pa_cons (pv 3) pa_nil))) pa_nil)) (pe_tup (pa_cons pe_non (pa_cons pe_str pa_nil))) (nomark _)))))
      (pss_one (ps_ret pe_bl))
      pss_nil)
      (pss_cons (ps_set (i := 5) sc_law.nd rfl (.inr rfl) (pe_callB call_len_seq (by rfl) T.z_len (by decide +kernel) (pa_cons (pe_call GL hr7 (by rfl) DL.m DL.F.kp DL.b .nil pass0 (pa_cons (pe_ix ix_tup (pv 3) pe_int (fun _ _ => rfl)) (pa_cons pe_int pa_nil))) pa_nil)))
      (pss_cons (ps_setLc (i := 6) (te := tCall spDraw [] E0 (tCons (tVar 1) (tCons (tOp rAddE (tVar 5) (tC (.int 1))) tNil))) (own := [("_law_k", 10)]) (by rfl) sc_law.nd rfl rfl (sw_true rfl rfl rfl (by decide +kernel)) (pi_range1 (by rfl) T.z_range (pa_cons (pe_op op_addE pe_int (pe_call G1 hr1 (by rfl) D1.m D1.F.kp D1.b .nil pass0 (pa_cons (pv 1) (pa_cons pe_int pa_nil)))) pa_nil)) (blkOk_by (N := n_law) (sc := defScope s_law) (by decide +kernel)) (fun _ _ _ _ _ => (pg_name (i := 10) sc_law.nd rfl (.inl rfl))) (fun _ _ _ _ _ => pts_nil) (fun _ _ _ _ _ => (pe_call G1 hr1 (by rfl) D1.m D1.F.kp D1.b .nil pass0 (pa_cons (pv 1) (pa_cons (pe_op op_addE (pv 5) pe_int) pa_nil)))))
      (pss_cons (ps_set (i := 7) sc_law.nd rfl (.inl rfl) (pe_op op_catA (pe_ix ix_tup (pv 3) pe_int (fun _ _ => rfl)) (pe_tup (pa_cons (pe_call GR hr4 (by rfl) DR.m DR.F.kp DR.b .nil pass0 (pa_cons (pv 1) (pa_cons (pv 4) pa_nil))) pa_nil))))
      (pss_cons (ps_for PassesOwn.never rfl (RT.pi_revA (by rfl) z_reversed (pe_callB cr_sorted (by rfl) z_sorted (by decide +kernel) (pa_cons (pv 6) pa_nil))) (pg_name (i := 8) sc_law.nd rfl (.inl rfl))
      (pss_one (ps_set (i := 7) sc_law.nd rfl (.inl rfl) (pe_call GP hr13 (by rfl) DP.m DP.F.kp DP.b .nil pass0 (pa_cons (pv 7) (pa_cons (pv 8) (pa_cons (pe_call GW hr3 (by rfl) DW.m DW.F.kp DW.b .nil pass0 (pa_cons (pv 1) (pa_cons (pv 4) pa_nil))) pa_nil)))))))
      (pss_cons (ps_set (i := 9) sc_law.nd rfl (.inl rfl) (pe_op op_rep1 (pe_tup (pa_cons (pe_tup (pa_cons pe_str (pa_cons pe_str pa_nil))) pa_nil)) (pe_call G2 hr2 (by rfl) D2.m D2.F.kp D2.b .nil pass0 (pa_cons (pv 1) (pa_cons (pe_lst (pa_cons pe_int (pa_cons pe_int (pa_cons pe_int pa_nil)))) pa_nil)))))
      (pss_cons (ps_set (i := 9) sc_law.nd rfl (.inl rfl) (pe_op op_catA (pv 9) (pe_op op_rep1 (pe_tup (pa_cons (pe_tup (pa_cons pe_str (pa_cons pe_int (pa_cons (pe_tup (pa_cons (pe_tup (pa_cons pe_str (pa_cons pe_int (pa_cons (pe_tup (pa_cons (pe_tup (pa_cons pe_str (pa_cons pe_str pa_nil))) pa_nil)) pa_nil)))) pa_nil)) pa_nil)))) pa_nil)) (pe_call G2 hr2 (by rfl) D2.m D2.F.kp D2.b .nil pass0 (pa_cons (pv 1) (pa_cons (pe_lst (pa_cons pe_int (pa_cons pe_int (pa_cons pe_int pa_nil)))) pa_nil))))))
      (pss_cons (ps_if (pt_cmpR op_ne (pe_callB (call_reprD gu hu101) (by rfl) z_repr (by decide +kernel) (pa_cons (pe_call GE hr14 (by rfl) DE.m DE.F.kp DE.b .nil pass0 (pa_cons (pe_tup (pa_cons (pe_ix ix_tup (pv 3) pe_int (fun _ _ => rfl)) (pa_cons (pe_op op_catA (pv 7) (pv 9)) pa_nil))) pa_nil)) pa_nil)) (pe_callB (call_reprD gu hu101) (by rfl) z_repr (by decide +kernel) (pa_cons (pe_tup (pa_cons (pe_callB (cr_min rfl) (by rfl) z_min (by decide +kernel) (pa_cons (pv 6) pa_nil)) (pa_cons pe_str pa_nil))) pa_nil)) (nomark _))
      (pss_one (ps_ret pe_bl))
      pss_nil)
      (pss_one (ps_if (pt_cmpR op_ne (pe_callB (call_reprD gu hu101) (by rfl) z_repr (by decide +kernel) (pa_cons (pe_call GE hr14 (by rfl) DE.m DE.F.kp DE.b .nil pass0 (pa_cons (pe_tup (pa_cons (pe_ix ix_tup (pv 3) pe_int (fun _ _ => rfl)) (pa_cons (pe_op op_catA (pe_ix ix_tup (pv 3) pe_int (fun _ _ => rfl)) (pe_tup (pa_cons (pe_call GW hr3 (by rfl) DW.m DW.F.kp DW.b .nil pass0 (pa_cons (pv 1) (pa_cons (pv 4) pa_nil))) pa_nil))) pa_nil))) pa_nil)) pa_nil)) (pe_callB (call_reprD gu hu101) (by rfl) z_repr (by decide +kernel) (pa_cons (pe_tup (pa_cons (pv 5) (pa_cons pe_str pa_nil))) pa_nil)) (nomark _))
      (pss_one (ps_ret pe_bl))
      pss_nil))))))))))))
      (pss_one (ps_ret pe_bl)))), ?_⟩
  refine ⟨_, rfl, sa, sns, rfl, hS, hlen, fun H1 D L s1 hD nD nL => ?_⟩
  refine ⟨_, rfl, by decide, by decide, for_range (lo := 0) (n := 3) (fun j σ H' => Deck H' D L (0 + j * 10000000000) ∧ ∃ (x2 x3 x4 x5 x6 x7 x8 x9 x10 : Option V), σ = [some (.ref sa), some (.ref D), x2, x3, x4, x5, x6, x7, x8, x9, x10]) ⟨hD.mono (by omega), none, none, none, none, none, none, none, none, none, rfl⟩ ?_ (fun σ H' _ => q H')⟩
  rintro j σ Ha hj ⟨hDa, x2, x3, x4, x5, x6, x7, x8, x9, x10, rfl⟩
  obtain ⟨n0, en0⟩ : ∃ n0 : Nat, n0 = 0 + j * 10000000000 := ⟨_, rfl⟩
  rw [← en0] at hDa
  have n0b : n0 ≤ 2 * 10 ^ 10 := by omega
  refine ⟨.ref D, rfl, .ref D, rfl, D, L, _, 30, rfl, hDa, by omega, by decide, by decide, fun Hb r1 kb hDb r10 r11 => ⟨_, _, rfl, rfl, fun m em => ⟨D, L, _, m, rfl, hDb, by omega, ⟨by omega, by omega⟩, fun Hc t p a g blk ws kc hDc gt tdp hg hok hsz hwt hp => ⟨t, _, rfl, SqT.of gt, rfl, _, _, rfl, _, _, rfl, rfl, ?_⟩⟩⟩⟩
  have hW : ∀ v, v ∈ ws → wordB v = true := by
    obtain ⟨_, _, _, _, _, _, _, h, _⟩ := hp
    exact h
  have lws : ws.length ≤ 4 := by
    obtain ⟨_, _, _, _, _, _, _, _, _, h, _⟩ := hp
    exact h.2
  have gv : GV (FD D L) Hc (.ref p) (.tuple [.int g, .tuple (blkData blk)]) := by
    obtain ⟨r0, xs, er, gr, h1⟩ := td_tup tdp
    cases er
    obtain ⟨v1, xs, rfl, d1, h2⟩ := tds_cons h1
    obtain ⟨v2, xs, rfl, d2, h3⟩ := tds_cons h2
    cases h3
    cases d1
    obtain ⟨rb, ys, rfl, g3, e3⟩ := td_tup d2
    exact .tup gr (.cons (.int _) (.cons (.tup g3 (blk_gv hW blk ys hok e3)) .nil))
  have hz30 : sizeB blk ≤ 30 := by omega
  clear tdp gt
  refine ⟨_, rfl, nilP (spPE_right (E := E0) gv hg.1 (by omega) hW lws hok hz30 hwt fun Hd sd => ⟨rfl, _, rfl, iteF ?_⟩)⟩
  have gvd := gv.same sd
  obtain ⟨p', pxs, ep, gpd, gpx⟩ := gd_tup gvd
  cases ep
  obtain ⟨v1, pxs, rfl, d1, gpx⟩ := gds_cons gpx
  obtain ⟨v2, pxs, rfl, gB, gpx⟩ := gds_cons gpx
  cases gpx
  cases d1
  obtain ⟨rb, bys, rfl, grb, gBy⟩ := gd_tup gB
  have hDd := hDc.sm sd
  have kd := kb.trans (kc.trans (Kp.same sd))
  have hpd := hp.kp (Kp.same sd)
  clear gvd hDb hDc hp kb kc
  refine ⟨.ref D, rfl, _, rfl, D, L, p, rb, _, g, blkData blk, rfl, hDd, by omega, gpd, gB, blk_noP blk, fun He u ud ke hDe gu1 hno => ?_⟩
  refine ⟨FD D L, u, ud, rfl, gu1, (fun _ Hf u2 sf tdf => ?_), (fun z => by rw [hno] at z; cases z)⟩
  refine ⟨line1000 (Nat.le_of_ble_eq_true rfl), fun p1 n1 => ?_⟩
  have sg := Same.up (o := HO.tup [.non, .str "program"]) n1
  have g1 : upd Hf p1 (HO.tup [.non, .str "program"]) p1 = some (HO.tup [.non, .str "program"]) := upd_same
  generalize upd Hf p1 (HO.tup [.non, .str "program"]) = Hg at sg g1 ⊢
  refine ⟨progE, progE, dp_pair (TD.ch (Ch.same (S := []) sg) _ _ tdf) (.inl rfl) (.inr (.inr ⟨_, rfl⟩)), dp_pair (.tup g1 (.cons .non (.cons (.str _) .nil))) (.inl rfl) (.inr (.inr ⟨_, rfl⟩)), by decide +kernel, by decide +kernel, _, rfl, ?_⟩
  rw [show (!PyData.eqv progE progE) = false by decide +kernel]
  refine iteF ?_
  have ce := deck_ch hDd hDe ke
  have sfg := Same.trans sf sg
  have gpg := sfg _ _ (ce.tu _ _ gpd)
  have gBg := (gB.kd hDd hDe ke).same sfg
  have hDg := hDe.sm sfg
  have kg := kd.trans (ke.trans (Kp.same sfg))
  have hpg := (hpd.kp ke).kp (Kp.same sfg)
  clear ce sfg sf sg g1 n1 tdf gu1 hno hDe hDd hpd kd ke gpd gB gBy grb gv sd hDa hD
  obtain ⟨c, ec⟩ : ∃ c : Nat, c = sizeB blk := ⟨_, rfl⟩
  -- count
  refine ⟨_, rfl, p, _, _, _, rfl, rfl, SqT.of gpg, atI_nat (j := 1) rfl, FD D L, .ref rb, staRw blk, 0, rfl, (by rw [rwD_sta]; exact gBg), okF_sta blk hok, by rw [rwN_sta]; omega, fun Hh Lf acc sh nL gL el => ⟨_, _, rfl, .inl (SqL.of gL), ?_⟩⟩
  have el : (acc.length : Int) = (c : Int) := by rw [el, rwN_sta, ec]
  rw [el]
  have gph := sh _ _ gpg
  have gBh := gBg.same sh
  have hDh := hDg.sm sh
  have kh := kg.trans (Kp.same sh)
  have hph := hpg.kp (Kp.same sh)
  clear gpg gBg hDg kg hpg sh gL nL el
  -- places
  refine ⟨.ref D, rfl, D, L, _, 3, rfl, hDh, by omega, by decide, by decide, fun Hi r2 ki hDi r20 r21 => ⟨_, _, rfl, rfl, fun m2 em2 => ⟨m2, rfl, by omega, by omega, fun N nN => ?_⟩⟩⟩
  have neN : N ∉ [D, L] := by simpa using hDi.neD nN
  have ci := deck_ch hDh hDi ki
  have gpi := ci.tu _ _ gph
  have gBi := gBh.kd hDh hDi ki
  have ki' := kh.trans ki
  have hpi := hph.kp ki
  clear ci gph gBh hDh kh hph ki
  obtain ⟨n1, en1⟩ : ∃ n1 : Nat, n1 = n0 + 1 + 9 * 10 ^ 9 + 1 + 1 := ⟨_, rfl⟩
  rw [← en1] at hDi
  refine lc_range (lo := 0) (n := m2.toNat) (GrowI (fun y => 0 ≤ y ∧ y ≤ (c : Int)) D L N Hi n1) (GrowI.start hDi nN) ?_ ?_
  · rintro i H' hi g
    obtain ⟨_, _, hD', _⟩ := id g
    refine ⟨rfl, .ref D, rfl, _, rfl, _, _, rfl, rfl, fun z ez => ⟨D, L, _, z, rfl, hD', by omega, by omega, by omega, fun H5 y k5 d5 y0 y1 => g.step (by omega) (deck_ch hD' d5 k5) d5 neN ⟨y0, by omega⟩⟩⟩
  rintro Hj ⟨ns, cj, hDj, gN, lN, hN⟩
  have cj := cj.less nN
  have gpj := cj.tu _ _ gpi
  have gBj := gBi.kd hDi hDj cj.kp
  have hpj := hpi.kp cj.kp
  clear gpi gBi hDi hpi cj ki' nN gpx
  clear gpx n0b
  -- the block
  refine ⟨_, rfl, p, _, _, _, rfl, rfl, SqT.of gpj, atI_nat (j := 1) rfl, .ref D, rfl, _, rfl, D, L, a, _, g, ws, rfl, hDj, by omega, hpj, fun Hk v6 b6 kk hDk td6 nm6 => ⟨line1000 (Nat.le_of_ble_eq_true rfl), fun p2 n2 => ?_⟩⟩
  have ck := deck_ch hDj hDk kk
  have gpk := ck.tu _ _ gpj
  have gBk := gBj.kd hDj hDk kk
  have hpk := hpj.kp kk
  have gNk := kk _ _ neN gN
  have gv6 : GV (FD D L) Hk v6 b6.data := (TD.gv (n := 4) _ _ (nmR_nm hW nm6) td6).1
  clear ck gpj gBj hpj gN kk td6 hDj
  have s2 := Same.up (o := HO.tup [v6]) n2
  have g2 : upd Hk p2 (HO.tup [v6]) p2 = some (HO.tup [v6]) := upd_same
  generalize upd Hk p2 (HO.tup [v6]) = Hl at s2 g2 ⊢
  have gBl := gBk.same s2
  obtain ⟨rb', bys, erb, grb, gBy⟩ := gd_tup gBl
  cases erb
  have lby : bys.length ≤ 30 := by
    have l1 := gBy.len
    have l2 : (blkData blk).length ≤ sizeB blk := by rw [← rwD_sta, ← rwN_sta]; exact rwN_len _
    omega
  refine cat_any grb g2 (by simp; omega) fun p3 Hm s3 g3 => ?_
  have s23 := Same.trans s2 s3
  have gpm := s23 _ _ gpk
  have gBm := gBk.same s23
  have hpm := hpk.kp (Kp.same s23)
  have gNm := s23 _ _ gNk
  have hDm := hDk.sm s23
  have gv3 : GV (FD D L) Hm (.ref p3) (.tuple (rwD (staRw (blk ++ [.act b6])))) := by
    rw [rwD_sta, blkData_app]
    exact .tup g3 ((gBy.same s3).append (.cons (gv6.same s23) .nil))
  have rdy := Rdy.start hW hok nm6 hz30
  rw [← ec] at rdy
  clear gpk gBk hpk gNk hDk g3 g2 s2 s3 s23 gBl grb gBy gv6
  -- sorted
  refine ⟨_, rfl, N, ns, rfl, SqL.of gNm, by omega, fun ns' sp perm pw np => ⟨sp, _, rfl, .inl ⟨SqL.of upd_same, ?_⟩⟩⟩
  have s4 := Same.up (o := HO.lst (ns'.map V.int)) np
  have g4 : upd Hm sp (HO.lst (ns'.map V.int)) sp = some (HO.lst (ns'.map V.int)) := upd_same
  have nsp := hDm.nin np
  generalize upd Hm sp (HO.lst (ns'.map V.int)) = Hn at s4 g4 ⊢
  have hc' : ∀ y ∈ ns', 0 ≤ y ∧ y ≤ (c : Int) := fun y hy => hN y (perm.mem_iff.mp hy)
  have ln' : ns'.length = ns.length := perm.length_eq
  obtain ⟨n2', en2⟩ : ∃ n2 : Nat, n2 = n1 + m2.toNat + 20 := ⟨_, rfl⟩
  have hDn := (hDm.sm s4).mono (n' := n2') (by omega)
  refine RT.for_Itv (xs := ns'.map V.int) (fun j1 σ H' => Deck H' D L (n2' + j1 * 10) ∧ Kp [D, L] Hn H' ∧ ∃ (v7 : V) (f : List Rw) (x8' : Option V), GV (FD D L) H' v7 (.tuple (rwD f)) ∧ Rdy g (Bq (c : Int) ns' j1) f ∧ (0 < j1 → Stop g 0 (rwD f) (Bq (c : Int) ns' j1).toNat 31 "statement") ∧ σ = [some (.ref sa), some (.ref D), some (.int (0 + (j : Int))), some (.ref p), some (.ref a), some (.int (c : Int)), some (.ref N), some v7, x8', x9, x10])
    ⟨hDn.mono (by omega), Kp.refl _ _, .ref p3, _, x8, gv3.same s4, rdy, (fun z => absurd z (Nat.lt_irrefl 0)), rfl⟩ (fun j1 σ H' h => SqL.of (h.2.1 _ _ nsp g4)) ?_ ?_
  · rintro j1 x σ H' hlt hx ⟨hD', k', v7, f, x8', gv7, rd, st, rfl⟩
    rw [List.length_map] at hlt hx
    rw [List.getElem?_map, bq_at (c := (c : Int)) hlt] at hx
    cases hx
    obtain ⟨q0, q1⟩ := bq_step pw hc' hlt
    refine ⟨_, rfl, _, rfl, .ref D, rfl, _, rfl, D, L, a, _, g, ws, rfl, hD', by omega, hpm.kp ((Kp.same s4).trans k'), fun H7 u7 d7 k7 hD7 gu7 w7 => ?_⟩
    refine ⟨FD D L, v7, u7, f, d7, _, rfl, gv7.kd hD' hD7 k7, gu7, rd.ok, by have := rd.sz; omega, fun H8 t8 s8 g8 => ?_⟩
    exact ⟨(hD7.sm s8).mono (by omega), (k'.trans k7).trans (Kp.same s8), .ref t8, _, _, g8, rd.put q0 q1 w7.2, fun _ => rd.stop q0 q1 w7.1, rfl⟩
  rintro σ Ho ⟨hDo, ko, v7, f, x8', gv7, rd, st, rfl⟩
  rw [List.length_map, ln', lN] at hDo
  rw [List.length_map] at rd st
  obtain ⟨bm, ebm⟩ : ∃ bm, bm = Bq (c : Int) ns' ns'.length := ⟨_, rfl⟩
  rw [← ebm] at rd st
  have st := st (by omega)
  have co := deck_ch hDn hDo ko
  have gpo := co.tu _ _ (s4 _ _ gpm)
  have gBo := (gBm.same s4).kd hDn hDo ko
  have gNo := ko _ _ neN (s4 _ _ gNm)
  have hpo := (hpm.kp (Kp.same s4)).kp ko
  have b0 : 0 ≤ bm := by
    have e := bq_at (c := (c : Int)) (ns := ns') (j := ns'.length - 1) (by omega)
    rw [show ns'.length - 1 + 1 = ns'.length by omega, ← ebm] at e
    exact (hc' _ (List.mem_of_getElem? e)).1
  obtain ⟨kb, ekb⟩ : ∃ kb : Nat, kb = bm.toNat := ⟨_, rfl⟩
  have ebk : bm = (kb : Int) := by omega
  have kb31 : kb < 31 := by have := rd.lt; have := rd.sz; omega
  rw [← ekb] at st
  have lf31 : (rwD f).length ≤ 31 := by
    have := rwN_len f
    have := rd.sz
    omega
  obtain ⟨rf, fys, rfl, grf, gfy⟩ := gd_tup gv7
  have lfy : fys.length ≤ 31 := by have := gfy.len; omega
  clear co gpm gBm gNm hpm s4 ko hDn gv7 rd hDm gv3 rdy g4
  -- more
  refine ⟨line1000 (Nat.le_of_ble_eq_true rfl), fun q1 m1 => ?_⟩
  have t1 := Same.up (o := HO.tup [.str "say", .str "a"]) m1
  have y1 : upd Ho q1 (HO.tup [.str "say", .str "a"]) q1 = some (HO.tup [.str "say", .str "a"]) := upd_same
  generalize upd Ho q1 (HO.tup [.str "say", .str "a"]) = Ha1 at t1 y1 ⊢
  refine ⟨line1000 (Nat.le_of_ble_eq_true rfl), fun q2 m2' => ?_⟩
  have t2 := Same.up (o := HO.tup [.ref q1]) m2'
  have y2 : upd Ha1 q2 (HO.tup [.ref q1]) q2 = some (HO.tup [.ref q1]) := upd_same
  generalize upd Ha1 q2 (HO.tup [.ref q1]) = Ha2 at t2 y2 ⊢
  refine ⟨.ref D, rfl, line1000 (Nat.le_of_ble_eq_true rfl), fun q3 m3 => ?_⟩
  have t3 := Same.up (o := HO.lst [.int 0, .int 0, .int 31]) m3
  have y3 : upd Ha2 q3 (HO.lst [.int 0, .int 0, .int 31]) q3 = some (HO.lst [.int 0, .int 0, .int 31]) := upd_same
  generalize upd Ha2 q3 (HO.lst [.int 0, .int 0, .int 31]) = Ha3 at t3 y3 ⊢
  have t13 := Same.trans t1 (Same.trans t2 t3)
  have hDa3 := hDo.sm t13
  have nq3 := (hDo.sm (Same.trans t1 t2)).nin m3
  refine one_li hDa3 (by omega) y3 nq3 (by simp) (by simp) fun Ha4 y k4 hDa4 my => ?_
  have c4 := deck_ch hDa3 hDa4 k4
  obtain ⟨ka, eka, lka⟩ : ∃ ka : Nat, y = .int (ka : Int) ∧ ka ≤ 31 := by
    simp only [List.mem_cons, List.not_mem_nil, or_false] at my
    rcases my with rfl | rfl | rfl
    · exact ⟨0, rfl, by decide⟩
    · exact ⟨0, rfl, by decide⟩
    · exact ⟨31, rfl, by decide⟩
  subst eka
  have gsay : GV (FD D L) Ha4 (.ref q1) (.tuple [.str "say", .str "a"]) := .tup (c4.tu _ _ (t3 _ _ (t2 _ _ y1))) (.cons (.str _ (by decide +kernel)) (.cons (.str _ (by decide +kernel)) .nil))
  refine rep_any (c4.tu _ _ (t3 _ _ y2)) (by omega) fun q5 Ha5 t5 y5 => ?_
  have gma := (repg gsay ka).same t5
  have c5 := c4.trans (Ch.same (S := [D, L]) t5)
  have gpa := (c5.tu _ _ (t13 _ _ gpo))
  have gBa := ((gBo.same t13).kd hDa3 hDa4 k4).same t5
  have gNa := c5.kp _ _ neN (t13 _ _ gNo)
  have hpa := (hpo.kp (Kp.same t13)).kp (k4.trans (Kp.same t5))
  have grfa := c5.tu _ _ (t13 _ _ grf)
  have gfa : GVs (FD D L) Ha5 fys (rwD f) := ((gfy.same t13).kd hDa3 hDa4 k4).same t5
  have hDa5 := hDa4.sm t5
  clear gsay c4 c5 k4 my t13 t1 t2 t3 t5 y1 y2 y3 gpo gBo gNo hpo grf gfy hDa4 hDa3 hDo nq3 m1 m2' m3
  -- more2
  refine ⟨_, rfl, line1000 (Nat.le_of_ble_eq_true rfl), fun qz m1 => ?_⟩
  have t1 := Same.up (o := HO.tup [.str "say", .str "b"]) m1
  have y1 : upd Ha5 qz (HO.tup [.str "say", .str "b"]) qz = some (HO.tup [.str "say", .str "b"]) := upd_same
  generalize upd Ha5 qz (HO.tup [.str "say", .str "b"]) = Hb1 at t1 y1 ⊢
  refine ⟨line1000 (Nat.le_of_ble_eq_true rfl), fun q2 m2' => ?_⟩
  have t2 := Same.up (o := HO.tup [.ref qz]) m2'
  have y2 : upd Hb1 q2 (HO.tup [.ref qz]) q2 = some (HO.tup [.ref qz]) := upd_same
  generalize upd Hb1 q2 (HO.tup [.ref qz]) = Hb2 at t2 y2 ⊢
  refine ⟨line1000 (Nat.le_of_ble_eq_true rfl), fun q3 m3 => ?_⟩
  have t3 := Same.up (o := HO.tup [.str "repeat", .int 12, .ref q2]) m3
  have y3 : upd Hb2 q3 (HO.tup [.str "repeat", .int 12, .ref q2]) q3 = some (HO.tup [.str "repeat", .int 12, .ref q2]) := upd_same
  generalize upd Hb2 q3 (HO.tup [.str "repeat", .int 12, .ref q2]) = Hb3 at t3 y3 ⊢
  refine ⟨line1000 (Nat.le_of_ble_eq_true rfl), fun q4 m4 => ?_⟩
  have t4 := Same.up (o := HO.tup [.ref q3]) m4
  have y4 : upd Hb3 q4 (HO.tup [.ref q3]) q4 = some (HO.tup [.ref q3]) := upd_same
  generalize upd Hb3 q4 (HO.tup [.ref q3]) = Hb4 at t4 y4 ⊢
  refine ⟨line1000 (Nat.le_of_ble_eq_true rfl), fun q6 m6 => ?_⟩
  have t5 := Same.up (o := HO.tup [.str "repeat", .int 12, .ref q4]) m6
  have y6 : upd Hb4 q6 (HO.tup [.str "repeat", .int 12, .ref q4]) q6 = some (HO.tup [.str "repeat", .int 12, .ref q4]) := upd_same
  generalize upd Hb4 q6 (HO.tup [.str "repeat", .int 12, .ref q4]) = Hb5 at t5 y6 ⊢
  refine ⟨line1000 (Nat.le_of_ble_eq_true rfl), fun q7 m7 => ?_⟩
  have t6 := Same.up (o := HO.tup [.ref q6]) m7
  have y7 : upd Hb5 q7 (HO.tup [.ref q6]) q7 = some (HO.tup [.ref q6]) := upd_same
  generalize upd Hb5 q7 (HO.tup [.ref q6]) = Hb6 at t6 y7 ⊢
  refine ⟨.ref D, rfl, line1000 (Nat.le_of_ble_eq_true rfl), fun q8 m8 => ?_⟩
  have t7 := Same.up (o := HO.lst [.int 0, .int 0, .int 2]) m8
  have y8 : upd Hb6 q8 (HO.lst [.int 0, .int 0, .int 2]) q8 = some (HO.lst [.int 0, .int 0, .int 2]) := upd_same
  generalize upd Hb6 q8 (HO.lst [.int 0, .int 0, .int 2]) = Hb7 at t7 y8 ⊢
  have t67 := Same.trans t6 t7
  have t57 := Same.trans t5 t67
  have t47 := Same.trans t4 t57
  have t37 := Same.trans t3 t47
  have t27 := Same.trans t2 t37
  have t17 := Same.trans t1 t27
  have hDb7 := hDa5.sm t17
  have nq8 : q8 ∉ [D, L] := (hDa5.sm (Same.trans t1 (Same.trans t2 (Same.trans t3 (Same.trans t4 (Same.trans t5 t6)))))).nin m8
  refine one_li hDb7 (by omega) y8 nq8 (by simp) (by simp) fun Hb8 y k8 hDb8 my => ?_
  have c8 := deck_ch hDb7 hDb8 k8
  obtain ⟨kc, ekc, lkc⟩ : ∃ ka : Nat, y = .int (ka : Int) ∧ ka ≤ 2 := by
    simp only [List.mem_cons, List.not_mem_nil, or_false] at my
    rcases my with rfl | rfl | rfl
    · exact ⟨0, rfl, by decide⟩
    · exact ⟨0, rfl, by decide⟩
    · exact ⟨2, rfl, by decide⟩
  subst ekc
  obtain ⟨dr, gdr⟩ : ∃ dr, GV (FD D L) Hb8 (.ref q6) dr := ⟨_, .tup (c8.tu _ _ (t67 _ _ y6)) (.cons (.str "repeat" (by decide +kernel)) (.cons (.int 12) (.cons (.tup (c8.tu _ _ (t57 _ _ y4)) (.cons (.tup (c8.tu _ _ (t47 _ _ y3)) (.cons (.str "repeat" (by decide +kernel)) (.cons (.int 12) (.cons (.tup (c8.tu _ _ (t37 _ _ y2)) (.cons (.tup (c8.tu _ _ (t27 _ _ y1)) (.cons (.str "say" (by decide +kernel)) (.cons (.str "b" (by decide +kernel)) .nil))) .nil)) .nil)))) .nil)) .nil)))⟩
  refine rep_any (c8.tu _ _ (t7 _ _ y7)) (by omega) fun q9 Hb9 t9 y9 => ?_
  have grr := (repg gdr kc).same t9
  have c9 := (Ch.same (S := [D, L]) t17).trans (c8.trans (Ch.same (S := [D, L]) t9))
  have gma9 := ((gma.same t17).kd hDb7 hDb8 k8).same t9
  refine cat_any (c9.tu _ _ y5) y9 (by rw [List.length_replicate, List.length_replicate]; omega) fun qa Hba ta ya => ?_
  have gmr := (gma9.append grr).same ta
  have gp0 := ta _ _ (c9.tu _ _ gpa)
  have gB0 := (((gBa.same t17).kd hDb7 hDb8 k8).same t9).same ta
  have gN0 := ta _ _ (c9.kp _ _ neN gNa)
  have hp0 := (hpa.kp c9.kp).kp (Kp.same ta)
  have grf0 := ta _ _ (c9.tu _ _ grfa)
  have gf0 : GVs (FD D L) Hba fys (rwD f) := (((gfa.same t17).kd hDb7 hDb8 k8).same t9).same ta
  have hD0 := (hDb8.sm t9).sm ta
  obtain ⟨mxs, emx⟩ : ∃ mxs, mxs = List.replicate ka (V.ref q1) ++ List.replicate kc (V.ref q6) := ⟨_, rfl⟩
  rw [← emx] at ya gmr
  have lmx : mxs.length ≤ 33 := by rw [emx, List.length_append, List.length_replicate, List.length_replicate]; omega
  obtain ⟨mds, emd⟩ : ∃ mds, mds = List.replicate ka (PyData.tuple [PyData.str (Str.ofString "say"), PyData.str (Str.ofString "a")]) ++ List.replicate kc dr := ⟨_, rfl⟩
  rw [← emd] at gmr
  clear emx emd grr gma9 y9 c9 t9 gdr my c8 k8 hDb8 hDb7 nq8 t17 t27 t37 t47 t57 t67 t7 y8 t6 y7 t5 y6 t4 y4 t3 y3 t2 y2 t1 y1 m1 m2' m3 m4 m6 m7 m8 gma gpa gBa gNa hpa grfa gfa hDa5 y5 ta
  -- the wrong program
  refine ⟨_, rfl, p, _, _, _, rfl, rfl, SqT.of gp0, atI_nat (j := 0) rfl, _, rfl, _, rfl, cat_any grf0 ya (by omega) fun qb Hc1 tb yb => ⟨line1000 (Nat.le_of_ble_eq_true rfl), fun qc mc => ?_⟩⟩
  have tc := Same.up (o := HO.tup [.int g, .ref qb]) mc
  have yc : upd Hc1 qc (HO.tup [.int g, .ref qb]) qc = some (HO.tup [.int g, .ref qb]) := upd_same
  generalize upd Hc1 qc (HO.tup [.int g, .ref qb]) = Hc2 at tc yc ⊢
  have tbc := Same.trans tb tc
  have gw := (gf0.append gmr).same tbc
  have lw1 := gmr.len
  refine spPE_stop (E := E0) (.tup yc (.cons (.int g) (.cons (.tup (tc _ _ yb) gw) .nil))) hg.1 (by omega) (by rw [List.length_append]; omega) (by omega) (by show mds.length + 31 ≤ 100000; omega) (stop_more st) fun Hc3 u3 t3 td3 => nilP (st_repr td3 (by omega) ?_)
  have tb3 := Same.trans tbc t3
  refine ⟨_, rfl, N, ns, rfl, SqL.of (tb3 _ _ gN0), by omega, fun mm hm hle => ⟨line1000 (Nat.le_of_ble_eq_true rfl), fun qd md => ?_⟩⟩
  have emm : mm = (kb : Int) := by
    have e := bq_min (c := (c : Int)) pw (by omega) (perm.mem_iff.mpr hm) (fun y hy => hle y (perm.mem_iff.mp hy))
    omega
  subst emm
  have t4 := Same.up (o := HO.tup [.int (kb : Int), .str "statement"]) md
  have y4 : upd Hc3 qd (HO.tup [.int (kb : Int), .str "statement"]) qd = some (HO.tup [.int (kb : Int), .str "statement"]) := upd_same
  generalize upd Hc3 qd (HO.tup [.int (kb : Int), .str "statement"]) = Hc4 at t4 y4 ⊢
  refine nilP (st_repr (.tup y4 (.cons (.int _) (.cons (.str _) .nil))) (by omega) ⟨rfl, _, rfl, ?_⟩)
  rw [decide_eq_true rfl]
  refine iteF ?_
  have tb4 := Same.trans tb3 t4
  have gp5 := tb4 _ _ gp0
  have gB5 := gB0.same tb4
  have hp5 := hp0.kp (Kp.same tb4)
  have hD5 := hD0.sm tb4
  clear gp0 gB0 hp0 hD0 tb4 tb3 tbc gw tb tc t3 t4 y4 td3 yc yb st gf0 grf0 gmr ya gN0
  -- one wrong row behind
  refine ⟨_, rfl, p, _, _, _, rfl, rfl, SqT.of gp5, atI_nat (j := 0) rfl, _, rfl, p, _, _, _, rfl, rfl, SqT.of gp5, atI_nat (j := 1) rfl, .ref D, rfl, _, rfl, D, L, a, _, g, ws, rfl, hD5, by omega, hp5, fun Hd1 u1 d1 k1 hD1 gu1 wd1 => ⟨line1000 (Nat.le_of_ble_eq_true rfl), fun q1 m1 => ?_⟩⟩
  have gB6 := gB5.kd hD5 hD1 k1
  have t1 := Same.up (o := HO.tup [u1]) m1
  have y1 : upd Hd1 q1 (HO.tup [u1]) q1 = some (HO.tup [u1]) := upd_same
  generalize upd Hd1 q1 (HO.tup [u1]) = Hd2 at t1 y1 ⊢
  obtain ⟨rb', bys', erb, grb, gBy⟩ := gd_tup (gB6.same t1)
  cases erb
  have lbd : (blkData blk).length ≤ sizeB blk := by rw [← rwD_sta, ← rwN_sta]; exact rwN_len _
  have lby' : bys'.length ≤ 30 := by
    have l1 := gBy.len
    omega
  refine cat_any grb y1 (by simp; omega) fun q2 Hd3 t2 y2 => ⟨line1000 (Nat.le_of_ble_eq_true rfl), fun q3 m3 => ?_⟩
  have t3 := Same.up (o := HO.tup [.int g, .ref q2]) m3
  have y3 : upd Hd3 q3 (HO.tup [.int g, .ref q2]) q3 = some (HO.tup [.int g, .ref q2]) := upd_same
  generalize upd Hd3 q3 (HO.tup [.int g, .ref q2]) = Hd4 at t3 y3 ⊢
  have t23 := Same.trans t2 t3
  have gw : GVs (FD D L) Hd4 (bys' ++ [u1]) (blkData blk ++ [d1]) := (gBy.append (.cons (gu1.same t1) .nil)).same t23
  have hps : Pass g 0 (blkData blk) (sizeB blk) (sizeB blk) := by
    have z := pass_good (g := g) (dp := 0) (p := (sizeB blk : Nat)) (staRw blk) (by rw [rwN_sta]; omega) (rwGood_sta hW blk (by decide) hok)
    rw [rwD_sta, rwN_sta] at z
    exact z
  refine spPE_stop (E := E0) (.tup y3 (.cons (.int g) (.cons (.tup (t3 _ _ y2) gw) .nil))) hg.1 (by omega) (by rw [List.length_append]; show _ + 1 ≤ _; omega) (by show sizeB blk + 0 ≤ 10000; omega) (by show 1 + sizeB blk + 0 ≤ 100000; omega) (stop_skip hps (stop_wrong (by decide) wd1.1)) fun Hd5 u5 t5 td5 => ?_
  rw [Nat.add_zero, ← ec] at td5
  refine nilP (st_repr td5 (by omega) ⟨_, rfl, line1000 (Nat.le_of_ble_eq_true rfl), fun q6 m6 => ?_⟩)
  have t6 := Same.up (o := HO.tup [.int (c : Int), .str "statement"]) m6
  have y6 : upd Hd5 q6 (HO.tup [.int (c : Int), .str "statement"]) q6 = some (HO.tup [.int (c : Int), .str "statement"]) := upd_same
  generalize upd Hd5 q6 (HO.tup [.int (c : Int), .str "statement"]) = Hd6 at t6 y6 ⊢
  refine nilP (st_repr (.tup y6 (.cons (.int _) (.cons (.str _) .nil))) (by omega) ⟨rfl, _, rfl, ?_⟩)
  rw [decide_eq_true rfl]
  refine iteF ⟨(((hD1.sm t1).sm t23).sm (Same.trans t5 t6)).mono (by omega), _, _, _, _, _, _, _, _, _, rfl⟩
end
end G

set_option Elab.async false
set_option linter.all false
set_option maxRecDepth 100000
set_option maxHeartbeats 4000000
/-! What a head says of a written tuple and of the dicts of checks. -/
namespace G
open PySem PySem.Spec PyProof.Rows L2 StX ClX
def relsB : List V → List Value → Bool
  | [], [] => true
  | v :: vs, u :: us => He.relB v u && relsB vs us
  | _, _ => false
theorem relsB_ok : ∀ {vs : List V} {us : List Value}, relsB vs us = true → Vals vs us
  | [], [], _ => .nil
  | v :: vs, u :: us, h => by
    obtain ⟨h1, h2⟩ := He.ba (show (He.relB v u && relsB vs us) = true from h)
    exact .cons (He.relB_ok h1) (relsB_ok h2)
  | [], _ :: _, h => by cases h
  | _ :: _, [], h => by cases h
def tupB (K : PySem.W.Frag) (a : Addr) (vs : List V) : Bool := match K.lookup a with
  | some ⟨.type c, _, .seq its _, _⟩ => decide (c = "tuple") && (decide (vs.length ≤ 1000) && relsB vs its.toList)
  | _ => false
theorem tupB_ok {K : PySem.W.Frag} {a : Addr} {vs : List V} (h : tupB K a vs = true) (H : Hp) : SqT K H a vs := by
  unfold tupB at h
  cases q : K.lookup a with
  | none => rw [q] at h; cases h
  | some o =>
    obtain ⟨oc, od, dt, osl⟩ := o
    rw [q] at h
    cases oc with
    | type c =>
      cases dt with
      | seq its n =>
        obtain ⟨h1, h2⟩ := He.ba (show (decide (c = "tuple") && (decide (vs.length ≤ 1000) && relsB vs its.toList)) = true from h)
        obtain ⟨h3, h4⟩ := He.ba h2
        have r := relsB_ok h4
        have l := r.length
        have l3 : vs.length ≤ 1000 := of_decide_eq_true h3
        exact .inr ⟨_, its, n, q, congrArg Value.type (of_decide_eq_true h1), rfl, by have l2 : its.toList.length = its.size := Array.length_toList; exact Nat.le_trans (by omega) (Nat.le_of_lt (lt_line (by decide : 1000 < _))), r⟩
      | _ => cases h
    | _ => cases dt <;> cases h
def tblB (K : PySem.W.Frag) (T : Addr) (tab : List (Str × List V)) : Bool := tab.all fun q => match PySem.W.nsIn K T q.1 with
  | some (some (.ref a)) => tupB K a q.2
  | _ => false
theorem tblB_ok {K : PySem.W.Frag} {T : Addr} {tab : List (Str × List V)} (h : tblB K T tab = true) {q : Str × List V} (hq : q ∈ tab) : ∃ ca, PySem.W.nsIn K T q.1 = some (some (.ref ca)) ∧ ∀ H, SqT K H ca q.2 := by
  have h2 := List.all_eq_true.mp h q hq
  split at h2
  · rename_i ca e
    exact ⟨ca, e, tupB_ok h2⟩
  · cases h2
theorem tab_dic {fa : List He.Fa} {fn : List He.DefD} {ts : List He.Tab} {w : World} {K : PySem.W.Frag} (c : He.SaysT fa fn ts w K) (i : Nat) {t : He.Tab} (h : ts[i]? = some t) : He.dicW K (t.1 K) = some (He.keysIn w.params t.2) := by
  have e : ts.map (fun t => He.dicW K (t.1 K)) = ts.map fun t => some (He.keysIn w.params t.2) := congrArg (fun z : He.AlT => z.2) c
  have e2 : (ts.map fun t => He.dicW K (t.1 K))[i]? = (ts.map fun t => some (He.keysIn w.params t.2))[i]? := by rw [e]
  rw [List.getElem?_map, List.getElem?_map, h] at e2
  exact Option.some.inj e2
theorem key_str {P : Params} : ∀ {l : List DictEntry} {ks : List Str}, l.map He.keyOf = He.keysIn P ks → ∀ e ∈ l, ∃ k t, k ∈ ks ∧ e.key = .str k t
  | [], _, _, e, h => nomatch h
  | d :: r, [], h, _, _ => by cases h
  | d :: r, k :: ks, h, e, he => by
    have h1 : He.keyOf d :: r.map He.keyOf = some (k, PyData.keyHash P k) :: He.keysIn P ks := h
    injection h1 with h2 h3
    rcases List.mem_cons.mp he with rfl | he
    · unfold He.keyOf at h2
      split at h2
      · rename_i x t q
        obtain ⟨h5, _⟩ := Prod.mk.inj (Option.some.inj h2)
        exact ⟨k, t, List.mem_cons_self .., by rw [q, h5]⟩
      · cases h2
    · obtain ⟨k2, t2, m, q⟩ := key_str h3 e he
      exact ⟨k2, t2, List.mem_cons_of_mem _ m, q⟩
theorem miss_of {K : PySem.W.Frag} {P : Params} {T : Addr} {ks : List Str} (h : He.dicW K T = some (He.keysIn P ks)) {z : Str} (hz : z ∉ ks) : PySem.W.nsIn K T z = some none := by
  unfold He.dicW at h
  unfold PySem.W.nsIn
  cases q : K.lookup T with
  | none => rw [q] at h; cases h
  | some o =>
    obtain ⟨oc, od, dt, osl⟩ := o
    rw [q] at h
    cases oc with
    | type c =>
      cases od with
      | none =>
        cases dt with
        | dict es n =>
          have h1 : es.toList.map He.keyOf = He.keysIn P ks := by
            have h : (match decide (c = "dict") && (osl.isEmpty && !(T == sysModules)) with
              | true => some (es.toList.map He.keyOf)
              | false => none) = some (He.keysIn P ks) := h
            cases z : decide (c = "dict") && (osl.isEmpty && !(T == sysModules)) with
            | false => rw [z] at h; cases h
            | true => rw [z] at h; exact Option.some.inj h
          have f1 : es.toList.find? (·.key.isStr z) = none := by
            rw [List.find?_eq_none]
            intro e he hx
            obtain ⟨k, t, m, q⟩ := key_str h1 e he
            rw [q] at hx
            have hx : (k == z) = true := hx
            exact hz (by rw [← eq_of_beq hx]; exact m)
          have f2 : es.toList.any (·.refKey) = false := by
            rw [List.any_eq_false]
            intro e he hx
            obtain ⟨k, t, m, q⟩ := key_str h1 e he
            unfold DictEntry.refKey at hx
            rw [q] at hx
            cases hx
          show (match es.toList.find? (·.key.isStr z) with
            | some e => some (some e.val)
            | none => if es.toList.any (·.refKey) then none else some none) = some none
          rw [f1, f2]
          rfl
        | _ => cases h
      | some b => cases dt <;> cases h
    | _ => cases od <;> cases dt <;> cases h
theorem tbl_of {K : PySem.W.Frag} {w : World} {T : Addr} {l : List (Str × List Ck)} {adr : Ck → Addr} (h : He.dicW K T = some (He.keysIn w.params (l.map (·.1)))) (hb : tblB K T (l.map fun p => (p.1, p.2.map fun c => V.ref (adr c))) = true) : TBL K w T (fun z => l.lookup z) adr where
  kd := He.dicW_ok h
  miss := fun z e => miss_of h (look_none e)
  hit := fun z cks e => tblB_ok hb (List.mem_map.mpr ⟨(z, cks), look_mem e, rfl⟩)
def adrK (K : PySem.W.Frag) : Ck → Addr
  | .name => He.ga K "_name_part"
  | .word => He.ga K "_word_part"
  | .given => He.ga K "_given_part"
  | .times => He.ga K "_times_part"
  | .block => He.ga K "_block_part"
  | .test => He.ga K "is_test"
end G

set_option Elab.async false
set_option linter.all false
set_option maxRecDepth 100000
set_option maxHeartbeats 8000000
/-! The head of maybegone_k01_first_errors: what the Hook looks at, what follows from it. Written by mkHF.py. -/
namespace G
open PySem PySem.Spec PyProof.Rows L2 StX ClX
def fn : List He.DefD := ([dDef "is_integer" s_is_integer, dDef "is_from_to" s_is_from_to, dDef "is_word" s_is_word, dDef "is_name" s_is_name, dDef "is_givens" s_is_givens, dDef "_name_part" s__name_part, dDef "_word_part" s__word_part, dDef "_given_part" s__given_part, dDef "_times_part" s__times_part, dDef "_block_part" s__block_part, dDef "first_word" s_first_word, dDef "_parts_fit" s__parts_fit, dDef "is_test" s_is_test, dDef "is_statement" s_is_statement, dDef "blocks_of" s_blocks_of, dDef "rows_of" s_rows_of, dDef "size_of" s_size, dDef "each_statement" s_each_statement, dDef "_block_weight" s__block_weight, dDef "weight" s_weight, dDef "wishes_of" s_wishes_of, dDef "_is_pair" s__is_pair, dDef "_first_wrong" s__first_wrong, dDef "_first_bound" s__first_bound, dDef "program_error" s_program_error, dDef "_law_deck" s__law_deck, dDef "_law_draw" s__law_draw, dDef "_law_one" s__law_one, dDef "_law_kept" s__law_kept, dDef "_law_name" s__law_name] : List _) ++ ([dDef "_law_word" s__law_word, dDef "_law_pool" s__law_pool, dDef "_law_any_test" s__law_any_test, dDef "_law_row" s__law_row, dDef "_law_rows" s__law_rows, dDef "_law_inner" s__law_inner, dDef "_law_free" s__law_free, dDef "_law_blocks" s__law_blocks, dDef "_law_flat" s__law_flat, dDef "_law_put" s__law_put, dDef "_law_wrong_row" s__law_wrong_row, dDef "_law_no_program" s__law_no_program, dDef "law" s_law] : List _)
def fa : List He.Fa := ([.glo "is_integer", .glo "is_from_to", .glo "is_word", .glo "is_name", .glo "is_givens", .glo "_name_part", .glo "_word_part", .glo "_given_part", .glo "_times_part", .glo "_block_part", .glo "first_word", .glo "_parts_fit", .glo "is_test", .glo "is_statement", .glo "blocks_of", .glo "rows_of", .glo "size_of", .glo "each_statement", .glo "_block_weight", .glo "weight", .glo "wishes_of", .glo "_is_pair", .glo "_first_wrong", .glo "_first_bound", .glo "program_error", .glo "_law_deck", .glo "_law_draw", .glo "_law_one", .glo "_law_kept", .glo "_law_name"] : List _) ++ ([.glo "_law_word", .glo "_law_pool", .glo "_law_any_test", .glo "_law_row", .glo "_law_rows", .glo "_law_inner", .glo "_law_free", .glo "_law_blocks", .glo "_law_flat", .glo "_law_put", .glo "_law_wrong_row", .glo "_law_no_program", .glo "law", .free "len", .free "abs", .free "int", .free "range", .str "LETTERS" "abcdefghijklmnopqrstuvwxyz", .str "DIGITS" "0123456789", .int "MAX_NAME" 8, .int "MAX_WORD" 8, .int "MAX_GIVENS" 3, .int "MAX_TIMES" 12, .int "MAX_NEST" 4, .int "MAX_PLACES" 30, .int "MAX_WEIGHT" 200, .int "MAX_WISHES" 4, .int "MOST_NOTS" 3, .glo "RESERVED", .free "isinstance"] : List _) ++ ([.free "str", .free "tuple", .free "bool", .free "all", .free "zip", .glo "PLAIN_TESTS", .glo "STATEMENTS", .free "enumerate", .free "sum", .free "sorted", .free "set", .free "list", .free "repr", .free "reversed", .free "min"] : List _)
def ts : List He.Tab := [(fun K => He.ga K "PLAIN_TESTS", plainL.map (·.1)), (fun K => He.ga K "STATEMENTS", stmtL.map (·.1))]
def ex (K : PySem.W.Frag) : Bool := tupB K (He.ga K "RESERVED") (resL.map V.str) && (tblB K (He.ga K "PLAIN_TESTS") (plainL.map fun p => (p.1, p.2.map fun c => V.ref (adrK K c))) && tblB K (He.ga K "STATEMENTS") (stmtL.map fun p => (p.1, p.2.map fun c => V.ref (adrK K c))))
theorem facts {P : Program} {w : World} {K : PySem.W.Frag} {h : Heap} {mg : Str → Option Value} {f : Addr} (X : K.In h) (G : h.Ns mainGlobals mg) (hfa : mg ("law" : Str) = some (.ref f)) (cX : SaysS fa fn ts ex w K) :
    ∃ fd : FuncData, (∀ (s : Shared) (v : Value), BindsTo s fd ⟨[v], []⟩ [("_law_script", v)]) ∧ ∀ base : Heap, K.In base → base.Ns mainGlobals mg → FnOkG P w K mg base 16 f fd ["_law_script"] (spLawN K 63) := by
  have c := cX.t.d
  obtain ⟨dis_integer, Dis_integer⟩ := dfx (st := s_is_integer) (ps := ["value"]) X G c 0 0 (fun _ _ _ _ _ _ us hl => match us, hl with | [_], _ => rfl) rfl rfl
  obtain ⟨dis_from_to, Dis_from_to⟩ := dfx (st := s_is_from_to) (ps := ["value", "low", "high"]) X G c 1 1 (fun _ _ _ _ _ _ us hl => match us, hl with | [_, _, _], _ => rfl) rfl rfl
  obtain ⟨dis_word, Dis_word⟩ := dfx (st := s_is_word) (ps := ["value"]) X G c 2 2 (fun _ _ _ _ _ _ us hl => match us, hl with | [_], _ => rfl) rfl rfl
  obtain ⟨dis_name, Dis_name⟩ := dfx (st := s_is_name) (ps := ["value"]) X G c 3 3 (fun _ _ _ _ _ _ us hl => match us, hl with | [_], _ => rfl) rfl rfl
  obtain ⟨dis_givens, Dis_givens⟩ := dfx (st := s_is_givens) (ps := ["value"]) X G c 4 4 (fun _ _ _ _ _ _ us hl => match us, hl with | [_], _ => rfl) rfl rfl
  obtain ⟨d_name_part, D_name_part⟩ := dfx (st := s__name_part) (ps := ["value", "_"]) X G c 5 5 (fun _ _ _ _ _ _ us hl => match us, hl with | [_, _], _ => rfl) rfl rfl
  obtain ⟨d_word_part, D_word_part⟩ := dfx (st := s__word_part) (ps := ["value", "_"]) X G c 6 6 (fun _ _ _ _ _ _ us hl => match us, hl with | [_, _], _ => rfl) rfl rfl
  obtain ⟨d_given_part, D_given_part⟩ := dfx (st := s__given_part) (ps := ["value", "givens"]) X G c 7 7 (fun _ _ _ _ _ _ us hl => match us, hl with | [_, _], _ => rfl) rfl rfl
  obtain ⟨d_times_part, D_times_part⟩ := dfx (st := s__times_part) (ps := ["value", "_"]) X G c 8 8 (fun _ _ _ _ _ _ us hl => match us, hl with | [_, _], _ => rfl) rfl rfl
  obtain ⟨d_block_part, D_block_part⟩ := dfx (st := s__block_part) (ps := ["value", "_"]) X G c 9 9 (fun _ _ _ _ _ _ us hl => match us, hl with | [_, _], _ => rfl) rfl rfl
  obtain ⟨dfirst_word, Dfirst_word⟩ := dfx (st := s_first_word) (ps := ["value"]) X G c 10 10 (fun _ _ _ _ _ _ us hl => match us, hl with | [_], _ => rfl) rfl rfl
  obtain ⟨d_parts_fit, D_parts_fit⟩ := dfx (st := s__parts_fit) (ps := ["parts", "checks", "givens"]) X G c 11 11 (fun _ _ _ _ _ _ us hl => match us, hl with | [_, _, _], _ => rfl) rfl rfl
  obtain ⟨dis_test, Dis_test⟩ := dfx (st := s_is_test) (ps := ["value", "givens"]) X G c 12 12 (fun _ _ _ _ _ _ us hl => match us, hl with | [_, _], _ => rfl) rfl rfl
  obtain ⟨dis_statement, Dis_statement⟩ := dfx (st := s_is_statement) (ps := ["value", "givens"]) X G c 13 13 (fun _ _ _ _ _ _ us hl => match us, hl with | [_, _], _ => rfl) rfl rfl
  obtain ⟨dblocks_of, Dblocks_of⟩ := dfx (st := s_blocks_of) (ps := ["statement"]) X G c 14 14 (fun _ _ _ _ _ _ us hl => match us, hl with | [_], _ => rfl) rfl rfl
  obtain ⟨drows_of, Drows_of⟩ := dfx (st := s_rows_of) (ps := ["block", "depth"]) X G c 15 15 (fun _ _ _ _ _ _ us hl => match us, hl with | [_, _], _ => rfl) rfl rfl
  obtain ⟨dsize_of, Dsize_of⟩ := dfx (st := s_size) (ps := ["block"]) X G c 16 16 (fun _ _ _ _ _ _ us hl => match us, hl with | [_], _ => rfl) rfl rfl
  obtain ⟨deach_statement, Deach_statement⟩ := dfx (st := s_each_statement) (ps := ["program"]) X G c 17 17 (fun _ _ _ _ _ _ us hl => match us, hl with | [_], _ => rfl) rfl rfl
  obtain ⟨d_block_weight, D_block_weight⟩ := dfx (st := s__block_weight) (ps := ["block"]) X G c 18 18 (fun _ _ _ _ _ _ us hl => match us, hl with | [_], _ => rfl) rfl rfl
  obtain ⟨dweight, Dweight⟩ := dfx (st := s_weight) (ps := ["program"]) X G c 19 19 (fun _ _ _ _ _ _ us hl => match us, hl with | [_], _ => rfl) rfl rfl
  obtain ⟨dwishes_of, Dwishes_of⟩ := dfx (st := s_wishes_of) (ps := ["program"]) X G c 20 20 (fun _ _ _ _ _ _ us hl => match us, hl with | [_], _ => rfl) rfl rfl
  obtain ⟨d_is_pair, D_is_pair⟩ := dfx (st := s__is_pair) (ps := ["value"]) X G c 21 21 (fun _ _ _ _ _ _ us hl => match us, hl with | [_], _ => rfl) rfl rfl
  obtain ⟨d_first_wrong, D_first_wrong⟩ := dfx (st := s__first_wrong) (ps := ["givens", "block"]) X G c 22 22 (fun _ _ _ _ _ _ us hl => match us, hl with | [_, _], _ => rfl) rfl rfl
  obtain ⟨d_first_bound, D_first_bound⟩ := dfx (st := s__first_bound) (ps := ["program"]) X G c 23 23 (fun _ _ _ _ _ _ us hl => match us, hl with | [_], _ => rfl) rfl rfl
  obtain ⟨dprogram_error, Dprogram_error⟩ := dfx (st := s_program_error) (ps := ["value"]) X G c 24 24 (fun _ _ _ _ _ _ us hl => match us, hl with | [_], _ => rfl) rfl rfl
  obtain ⟨d_law_deck, D_law_deck⟩ := dfx (st := s__law_deck) (ps := ["_law_script"]) X G c 25 25 (fun _ _ _ _ _ _ us hl => match us, hl with | [_], _ => rfl) rfl rfl
  obtain ⟨d_law_draw, D_law_draw⟩ := dfx (st := s__law_draw) (ps := ["_law_deck_here", "_law_many"]) X G c 26 26 (fun _ _ _ _ _ _ us hl => match us, hl with | [_, _], _ => rfl) rfl rfl
  obtain ⟨d_law_one, D_law_one⟩ := dfx (st := s__law_one) (ps := ["_law_deck_here", "_law_items"]) X G c 27 27 (fun _ _ _ _ _ _ us hl => match us, hl with | [_, _], _ => rfl) rfl rfl
  obtain ⟨d_law_kept, D_law_kept⟩ := dfx (st := s__law_kept) (ps := []) X G c 28 28 (fun _ _ _ _ _ _ us hl => match us, hl with | [], _ => rfl) rfl rfl
  obtain ⟨d_law_name, D_law_name⟩ := dfx (st := s__law_name) (ps := ["_law_deck_here"]) X G c 29 29 (fun _ _ _ _ _ _ us hl => match us, hl with | [_], _ => rfl) rfl rfl
  obtain ⟨d_law_word, D_law_word⟩ := dfx (st := s__law_word) (ps := ["_law_deck_here"]) X G c 30 30 (fun _ _ _ _ _ _ us hl => match us, hl with | [_], _ => rfl) rfl rfl
  obtain ⟨d_law_pool, D_law_pool⟩ := dfx (st := s__law_pool) (ps := ["_law_deck_here"]) X G c 31 31 (fun _ _ _ _ _ _ us hl => match us, hl with | [_], _ => rfl) rfl rfl
  obtain ⟨d_law_any_test, D_law_any_test⟩ := dfx (st := s__law_any_test) (ps := ["_law_deck_here", "_law_pool_here"]) X G c 32 32 (fun _ _ _ _ _ _ us hl => match us, hl with | [_, _], _ => rfl) rfl rfl
  obtain ⟨d_law_row, D_law_row⟩ := dfx (st := s__law_row) (ps := ["_law_deck_here", "_law_pool_here"]) X G c 33 33 (fun _ _ _ _ _ _ us hl => match us, hl with | [_, _], _ => rfl) rfl rfl
  obtain ⟨d_law_rows, D_law_rows⟩ := dfx (st := s__law_rows) (ps := ["_law_deck_here", "_law_pool_here", "_law_left", "_law_depth", "_law_times"]) X G c 34 34 (fun _ _ _ _ _ _ us hl => match us, hl with | [_, _, _, _, _], _ => rfl) rfl rfl
  obtain ⟨d_law_inner, D_law_inner⟩ := dfx (st := s__law_inner) (ps := ["_law_deck_here", "_law_pool_here", "_law_left", "_law_depth", "_law_times"]) X G c 35 35 (fun _ _ _ _ _ _ us hl => match us, hl with | [_, _, _, _, _], _ => rfl) rfl rfl
  obtain ⟨d_law_free, D_law_free⟩ := dfx (st := s__law_free) (ps := ["_law_deck_here", "_law_most"]) X G c 36 36 (fun _ _ _ _ _ _ us hl => match us, hl with | [_, _], _ => rfl) rfl rfl
  obtain ⟨d_law_blocks, D_law_blocks⟩ := dfx (st := s__law_blocks) (ps := ["_law_row_here"]) X G c 37 37 (fun _ _ _ _ _ _ us hl => match us, hl with | [_], _ => rfl) rfl rfl
  obtain ⟨d_law_flat, D_law_flat⟩ := dfx (st := s__law_flat) (ps := ["_law_block", "_law_depth"]) X G c 38 38 (fun _ _ _ _ _ _ us hl => match us, hl with | [_, _], _ => rfl) rfl rfl
  obtain ⟨d_law_put, D_law_put⟩ := dfx (st := s__law_put) (ps := ["_law_block", "_law_place", "_law_row_here"]) X G c 39 39 (fun _ _ _ _ _ _ us hl => match us, hl with | [_, _, _], _ => rfl) rfl rfl
  obtain ⟨d_law_wrong_row, D_law_wrong_row⟩ := dfx (st := s__law_wrong_row) (ps := ["_law_deck_here", "_law_pool_here"]) X G c 40 40 (fun _ _ _ _ _ _ us hl => match us, hl with | [_, _], _ => rfl) rfl rfl
  obtain ⟨d_law_no_program, D_law_no_program⟩ := dfx (st := s__law_no_program) (ps := ["_law_deck_here", "_law_program"]) X G c 41 41 (fun _ _ _ _ _ _ us hl => match us, hl with | [_, _], _ => rfl) rfl rfl
  obtain ⟨dlaw, Dlaw⟩ := dfx (st := s_law) (ps := ["_law_script"]) X G c 42 42 (fun _ _ _ _ _ _ us hl => match us, hl with | [_], _ => rfl) rfl rfl
  have TB : Bi mg := ⟨(He.free_ok X G (c.fact 43 rfl)), (He.free_ok X G (c.fact 44 rfl)), (He.free_ok X G (c.fact 45 rfl)), (He.free_ok X G (c.fact 46 rfl))⟩
  have e := hfa.symm.trans Dlaw.m
  cases e
  refine ⟨dlaw, fun s v => ?_, fun base _ _ => ?_⟩
  · obtain ⟨oc, od, kV, doc, pm, an, cdv, ct, osl, rfl, _⟩ := Dlaw.F.ex
    exact .of_eq rfl
  have m0 := cX.more
  obtain ⟨m1, m0⟩ := He.ba m0
  obtain ⟨m2, m3⟩ := He.ba m0
  have TB1 : TBL K w (He.ga K "PLAIN_TESTS") plainT (adrK K) := tbl_of (tab_dic cX.t 0 rfl) m2
  have TB2 : TBL K w (He.ga K "STATEMENTS") stmtT (adrK K) := tbl_of (tab_dic cX.t 1 rfl) m3
  have N : KN K mg (He.ga K "RESERVED") := ⟨(He.str_ok X G (c.fact 47 rfl)), (He.str_ok X G (c.fact 48 rfl)), (He.int_ok X G (c.fact 49 rfl)), (He.int_ok X G (c.fact 50 rfl)), (He.int_ok X G (c.fact 51 rfl)), (He.int_ok X G (c.fact 52 rfl)), (He.int_ok X G (c.fact 53 rfl)), (He.int_ok X G (c.fact 54 rfl)), (He.int_ok X G (c.fact 55 rfl)), (He.int_ok X G (c.fact 56 rfl)), (He.int_ok X G (c.fact 57 rfl)), (He.glo_ok X G (c.fact 58 rfl)), tupB_ok m1, (He.free_ok X G (c.fact 59 rfl)), (He.free_ok X G (c.fact 60 rfl)), (He.free_ok X G (c.fact 61 rfl)), (He.free_ok X G (c.fact 45 rfl)), (He.free_ok X G (c.fact 62 rfl)), (He.free_ok X G (c.fact 43 rfl)), (He.free_ok X G (c.fact 63 rfl)), (He.free_ok X G (c.fact 64 rfl)), (He.free_ok X G (c.fact 46 rfl))⟩
  have E1 := ok_int (P := P) (w := w) (base := base) Dis_integer.F N
  have E2 := ok_from_to Dis_from_to.F ⟨Dis_integer.F, Dis_integer.b, Dis_integer.m⟩ E1
  have E3 := ok_is_word (P := P) (w := w) (base := base) Dis_word.F N
  have E4 := ok_is_name (P := P) (w := w) (base := base) Dis_name.F N
  have E5 := ok_givens Dis_givens.F N ⟨Dis_from_to.F, Dis_from_to.b, Dis_from_to.m⟩ E2
  have Q1 := ok_name_part D_name_part.F ⟨Dis_name.F, Dis_name.b, Dis_name.m⟩ E4
  have Q2 := ok_word_part D_word_part.F ⟨Dis_word.F, Dis_word.b, Dis_word.m⟩ E3
  have Q3 := ok_given_part D_given_part.F ⟨Dis_from_to.F, Dis_from_to.b, Dis_from_to.m⟩ E2
  have Q4 := ok_times_part D_times_part.F N ⟨Dis_from_to.F, Dis_from_to.b, Dis_from_to.m⟩ E2
  have Q5 := ok_block_part (P := P) (w := w) (base := base) D_block_part.F N
  have E6 := ok_first_word (P := P) (w := w) (base := base) Dfirst_word.F N
  have HC : ∀ c, c ≠ .test → HeldX P w K mg base CX0 3 (adrK K c) (spCk c) := fun c hc => by
    cases c with
    | name => exact ⟨_, _, Q1.mono (by decide), D_name_part.F.kp, D_name_part.b⟩
    | word => exact ⟨_, _, Q2.mono (by decide), D_word_part.F.kp, D_word_part.b⟩
    | given => exact ⟨_, _, Q3, D_given_part.F.kp, D_given_part.b⟩
    | times => exact ⟨_, _, Q4, D_times_part.F.kp, D_times_part.b⟩
    | block => exact ⟨_, _, Q5.mono (by decide), D_block_part.F.kp, D_block_part.b⟩
    | test => exact absurd rfl hc
  have E7 := ok_parts_fit (k := 3) (A := fun c => c ≠ .test) D_parts_fit.F N HC
  have E8 := ok_is_test (by decide) Dis_test.F N (He.glo_ok X G (c.fact 65 rfl)) TB1 ⟨Dfirst_word.F, Dfirst_word.b, Dfirst_word.m⟩ E6 ⟨D_parts_fit.F, D_parts_fit.b, D_parts_fit.m⟩ E7
  have HD : ∀ c, True → HeldX P w K mg base CX0 5 (adrK K c) (spCk c) := fun c _ => by
    by_cases hc : c = .test
    · subst hc
      exact ⟨_, _, E8, Dis_test.F.kp, Dis_test.b⟩
    · obtain ⟨fd, ps, h, h2⟩ := HC c hc
      exact ⟨fd, ps, h.mono (by decide), h2⟩
  have E9 := ok_parts_fit (k := 5) (A := fun _ => True) D_parts_fit.F N HD
  have E10 := ok_is_statement (by decide) Dis_statement.F (He.glo_ok X G (c.fact 66 rfl)) TB2 ⟨Dfirst_word.F, Dfirst_word.b, Dfirst_word.m⟩ E6 ⟨D_parts_fit.F, D_parts_fit.b, D_parts_fit.m⟩ E9
  have E11 := ok_bg (P := P) (w := w) (base := base) (mg := mg) (k := 0) Dblocks_of.F
  have E12 := ok_wrong (by decide) D_first_wrong.F N ⟨Dblocks_of.F, Dblocks_of.b, Dblocks_of.m⟩ E11 ⟨Dis_statement.F, Dis_statement.b, Dis_statement.m⟩ E10
  have T2 := ok_bo (P := P) (w := w) (base := base) (mg := mg) (k := 0) Dblocks_of.F
  have T3 := ok_roAll ⟨Drows_of.F, Drows_of.b, Drows_of.m⟩ ⟨Dblocks_of.F, Dblocks_of.b, Dblocks_of.m⟩ T2
  have T4 := ok_es Deach_statement.F (He.free_ok X G (c.fact 67 rfl)) ⟨Drows_of.F, Drows_of.b, Drows_of.m⟩ T3
  have T5 := ok_size Dsize_of.F N.z_len ⟨Drows_of.F, Drows_of.b, Drows_of.m⟩ T3
  have T6 := ok_bwAll ⟨D_block_weight.F, D_block_weight.b, D_block_weight.m⟩ (He.free_ok X G (c.fact 68 rfl)) ⟨Dblocks_of.F, Dblocks_of.b, Dblocks_of.m⟩ T2
  have T7 := ok_wt Dweight.F ⟨D_block_weight.F, D_block_weight.b, D_block_weight.m⟩ T6
  have T8 := ok_ws Dwishes_of.F N.z_tuple (He.free_ok X G (c.fact 69 rfl)) (He.free_ok X G (c.fact 70 rfl)) ⟨Deach_statement.F, Deach_statement.b, Deach_statement.m⟩ T4
  have E13 := ok_bound D_first_bound.F N ⟨Dsize_of.F, Dsize_of.b, Dsize_of.m⟩ T5 ⟨Dweight.F, Dweight.b, Dweight.m⟩ T7 ⟨Dwishes_of.F, Dwishes_of.b, Dwishes_of.m⟩ (by decide) T8
  have E14 := ok_pair D_is_pair.F N ⟨Dis_givens.F, Dis_givens.b, Dis_givens.m⟩ E5
  have EE := ok_perror (k := 13) (Nat.le_refl _) Dprogram_error.F ⟨D_is_pair.F, D_is_pair.b, D_is_pair.m⟩ E14 ⟨D_first_wrong.F, D_first_wrong.b, D_first_wrong.m⟩ (E12.mono (by decide)) ⟨D_first_bound.F, D_first_bound.b, D_first_bound.m⟩ E13
  have G1 := ok_deck (k := 0) (P := P) (w := w) (base := base) D_law_deck.F TB
  have G2 := ok_draw (k := 0) (P := P) (w := w) (base := base) D_law_draw.F TB
  have G3 := ok_one D_law_one.F TB G2 D_law_draw.F.kp D_law_draw.b D_law_draw.m
  have G4x := ok_keptX (k := 0) (P := P) (w := w) (base := base) (mg := mg) D_law_kept.F
  have G5 := ok_nameY D_law_name.F TB ⟨D_law_draw.F, D_law_draw.b, D_law_draw.m⟩ G2 ⟨D_law_one.F, D_law_one.b, D_law_one.m⟩ G3 ⟨D_law_kept.F, D_law_kept.b, D_law_kept.m⟩ G4x
  have G6 := ok_wordY D_law_word.F TB ⟨D_law_draw.F, D_law_draw.b, D_law_draw.m⟩ G2 ⟨D_law_one.F, D_law_one.b, D_law_one.m⟩ G3
  have G7 := ok_poolY D_law_pool.F TB ⟨D_law_draw.F, D_law_draw.b, D_law_draw.m⟩ G2 ⟨D_law_name.F, D_law_name.b, D_law_name.m⟩ G5 ⟨D_law_word.F, D_law_word.b, D_law_word.m⟩ G6
  have G8 := ok_any_testY D_law_any_test.F TB ⟨D_law_draw.F, D_law_draw.b, D_law_draw.m⟩ G2 ⟨D_law_one.F, D_law_one.b, D_law_one.m⟩ G3
  have G9 := ok_rowY D_law_row.F ⟨D_law_one.F, D_law_one.b, D_law_one.m⟩ G3 ⟨D_law_any_test.F, D_law_any_test.b, D_law_any_test.m⟩ G8
  have L1 := ok_wrong_row D_law_wrong_row.F TB ⟨D_law_one.F, D_law_one.b, D_law_one.m⟩ G3
  have L2 := ok_no_program D_law_no_program.F TB (He.free_ok X G (c.fact 71 rfl)) ⟨D_law_one.F, D_law_one.b, D_law_one.m⟩ G3
  have L3 := rows_all TB N.z_tuple ⟨D_law_draw.F, D_law_draw.b, D_law_draw.m⟩ G2 ⟨D_law_one.F, D_law_one.b, D_law_one.m⟩ G3 ⟨D_law_any_test.F, D_law_any_test.b, D_law_any_test.m⟩ G8 ⟨D_law_row.F, D_law_row.b, D_law_row.m⟩ G9 ⟨D_law_rows.F, D_law_rows.b, D_law_rows.m⟩ ⟨D_law_inner.F, D_law_inner.b, D_law_inner.m⟩
  have L4 := ok_free D_law_free.F ⟨D_law_pool.F, D_law_pool.b, D_law_pool.m⟩ G7 ⟨D_law_rows.F, D_law_rows.b, D_law_rows.m⟩ L3
  have L5 := ok_lbd (P := P) (w := w) (base := base) D_law_blocks.F TB N.z_isi N.z_tuple
  have L6 := ok_flAll ⟨D_law_flat.F, D_law_flat.b, D_law_flat.m⟩ ⟨D_law_blocks.F, D_law_blocks.b, D_law_blocks.m⟩ L5
  have L7 := ok_putAll ⟨D_law_put.F, D_law_put.b, D_law_put.m⟩ TB N.z_tuple ⟨D_law_blocks.F, D_law_blocks.b, D_law_blocks.m⟩ L5 ⟨D_law_flat.F, D_law_flat.b, D_law_flat.m⟩ L6
  exact ok_law Dlaw.F TB (He.free_ok X G (c.fact 72 rfl)) (He.free_ok X G (c.fact 69 rfl)) (He.free_ok X G (c.fact 73 rfl)) (He.free_ok X G (c.fact 74 rfl)) ⟨D_law_deck.F, D_law_deck.b, D_law_deck.m⟩ G1 ⟨D_law_free.F, D_law_free.b, D_law_free.m⟩ L4 ⟨D_law_draw.F, D_law_draw.b, D_law_draw.m⟩ G2 ⟨Dprogram_error.F, Dprogram_error.b, Dprogram_error.m⟩ EE ⟨D_law_no_program.F, D_law_no_program.b, D_law_no_program.m⟩ L2 ⟨D_law_flat.F, D_law_flat.b, D_law_flat.m⟩ L6 ⟨D_law_row.F, D_law_row.b, D_law_row.m⟩ G9 ⟨D_law_put.F, D_law_put.b, D_law_put.m⟩ L7 ⟨D_law_wrong_row.F, D_law_wrong_row.b, D_law_wrong_row.m⟩ L1 ⟨D_law_one.F, D_law_one.b, D_law_one.m⟩ G3
end G

set_option Elab.async false
set_option linter.all false
set_option maxRecDepth 100000
set_option maxHeartbeats 0
namespace G
open PySem PySem.Spec PyProof.Rows L2
abbrev RR : PySem.W.OpenRow := PySem.W.OpenLaw.row PySem.Challenge.rw_maybegone_k01_first_errors
abbrev hk : PySem.W.Hook := hookS 5 fa fn ts ex
def ob (s : PySem.W.SharedT) : AlS := obsS 5 fa fn ts ex (HandSHeadRun.getT s)
theorem ob_eq (s : PySem.W.SharedT) : ob s = hk.obs s.abs := obsS_eq (HandSHeadRun.getT_eq s)
def loose : List PySem.Str := (["MAX_NAME", "MAX_WORD", "MAX_GIVENS", "MAX_TIMES", "MAX_NEST", "MAX_PLACES", "MAX_WEIGHT", "MAX_WISHES", "LETTERS", "DIGITS", "RESERVED", "MOST_NOTS", "is_integer", "is_from_to", "is_word", "is_name", "is_givens", "_name_part", "_word_part", "_given_part", "_times_part", "_block_part", "PLAIN_TESTS", "first_word", "_parts_fit", "is_test", "STATEMENTS", "is_statement", "blocks_of", "rows_of"] : List PySem.Str) ++ (["size_of", "each_statement", "_block_weight", "weight", "wishes_of", "_is_pair", "_first_wrong", "_first_bound", "program_error", "_law_deck", "_law_draw", "_law_one", "_law_kept", "_law_name", "_law_word", "_law_pool", "_law_any_test", "_law_row", "_law_rows", "_law_inner", "_law_free", "_law_blocks", "_law_flat", "_law_put", "_law_wrong_row", "_law_no_program"] : List PySem.Str)
theorem run0 (w : World) : HandSHeadRun.RunEq RR (PySem.W.view RR.prog [59]) hk ob 30000 loose (w.withFollow "special-get-raises" false) := by
  intro os
  kernel_rfl
theorem run1 (w : World) : HandSHeadRun.RunEq RR (PySem.W.view RR.prog [59]) hk ob 30000 loose (w.withFollow "special-get-raises" true) := by
  intro os
  kernel_rfl
theorem run (w : World) : HandSHeadRun.RunEq RR (PySem.W.view RR.prog [59]) hk ob 30000 loose w :=
  PySem.W.byRow2 "special-get-raises" (P := fun w => HandSHeadRun.RunEq RR (PySem.W.view RR.prog [59]) hk ob 30000 loose w) run0 run1 w
end G
open PySem PySem.W PySem.Calls PyProof.Rows
set_option maxRecDepth 100000 in
set_option maxHeartbeats 0 in
theorem PySem.Challenge.cw_maybegone_k01_first_errors_holds : PySem.Challenge.rw_maybegone_k01_first_errors.Holds := by
  w_on; o_law
  refine HandSHeadRun.head_any (r := OpenLaw.row PySem.Challenge.rw_maybegone_k01_first_errors) (q := view (OpenLaw.row PySem.Challenge.rw_maybegone_k01_first_errors).prog [59]) (H := _root_.G.hk) (ob := _root_.G.ob) (M := 30000) (loose := _root_.G.loose) (d := HandSHeadRun.topDef (OpenLaw.row PySem.Challenge.rw_maybegone_k01_first_errors).prog 59) (kwd := []) _root_.G.ob_eq
    (by kernel_rfl) (fun s => by kernel_rfl) _root_.G.run (by kernel_rfl) (by kernel_rfl) (by kernel_rfl) (by rfl) (by first | assumption | decide +kernel) (by decide +kernel) ⟨rfl, rfl, rfl, rfl, rfl, by decide +kernel⟩ ?hw ?hc
  case hw => w_witness2
  case hc =>
    refine _root_.G.walk_ofGE (l := PySem.Challenge.rw_maybegone_k01_first_errors) (n := 63) (k := 16) (x := "_law_script") rfl (by decide) (by kernel_rfl) ⟨rfl, by decide, by decide⟩ ?F
    intro w mg fa h Y Gn hmg0
    obtain ⟨K, KX, c⟩ := Y
    have hmg : mg ("law" : PySem.Str) = some (.ref fa) := by
      have e : (HandSHeadRun.topDef (OpenLaw.row PySem.Challenge.rw_maybegone_k01_first_errors).prog 59).name = ("law" : PySem.Str) := by kernel_rfl
      rw [← e]
      exact hmg0
    obtain ⟨fd, hb, hF⟩ := _root_.G.facts (P := (PySem.Challenge.rw_maybegone_k01_first_errors).prog) (w := w) KX Gn hmg c
    exact ⟨K, fd, KX, hb, hF⟩
