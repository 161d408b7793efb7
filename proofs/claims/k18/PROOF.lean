import PyProof.Rows.All
import Wide.All
import OpenK.AllK
import Wide.FinOn
import HandS.ForMost
import HandS.Style
import HandS.IsInst
import HandS.More
import HandS.Evl
import HandS.Zip
import HandS.Walk
import HandS.SetFor
import HandS.Defaults
import HandS.ForExc
import HandS.CallSlots
import HandS.SlotsOwn
import HandS.OwnIter
import HandS.IterNext
import HandS.ClsMeth
import HandS.Deep
import KE.KExcSuper
import HandS.ExcInit
import HandS.Nested
import HandS.ExcField
import HandS.ExcIs
import HandS.TryMany
import HandS.TryOnly
import HandS.ExcOwn
import HandS.WordsExc
import KE.KExcIs
import HandS.Exc
import HandS.Sort
import KE.KDictCopyH
import HandS.DictComp
import HandS.Comp
import KE.GoesComp2
import HandS.Star
import HandS.TupAny
import KE.KSuper
import KE.KDictKeyed
import KE.KeyNested
import KE.KDictDisplayH
import PyProof.P3Eq
import PySem.Challenge.RW_coretower_k18_whole_least_table
import HandS.Conv
import KE.RegKSuper
set_option Elab.async false
set_option linter.all false
set_option maxRecDepth 100000
set_option maxHeartbeats 4000000
/-! ### small things over the layer: frames, loops, tests -/
namespace My
open PySem L2
section
variable {P : Program} {w : World} {K : PySem.W.Frag} {mg : Str → Option Value} {base : Heap}
/-- a def of the text, where it stands -/
structure Df (K : PySem.W.Frag) (mg : Str → Option Value) (x : Str) (st : Stmt) (ps : List Str) (f : Addr) (fd : FuncData) : Prop where
  F : Fun K x x st f fd
  g : mg x = some (.ref f)
  b : Binds K fd ps []
theorem cxK {CX : CXT} {N : List Str} {q : Str} {sc : Scope} {f : Addr} {cdv : Value} {A : Around} {outer : List Env} {s : Shared} {H : Hp} {E : XK} : (cxOf CX P w K mg base N q sc f cdv A outer s H E).K = K := rfl
theorem cxnK {CX : CXT} {N : List Str} {q : Str} {sc : Scope} {f : Addr} {cdv : Value} {A : Around} {outer : List Env} {s : Shared} {H : Hp} {E : XK} : (cxOf CX P w K mg base N q sc f cdv A outer s H E).nox.K = K := rfl
end
/-! ### frames -/
/-- what stood outside of S stands as it did -/
def Kp (S : List Addr) (H H' : Hp) : Prop := ∀ b o, b ∉ S → H b = some o → H' b = some o
theorem Kp.refl (S : List Addr) (H : Hp) : Kp S H H := fun _ _ _ h => h
theorem Kp.trans {S : List Addr} {H H1 H2 : Hp} (a : Kp S H H1) (b : Kp S H1 H2) : Kp S H H2 := fun c o hc h => b c o hc (a c o hc h)
theorem Kp.mono {S T : List Addr} {H H' : Hp} (a : Kp S H H') (h : ∀ x ∈ S, x ∈ T) : Kp T H H' := fun c o hc e => a c o (fun z => hc (h c z)) e
theorem Kp.of0 {T : List Addr} {H H' : Hp} (a : Kp [] H H') : Kp T H H' := a.mono fun x hx => nomatch hx
theorem Kp.new {S : List Addr} {H : Hp} {p : Addr} {o : HO} (h : H p = none) : Kp S H (upd H p o) := fun a u _ e => by
  rw [upd_ne (ne_of_none e h)]
  exact e
/-- a write to something that was not there at the beginning -/
theorem Kp.wr {S : List Addr} {H H' : Hp} {p : Addr} {o : HO} (a : Kp S H H') (h : H p = none) : Kp S H (upd H' p o) := fun b u hb e => by
  rw [upd_ne (ne_of_none e h)]
  exact a b u hb e
theorem Kp.put {S : List Addr} {H H' : Hp} {p : Addr} {o : HO} (a : Kp S H H') (h : p ∈ S) : Kp S H (upd H' p o) := fun b u hb e => by
  rw [upd_ne (fun z => hb (by rw [z]; exact h))]
  exact a b u hb e
theorem Kp.ls {S : List Addr} {K : PySem.W.Frag} {H H' : Hp} {a : Addr} {xs : List V} (k : Kp S H H') (ha : a ∉ S) (h : SqL K H a xs) : SqL K H' a xs := by
  rcases h with (h | ⟨o, h⟩) | h
  · exact .inl (.inl (k _ _ ha h))
  · exact .inl (.inr ⟨o, k _ _ ha h⟩)
  · exact .inr h
theorem Kp.tp {S : List Addr} {K : PySem.W.Frag} {H H' : Hp} {a : Addr} {xs : List V} (k : Kp S H H') (ha : a ∉ S) (h : SqT K H a xs) : SqT K H' a xs := by
  rcases h with (h | ⟨o, h⟩) | h
  · exact .inl (.inl (k _ _ ha h))
  · exact .inl (.inr ⟨o, k _ _ ha h⟩)
  · exact .inr h
theorem Kp.free {S : List Addr} {H H' : Hp} {p : Addr} (k : Kp S H H') (hp : H' p = none) (hs : ∀ a ∈ S, ∃ o, H' a = some o) : H p = none := by
  cases e : H p with
  | none => rfl
  | some o =>
    by_cases h : p ∈ S
    · obtain ⟨u, hu⟩ := hs p h
      rw [hp] at hu; cases hu
    · rw [k p o h e] at hp; cases hp
theorem Kp.free0 {H H' : Hp} {p : Addr} (k : Kp [] H H') (hp : H' p = none) : H p = none := k.free hp fun a h => nomatch h
theorem not1 {a b : Addr} (h : b ≠ a) : b ∉ [a] := fun z => h (List.mem_singleton.mp z)
theorem not0 {b : Addr} : b ∉ ([] : List Addr) := fun z => nomatch z
theorem sq_l {K : PySem.W.Frag} {H : Hp} {a : Addr} {xs : List V} (h : H a = some (.lst xs)) : SqL K H a xs := .inl (.inl h)
theorem sq_t {K : PySem.W.Frag} {H : Hp} {a : Addr} {xs : List V} (h : H a = some (.tup xs)) : SqT K H a xs := .inl (.inl h)
theorem small {n : Nat} (h : n ≤ 100000) : n ≤ sizeLine := Nat.le_trans h (by decide)
theorem smallL {n : Nat} (h : n ≤ 100000) : n < sizeLine := Nat.lt_of_le_of_lt h (by decide)
theorem ne_kind {H : Hp} {a b : Addr} {o u : HO} (h : H a = some o) (h' : H b = some u) (d : o ≠ u) : a ≠ b := ne_of h h' d
/-! ### subscripts -/
theorem atI_of {α : Type} {xs : List α} {i : Int} {v : α} (h0 : 0 ≤ i) (h : xs[i.toNat]? = some v) : atI xs i = some v := by
  have e := atI_nat h
  rwa [Int.toNat_of_nonneg h0] at e
theorem ixN_of {n : Nat} {i : Int} (h0 : 0 ≤ i) (h : i < n) : ixN n i = some i.toNat := by
  unfold ixN
  rw [if_pos h0, if_pos h]
theorem atI_ex {α : Type} {xs : List α} {i : Int} (h0 : 0 ≤ i) (h : i < xs.length) : ∃ v, v ∈ xs ∧ atI xs i = some v := by
  have hl : i.toNat < xs.length := by omega
  exact ⟨xs[i.toNat], List.getElem_mem hl, atI_of h0 (List.getElem?_eq_getElem hl)⟩
/-! ### isinstance -/
section
variable {K : PySem.W.Frag} {H : Hp} {Q : VK}
theorem isi_mk {x : V} {n m : String} {b : Bool} (h : TyOf K H x (.type n)) (k : kitB n m = some b) (q : Q (.bl b) H) : rIsi K [x, .ty m] H Q := ⟨x, _, _, _, b, rfl, .ty m, .base h, kit_ty k, q⟩
theorem isi_int_str {i : Int} (q : Q (.bl false) H) : rIsi K [.int i, .ty "str"] H Q := isi_mk (.int i) (by decide +kernel) q
theorem isi_str_str {i : Str} (q : Q (.bl true) H) : rIsi K [.str i, .ty "str"] H Q := isi_mk (.str i) (by decide +kernel) q
theorem isi_int_int {i : Int} (q : Q (.bl true) H) : rIsi K [.int i, .ty "int"] H Q := isi_mk (.int i) (by decide +kernel) q
theorem isi_int_bool {i : Int} (q : Q (.bl false) H) : rIsi K [.int i, .ty "bool"] H Q := isi_mk (.int i) (by decide +kernel) q
theorem isi_bl_bool {i : Bool} (q : Q (.bl true) H) : rIsi K [.bl i, .ty "bool"] H Q := isi_mk (.bl i) (by decide +kernel) q
end
theorem sc_ii {i j : Int} : scal (.int i) (.int j) = true := rfl
theorem sc_ss {i j : Str} : scal (.str i) (.str j) = true := rfl
theorem sc_bb {i j : Bool} : scal (.bl i) (.bl j) = true := rfl
theorem sc_ni {j : Int} : scal .non (.int j) = true := rfl
theorem sc_in {j : Int} : scal (.int j) .non = true := rfl
theorem sc_is {i : Int} {j : Str} : scal (.int i) (.str j) = true := rfl
theorem sc_si {i : Int} {j : Str} : scal (.str j) (.int i) = true := rfl
theorem sc_nn : scal .non .non = true := rfl
/-! ### loops -/
section
variable {K : PySem.W.Frag} {g : TG} {tb : TS} {D : Ends} {σ : St} {H : Hp}
theorem forL {a : Addr} {xs : List V} {i : Nat} (Pv : Nat → L2.St → Hp → Prop) (hσ : σ[i]? = some (some (.ref a))) (hS : SqL K H a xs) (h0 : Pv 0 σ H) (hl : ∀ j σ H, j ≤ xs.length → Pv j σ H → SqL K H a xs)
    (hs : ∀ j x σ H, xs[j]? = some x → Pv j σ H → g x σ H fun σ2 H2 => tb { D with nx := Pv (j + 1), ct := Pv (j + 1), bk := D.nx } σ2 H2) (hd : ∀ σ H, Pv xs.length σ H → D.nx σ H) : tFor (iList K (tVar i)) g tb D σ H :=
  ⟨_, hσ, a, rfl, ⟨xs, hS⟩, for_list Pv h0 hl hs hd⟩
theorem forT {a : Addr} {xs : List V} {i : Nat} (Pv : Nat → L2.St → Hp → Prop) (hσ : σ[i]? = some (some (.ref a))) (hS : SqT K H a xs) (h0 : Pv 0 σ H) (hl : ∀ j σ H, j ≤ xs.length → Pv j σ H → SqT K H a xs)
    (hs : ∀ j x σ H, xs[j]? = some x → Pv j σ H → g x σ H fun σ2 H2 => tb { D with nx := Pv (j + 1), ct := Pv (j + 1), bk := D.nx } σ2 H2) (hd : ∀ σ H, Pv xs.length σ H → D.nx σ H) : tFor (iTup K (tVar i)) g tb D σ H :=
  ⟨_, hσ, a, rfl, ⟨xs, hS⟩, for_tup Pv h0 hl hs hd⟩
/-- behind the reckoning of the bound: range(m) -/
theorem forR {ta : TA} {Qx : Hp → Int → Prop} (h : ta σ H fun vs H1 => ∃ m : Int, vs = [.int m] ∧ -(2 ^ 62) ≤ m ∧ m < 2 ^ 62 ∧ ∃ Pv : Nat → L2.St → Hp → Prop, Pv 0 σ H1 ∧
    (∀ j σ H, j < m.toNat → Pv j σ H → g (.int (0 + j)) σ H fun σ2 H2 => tb { D with nx := Pv (j + 1), ct := Pv (j + 1), bk := D.nx } σ2 H2) ∧ (∀ σ H, Pv m.toNat σ H → D.nx σ H))
    (mono : ∀ Q Q' : List V → Hp → Prop, (∀ vs H, Q vs H → Q' vs H) → ta σ H Q → ta σ H Q') : tFor (iRng1 ta) g tb D σ H := by
  refine mono _ _ ?_ h
  rintro vs H1 ⟨m, e, h1, h2, Pv, a, b, c⟩
  exact ⟨m, e, h1, h2, for_range Pv a b c⟩
end
/-! ### dicts -/
section
variable {κ : Type} [DecidableEq κ]
theorem keys_putK (kvs : List (κ × V)) (k : κ) (v : V) (h : (kvs.map (·.1)).Nodup) : ((putK kvs k v).map (·.1)).Nodup := by
  cases e : valV kvs k with
  | none => exact nd_putK v h e
  | some y =>
    have ha : (kvs.any fun kv => decide (kv.1 = k)) = true := by
      unfold valV at e
      cases q : kvs.find? fun kv => decide (kv.1 = k) with
      | none => rw [q] at e; cases e
      | some p => exact List.any_eq_true.mpr ⟨p, List.mem_of_find?_eq_some q, by simpa using List.find?_some q⟩
    unfold putK
    rw [if_pos ha, List.map_map]
    have e2 : ((fun kv : κ × V => kv.1) ∘ fun kv : κ × V => if kv.1 = k then (kv.1, v) else kv) = fun kv => kv.1 := by
      funext p
      show (if p.1 = k then (p.1, v) else p).1 = p.1
      split <;> rfl
    rw [e2]
    exact h
theorem mem_putK {kvs : List (κ × V)} {k : κ} {v : V} {p : κ × V} (h : p ∈ putK kvs k v) : p ∈ kvs ∨ p = (k, v) := by
  unfold putK at h
  split at h
  · obtain ⟨q, hq, e⟩ := List.mem_map.mp h
    split at e
    · rename_i hk
      exact .inr (by rw [← e, hk])
    · exact .inl (by rw [← e]; exact hq)
  · rcases List.mem_append.mp h with h | h
    · exact .inl h
    · exact .inr (List.mem_singleton.mp h)
theorem valV_mem {kvs : List (κ × V)} {k : κ} {v : V} (h : (kvs.map (·.1)).Nodup) (hm : (k, v) ∈ kvs) : valV kvs k = some v := by
  induction kvs with
  | nil => nomatch hm
  | cons p r ih =>
    rw [List.map_cons, List.nodup_cons] at h
    by_cases e : p.1 = k
    · rw [valV_pos e]
      rcases List.mem_cons.mp hm with z | z
      · rw [← z]
      · exact absurd (List.mem_map.mpr ⟨_, z, rfl⟩) (by rw [← e]; exact h.1)
    · rw [valV_neg e]
      rcases List.mem_cons.mp hm with z | z
      · exact absurd (by rw [← z]) e
      · exact ih h.2 z
end
end My

set_option Elab.async false
set_option linter.all false
set_option maxRecDepth 100000
set_option maxHeartbeats 4000000
namespace My
open PySem L2
/-! ### data that stands in tracked tuples and lists -/
mutual
inductive Dq (H : Hp) : V → PyData → Prop
  | non : Dq H .non .none
  | bl (b : Bool) : Dq H (.bl b) (.bool b)
  | int (i : Int) : Dq H (.int i) (.int i)
  | str (x : Str) : Dq H (.str x) (.str x)
  | lst {a : Addr} {xs : List V} {ds : List PyData} : H a = some (.lst xs) → DqAll H xs ds → Dq H (.ref a) (.list ds)
  | tup {a : Addr} {xs : List V} {ds : List PyData} : H a = some (.tup xs) → DqAll H xs ds → Dq H (.ref a) (.tuple ds)
inductive DqAll (H : Hp) : List V → List PyData → Prop
  | nil : DqAll H [] []
  | cons {v : V} {vs : List V} {d : PyData} {ds : List PyData} : Dq H v d → DqAll H vs ds → DqAll H (v :: vs) (d :: ds)
end
mutual
theorem Dq.kp {H H' : Hp} (k : Kp [] H H') : ∀ {d : PyData} {v : V}, Dq H v d → Dq H' v d
  | _, _, .non => .non
  | _, _, .bl b => .bl b
  | _, _, .int i => .int i
  | _, _, .str x => .str x
  | _, _, .lst e h => .lst (k _ _ not0 e) (DqAll.kp k h)
  | _, _, .tup e h => .tup (k _ _ not0 e) (DqAll.kp k h)
theorem DqAll.kp {H H' : Hp} (k : Kp [] H H') : ∀ {ds : List PyData} {vs : List V}, DqAll H vs ds → DqAll H' vs ds
  | _, _, .nil => .nil
  | _, _, .cons h t => .cons (Dq.kp k h) (DqAll.kp k t)
end
mutual
theorem Dq.dp {K : PySem.W.Frag} {H : Hp} : ∀ {d : PyData} {v : V}, Dq H v d → Dp K H v d
  | _, _, .non => .non
  | _, _, .bl b => .bl b
  | _, _, .int i => .int i
  | _, _, .str x => .str x
  | _, _, .lst e h => .lst (sq_l e) (DqAll.dp h)
  | _, _, .tup e h => .tup (sq_t e) (DqAll.dp h)
theorem DqAll.dp {K : PySem.W.Frag} {H : Hp} : ∀ {ds : List PyData} {vs : List V}, DqAll H vs ds → DpAll K H vs ds
  | _, _, .nil => .nil
  | _, _, .cons h t => .cons (Dq.dp h) (DqAll.dp t)
end
theorem DqAll.len {H : Hp} : ∀ {ds : List PyData} {vs : List V}, DqAll H vs ds → vs.length = ds.length
  | _, _, .nil => rfl
  | _, _, .cons h t => by rw [List.length_cons, List.length_cons, t.len]
theorem DqAll.get {H : Hp} : ∀ {ds : List PyData} {vs : List V}, DqAll H vs ds → ∀ {i : Nat} {v : V}, vs[i]? = some v → ∃ d, ds[i]? = some d ∧ Dq H v d
  | _, _, .nil, _, _, e => nomatch e
  | _, _, .cons h t, 0, _, e => by cases e; exact ⟨_, rfl, h⟩
  | _, _, .cons h t, i + 1, _, e => t.get (i := i) e
/-- its class -/
def tyD : PyData → String
  | .none => "NoneType"
  | .bool _ => "bool"
  | .int _ => "int"
  | .str _ => "str"
  | .list _ => "list"
  | .tuple _ => "tuple"
  | _ => "object"
theorem Dq.ty {K : PySem.W.Frag} {H : Hp} {v : V} {d : PyData} (h : Dq H v d) : TyOf K H v (.type (tyD d)) := by
  cases h with
  | non => exact .non
  | bl b => exact .bl b
  | int i => exact .int i
  | str x => exact .str x
  | lst e h => exact .lst e
  | tup e h => exact .tup e
def six (d : PyData) : Prop := match d with
  | .none | .bool _ | .int _ | .str _ | .list _ | .tuple _ => True
  | _ => False
theorem Dq.six {H : Hp} {v : V} {d : PyData} (h : Dq H v d) : six d := by
  cases h <;> exact True.intro
def isStrD : PyData → Bool | .str _ => true | _ => false
def isTupD : PyData → Bool | .tuple _ => true | _ => false
def isLstD : PyData → Bool | .list _ => true | _ => false
def isIntD : PyData → Bool | .int _ | .bool _ => true | _ => false
def isBoolD : PyData → Bool | .bool _ => true | _ => false
section
variable {K : PySem.W.Frag} {H : Hp} {Q : VK} {v : V} {d : PyData}
theorem isi_D (h : Dq H v d) {m : String} {b : Bool} (k : kitB (tyD d) m = some b) (q : Q (.bl b) H) : rIsi K [v, .ty m] H Q := isi_mk h.ty k q
theorem isi_Dstr (h : Dq H v d) (q : Q (.bl (isStrD d)) H) : rIsi K [v, .ty "str"] H Q := isi_D h (by cases h <;> simp only [tyD, isStrD, isTupD, isLstD, isIntD, isBoolD] <;> decide +kernel) q
theorem isi_Dtup (h : Dq H v d) (q : Q (.bl (isTupD d)) H) : rIsi K [v, .ty "tuple"] H Q := isi_D h (by cases h <;> simp only [tyD, isStrD, isTupD, isLstD, isIntD, isBoolD] <;> decide +kernel) q
theorem isi_Dlst (h : Dq H v d) (q : Q (.bl (isLstD d)) H) : rIsi K [v, .ty "list"] H Q := isi_D h (by cases h <;> simp only [tyD, isStrD, isTupD, isLstD, isIntD, isBoolD] <;> decide +kernel) q
theorem isi_Dint (h : Dq H v d) (q : Q (.bl (isIntD d)) H) : rIsi K [v, .ty "int"] H Q := isi_D h (by cases h <;> simp only [tyD, isStrD, isTupD, isLstD, isIntD, isBoolD] <;> decide +kernel) q
theorem isi_Dbool (h : Dq H v d) (q : Q (.bl (isBoolD d)) H) : rIsi K [v, .ty "bool"] H Q := isi_D h (by cases h <;> simp only [tyD, isStrD, isTupD, isLstD, isIntD, isBoolD] <;> decide +kernel) q
end
/-! ### xs.remove(text) -/
def eqs (z : Str) (v : Value) : Bool := match v with
  | .str y _ => y == z
  | _ => false
theorem str_beq' (w z : Str) : (w == z) = (w.cps.toList == z.cps.toList) := by
  rw [Bool.eq_iff_iff, beq_iff_eq, beq_iff_eq]
  constructor
  · rintro rfl; rfl
  · intro h
    obtain ⟨a⟩ := w
    obtain ⟨b⟩ := z
    obtain ⟨a⟩ := a
    obtain ⟨b⟩ := b
    have h' : a = b := h
    rw [h']
def rRemS : V → List V → Hp → VK → Prop := fun x xs H Q => ∃ (l : Addr) (zs : List Str) (z : Str) (j : Nat), x = .ref l ∧ xs = [.str z] ∧ H l = some (.lst (zs.map V.str)) ∧ zs[j]? = some z ∧ (∀ m : Nat, m < j → zs[m]? ≠ some z) ∧ Q .non (upd H l (.lst ((zs.eraseIdx j).map V.str)))
theorem vals_str : ∀ {zs : List Str} {us : List Value}, Vals (zs.map V.str) us → ∀ {i : Nat} {u : Value}, us[i]? = some u → ∃ y t, u = .str y t ∧ zs[i]? = some y
  | [], _, r, _, _, e => by cases r; cases e
  | z :: zs, us, r, i, u, e => by
    rw [List.map_cons] at r
    cases r with
    | cons r0 rt =>
      match i, e with
      | 0, e =>
        cases e
        obtain ⟨t, rfl⟩ := r0
        exact ⟨z, t, rfl, rfl⟩
      | i + 1, e => exact vals_str rt (i := i) e
theorem erase_mapS : ∀ (l : List Str) (j : Nat), (l.map V.str).eraseIdx j = (l.eraseIdx j).map V.str
  | [], j => by simp
  | _ :: _, 0 => by simp
  | _ :: r, j + 1 => by simp [erase_mapS r j]
theorem eqs_ok (w z : Str) (tw t : Tok) : MeetsSeq.EqGives (.str w tw) (.str z t) (eqs z (.str w tw)) := by
  have e : eqs z (.str w tw) = (w.cps.toList == z.cps.toList) := (str_beq' w z)
  rw [e]
  exact SeqRoads2.EqGives.str w z tw t
theorem mt_removeS {X : Cx} : MtM X "list.remove" rRemS := by
  intro pins s σ H x xs v us Q I rx rxs h
  obtain ⟨l, zs, z, j, rfl, rfl, hH, hj, hno, q⟩ := h
  cases rx
  obtain ⟨u, rfl, ru⟩ := rxs.one
  obtain ⟨t, rfl⟩ := ru
  obtain ⟨hz, its, n, r, hl, e⟩ := I.lstM hH
  rw [List.length_map] at hl hz
  have hjn : j < zs.length := (List.getElem?_eq_some_iff.mp hj).1
  have hjl : j < its.toArray.size := by rw [List.size_toArray]; omega
  have each : ∀ y, y ∈ its.toArray → MeetsSeq.EqGives y (.str z t) (eqs z y) := fun y hy => by
    obtain ⟨i, hi, e1⟩ := List.mem_iff_getElem.mp (show y ∈ its by simpa using hy)
    obtain ⟨w, tw, rfl, _⟩ := vals_str r (i := i) (by rw [List.getElem?_eq_getElem hi, e1])
    exact eqs_ok w z tw t
  have at_ : ∀ m (hm : m < its.toArray.size), ∃ t', its.toArray[m] = .str (zs[m]'(by rw [List.size_toArray] at hm; omega)) t' := fun m hm => by
    have hm' : m < its.length := by simpa using hm
    obtain ⟨w, tw, ew, ez⟩ := vals_str r (i := m) (List.getElem?_eq_getElem hm')
    have hmz : m < zs.length := by omega
    rw [List.getElem?_eq_getElem hmz] at ez
    exact ⟨tw, by rw [Option.some.inj ez]; simpa using ew⟩
  refine call_meets PySem.F.slot_list_remove ⟨_, e, rfl⟩ PySem.F.entry_list_remove (PySem.F.args_list_remove_2 _ _) (MeetsSeq.list_remove l its.toArray n (.str z t) (eqs z) each j hjl ?_ ?_ (by rw [List.size_toArray]; omega)) ⟨e, ?_⟩
  · obtain ⟨t', et⟩ := at_ j hjl
    rw [List.getElem?_eq_getElem hjn] at hj
    rw [et, Option.some.inj hj]
    exact beq_self_eq_true z
  · intro m hm hmj
    obtain ⟨t', et⟩ := at_ m hm
    rw [et]
    refine beq_eq_false_iff_ne.mpr fun e2 => hno m hmj ?_
    rw [← e2]
    exact List.getElem?_eq_getElem _
  · have rr := r.eraseIdx j
    rw [erase_mapS] at rr
    refine ⟨.non, _, I.lset (its' := its.eraseIdx j) (t' := s.toks) hH e ?_ rr ?_, rfl, q⟩
    · show its.toArray.eraseIdxIfInBounds j = (its.eraseIdx j).toArray
      rw [List.eraseIdxIfInBounds_toArray]
    · have := List.length_eraseIdx_le zs j
      rw [List.length_map]
      omega
/-! ### repr of data, nothing being shown -/
def rReprD (K : PySem.W.Frag) : List V → Hp → VK → Prop := fun xs H Q => ∃ (a : Addr) (d : PyData), xs = [.ref a] ∧ Dp K H (.ref a) d ∧ d.showable = true ∧ d.hasDict = false ∧ d.depth ≤ 60 ∧ d.shown.length ≤ sizeLine ∧ Q (.str d.shown) H
theorem call_reprD {X : Cx} (gd : X.A.guards = some [] ∧ X.A.units + 64 < cLine) : CallR X (.builtin "repr") (rReprD X.K) := by
  intro pins s σ H xs us Q I r h
  obtain ⟨a, d, rfl, hd, hs, hn, hp, hz, q⟩ := h
  obtain ⟨u, rfl, ru⟩ := vals1 r
  obtain ⟨as, rd⟩ := Dp.reads I d (.ref a) u hd ru
  cases (show u = Value.ref a from ru)
  refine repr_of_reads' rd hs (PyData.noDict_hsm hn) gd.1 (by omega) (fun _ _ e => e) (fun h' t tk hk => ⟨.str _, H, I.kept (t' := tk) hk, ⟨_, rfl⟩, q⟩) hz
/-! ### an own class made where what is raised is wished for at the slots -/
def tMakeS (C : Addr) (sp : Sp) (dvs : List V) (E : L2.St → XK) (t : TA) : TE := fun σ H Q => t σ H fun vs H1 => ∀ o d, H1 o = none → H1 d = none → d ≠ o → sp (.ref o :: (vs ++ dvs)) (upd (upd H1 d (.own o)) o (.ins C d [])) (fun v H2 => v = .non ∧ Q (.ref o) H2) (E σ)
section
variable {X : Cx} {CX : CXT} {k : Nat} {f C : Addr} {fd : FuncData} {ps : List Str} {sp : Sp} {dvs : List V} {ds : List Value} {E : L2.St → XK} {x : Str} {p pos : Pos} {e : Expr} {es : List Expr} {t : TA}
theorem pe_makeS (M : Mk X.K C f) (F : FnOk X.prog X.w X.K X.mg X.base CX k f fd ps sp) (hr : Room (k + 1) X.A) (hg : Gl X x) (hm : X.mg x = some (.ref C)) (hb : Binds X.K fd ps ds) (hd : Vals dvs ds) (hx : ∀ σ, PassesAt CX X σ (E σ)) (ha : PA X (e :: es) t)
    (hdb : (x == ("__debug__" : Str)) = false := by decide) (he : starEach (e :: es) X.env = (false, eval e X.env) :: starEach es X.env := by rfl) (hpl : (backTo pos (starEach es X.env)).any (·.1) = false := by rfl) :
    PE X (.Call (.Name x p) (e :: es) [] pos) (tMakeS C sp dvs E t) := by
  refine ⟨fun pins s σ H Q I h => wpAny_Call_Name_kw (ld_glob I hg hm ?_ hdb)⟩
  refine PySem.W.callWith_K (h₀ := X.base) I.ok.mod.kin M.kp (thn (ha.run pos pins s σ H _ I h) fun us s1 ⟨vs, H1, I1, r, q⟩ => ⟨I1.kIn, ?_⟩) he hpl
  have g0 : H1 (s1.heap.objs.size + 1) = none := I1.hok.fresh (Nat.le_succ _)
  have g1 : H1 s1.heap.objs.size = none := I1.hok.fresh (Nat.le_refl _)
  have todo := q _ _ g0 g1 (Nat.ne_of_lt (Nat.lt_succ_self _))
  have J := Inv.made (C := C) I1
  have rr : Vals (V.ref (s1.heap.objs.size + 1) :: (vs ++ dvs)) (Value.ref (s1.heap.objs.size + 1) :: (us ++ ds)) := .cons rfl (r.append hd)
  have many : (Value.ref (s1.heap.objs.size + 1) :: us ++ ds).length = ps.length := (rr.length.symm.trans (F.len _ _ _ _ todo))
  refine wpAny_call (make_map (f := f) I1.kIn M.makes M.init (beq_iff_eq.mp M.fn) (codeAny_mono (F.run _ X.stack _ _ ⟨_, []⟩ _ _ _ (E σ) (hr.make C us []) (J.env0.make C us []) (hb _ (Value.ref (s1.heap.objs.size + 1) :: us) J.kIn many) rr todo) fun
    | .error er, s2, z => hx σ pins _ _ er s2 J z
    | .ok (.ret u), s2, z => ?_
    | .ok .next, _, z => False.elim z
    | .ok .brk, _, z => False.elim z
    | .ok .cont, _, z => False.elim z))
  obtain ⟨v, H3, J3, rv, rfl, z3⟩ := J.after z
  exact ⟨rv, .ref (s1.heap.objs.size + 1), H3, J3, rfl, z3⟩
end
end My

set_option Elab.async false
set_option linter.all false
set_option maxRecDepth 100000
set_option maxHeartbeats 4000000
/-! ### operators, in, len, list of instances of an own class that define them -/
namespace My
open PySem PySem.Spec PyProof.Rows L2
section
variable {X : Cx} {CX : CXT} {pins : List (Addr × Obj)} {σ : L2.St} {H : Hp} {s : Shared} {C g a : Addr} {fd : FuncData} {ps : List Str} {sp : Sp} {E : XK} {k : Nat} {A1 : Around}
theorem inst_of {dx : Addr} {fs : List (Str × V)} (I : Inv X pins σ H s) (ha : H a = some (.ins C dx fs)) : ∃ ox od, PySem.W.InstAt s.heap a ox C (some od) := by
  obtain ⟨mA, J, _⟩ := ins_get I.hok ha
  obtain ⟨od, J', _⟩ := J.look
  exact ⟨_, od, J'⟩
theorem env_under (sb : Sub X k A1) (I : Inv X pins σ H s) : Env0 X.prog X.w X.K X.mg X.base A1 X.stack s H := by
  obtain ⟨f1, f2, f3, f4, f5, f6, f7, f8⟩ := I.env0
  exact ⟨(sb.fr).trans f1, f2, f3, f4, f5, f6, f7, f8⟩
/-- a def of the class runs somewhere below the body -/
theorem run_under {Q : VK} {us : List Value} {vs : List V} (F : FnOk X.prog X.w X.K X.mg X.base CX k g fd ps sp) (sb : Sub X k A1) (hb : Binds X.K fd ps []) (hx : Passes CX X E) (I : Inv X pins σ H s) (r : Vals vs us) (h : sp vs H Q E) :
    wpAny (model X.prog X.w) A1 (call (.ref g) us) (EP X pins σ Q) X.xe s := by
  have len := F.len _ _ _ _ h
  have bnd := hb s us I.kIn (by rw [List.append_nil, ← r.length]; exact len)
  rw [List.append_nil] at bnd
  refine wpAny_call (codeAny_mono (F.run A1 X.stack s H ⟨us, []⟩ us vs Q E sb.room (env_under sb I) bnd r h) ?_)
  rintro (e | fl) s' z
  · exact hx pins σ H s e s' I z
  · cases fl <;> first | exact I.after z | exact z.elim
/-- x op y, both instances of the class at C -/
def rBinO (C : Addr) (sp : Sp) (E : XK) : R2 := fun x y H Q => ∃ (a dx : Addr) (fs : List (Str × V)) (b dy : Addr) (gs : List (Str × V)), x = .ref a ∧ y = .ref b ∧ H a = some (.ins C dx fs) ∧ H b = some (.ins C dy gs) ∧ sp [.ref a, .ref b] H Q E
/-- what stands of an operator's def -/
structure BinC (K : PySem.W.Frag) (C g : Addr) (op : Operator) : Prop where
  one : PySem.W.selfFirst K C = true
  at_ : PySem.W.findIn K (.ref C) (PySem.dunder op.info.2) = some (some (.ref g))
  fn : PySem.W.isFn K (.ref g) = true
theorem sub_here (hr : Room k X.A) : Sub X k X.A := ⟨hr, rfl⟩
theorem op_binO {op : Operator} (c : BinC X.K C g op) (F : FnOk X.prog X.w X.K X.mg X.base CX k g fd ps sp) (hb : Binds X.K fd ps []) (hr : Room k X.A) (hx : Passes CX X E) : OpR X (binaryOp op) (rBinO C sp E) := by
  rintro pins s σ H x y v u Q I rx ry ⟨a, dx, fs, b, dy, gs, rfl, rfl, ha, hb', q⟩
  cases rx
  cases ry
  obtain ⟨ox, od, J⟩ := inst_of I ha
  obtain ⟨oy, ody, J'⟩ := inst_of I hb'
  obtain ⟨m, hF⟩ := I.fr
  refine PySem.W.binop_K hF I.ok.mod.kin J J'.type c.one c.at_ c.fn ?_
  refine thn (run_under (us := [.ref a, .ref b]) (vs := [.ref a, .ref b]) F (sub_here hr) hb hx I (.cons rfl (.cons rfl .nil)) q) ?_
  rintro w s' ⟨z, H', I', rz, qz⟩
  exact SlX.cmpback rz ⟨z, H', I', rz, qz⟩
/-- y in x, x an instance of the class at C: its __contains__ gives a bool -/
def rInO (C : Addr) (sp : Sp) (E : XK) (neg : Bool) : R2 := fun y x H Q => ∃ (a dx : Addr) (fs : List (Str × V)), x = .ref a ∧ H a = some (.ins C dx fs) ∧ sp [.ref a, y] H (fun v H' => ∃ b, v = .bl b ∧ Q (.bl (if neg then !b else b)) H') E
structure InC (K : PySem.W.Frag) (C g : Addr) : Prop where
  at_ : PySem.W.findIn K (.ref C) "__contains__" = some (some (.ref g))
  fn : PySem.W.isFn K (.ref g) = true
theorem op_inO (c : InC X.K C g) (F : FnOk X.prog X.w X.K X.mg X.base CX k g fd ps sp) (hb : Binds X.K fd ps []) (hr : Room k X.A) (hx : Passes CX X E) : OpR X (compareOp .In) (rInO C sp E false) := by
  rintro pins s σ H y x u v Q I ry rx ⟨a, dx, fs, rfl, ha, q⟩
  cases rx
  obtain ⟨ox, od, J⟩ := inst_of I ha
  obtain ⟨m, hF⟩ := I.fr
  refine PySem.W.in_K hF I.ok.mod.kin J c.at_ c.fn ?_
  refine thn (run_under (us := [.ref a, u]) (vs := [.ref a, y]) F (sub_here hr) hb hx I (.cons rfl (.cons ry .nil)) q) ?_
  rintro w s' ⟨z, H', I', rz, b, rfl, qz⟩
  cases rz
  exact wpAny_pure ⟨.bl b, H', I', rfl, qz⟩
theorem op_notInO (c : InC X.K C g) (F : FnOk X.prog X.w X.K X.mg X.base CX k g fd ps sp) (hb : Binds X.K fd ps []) (hr : Room k X.A) (hx : Passes CX X E) : OpR X (compareOp .NotIn) (rInO C sp E true) := by
  rintro pins s σ H y x u v Q I ry rx ⟨a, dx, fs, rfl, ha, q⟩
  cases rx
  obtain ⟨ox, od, J⟩ := inst_of I ha
  obtain ⟨m, hF⟩ := I.fr
  refine PySem.W.notIn_K hF I.ok.mod.kin J c.at_ c.fn ?_
  refine thn (run_under (us := [.ref a, u]) (vs := [.ref a, y]) F (sub_here hr) hb hx I (.cons rfl (.cons ry .nil)) q) ?_
  rintro w s' ⟨z, H', I', rz, b, rfl, qz⟩
  cases rz
  exact wpAny_pure ⟨.bl (!b), H', I', rfl, qz⟩
/-- len(x) -/
structure LenC (K : PySem.W.Frag) (C g : Addr) : Prop where
  at_ : PySem.W.findIn K (.ref C) "__len__" = some (some (.ref g))
  fn : PySem.W.isFn K (.ref g) = true
theorem len_under {R : Value → Shared → Prop} {Q1 : Nat → Hp → Prop} {dx : Addr} {fs : List (Str × V)} (c : LenC X.K C g) (F : FnOk X.prog X.w X.K X.mg X.base CX k g fd ps sp) (hb : Binds X.K fd ps []) (sb : Sub X (k + 1) A1) (hx : Passes CX X E) (I : Inv X pins σ H s)
    (ha : H a = some (.ins C dx fs)) (h : sp [.ref a] H (fun v H' => ∃ n : Nat, v = .int n ∧ n ≤ sizeLine ∧ Q1 n H') E) (hR : ∀ (n : Nat) H' s' t, n ≤ sizeLine → Inv X pins σ H' s' → Q1 n H' → R (.int n t) s') : wpAny (model X.prog X.w) A1 (call (.builtin "len") [.ref a]) R X.xe s := by
  obtain ⟨ox, od, J⟩ := inst_of I ha
  refine Calls.call_function_entry kind_len plain_len entry_len (args_len1 _) ?_
  unfold Builtin.«len»
  refine wpAny_bind (m := oneArg "len" _) (wpAny_pure ?_)
  refine wpAny_bind (PySem.W.special_fn I.kIn J c.at_ (beq_iff_eq.mp c.fn) ?_)
  refine thn (run_under (us := [.ref a]) (vs := [.ref a]) F sb.in1 hb hx I (.cons rfl .nil) h) ?_
  rintro w s' ⟨z, H', I', rz, n, rfl, hn, hq⟩
  obtain ⟨t, rfl⟩ := rz
  have h63 : ((n : Int)) < 2 ^ 63 := by
    rw [sizeLine_eq] at hn
    omega
  refine wpAny_bind (wpAny_holding (wpAny_pure ?_))
  refine wpAny_bind (wpAny_letGo ?_)
  refine wpAny_ite_false (decide_eq_false (show ¬ ((n : Int) < 0) by omega)) ?_
  refine wpAny_ite_false (decide_eq_false (show ¬ ((n : Int) ≥ 2 ^ 63) by omega)) ?_
  exact wpAny_bind (wpAny_mkInt (wpAny_pure ⟨_, rfl, hR n H' _ _ hn (I'.tok _) hq⟩))
def rLenO (C : Addr) (sp : Sp) (E : XK) : List V → Hp → VK → Prop := fun xs H Q => ∃ (a dx : Addr) (fs : List (Str × V)), xs = [.ref a] ∧ H a = some (.ins C dx fs) ∧ sp [.ref a] H (fun v H' => ∃ n : Nat, v = .int n ∧ n ≤ sizeLine ∧ Q (.int n) H') E
theorem call_lenO (c : LenC X.K C g) (F : FnOk X.prog X.w X.K X.mg X.base CX k g fd ps sp) (hb : Binds X.K fd ps []) (hr : Room (k + 1) X.A) (hx : Passes CX X E) : CallR X (.builtin "len") (rLenO C sp E) := by
  rintro pins s σ H xs us Q I r ⟨a, dx, fs, rfl, ha, q⟩
  obtain ⟨u, rfl, ru⟩ := r.one
  cases ru
  exact len_under (Q1 := fun n H' => Q (.int n) H') c F hb (sub_here hr) hx I ha q fun n H' s' t _ I' hq => ⟨.int n, H', I', ⟨t, rfl⟩, hq⟩
/-- something that is no more looked at -/
def junk (q : Addr) : HO := .ext fun h => ∃ o, h.get? q = some o
theorem junk_ok {P : Program} {w : World} {H : Hp} {h : Heap} {q : Addr} {o : Obj} (e : h.get? q = some o) : ObjOk P w H h q (junk q) := ⟨⟨_, e⟩, ⟨_, e⟩, fun _ _ ⟨u, z⟩ k => ⟨u, k _ z⟩⟩
/-- the class's __iter__ gives iter(l) of a list l, and it has a __len__ -/
structure IterC (K : PySem.W.Frag) (C gi gl : Addr) : Prop where
  it : PySem.W.findIn K (.ref C) "__iter__" = some (some (.ref gi))
  itF : PySem.W.isFn K (.ref gi) = true
  ln : LenC K C gl
/-- list(x) -/
def rListO (K : PySem.W.Frag) (C : Addr) (si sl : Sp) (E : XK) : List V → Hp → VK → Prop := fun xs H Q => ∃ (a dx : Addr) (fs : List (Str × V)), xs = [.ref a] ∧ H a = some (.ins C dx fs) ∧ ∀ q, H q = none →
  si [.ref a] (upd H q (.lst [])) (fun v H1 => ∃ (l it : Addr) (zs : List V), v = .ref it ∧ H1 a = some (.ins C dx fs) ∧ H1 it = some (ItO l it 0) ∧ SqL K H1 l zs ∧ l ≠ q ∧ l ≠ it ∧ H1 q = some (.lst []) ∧
    sl [.ref a] H1 (fun v H2 => ∃ n : Nat, v = .int n ∧ n ≤ sizeLine ∧ H2 it = some (ItO l it 0) ∧ SqL K H2 l zs ∧ H2 q = some (.lst []) ∧ Q (.ref q) (upd (upd H2 it (junk it)) q (.lst zs))) E) E
/-- .. where nothing is raised -/
theorem run_under0 {Q : VK} {us : List Value} {vs : List V} {Ex : Value → Shared → Prop} (F : FnOk X.prog X.w X.K X.mg X.base CX0 k g fd ps sp) (sb : Sub X k A1) (hb : Binds X.K fd ps []) (I : Inv X pins σ H s) (r : Vals vs us) (h : sp vs H Q E) :
    wpAny (model X.prog X.w) A1 (call (.ref g) us) (EP X pins σ Q) Ex s := by
  have len := F.len _ _ _ _ h
  have bnd := hb s us I.kIn (by rw [List.append_nil, ← r.length]; exact len)
  rw [List.append_nil] at bnd
  refine wpAny_call (codeAny_mono (F.run A1 X.stack s H ⟨us, []⟩ us vs Q E sb.room (env_under sb I) bnd r h) ?_)
  rintro (e | fl) s' z
  · exact False.elim z
  · cases fl <;> first | exact I.after z | exact z.elim
theorem len_under0 {R : Value → Shared → Prop} {Ex : Value → Shared → Prop} {Q1 : Nat → Hp → Prop} {dx : Addr} {fs : List (Str × V)} (c : LenC X.K C g) (F : FnOk X.prog X.w X.K X.mg X.base CX0 k g fd ps sp) (hb : Binds X.K fd ps []) (sb : Sub X (k + 1) A1) (I : Inv X pins σ H s)
    (ha : H a = some (.ins C dx fs)) (h : sp [.ref a] H (fun v H' => ∃ n : Nat, v = .int n ∧ n ≤ sizeLine ∧ Q1 n H') E) (hR : ∀ (n : Nat) H' s' t, n ≤ sizeLine → Inv X pins σ H' s' → Q1 n H' → R (.int n t) s') : wpAny (model X.prog X.w) A1 (call (.builtin "len") [.ref a]) R Ex s := by
  obtain ⟨ox, od, J⟩ := inst_of I ha
  refine Calls.call_function_entry kind_len plain_len entry_len (args_len1 _) ?_
  unfold Builtin.«len»
  refine wpAny_bind (m := oneArg "len" _) (wpAny_pure ?_)
  refine wpAny_bind (PySem.W.special_fn I.kIn J c.at_ (beq_iff_eq.mp c.fn) ?_)
  refine thn (run_under0 (us := [.ref a]) (vs := [.ref a]) F sb.in1 hb I (.cons rfl .nil) h) ?_
  rintro w s' ⟨z, H', I', rz, n, rfl, hn, hq⟩
  obtain ⟨t, rfl⟩ := rz
  have h63 : ((n : Int)) < 2 ^ 63 := by
    rw [sizeLine_eq] at hn
    omega
  refine wpAny_bind (wpAny_holding (wpAny_pure ?_))
  refine wpAny_bind (wpAny_letGo ?_)
  refine wpAny_ite_false (decide_eq_false (show ¬ ((n : Int) < 0) by omega)) ?_
  refine wpAny_ite_false (decide_eq_false (show ¬ ((n : Int) ≥ 2 ^ 63) by omega)) ?_
  exact wpAny_bind (wpAny_mkInt (wpAny_pure ⟨_, rfl, hR n H' _ _ hn (I'.tok _) hq⟩))
theorem hint_own {Q : Bool → Shared → Prop} {Ex : Value → Shared → Prop} {Q1 : Nat → Hp → Prop} {dx : Addr} {fs : List (Str × V)} (c : LenC X.K C g) (F : FnOk X.prog X.w X.K X.mg X.base CX0 k g fd ps sp) (hb : Binds X.K fd ps []) (sb : Sub X (k + 1) A1) (I : Inv X pins σ H s)
    (ha : H a = some (.ins C dx fs)) (h : sp [.ref a] H (fun v H' => ∃ n : Nat, v = .int n ∧ n ≤ sizeLine ∧ Q1 n H') E) (hR : ∀ b n H' s', Inv X pins σ H' s' → Q1 n H' → Q b s') : wpAny (model X.prog X.w) A1 (Builtin.List.listLengthHint (.ref a)) Q Ex s := by
  obtain ⟨ox, od, J⟩ := inst_of I ha
  unfold Builtin.List.listLengthHint
  refine wpAny_bind (wpAny_bind (J.type.here ((PySem.W.looks_findIn I.kIn c.at_).here ?_)))
  refine PySem.W.KFB.if_not rfl ?_
  refine PySem.W.KFB.if_so rfl ?_
  refine wpAny_bind (wpAny_rule ?_)
  refine wpAny_bind (wpAny_attempt (len_under0 c F hb sb I ha h ?_))
  intro n H' s' t hn I' hq
  show wpAny _ _ (pure (some (n : Int)) >>= _) _ _ _
  refine wpAny_bind (wpAny_pure ?_)
  have hl : Builtin.List.listTooLong ((n : Int).toNat) = false := by
    rw [Int.toNat_natCast]; exact notLongL hn
  refine PySem.W.KFB.if_not hl ?_
  exact wpAny_pure (hR _ n H' s' I' hq)
/-! ### the list's iterator, drawn to its end -/
theorem py_item {it l : Addr} {i : Nat} {items : Array Value} {v : Value} {prog : Program} {w : World} {Q : Option Value → Shared → Prop} {Ex : Value → Shared → Prop} (ho : s.heap.get? it = some (GNX.itObj l i)) (hl : s.heap.IsList l items) (hv : items[i]? = some v)
    (hQ : ∀ h', h'.get? it = some (GNX.itObj l (i + 1)) → (∀ b o, b ≠ it → s.heap.get? b = some o → h'.get? b = some o) → Q (some v) { s with heap := h' }) : wpAny (model prog w) A1 (pyNext (.ref it)) Q Ex s := by
  have hT : s.TypeIs (.ref it) "list_iterator" := ⟨_, ho, rfl⟩
  unfold pyNext
  refine wpAny_bind (wpAny_attempt (wpAny_callSpecial?_slot (name := Str.ofString "__next__") hT slot_listiter_next (wpAny_call_entry slot_listiter_next hT entry_listiter_next (GNX.next_item ho hl hv ?_) (args_listiter_next _))))
  intro h' e sb
  exact wpAny_pure (hQ h' e fun b o hb eb => (sb.2 b hb).trans eb)
theorem py_end {it l : Addr} {i : Nat} {items : Array Value} {prog : Program} {w : World} {Q : Option Value → Shared → Prop} {Ex : Value → Shared → Prop} (hh : A1.handled = none) (ho : s.heap.get? it = some (GNX.itObj l i)) (hl : s.heap.IsList l items) (hv : items[i]? = none)
    (hQ : ∀ h', h'.get? it = some (GNX.itEnd i) → (∀ b o, b ≠ it → s.heap.get? b = some o → h'.get? b = some o) → Q none { s with heap := h' }) : wpAny (model prog w) A1 (pyNext (.ref it)) Q Ex s := by
  have hT : s.TypeIs (.ref it) "list_iterator" := ⟨_, ho, rfl⟩
  unfold pyNext
  refine wpAny_bind (wpAny_attempt (wpAny_callSpecial?_slot (name := Str.ofString "__next__") hT slot_listiter_next (wpAny_call_entry slot_listiter_next hT entry_listiter_next (GNX.next_end hh ho hl hv ?_) (args_listiter_next _))))
  intro h1 h' e vs e1 sb k1 ne he hv'
  refine wpAny_bind (wpAny_isInstance (T := "StopIteration") (b := true) ⟨_, he, rfl⟩ PySem.isSubtype_stop ?_)
  exact wpAny_pure (hQ h' (k1 _ _ e1) fun b o hb eb => k1 _ _ ((sb.2 b hb).trans eb))
theorem same_upd {H : Hp} {q : Addr} {o : HO} (e : H q = some o) : upd H q o = H := by
  funext b
  by_cases z : b = q
  · rw [z, upd_same, e]
  · rw [upd_ne z]
theorem take_next' {α : Type} {xs : List α} {i : Nat} {x : α} (h : xs[i]? = some x) : xs.take (i + 1) = xs.take i ++ [x] := by
  rw [List.take_add_one, h]; rfl
/-- the loop that fills the list at q -/
theorem drain {q l it : Addr} {zs : List V} {F : Hp} {R : Result → Shared → Prop} (hh : A1.in1.handled = none) (lit : l ≠ it) (lq : l ≠ q) (hne : it ≠ q) (hdone : ∀ s', Inv X pins σ F s' → R (.ok (.ret .none)) s') :
    ∀ (n i : Nat) (H1 : Hp) (s1 : Shared), zs.length - i = n → i ≤ zs.length → Inv X pins σ H1 s1 → H1 it = some (ItO l it i) → SqL X.K H1 l zs → H1 q = some (.lst (zs.take i)) → upd (upd H1 it (junk it)) q (.lst zs) = F →
      codeAny (model X.prog X.w) A1 (.builtin "list.extend.loop" ⟨[.ref q, .ref it, .none], []⟩) R s1 := by
  intro n
  induction n with
  | zero =>
    intro i H1 s1 hn hi I hit hl hq hF
    obtain ⟨its, rv, pl, hz⟩ := I.list hl
    have hlen := rv.length
    have nope : its.toArray[i]? = none := by
      rw [List.getElem?_toArray]
      exact List.getElem?_eq_none (by omega)
    refine codeAny_builtin PySem.F.entry_extend_loop ?_
    rw [Around.under_plainId PySem.F.plain_extend_loop _]
    refine wpAny_bind (m := pyNext (.ref it)) (py_end hh (itO_get I hit) pl.isList nope fun h' he hk => ?_)
    have J : Inv X pins σ (upd H1 it (junk it)) { s1 with heap := h' } := I.write (t' := s1.toks) (x := it) (e := it) (by rw [hit]; exact True.intro) (.inl rfl) (fun b u hb e => hk b u hb e) ⟨_, he⟩ (junk_ok he)
    have e : upd H1 it (junk it) = F := by
      rw [← hF]
      refine (same_upd ?_).symm
      rw [upd_ne hne.symm, hq, List.take_of_length_le (by omega)]
    rw [e] at J
    exact wpAny_pure (hdone _ J)
  | succ n ih =>
    intro i H1 s1 hn hi I hit hl hq hF
    obtain ⟨its, rv, pl, hz⟩ := I.list hl
    have hlen := rv.length
    have hx : zs[i]? = some zs[i] := List.getElem?_eq_getElem (by omega)
    obtain ⟨u, hu, ru⟩ := rv.get hx
    refine codeAny_builtin PySem.F.entry_extend_loop ?_
    rw [Around.under_plainId PySem.F.plain_extend_loop _]
    refine wpAny_bind (m := pyNext (.ref it)) (py_item (itO_get I hit) pl.isList (v := u) (by simpa using hu) fun h' he hk => ?_)
    have J : Inv X pins σ (upd H1 it (ItO l it (i + 1))) { s1 with heap := h' } := I.write (t' := s1.toks) (x := it) (e := it) (by rw [hit]; exact True.intro) (.inl rfl) (fun b u hb e => hk b u hb e) ⟨_, he⟩ (itO_ok he)
    have hq' : (upd H1 it (ItO l it (i + 1))) q = some (.lst (zs.take i)) := by rw [upd_ne hne.symm]; exact hq
    obtain ⟨_, ys, c, r2, hl2, e2⟩ := J.lstM hq'
    have hy : ys.length = i := by rw [← hl2, List.length_take]; omega
    refine wpAny_bind (m := updateSeq q (·.push u)) (wpAny_updateSeq e2 rfl (wpAny_pure ⟨plainId_quiet PySem.F.plain_extend_loop _, ?_⟩) (by rw [List.size_toArray]; omega) (by rw [Array.size_push, List.size_toArray]; omega))
    have J2 := J.lset (f := (·.push u)) (its' := ys ++ [u]) (ys := zs.take (i + 1)) (t' := s1.toks) hq' e2 (by simp) (by rw [take_next' hx]; exact r2.append (.cons ru .nil)) (by rw [List.length_take]; omega)
    refine ih (i + 1) _ _ (by omega) (by omega) J2 ?_ ?_ upd_same ?_
    · rw [upd_ne hne]; exact upd_same
    · exact (((Kp.refl [it, q] H1).put (by simp)).put (by simp)).ls (by simp [lit, lq]) hl
    · rw [← hF]
      funext b
      by_cases z : b = q
      · rw [z, upd_same, upd_same]
      · rw [upd_ne z, upd_ne z]
        by_cases y : b = it
        · rw [y, upd_same, upd_same]
        · rw [upd_ne y, upd_ne y, upd_ne z, upd_ne y]
theorem call_listO {gi gl : Addr} {fdi fdl : FuncData} {psi psl : List Str} {si sl : Sp} {ki kl : Nat} (c : IterC X.K C gi gl) (Fi : FnOk X.prog X.w X.K X.mg X.base CX0 ki gi fdi psi si) (bi : Binds X.K fdi psi []) (Fl : FnOk X.prog X.w X.K X.mg X.base CX0 kl gl fdl psl sl) (bl : Binds X.K fdl psl [])
    (hr : Room (max ki (kl + 1) + 2) X.A) (hcalm : X.calm = true := by rfl) : CallR X (.type "list") (rListO X.K C si sl E) := by
  rintro pins s σ H xs us Q I rv ⟨a, dx, fs, rfl, ha, hq⟩
  obtain ⟨u, rfl, ru⟩ := rv.one
  cases ru
  have sb0 : Sub X (max ki (kl + 1)) X.A.in1.in1 := (sub_here hr).in1.in1
  have hh : X.A.handled = none := I.ok.hd hcalm
  refine callType_codes (Q₁ := fun obj s₁ => obj = .ref s.heap.objs.size ∧ s₁ = { s with heap := s.heap.push { cls := .type "list", data := .seq #[] } }) PySem.F.called_list (PySem.F.typeCall_list_1 _) PySem.F.entry_list_init (code_list_new _ ⟨rfl, rfl⟩) ?_
  rintro obj s₁ ⟨rfl, rfl⟩
  have hS : (s.heap.push { cls := .type "list", data := .seq #[] }).get? s.heap.objs.size = some { cls := .type "list", data := .seq #[] } := Heap.get?_push_size _ rfl
  refine ⟨⟨_, hS, rfl⟩, PySem.F.args_list_init_2 _ _, ?_⟩
  have fr : H s.heap.objs.size = none := I.hok.fresh (Nat.le_refl _)
  have todo := hq _ fr
  generalize hqq : s.heap.objs.size = q at *
  have I1 : Inv X pins σ (upd H q (.lst [])) { s with heap := s.heap.push { cls := .type "list", data := .seq #[] } } := by
    rw [← hqq]
    exact I.lnew (its := []) (t' := s.toks) .nil (Nat.zero_le _)
  show wpAny _ _ (Builtin.List.listItems (.ref q) >>= fun old => Builtin.List.listUpdate (.ref q) (fun _ => #[]) >>= fun _ => letGo old.toList.reverse >>= fun _ => Builtin.List.listExtendWith (.ref q) (.ref a) .none) _ _ _
  refine wpAny_bind ?_
  unfold Builtin.List.listItems
  refine wpAny_bind (wpAny_seqItems hS rfl (wpAny_pure ?_))
  refine wpAny_bind (m := updateSeq q fun _ => #[]) (wpAny_updateSeq hS rfl ?_)
  have I2 := I1.lset (f := fun _ => #[]) (its := []) (its' := []) (ys := []) (t' := s.toks) upd_same hS rfl .nil (Nat.zero_le _)
  rw [upd_upd] at I2
  refine wpAny_bind (wpAny_letGo ?_)
  have ha2 : upd H q (.lst []) a = some (.ins C dx fs) := by rw [upd_ne (ne_of_none ha fr)]; exact ha
  obtain ⟨ox, od, J⟩ := inst_of I2 ha2
  obtain ⟨m0, hF⟩ := I2.fr
  have naq : a ≠ q := ne_of_none ha fr
  unfold Builtin.List.listExtendWith
  refine wpAny_bind (J.type.here ?_)
  have h1 : Builtin.List.listSameRef (.ref q) (.ref a) = false := beq_eq_false_iff_ne.mpr naq.symm
  refine PySem.W.KFB.if_not (by rw [h1]; rfl) ?_
  refine wpAny_bind (PySem.W.owit_iter hF I2.ok.mod.kin J c.it c.itF ?_)
  refine thn (run_under0 (us := [.ref a]) (vs := [.ref a]) Fi (sb0.mono (Nat.le_max_left _ _)) bi I2 (.cons rfl .nil) todo) ?_
  rintro w s2 ⟨z, H1, I3, rz, l, it, zs, rfl, ha3, hit, hl, lq, lit, hq3, hsl⟩
  cases rz
  unfold PySem.W.OwitIt
  have hT : s2.TypeIs (.ref it) "list_iterator" := ⟨_, itO_get I3 hit, rfl⟩
  refine wpAny_specialOf (name := Str.ofString "__next__") hT slot_listiter_next.lookup ?_
  refine wpAny_bind (wpAny_holding (hint_own c.ln Fl bl (sb0.mono (Nat.le_max_right _ _)) I3 ha3 hsl ?_))
  rintro room n H2 s3 I4 ⟨hit4, hl4, hq4, qend⟩
  have hne : it ≠ q := ne_of hit4 hq4 (fun z => by cases z)
  have fin : ∀ s4, Inv X pins σ H2 s4 → codeAny (model X.prog X.w) X.A.in1 (.builtin "list.extend.loop" ⟨[.ref q, .ref it, .none], []⟩) (wants (fun r s₂ => r = .none ∧ EP X pins σ Q (.ref q) s₂) X.xe) s4 := fun s4 I5 =>
    drain (A1 := X.A.in1) (F := upd (upd H2 it (junk it)) q (.lst zs)) (by simp [hh]) lit lq hne (fun s' I6 => ⟨rfl, .ref q, _, I6, rfl, qend⟩) _ 0 H2 s4 rfl (Nat.zero_le _) I5 hit4 hl4 (by rw [List.take_zero]; exact hq4) rfl
  refine wpAny_ite_split (fun _ => ?_) (fun _ => wpAny_pure ⟨plainId_quiet PySem.F.plain_extend_loop _, fin s3 I4⟩)
  refine wpAny_bind (wpAny_rule (wpAny_bind ?_))
  obtain ⟨_, its, k4, r4, hl5, e4⟩ := I4.lstM hq4
  cases r4
  refine wpAny_bind (m := updateSeq q (·.push .none)) (wpAny_updateSeq e4 rfl ?_)
  have I5 := I4.lset (f := (·.push Value.none)) (its' := [Value.none]) (ys := [.non]) (t' := s3.toks) hq4 e4 (by simp) (.cons rfl .nil) (by rw [List.length_singleton, sizeLine_eq]; decide)
  obtain ⟨_, its5, k5, r5, hl6, e5⟩ := I5.lstM upd_same
  obtain ⟨u5, rfl, ru5⟩ := r5.one
  refine wpAny_updateSeq (a := q) (f := (·.pop)) e5 rfl ?_ (by show 1 ≤ sizeLine; rw [sizeLine_eq]; decide) (by show 0 ≤ sizeLine + 1; exact Nat.zero_le _)
  have I6 := I5.lset (f := (·.pop)) (its := [u5]) (its' := []) (ys := []) (t' := s3.toks) upd_same e5 (by rfl) .nil (Nat.zero_le _)
  rw [upd_upd, same_upd hq4] at I6
  exact wpAny_pure ⟨plainId_quiet PySem.F.plain_extend_loop _, fin _ I6⟩
end
/-! ### a static method, called by its class's name -/
structure StaC (K : PySem.W.Frag) (C : Addr) (mc : Value) (m : Str) (p g : Addr) : Prop where
  rd : PySem.W.readsIn K C mc = true
  ga : PySem.W.specialIn K (.ref C) "__getattribute__" = some (some (.builtin "type.__getattribute__"))
  at_ : PySem.W.findCls K (.ref C) mc m = some (.get (.builtin "staticmethod.__get__") (.ref p) .none (.ref C))
  rc : ∃ rest, PySem.W.recIn K p "staticmethod" = some (.ref g :: rest)
  kp : PySem.W.keepIn K (.ref g) = true
def tSta (C : Addr) (sp : Sp) (dvs : List V) (E : XK) (ta : TE) (t : TA) : TE := fun σ H Q => ta σ H fun x H1 => x = .ref C ∧ t σ H1 fun vs H2 => sp (vs ++ dvs) H2 Q E
section
variable {X : Cx} {CX : CXT} {C p g : Addr} {mc : Value} {m : Str} {fd : FuncData} {ps : List Str} {sp : Sp} {E : XK} {k : Nat} {o e : Expr} {es : List Expr} {ta : TE} {t : TA} {apos pos : Pos} {dvs : List V} {ds : List Value}
theorem pe_sta {pl : Sem Bool} (he : PE X o ta) (c : StaC X.K C mc m p g) (F : FnOk X.prog X.w X.K X.mg X.base CX k g fd ps sp) (hr : Room k X.A) (hb : Binds X.K fd ps ds) (hd : Vals dvs ds) (hx : Passes CX X E) (ha : PA X (e :: es) t)
    (hst : starEach (e :: es) X.env = (false, eval e X.env) :: starEach es X.env := by rfl) (hpl : (backTo pos (starEach es X.env)).any (·.1) = false := by rfl)
    (ht : eval (.Call (.Attribute o m apos) (e :: es) [] pos) X.env = (eval o X.env >>= fun ov => standAt apos.atName >>= fun _ => holding [ov] (getMethod ov m pl) >>= fun fr => callWith pos fr.1 fr.2 (backTo pos (starEach (e :: es) X.env)) (backToKw pos (keywordEach [] X.env))) := by rfl) :
    PE X (.Call (.Attribute o m apos) (e :: es) [] pos) (tSta C sp dvs E ta t) := by
  refine ⟨fun pins s σ H Q I h => ?_⟩
  refine PySem.W.methodCall_KW (pl := pl) (thn (he.run pins s σ H _ I h) ?_) ht
  rintro u s1 ⟨x, H1, I1, rx, rfl, q⟩
  cases rx
  obtain ⟨rest, hp⟩ := c.rc
  refine PySem.W.method_cls I1.kIn c.ga (PySem.W.cls_bind I1.kIn c.rd c.at_ (wpAny_call ?_))
  refine PySem.W.sm_get (s := { s1 with toks := s1.toks + 1 }) I1.kIn hp (PySem.W.handed_on rfl ?_)
  refine PySem.W.callWith_K (first := []) (h₀ := X.base) I1.ok.mod.kin c.kp (thn (ha.run pos pins _ σ H1 _ (I1.tok _) q) fun us s2 ⟨vs, H2, I2, r, q2⟩ => ⟨I2.kIn, ?_⟩) hst hpl
  exact run_fn F hr hb hd hx I2 r q2
/-- x in t, t a tuple, of data of any depth -/
def rInT (K : PySem.W.Frag) (neg : Bool) : R2 := fun x y H Q => ∃ d ds, Dp K H x d ∧ Dp K H y (.tuple ds) ∧ SeqAt.shaped d = true ∧ SeqAt.shaped (.tuple ds) = true ∧ Q (.bl (if neg then !(ds.any fun z => PyData.eqv z d) else ds.any fun z => PyData.eqv z d)) H
theorem op_inT (hu : X.A.units + 65 < cLine) : OpR X (compareOp .In) (rInT X.K false) := by
  rintro pins s σ H x y v u Q I rx ry ⟨d, ds, hd, he, sd, se, q⟩
  obtain ⟨as, r1⟩ := Dp.reads I d x v hd rx
  obtain ⟨bs, r2⟩ := Dp.reads I (.tuple ds) y u he ry
  exact SeqAt.in_tuple_reads r2 r1 (SeqAt.canLay_of_shaped se) (SeqAt.canLay_of_shaped sd) (room_in_shaped sd hu) ⟨.bl _, H, I, rfl, q⟩
theorem op_notInT (hu : X.A.units + 65 < cLine) : OpR X (compareOp .NotIn) (rInT X.K true) := by
  rintro pins s σ H x y v u Q I rx ry ⟨d, ds, hd, he, sd, se, q⟩
  obtain ⟨as, r1⟩ := Dp.reads I d x v hd rx
  obtain ⟨bs, r2⟩ := Dp.reads I (.tuple ds) y u he ry
  exact SeqAt.notIn_tuple_reads r2 r1 (SeqAt.canLay_of_shaped se) (SeqAt.canLay_of_shaped sd) (room_in_shaped sd hu) ⟨.bl _, H, I, rfl, q⟩
end
end My

set_option Elab.async false
set_option linter.all false
set_option maxRecDepth 100000
set_option maxHeartbeats 4000000
/-! ### defs that close over their class, and super().__init__(..) of an own error -/
namespace My
open PySem L2 NdefX
/-- a block whose activation is known -/
structure PSat (X : Cx) (c : Code) (body : List Stmt) (t : TS) : Prop where
  run : ∀ (pins : List (Addr × Obj)) (s : Shared) (σ : L2.St) (H : Hp) (D : Ends), Inv X pins σ H s → t D σ H → wpAt (model X.prog X.w) X.A c (execs body X.env) (SP X pins D) X.xe s
structure PSat1 (X : Cx) (c : Code) (st : Stmt) (t : TS) : Prop where
  run : ∀ (pins : List (Addr × Obj)) (s : Shared) (σ : L2.St) (H : Hp) (D : Ends), Inv X pins σ H s → t D σ H → wpAt (model X.prog X.w) X.A c (exec st X.env) (SP X pins D) X.xe s
theorem psat_of {X : Cx} {c : Code} {body : List Stmt} {t : TS} (h : PSs X body t) : PSat X c body t := ⟨fun pins s σ H D I q => wpAt_of_wpAny (h.run pins s σ H D I q)⟩
theorem psat_cons {X : Cx} {c : Code} {st : Stmt} {rest : List Stmt} {t u : TS} (h1 : PSat1 X c st t) (h2 : PSs X rest u) : PSat X c (st :: rest) (tSeq t u) := by
  refine ⟨fun pins s σ H D I q => ?_⟩
  refine PySem.ks_wpAt_execs_cons (wpAt_mono (h1.run pins s σ H { D with nx := u D } I q) (fun f s1 r => ?_) fun _ _ z => z)
  cases f with
  | next =>
    obtain ⟨σ', H', I', r⟩ := r
    exact wpAt_of_wpAny (h2.run pins s1 σ' H' D I' r)
  | brk => exact r
  | cont => exact r
  | ret u => exact r
/-- the words of a def that closes over its class -/
def nfOf (x qual : Str) (st : Stmt) (cc cda : Addr) : NF := ⟨x, qual, defArgs st, defBody st, defScope st, [("__class__", cc)], cda⟩
structure FunX (K : PySem.W.Frag) (x qual : Str) (st : Stmt) (f : Addr) (fd : FuncData) (cc cda D : Addr) : Prop where
  ex : ∃ (oc : Value) (od : Option Addr) (kV doc pm : Value) (an : Option Addr) (ct : Value) (osl : Array (Option Value)),
    fd = PySem.W.fnX x qual (defArgs st) (defBody st) (defScope st) [("__class__", cc)] .none kV doc pm an (.ref cda) ct ∧ K.lookup f = some ⟨oc, od, .func fd, osl⟩ ∧ PySem.W.codeIn K (.ref cda) qual = true
  cell : ∃ (cl : Value) (cld : Option Addr) (csl : Array (Option Value)), K.lookup cc = some ⟨cl, cld, .cell (some (.ref D)), csl⟩
  kp : PySem.W.keepIn K (.ref f) = true
section
variable {P : Program} {w : World} {K : PySem.W.Frag} {mg : Str → Option Value} {base : Heap}
abbrev cxX (CX : CXT) (P : Program) (w : World) (K : PySem.W.Frag) (mg : Str → Option Value) (base : Heap) (N : List Str) (x qual : Str) (st : Stmt) (cc cda f : Addr) (A : Around) (outer : List Env) (s : Shared) (H : Hp) (E : XK) : Cx := ncx CX P w K mg base N (nfOf x qual st cc cda) f A outer s H E
theorem FunX.ok {CX : CXT} {x qual : Str} {st : Stmt} {f cc cda D : Addr} {fd : FuncData} {N ps : List Str} {k : Nat} {sp : Sp} (F : FunX K x qual st f fd cc cda D) (S : NScope N ps ["__class__"] (defScope st)) (len : ∀ vs H Q E, sp vs H Q E → vs.length = ps.length)
    (hbody : ∀ (A : Around) (outer : List Env) (s : Shared) (H : Hp) (vs : List V) (Q : VK) (E : XK), Room k (A.deeper (envF (nfOf x qual st cc cda) f s.heap.objs.size)) → sp vs H Q E →
      ∃ t, PSat (cxX CX P w K mg base N x qual st cc cda f A outer s H E) (.func (defBody st) (envF (nfOf x qual st cc cda) f s.heap.objs.size)) (defBody st) t ∧ t { nx := fun _ H' => Q .non H', rt := Q } (startF N vs [some (.ref D)]) H) :
    FnOk P w K mg base CX (k + 1) f fd ps sp := by
  obtain ⟨oc, od, kV, doc, pm, an, ct, osl, rfl, lk, hcd⟩ := F.ex
  obtain ⟨cl, cld, csl, hcc⟩ := F.cell
  refine ⟨len, fun A outer s H args us vs Q E hr e0 hb r hsp => ?_⟩
  have hl := len _ _ _ _ hsp
  have KX : K.In s.heap := e0.mod.kin.keeps fun b o e => (e0.bs b o e).1
  have lim : s.heap.NoLimit := e0.mod.nolimit.keeps fun b o e => (e0.bs b o e).1
  have hcB := e0.mod.kin _ _ hcc
  have C : CellsAt (nfOf x qual st cc cda).cl ["__class__"] [some (.ref D)] s.heap H := by
    refine ⟨rfl, fun y c e => ?_, fun a b c e1 e2 => ?_, fun i y e => ?_⟩
    · have e' : (if y = ("__class__" : Str) then some cc else none) = some c := by
        rw [← e]
        show _ = List.lookup y [(("__class__" : Str), cc)]
        rw [List.lookup_cons, List.lookup_nil]
        by_cases h : y = ("__class__" : Str)
        · rw [if_pos h, beq_iff_eq.mpr h]
        · rw [if_neg h, beq_eq_false_iff_ne.mpr h]
      split at e'
      · cases e'
        exact ⟨(e0.bs _ _ hcB).2, _, _, KX _ _ hcc, rfl⟩
      · cases e'
    · have g : ∀ (y : Str) (d : Addr), List.lookup y [(("__class__" : Str), cc)] = some d → y = "__class__" := by
        intro y d e
        rw [List.lookup_cons, List.lookup_nil] at e
        by_cases h : y = ("__class__" : Str)
        · exact h
        · rw [beq_eq_false_iff_ne.mpr h] at e
          cases e
      exact (g a c e1).trans (g b c e2).symm
    · match i, e with
      | 0, e =>
        have ey : y = "__class__" := (Option.some.inj e).symm
        subst ey
        exact ⟨cc, rfl, fun v hv => ⟨.ref D, by cases hv; rfl, _, KX _ _ hcc, rfl⟩⟩
      | i + 1, e => cases e
  refine PySem.ks_codeAny_call_defAt (fd := PySem.W.fnX x qual (defArgs st) (defBody st) (defScope st) [("__class__", cc)] .none kV doc pm an (.ref cda) ct) (body := defBody st) (binds := ps.zip us) hr.depth (KX _ _ lk) rfl lim (PySem.W.codeRec_of KX hcd) rfl hb S.nocell (fun ⟨n, v⟩ hy => S.par n (List.of_mem_zip hy).1) (fun h₁ hns kp => ?_) S.co S.gen S.kind
  obtain ⟨t, ht, hq⟩ := hbody A outer s H vs Q E (hr.deeper _) hsp
  have I : Inv (cxX CX P w K mg base N x qual st cc cda f A outer s H E) [] (startF N vs [some (.ref D)]) H { s with heap := h₁, toks := s.toks + (ps.zip us).length } := inv_startN S hr.hd e0 hl r C hns kp
  refine wpAt_mono (ht.run [] _ (startF N vs [some (.ref D)]) H _ I hq) (fun fl s' hs => ?_) fun e s' hs => hs
  have fin : ∀ {σ' : L2.St} {H' : Hp} {v : V} {u : Value}, Inv (cxX CX P w K mg base N x qual st cc cda f A outer s H E) [] σ' H' s' → L2.RelV v u → Q v H' → CE outer P w H s Q u s' :=
    fun {σ' H' v u} J rv q => ⟨v, H', J.os, J.bare, J.base, J.hok, rv, q⟩
  cases fl with
  | ret u =>
    obtain ⟨v, σ', H', J, rv, q⟩ := hs
    exact fin J rv q
  | next =>
    obtain ⟨σ', H', J, q⟩ := hs
    exact fin (v := V.non) (u := Value.none) J rfl q
  | brk =>
    obtain ⟨_, _, _, q⟩ := hs
    exact False.elim q
  | cont =>
    obtain ⟨_, _, _, q⟩ := hs
    exact False.elim q
end

/-! ### super().__init__(e) -/
/-- what the written part says of an own error that is made by an __init__ of its own: OexC, its place in the chain -/
structure ErrC (K : PySem.W.Frag) (C : Addr) : Prop where
  ox : OexC K C
  sup : PySem.W.ks_superIn K C C "__init__" = some (some (.builtin "ValueError.__init__"))
  isV : PySem.W.subIn K (.ref C) (.type "ValueError") = some true
  opq : PySem.W.nsIn K cStatics "thirdparty.any" = some none
  me : PySem.W.mroIn K C (.ref C) = some true
/-- what the code object of the def tells -/
structure CodeF (K : PySem.W.Frag) (P : Program) (cda : Addr) : Prop where
  at_ : ∃ (ccl : Value) (cdd : Option Addr) (vs : Array Value) (ccs : Array (Option Value)) (file : Str) (tf : Tok), K.lookup cda = some ⟨ccl, cdd, .fields vs, ccs⟩ ∧ vs[2]? = some (.str file tf) ∧ ((P.main.file : Str) == file) = true
  noTop : (P.main.scope.names.lookup ("super" : Str)).isSome = false
/-- the reading: the text is reckoned, nothing more -/
def tSupI (C : Addr) (ta : TA) : TS := fun D σ H => ∃ a : Addr, σ[0]? = some (some (.ref a)) ∧ H a = some (exo a C none) ∧ ta σ H fun vs H1 => vs.length ≤ 1000 ∧ H1 a = some (exo a C none) ∧ D.nx σ H1
section
variable {X : Cx}
theorem psat_sup {body : List Stmt} {f cc cda C : Addr} {fd : FuncData} {oc : Value} {od : Option Addr} {osl : Array (Option Value)} {cl : Value} {cld : Option Addr} {csl : Array (Option Value)} {ar : Arg} {e : Expr} {es : List Expr} {ta : TA} {p0 p1 apos cpos pos : Pos} {pl : Sem Bool}
    (T : ErrC X.K C) (G : CodeF X.K X.prog cda)
    (hf : X.K.lookup f = some ⟨oc, od, .func fd, osl⟩) (hp : (fd.params.posonlyargs ++ fd.params.args).head? = some ar)
    (hcell : X.K.lookup cc = some ⟨cl, cld, .cell (some (.ref C)), csl⟩) (hsuper : X.mg "super" = none)
    (hfu : X.env.func = some f) (hco : X.env.code = .ref cda) (hcl : X.env.cells.lookup ("__class__" : Str) = some cc)
    (hks : X.env.scope.names.lookup ("super" : Str) = some .globalImplicit) (hkc : X.env.scope.names.lookup ("__class__" : Str) = some .free) (hka : X.env.scope.names.lookup ar.arg = some .local)
    (hN : X.N[0]? = some ar.arg) (ha : PA X (e :: es) ta)
    (hev : eval (.Call (.Attribute (.Call (.Name "super" p0) [] [] p1) "__init__" apos) (e :: es) [] cpos) X.env = (do
      let ov ← attributeBase (.Call (.Name "super" p0) [] [] p1) "__init__" X.env (eval (.Call (.Name "super" p0) [] [] p1) X.env)
      standAt apos.atName
      let (f, first) ← holding [ov] (getMethod ov "__init__" pl)
      callWith cpos f first (backTo cpos (starEach (e :: es) X.env)) []))
    (hst : starEach (e :: es) X.env = (false, eval e X.env) :: starEach es X.env) (hpl : (backTo cpos (starEach es X.env)).any (·.1) = false)
    (hsw : swapsWith (.Call (.Attribute (.Call (.Name "super" p0) [] [] p1) "__init__" apos) (e :: es) [] cpos) none pos.line X.env = pure false) (hint : interactive X.env = false) :
    PSat1 X (.func body X.env) (.Expr (.Call (.Attribute (.Call (.Name "super" p0) [] [] p1) "__init__" apos) (e :: es) [] cpos) pos) (tSupI C ta) := by
  refine ⟨fun pins s σ H D I h => ?_⟩
  obtain ⟨a, hσ, ea, q⟩ := h
  obtain ⟨ccl, cdd, vs, ccs, file, tf, hcode, hvs, hfile⟩ := G.at_
  obtain ⟨nm, qn, N, bs, bm, sn, sub, ab, col, dd, k0, k1, k2, k3, k5, hC, hbm⟩ := T.ox.cls
  have hcls : PySem.W.clsIn X.K C = some { name := nm, bases := bs, mro := .ref C :: bm, ns := N, qualname := qn, hasDict := true, slotNames := sn, subclasses := sub, abstract := ab, collection := col, hasDel := false } := by unfold PySem.W.clsIn; rw [hC] <;> rfl
  obtain ⟨t1, ho⟩ := exo_at I.hok ea
  obtain ⟨hh, g, d, t, os⟩ := s
  have XK := I.kIn
  obtain ⟨mb, hb1, hb2⟩ := I.mod.blt
  obtain ⟨m, hn, hl⟩ := id I.loc
  obtain ⟨u0, ru0, lk0⟩ := hl 0 ar.arg (.ref a) hN hσ (.inl hka)
  obtain rfl : u0 = Value.ref a := ru0
  have hv : m ar.arg = some (Value.ref a) := by
    rcases lk0 with ⟨_, e⟩ | ⟨z, _⟩
    · exact e
    · exfalso
      rcases z with z | z
      · have z' : X.env.scope.names.lookup ar.arg = some .cell := z
        rw [hka] at z'; cases z'
      · have z' : X.env.scope.names.lookup ar.arg = some .free := z
        rw [hka] at z'; cases z'
  refine PySem.ks_wpAt_Expr_any (PySem.ks_wpAt_MethodCall ?_ hev) hint hsw
  refine PySem.ks_wpAt_super_base (env := X.env) hks hkc (by decide) hfu (XK _ _ hf) rfl hp hco (XK _ _ hcode) rfl hvs hfile G.noTop ?_
  refine PySem.W.ks_loadName_global I.ok.kind hks (PySem.Calls.loadGlobal_builtin (by rw [I.ok.glob]; exact I.mod.glob.keeps I.bk) hsuper (by rw [I.ok.blt]; exact hb1.keeps I.bk) ((hb2 "super" (by decide)).trans (by decide +kernel)) ⟨rfl, ?_⟩)
  refine wpAny_loadName_free I.ok.kind hkc hcl ⟨_, XK _ _ hcell, rfl⟩ ?_
  refine wpAny_loadName_local I.ok.kind hka hn hv ?_
  refine ks_wpAny_isType_cls (XK _ _ hC) rfl ⟨rfl, ?_⟩
  refine ks_wpAny_call_super (XK _ _ hC) rfl ho rfl (fun c z => nomatch z) (PySem.W.looks_mroIn XK T.me) (fun h' e1 k1' => ?_)
  have I1 : Inv X pins σ H ⟨h', g, d, t, os⟩ := I.kept (t' := t) k1'
  have X1 := I1.kIn
  have ho1 := k1' _ _ ho
  have IA : PySem.W.InstAt h' a _ C none := ⟨ho1, rfl, rfl, trivial⟩
  refine PySem.W.kxs_getMethod PySem.W.kxs_ValueError e1 (PySem.W.looks_opaque X1 T.opq) (l₀ := .ref C :: bm) ?_ rfl X1 ?_ (IA.type.andThen (PySem.W.looks_subIn X1 T.isV)) (PySem.W.ks_ne X1 IA hcls) (by decide) ?_
  · exact fun A Q E s k q => wpAny_bind ((PySem.W.looks_clsIn X1 hcls) A _ E s k (wpAny_pure q))
  · have q1 := T.sup
    unfold PySem.W.ks_superIn at q1
    rw [hcls] at q1
    exact q1
  have I2 : Inv X pins σ H ⟨h'.push (PySem.W.kxs_mw "ValueError.__init__" a), g, d, t + 1, os⟩ := I1.kept (t' := t + 1) (fun b o z => Heap.get?_push_of_some _ z)
  have hu2 : (h'.push (PySem.W.kxs_mw "ValueError.__init__" a)).get? h'.objs.size = some (PySem.W.kxs_mw "ValueError.__init__" a) := Heap.get?_push_size _ rfl
  have hHu : H h'.objs.size = none := I1.hok.fresh (Nat.le_refl _)
  have J2 : Inv X ((h'.objs.size, PySem.W.kxs_mw "ValueError.__init__" a) :: pins) σ H ⟨h'.push (PySem.W.kxs_mw "ValueError.__init__" a), g, d, t + 1, os⟩ := by
    refine I2.pins_of fun p hp => ?_
    rcases List.mem_cons.mp hp with rfl | hp
    · exact ⟨hu2, hHu, Nat.ne_of_gt I1.lt, I1.nofs (Nat.le_refl _), fun v z => nomatch z⟩
    · exact I2.pin p (List.mem_append_right _ hp)
  have key : wpAny (model X.prog X.w) X.A (spliced (backTo cpos (starEach (e :: es) X.env))) (fun vs s₁ => PySem.W.KxsAt "ValueError.__init__" h'.objs.size a s₁.heap ∧ wpAny (model X.prog X.w) X.A (call (.ref h'.objs.size) vs) (fun _ => SP X pins D .next) X.xe s₁) X.xe ⟨h'.push (PySem.W.kxs_mw "ValueError.__init__" a), g, d, t + 1, os⟩ := by
    refine thn (ha.run cpos _ _ σ H _ J2 q) fun us s3 ⟨vs3, H1, I3, rv, hvl, ea1, qn⟩ => ?_
    have hu3 := (I3.pin (h'.objs.size, PySem.W.kxs_mw "ValueError.__init__" a) (List.mem_append_right _ List.mem_cons_self)).1
    refine ⟨hu3, ?_⟩
    have J3 : Inv X pins σ H1 s3 := I3.pins_of fun p hp => I3.pin p (List.mem_append_right _ (List.mem_cons_of_mem _ hp))
    obtain ⟨t2, ho3⟩ := exo_at J3.hok ea1
    have hus : us.length ≤ sizeLine := by
      rw [← Paired.length rv, sizeLine_eq]; omega
    have hC3 := J3.kIn _ _ hC
    obtain ⟨h3, g3, d3, tk3, os3⟩ := s3
    refine wpAny_call (codeAny_of_tree ?_)
    show wpAny _ X.A.in1 (callAny (.ref h'.objs.size) ⟨us, []⟩) _ _ _
    simp only [callAny]
    refine wpAny_bind (wpAny_load hu3 ?_)
    simp only [PySem.W.kxs_mw, show (Value.type "method-wrapper" == Value.type "method" || Value.type "method-wrapper" == Value.type "builtin_function_or_method" || Value.type "method-wrapper" == Value.type "method-wrapper") = true by decide, if_true]
    refine PySem.W.KFB.if_so (by decide) ?_
    refine wpAny_bind (PySem.W.check_bound_init F.excBase_ValueError.toExcCallFacts hC3 ho3 rfl ?_)
    refine wpAny_bind (wpAny_pure (wpAny_pure ?_))
    refine ⟨plainId_quiet F.excBase_ValueError.init.plain _, codeAny_builtin F.excBase_ValueError.initEntry ?_⟩
    refine PySem.W.exc_init_tree (cls := .ref C) (t0 := t2) (dv := none) (c2 := .none) (c3 := .none) (b4 := .bool false) ho3 hus fun h4 k4 hx4 ht4 => ?_
    have J := J3.write (t' := tk3) (x := a) (e := a) (o := exo a C none) (h' := h4) (by rw [ea1]; exact True.intro) (.inl rfl) k4 ⟨_, hx4⟩ (exo_ok hx4)
    have eu : upd H1 a (exo a C none) = H1 := by
      funext b
      by_cases hb : b = a
      · rw [hb, upd_same, ea1]
      · rw [upd_ne hb]
    rw [eu] at J
    exact ⟨σ, H1, J, qn⟩
  rw [hst] at key ⊢
  refine PySem.W.kxs_callWith (i := "ValueError.__init__") (x := a) (by show (false || (backTo cpos (starEach es X.env)).any (·.1)) = false; rw [hpl]; rfl) ?_
  exact PySem.Calls.evalArgs_plain key
end
end My

set_option Elab.async false
set_option linter.all false
set_option maxRecDepth 100000
set_option maxHeartbeats 4000000
/-! ### own errors: made, raised, caught, asked -/
namespace My
open PySem L2 NdefX
/-- __init__ of an error with one field: what it promises -/
def spErr1 (C : Addr) (f : Str) (P : V → Prop) : Sp := fun vs H Q _ => ∃ (a : Addr) (v : V), vs = [.ref a, v] ∧ P v ∧ H a = some (exo a C none) ∧ ∀ dx, H dx = none → dx ≠ a → Q .non (upd (upd H dx (exd dx [(f, v)])) a (exo a C (some dx)))
/-- .. with two fields -/
def spErr2 (C : Addr) (f g : Str) (P : V → V → Prop) : Sp := fun vs H Q _ => ∃ (a : Addr) (v u : V), vs = [.ref a, v, u] ∧ P v u ∧ H a = some (exo a C none) ∧ ∀ dx, H dx = none → dx ≠ a → Q .non (upd (upd (upd H dx (exd dx [(f, v)])) a (exo a C (some dx))) dx (exd dx [(g, u), (f, v)]))
theorem err_kp {H1 H2 : Hp} {a dx : Addr} {fs : List (Str × V)} (na : H1 a = none) (nd : H1 dx = none) (k : ∀ b, b ≠ a → b ≠ dx → H2 b = H1 b) : Kp [] H1 (upd (del H2 a) dx (.xd fs)) := fun b o _ e => by
  have h1 : b ≠ a := ne_of_none e na
  have h2 : b ≠ dx := ne_of_none e nd
  rw [upd_ne h2, del_ne h1, k b h1 h2]
  exact e
theorem err1_made {C : Addr} {f : Str} {P : V → Prop} {v : V} {H1 : Hp} {Q : XK} (hp : P v) (q : ∀ d H', H1 d = none → H' d = some (.xd [(f, v)]) → Kp [] H1 H' → Q (.ref C) (some d) H') :
    ([v] : List V).length ≤ 1000 ∧ ∀ a, H1 a = none → spErr1 C f P (.ref a :: ([v] ++ [])) (upd H1 a (exo a C none)) (fun v H2 => v = .non ∧ ∃ (d : Addr) (fs : List (Str × V)), H2 a = some (exo a C (some d)) ∧ H2 d = some (exd d fs) ∧ H1 d = none ∧ Q (.ref C) (some d) (upd (del H2 a) d (.xd fs))) (fun _ _ _ => False) := by
  refine ⟨by show 1 ≤ 1000; decide, fun a na => ⟨a, v, rfl, hp, upd_same, fun dx ndx hne => ?_⟩⟩
  rw [upd_ne hne] at ndx
  refine ⟨rfl, dx, _, upd_same, by rw [upd_ne hne]; exact upd_same, ndx, q dx _ ndx upd_same (err_kp na ndx fun b h1 h2 => ?_)⟩
  rw [upd_ne h1, upd_ne h2, upd_ne h1]
theorem err2_made {C : Addr} {f g : Str} {P : V → V → Prop} {v u : V} {H1 : Hp} {Q : XK} (hp : P v u) (q : ∀ d H', H1 d = none → H' d = some (.xd [(g, u), (f, v)]) → Kp [] H1 H' → Q (.ref C) (some d) H') :
    ([v, u] : List V).length ≤ 1000 ∧ ∀ a, H1 a = none → spErr2 C f g P (.ref a :: ([v, u] ++ [])) (upd H1 a (exo a C none)) (fun v H2 => v = .non ∧ ∃ (d : Addr) (fs : List (Str × V)), H2 a = some (exo a C (some d)) ∧ H2 d = some (exd d fs) ∧ H1 d = none ∧ Q (.ref C) (some d) (upd (del H2 a) d (.xd fs))) (fun _ _ _ => False) := by
  refine ⟨by show 2 ≤ 1000; decide, fun a na => ⟨a, v, u, rfl, hp, upd_same, fun dx ndx hne => ?_⟩⟩
  rw [upd_ne hne] at ndx
  refine ⟨rfl, dx, _, by rw [upd_ne hne.symm]; exact upd_same, upd_same, ndx, q dx _ ndx upd_same (err_kp na ndx fun b h1 h2 => ?_)⟩
  rw [upd_ne h2, upd_ne h1, upd_ne h2, upd_ne h1]
/-- what the written part says of an error class that is caught and asked -/
structure KitC (K : PySem.W.Frag) (C : Addr) : Prop where
  cl : (PySem.W.clsIn K C).isSome = true
  ga : PySem.W.findIn K (.ref C) "__getattribute__" = some (some (.builtin "BaseException.__getattribute__"))
  gg : PySem.W.findIn K (.ref C) "__getattr__" = some none
  bx : PySem.W.subIn K (.ref C) (.type "BaseException") = some true
  hc : PySem.W.findIn K (.ref C) "__class__" = some (some (.builtin "object.__class__"))
  hn : PySem.W.specialIn K (.builtin "object.__class__") "__get__" = some (some (.builtin "getset_descriptor.__get__"))
  ht : PySem.W.takesIn K (.builtin "object.__class__") = some true
  ob : PySem.W.mroIn K C (.type "object") = some true
/-- isinstance(e, c), e the error that the suite holds -/
def rIsX (K : PySem.W.Frag) (a : Addr) (cls : Value) (d : Option Addr) : List V → Hp → VK → Prop := fun xs H Q => ∃ (c : V) (cv : Value) (b : Bool) (D dd : Addr) (fs : List (Str × V)), xs = [.ref a, c] ∧ (∀ u, RelV c u → u = cv) ∧ cls = .ref D ∧ d = some dd ∧ H dd = some (.xd fs) ∧ KitC K D ∧ PySem.W.kitOne K (.ref D) cv = some b ∧ Q (.bl b) H
/-- .. a tuple of classes that was just laid -/
def rIsXT (K : PySem.W.Frag) (a : Addr) (cls : Value) (d : Option Addr) : List V → Hp → VK → Prop := fun xs H Q => ∃ (tp : Addr) (cs : List V) (us : List Value) (b : Bool) (D dd : Addr) (fs : List (Str × V)), xs = [.ref a, .ref tp] ∧ H tp = some (.tup cs) ∧ Paired ClsV cs us ∧ cls = .ref D ∧ d = some dd ∧ H dd = some (.xd fs) ∧ KitC K D ∧ PySem.W.kitAny K (.ref D) us = some b ∧ Q (.bl b) H
section
variable {X : Cx} {a : Addr} {oe : Obj} {cls : Value} {d : Option Addr} {pn : List (Addr × Obj)}
theorem inst_x {pins : List (Addr × Obj)} {s : Shared} {σ : L2.St} {H : Hp} {D dd : Addr} {fs : List (Str × V)} (I : Inv (X.suite a ((a, oe) :: pn)) pins σ H s) (hz : Zc (.ref D) (some dd) oe) (hf : ∃ vs, oe.data = .fields vs) (e : H dd = some (.xd fs)) : ∃ od, PySem.W.InstAt s.heap a oe D (some od) := by
  obtain ⟨ha, _⟩ := I.pin (a, oe) (List.mem_append_left _ List.mem_cons_self)
  obtain ⟨vs, hv⟩ := hf
  obtain ⟨mA, hns, _⟩ := (show ObjOk X.prog X.w H s.heap dd (.xd fs) from I.hok dd _ e)
  obtain ⟨od, ho, _⟩ := lookIn_ns hns
  exact ⟨od, ha, hz.1, by unfold PySem.W.notCls; rw [hv] <;> rfl, by rw [hz.2]; exact ho⟩
theorem call_isX (hz : Zc cls d oe) (hf : ∃ vs, oe.data = .fields vs) : CallR (X.suite a ((a, oe) :: pn)) (.builtin "isinstance") (rIsX X.K a cls d) := by
  intro pins s σ H xs us Q I r h
  obtain ⟨c, cv, b, D, dd, fs, rfl, hcv, rfl, rfl, ed, T, e, q⟩ := h
  obtain ⟨u1, u2, rfl, r1, r2⟩ := vals2 r
  cases (show u1 = Value.ref a from r1)
  cases hcv _ r2
  obtain ⟨od, J⟩ := inst_x I hz hf ed
  exact PySem.W.kia_one (PySem.W.kitx_exc T.cl T.ga T.gg T.bx T.hc T.hn T.ht T.ob) I.kIn J e (fun z => nomatch z) fun tk => ⟨.bl b, H, I.tok tk, rfl, q⟩
theorem call_isXT (hz : Zc cls d oe) (hf : ∃ vs, oe.data = .fields vs) : CallR (X.suite a ((a, oe) :: pn)) (.builtin "isinstance") (rIsXT X.K a cls d) := by
  intro pins s σ H xs us Q I r h
  obtain ⟨tp, cs, ws, b, D, dd, fs, rfl, hT, k, rfl, rfl, ed, T, e, q⟩ := h
  obtain ⟨u1, u2, rfl, r1, r2⟩ := vals2 r
  cases (show u1 = Value.ref a from r1)
  cases (show u2 = Value.ref tp from r2)
  obtain ⟨od, J⟩ := inst_x I hz hf ed
  obtain ⟨_, its, rv, o, h1, h2, n, h3⟩ := (show ObjOk X.prog X.w H s.heap tp (.tup cs) from I.hok tp _ hT)
  cases ClsV.all k rv
  obtain ⟨oc, od2, dt, sl⟩ := o
  simp only at h2 h3
  subst h2 h3
  exact PySem.W.kia_tup (PySem.W.kitx_exc T.cl T.ga T.gg T.bx T.hc T.hn T.ht T.ob) I.kIn J h1 e (fun z => nomatch z) fun tk => ⟨.bl b, H, I.tok tk, rfl, q⟩
end
end My

set_option Elab.async false
set_option linter.all false
set_option maxRecDepth 100000
set_option maxHeartbeats 4000000
/-! ### try with several clauses that bind the error -/
namespace My
open PySem PySem.Spec PyProof.Rows L2
/-- one clause: the class that it names, the slot of its name, its suite's reading -/
structure Cla where
  c : Value
  i : Nat
  ts : Addr → Value → Option Addr → TS
/-- behind a suite the name in slot i is gone -/
def Ends.off (i : Nat) (D : L2.Ends) : L2.Ends where
  nx σ H := D.nx (σ.set i none) H
  rt := D.rt
  bk σ H := D.bk (σ.set i none) H
  ct σ H := D.ct (σ.set i none) H
/-- what clauses, tried in turn, wish -/
def wClas (K : PySem.W.Frag) (W0 : WX) (D : L2.Ends) : List Cla → WX
  | [] => W0
  | k :: ks => fun cls d σ H => ∃ hit, PySem.W.exmOne K cls k.c = some hit ∧ (hit = true → ∀ a, H a = none → k.ts a cls d (Ends.off k.i D) (σ.set k.i (some (.ref a))) H) ∧ (hit = false → wClas K W0 D ks cls d σ H)
/-- the clauses as they are written -/
inductive Clauses (X : Cx) : List ExceptHandler → List Cla → Prop
  | nil : Clauses X [] []
  | cons {k : Cla} {ks : List Cla} {x n : Str} {b1 : Stmt} {bs : List Stmt} {p1 p2 : Pos} {hs : List ExceptHandler} (nm : Names X x k.c) (at_ : X.N[k.i]? = some n) (lo : X.env.kindOf n = some .local)
      (suite : ∀ (a : Addr) (oe : Obj) (cls : Value) (d : Option Addr) (pn : List (Addr × Obj)), Zc cls d oe → (∃ vs, oe.data = .fields vs) → PSs (X.suite a ((a, oe) :: pn)) (b1 :: bs) (k.ts a cls d)) (more : Clauses X hs ks) :
      Clauses X (.ExceptHandler (some (.Name x p1)) (some n) (b1 :: bs) p2 :: hs) (k :: ks)
section
variable {X : Cx} {pins : List (Addr × Obj)} {σ : L2.St} {H : Hp} {s0 sI : Shared} {h3 B : Heap} {a : Addr} {cls : Value} {d : Option Addr} {D : L2.Ends} {W0 : WX}
/-- the clauses are tried, the error being at a -/
theorem clauses_run (top : X.stack = X.env :: X.outer) (fr : X.env.frame = some X.env.locals) (nd : X.N.Nodup) (tk : Takes X W0) (J : Inv X pins σ H sI) (na : H a = none)
    (J' : ∀ h4, HandSPX.FlyingZ B (X.env :: X.outer) a (Zc cls d) h4 → h3.UpToSlots h4 → Inv X pins σ H { s0 with heap := h4 })
    (out : W0 cls d σ H → ∀ (h4 : Heap), HandSPX.HeldZ B (X.env :: X.outer) a (Zc cls d) X.env.locals h4 → h3.UpToSlots h4 → X.xe (.ref a) { s0 with heap := h4 })
    (fl : HandSPX.FlyingZ B (X.env :: X.outer) a (Zc cls d) h3) : ∀ {hs : List ExceptHandler} {ks : List Cla}, Clauses X hs ks → wClas X.K W0 D ks cls d σ H →
      wpAny (model X.prog X.w) X.A (handleBy (.ref a) X.env hs) (SP X pins D) X.xe { s0 with heap := h3 } := by
  have ok := J.ok
  have J3 := J' h3 fl (Heap.UpToSlots.refl _)
  have far : ∀ {h : Heap} {o : Obj} {vs : Array Value}, h.FunFrames B (X.env :: X.outer) → h.get? a = some o → o.data = .fields vs → a ∉ frs (X.env :: X.outer) := by
    intro h o vs ff e dd hm
    obtain ⟨_, o', e', other⟩ := ff.mem hm
    cases e.symm.trans e'
    exact other _ dd
  obtain ⟨oe, vs, he, hz, hd⟩ := fl.there
  have away := far fl.2.2.1 he hd
  have nL : a ≠ X.env.locals := by
    intro z
    exact away (List.mem_filterMap.mpr ⟨X.env, List.mem_cons_self, by rw [fr, z]⟩)
  have nF : a ∉ X.fs := by
    intro hm
    obtain ⟨e, me, q⟩ := List.mem_filterMap.mp hm
    exact away (List.mem_filterMap.mpr ⟨e, List.mem_cons_of_mem _ me, q⟩)
  have S3 := J3.suite he hd na nL nF
  intro hs ks C
  induction C with
  | nil =>
    intro q
    refine wpAny_handleBy_nil ?_
    obtain ⟨_, _, _, o1, v1, T1, _, _, e1, _, d1, f1, _⟩ := id fl
    unfold PySem.passOn
    refine wpAny_bind (wpAny_field e1 d1 f1 ?_)
    rw [if_neg (show ¬ ((Value.ref T1 == Value.none) = true) by simp)]
    have leave : wpAny (model X.prog X.w) X.A (setFlight (.ref a) X.env.frame) (fun _ s4 => wpAny (model X.prog X.w) X.A (throw (.ref a) : Sem Flow) (SP X pins D) X.xe s4) X.xe { s0 with heap := h3 } := by
      rw [fr]
      exact HandSPX.setFlight_upZ fl fun h4 held up => wpAny_throw (out q h4 held up)
    first | exact wpAny_bind (wpAny_pure (wpAny_bind leave)) | exact wpAny_bind leave
  | @cons k ks x n b1 bs p1 p2 hs nm at_ lo suite more ih =>
    rintro ⟨hit, e1, yes, no⟩
    refine wpAny_handleBy_cons (codeAny_handlers_test ?_) (by intro q; cases q)
    have looks : PySem.W.Looks (model X.prog X.w) h3 (typeOf (.ref a)) cls := by
      intro A Q E s kk q
      exact wpAny_typeOf_ref (kk _ _ he) (by rw [hz.1]; exact q)
    have named : ∀ {Q : Value → Shared → Prop} {E : Value → Shared → Prop}, Q k.c { s0 with heap := h3 } → wpAny (model X.prog X.w) (X.A.mark (some (.ref a))) (eval (.Name x p1) X.env) Q E { s0 with heap := h3 } := by
      intro Q E q
      obtain ⟨g1, g2, m1 | ⟨m1, m2, m3⟩⟩ := nm
      · exact ld_glob (X := X.suite a ((a, oe) :: (X.pn ++ pins))) S3 g1 m1 q g2
      · exact ld_blt (X := X.suite a ((a, oe) :: (X.pn ++ pins))) S3 g1 m1 m2 q m3 g2
    refine named ((PySem.W.exm_one (M := model X.prog X.w) J3.kIn looks e1).here ?_)
    cases hit with
    | false => exact (show wpAny _ X.A (handleBy (.ref a) X.env hs) _ _ _ from ih (no rfl))
    | true =>
      refine codeAny_handlers_suite_as (HandSPX.lands_againZ fl fun h4 fl4 up4 => ?_)
      have J4 := J' h4 fl4 up4
      obtain ⟨o4, v4, e4, z4, d4⟩ := fl4.there
      refine store_ok (X := X.suite a ((a, o4) :: (X.pn ++ pins))) (v := .ref a) (J4.suite e4 d4 na nL nF) nd at_ (.inl lo) rfl (fun s5 S5 => ?_) (.inr lo)
      refine wpAny_mono ((suite a o4 cls d (X.pn ++ pins) z4 ⟨_, d4⟩).run [] s5 _ H _ S5 (yes rfl a na)) ?_ fun _ _ z => z.elim
      rintro fl' s6 hsp
      have close : ∀ {τ : L2.St} {G : Hp} {Q : Shared → Prop}, Inv (X.suite a ((a, o4) :: (X.pn ++ pins))) [] τ G s6 → (∀ s7, Inv X pins (τ.set k.i none) G s7 → Q s7) →
          wpAny (model X.prog X.w) X.A (do bindName X.env n .none; unbindBehindTheSuite X.env n p2) (fun _ s7 => Q s7) X.xe s6 := fun S6 hq => gone_ok (S6.unsuite ok) nd at_ lo hq
      cases fl' with
      | ret u =>
        obtain ⟨v, τ, G, S6, r, q⟩ := hsp
        exact close S6 fun s7 J7 => ⟨_, _, _, J7, r, q⟩
      | _ =>
        obtain ⟨τ, G, S6, q⟩ := hsp
        exact close S6 fun s7 J7 => ⟨_, _, J7, q⟩
end
section
variable {X : Cx} {body : List Stmt} {h1 : ExceptHandler} {hs : List ExceptHandler} {ks : List Cla} {pos : Pos} {tb : WX → TS} {W0 : WX}
theorem ps_try_clauses (top : X.stack = X.env :: X.outer) (fr : X.env.frame = some X.env.locals) (nd : X.N.Nodup) (C : Clauses X (h1 :: hs) ks) (tk : Takes X W0)
    (hb : ∀ (W : WX) (pn : List (Addr × Obj)) (xe : Value → Shared → Prop), Takes (X.tr pn xe) W → PassesOwn (model X.prog X.w) X.A X.env xe → PSs (X.tr pn xe) body (tb W)) :
    PS X (.Try body (h1 :: hs) [] [] pos) (fun D σ H => tb (wClas X.K W0 D ks) D σ H) := by
  refine ⟨fun pins s σ H D I q0 => ?_⟩
  have ok := I.ok
  have frames : X.A.frames = some (X.env :: X.outer) := ok.frames.trans (by rw [top])
  let xe1 : Value → Shared → Prop := fun e s1 => wpAny (model X.prog X.w) X.A (noteFrame e X.env) (fun _ s2 => wpAny (model X.prog X.w) X.A (setFlight e none) (fun _ s3 => wpAny (model X.prog X.w) X.A (handleBy e X.env (h1 :: hs)) (SP X pins D) X.xe s3) X.xe s2) X.xe s1
  have takes : Takes (X.tr (X.pn ++ pins) xe1) (wClas X.K W0 D ks) := by
    rintro u s' ⟨a, B, sI, pins', σ', H', cls, d, rfl, J', nb, up, sky, na, os, ag, w⟩
    have J : Inv X pins σ' H' sI := J'.ofTry ok
    have sky' : Sky B (X.env :: X.outer) a (Zc cls d) X.env.locals s'.heap := by rw [← top]; exact sky
    refine Sky.land Zc.steady frames fr sky' fun h3 fl3 up3 => ?_
    refine clauses_run top fr nd tk J na (fun h4 fl4 up4 => J.landed nb fl4.1 ((up.trans up3).trans up4) os ag) (fun w0 h4 held up4 => ?_) fl3 C w
    exact tk _ _ ⟨a, B, sI, pins, σ', H', cls, d, rfl, J, nb, (up.trans up3).trans up4, .inr (.inr (by rw [top]; exact held)), na, os, ag, w0⟩
  refine wpAny_Try_except (wpAny_mono ((hb _ (X.pn ++ pins) xe1 takes PassesOwn.looking).run [] s σ H D (I.toTry _) q0) ?_ fun e s1 he => he)
  rintro f s1 hsp
  cases f with
  | next =>
    obtain ⟨τ, G, J, q⟩ := hsp
    exact wpAny_execs_nil ⟨τ, G, J.ofTry ok, q⟩
  | ret u =>
    obtain ⟨v, τ, G, J, r, q⟩ := hsp
    exact ⟨v, τ, G, J.ofTry ok, r, q⟩
  | _ =>
    obtain ⟨τ, G, J, q⟩ := hsp
    exact ⟨τ, G, J.ofTry ok, q⟩
end
section
variable {X : Cx} {body : List Stmt} {pos : Pos} {tb : WX → TS} {W0 : WX} {x1 n1 x2 n2 x3 n3 : Str} {c1 c2 c3 : Value} {i1 i2 i3 : Nat} {b1 b2 b3 : Stmt} {r1 r2 r3 : List Stmt} {p1 p2 p3 q1 q2 q3 : Pos} {t1 t2 t3 : Addr → Value → Option Addr → TS}
theorem ps_try_as2 (top : X.stack = X.env :: X.outer) (fr : X.env.frame = some X.env.locals) (nd : X.N.Nodup) (a1 : X.N[i1]? = some n1) (a2 : X.N[i2]? = some n2) (l1 : X.env.kindOf n1 = some .local) (l2 : X.env.kindOf n2 = some .local) (m1 : Names X x1 c1) (m2 : Names X x2 c2) (tk : Takes X W0)
    (hb : ∀ (W : WX) (pn : List (Addr × Obj)) (xe : Value → Shared → Prop), Takes (X.tr pn xe) W → PassesOwn (model X.prog X.w) X.A X.env xe → PSs (X.tr pn xe) body (tb W))
    (s1 : ∀ (a : Addr) (oe : Obj) (cls : Value) (d : Option Addr) (pn : List (Addr × Obj)), Zc cls d oe → (∃ vs, oe.data = .fields vs) → PSs (X.suite a ((a, oe) :: pn)) (b1 :: r1) (t1 a cls d))
    (s2 : ∀ (a : Addr) (oe : Obj) (cls : Value) (d : Option Addr) (pn : List (Addr × Obj)), Zc cls d oe → (∃ vs, oe.data = .fields vs) → PSs (X.suite a ((a, oe) :: pn)) (b2 :: r2) (t2 a cls d)) :
    PS X (.Try body [.ExceptHandler (some (.Name x1 p1)) (some n1) (b1 :: r1) q1, .ExceptHandler (some (.Name x2 p2)) (some n2) (b2 :: r2) q2] [] [] pos) (fun D σ H => tb (wClas X.K W0 D [⟨c1, i1, t1⟩, ⟨c2, i2, t2⟩]) D σ H) :=
  ps_try_clauses top fr nd (.cons m1 a1 l1 s1 (.cons m2 a2 l2 s2 .nil)) tk hb
theorem ps_try_as3 (top : X.stack = X.env :: X.outer) (fr : X.env.frame = some X.env.locals) (nd : X.N.Nodup) (a1 : X.N[i1]? = some n1) (a2 : X.N[i2]? = some n2) (a3 : X.N[i3]? = some n3) (l1 : X.env.kindOf n1 = some .local) (l2 : X.env.kindOf n2 = some .local) (l3 : X.env.kindOf n3 = some .local)
    (m1 : Names X x1 c1) (m2 : Names X x2 c2) (m3 : Names X x3 c3) (tk : Takes X W0)
    (hb : ∀ (W : WX) (pn : List (Addr × Obj)) (xe : Value → Shared → Prop), Takes (X.tr pn xe) W → PassesOwn (model X.prog X.w) X.A X.env xe → PSs (X.tr pn xe) body (tb W))
    (s1 : ∀ (a : Addr) (oe : Obj) (cls : Value) (d : Option Addr) (pn : List (Addr × Obj)), Zc cls d oe → (∃ vs, oe.data = .fields vs) → PSs (X.suite a ((a, oe) :: pn)) (b1 :: r1) (t1 a cls d))
    (s2 : ∀ (a : Addr) (oe : Obj) (cls : Value) (d : Option Addr) (pn : List (Addr × Obj)), Zc cls d oe → (∃ vs, oe.data = .fields vs) → PSs (X.suite a ((a, oe) :: pn)) (b2 :: r2) (t2 a cls d))
    (s3 : ∀ (a : Addr) (oe : Obj) (cls : Value) (d : Option Addr) (pn : List (Addr × Obj)), Zc cls d oe → (∃ vs, oe.data = .fields vs) → PSs (X.suite a ((a, oe) :: pn)) (b3 :: r3) (t3 a cls d)) :
    PS X (.Try body [.ExceptHandler (some (.Name x1 p1)) (some n1) (b1 :: r1) q1, .ExceptHandler (some (.Name x2 p2)) (some n2) (b2 :: r2) q2, .ExceptHandler (some (.Name x3 p3)) (some n3) (b3 :: r3) q3] [] [] pos) (fun D σ H => tb (wClas X.K W0 D [⟨c1, i1, t1⟩, ⟨c2, i2, t2⟩, ⟨c3, i3, t3⟩]) D σ H) :=
  ps_try_clauses top fr nd (.cons m1 a1 l1 s1 (.cons m2 a2 l2 s2 (.cons m3 a3 l3 s3 .nil))) tk hb
end
end My

set_option Elab.async false
set_option linter.all false
set_option maxRecDepth 100000
set_option maxHeartbeats 4000000
/-! ### d.values() as a value, list(d.values()) -/
namespace My
open PySem L2 PySem.W
/-- at q: the view of the values of the dict at d -/
def viewO (q d : Addr) : HO := .ext fun h => h.get? q = some ({ cls := .type "dict_values", data := .fields #[.ref d] } : Obj)
theorem view_ok {P : Program} {w : World} {H : Hp} {h : Heap} {q d : Addr} (e : h.get? q = some ({ cls := .type "dict_values", data := .fields #[.ref d] } : Obj)) : ObjOk P w H h q (viewO q d) := ⟨e, ⟨_, e⟩, fun _ _ z k => k _ z⟩
theorem view_at {P : Program} {w : World} {H : Hp} {h : Heap} {q d : Addr} (ok : HOk P w H h) (e : H q = some (viewO q d)) : h.get? q = some ({ cls := .type "dict_values", data := .fields #[.ref d] } : Obj) := by
  have x : ObjOk P w H h q (.ext fun h => h.get? q = some ({ cls := .type "dict_values", data := .fields #[.ref d] } : Obj)) := ok q _ e
  exact x.1
def tVals (td : TE) : TE := fun σ H Q => td σ H fun x H1 => ∃ (a : Addr) (kvs : List (Key × V)), x = .ref a ∧ H1 a = some (.dK kvs) ∧ ∀ q, H1 q = none → Q (.ref q) (upd H1 q (viewO q a))
def rListV : List V → Hp → VK → Prop := fun xs H Q => ∃ (q a : Addr) (kvs : List (Key × V)), xs = [.ref q] ∧ H q = some (viewO q a) ∧ H a = some (.dK kvs) ∧ ∀ p, H p = none → Q (.ref p) (upd H p (.lst (kvs.map fun kv => kv.2)))
theorem vals_of : ∀ {kvs : List (Key × V)} {vs : List (Key × Value)} {us : List Value}, KV kvs vs → us.length = vs.length → (∀ (j : Nat) (v : Value), us[j]? = some v → ∃ k, vs[j]? = some (k, v)) → Vals (kvs.map fun kv => kv.2) us
  | [], [], [], _, _, _ => .nil
  | p :: r, q :: vs, u :: us, h, hl, e => by
    cases h with
    | cons h1 h2 =>
      obtain ⟨k, e1⟩ := e 0 u rfl
      have e1' : q = (k, u) := Option.some.inj e1
      subst e1'
      exact .cons h1.2 (vals_of h2 (by simpa using hl) fun j v z => e (j + 1) v z)
  | [], _ :: _, _, h, _, _ => by cases h
  | _ :: _, [], _, h, _, _ => by cases h
  | [], [], _ :: _, _, hl, _ => by cases hl
  | _ :: _, _ :: _, [], _, hl, _ => by cases hl
section
variable {X : Cx} {o : Expr} {td : TE} {apos cpos : Pos}
theorem pe_values (he : PE X o td) (hbase : attributeBase o "values" X.env (eval o X.env) = eval o X.env := by rfl) (hline : (apos.endLine == cpos.line) = true := by rfl) : PE X (.Call (.Attribute o "values" apos) [] [] cpos) (tVals td) := by
  refine ⟨fun pins s σ H Q I h => ?_⟩
  refine wpAny_Call_method (T := "dict") (id := "dict.values") hbase rfl hline F.plainAttrs_dict F.slot_dict_values F.type_dict_values (thn (he.run pins s σ H _ I h) fun u s1 ⟨x, H1, I1, rx, d, kvs, ex, hd, q⟩ => ?_)
  subst ex
  cases (show u = Value.ref d from rx)
  obtain ⟨_, hs, vs, rel, dof⟩ := dk_of I1.hok hd
  refine ⟨dof.typeIs, dof.mapOf.noDict, ?_⟩
  have got := Heap.get?_push_size s1.heap (o := ({ cls := .type "dict_values", data := .fields #[.ref d] } : Obj)) rfl
  have J : Inv X pins σ (upd H1 s1.heap.objs.size (viewO s1.heap.objs.size d)) { s1 with heap := s1.heap.push { cls := .type "dict_values", data := .fields #[.ref d] } } := I1.laid (t' := s1.toks) (fun b ob q => Heap.get?_push_of_some _ q) (Nat.le_refl _) (view_ok got)
  exact method_meetsIn F.slot_dict_values F.entry_dict_values rfl (PySem.evalArgs_none ⟨rfl, dof.typeIs, F.args_dict_values_1 _, _, meets_dict_values (mixKind X.prog X.w) d hs, ⟨vs, dof⟩, ⟨.ref s1.heap.objs.size, _, J, rfl, q _ (I1.hok.fresh (Nat.le_refl _))⟩⟩)
theorem call_listV (hcalm : X.calm = true) : CallR X (.type "list") rListV := by
  intro pins s σ H xs us Q I r h
  obtain ⟨v, a, kvs, rfl, hv, ha, q⟩ := h
  obtain ⟨u, rfl, rx⟩ := vals1 r
  cases (show u = Value.ref v from rx)
  obtain ⟨z, hs, vs, rel, dof⟩ := dk_of I.hok ha
  obtain ⟨es, ep, raw, sz, each⟩ := dof.raw
  have hl := KV.length rel
  refine PySem.W.kdl_call (KdlSrc.rawValues (r := v) (d := a) (es := es) (ep := ep)) (I.ok.hd hcalm) ⟨⟨_, view_at I.hok hv, rfl, rfl⟩, raw⟩ (by omega) fun h' tk acc c' hk hD hacc => ?_
  have av : Vals (kvs.map fun kv => kv.2) acc.toList := vals_of rel (by rw [Array.length_toList, hacc.1, sz]) fun j u ej => by
    rw [Array.getElem?_toList] at ej
    obtain ⟨hi, rfl⟩ := hacc.2 j u ej
    have hj : j < vs.length := by omega
    have e1 : vs[j]? = some (vs[j].1, vs[j].2) := List.getElem?_eq_getElem hj
    have e2 := (each j hi _ _ e1).2
    exact ⟨vs[j].1, by rw [e1, e2]⟩
  refine ⟨.ref s.heap.objs.size, upd H s.heap.objs.size (.lst (kvs.map fun kv => kv.2)), I.laid (t' := tk) hk (Nat.le_refl _) ?_, rfl, q _ (I.hok.fresh (Nat.le_refl _))⟩
  exact (show ObjOk X.prog X.w _ _ _ (.lst _) from ⟨by rw [List.length_map]; exact z, acc.toList, c', av, by rw [Array.toArray_toList]; exact hD⟩)
end
end My

set_option Elab.async false
set_option linter.all false
set_option maxRecDepth 100000
/-! ### raised out of a walk of a dict: behind it the dict stands as before -/
namespace My
open PySem L2
/-- the same wish, asked where the walked dict is free again -/
def WLock (X : Cx) (W : WX) : WX := fun cls dx σ H => ∃ (d : Addr) (u : HO) (od : Obj), H d = some (.frz od u) ∧ (∀ o v, X.H_0 d ≠ some (.frz o v)) ∧ W cls dx σ (upd H d u)
theorem takes_lock {X : Cx} {W : WX} (tk : Takes X W) : Takes X (WLock X W) := by
  rintro e s' ⟨a, B, sI, pins, σ, H, cls, dx, rfl, I, nb, up, sky, na, os, ag, d, u, od, hd, nf, w⟩
  have ad : a ≠ d := fun z => by rw [z, hd] at na; cases na
  exact tk _ _ ⟨a, B, sI, pins, σ, upd H d u, cls, dx, rfl, I.unlock hd nf, nb, up, sky, by rw [upd_ne ad]; exact na, os, ag, w⟩
end My

set_option Elab.async false
set_option linter.all false
set_option maxRecDepth 100000
set_option maxHeartbeats 4000000
/-! ### a dict comprehension over any walk -/
namespace My
open PySem L2
theorem dc_it {J : It} {n : Nat} {G : Hp → Prop} {Y : Nat → Hp → V → Hp → Prop} (wk : Walk J n G Y) {g : TG} {tt : TT} {tk tv : TE} {vs : List Nat} {σ : L2.St} {H1 : Hp} {D : Addr} {Qd : Hp → Prop} (Inv : Nat → Hp → Prop) (begins : Inv 0 (upd H1 D (.dK []))) (may : ∀ i H, i ≤ n → Inv i H → G H)
    (turn : ∀ i x H H', i < n → Inv i H → Y i H x H' → g x (wipe σ vs) H' fun σ2 H2 => wipe σ2 vs = wipe σ vs ∧ tt σ2 H2 fun b H3 =>
      if b = true then tk σ2 H3 fun y H4 => tv σ2 H4 fun z H5 => ∃ kvs k, y = kV k ∧ H5 D = some (.dK kvs) ∧ kvs.length < sizeLine ∧ Inv (i + 1) (upd H5 D (.dK (putK kvs k z))) else Inv (i + 1) H3) (ends : ∀ H, Inv n H → Qd H) :
    ∃ W : Nat → Nat → Hp → Prop, (∃ m, W 0 m (upd H1 D (.dK []))) ∧ ∀ i m H, W i m H →
      (J.stop i H ∧ Qd H) ∨ (J.go i H ∧ ∃ Nx : Hp → Prop, (∀ H', Nx H' → ∃ m', m' < m ∧ W (i + 1) m' H') ∧ ∀ x H', J.yld i H x H' → g x (wipe σ vs) H' fun σ2 H2 => wipe σ2 vs = wipe σ vs ∧ tt σ2 H2 fun b H3 =>
        if b = true then tk σ2 H3 fun y H4 => tv σ2 H4 fun z H5 => ∃ kvs k, y = kV k ∧ H5 D = some (.dK kvs) ∧ kvs.length < sizeLine ∧ Nx (upd H5 D (.dK (putK kvs k z))) else Nx H3) := by
  refine ⟨fun i m H => m + i = n ∧ Inv i H, ⟨n, rfl, begins⟩, fun i m H h => ?_⟩
  obtain ⟨e, p⟩ := h
  have ok := may i H (by omega) p
  rcases Nat.lt_or_ge i n with lt | ge
  · exact .inr ⟨wk.goes i H lt ok, Inv (i + 1), fun H' p' => ⟨m - 1, by omega, by omega, p'⟩, fun x H' y => turn i x H H' lt p (wk.yields i H x H' lt ok y)⟩
  · have z : i = n := by omega
    subst z
    exact .inl ⟨wk.stops H ok, ends H p⟩
end My

set_option Elab.async false
set_option linter.all false
set_option maxRecDepth 100000
set_option maxHeartbeats 4000000
/-! ### a list comprehension of two clauses -/
namespace My
open PySem L2
/-- the inner clause: it adds to the list at D; Nx behind it -/
def tLcIn (wi : TI) (g : TG) (tt : TT) (te : TE) (vs : List Nat) (D : Addr) (σ : L2.St) (H : Hp) (Nx : Hp → Prop) : Prop := wi σ H fun J H1 => ∃ W : Nat → Nat → Hp → Prop, (∃ m, W 0 m H1) ∧ ∀ i m H, W i m H →
  (J.stop i H ∧ Nx H) ∨ (J.go i H ∧ ∃ N2 : Hp → Prop, (∀ H', N2 H' → ∃ m', m' < m ∧ W (i + 1) m' H') ∧ ∀ x H', J.yld i H x H' → g x (wipe σ vs) H' fun σ2 H2 => wipe σ2 vs = wipe σ vs ∧ tt σ2 H2 fun b H3 =>
    if b = true then te σ2 H3 fun y H4 => ∃ acc, H4 D = some (.lst acc) ∧ acc.length < sizeLine ∧ N2 (upd H4 D (.lst (acc ++ [y]))) else N2 H3)
def tLc2 (wi1 : TI) (g1 : TG) (tt1 : TT) (wi2 : TI) (g2 : TG) (tt2 : TT) (te : TE) (vs vs2 : List Nat) : TE := fun σ H Q => wi1 σ H fun J H1 => ∀ D, H1 D = none → ∃ W : Nat → Nat → Hp → Prop, (∃ m, W 0 m (upd H1 D (.lst []))) ∧ ∀ i m H, W i m H →
  (J.stop i H ∧ Q (.ref D) H) ∨ (J.go i H ∧ ∃ Nx : Hp → Prop, (∀ H', Nx H' → ∃ m', m' < m ∧ W (i + 1) m' H') ∧ ∀ x H', J.yld i H x H' → g1 x (wipe σ vs) H' fun σ2 H2 => wipe σ2 vs = wipe σ vs ∧ tt1 σ2 H2 fun b H3 =>
    if b = true then tLcIn wi2 g2 tt2 te vs2 D σ2 H3 Nx else Nx H3)
section
variable {X : Cx} {elt t1 it1 t2 it2 : Expr} {ifs1 ifs2 : List Expr} {scope : Scope} {pos : Pos} {wi1 wi2 : TI} {g1 g2 : TG} {tt1 tt2 : TT} {te : TE} {vs vs2 : List Nat}
theorem lc2_in (hx : X.xe = fun _ _ => False) (hc : X.calm = true) (hi : PI X t2 it2 wi2) (pg : PG X t2 g2) (pt : PTs X ifs2 tt2) (pe : PE X elt te) {pins : List (Addr × Obj)} {s : Shared} {σ : L2.St} {H : Hp} {D : Addr} {Nx : Hp → Prop} (I : Inv X pins σ H s) (h : tLcIn wi2 g2 tt2 te vs2 D σ H Nx) :
    wpAny (model X.prog X.w) X.A (eval it2 X.env) (fun xv s1 => wpAny (model X.prog X.w) X.A (pyIter xv) (fun itv s2 => ∀ (R : Result → Shared → Prop), (∀ s' H', Inv X pins (wipe σ vs2) H' s' → Nx H' → R (.ok .next) s') →
      codeAny (model X.prog X.w) X.A (.compStart (.ListComp elt [⟨t1, it1, ifs1, 0⟩, ⟨t2, it2, ifs2, 0⟩] scope pos) 1 itv (.ref D) X.env) R s2) (fun _ _ => False) s1) (fun _ _ => False) s := by
  have key := hi.run pins s σ H _ I h
  rw [hx] at key
  refine wpAny_mono key (fun xv s1 h1 => wpAny_mono h1 (fun itv s2 h2 => ?_) fun _ _ z => z) fun _ _ z => z
  obtain ⟨it, fp, tn, J, H2, e, I2, T, st2, f2, W, ⟨m0, w0⟩, turn⟩ := h2
  subst e
  intro R fin
  have stat : ∀ {H' : Hp}, (∀ b ∈ fp, H' b = none) → ∀ b ∈ fp, FpOk X pins H' b := fun hn b hb => ⟨hn b hb, (f2 b hb).2⟩
  have I2w : Inv X pins (wipe σ vs2) H2 s2 := I2.weak (wipe_length ..) (fun j v e => (wipe_some e).1)
  have loop : codeAny (model X.prog X.w) X.A (.compLoop (.ListComp elt [⟨t1, it1, ifs1, 0⟩, ⟨t2, it2, ifs2, 0⟩] scope pos) 1 (.ref it) (.ref D) X.env) R s2 := by
    refine codeAny_loop rfl (fun n s' => ∃ i H', Inv X pins (wipe σ vs2) H' s' ∧ tn i s'.heap ∧ (∀ b ∈ fp, H' b = none) ∧ W i n H') ?_ m0 ⟨0, H2, I2w, st2, fun b hb => (f2 b hb).1, w0⟩
    rintro n s3 ⟨i, H3, I3, st3, fr3, w3⟩
    show wpAny _ X.A ((compTurn (.ListComp elt [⟨t1, it1, ifs1, 0⟩, ⟨t2, it2, ifs2, 0⟩] scope pos) 1 (.ref it) (.ref D) X.env).onRaise (fun x => do noteFrame x X.env; theTreesLotGoes x)) _ _ s3
    refine wpAny_noted ?_
    rw [compTurn_list2_in]
    refine wpAny_bind (wpAny_standAt ?_)
    rcases turn i n H3 w3 with ⟨stop, qn⟩ | ⟨go, N2, hN, step⟩
    · refine wpAny_bind (thnF (T.done X rfl rfl rfl hc i pins s3 _ H3 (fun _ _ => False) I3 (stat fr3) st3 stop) fun r s4 hr => ?_)
      obtain ⟨hr, I4⟩ := hr
      subst hr
      exact wpAny_pure (fin s4 H3 I4 qn)
    · refine wpAny_bind (thnF (T.item X rfl rfl rfl hc i pins s3 _ H3 (fun _ _ => False) I3 (stat fr3) st3 go) fun r s4 hr => ?_)
      obtain ⟨u, hr, h4⟩ := hr
      subst hr
      refine wpAny_bind (thnF h4 fun _ s5 h5 => ?_)
      obtain ⟨x, H5, I5, r5, y5, st5, fr5⟩ := h5
      have I5' := I5.pinned (stat fr5) (T.obj _ _ st5)
      have kg := pg.run _ s5 _ H5 x u _ I5' r5 (step x H5 y5)
      rw [hx] at kg
      refine wpAny_bind (thnF kg fun _ s6 h6 => ?_)
      obtain ⟨σ6, H6, I6, hw6, q6⟩ := h6
      have kt := pt.run _ s6 σ6 H6 _ I6 q6
      rw [hx] at kt
      refine wpAny_bind (thnF kt fun b s7 h7 => ?_)
      obtain ⟨H7, I7, q7⟩ := h7
      have again : ∀ {s' : Shared} {H' : Hp}, Inv X (pins ++ pinsAt fp s5.heap) σ6 H' s' → N2 H' → ∃ m, m < n ∧ ∃ i H', Inv X pins (wipe σ vs2) H' s' ∧ tn i s'.heap ∧ (∀ b ∈ fp, H' b = none) ∧ W i m H' := fun {s' H'} I' n7 => by
        obtain ⟨m', hm, w7⟩ := hN H' n7
        have hl : (wipe σ vs2).length = σ6.length := by rw [← hw6, wipe_length]
        refine ⟨m', hm, i + 1, H', (I'.unpinned (pins := pins)).weak hl (fun j v e => ?_), T.keep _ _ _ st5 fun b hb o e => (I'.pin (b, o) (List.mem_append_right _ (List.mem_append_right _ (mem_pinsAt hb e)))).1, fun b hb => ?_, w7⟩
        · rw [← hw6] at e
          exact (wipe_some e).1
        · obtain ⟨o, e, d⟩ := T.obj _ _ st5 b hb
          exact (I'.pin (b, o) (List.mem_append_right _ (List.mem_append_right _ (mem_pinsAt hb e)))).2.1
      cases b with
      | false =>
        simp only [Bool.false_eq_true, if_false] at q7 ⊢
        exact wpAny_pure ⟨rfl, again I7 q7⟩
      | true =>
        simp only [if_true] at q7 ⊢
        have ke := pe.run _ s7 σ6 H7 _ I7 q7
        rw [hx] at ke
        refine wpAny_bind (wpAny_bind (thnF ke fun z s8 h8 => ?_))
        obtain ⟨yv, H8, I8, r8, acc, hD8, hz8, nx⟩ := h8
        exact wpAny_bind (app_ok (X := X) I8 hD8 hz8 r8 fun s9 I9 => wpAny_pure (wpAny_pure ⟨rfl, again I9 nx⟩))
  exact compStart_list2_in loop (T.self X.A 0 _ _ _ st2 loop)
theorem lc2_core {own : List (Str × Nat)} (hc : X.calm = true) (hN : X.N.Nodup) (first : PI X t1 it1 wi1) (ok : BlkOk X.N X.env.scope scope own) (sub : ∀ j ∈ vs2, j ∈ own.map (·.2))
    (P1 : ∀ (s : Shared) (H : Hp) (C : Addr) (cl : List (Str × Addr)) (fp : List Addr), PG (X.blk s H scope (compEnvC scope cl C X.env) fp) t1 g1) (C1 : ∀ (s : Shared) (H : Hp) (C : Addr) (cl : List (Str × Addr)) (fp : List Addr), PTs (X.blk s H scope (compEnvC scope cl C X.env) fp) ifs1 tt1)
    (I2 : ∀ (s : Shared) (H : Hp) (C : Addr) (cl : List (Str × Addr)) (fp : List Addr), PI (X.blk s H scope (compEnvC scope cl C X.env) fp) t2 it2 wi2)
    (P2 : ∀ (s : Shared) (H : Hp) (C : Addr) (cl : List (Str × Addr)) (fp : List Addr), PG (X.blk s H scope (compEnvC scope cl C X.env) fp) t2 g2) (C2 : ∀ (s : Shared) (H : Hp) (C : Addr) (cl : List (Str × Addr)) (fp : List Addr), PTs (X.blk s H scope (compEnvC scope cl C X.env) fp) ifs2 tt2)
    (el : ∀ (s : Shared) (H : Hp) (C : Addr) (cl : List (Str × Addr)) (fp : List Addr), PE (X.blk s H scope (compEnvC scope cl C X.env) fp) elt te)
    (h1 : ∀ x, foldedSetIterable it1 X.env x = pure x ) (h2 : ∀ (C : Addr) (cl : List (Str × Addr)) x, foldedSetIterable it2 (compEnvC scope cl C X.env) x = pure x ) {pins : List (Addr × Obj)} {s : Shared} {σ : L2.St} {H : Hp} {Q : VK} {use : Option (Value → Sem Unit)} {Qf : Value → Shared → Prop} (I : Inv X pins σ H s) (rd : tLc2 wi1 g1 tt1 wi2 g2 tt2 te (own.map (·.2)) vs2 σ H Q)
    (behind : ∀ D C s' m H', Inv X pins σ H' s' → Q (.ref D) H' → s'.heap.Ns C m → FpOk X pins H' C → compPost (model X.prog X.w) X.A X.xe use Qf (.ref D) C (.ok .next) s') :
    wpAny (model X.prog X.w) X.A (comprehension (.ListComp elt [⟨t1, it1, ifs1, 0⟩, ⟨t2, it2, ifs2, 0⟩] scope pos) scope X.env (firstIterPos [⟨t1, it1, ifs1, 0⟩, ⟨t2, it2, ifs2, 0⟩] pos) (newList []) false (eval it1 X.env) use) Qf X.xe s := by
  have closed : ∀ y ∈ scope.names, y.2 = .free → ∃ c, X.env.cells.lookup y.1 = some c := fun y hy e =>
    (ok.free y hy e).elim (fun k => I.ok.has _ (.inl k)) (fun k => I.ok.has _ (.inr k))
  refine wpAny_comprehension_free (use := use) rfl h1 (closure_ok closed) ok.kind (fun y hy e => by rw [ok.uniq y hy, e]) (thn (first.run pins s σ H _ I rd) fun xv sA hA => thn hA fun itv sB hB => ?_)
  obtain ⟨it, fp, tn, J, HB, rfl, IB, T, stB, fB, q⟩ := hB
  refine wpAny_newObj_type (newEnv_comp ?_) (by show 0 ≤ sizeLine; decide)
  generalize hD : sB.heap.objs.size = D
  have noD : HB D = none := IB.hok.fresh (Nat.le_of_eq hD)
  obtain ⟨W, ⟨m0, w0⟩, turn⟩ := q D noD
  generalize hs3 : ({ sB with heap := sB.heap.push { cls := .type "list", data := .seq ([] : List Value).toArray } } : Shared) = s3
  have I3 : Inv X pins σ (upd HB D (.lst [])) s3 := by
    rw [← hs3]
    exact IB.laid (t' := sB.toks) (fun b o e => Heap.get?_push_of_some _ e) (Nat.le_of_eq hD) ⟨Nat.zero_le _, [], 0, .nil, by rw [← hD]; exact Heap.get?_push_size _ rfl⟩
  have h3 : s3.heap = sB.heap.push { cls := .type "list", data := .seq ([] : List Value).toArray } := by rw [← hs3]
  have f3 : ∀ b ∈ fp, FpOk X pins (upd HB D (.lst [])) b ∧ b < s3.heap.objs.size := fun b hb => by
    obtain ⟨o, e, _⟩ := T.obj _ _ stB b hb
    have lt : b < sB.heap.objs.size := Heap.lt_size e
    have ne : b ≠ D := by rw [← hD]; exact Nat.ne_of_lt lt
    exact ⟨⟨by rw [upd_ne ne]; exact (fB b hb).1, (fB b hb).2⟩, by rw [h3, Heap.size_push]; exact Nat.lt_succ_of_lt lt⟩
  have st3 : tn 0 s3.heap := T.keep _ _ _ stB fun b _ o e => by rw [h3]; exact Heap.get?_push_of_some _ e
  have I4 := block_start I3 ok hN f3
  have p1 := P1 s3 (upd HB D (.lst [])) s3.heap.objs.size (cellsFrom (s3.heap.objs.size + 1) scope.names (cloFrom X.env.cells scope.names [])) fp
  have c1 := C1 s3 (upd HB D (.lst [])) s3.heap.objs.size (cellsFrom (s3.heap.objs.size + 1) scope.names (cloFrom X.env.cells scope.names [])) fp
  have i2 := I2 s3 (upd HB D (.lst [])) s3.heap.objs.size (cellsFrom (s3.heap.objs.size + 1) scope.names (cloFrom X.env.cells scope.names [])) fp
  have p2 := P2 s3 (upd HB D (.lst [])) s3.heap.objs.size (cellsFrom (s3.heap.objs.size + 1) scope.names (cloFrom X.env.cells scope.names [])) fp
  have c2 := C2 s3 (upd HB D (.lst [])) s3.heap.objs.size (cellsFrom (s3.heap.objs.size + 1) scope.names (cloFrom X.env.cells scope.names [])) fp
  have e2 := el s3 (upd HB D (.lst [])) s3.heap.objs.size (cellsFrom (s3.heap.objs.size + 1) scope.names (cloFrom X.env.cells scope.names [])) fp
  have fold2 := h2 s3.heap.objs.size (cellsFrom (s3.heap.objs.size + 1) scope.names (cloFrom X.env.cells scope.names []))
  show codeAny _ _ (.compStart (.ListComp elt [⟨t1, it1, ifs1, 0⟩, ⟨t2, it2, ifs2, 0⟩] scope pos) 0 (.ref it) (.ref D) (compEnvC scope (cellsFrom (s3.heap.objs.size + 1) scope.names (cloFrom X.env.cells scope.names [])) s3.heap.objs.size X.env)) (compPost (model X.prog X.w) X.A X.xe use Qf (.ref D) s3.heap.objs.size) { s3 with heap := pushCells (s3.heap.push { cls := .type "dict", data := .dict #[] }) scope.names }
  have nfp : ∀ b ∈ fp, (upd HB D (.lst [])) b = none := fun b hb => (f3 b hb).1.1
  generalize hce : compEnvC scope (cellsFrom (s3.heap.objs.size + 1) scope.names (cloFrom X.env.cells scope.names [])) s3.heap.objs.size X.env = ce at I4 p1 c1 i2 p2 c2 e2 fold2 ⊢
  have cL : ce.locals = s3.heap.objs.size := by subst hce; rfl
  generalize hH3 : upd HB D (.lst []) = H3 at I3 I4 p1 c1 i2 p2 c2 e2 w0 nfp f3
  generalize hs4 : ({ s3 with heap := pushCells (s3.heap.push { cls := .type "dict", data := .dict #[] }) scope.names } : Shared) = s4 at I4 ⊢
  have st4 : tn 0 s4.heap := T.keep _ _ _ st3 fun b _ o e => by rw [← hs4]; exact pushCells_keeps _ _ _ _ (Heap.get?_push_of_some _ e)
  have stat : ∀ {σ' : L2.St} {H' : Hp} {s' : Shared}, Inv (X.blk s3 H3 scope ce fp) [] σ' H' s' → (∀ b ∈ fp, H' b = none) → ∀ b ∈ fp, FpOk (X.blk s3 H3 scope ce fp) [] H' b := fun {σ' H' s'} I' hn b hb =>
    ⟨hn b hb, (I'.ok.exf b hb).1, I'.ok.exfs b hb, .inl hb, fun x c e => (I'.ok.exf b hb).2 x c e, fun p hp => absurd (show p ∈ ([] : List (Addr × Obj)) ++ [] from hp) (by simp)⟩
  have loop : codeAny (model X.prog X.w) X.A (.compLoop (.ListComp elt [⟨t1, it1, ifs1, 0⟩, ⟨t2, it2, ifs2, 0⟩] scope pos) 0 (.ref it) (.ref D) ce) (compPost (model X.prog X.w) X.A X.xe use Qf (.ref D) s3.heap.objs.size) s4 := by
    refine codeAny_loop rfl (fun n s' => ∃ i H', Inv (X.blk s3 H3 scope ce fp) [] (wipe σ (own.map (·.2))) H' s' ∧ tn i s'.heap ∧ (∀ b ∈ fp, H' b = none) ∧ W i n H') ?_ m0 ⟨0, H3, I4, st4, nfp, w0⟩
    rintro n s5 ⟨i, H5, I5, st5, n5, w5⟩
    show wpAny _ X.A ((compTurn (.ListComp elt [⟨t1, it1, ifs1, 0⟩, ⟨t2, it2, ifs2, 0⟩] scope pos) 0 (.ref it) (.ref D) ce).onRaise (fun x => do noteFrame x ce; theTreesLotGoes x)) _ _ s5
    refine wpAny_noted ?_
    rw [compTurn_list2_out]
    refine wpAny_bind (wpAny_standAt ?_)
    rcases turn i n H5 w5 with ⟨stop, qq⟩ | ⟨go, Nx, hNx, step⟩
    · refine wpAny_bind (thnF (T.done (X.blk s3 H3 scope ce fp) rfl rfl rfl hc i [] s5 _ H5 (fun _ _ => False) I5 (stat I5 n5) st5 stop) fun r s6 hr => ?_)
      obtain ⟨hr, I6⟩ := hr
      subst hr
      refine wpAny_pure ?_
      have I7 : Inv X pins σ H5 s6 := I3.call' (ch := fp) I6.os I6.base I6.hok I6.bare fun b hb => ⟨(f3 b hb).1.2.2.2.1, (f3 b hb).1.2.1, (f3 b hb).1.2.2.2.2.1, (f3 b hb).1.2.2.2.2.2⟩
      have nC : H5 s3.heap.objs.size = none := by
        have z : H5 ce.locals = none := I6.free
        rw [cL] at z
        exact z
      obtain ⟨m, hn, _⟩ := I6.loc
      have hn : s6.heap.Ns ce.locals m := hn
      rw [cL] at hn
      exact behind D s3.heap.objs.size s6 m H5 I7 qq hn (I3.fpOk (Nat.le_refl _) nC)
    · refine wpAny_bind (thnF (T.item (X.blk s3 H3 scope ce fp) rfl rfl rfl hc i [] s5 _ H5 (fun _ _ => False) I5 (stat I5 n5) st5 go) fun r s6 hr => ?_)
      obtain ⟨u, hr, h6⟩ := hr
      subst hr
      refine wpAny_bind (thnF h6 fun _ s7 h7 => ?_)
      obtain ⟨x, H7, I7, r7, y7, st7, n7⟩ := h7
      have I7' := I7.pinned (stat I7 n7) (T.obj _ _ st7)
      refine wpAny_bind (thnF (p1.run _ s7 _ H7 x u _ I7' r7 (step x H7 y7)) fun _ s8 h8 => ?_)
      obtain ⟨σ8, H8, I8, hw8, q8⟩ := h8
      refine wpAny_bind (thnF (c1.run _ s8 σ8 H8 _ I8 q8) fun b s9 h9 => ?_)
      obtain ⟨H9, I9, q9⟩ := h9
      have back : ∀ {s' : Shared} {σ' : L2.St} {H' : Hp}, Inv (X.blk s3 H3 scope ce fp) ([] ++ pinsAt fp s7.heap) σ' H' s' → (wipe σ (own.map (·.2))).length = σ'.length → (∀ (j : Nat) (v : V), (wipe σ (own.map (·.2)))[j]? = some (some v) → σ'[j]? = some (some v)) → Nx H' →
          ∃ m, m < n ∧ ∃ i H', Inv (X.blk s3 H3 scope ce fp) [] (wipe σ (own.map (·.2))) H' s' ∧ tn i s'.heap ∧ (∀ b ∈ fp, H' b = none) ∧ W i m H' := fun {s' σ' H'} I' hl hv nx => by
        obtain ⟨m', hm, w'⟩ := hNx H' nx
        refine ⟨m', hm, i + 1, H', (I'.unpinned (pins := [])).weak hl hv, T.keep _ _ _ st7 fun b hb o e => (I'.pin (b, o) (List.mem_append_right _ (List.mem_append_right _ (mem_pinsAt hb e)))).1, fun b hb => ?_, w'⟩
        obtain ⟨o, e, _⟩ := T.obj _ _ st7 b hb
        exact (I'.pin (b, o) (List.mem_append_right _ (List.mem_append_right _ (mem_pinsAt hb e)))).2.1
      have hl8 : (wipe σ (own.map (·.2))).length = σ8.length := by rw [← hw8, wipe_length]
      cases b with
      | false =>
        simp only [Bool.false_eq_true, if_false] at q9 ⊢
        exact wpAny_pure ⟨rfl, back I9 hl8 (fun j v e => by rw [← hw8] at e; exact (wipe_some e).1) q9⟩
      | true =>
        simp only [if_true] at q9 ⊢
        refine wpAny_bind (thnF (lc2_in (X := X.blk s3 H3 scope ce fp) (t1 := t1) (it1 := it1) (ifs1 := ifs1) (scope := scope) (pos := pos) rfl hc i2 p2 c2 e2 I9 q9) fun xv s10 h10 => ?_)
        refine wpAny_bind (wpAny_standAt (wpAny_bind (wpAny_of_eq (fold2 xv) ?_)))
        refine wpAny_bind (wpAny_holding (thnF h10 fun itv s11 h11 => ?_))
        refine wpAny_bind (wpAny_runOwn ?_)
        refine h11 _ fun s' H' I' nx => ?_
        refine wpAny_pure ⟨rfl, back I' (by rw [wipe_length, wipe_length]; rw [wipe_length] at hl8; exact hl8) (fun j v e => ?_) nx⟩
        rw [← hw8] at e
        have z := wipe_some e
        rw [wipe_out fun hj => z.2 (sub j hj)]
        exact z.1
  exact codeAny_compStart_list loop (T.self X.A 0 _ _ _ st4 loop)
/-- [elt for t1 in it1 if .. for t2 in it2 if ..] -/
theorem pe_lc2 {own : List (Str × Nat)} (hc : X.calm = true) (hN : X.N.Nodup) (first : PI X t1 it1 wi1) (ok : BlkOk X.N X.env.scope scope own) (sub : ∀ j ∈ vs2, j ∈ own.map (·.2))
    (P1 : ∀ (s : Shared) (H : Hp) (C : Addr) (cl : List (Str × Addr)) (fp : List Addr), PG (X.blk s H scope (compEnvC scope cl C X.env) fp) t1 g1) (C1 : ∀ (s : Shared) (H : Hp) (C : Addr) (cl : List (Str × Addr)) (fp : List Addr), PTs (X.blk s H scope (compEnvC scope cl C X.env) fp) ifs1 tt1)
    (I2 : ∀ (s : Shared) (H : Hp) (C : Addr) (cl : List (Str × Addr)) (fp : List Addr), PI (X.blk s H scope (compEnvC scope cl C X.env) fp) t2 it2 wi2)
    (P2 : ∀ (s : Shared) (H : Hp) (C : Addr) (cl : List (Str × Addr)) (fp : List Addr), PG (X.blk s H scope (compEnvC scope cl C X.env) fp) t2 g2) (C2 : ∀ (s : Shared) (H : Hp) (C : Addr) (cl : List (Str × Addr)) (fp : List Addr), PTs (X.blk s H scope (compEnvC scope cl C X.env) fp) ifs2 tt2)
    (el : ∀ (s : Shared) (H : Hp) (C : Addr) (cl : List (Str × Addr)) (fp : List Addr), PE (X.blk s H scope (compEnvC scope cl C X.env) fp) elt te)
    (h1 : ∀ x, foldedSetIterable it1 X.env x = pure x := by intro _; rfl) (h2 : ∀ (C : Addr) (cl : List (Str × Addr)) x, foldedSetIterable it2 (compEnvC scope cl C X.env) x = pure x := by intro _ _ _; rfl) :
    PE X (.ListComp elt [⟨t1, it1, ifs1, 0⟩, ⟨t2, it2, ifs2, 0⟩] scope pos) (tLc2 wi1 g1 tt1 wi2 g2 tt2 te (own.map (·.2)) vs2) := by
  refine ⟨fun pins s σ H Q I rd => ?_⟩
  rw [eval_ListComp]
  refine lc2_core hc hN first ok sub P1 C1 I2 P2 C2 el h1 h2 I rd fun D C s' m H' I' q hn f => ⟨m, hn, fun h'' sb => ?_⟩
  obtain ⟨f0, f1, f2, f3, f4, f5⟩ := f
  exact ⟨.ref D, H', I'.turned (t' := s'.toks) (fun b o hb e => (sb.2 b hb).trans e) f0 f1 f3 f4 f5, rfl, q⟩
/-- name = [..] on one row, the name a local -/
theorem ps_setLc2 {i : Nat} {y : Str} {py spos : Pos} {own : List (Str × Nat)} (hc : X.calm = true) (hN : X.N.Nodup) (hy : X.N[i]? = some y) (hyl : X.env.scope.names.lookup y = some .local)
    (hsw : swapsWith (.ListComp elt [⟨t1, it1, ifs1, 0⟩, ⟨t2, it2, ifs2, 0⟩] scope pos) (some (.Name y py)) spos.line X.env = pure true) (first : PI X t1 it1 wi1) (ok : BlkOk X.N X.env.scope scope own) (sub : ∀ j ∈ vs2, j ∈ own.map (·.2))
    (P1 : ∀ (s : Shared) (H : Hp) (C : Addr) (cl : List (Str × Addr)) (fp : List Addr), PG (X.blk s H scope (compEnvC scope cl C X.env) fp) t1 g1) (C1 : ∀ (s : Shared) (H : Hp) (C : Addr) (cl : List (Str × Addr)) (fp : List Addr), PTs (X.blk s H scope (compEnvC scope cl C X.env) fp) ifs1 tt1)
    (I2 : ∀ (s : Shared) (H : Hp) (C : Addr) (cl : List (Str × Addr)) (fp : List Addr), PI (X.blk s H scope (compEnvC scope cl C X.env) fp) t2 it2 wi2)
    (P2 : ∀ (s : Shared) (H : Hp) (C : Addr) (cl : List (Str × Addr)) (fp : List Addr), PG (X.blk s H scope (compEnvC scope cl C X.env) fp) t2 g2) (C2 : ∀ (s : Shared) (H : Hp) (C : Addr) (cl : List (Str × Addr)) (fp : List Addr), PTs (X.blk s H scope (compEnvC scope cl C X.env) fp) ifs2 tt2)
    (el : ∀ (s : Shared) (H : Hp) (C : Addr) (cl : List (Str × Addr)) (fp : List Addr), PE (X.blk s H scope (compEnvC scope cl C X.env) fp) elt te)
    (h1 : ∀ x, foldedSetIterable it1 X.env x = pure x := by intro _; rfl) (h2 : ∀ (C : Addr) (cl : List (Str × Addr)) x, foldedSetIterable it2 (compEnvC scope cl C X.env) x = pure x := by intro _ _ _; rfl) :
    PS X (.Assign [.Name y py] (.ListComp elt [⟨t1, it1, ifs1, 0⟩, ⟨t2, it2, ifs2, 0⟩] scope pos) spos) (tAsg (tLc2 wi1 g1 tt1 wi2 g2 tt2 te (own.map (·.2)) vs2) (gName i)) := by
  refine ⟨fun pins s σ H D I h => ?_⟩
  rw [exec_Assign_Name_used _ _ _ _ hsw]
  refine wpAny_bind (wpAny_standAt (wpAny_bind ?_))
  show wpAny _ X.A (do let _ ← comprehension (.ListComp elt [⟨t1, it1, ifs1, 0⟩, ⟨t2, it2, ifs2, 0⟩] scope pos) scope X.env (firstIterPos [⟨t1, it1, ifs1, 0⟩, ⟨t2, it2, ifs2, 0⟩] pos) (newList []) false (eval it1 X.env) (some (assign (.Name y py) X.env))) _ _ s
  have h : tLc2 wi1 g1 tt1 wi2 g2 tt2 te (own.map (·.2)) vs2 σ H (fun x H1 => gName i x σ H1 D.nx) := h
  refine wpAny_bind (thn (lc2_core (Qf := fun _ s' => SP X pins D .next s') hc hN first ok sub P1 C1 I2 P2 C2 el h1 h2 I h fun L C s' m H' I' q hn f => ?_) fun _ s' hq => wpAny_pure (wpAny_pure hq))
  show wpAny _ _ (assign (.Name y py) X.env (.ref L)) _ _ _
  refine wpAny_assign_Name (store_ok2 (v := V.ref L) I' hN hy (.inl hyl) rfl (fun s2 J ⟨a, sb, ha⟩ => ?_) (.inr hyl))
  obtain ⟨f0, f1, f2, f3, f4, f5⟩ := f
  have ne : C ≠ a := ha.elim (fun z => by rw [z]; exact f1) fun z e => f4 y a z e.symm
  exact ⟨m, hn.sameBut sb ne, fun h3 sb3 => ⟨_, H', J.turned (t' := s2.toks) (fun b o hb e => (sb3.2 b hb).trans e) f0 f1 f3 f4 f5, q⟩⟩
end
end My

set_option Elab.async false
set_option linter.all false
set_option maxRecDepth 100000
set_option maxHeartbeats 4000000
/-! ### [te for p in range(m) for q in range(n)] -/
namespace My
open PySem L2
theorem it_range {m : Nat} {W0 : Hp → Prop} (Pv : Nat → Hp → Prop) {H : Hp} (h0 : Pv 0 H) {Nx : Hp → Prop} {g : TG} {tt : TT} {te : TE} {vs : List Nat} {σ : L2.St} {D : Addr}
    (step : ∀ i H', i < m → Pv i H' → g (.int (i : Nat)) (wipe σ vs) H' fun σ2 H2 => wipe σ2 vs = wipe σ vs ∧ tt σ2 H2 fun b H3 => if b = true then te σ2 H3 fun y H4 => ∃ acc, H4 D = some (.lst acc) ∧ acc.length < sizeLine ∧ Pv (i + 1) (upd H4 D (.lst (acc ++ [y]))) else Pv (i + 1) H3)
    (fin : ∀ H', Pv m H' → Nx H') : ∃ W : Nat → Nat → Hp → Prop, (∃ k, W 0 k H) ∧ ∀ i k H, W i k H →
  ((Itr 0 m).stop i H ∧ Nx H) ∨ ((Itr 0 m).go i H ∧ ∃ N2 : Hp → Prop, (∀ H', N2 H' → ∃ m', m' < k ∧ W (i + 1) m' H') ∧ ∀ x H', (Itr 0 m).yld i H x H' → g x (wipe σ vs) H' fun σ2 H2 => wipe σ2 vs = wipe σ vs ∧ tt σ2 H2 fun b H3 =>
    if b = true then te σ2 H3 fun y H4 => ∃ acc, H4 D = some (.lst acc) ∧ acc.length < sizeLine ∧ N2 (upd H4 D (.lst (acc ++ [y]))) else N2 H3) := by
  refine ⟨fun i k H => k + i = m ∧ Pv i H, ⟨m, rfl, h0⟩, fun i k H h => ?_⟩
  obtain ⟨e, p⟩ := h
  rcases Nat.lt_or_ge i m with lt | ge
  · refine .inr ⟨lt, Pv (i + 1), fun H' p' => ⟨k - 1, by omega, by omega, p'⟩, fun x H' y => ?_⟩
    obtain ⟨rfl, rfl⟩ := y
    rw [Int.zero_add]
    exact step i H' lt p
  · have z : i = m := by omega
    exact .inl ⟨by subst z; first | rfl | exact Nat.le_refl _, fin H (by rw [← z]; exact p)⟩
theorem lc2Rg {ta tb : TA} {te : TE} {σ : L2.St} {H : Hp} {Q : VK} {p q : Nat} (m n : Nat) (hm : m ≤ 1000) (hn : n ≤ 1000) (Pv : Addr → Nat → Nat → Hp → Prop)
    (ha : ∀ R : List V → Hp → Prop, R [.int (m : Nat)] H → ta σ H R)
    (hb : ∀ (D : Addr) (i : Nat) (H' : Hp) (R : List V → Hp → Prop), H D = none → i < m → Pv D i 0 H' → R [.int (n : Nat)] H' → tb ((wipe σ [p, q]).set p (some (.int (i : Nat)))) H' R)
    (hw1 : ∀ x, wipe ((wipe σ [p, q]).set p (some x)) [p, q] = wipe σ [p, q])
    (hw2 : ∀ x y, wipe ((wipe ((wipe σ [p, q]).set p (some x)) [q]).set q (some y)) [q] = wipe ((wipe σ [p, q]).set p (some x)) [q])
    (h0 : ∀ D, H D = none → Pv D 0 0 (upd H D (.lst [])))
    (body : ∀ (D : Addr) (i j : Nat) (H' : Hp), H D = none → i < m → j < n → Pv D i j H' → te ((wipe ((wipe σ [p, q]).set p (some (.int (i : Nat)))) [q]).set q (some (.int (j : Nat)))) H' fun y H4 => ∃ acc, H4 D = some (.lst acc) ∧ acc.length < sizeLine ∧ Pv D i (j + 1) (upd H4 D (.lst (acc ++ [y]))))
    (nextRow : ∀ (D : Addr) (i : Nat) (H' : Hp), Pv D i n H' → Pv D (i + 1) 0 H') (fin : ∀ D H', H D = none → Pv D m 0 H' → Q (.ref D) H') :
    tLc2 (iRng1 ta) (gName p) tYes (iRng1 tb) (gName q) tYes te [p, q] [q] σ H Q := by
  refine ha _ ⟨(m : Nat), rfl, by omega, by omega, fun D nD => ?_⟩
  rw [Int.toNat_natCast]
  refine ⟨fun i k H' => k + i = m ∧ Pv D i 0 H', ⟨m, rfl, h0 D nD⟩, fun i k H1 h => ?_⟩
  obtain ⟨e, pv⟩ := h
  rcases Nat.lt_or_ge i m with lt | ge
  · refine .inr ⟨lt, Pv D (i + 1) 0, fun H' p' => ⟨k - 1, by omega, by omega, p'⟩, fun x H' y => ?_⟩
    obtain ⟨rfl, rfl⟩ := y
    rw [Int.zero_add]
    refine ⟨hw1 _, ?_⟩
    simp only [tYes, if_true]
    refine hb D i H' _ nD lt pv ⟨(n : Nat), rfl, by omega, by omega, ?_⟩
    rw [Int.toNat_natCast]
    exact it_range (W0 := fun _ => True) (Pv D i) pv (fun j H2 hj pj => ⟨hw2 _ _, body D i j H2 nD lt hj pj⟩) fun H2 pj => nextRow D i H2 pj
  · have z : i = m := by omega
    exact .inl ⟨by subst z; first | rfl | exact Nat.le_refl _, fin D H1 nD (by rw [← z]; exact pv)⟩
end My

set_option Elab.async false
set_option linter.all false
set_option maxRecDepth 100000
set_option maxHeartbeats 4000000
/-! ### slices of mapped lists -/
namespace My
open PySem L2
theorem cut_ij {α : Type} {f : α → V} {ts : List α} {i j : Nat} (h : i ≤ j) : cutV (ts.map f) (some (i : Int)) (some (j : Int)) = ((ts.drop i).take (j - i)).map f := by
  unfold cutV
  rw [HT.sIx_nat, HT.sIx_nat, List.length_map, ← List.map_drop, ← List.map_take]
  congr 1
  rcases Nat.le_total i ts.length with z | z
  · rw [Nat.min_eq_left z]
    rcases Nat.le_total j ts.length with z2 | z2
    · rw [Nat.min_eq_left z2]
    · rw [Nat.min_eq_right z2, List.take_of_length_le (by rw [List.length_drop]; omega), List.take_of_length_le (by rw [List.length_drop]; omega)]
  · rw [Nat.min_eq_right z, List.drop_length, List.drop_of_length_le z]; simp
theorem cut_0j {α : Type} {f : α → V} {ts : List α} {j : Nat} : cutV (ts.map f) none (some (j : Int)) = (ts.take j).map f := by
  have := cut_ij (f := f) (ts := ts) (Nat.zero_le j)
  rw [List.drop_zero, Nat.sub_zero] at this
  exact this
theorem cut_i {α : Type} {f : α → V} {ts : List α} {i : Nat} : cutV (ts.map f) (some (i : Int)) none = (ts.drop i).map f := by
  unfold cutV
  rw [HT.sIx_nat, ← List.map_drop, ← List.map_take]
  congr 1
  show (ts.drop (min i (ts.map f).length)).take ((ts.map f).length - _) = _
  rw [List.length_map]
  rcases Nat.le_total i ts.length with z | z
  · rw [Nat.min_eq_left z, List.take_of_length_le (by rw [List.length_drop]; omega)]
  · rw [Nat.min_eq_right z, List.drop_length, List.drop_of_length_le z]; simp
end My

set_option Elab.async false
set_option linter.all false
set_option maxRecDepth 100000
set_option maxHeartbeats 4000000
/-! ### methods and called objects within a try -/
namespace My
open PySem L2 StX PySem.Spec PyProof.Rows
def tMethT (C : Addr) (m : Str) (sp : Sp) (E : L2.St → XK) (ta : TE) (t : TA) : TE := fun σ H Q => ta σ H fun x H1 => ∃ a dx fs, x = .ref a ∧ H1 a = some (.ins C dx fs) ∧ fs.lookup m = none ∧ t σ H1 fun vs H2 => sp (.ref a :: vs) H2 Q (E σ)
section
variable {X : Cx} {CX : CXT} {C g : Addr} {fd : FuncData} {ps : List Str} {sp : Sp} {E : L2.St → XK} {k : Nat} {o e : Expr} {es : List Expr} {ta : TE} {t : TA} {pos apos : Pos} {m : Str} {f : Addr}
theorem pe_methT {pl : Sem Bool} (c : Cls X.K C) (hm : Meth X.K C m f) (F : FnOk X.prog X.w X.K X.mg X.base CX k f fd ps sp) (hr : Room k X.A) (hb : Binds X.K fd ps []) (hx : ∀ σ, PassesAt CX X σ (E σ)) (he : PE X o ta) (ha : PA X (e :: es) t)
    (hst : starEach (e :: es) X.env = (false, eval e X.env) :: starEach es X.env := by rfl) (hpl : (backTo pos (starEach es X.env)).any (·.1) = false := by rfl)
    (ht : eval (.Call (.Attribute o m apos) (e :: es) [] pos) X.env = (do
      let ov ← eval o X.env
      standAt apos.atName
      let (f, first) ← holding [ov] (getMethod ov m pl)
      callWith pos f first (backTo pos (starEach (e :: es) X.env)) (backToKw pos (keywordEach [] X.env))) := by rfl) :
    PE X (.Call (.Attribute o m apos) (e :: es) [] pos) (tMethT C m sp E ta t) := by
  refine ⟨fun pins s σ H Q I h => ?_⟩
  refine PySem.W.methodCall_KW (pl := pl) (thn (he.run pins s σ H _ I h) fun u s1 ⟨x, H1, I1, rx, a, dx, fs, ex, ea, l, q⟩ => ?_) ht
  subst ex
  obtain rfl : u = Value.ref a := rx
  refine getmeth_ok I1 ea c hm l ?_
  refine PySem.W.callWith_K (first := [.ref a]) (h₀ := X.base) I.ok.mod.kin hm.kp (thn (ha.run pos pins s1 σ H1 _ I1 q) fun us s2 ⟨vs, H2, I2, r, q2⟩ => ⟨I2.kIn, ?_⟩) hst hpl
  exact run_fnS (us := .ref a :: us) (vs := .ref a :: vs) F hr hb (hx σ) I2 (.cons rfl r) q2
def tCallOT (C : Addr) (sp : Sp) (E : L2.St → XK) (tf : TE) (t : TA) : TE := fun σ H Q => tf σ H fun y H1 => ∃ a, y = V.ref a ∧ t σ H1 fun vs H2 => (∃ dx fs, H2 a = some (.ins C dx fs)) ∧ sp (V.ref a :: vs) H2 Q (E σ)
theorem run_fnRS {pins : List (Addr × Obj)} {σ : L2.St} {H : Hp} {s : Shared} {f : Addr} {Q : VK} {E : L2.St → XK} {us : List Value} {vs : List V} (F : FnR X.prog X.w X.K X.mg X.base CX k f sp) (hr : Room k X.A) (hx : PassesAt CX X σ (E σ)) (I : Inv X pins σ H s) (r : Vals vs us) (h : sp vs H Q (E σ)) :
    codeAny (model X.prog X.w) X.A (.call (.ref f) ⟨us, []⟩) (fun r s' => match r with | .ok (.ret v) => EP X pins σ Q v s' | .ok _ => False | .error e => X.xe e s') s := by
  refine codeAny_mono (F X.A X.stack s H us vs Q (E σ) hr I.env0 r h) fun r s' hq => ?_
  cases r with
  | error e => exact hx pins H s e s' I hq
  | ok fl =>
    cases fl with
    | ret u => exact I.after hq
    | next => exact False.elim hq
    | brk => exact False.elim hq
    | cont => exact False.elim hq
theorem pe_callOT {fe : Expr} {tf : TE} (c : CallO X.K C g) (F : FnR X.prog X.w X.K X.mg X.base CX k g sp) (hr : Room k X.A) (hx : ∀ σ, PassesAt CX X σ (E σ)) (hf : PE X fe tf) (ha : PA X (e :: es) t)
    (ht : eval (.Call fe (e :: es) [] pos) X.env = (do callWith pos (← eval fe X.env) [] (backTo pos (starEach (e :: es) X.env)) (backToKw pos (keywordEach [] X.env))) := by rfl)
    (he : starEach (e :: es) X.env = (false, eval e X.env) :: starEach es X.env := by rfl) (hpl : (backTo pos (starEach es X.env)).any (·.1) = false := by rfl) : PE X (.Call fe (e :: es) [] pos) (tCallOT C sp E tf t) := by
  refine ⟨fun pins s σ H Q I h => ?_⟩
  refine Call_ (thn (hf.run pins s σ H _ I h) fun u s1 ⟨y, H1, I1, ry, a, ey, q⟩ => ?_) ht
  subst ey
  obtain rfl : u = Value.ref a := ry
  refine callO_with (thn (ha.run pos pins s1 σ H1 _ I1 q) fun us s2 ⟨vs, H2, I2, r, hi, q2⟩ => ?_) he hpl
  obtain ⟨ox, od, J, hd⟩ := insC_at I2 (.inr hi)
  exact ⟨⟨C, ox, od, J, hd⟩, wpAny_call (PySem.W.kco_code I2.kIn J hd c.at_ c.fn c.fi (run_fnRS (us := .ref a :: us) (vs := .ref a :: vs) F hr (hx σ) I2 (.cons rfl r) q2))⟩
end
end My

set_option Elab.async false
set_option linter.all false
set_option maxRecDepth 100000
set_option maxHeartbeats 4000000
/-! ### a quiet def, whatever exception is handled around its call -/
namespace My
open PySem PySem.Spec PyProof.Rows L2
structure RoomZ (k : Nat) (A : Around) : Prop where
  dep : A.depth + 3 * k + 5 < recursionLimit
  uni : A.units + 16 * k + 200 < cLine
/-- the room behind a mark is that ahead of it -/
theorem roomZ_mark {k : Nat} {A : Around} {v : Option Value} (r : Room k A) : RoomZ k (A.mark v) := ⟨r.dp, r.un⟩
def cxZ (CX : CXT) (P : Program) (w : World) (K : PySem.W.Frag) (mg : Str → Option Value) (base : Heap) (N : List Str) (qual : Str) (sc : Scope) (f : Addr) (cd : Value) (A : Around) (outer : List Env) (s : Shared) (H : Hp) (E : XK) : Cx := { cxOf CX P w K mg base N qual sc f cd A outer s H E with calm := false }
structure FnZ (P : Program) (w : World) (K : PySem.W.Frag) (mg : Str → Option Value) (base : Heap) (CX : CXT) (k : Nat) (f : Addr) (fd : FuncData) (ps : List Str) (sp : Sp) : Prop where
  len : ∀ vs H Q E, sp vs H Q E → vs.length = ps.length
  run : ∀ (A : Around) (outer : List Env) (s : Shared) (H : Hp) (ar : Args) (us : List Value) (vs : List V) (Q : VK) (E : XK), RoomZ k A → Env0 P w K mg base A outer s H → BindsTo s fd ar (ps.zip us) → Vals vs us → sp vs H Q E → codeAny (model P w) A (.call (.ref f) ar) (CR CX outer P w H s Q E) s
section
variable {CX : CXT} {P : Program} {w : World} {K : PySem.W.Frag} {mg : Str → Option Value} {base : Heap} {N ps : List Str} {qual : Str} {sc : Scope} {f : Addr} {cd : Value} {k : Nat} {sp : Sp}
theorem e0_free {A : Around} {outer : List Env} {s : Shared} {H : Hp} (e : Env0 P w K mg base A outer s H) : Env0 P w K mg base { A with handled := none } outer s H := ⟨e.frames, e.mod, e.bs, e.bsz, e.funs, e.frf, e.hok, e.bare⟩
theorem inv_startZ {A : Around} {outer : List Env} {s s1 : Shared} {H : Hp} {E : XK} {us : List Value} {vs : List V} (S : FnScope N ps sc) (e0 : Env0 P w K mg base A outer s H) (hl : vs.length = ps.length) (r : Vals vs us)
    (x : InCallC s s.heap.objs.size (bindL (envOfC qual sc s.heap.objs.size f cd).kindOf (ps.zip us) fun _ => none) (cellsFrom (s.heap.objs.size + 1) sc.names []) (bindC (envOfC qual sc s.heap.objs.size f cd).kindOf (ps.zip us) fun _ => none) s1) : Inv (cxZ CX P w K mg base N qual sc f cd A outer s H E) [] (L2.start N vs) H s1 := by
  have J := inv_start (CX := CX) (E := E) (A := { A with handled := none }) S rfl (e0_free e0) hl r x
  have o := J.ok
  exact ⟨⟨o.mod, o.kind, o.glob, o.blt, o.above, o.inj, o.has, o.cab, fun z => (by cases z), Around.frames_deeper e0.frames, o.stk, o.exf, o.bs, o.bsz, o.noex, o.exfs, o.funs, o.frf⟩, J.os, J.bare, J.base, J.loc, J.cell, J.free, J.freeC, J.pin, J.hok, J.len⟩
theorem fn_ofZ {name : Str} {params : Arguments} {body : List Stmt} {dV kV doc pm ct oc : Value} {an od : Option Addr} {osl : Array (Option Value)} (lk : K.lookup f = some ⟨oc, od, .func (PySem.W.fnOf name qual params body sc dV kV doc pm an cd ct), osl⟩) (hcd : PySem.W.codeIn K cd qual = true) (S : FnScope N ps sc)
    (len : ∀ vs H Q E, sp vs H Q E → vs.length = ps.length)
    (todo : ∀ (A : Around) (outer : List Env) (s : Shared) (H : Hp) (vs : List V) (Q : VK) (E : XK), sp vs H Q E → ∃ t, PSs (cxZ CX P w K mg base N qual sc f cd A outer s H E) body t ∧ t { nx := fun _ H' => Q .non H', rt := Q } (L2.start N vs) H) :
    FnZ P w K mg base CX (k + 1) f (PySem.W.fnOf name qual params body sc dV kV doc pm an cd ct) ps sp := by
  refine ⟨len, fun A outer s H ar us vs Q E room e0 bnd vals hsp => ?_⟩
  have kin : K.In s.heap := e0.mod.kin.keeps fun b o z => (e0.bs b o z).1
  have nolim : s.heap.NoLimit := e0.mod.nolimit.keeps fun b o z => (e0.bs b o z).1
  have dep : A.depth < recursionLimit := by
    have := room.dep
    omega
  refine codeAny_call_function dep (kin _ _ lk) rfl S.co S.gen rfl (PySem.W.codeRec_of kin hcd) (bnd _ _ _ _ ?_)
  have kinds : ∀ y ∈ ps.zip us, sc.names.lookup y.1 = some .local ∨ (sc.names.lookup y.1 = some .cell ∧ ((cellsFrom (s.heap.objs.size + 1) sc.names []).lookup y.1).isSome = true) := fun ⟨n, v⟩ hy =>
    (S.par n (List.of_mem_zip hy).1).imp id fun z => ⟨z, PySem.W.cellsFrom_some _ _ _ (.inl z)⟩
  refine wpAny_newFunctionEnv_cells S.kind kinds fun env he s1 x => ?_
  cases he
  refine ⟨nolim.keeps x.toInCall.keep, codeAny_func ?_⟩
  obtain ⟨t, ht, hq⟩ := todo A outer s H vs Q E hsp
  have I := inv_startZ (CX := CX) (E := E) (cd := cd) S e0 (len _ _ _ _ hsp) vals x
  refine wpAny_mono (ht.run [] s1 (L2.start N vs) H _ I hq) (fun fl s' done => ?_) fun e s' z => z
  cases fl with
  | ret u =>
    obtain ⟨v, σ', H', J, rv, z⟩ := done
    exact ⟨v, H', J.os, J.bare, J.base, J.hok, rv, z⟩
  | next =>
    obtain ⟨σ', H', J, z⟩ := done
    exact ⟨V.non, H', J.os, J.bare, J.base, J.hok, rfl, z⟩
  | brk => obtain ⟨_, _, _, z⟩ := done; exact z.elim
  | cont => obtain ⟨_, _, _, z⟩ := done; exact z.elim
end
section
variable {X : Cx} {CX : CXT} {k : Nat} {f : Addr} {fd : FuncData} {ps : List Str} {sp : Sp} {E : L2.St → XK} {x : Str} {q pos : Pos} {e : Expr} {es : List Expr} {t : TA}
theorem pe_callZ (F : FnZ X.prog X.w X.K X.mg X.base CX k f fd ps sp) (hr : RoomZ k X.A) (hg : Gl X x) (hm : X.mg x = some (.ref f)) (hk : PySem.W.keepIn X.K (.ref f) = true) (hb : Binds X.K fd ps []) (hx : ∀ σ, PassesAt CX X σ (E σ))
    (ha : PA X (e :: es) t) (hdb : (x == ("__debug__" : Str)) = false := by decide) (he : starEach (e :: es) X.env = (false, eval e X.env) :: starEach es X.env := by rfl) (hpl : (backTo pos (starEach es X.env)).any (·.1) = false := by rfl) : PE X (.Call (.Name x q) (e :: es) [] pos) (tCallS sp E t) := by
  refine ⟨fun pins s σ H Q I h => wpAny_Call_Name_kw (ld_glob I hg hm (PySem.W.callWith_K (h₀ := X.base) I.ok.mod.kin hk (thn (ha.run pos pins s σ H _ I h) fun us s1 ⟨vs, H1, I1, r, z⟩ => ⟨I1.kIn, ?_⟩) he hpl) hdb)⟩
  have hl : us.length = ps.length := r.length.symm.trans (F.len _ _ _ _ z)
  have b := hb s1 us I1.kIn (by rw [List.append_nil]; exact hl)
  rw [List.append_nil] at b
  refine wpAny_call (codeAny_mono (F.run X.A X.stack s1 H1 ⟨us, []⟩ us vs Q (E σ) hr I1.env0 b r z) fun r s' hq => ?_)
  cases r with
  | error e => exact hx σ pins H1 s1 e s' I1 hq
  | ok fl => cases fl with
    | ret u => exact I1.after hq
    | next => exact hq.elim
    | brk => exact hq.elim
    | cont => exact hq.elim
end
end My

set_option Elab.async false
set_option linter.all false
set_option maxRecDepth 100000
set_option maxHeartbeats 4000000
/-! ### displays of data: what an expression gives, read off its form -/
namespace My
open PySem L2
/-- te gives a value of the data d, and what stood stands -/
def DE (te : TE) (σ : L2.St) (H0 : Hp) (d : PyData) : Prop := ∀ H1, Kp [] H0 H1 → ∀ Q : VK, (∀ v H2, Kp [] H1 H2 → Dq H2 v d → Q v H2) → te σ H1 Q
def DA (ta : TA) (σ : L2.St) (H0 : Hp) (ds : List PyData) : Prop := ∀ H1, Kp [] H0 H1 → ∀ Q : List V → Hp → Prop, (∀ vs H2, Kp [] H1 H2 → DqAll H2 vs ds → Q vs H2) → ta σ H1 Q
section
variable {σ : L2.St} {H0 : Hp} {te tf : TE} {ta : TA} {d : PyData} {ds es : List PyData}
theorem de_int {i : Int} : DE (tC (.int i)) σ H0 (.int i) := fun H1 _ Q h => h _ _ (Kp.refl _ _) (.int i)
theorem de_str {z : Str} : DE (tC (.str z)) σ H0 (.str z) := fun H1 _ Q h => h _ _ (Kp.refl _ _) (.str z)
theorem de_bl {b : Bool} : DE (tC (.bl b)) σ H0 (.bool b) := fun H1 _ Q h => h _ _ (Kp.refl _ _) (.bl b)
theorem de_non : DE (tC .non) σ H0 .none := fun H1 _ Q h => h _ _ (Kp.refl _ _) .non
theorem de_neg {i : Int} : DE (tUn (rU fun i => V.int (-i)) (tC (.int i))) σ H0 (.int (-i)) := fun H1 _ Q h => ⟨i, rfl, h _ _ (Kp.refl _ _) (.int _)⟩
theorem de_var {i : Nat} {v : V} (e : σ[i]? = some (some v)) (hd : Dq H0 v d) : DE (tVar i) σ H0 d := fun H1 k Q h => ⟨v, e, h _ _ (Kp.refl _ _) (Dq.kp k hd)⟩
theorem da_nil : DA tNil σ H0 [] := fun H1 _ Q h => h _ _ (Kp.refl _ _) .nil
theorem da_cons (a : DE te σ H0 d) (b : DA ta σ H0 ds) : DA (tCons te ta) σ H0 (d :: ds) := fun H1 k Q h => a H1 k _ fun v H2 k2 hv => b H2 (k.trans k2) _ fun vs H3 k3 hvs => h _ _ (k2.trans k3) (.cons (Dq.kp k3 hv) hvs)
theorem de_tup (a : DA ta σ H0 ds) (l : ds.length ≤ 1000 := by decide) : DE (tTup ta) σ H0 (.tuple ds) := fun H1 k Q h => a H1 k _ fun vs H2 k2 hvs => ⟨by rw [hvs.len, sizeLine_eq]; omega, fun p np => h _ _ (k2.trans (Kp.new np)) (.tup upd_same (DqAll.kp (Kp.new np) hvs))⟩
theorem de_lst (a : DA ta σ H0 ds) (l : ds.length ≤ 1000 := by decide) : DE (tLst ta) σ H0 (.list ds) := fun H1 k Q h => a H1 k _ fun vs H2 k2 hvs => ⟨by rw [hvs.len, sizeLine_eq]; omega, fun p np => h _ _ (k2.trans (Kp.new np)) (.lst upd_same (DqAll.kp (Kp.new np) hvs))⟩
/-- list + list -/
theorem de_cat (a : DE te σ H0 (.list ds)) (b : DE tf σ H0 (.list es)) (l : ds.length ≤ 1000) (l2 : es.length ≤ 1000) : DE (tOp rCat te tf) σ H0 (.list (ds ++ es)) := fun H1 k Q h => a H1 k _ fun v H2 k2 hv => b H2 (k.trans k2) _ fun u H3 k3 hu => by
  have hv3 := Dq.kp k3 hv
  cases hv3 with
  | @lst p xs _ e1 h1 =>
    cases hu with
    | @lst q ys _ e2 h2 =>
      refine ⟨p, q, xs, ys, rfl, rfl, e1, e2, by rw [h1.len, h2.len, sizeLine_eq]; omega, fun r nr => h _ _ ((k2.trans k3).trans (Kp.new nr)) (.lst upd_same ?_)⟩
      have app : ∀ {as bs : List PyData} {us vs : List V}, DqAll H3 us as → DqAll H3 vs bs → DqAll H3 (us ++ vs) (as ++ bs) := by
        intro as
        induction as with
        | nil => intro bs us vs h h'; cases h; exact h'
        | cons a as ih => intro bs us vs h h'; cases h with
          | cons x t => exact .cons x (ih t h')
      exact DqAll.kp (Kp.new nr) (app h1 h2)
/-- t[j], t a name of a tuple -/
theorem de_ix {K : PySem.W.Frag} {i : Nat} {j : Nat} {t : Addr} {xs : List V} {x : V} (e : σ[i]? = some (some (.ref t))) (ht : H0 t = some (.tup xs)) (ej : xs[j]? = some x) (hd : Dq H0 x d) : DE (tOp (rIxT K) (tVar i) (tC (.int (j : Nat)))) σ H0 d := fun H1 k Q h =>
  ⟨.ref t, e, t, xs, (j : Nat), x, rfl, rfl, sq_t (k _ _ not0 ht), atI_nat ej, h _ _ (Kp.refl _ _) (Dq.kp k hd)⟩
/-- tuple + tuple, neither empty -/
theorem de_catA {K : PySem.W.Frag} (a : DE te σ H0 (.tuple ds)) (b : DE tf σ H0 (.tuple es)) (l : ds.length ≤ 1000) (l2 : es.length ≤ 1000) (n1 : ds ≠ []) (n2 : es ≠ []) : DE (tOp (rCatA K) te tf) σ H0 (.tuple (ds ++ es)) := fun H1 k Q h => a H1 k _ fun v H2 k2 hv => b H2 (k.trans k2) _ fun u H3 k3 hu => by
  have hv3 := Dq.kp k3 hv
  cases hv3 with
  | @tup p xs _ e1 h1 =>
    cases hu with
    | @tup q ys _ e2 h2 =>
      have m1 : xs ≠ [] := fun z => by have := h1.len; rw [z] at this; exact n1 (List.eq_nil_of_length_eq_zero this.symm)
      have m2 : ys ≠ [] := fun z => by have := h2.len; rw [z] at this; exact n2 (List.eq_nil_of_length_eq_zero this.symm)
      refine ⟨p, q, xs, ys, rfl, rfl, sq_t e1, sq_t e2, by rw [h1.len, h2.len, sizeLine_eq]; omega, fun z => absurd z m1, fun _ z => absurd z m2, fun _ _ r nr => h _ _ ((k2.trans k3).trans (Kp.new nr)) (.tup upd_same ?_)⟩
      have app : ∀ {as bs : List PyData} {us vs : List V}, DqAll H3 us as → DqAll H3 vs bs → DqAll H3 (us ++ vs) (as ++ bs) := by
        intro as
        induction as with
        | nil => intro bs us vs h h'; cases h; exact h'
        | cons a as ih => intro bs us vs h h'; cases h with
          | cons x t => exact .cons x (ih t h')
      exact DqAll.kp (Kp.new nr) (app h1 h2)
/-- list(t), t a name of a tuple -/
theorem de_list {K : PySem.W.Frag} (a : DE te σ H0 (.tuple ds)) : DE (tCB (fun xs H Q => ∃ p ys, xs = [V.ref p] ∧ (SqL K H p ys ∨ SqT K H p ys) ∧ ∀ (l : Addr), H l = none → Q (V.ref l) (upd H l (HO.lst ys))) (tCons te tNil)) σ H0 (.list ds) := fun H1 k Q h => a H1 k _ fun v H2 k2 hv => by
  cases hv with
  | @tup p xs _ e1 h1 => exact ⟨p, xs, rfl, .inr (sq_t e1), fun l nl => h _ _ (k2.trans (Kp.new nl)) (.lst upd_same (DqAll.kp (Kp.new nl) h1))⟩
end
end My

set_option Elab.async false
set_option linter.all false
set_option maxRecDepth 100000
set_option maxHeartbeats 4000000
/-! ### super().m() of a plain class: the next class that has m tells -/
namespace My
open PySem L2 NdefX ClX
/-- an expression of a known activation -/
structure PEAt (X : Cx) (c : Code) (e : Expr) (t : TE) : Prop where
  run : ∀ (pins : List (Addr × Obj)) (s : Shared) (σ : L2.St) (H : Hp) (Q : VK), Inv X pins σ H s → t σ H Q → wpAt (model X.prog X.w) X.A c (eval e X.env) (EP X pins σ Q) X.xe s
/-- what the written part says of m behind D, for objects of the class C -/
structure Nxt (K : PySem.W.Frag) (C D : Addr) (m : Str) (f : Addr) : Prop where
  at_ : PySem.W.ks_superIn K C D m = some (some (.ref f))
  fn : PySem.W.fnIn K f = true
  ty : PySem.W.typeIn K (.ref f) = some (.type "function")
  me : PySem.W.mroIn K C (.ref D) = some true
  opq : PySem.W.nsIn K cStatics "thirdparty.any" = some none
/-- super().m(): the object stands in the first slot -/
def tSupM (P : Program) (w : World) (K : PySem.W.Frag) (mg : Str → Option Value) (base : Heap) (CX : CXT) (k : Nat) (D : Addr) (m : Str) (E : XK) : TE := fun σ H Q => ∃ (a C dx : Addr) (fs : List (Str × V)) (f : Addr) (fd : FuncData) (ps : List Str) (sp : Sp),
  σ[0]? = some (some (.ref a)) ∧ H a = some (.ins C dx fs) ∧ Nxt K C D m f ∧ Binds K fd ps [] ∧ FnOk P w K mg base CX k f fd ps sp ∧ sp [.ref a] H Q E
section
variable {X : Cx}
theorem peat_super {body : List Stmt} {f cc cda D : Addr} {fd : FuncData} {oc : Value} {od : Option Addr} {osl : Array (Option Value)} {cl : Value} {cld : Option Addr} {csl : Array (Option Value)} {ar : Arg} {p0 p1 apos cpos : Pos} {pl : Sem Bool} {m : Str} {CX : CXT} {k : Nat} {E : XK}
    (hDc : ∃ cd, PySem.W.clsIn X.K D = some cd) (G : CodeF X.K X.prog cda) (hr : Room k X.A) (hx : Passes CX X E)
    (hf : X.K.lookup f = some ⟨oc, od, .func fd, osl⟩) (hp : (fd.params.posonlyargs ++ fd.params.args).head? = some ar)
    (hcell : X.K.lookup cc = some ⟨cl, cld, .cell (some (.ref D)), csl⟩) (hsuper : X.mg "super" = none)
    (hfu : X.env.func = some f) (hco : X.env.code = .ref cda) (hcl : X.env.cells.lookup ("__class__" : Str) = some cc)
    (hks : X.env.scope.names.lookup ("super" : Str) = some .globalImplicit) (hkc : X.env.scope.names.lookup ("__class__" : Str) = some .free) (hka : Loc X.env.scope ar.arg)
    (hN : X.N[0]? = some ar.arg) (hnm : (m == ("__class__" : Str)) = false)
    (hev : eval (.Call (.Attribute (.Call (.Name "super" p0) [] [] p1) m apos) [] [] cpos) X.env = (do
      let ov ← attributeBase (.Call (.Name "super" p0) [] [] p1) m X.env (eval (.Call (.Name "super" p0) [] [] p1) X.env)
      standAt apos.atName
      let (f, first) ← holding [ov] (getMethod ov m pl)
      callWith cpos f first (backTo cpos (starEach [] X.env)) [])) :
    PEAt X (.func body X.env) (.Call (.Attribute (.Call (.Name "super" p0) [] [] p1) m apos) [] [] cpos) (tSupM X.prog X.w X.K X.mg X.base CX k D m E) := by
  refine ⟨fun pins s σ H Q I h => ?_⟩
  obtain ⟨a, C, dx, fs, g, gd, ps, sp, hσ, ea, N, hb, F, q⟩ := h
  obtain ⟨ccl, cdd, vs, ccs, file, tf, hcode, hvs, hfile⟩ := G.at_
  obtain ⟨cdD, hD⟩ := hDc
  have I0 := I
  obtain ⟨hh, gg, d, t, os⟩ := s
  have XK := I.kIn
  obtain ⟨oD, hD1, hD2⟩ : ∃ oD, hh.get? D = some oD ∧ oD.data = .cls cdD := by
    unfold PySem.W.clsIn at hD
    split at hD
    · rename_i c d cd' sl ho
      cases hD
      exact ⟨_, XK _ _ ho, rfl⟩
    · cases hD
  obtain ⟨mb, hb1, hb2⟩ := I.mod.blt
  obtain ⟨mm, hn, hl⟩ := id I.loc
  obtain ⟨u0, ru0, lk0⟩ := hl 0 ar.arg (.ref a) hN hσ (hka.elim Or.inl fun z => Or.inr (Or.inl z))
  obtain rfl : u0 = Value.ref a := ru0
  obtain ⟨mA, OM, _, _, _, _⟩ := ins_get I.hok ea
  have IA := OM.obj
  refine PySem.ks_wpAt_MethodCall ?_ hev
  refine PySem.ks_wpAt_super_base (env := X.env) hks hkc hnm hfu (XK _ _ hf) rfl hp hco (XK _ _ hcode) rfl hvs hfile G.noTop ?_
  refine PySem.W.ks_loadName_global I.ok.kind hks (PySem.Calls.loadGlobal_builtin (by rw [I.ok.glob]; exact I.mod.glob.keeps I.bk) hsuper (by rw [I.ok.blt]; exact hb1.keeps I.bk) ((hb2 "super" (by decide)).trans (by decide +kernel)) ⟨rfl, ?_⟩)
  refine wpAny_loadName_free I.ok.kind hkc hcl ⟨_, XK _ _ hcell, rfl⟩ ?_
  have ldSelf : ∀ {A : Around} {E : Value → Shared → Prop} {Q : Value → Shared → Prop}, Q (Value.ref a) ⟨hh, gg, d, t, os⟩ → wpAny (model X.prog X.w) A (loadName X.env ar.arg) Q E ⟨hh, gg, d, t, os⟩ := by
    intro A E Q q
    rcases lk0 with ⟨hkl, e⟩ | ⟨hkc', c, hc, hv⟩
    · exact wpAny_loadName_local I.ok.kind hkl hn e q
    · rcases hka with z | z
      · exfalso
        rcases hkc' with y | y
        · have y' : X.env.scope.names.lookup ar.arg = some .cell := y
          rw [z] at y'; cases y'
        · have y' : X.env.scope.names.lookup ar.arg = some .free := y
          rw [z] at y'; cases y'
      · exact wpAny_loadName_cell I.ok.kind z hc hv q
  refine ldSelf ?_
  refine ks_wpAny_isType_cls hD1 hD2 ⟨rfl, ?_⟩
  refine ks_wpAny_call_super hD1 hD2 IA rfl (fun c z => nomatch z) (PySem.W.looks_mroIn XK N.me) (fun h' e1 k1' => ?_)
  have I1 : Inv X pins σ H ⟨h', gg, d, t, os⟩ := I.kept (t' := t) k1'
  have X1 := I1.kIn
  have IA1 : h'.get? a = _ := k1' _ _ IA
  cases hc : PySem.W.clsIn X.K C with
  | none => have z := N.at_; unfold PySem.W.ks_superIn at z; rw [hc] at z; cases z
  | some cd =>
    have q1 := N.at_
    unfold PySem.W.ks_superIn at q1
    rw [hc] at q1
    obtain ⟨of, hof, hofc⟩ : ∃ of, h'.get? g = some of ∧ of.cls = .type "function" := by
      have ht' : (X.K.lookup g).map (·.cls) = some (.type "function") := N.ty
      cases z : X.K.lookup g with
      | none => rw [z] at ht'; cases ht'
      | some of => rw [z] at ht'; exact ⟨of, X1 _ _ z, Option.some.inj ht'⟩
    have ne : a ≠ C := fun z => by
      unfold PySem.W.clsIn at hc
      split at hc
      · rename_i c d cd' sl ho
        have w := X1 _ _ ho
        rw [← z, IA1] at w
        cases w
      · cases hc
    refine PySem.ks_wpAny_getMethod_super e1 (PySem.W.looks_opaque X1 N.opq) (l₀ := cd.mro) ?_ rfl X1 q1 hof hofc ne hnm ?_
    · exact fun A Q E s k q => wpAny_bind ((PySem.W.looks_clsIn X1 hc) A _ E s k (wpAny_pure q))
    have I2 : Inv X ((h'.objs.size, PySem.W.methodObj (.ref g) (.ref a)) :: pins) σ H ⟨h'.push (PySem.W.methodObj (.ref g) (.ref a)), gg, d, t + 1, os⟩ :=
      pin_new I1 (fun _ _ z => Heap.get?_push_of_some _ z) (Nat.le_refl _) (Heap.get?_push_size h' rfl) (fun v z => nomatch z)
    refine PySem.W.callWith_M0 (K := X.K) (g := g) (self := .ref a) ⟨pin_at I2, I2.kIn⟩ N.fn ?_
    have hl2 : ([Value.ref a] ++ []).length = ps.length := F.len _ _ _ _ q
    have z : wpAny (model X.prog X.w) X.A (call (.ref h'.objs.size) []) (EP X ((h'.objs.size, PySem.W.methodObj (.ref g) (.ref a)) :: pins) σ Q) X.xe ⟨h'.push (PySem.W.methodObj (.ref g) (.ref a)), gg, d, t + 1, os⟩ :=
      wpAny_call (PySem.W.method_call (pin_at I2) (codeAny_mono (F.run X.A X.stack _ H ⟨[.ref a], []⟩ [.ref a] [.ref a] Q E hr I2.env0 (hb _ [.ref a] I2.kIn hl2) (.cons rfl .nil) q) fun r s' hq => by
        cases r with
        | error e => exact hx _ σ H _ e s' I2 hq
        | ok fl =>
          cases fl with
          | ret u => exact I2.after hq
          | next => exact False.elim hq
          | brk => exact False.elim hq
          | cont => exact False.elim hq))
    exact thn z fun _ _ y => unpinE y
/-- x = super().m() -/
theorem psat_asg {body : List Stmt} {e : Expr} {te : TE} {x : Str} {i : Nat} {pos' pos : Pos} (he : PEAt X (.func body X.env) e te) (hN : X.N.Nodup) (hi : X.N[i]? = some x) (hx : Loc X.env.scope x) (hf : X.fn x = true ∨ X.env.scope.names.lookup x = some .local)
    (hs : swapsWith e (some (.Name x pos')) pos.line X.env = pure false) : PSat1 X (.func body X.env) (.Assign [.Name x pos'] e pos) (tAsg te (gName i)) := by
  refine ⟨fun pins s σ H D I h => ?_⟩
  refine PySem.ks_wpAt_Assign_Name (ks_wpAt_mono (he.run pins s σ H _ I h) (fun v s1 r => ?_) fun _ _ z => z) hs
  obtain ⟨x', H1, I1, r1, q1⟩ := r
  exact store_ok I1 hN hi hx r1 (fun s' I' => ⟨_, H1, I', q1⟩) hf
theorem psat_ret {body : List Stmt} {e : Expr} {te : TE} {pos : Pos} (he : PEAt X (.func body X.env) e te) : PSat1 X (.func body X.env) (.Return (some e) pos) (tRet te) := by
  refine ⟨fun pins s σ H D I h => ?_⟩
  refine PySem.ks_wpAt_Return_some (ks_wpAt_mono (he.run pins s σ H _ I h) (fun v s1 r => ?_) fun _ _ z => z)
  obtain ⟨x', H1, I1, r1, q1⟩ := r
  exact ⟨x', σ, H1, I1, r1, q1⟩
end
end My

set_option Elab.async false
set_option linter.all false
set_option maxRecDepth 100000
set_option maxHeartbeats 4000000
/-! ### a def that closes over its class and has cells of its own -/
namespace My
open PySem L2 NdefX ClX
theorem cellsFrom_app : ∀ (names : List (Str × NameKind)) (n : Nat) (acc : List (Str × Addr)), cellsFrom n names acc = cellsFrom n names [] ++ acc
  | [], _, _ => rfl
  | (y, k) :: r, n, acc => by
    unfold cellsFrom
    by_cases h : (k == .cell) = true
    · rw [if_pos h, if_pos h, cellsFrom_app r (n + 1) ((y, n) :: acc), cellsFrom_app r (n + 1) [(y, n)], List.append_assoc]
      rfl
    · rw [if_neg h, if_neg h]
      exact cellsFrom_app r n acc
theorem cellsFrom_mem : ∀ {names : List (Str × NameKind)} {n : Nat} {y : Str} {c : Addr}, (y, c) ∈ cellsFrom n names [] → (y, NameKind.cell) ∈ names
  | [], _, _, _, h => nomatch h
  | (z, k) :: r, n, y, c, h => by
    unfold cellsFrom at h
    by_cases g : (k == .cell) = true
    · rw [if_pos g, cellsFrom_app r (n + 1) [(z, n)]] at h
      rcases List.mem_append.mp h with h | h
      · exact List.mem_cons_of_mem _ (cellsFrom_mem h)
      · have e := List.mem_singleton.mp h
        cases e
        have : k = .cell := by cases k <;> first | rfl | cases g
        subst this
        exact List.mem_cons_self
    · rw [if_neg g] at h
      exact List.mem_cons_of_mem _ (cellsFrom_mem h)
theorem lookup_app1 {l : List (Str × Addr)} {y k : Str} {c d : Addr} (h : (l ++ [(k, d)]).lookup y = some c) : l.lookup y = some c ∨ (l.lookup y = none ∧ y = k ∧ c = d) := by
  rw [List.lookup_append] at h
  cases e : l.lookup y with
  | some c' =>
    rw [e] at h
    exact Or.inl h
  | none =>
    rw [e] at h
    have h : List.lookup y [(k, d)] = some c := h
    rw [List.lookup_cons, List.lookup_nil] at h
    by_cases g : y = k
    · rw [beq_iff_eq.mpr g] at h
      exact Or.inr ⟨rfl, g, (Option.some.inj h).symm⟩
    · rw [beq_eq_false_iff_ne.mpr g] at h
      cases h
theorem lookup_app_of {l : List (Str × Addr)} {y k : Str} {c d : Addr} (h : l.lookup y = some c) : (l ++ [(k, d)]).lookup y = some c := by
  rw [List.lookup_append, h]
  rfl
/-- names: its parameters (plain or cells), then `__class__` -/
structure DScope (N ps : List Str) (sc : Scope) : Prop where
  kind : sc.kind = .function
  co : sc.isCoroutine = false
  gen : sc.isGenerator = false
  nd : N.Nodup
  pre : N.take (ps.length + 1) = ps ++ [("__class__" : Str)]
  par : ∀ x ∈ ps, sc.names.lookup x = some .local ∨ sc.names.lookup x = some .cell
  free : ∀ y ∈ sc.names, y.2 = .free → y.1 = ("__class__" : Str)
  frk : sc.names.lookup ("__class__" : Str) = some .free
  ncl : ∀ y ∈ sc.names, y.2 = .cell → y.1 ≠ ("__class__" : Str)
def dscB (N ps : List Str) (sc : Scope) : Bool :=
  decide (sc.kind = .function) && !sc.isCoroutine && !sc.isGenerator && decide N.Nodup && decide (N.take (ps.length + 1) = ps ++ [("__class__" : Str)]) && ps.all (fun x => decide (sc.names.lookup x = some .local) || decide (sc.names.lookup x = some .cell)) && sc.names.all (fun y => !decide (y.2 = .free) || decide (y.1 = ("__class__" : Str))) && decide (sc.names.lookup ("__class__" : Str) = some .free) && sc.names.all (fun y => !decide (y.2 = .cell) || !decide (y.1 = ("__class__" : Str)))
theorem dscope_by {N ps : List Str} {sc : Scope} (h : dscB N ps sc = true) : DScope N ps sc := by
  unfold dscB at h
  simp only [Bool.and_eq_true, Bool.not_eq_true', decide_eq_true_eq, List.all_eq_true, Bool.or_eq_true, decide_eq_false_iff_not] at h
  obtain ⟨⟨⟨⟨⟨⟨⟨⟨h1, h2⟩, h3⟩, h4⟩, h5⟩, h6⟩, h7⟩, h8⟩, h9⟩ := h
  exact ⟨h1, h2, h3, h4, h5, h6, fun y hy e => (h7 y hy).elim (fun z => absurd e z) id, h8, fun y hy e => (h9 y hy).elim (fun z => absurd e z) id⟩
theorem storeName_ext {env : Env} {z : Str × Addr} {n : Str} {v : Value} (hk : env.scope.kind = .function) (h : env.kindOf n = some .local ∨ (env.kindOf n = some .cell ∧ (env.cells.lookup n).isSome = true)) :
    storeName { env with cells := env.cells ++ [z] } n v = storeName env n v := by
  have e1 : ({ env with cells := env.cells ++ [z] } : Env).kindOf n = env.kindOf n := rfl
  unfold storeName
  rw [e1]
  rcases h with h | ⟨h, hc⟩
  · rw [h]
    rfl
  · obtain ⟨c, hc⟩ := Option.isSome_iff_exists.mp hc
    have e2 : PySem.cellOf ({ env with cells := env.cells ++ [z] } : Env) n = PySem.cellOf env n := by
      unfold PySem.cellOf
      rw [hc]
      show (match (env.cells ++ [z]).lookup n with | some c => _ | none => _) = _
      rw [lookup_app_of (k := z.1) (d := z.2) hc]
    rw [h, e2]
    rfl
section
variable {M : Model} {A : Around} {E : Value → Shared → Prop} {s₀ s : Shared} {m cm : Str → Option Value} {env : Env}
theorem wpAny_bindParamsD {z : Str × Addr} (f : Str × Value → PUnit → Sem (ForInStep PUnit)) (hf : ∀ n v u, f (n, v) u = (do storeName { env with cells := env.cells ++ [z] } n v; pure (.yield ⟨⟩))) (hk : env.scope.kind = .function) :
    ∀ (binds : List (Str × Value)) (m cm : Str → Option Value) (s : Shared) (Q : PUnit → Shared → Prop), InCallC s₀ env.locals m env.cells cm s →
      (∀ x ∈ binds, env.kindOf x.1 = some .local ∨ (env.kindOf x.1 = some .cell ∧ (env.cells.lookup x.1).isSome = true)) →
      (∀ s', InCallC s₀ env.locals (bindL env.kindOf binds m) env.cells (bindC env.kindOf binds cm) s' → Q ⟨⟩ s') → wpAny M A (forIn binds ⟨⟩ f) Q E s
  | [], m, cm, s, Q, x, _, h => by rw [List.forIn_nil]; exact wpAny_pure (h s x)
  | (n, v) :: r, m, cm, s, Q, x, hkind, h => by
    rw [List.forIn_cons, hf, storeName_ext hk (hkind (n, v) List.mem_cons_self)]
    have hr : ∀ y ∈ r, env.kindOf y.1 = some .local ∨ (env.kindOf y.1 = some .cell ∧ (env.cells.lookup y.1).isSome = true) := fun y hy => hkind y (List.mem_cons_of_mem _ hy)
    rcases hkind (n, v) List.mem_cons_self with hl | ⟨hl, hc⟩
    · refine wpAny_bind (wpAny_bind (stLC x hk hl fun s' x' => wpAny_pure (wpAny_bindParamsD f hf hk r _ _ s' Q x' hr fun s'' x'' => h s'' ?_)))
      unfold bindL bindC; rw [if_pos hl, if_pos hl]; exact x''
    · obtain ⟨c, hc⟩ := Option.isSome_iff_exists.mp hc
      have hnl : ¬ env.kindOf n = some .local := by rw [hl]; decide
      refine wpAny_bind (wpAny_bind (stCC x hk hl hc fun s' x' => wpAny_pure (wpAny_bindParamsD f hf hk r _ _ s' Q x' hr fun s'' x'' => h s'' ?_)))
      unfold bindL bindC; rw [if_neg hnl, if_neg hnl]; exact x''
end
section
variable {M : Model} {A : Around} {E : Value → Shared → Prop} {s : Shared}
theorem wpAny_newFunctionEnvD {scope : Scope} {globals : Addr} {z : Str × Addr} {binds : List (Str × Value)} {qual : Str} {func : Option Addr} {code : Value} {builtins : Addr} {Q : Env → Shared → Prop}
    (hk : scope.kind = .function)
    (hkind : ∀ x ∈ binds, scope.names.lookup x.1 = some .local ∨ (scope.names.lookup x.1 = some .cell ∧ ((cellsFrom (s.heap.objs.size + 1) scope.names []).lookup x.1).isSome = true))
    (hQ : ∀ env, env = newEnv scope s.heap.objs.size globals (cellsFrom (s.heap.objs.size + 1) scope.names []) qual func code none builtins →
      ∀ s', InCallC s env.locals (bindL env.kindOf binds fun _ => none) env.cells (bindC env.kindOf binds fun _ => none) s' → Q { env with cells := env.cells ++ [z] } s') :
    wpAny M A (newFunctionEnv scope globals [z] binds qual func code none builtins) Q E s := by
  simp only [newFunctionEnv, Option.isSome_none, Bool.false_eq_true, if_false]
  refine wpAny_bind (wpAny_alloc ?_)
  refine wpAny_bind (wpAny_layCells _ (fun name kind cells => by cases hkc : kind == NameKind.cell <;> simp [hkc]) _ _ _ _ ?_)
  have ok := cellsFrom_ok scope.names (s.heap.push { cls := .type "frame", data := .dict #[] }) (s.heap.objs.size + 1) [] ⟨fun _ _ hm => (nomatch hm), List.Pairwise.nil⟩ (by rw [Heap.size_push]; exact Nat.le_refl _)
  rw [Heap.size_push] at ok
  rw [show ({ s with heap := s.heap.push { cls := .type "frame", data := .dict #[] } } : Shared).heap.objs.size = s.heap.objs.size + 1 from Heap.size_push .., cellsFrom_app scope.names (s.heap.objs.size + 1) [z]]
  refine wpAny_bind (wpAny_bindParamsD (z := z) (s₀ := s) (env := newEnv scope s.heap.objs.size globals (cellsFrom (s.heap.objs.size + 1) scope.names []) qual func code none builtins)
    _ (fun _ _ _ => rfl) hk binds (fun _ => none) (fun _ => none) _ _
    ⟨⟨⟨_, _, rfl⟩, (Heap.Ns.new s.heap (.type "frame")).keeps (pushCells_keeps _ _), fun b o e => pushCells_keeps _ _ b o (Heap.get?_push_of_some _ e), Nat.le_refl _⟩,
      fun n c hc => (ok.empty n c (mem_of_lookup hc)).1, ok.apart, fun n c hm => (ok.empty n c hm).2⟩
    hkind fun s' x => wpAny_pure (hQ _ rfl s' x))
end
abbrev envD (qual : Str) (sc : Scope) (L f cda cc : Addr) : Env := PySem.W.envX qual sc L f (.ref cda) (cellsFrom (L + 1) sc.names [] ++ [(("__class__" : Str), cc)])
def cxD (CX : CXT) (P : Program) (w : World) (K : PySem.W.Frag) (mg : Str → Option Value) (base : Heap) (N : List Str) (qual : Str) (sc : Scope) (f cda cc : Addr) (A : Around) (outer : List Env) (s : Shared) (H : Hp) (E : XK) : Cx where
  prog := P
  w := w
  K := K
  mg := mg
  base := base
  A := A.deeper (envD qual sc s.heap.objs.size f cda cc)
  N := N
  s_0 := s
  H_0 := H
  env := envD qual sc s.heap.objs.size f cda cc
  outer := outer
  stack := envD qual sc s.heap.objs.size f cda cc :: outer
  ex := []
  calm := true
  fn := fun x => !(x == ("__class__" : Str))
  pn := []
  xe := fun e s' => wpAny (model P w) (A.deeper (envD qual sc s.heap.objs.size f cda cc)) (leaving (envD qual sc s.heap.objs.size f cda cc) e) (fun _ s'' => CX outer H s E e s'') (fun e' s'' => CX outer H s E e' s'') s'
theorem inv_startD {CX : CXT} {P : Program} {w : World} {K : PySem.W.Frag} {mg : Str → Option Value} {base : Heap} {N ps : List Str} {qual : Str} {scope : Scope} {f cda cc D : Addr} {A : Around} {outer : List Env} {s s1 : Shared} {H : Hp} {E : XK} {us : List Value} {vs : List V}
    (S : DScope N ps scope) (hd : A.handled = none) (e0 : Env0 P w K mg base A outer s H) (hl : vs.length = ps.length) (r : Vals vs us) (hcc : s.heap.IsCell cc (some (.ref D))) (hcH : H cc = none)
    (x : InCallC s s.heap.objs.size (bindL (fun y => scope.names.lookup y) (ps.zip us) fun _ => none) (cellsFrom (s.heap.objs.size + 1) scope.names []) (bindC (fun y => scope.names.lookup y) (ps.zip us) fun _ => none) s1) :
    Inv (cxD CX P w K mg base N qual scope f cda cc A outer s H E) [] (startF N vs [some (.ref D)]) H s1 := by
  have hpl : ps.length + 1 ≤ N.length := by
    have q := congrArg List.length S.pre
    rw [List.length_take, List.length_append] at q
    have : ([("__class__" : Str)] : List Str).length = 1 := rfl
    omega
  obtain ⟨h1, tk, rfl, hk⟩ := x.done
  have noA : ∀ b : Addr, b ∉ (cxD CX P w K mg base N qual scope f cda cc A outer s H E).ex := fun b z => absurd (show b ∈ ([] : List Addr) from z) (by simp)
  have clt : cc < s.heap.objs.size := hcc.lt
  have noC : (cellsFrom (s.heap.objs.size + 1) scope.names []).lookup ("__class__" : Str) = none := by
    cases e : (cellsFrom (s.heap.objs.size + 1) scope.names []).lookup ("__class__" : Str) with
    | none => rfl
    | some c =>
      exact absurd rfl (S.ncl _ (cellsFrom_mem (PySem.mem_of_lookup e)) rfl)
  have ccl : (cellsFrom (s.heap.objs.size + 1) scope.names [] ++ [(("__class__" : Str), cc)]).lookup ("__class__" : Str) = some cc := by
    rw [List.lookup_append, noC]
    rfl
  refine ⟨⟨e0.mod, S.kind, rfl, rfl, Nat.le_refl _, fun y z c h1 h2 => ?_, fun y hy => ?_, fun y c hy h => ?_, fun _ => hd, Around.frames_deeper e0.frames, .inr ⟨rfl, rfl⟩, fun b z => absurd z (noA b), e0.bs, e0.bsz, fun b _ _ => noA b, fun b z => absurd z (noA b), e0.funs, e0.frf⟩,
    rfl, e0.bare, Un.kept hk, ⟨_, x.toInCall.ns, fun i y v h1 h2 h3 => ?_⟩, fun y c h => ?_, e0.hok.fresh (Nat.le_refl _), fun y c h => ?_, fun p hp => absurd (show p ∈ ([] : List (Addr × Obj)) ++ [] from hp) (by simp), e0.hok.kept hk, ?_⟩
  · rcases lookup_app1 h1 with a | ⟨_, a, a'⟩ <;> rcases lookup_app1 h2 with b | ⟨_, b, b'⟩
    · exact name_of_addr x.apart (PySem.mem_of_lookup a) (PySem.mem_of_lookup b)
    · have w1 : s.heap.objs.size < c := x.above _ _ (PySem.mem_of_lookup a)
      rw [b'] at w1
      exact absurd w1 (Nat.lt_asymm clt)
    · have w1 : s.heap.objs.size < c := x.above _ _ (PySem.mem_of_lookup b)
      rw [a'] at w1
      exact absurd w1 (Nat.lt_asymm clt)
    · rw [a, b]
  · have hy : scope.names.lookup y = some .cell ∨ scope.names.lookup y = some .free := hy
    rcases hy with hy | hy
    · obtain ⟨c, e⟩ := cell_has (n := s.heap.objs.size + 1) hy
      exact ⟨c, lookup_app_of e⟩
    · have := S.free _ (PySem.mem_of_lookup hy) rfl
      have : y = ("__class__" : Str) := this
      subst this
      exact ⟨cc, ccl⟩
  · rcases lookup_app1 h with a | ⟨_, a, _⟩
    · exact Nat.le_of_lt (x.above y c (PySem.mem_of_lookup a))
    · subst a
      have hy : (!(("__class__" : Str) == ("__class__" : Str))) = true := hy
      rw [beq_self_eq_true] at hy
      cases hy
  · have h1 : N[i]? = some y := h1
    unfold startF at h2
    by_cases hi : i < ps.length
    · have hq : (ps ++ [("__class__" : Str)])[i]? = some y := by
        rw [← S.pre, List.getElem?_take_of_lt (by omega)]
        exact h1
      rw [List.getElem?_append_left hi] at hq
      rw [List.getElem?_append_left (by rw [List.length_map]; omega), List.getElem?_map] at h2
      have ha : vs[i]? = some v := by
        cases e : vs[i]? with
        | none => rw [e] at h2; cases h2
        | some a => rw [e] at h2; cases h2; rfl
      obtain ⟨u, hu, rv⟩ := r.get ha
      have ndP : ps.Nodup := by
        have q := S.nd.sublist (List.take_sublist (ps.length + 1) N)
        rw [S.pre] at q
        exact (List.nodup_append.mp q).1
      refine ⟨u, rv, ?_⟩
      rcases S.par y (List.mem_of_getElem? hq) with k | k
      · exact .inl ⟨k, bindL_get ndP hq hu k⟩
      · obtain ⟨c, e⟩ := cell_has (n := s.heap.objs.size + 1) k
        refine .inr ⟨.inl k, c, lookup_app_of e, ?_⟩
        have q := x.cell y c e
        rw [bindC_get ndP hq hu (by show scope.names.lookup y ≠ _; rw [k]; decide)] at q
        exact q
    · rw [List.getElem?_append_right (by rw [List.length_map]; omega), List.length_map] at h2
      by_cases h2' : i < ps.length + 1
      · have hq : (ps ++ [("__class__" : Str)])[i]? = some y := by
          rw [← S.pre, List.getElem?_take_of_lt (by omega)]
          exact h1
        have ei : i = ps.length := by omega
        subst ei
        rw [List.getElem?_append_right (Nat.le_refl _), Nat.sub_self] at hq
        have ey : y = ("__class__" : Str) := (Option.some.inj hq).symm
        subst ey
        rw [hl, Nat.sub_self] at h2
        have ev : v = .ref D := (Option.some.inj (Option.some.inj h2)).symm
        subst ev
        exact ⟨.ref D, rfl, .inr ⟨.inr S.frk, cc, ccl, hcc.keeps hk⟩⟩
      · rw [List.getElem?_append_right (by show (1 : Nat) ≤ _; omega), List.getElem?_replicate] at h2
        split at h2 <;> cases h2
  · rcases lookup_app1 h with a | ⟨_, _, a⟩
    · exact ⟨_, x.cell y c a⟩
    · subst a
      exact ⟨_, hcc.keeps hk⟩
  · rcases lookup_app1 h with a | ⟨_, _, a⟩
    · exact e0.hok.fresh (Nat.le_of_lt (x.above y c (PySem.mem_of_lookup a)))
    · subst a
      exact hcH
  · unfold startF
    show _ = N.length
    rw [List.length_append, List.length_append, List.length_map, List.length_replicate]
    have : ([some (.ref D)] : List (Option V)).length = 1 := rfl
    omega
section
variable {P : Program} {w : World} {K : PySem.W.Frag} {mg : Str → Option Value} {base : Heap}
theorem FunX.okD {CX : CXT} {x qual : Str} {st : Stmt} {f cc cda D : Addr} {fd : FuncData} {N ps : List Str} {k : Nat} {sp : Sp} (F : FunX K x qual st f fd cc cda D) (S : DScope N ps (defScope st)) (len : ∀ vs H Q E, sp vs H Q E → vs.length = ps.length)
    (hbody : ∀ (A : Around) (outer : List Env) (s : Shared) (H : Hp) (vs : List V) (Q : VK) (E : XK), Room k (A.deeper (envD qual (defScope st) s.heap.objs.size f cda cc)) → sp vs H Q E →
      ∃ t, PSat (cxD CX P w K mg base N qual (defScope st) f cda cc A outer s H E) (.func (defBody st) (envD qual (defScope st) s.heap.objs.size f cda cc)) (defBody st) t ∧ t { nx := fun _ H' => Q .non H', rt := Q } (startF N vs [some (.ref D)]) H) :
    FnOk P w K mg base CX (k + 1) f fd ps sp := by
  obtain ⟨oc, od, kV, doc, pm, an, ct, osl, rfl, lk, hcd⟩ := F.ex
  obtain ⟨cl, cld, csl, hcc⟩ := F.cell
  refine ⟨len, fun A outer s H args us vs Q E hr e0 hb r hsp => ?_⟩
  have hl := len _ _ _ _ hsp
  have KX : K.In s.heap := e0.mod.kin.keeps fun b o e => (e0.bs b o e).1
  have lim : s.heap.NoLimit := e0.mod.nolimit.keeps fun b o e => (e0.bs b o e).1
  have hcB := e0.mod.kin _ _ hcc
  have hkind : ∀ y ∈ ps.zip us, (defScope st).names.lookup y.1 = some .local ∨ ((defScope st).names.lookup y.1 = some .cell ∧ ((cellsFrom (s.heap.objs.size + 1) (defScope st).names []).lookup y.1).isSome = true) := fun ⟨n, v⟩ hy => by
    rcases S.par n (List.of_mem_zip hy).1 with q | q
    · exact .inl q
    · exact .inr ⟨q, PySem.W.cellsFrom_some _ _ _ (.inl q)⟩
  refine codeAny_call_function hr.depth (KX _ _ lk) rfl S.co S.gen rfl (PySem.W.codeRec_of KX hcd) (hb _ _ _ _ ?_)
  refine wpAny_newFunctionEnvD (z := (("__class__" : Str), cc)) S.kind hkind fun env he s1 x => ?_
  subst he
  refine ⟨lim.keeps x.toInCall.keep, PySem.ks_codeAny_funcAt ?_⟩
  obtain ⟨t, ht, hq⟩ := hbody A outer s H vs Q E (hr.deeper _) hsp
  have I : Inv (cxD CX P w K mg base N qual (defScope st) f cda cc A outer s H E) [] (startF N vs [some (.ref D)]) H s1 := inv_startD S hr.hd e0 hl r ⟨_, KX _ _ hcc, rfl⟩ (e0.bs _ _ hcB).2 x
  refine wpAt_mono (ht.run [] _ (startF N vs [some (.ref D)]) H _ I hq) (fun fl s' hs => ?_) fun e s' hs => hs
  have fin : ∀ {σ' : L2.St} {H' : Hp} {v : V} {u : Value}, Inv (cxD CX P w K mg base N qual (defScope st) f cda cc A outer s H E) [] σ' H' s' → L2.RelV v u → Q v H' → CE outer P w H s Q u s' :=
    fun {σ' H' v u} J rv q => ⟨v, H', J.os, J.bare, J.base, J.hok, rv, q⟩
  cases fl with
  | ret u =>
    obtain ⟨v, σ', H', J, rv, q⟩ := hs
    exact fin J rv q
  | next =>
    obtain ⟨σ', H', J, q⟩ := hs
    exact fin (v := V.non) (u := Value.none) J rfl q
  | brk =>
    obtain ⟨_, _, _, q⟩ := hs
    exact False.elim q
  | cont =>
    obtain ⟨_, _, _, q⟩ := hs
    exact False.elim q
end
end My

set_option Elab.async false
set_option linter.all false
set_option maxRecDepth 100000
set_option maxHeartbeats 4000000
/-! ### dicts whose keys are tuples of tuples (of ints, texts and None) -/
namespace My
open PySem L2
mutual
/-- the value v is the nested key k, its tuples as they stand in H -/
inductive NkAt (H : Hp) : V → NestedKey → Prop where
  | non : NkAt H .non .none
  | int (i : Int) : NkAt H (.int i) (.num i)
  | str (x : Str) : NkAt H (.str x) (.text x)
  | tup {a : Addr} {xs : List V} {ks : List NestedKey} (e : H a = some (.tup xs)) (h : NkAll H xs ks) : NkAt H (.ref a) (.tup ks)
inductive NkAll (H : Hp) : List V → List NestedKey → Prop where
  | nil : NkAll H [] []
  | cons {v : V} {k : NestedKey} {vs : List V} {ks : List NestedKey} (h : NkAt H v k) (t : NkAll H vs ks) : NkAll H (v :: vs) (k :: ks)
end
mutual
theorem NkAt.tp {H H' : Hp} (ht : ∀ b ys, H b = some (.tup ys) → H' b = some (.tup ys)) : ∀ {v : V} {k : NestedKey}, NkAt H v k → NkAt H' v k
  | _, _, .non => .non
  | _, _, .int i => .int i
  | _, _, .str x => .str x
  | _, _, .tup e h => .tup (ht _ _ e) (NkAll.tp ht h)
theorem NkAll.tp {H H' : Hp} (ht : ∀ b ys, H b = some (.tup ys) → H' b = some (.tup ys)) : ∀ {vs : List V} {ks : List NestedKey}, NkAll H vs ks → NkAll H' vs ks
  | _, _, .nil => .nil
  | _, _, .cons h t => .cons (NkAt.tp ht h) (NkAll.tp ht t)
end
mutual
theorem nk_is {P : Program} {w : World} {H : Hp} {h : Heap} (ok : HOk P w H h) : ∀ {v : V} {k : NestedKey} {u : Value}, NkAt H v k → RelV v u → NestedIs h k u
  | _, _, u, .non, r => by
    obtain rfl : u = Value.none := r
    exact .none
  | _, _, u, .int i, r => by
    obtain ⟨t, rfl⟩ := (show ∃ t, u = Value.int i t from r)
    exact .int i t
  | _, _, u, .str x, r => by
    obtain ⟨t, rfl⟩ := (show ∃ t, u = Value.str x t from r)
    exact .text x t
  | _, _, u, .tup (a := a) (xs := xs) e h, r => by
    obtain rfl : u = Value.ref a := r
    obtain ⟨_, its, rv, o, h1, h2, n, h3⟩ := (show ObjOk P w H _ a (.tup xs) from ok a _ e)
    exact .tup h1 h2 h3 (by simpa using nka_is ok h rv)
theorem nka_is {P : Program} {w : World} {H : Hp} {h : Heap} (ok : HOk P w H h) : ∀ {vs : List V} {ks : List NestedKey} {us : List Value}, NkAll H vs ks → Vals vs us → NestedAll h ks us
  | _, _, _, .nil, .nil => .nil
  | _, _, _, .cons a t, .cons r rs => .cons (nk_is ok a r) (nka_is ok t rs)
end
abbrev NE := NestedKey × Addr × V
/-- the entries as told, and as they stand -/
abbrev NRel (xs : List NE) (ys : List (NestedKey × Addr × Value)) : Prop := Paired (fun x y => y.1 = x.1 ∧ y.2.1 = x.2.1 ∧ RelV x.2.2 y.2.2) xs ys
def DnO (P : Program) (w : World) (d : Addr) (xs : List NE) : HO := .ext fun h => xs.length ≤ sizeLine ∧ (d == sysModules) = false ∧ ∃ o es ep ys, NRel xs ys ∧ h.get? d = some o ∧ o.ExactDict ∧ o.data = .dict es ep ∧ es.toList = ys.map (entryOfKey (nestedKind P w)) ∧ (ys.map (·.1)).Nodup
/-- the keys' tuples stand -/
def NKeys (H : Hp) (xs : List NE) : Prop := ∀ x ∈ xs, NkAt H (.ref x.2.1) x.1 ∧ x.1.depth ≤ 8
/-- at d a dict with the nested keys and values kvs (the empty one is of every kind) -/
def DnAt (P : Program) (w : World) (H : Hp) (d : Addr) (kvs : List (NestedKey × V)) : Prop := (H d = some (.dK []) ∧ kvs = []) ∨ ∃ xs, H d = some (DnO P w d xs) ∧ xs.map (fun x => (x.1, x.2.2)) = kvs ∧ NKeys H xs
def valN (kvs : List (NestedKey × V)) (k : NestedKey) : Option V := (kvs.find? fun p => decide (p.1 = k)).map (·.2)
def putN (kvs : List (NestedKey × V)) (k : NestedKey) (v : V) : List (NestedKey × V) := if (valN kvs k).isSome then kvs.map (fun p => if p.1 = k then (p.1, v) else p) else kvs ++ [(k, v)]
def putX (xs : List NE) (k : NestedKey) (a : Addr) (v : V) : List NE := if (valN (xs.map fun x => (x.1, x.2.2)) k).isSome then xs.map (fun x => if x.1 = k then (x.1, x.2.1, v) else x) else xs ++ [(k, a, v)]
theorem NRel.val {xs : List NE} {ys : List (NestedKey × Addr × Value)} (r : NRel xs ys) (k : NestedKey) : RelO (valN (xs.map fun x => (x.1, x.2.2)) k) ((atKey ys k).map (·.2)) := by
  induction r with
  | nil => exact True.intro
  | @cons x y xs ys h t ih =>
    unfold valN atKey at ih ⊢
    rw [List.map_cons, List.find?_cons, List.find?_cons]
    by_cases e : x.1 = k
    · rw [decide_eq_true e, decide_eq_true (h.1.trans e)]
      exact h.2.2
    · rw [decide_eq_false e, decide_eq_false (fun z => e (h.1.symm.trans z))]
      exact ih
theorem NRel.repl {xs : List NE} {ys : List (NestedKey × Addr × Value)} (r : NRel xs ys) (k : NestedKey) {v : V} {u : Value} (rv : RelV v u) : NRel (xs.map (fun x => if x.1 = k then (x.1, x.2.1, v) else x)) (ys.map (putAt k u)) := by
  induction r with
  | nil => exact .nil
  | @cons x y xs ys h t ih =>
    rw [List.map_cons, List.map_cons]
    refine .cons ?_ ih
    unfold putAt
    by_cases e : x.1 = k
    · rw [if_pos e, if_pos (h.1.trans e)]
      exact ⟨h.1, h.2.1, rv⟩
    · rw [if_neg e, if_neg (fun z => e (h.1.symm.trans z))]
      exact h
theorem NRel.put {xs : List NE} {ys : List (NestedKey × Addr × Value)} (r : NRel xs ys) (k : NestedKey) (a : Addr) {v : V} {u : Value} (rv : RelV v u) : NRel (putX xs k a v) (storedH ys k a u) := by
  have e : (valN (xs.map fun x => (x.1, x.2.2)) k).isSome = (atKey ys k).isSome := by
    rw [(r.val k).isSome_eq, Option.isSome_map]
  unfold putX storedH
  rw [e]
  by_cases q : (atKey ys k).isSome = true
  · rw [if_pos q, if_pos q]; exact r.repl k rv
  · rw [if_neg q, if_neg q]; exact Paired.snoc r ⟨rfl, rfl, rv⟩
theorem putX_kvs {xs : List NE} {k : NestedKey} {a : Addr} {v : V} : (putX xs k a v).map (fun x => (x.1, x.2.2)) = putN (xs.map fun x => (x.1, x.2.2)) k v := by
  unfold putX putN
  split
  · rw [List.map_map, List.map_map]
    refine List.map_congr_left fun x _ => ?_
    by_cases h : x.1 = k <;> simp [h]
  · simp
theorem putX_len (xs : List NE) (k : NestedKey) (a : Addr) (v : V) : (putX xs k a v).length ≤ xs.length + 1 := by
  unfold putX
  split
  · rw [List.length_map]; omega
  · simp
theorem NKeys.put {H : Hp} {xs : List NE} {k : NestedKey} {a : Addr} {v : V} (h : NKeys H xs) (hk : NkAt H (.ref a) k) (hd : k.depth ≤ 8) : NKeys H (putX xs k a v) := by
  intro x hx
  unfold putX at hx
  split at hx
  · obtain ⟨y, hy, rfl⟩ := List.mem_map.mp hx
    have := h y hy
    by_cases e : y.1 = k
    · rw [if_pos e]; exact this
    · rw [if_neg e]; exact this
  · rcases List.mem_append.mp hx with hx | hx
    · exact h x hx
    · rw [List.mem_singleton.mp hx]; exact ⟨hk, hd⟩
section
variable {P : Program} {w : World} {H : Hp} {h : Heap} {d : Addr} {kvs : List (NestedKey × V)}
theorem dn_rd (ok : HOk P w H h) (e : DnAt P w H d kvs) : kvs.length ≤ sizeLine ∧ (d == sysModules) = false ∧ Mut (H d) ∧ ∃ xs ys, xs.map (fun x => (x.1, x.2.2)) = kvs ∧ NKeys H xs ∧ NRel xs ys ∧ h.DictOfH (nestedKind P w) d ys := by
  rcases e with ⟨e, rfl⟩ | ⟨xs, e, rfl, hk⟩
  · obtain ⟨_, hd, vs, rel, o, es, ep, h1, h2, h3, h4, h5, h6⟩ := dk_of ok e
    refine ⟨Nat.zero_le _, hd, by rw [e]; exact True.intro, [], [], rfl, (fun _ h => nomatch h), .nil, o, es, ep, h1, h2, h3, ?_, (fun _ h => nomatch h), List.nodup_nil⟩
    cases rel
    generalize hl : es.toList = l at h5
    cases h5
    rfl
  · obtain ⟨⟨z, hd, o, es, ep, ys, r, h1, h2, h3, h4, h5⟩, _, _⟩ := (show ObjOk P w H h d (DnO P w d xs) from ok d _ e)
    refine ⟨by rw [List.length_map]; exact z, hd, by rw [e]; exact True.intro, xs, ys, rfl, hk, r, o, es, ep, h1, h2, h3, h4, fun y hy => ?_, h5⟩
    have all : ∀ {xs : List NE} {ys : List (NestedKey × Addr × Value)}, NRel xs ys → NKeys H xs → ∀ y ∈ ys, (nestedKind P w).is h y.1 y.2.1 := by
      intro xs ys q
      induction q with
      | nil => intro _ y hy; exact nomatch hy
      | @cons x y xs ys hq t ih =>
        intro hk y' hy
        rcases List.mem_cons.mp hy with e | hy
        · subst e
          have := hk x List.mem_cons_self
          rw [hq.1, hq.2.1]
          exact ⟨nk_is ok this.1 rfl, this.2⟩
        · exact ih (fun x hx => hk x (List.mem_cons_of_mem _ hx)) y' hy
    exact all r hk y hy
theorem dn_typeIs {s : Shared} (ok : HOk P w H s.heap) (e : DnAt P w H d kvs) : s.TypeIs (.ref d) "dict" := by
  obtain ⟨_, _, _, _, _, _, _, _, dd⟩ := dn_rd ok e
  exact dd.typeIs
theorem dn_new {H' : Hp} {h' : Heap} {xs : List NE} {ys : List (NestedKey × Addr × Value)} (z : xs.length ≤ sizeLine) (hd : (d == sysModules) = false) (r : NRel xs ys) (dd : h'.DictOfH (nestedKind P w) d ys) : ObjOk P w H' h' d (DnO P w d xs) := by
  obtain ⟨o, es, ep, h1, h2, h3, h4, _, h5⟩ := dd
  refine ⟨⟨z, hd, o, es, ep, ys, r, h1, h2, h3, h4, h5⟩, ⟨o, h1⟩, fun a b q k => ?_⟩
  obtain ⟨z, hd, o, es, ep, ys, r, h1, h2, h3, h4, h5⟩ := q
  exact ⟨z, hd, o, es, ep, ys, r, k o h1, h2, h3, h4, h5⟩
end
section
variable {X : Cx} {pins : List (Addr × Obj)} {σ : L2.St} {H : Hp} {s : Shared} {d a : Addr} {kvs : List (NestedKey × V)} {k : NestedKey} {v : V} {r : Value} {A : Around} {E : Value → Shared → Prop}
theorem n_key (I : Inv X pins σ H s) (hk : NkAt H (.ref a) k) (h8 : k.depth ≤ 8) : (nestedKind X.prog X.w).is s.heap k a := ⟨nk_is I.hok hk rfl, h8⟩
/-- k in d -/
theorem n_in {Q : Value → Shared → Prop} (hu : (nestedKind X.prog X.w).room A.in1) (I : Inv X pins σ H s) (e : DnAt X.prog X.w H d kvs) (hk : NkAt H (.ref a) k) (h8 : k.depth ≤ 8) (h : ∀ s', Inv X pins σ H s' → Q (.bool (valN kvs k).isSome) s') :
    wpAny (model X.prog X.w) A (compareOp .In (.ref a) (.ref d)) Q E s := by
  obtain ⟨z, hd, _, xs, ys, rfl, nk, rel, dd⟩ := dn_rd I.hok e
  refine wpAny_in_heap hu (n_key I hk h8) hd dd ?_
  have q := (rel.val k).isSome_eq
  rw [Option.isSome_map] at q
  rw [← q]
  exact h _ (I.tok _)
theorem n_notIn {Q : Value → Shared → Prop} (hu : (nestedKind X.prog X.w).room A.in1) (I : Inv X pins σ H s) (e : DnAt X.prog X.w H d kvs) (hk : NkAt H (.ref a) k) (h8 : k.depth ≤ 8) (h : ∀ s', Inv X pins σ H s' → Q (.bool (!(valN kvs k).isSome)) s') :
    wpAny (model X.prog X.w) A (compareOp .NotIn (.ref a) (.ref d)) Q E s := by
  obtain ⟨z, hd, _, xs, ys, rfl, nk, rel, dd⟩ := dn_rd I.hok e
  show wpAny _ _ (do return .bool (!(← contains (.ref d) (.ref a)))) Q E s
  refine wpAny_bind (wpAny_contains_heap hu (n_key I hk h8) hd dd (wpAny_pure ?_))
  have q := (rel.val k).isSome_eq
  rw [Option.isSome_map] at q
  rw [← q]
  exact h _ (I.tok _)
/-- d[k], there -/
theorem n_getItem {Q : Value → Shared → Prop} (hu : (nestedKind X.prog X.w).room A.in1) (I : Inv X pins σ H s) (e : DnAt X.prog X.w H d kvs) (hk : NkAt H (.ref a) k) (h8 : k.depth ≤ 8) (l : valN kvs k = some v) (h : ∀ w' s', Inv X pins σ H s' → RelV v w' → Q w' s') :
    wpAny (model X.prog X.w) A (getItem (.ref d) (.ref a)) Q E s := by
  obtain ⟨z, hd, _, xs, ys, rfl, nk, rel, dd⟩ := dn_rd I.hok e
  obtain ⟨w', hw, rw'⟩ := RelO.some_of (v := v) (o := (atKey ys k).map (·.2)) (by rw [← l]; exact rel.val k)
  obtain ⟨p, hp, hp2⟩ := Option.map_eq_some_iff.mp hw
  refine wpAny_getItem_heap hu (n_key I hk h8) dd hp ?_
  rw [hp2]
  exact h w' _ (I.tok _) rw'
theorem n_stored {h' : Heap} {t' : Nat} {xs : List NE} {ys : List (NestedKey × Addr × Value)} (I : Inv X pins σ H s) (mu : Mut (H d)) (hd : (d == sysModules) = false) (z : xs.length < sizeLine) (nk : NKeys H xs) (rel : NRel xs ys) (hk : NkAt H (.ref a) k) (h8 : k.depth ≤ 8) (rv : RelV v r)
    (dd : h'.DictOfH (nestedKind X.prog X.w) d (storedH ys k a r)) (hs : Heap.SameBut d s.heap h') : Inv X pins σ (upd H d (DnO X.prog X.w d (putX xs k a v))) { s with heap := h', toks := t' } ∧ DnAt X.prog X.w (upd H d (DnO X.prog X.w d (putX xs k a v))) d (putN (xs.map fun x => (x.1, x.2.2)) k v) := by
  have hl : (putX xs k a v).length ≤ sizeLine := by have := putX_len xs k a v; omega
  refine ⟨d_write I mu hs ?_ (dn_new hl hd (rel.put k a rv) dd), .inr ⟨_, upd_same, putX_kvs, fun x hx => ?_⟩⟩
  · obtain ⟨q, _, _, hq, _⟩ := dd
    exact ⟨q, hq⟩
  · obtain ⟨a1, a2⟩ := nk.put hk h8 (v := v) x hx
    refine ⟨a1.tp fun b ys e => ?_, a2⟩
    rw [upd_ne]
    · exact e
    · intro z
      subst z
      rw [e] at mu
      exact mu
/-- d[k] = v -/
theorem n_setItem {Q : Unit → Shared → Prop} (hu : (nestedKind X.prog X.w).room A.in1) (I : Inv X pins σ H s) (e : DnAt X.prog X.w H d kvs) (hk : NkAt H (.ref a) k) (h8 : k.depth ≤ 8) (hz : kvs.length < sizeLine) (rv : RelV v r)
    (h : ∀ ob s', DnAt X.prog X.w (upd H d ob) d (putN kvs k v) → Inv X pins σ (upd H d ob) s' → Q () s') : wpAny (model X.prog X.w) A (setItem (.ref d) (.ref a) r) Q E s := by
  obtain ⟨z, hd, mu, xs, ys, rfl, nk, rel, dd⟩ := dn_rd I.hok e
  rw [List.length_map] at hz
  have hl : ys.length ≤ sizeLine := by rw [← Paired.length rel]; omega
  refine wpAny_setItem_heap (hsz := hl) hu (n_key I hk h8) dd fun h' dd' hs => ?_
  obtain ⟨I', e'⟩ := n_stored I mu hd hz nk rel hk h8 rv dd' hs
  exact h _ _ e' I'
/-- d.setdefault(k, v) -/
theorem n_setdefault {Q : Value → Shared → Prop} (hu : (nestedKind X.prog X.w).room A.in1) (I : Inv X pins σ H s) (e : DnAt X.prog X.w H d kvs) (hk : NkAt H (.ref a) k) (h8 : k.depth ≤ 8) (hz : kvs.length < sizeLine) (rv : RelV v r)
    (h1 : ∀ v' w' s', valN kvs k = some v' → Inv X pins σ H s' → RelV v' w' → Q w' s')
    (h2 : valN kvs k = none → ∀ ob s', DnAt X.prog X.w (upd H d ob) d (putN kvs k v) → Inv X pins σ (upd H d ob) s' → Q r s') : wpAny (model X.prog X.w) A (call (.builtin "dict.setdefault") [.ref d, .ref a, r]) Q E s := by
  obtain ⟨z, hd, mu, xs, ys, rfl, nk, rel, dd⟩ := dn_rd I.hok e
  rw [List.length_map] at hz
  have hl : ys.length ≤ sizeLine := by rw [← Paired.length rel]; omega
  have rk := rel.val k
  refine call_setdefault_heap (hsz := hl) hu (n_key I hk h8) hd dd (fun p hp => ?_) fun hn h' dd' hs => ?_
  · rw [hp] at rk
    cases hv : valN (xs.map fun x => (x.1, x.2.2)) k with
    | none => rw [hv] at rk; exact False.elim rk
    | some v' =>
      rw [hv] at rk
      exact h1 v' p.2 _ hv (I.tok _) rk
  · rw [hn] at rk
    obtain ⟨I', e'⟩ := n_stored I mu hd hz nk rel hk h8 rv dd' hs
    refine h2 ?_ _ _ e' I'
    cases hv : valN (xs.map fun x => (x.1, x.2.2)) k with
    | none => rfl
    | some v' => rw [hv] at rk; exact False.elim rk
end
/-! ### readings and rules -/
/-- y is a nested key in H -/
def NKey (H : Hp) (y : V) (k : NestedKey) : Prop := ∃ a, y = .ref a ∧ NkAt H y k ∧ k.depth ≤ 8
/-- d[y] -/
def tNGet (P : Program) (w : World) (td ty : TE) : TE := fun σ H Q => td σ H fun x H1 => ty σ H1 fun y H2 => ∃ d kvs k v, x = .ref d ∧ DnAt P w H2 d kvs ∧ NKey H2 y k ∧ valN kvs k = some v ∧ Q v H2
/-- y in d, y not in d -/
def tNIn (P : Program) (w : World) (ty td : TE) : TE := fun σ H Q => ty σ H fun y H1 => td σ H1 fun x H2 => ∃ d kvs k, x = .ref d ∧ DnAt P w H2 d kvs ∧ NKey H2 y k ∧ Q (.bl (valN kvs k).isSome) H2
def tNNotIn (P : Program) (w : World) (ty td : TE) : TE := fun σ H Q => ty σ H fun y H1 => td σ H1 fun x H2 => ∃ d kvs k, x = .ref d ∧ DnAt P w H2 d kvs ∧ NKey H2 y k ∧ Q (.bl (!(valN kvs k).isSome)) H2
/-- d[y] = v -/
def sNPut (P : Program) (w : World) (td ty tv : TE) : TS := fun D σ H => tv σ H fun v H1 => td σ H1 fun x H2 => ty σ H2 fun y H3 => ∃ d kvs k, x = .ref d ∧ DnAt P w H3 d kvs ∧ NKey H3 y k ∧ kvs.length < sizeLine ∧ ∀ ob, DnAt P w (upd H3 d ob) d (putN kvs k v) → D.nx σ (upd H3 d ob)
/-- d.setdefault(y, v) -/
def tNDef (P : Program) (w : World) (td : TE) (ta : TA) : TE := fun σ H Q => td σ H fun x H1 => (∃ d kvs0, x = .ref d ∧ DnAt P w H1 d kvs0) ∧ ta σ H1 fun xs H2 => ∃ d kvs k y v, x = .ref d ∧ xs = [y, v] ∧ DnAt P w H2 d kvs ∧ NKey H2 y k ∧ kvs.length < sizeLine ∧
  (∀ v', valN kvs k = some v' → Q v' H2) ∧ (valN kvs k = none → ∀ ob, DnAt P w (upd H2 d ob) d (putN kvs k v) → Q v (upd H2 d ob))
theorem n_room {A : Around} (hu : A.units + 64 < cLine) {P : Program} {w : World} : (nestedKind P w).room A.in1 := by
  show A.units + 1 + 8 < cLine
  omega
section
variable {X : Cx} {o i e value : Expr} {pos pos' tpos : Pos} {td ty tv : TE}
theorem pe_nget (hu : X.A.units + 64 < cLine) (ho : PE X o td) (hi : PE X i ty) (hs : NoSl i) : PE X (.Subscript o i pos) (tNGet X.prog X.w td ty) := by
  refine ⟨fun pins s σ H Q I h => ?_⟩
  refine subD_of PySem.F.slot_dict_getitem.lookup hs (thn (ho.run pins s σ H _ I h) fun u s1 ⟨x, H1, I1, rx, q1⟩ => thn (hi.run pins s1 σ H1 _ I1 q1) fun iv s2 ⟨y, H2, I2, ry, d, kvs, k, v, ex, g, ⟨a, ey, hk, h8⟩, l, q2⟩ => ?_)
  subst ex ey
  obtain rfl : u = Value.ref d := rx
  obtain rfl : iv = Value.ref a := ry
  exact ⟨dn_typeIs I2.hok g, n_getItem (n_room hu) I2 g hk h8 l fun w' s3 I3 rw' => ⟨v, H2, I3, rw', q2⟩⟩
theorem pc_nin (hu : X.A.units + 64 < cLine) (hi : PE X i ty) (ho : PE X o td) : PC X .In i o (tNIn X.prog X.w ty td) := by
  refine ⟨fun pins s σ H Q I h => ?_⟩
  refine thn (hi.run pins s σ H _ I h) fun iv s1 ⟨y, H1, I1, ry, q1⟩ => thn (ho.run pins s1 σ H1 _ I1 q1) fun u s2 ⟨x, H2, I2, rx, d, kvs, k, ex, g, ⟨a, ey, hk, h8⟩, q2⟩ => ?_
  subst ex ey
  obtain rfl : u = Value.ref d := rx
  obtain rfl : iv = Value.ref a := ry
  exact n_in (n_room hu) I2 g hk h8 fun s3 I3 => ⟨.bl (valN kvs k).isSome, H2, I3, rfl, q2⟩
theorem pc_nnotin (hu : X.A.units + 64 < cLine) (hi : PE X i ty) (ho : PE X o td) : PC X .NotIn i o (tNNotIn X.prog X.w ty td) := by
  refine ⟨fun pins s σ H Q I h => ?_⟩
  refine thn (hi.run pins s σ H _ I h) fun iv s1 ⟨y, H1, I1, ry, q1⟩ => thn (ho.run pins s1 σ H1 _ I1 q1) fun u s2 ⟨x, H2, I2, rx, d, kvs, k, ex, g, ⟨a, ey, hk, h8⟩, q2⟩ => ?_
  subst ex ey
  obtain rfl : u = Value.ref d := rx
  obtain rfl : iv = Value.ref a := ry
  exact n_notIn (n_room hu) I2 g hk h8 fun s3 I3 => ⟨.bl (!(valN kvs k).isSome), H2, I3, rfl, q2⟩
theorem ps_nput (hu : X.A.units + 64 < cLine) (ho : PE X o td) (hi : PE X i ty) (hv : PE X value tv) (hs : swapsWith value (some (.Subscript o i pos')) pos.line X.env = pure false) :
    PS X (.Assign [.Subscript o i pos'] value pos) (sNPut X.prog X.w td ty tv) := by
  refine ⟨fun pins s σ H D I h => ?_⟩
  refine wpAny_Assign_Subscript (thn (hv.run pins s σ H _ I h) fun r s1 ⟨v, H1, I1, rv, q1⟩ => thn (ho.run pins s1 σ H1 _ I1 q1) fun u s2 ⟨x, H2, I2, rx, q2⟩ => thn (hi.run pins s2 σ H2 _ I2 q2) fun iv s3 ⟨y, H3, I3, ry, d, kvs, k, ex, g, ⟨a, ey, hk, h8⟩, hz, q3⟩ => ?_) hs
  subst ex ey
  obtain rfl : u = Value.ref d := rx
  obtain rfl : iv = Value.ref a := ry
  exact n_setItem (n_room hu) I3 g hk h8 hz rv fun ob s4 e4 I4 => ⟨σ, upd H3 d ob, I4, q3 ob e4⟩
theorem pe_ndef {es : List Expr} {t : TA} {apos cpos : Pos} (hu : X.A.units + 64 < cLine) (ho : PE X o td) (ha : PA X (e :: es) t)
    (hbase : attributeBase o "setdefault" X.env (eval o X.env) = eval o X.env := by rfl)
    (hfew : ((backTo cpos (starEach (e :: es) X.env)).all (fun x => !x.1) && (backToKw cpos (keywordEach [] X.env)).all (fun x => x.1.isSome)
      && decide ((e :: es).length + ([] : List Keyword).length + (if ([] : List Keyword).isEmpty then 0 else 1) < 30)) = true := by rfl)
    (hline : (apos.endLine == cpos.line) = true := by rfl) (hs : starEach (e :: es) X.env = (false, eval e X.env) :: starEach es X.env := by rfl) (hplain : (backTo cpos (starEach es X.env)).any (·.1) = false := by rfl) :
    PE X (.Call (.Attribute o "setdefault" apos) (e :: es) [] cpos) (tNDef X.prog X.w td t) := by
  refine ⟨fun pins s σ H Q I h => ?_⟩
  refine wpAny_Call_method_late hbase hfew hline rfl (thn (ho.run pins s σ H _ I h) fun v s1 ⟨x, H1, I1, r1, ⟨d, kvs0, ex, g0⟩, q1⟩ => ?_)
  subst ex
  obtain rfl : v = Value.ref d := r1
  have ty := dn_typeIs I1.hok g0
  have nd : ∀ b, Value.ref d = .ref b → ∃ ob, s1.heap.get? b = some ob ∧ ob.dict = none := fun b q => by
    cases q
    obtain ⟨_, _, _, _, _, _, _, _, ob, _, _, h1, h2, _⟩ := dn_rd I1.hok g0
    exact ⟨ob, h1, h2.2.1⟩
  refine ⟨"dict", "dict.setdefault", PySem.F.plainAttrs_dict, PySem.F.slot_dict_setdefault, PySem.F.type_dict_setdefault, ty, nd, ?_⟩
  have hA := ha.run cpos pins s1 σ H1 _ I1 q1
  rw [hs] at hA ⊢
  refine Calls.callWith_builtin (by show (false || (backTo cpos (starEach es X.env)).any (·.1)) = false; rw [hplain] <;> rfl) (Calls.evalArgs_plain ?_)
  refine thn hA fun us s2 ⟨vs, H2, I2, r2, d', kvs, k, y, v, ex, exs, g, ⟨a, ey, hk, h8⟩, hz, q2, q3⟩ => ?_
  cases ex
  subst exs ey
  obtain ⟨u1, u2, rfl, ra, rv⟩ := vals2 r2
  obtain rfl : u1 = Value.ref a := ra
  exact n_setdefault (n_room hu) I2 g hk h8 hz rv (fun v' w' s' hv I' r' => ⟨v', H2, I', r', q2 v' hv⟩) fun hn ob s' e' I' => ⟨v, _, I', rv, q3 hn ob e'⟩
/-- len(d) -/
def rLenN (P : Program) (w : World) : List V → Hp → VK → Prop := fun xs H Q => ∃ d kvs, xs = [.ref d] ∧ DnAt P w H d kvs ∧ Q (.int (kvs.length : Nat)) H
theorem call_lenN : CallR X (.builtin "len") (rLenN X.prog X.w) := by
  intro pins s σ H xs us Q I r h
  obtain ⟨d, kvs, rfl, g, q⟩ := h
  obtain ⟨u, rfl, ru⟩ := vals1 r
  obtain rfl : u = Value.ref d := ru
  obtain ⟨z, hd, _, es, ys, hk, _, rel, dd⟩ := dn_rd I.hok g
  have hl : (pairsH ys).length = kvs.length := by rw [pairsH_length, ← Paired.length rel, ← hk, List.length_map]
  have hm : s.heap.DictKeyed (nestedKind X.prog X.w) d (pairsH ys) := ⟨ys, dd, rfl⟩
  refine PyProof.Rows.call_len_slot (n := (pairsH ys).length) hm.typeIs PySem.F.slot_dict_len (fun Q' hq => len_keyed hd hm hq) (by omega) (by rw [hl]; rw [sizeLine_eq] at z; omega) ?_
  rw [hl]
  exact ⟨.int (kvs.length : Nat), H, I.tok _, ⟨_, rfl⟩, q⟩
end
end My

set_option Elab.async false
set_option linter.all false
set_option maxRecDepth 100000
set_option maxHeartbeats 4000000
/-! ### a call of an own object within a comprehension: a reading without the context -/
namespace My
open PySem PySem.Spec PyProof.Rows L2 StX
def tCallOI (C : Addr) (sp : Sp) (E : XK) (tf : TE) (t : TA) : TE := fun σ H Q => tf σ H fun y H1 => ∃ a, y = V.ref a ∧ t σ H1 fun vs H2 => (∃ dx fs, H2 a = some (.ins C dx fs)) ∧ sp (V.ref a :: vs) H2 Q E
theorem pe_callOI {X : Cx} {CX : CXT} {E : XK} {C g : Addr} {fe e : Expr} {es : List Expr} {pos : Pos} {k : Nat} {sp : Sp} {tf : TE} {t : TA} (hf : PE X fe tf) (c : CallO X.K C g) (F : FnR X.prog X.w X.K X.mg X.base CX k g sp) (hr : Room k X.A) (hx : Passes CX X E) (ha : PA X (e :: es) t)
    (ht : eval (.Call fe (e :: es) [] pos) X.env = (do callWith pos (← eval fe X.env) [] (backTo pos (starEach (e :: es) X.env)) (backToKw pos (keywordEach [] X.env))) := by rfl)
    (he : starEach (e :: es) X.env = (false, eval e X.env) :: starEach es X.env := by rfl) (hpl : (backTo pos (starEach es X.env)).any (·.1) = false := by rfl) : PE X (.Call fe (e :: es) [] pos) (tCallOI C sp E tf t) := by
  refine ⟨fun pins s σ H Q I h => ?_⟩
  refine Call_ (thn (hf.run pins s σ H _ I h) fun u s1 ⟨y, H1, I1, ry, a, ey, q⟩ => ?_) ht
  subst ey
  obtain rfl : u = Value.ref a := ry
  refine callO_with (thn (ha.run pos pins s1 σ H1 _ I1 q) fun us s2 ⟨vs, H2, I2, r, hi, q2⟩ => ?_) he hpl
  obtain ⟨ox, od, J, hd⟩ := insC_at I2 (.inr hi)
  exact ⟨⟨C, ox, od, J, hd⟩, run_callO c F hr hx I2 (.inr hi) r q2⟩
end My

set_option Elab.async false
set_option linter.all false
set_option maxRecDepth 100000
set_option maxHeartbeats 4000000
/-! ### len(set(xs)), xs any list of ints -/
namespace My
open PySem PySem.Spec PyProof.Rows L2
/-- the first ones, in their order -/
def dedI (ns : List Int) : List Int := ns.foldl step_dedup []
theorem rangeGetD {ns : List Int} : (List.range ns.length).map (fun i => ns.getD i 0) = ns := by
  refine List.ext_getElem? fun i => ?_
  rw [List.getElem?_map]
  by_cases h : i < ns.length
  · rw [List.getElem?_range h]
    show some (ns.getD i 0) = _
    rw [List.getD_eq_getElem?_getD, List.getElem?_eq_getElem h]
    rfl
  · rw [List.getElem?_eq_none (by rw [List.length_range]; omega), List.getElem?_eq_none (by omega)]
    rfl
def tLenSetA (K : PySem.W.Frag) (ta : TE) : TE := fun σ H Q => ta σ H fun x H1 => ∃ (l : Addr) (ns : List Int), x = .ref l ∧ SqL K H1 l (ns.map V.int) ∧ ns.length ≤ 4000 ∧ Q (.int ((dedI ns).length : Nat)) H1
theorem pe_lenSetA {X : Cx} {a : Expr} {ta : TE} {p p2 q pos : Pos} (hg : Gl X "len") (hm : X.mg "len" = none) (hg2 : Gl X "set") (hm2 : X.mg "set" = none) (ha : PE X a ta) (hc : X.calm = true := by rfl)
    (na : starEach [a] X.env = (false, eval a X.env) :: starEach [] X.env := by rfl) : PE X (.Call (.Name "len" p) [.Call (.Name "set" p2) [a] [] q] [] pos) (tLenSetA X.K ta) := by
  refine ⟨fun pins s σ H Q I h => ?_⟩
  refine Call_ (ld_blt I hg hm boot_len ?_)
  refine PyProof.Rows.callWith_builtin1 (PyProof.Rows.args_cons ?_ rfl) rfl rfl
  refine Call_ (ld_blt I hg2 hm2 boot_set ?_)
  refine PyProof.Rows.callWith_type1 (PyProof.Rows.args_cons (thn (ha.run pins s σ H _ I h) fun v s1 ⟨x, H1, I1, r1, q1⟩ => PyProof.Rows.args_nil ?_) na) na rfl
  obtain ⟨l, ns, rfl, hq, hl, q1⟩ := q1
  cases r1
  obtain ⟨its, r, pl, hz⟩ := I1.list hq
  have hlen : its.toArray.size = ns.length := by rw [List.size_toArray, ← r.length, List.length_map]
  refine call_set_list (I1.ok.hd hc) pl.isList (by simpa using RZ.intsAre_vals r) (by rw [hlen]; unfold scanBound; omega) fun h' tk hS hk => ?_
  refine PyProof.Rows.args_nil ?_
  have ef : firstMet (fun i => ns.getD i 0) ns.length = dedI ns := by
    unfold firstMet dedI
    rw [rangeGetD]
  rw [hlen, ef] at hS
  have hle : (dedI ns).length ≤ ns.length := by rw [← ef]; exact firstMet_length_le _ _
  obtain ⟨o, es, ep, t, ho, hex, hd, _, _, _, hf, hn⟩ := hS
  have I2 : Inv X pins σ H1 { s1 with heap := h', toks := tk } := I1.kept fun b o e => hk b o (Heap.lt_size e) e
  exact call_len_set ho hex hd hf (by rw [hn] <;> omega) ⟨.int ((dedI ns).length : Nat), H1, I2.tok _, ⟨_, by rw [hn]⟩, q1⟩
end My

set_option Elab.async false
set_option linter.all false
set_option maxRecDepth 100000
set_option maxHeartbeats 4000000
/-! ### {k: v}, one pair, its key a tuple (of tuples) -/
namespace My
open PySem L2
/-- the new dict stands empty while the pair is made -/
def tDispN (P : Program) (w : World) (tk tv : TE) : TE := fun σ H Q => ∀ p, H p = none → tk σ (upd H p (.dK [])) fun x H1 => tv σ H1 fun y H2 => H2 p = some (.dK []) ∧ ∃ k, NKey H2 x k ∧ ∀ ob, DnAt P w (upd H2 p ob) p [(k, y)] → Q (.ref p) (upd H2 p ob)
theorem pe_dispN {X : Cx} {k v : Expr} {pos : Pos} {tk tv : TE} (hu : X.A.units + 64 < cLine) (hk : PE X k tk) (hv : PE X v tv) : PE X (.Dict [some k] [v] pos) (tDispN X.prog X.w tk tv) := by
  refine ⟨fun pins s σ H Q I q => ?_⟩
  have hn := I.hok.fresh (Nat.le_refl s.heap.objs.size)
  have I1 := I.laid (a := s.heap.objs.size) (o := .dK []) (h' := s.heap.push { cls := .type "dict", data := .dict #[] }) (t' := s.toks) (fun _ _ q => Heap.get?_push_of_some _ q) (Nat.le_refl _) (dk_empty s.heap I.big)
  have pp : PPs X pos [some k] [v] [(tk, tv)] := pps_cons hk hv pps_nil
  have len : (pairTrees [some k] [v] X.env pos).length = 1 := pairTrees_length [some k] [v] X.env pos rfl rfl
  rw [arm_eval_Dict, zip_pairTrees [some k] [v] X.env pos rfl rfl, dictDisplay_pairs _ (fun he => by rw [he] at len; cases len) (by omega)]
  refine wpAny_bind (wpAny_standAt (wpAny_bind (wpAny_subDictH (knd := nestedKind X.prog X.w) (by show X.A.units + 8 < cLine; omega) (by omega) (thn (pp.run pins _ σ _ (fun ps H3 => match ps with
    | [(kx, vx)] => H3 s.heap.objs.size = some (.dK []) ∧ ∃ k, NKey H3 kx k ∧ ∀ ob, DnAt X.prog X.w (upd H3 s.heap.objs.size ob) s.heap.objs.size [(k, vx)] → Q (.ref s.heap.objs.size) (upd H3 s.heap.objs.size ob)
    | _ => False) I1 (q _ hn)) fun ws s2 hq => ?_))))
  obtain ⟨ps, H3, I5, rel, qq⟩ := hq
  match ps, rel, qq with
  | [], _, qq => exact qq.elim
  | _ :: _ :: _, _, qq => exact qq.elim
  | [(kx, vx)], rel, qq =>
    obtain ⟨e2, key, ⟨a, rfl, hk, h8⟩, qf⟩ := qq
    cases rel with
    | @cons p q' ps qs hpq t =>
      cases t
      obtain ⟨u1, u2⟩ := q'
      obtain ⟨r1, r2⟩ := hpq
      obtain rfl : u1 = Value.ref a := r1
      obtain ⟨z, hd, mu, xs, ys, exs, nk, rel, dd⟩ := dn_rd (d := s.heap.objs.size) (kvs := []) I5.hok (.inl ⟨e2, rfl⟩)
      have exs : xs = [] := List.map_eq_nil_iff.mp exs
      subst exs
      cases rel
      refine ⟨[(key, a, u2)], ⟨rfl, rfl, n_key I5 hk h8, True.intro⟩, dd, fun h' tk dd' hs => ?_⟩
      obtain ⟨I', e'⟩ := n_stored (xs := []) (t' := tk) I5 mu hd (by rw [sizeLine_eq]; decide) nk .nil hk h8 r2 dd' hs
      exact wpAny_pure ⟨.ref s.heap.objs.size, _, I', rfl, qf _ e'⟩
end My

set_option Elab.async false
set_option linter.all false
set_option maxRecDepth 100000
set_option maxHeartbeats 4000000
/-! ### two dicts of data are alike: ==, != -/
namespace My
open PySem L2
theorem hits_data {X : Cx} {pins : List (Addr × Obj)} {σ : L2.St} {H : Hp} {s : Shared} (I : Inv X pins σ H s) {A : Around} (hu : A.units + 60 < cLine) {kvs : List (Key × V)} {vb : List (Key × Value)} (rb : KV kvs vb) {ks : List (Key × V)} {va : List (Key × Value)} (ra : KV ks va) :
    (∀ p ∈ ks, ∃ v d, valV kvs p.1 = some v ∧ Dp X.K H p.2 d ∧ Dp X.K H v d ∧ SeqAt.shaped d = true ∧ d.depth ≤ 60) → PySem.W.KeqHits A s vb va true := by
  unfold KV at ra
  induction ra with
  | nil => intro _; exact .nil
  | @cons p q ps qs h t ih =>
    intro hp
    obtain ⟨h1, h2⟩ := h
    obtain ⟨v', d, e, d1, d2, sh, dd⟩ := hp p List.mem_cons_self
    have rr : RelO (some v') (valueAt vb p.1) := by rw [← e]; exact rb.val p.1
    obtain ⟨y, hy, ry⟩ := rr.some_of
    obtain ⟨k, v⟩ := q
    have h1' : p.1 = k := h1
    rw [h1'] at hy
    obtain ⟨as, r1⟩ := Dp.reads I d p.2 v d1 h2
    obtain ⟨bs, r2⟩ := Dp.reads I d v' y d2 ry
    have lay := SeqAt.canLay_of_shaped sh
    have q := SeqAt.eqAt_reads d d A s v y as bs r1 r2 lay lay (by omega)
    rw [SeqAt.eqv_refl _ lay] at q
    show PySem.W.KeqHits A s vb ((k, v) :: qs) (true && true)
    exact .hit hy q (ih fun p' hm => hp p' (List.mem_cons_of_mem _ hm))
section
variable {X : Cx}
def AlikeD (K : PySem.W.Frag) (H : Hp) (x y : V) : Prop := ∃ a b ks ls, x = .ref a ∧ y = .ref b ∧ H a = some (.dK ks) ∧ H b = some (.dK ls) ∧ ks.length = ls.length ∧ ∀ p ∈ ks, ∃ v d, valV ls p.1 = some v ∧ Dp K H p.2 d ∧ Dp K H v d ∧ SeqAt.shaped d = true ∧ d.depth ≤ 60
def rEqDk (K : PySem.W.Frag) : R2 := fun x y H Q => AlikeD K H x y ∧ Q (.bl true) H
def rNeDk (K : PySem.W.Frag) : R2 := fun x y H Q => AlikeD K H x y ∧ Q (.bl false) H
theorem op_eqDk (hu : X.A.units + 64 < cLine) : OpR X (compareOp .Eq) (rEqDk X.K) := by
  intro pins s σ H x y v u Q I rx ry h
  obtain ⟨⟨a, b, ks, ls, rfl, rfl, ea, eb, hlen, hp⟩, q⟩ := h
  obtain rfl : v = Value.ref a := rx
  obtain rfl : u = Value.ref b := ry
  obtain ⟨_, ya, va, ra, da⟩ := (show ObjOk X.prog X.w H s.heap a (.dK ks) from I.hok a _ ea)
  obtain ⟨_, yb, vb, rb, db⟩ := (show ObjOk X.prog X.w H s.heap b (.dK ls) from I.hok b _ eb)
  have hl : va.length = vb.length := by rw [← ra.length, ← rb.length]; exact hlen
  exact PySem.W.keq_eq (knd := mixKind X.prog X.w) (r := true) ya yb da db (by omega) (fun _ => hits_data I (by show X.A.units + 1 + 60 < cLine; omega) rb ra hp) (fin_bl I q (by simp [hl]))
theorem op_neDk (hu : X.A.units + 64 < cLine) : OpR X (compareOp .NotEq) (rNeDk X.K) := by
  intro pins s σ H x y v u Q I rx ry h
  obtain ⟨⟨a, b, ks, ls, rfl, rfl, ea, eb, hlen, hp⟩, q⟩ := h
  obtain rfl : v = Value.ref a := rx
  obtain rfl : u = Value.ref b := ry
  obtain ⟨_, ya, va, ra, da⟩ := (show ObjOk X.prog X.w H s.heap a (.dK ks) from I.hok a _ ea)
  obtain ⟨_, yb, vb, rb, db⟩ := (show ObjOk X.prog X.w H s.heap b (.dK ls) from I.hok b _ eb)
  have hl : va.length = vb.length := by rw [← ra.length, ← rb.length]; exact hlen
  exact PySem.W.keq_ne (knd := mixKind X.prog X.w) (r := true) ya yb da db (by omega) (fun _ => hits_data I (by show X.A.units + 1 + 60 < cLine; omega) rb ra hp) (fin_bl I q (by simp [hl]))
end
end My

set_option Elab.async false
set_option linter.all false
/-! int(x), folded (as Tq's rInt1, under a name of its own) -/
namespace My
open PySem L2
def rIv : List V → Hp → VK → Prop := fun xs H Q => (∃ i, xs = [V.int i] ∧ Q (V.int i) H) ∨ ∃ k, xs = [V.bl k] ∧ Q (V.int (if k = true then 1 else 0)) H
theorem rIv_int {i : Int} {H : Hp} {Q : VK} : rIv [V.int i] H Q = Q (V.int i) H := by
  unfold rIv
  exact propext ⟨fun h => by rcases h with ⟨j, e, q⟩ | ⟨k, e, _⟩ <;> cases e; exact q, fun q => .inl ⟨i, rfl, q⟩⟩
theorem rIv_bl {k : Bool} {H : Hp} {Q : VK} : rIv [V.bl k] H Q = Q (V.int (if k = true then 1 else 0)) H := by
  unfold rIv
  exact propext ⟨fun h => by rcases h with ⟨j, e, _⟩ | ⟨k, e, q⟩ <;> cases e; exact q, fun q => .inr ⟨k, rfl, q⟩⟩
end My

set_option Elab.async false
set_option linter.all false
set_option maxRecDepth 100000
set_option maxHeartbeats 4000000
namespace My
open PySem L2
def top (i : Nat) : Stmt := PySem.Challenge.pw_coretower_k18_whole_least_table.main.body.getD i (.Pass ⟨0, 0, 0, 0⟩)
abbrev s_is_name : Stmt := top 10
theorem sc_is_name : FnScope ["value", "letter"] ["value"] (defScope s_is_name) := ⟨rfl, rfl, rfl, by decide +kernel, rfl, by decide +kernel, by decide +kernel⟩
abbrev s_is_below : Stmt := top 11
theorem sc_is_below : FnScope ["value", "bound"] ["value", "bound"] (defScope s_is_below) := ⟨rfl, rfl, rfl, by decide +kernel, rfl, by decide +kernel, by decide +kernel⟩
abbrev s_is_number : Stmt := top 12
theorem sc_is_number : FnScope ["value"] ["value"] (defScope s_is_number) := ⟨rfl, rfl, rfl, by decide +kernel, rfl, by decide +kernel, by decide +kernel⟩
abbrev s_is_pair : Stmt := top 19
theorem sc_is_pair : FnScope ["pair", "size", "answer", "state"] ["pair", "size"] (defScope s_is_pair) := ⟨rfl, rfl, rfl, by decide +kernel, rfl, by decide +kernel, by decide +kernel⟩
abbrev s_is_row : Stmt := top 18
theorem sc_is_row : FnScope ["row", "pair"] ["row"] (defScope s_is_row) := ⟨rfl, rfl, rfl, by decide +kernel, rfl, by decide +kernel, by decide +kernel⟩
abbrev s_check_rows : Stmt := top 17
theorem sc_check_rows : FnScope ["rows", "first_row", "name"] ["rows"] (defScope s_check_rows) := ⟨rfl, rfl, rfl, by decide +kernel, rfl, by decide +kernel, by decide +kernel⟩
def lets : Str := "abcdefghijklmnopqrstuvwxyz"
def lowC (c : Nat) : Bool := decide (97 ≤ c) && decide (c ≤ 122)
def nameS (z : Str) : Bool := decide (1 ≤ z.length) && (decide (z.length ≤ 8) && z.cps.toList.all lowC)
def nameD : PyData → Bool
  | .str z => nameS z
  | _ => false
def belowD (m : Int) : PyData → Bool
  | .int i => decide (0 ≤ i) && decide (i < m)
  | _ => false
mutual
def szD : PyData → Bool
  | .str z => decide (z.length ≤ 1000)
  | .tuple ds => szAll ds
  | .list ds => szAll ds
  | _ => true
def szAll : List PyData → Bool
  | [] => true
  | d :: ds => szD d && szAll ds
end
theorem szAll_mem : ∀ {ds : List PyData}, szAll ds = true → ∀ d ∈ ds, szD d = true
  | d :: ds, h, e, he => by
    have h' : (szD d && szAll ds) = true := h
    rw [Bool.and_eq_true] at h'
    rcases List.mem_cons.mp he with rfl | he
    · exact h'.1
    · exact szAll_mem h'.2 e he
structure Bt (mg : Str → Option Value) (tL t1 t2 : Tok) : Prop where
  b_isinstance : mg "isinstance" = none
  b_str : mg "str" = none
  b_int : mg "int" = none
  b_bool : mg "bool" = none
  b_tuple : mg "tuple" = none
  b_list : mg "list" = none
  b_len : mg "len" = none
  b_all : mg "all" = none
  c_LETTERS : mg "LETTERS" = some (.str lets tL)
  c_MOST_STATES : mg "MOST_STATES" = some (.int 100 t1)
  c_MOST_OPERATIONS : mg "MOST_OPERATIONS" = some (.int 6 t2)
/-- the promise of a test of data -/
def spD (pre : PyData → Prop) (f : PyData → Bool) : Sp := fun vs H Q _ => ∃ (v : V) (d : PyData), vs = [v] ∧ Dq H v d ∧ szD d = true ∧ pre d ∧ ∀ H', Kp [] H H' → Q (.bl (f d)) H'
def LowIn (z : Str) (D : Addr) (H : Hp) (i : Nat) (H' : Hp) : Prop := H' D = some (.lst ((z.cps.toList.take i).map fun c => V.bl (lowC c))) ∧ Kp [] H H'
theorem lets_mem (c : Nat) : decide (c ∈ lets.cps.toList) = lowC c := by
  have e : lets.cps.toList = (List.range 26).map (97 + ·) := by decide +kernel
  rw [e, Bool.eq_iff_iff, decide_eq_true_eq]
  unfold lowC
  rw [Bool.and_eq_true, decide_eq_true_eq, decide_eq_true_eq, List.mem_map]
  constructor
  · rintro ⟨i, hi, rfl⟩
    have := List.mem_range.mp hi
    omega
  · rintro ⟨h1, h2⟩
    exact ⟨c - 97, List.mem_range.mpr (by omega), by omega⟩
theorem all_take {α : Type} {f : α → Bool} {l : List α} : ((l.map fun c => f c).all id) = l.all f := by
  rw [List.all_map]; rfl
theorem take_snoc {α : Type} {l : List α} {i : Nat} {x : α} (h : l[i]? = some x) : l.take (i + 1) = l.take i ++ [x] := by
  rw [List.take_add_one, h]; rfl
section
variable {P : Program} {w : World} {K : PySem.W.Frag} {mg : Str → Option Value} {base : Heap} {tL t1 t2 : Tok}
theorem ok_is_name {f : Addr} {fd : FuncData} (D : Df K mg "is_name" s_is_name ["value"] f fd) (T : Bt mg tL t1 t2) : FnOk P w K mg base CX0 1 f fd ["value"] (spD (fun _ => True) nameD) := by
  refine D.F.ok sc_is_name (fun vs H Q E h => ?_) (fun cdv A outer s H vs Q E hr h => ?_)
  · obtain ⟨a, m, rfl, _⟩ := h
    rfl
  · obtain ⟨v, d, rfl, hd, sz, _, q⟩ := h
    have hu := hu_of hr
    refine ⟨_, (pss_cons (ps_if (pt_not (pt_val (pe_callB (id := "isinstance") (r := rIsi K) call_isi (by rfl) T.b_isinstance (by decide +kernel) (pa_cons (pv 0) (pa_cons (pe_bltn (v := .ty "str") (by rfl) T.b_str (by decide +kernel) rfl) pa_nil))))) (pss_one (ps_ret pe_bl)) pss_nil)
      (pss_one (ps_ret (pe_and (pe_chain op_le op_le pe_int (pe_callB (id := "len") call_len_str (by rfl) T.b_len PySem.boot_len (pa_cons (pv 0) pa_nil)) pe_int) (pe_one (pe_callB (id := "all") (r := rAll K) (cr_all rfl) (by rfl) T.b_all (by decide +kernel) (pa_cons (pe_lc (own := [("letter", 1)]) (g := (gName 1)) (tt := tYes) rfl sc_is_name.nd (pi_str (pv 0)) (blkOk_by (N := ["value", "letter"]) (sc := defScope s_is_name) (by decide +kernel)) (fun _ _ _ _ _ => (pg_name (i := 1) sc_is_name.nd rfl (Or.inl rfl))) (fun _ _ _ _ _ => pts_nil) (fun _ _ _ _ _ => (pe_cmpR op_in_sign (pv 1) (pe_glob (v := .str lets) rfl T.c_LETTERS ⟨_, rfl⟩) (by rfl)))) pa_nil))))))), ?_⟩
    try simp (maxSteps := 1000000) only [tSeq, tIfS, tTest, tOp, tUn, tCB, tCons, tNil, tVar, tC, rI0, rI, rU, rEq, rNe, tRet, tRetN, tAsg, gName, gSub, tBM, tBM0, tNext, tB, tNot, tAnd, tOr, tIf, tCall, tDrop, tBreak, tCont, L2.start, tDGet, sDPut, tTup, tLst, tDNewK, tRevL, rCat, rAppend, rPop, rSetL, tAndV, tOrV, tNotV, tSl, tPart, tNoPart, tM1, gTup, gCons, gNil, cxK, cxnK, List.map_cons, List.map_nil, List.length_cons, List.length_nil, List.replicate, List.cons_append, List.nil_append, List.append_nil, List.set_cons_zero, List.set_cons_succ, List.getElem?_cons_zero, List.getElem?_cons_succ, Option.some.injEq, V.ref.injEq, V.int.injEq, V.str.injEq, V.bl.injEq, V.ty.injEq, exists_eq_left', exists_eq_left, exists_and_left, List.cons.injEq, and_true, true_and, sc_ii, sc_ss, sc_bb, sc_ni, sc_in, sc_is, sc_si, sc_nn, decide_true, decide_false, reduceCtorEq, Bool.false_eq_true, if_true, if_false, ite_true, ite_false, exists_const, eq_self, false_and, and_false, or_false, false_or, exists_false, Evl.rLenS, rSum, wipe, tYes, exists_eq, exists_eq', rIxL, rIxT, rIxS, exists_and_right, gt_iff_lt, not_true_eq_false, not_false_eq_true, Bool.not_true, Bool.not_false, decide_eq_true_eq, Nat.reduceSub, Nat.reduceAdd, List.append_assoc, tChain, tDIn, tDNotIn, sDDel, tAug, ipI]
    refine isi_Dstr hd ?_
    try simp (maxSteps := 1000000) only [tSeq, tIfS, tTest, tOp, tUn, tCB, tCons, tNil, tVar, tC, rI0, rI, rU, rEq, rNe, tRet, tRetN, tAsg, gName, gSub, tBM, tBM0, tNext, tB, tNot, tAnd, tOr, tIf, tCall, tDrop, tBreak, tCont, L2.start, tDGet, sDPut, tTup, tLst, tDNewK, tRevL, rCat, rAppend, rPop, rSetL, tAndV, tOrV, tNotV, tSl, tPart, tNoPart, tM1, gTup, gCons, gNil, cxK, cxnK, List.map_cons, List.map_nil, List.length_cons, List.length_nil, List.replicate, List.cons_append, List.nil_append, List.append_nil, List.set_cons_zero, List.set_cons_succ, List.getElem?_cons_zero, List.getElem?_cons_succ, Option.some.injEq, V.ref.injEq, V.int.injEq, V.str.injEq, V.bl.injEq, V.ty.injEq, exists_eq_left', exists_eq_left, exists_and_left, List.cons.injEq, and_true, true_and, sc_ii, sc_ss, sc_bb, sc_ni, sc_in, sc_is, sc_si, sc_nn, decide_true, decide_false, reduceCtorEq, Bool.false_eq_true, if_true, if_false, ite_true, ite_false, exists_const, eq_self, false_and, and_false, or_false, false_or, exists_false, Evl.rLenS, rSum, wipe, tYes, exists_eq, exists_eq', rIxL, rIxT, rIxS, exists_and_right, gt_iff_lt, not_true_eq_false, not_false_eq_true, Bool.not_true, Bool.not_false, decide_eq_true_eq, Nat.reduceSub, Nat.reduceAdd, List.append_assoc, tChain, tDIn, tDNotIn, sDDel, tAug, ipI]
    cases hd with
    | str z =>
      try simp (maxSteps := 1000000) only [tSeq, tIfS, tTest, tOp, tUn, tCB, tCons, tNil, tVar, tC, rI0, rI, rU, rEq, rNe, tRet, tRetN, tAsg, gName, gSub, tBM, tBM0, tNext, tB, tNot, tAnd, tOr, tIf, tCall, tDrop, tBreak, tCont, L2.start, tDGet, sDPut, tTup, tLst, tDNewK, tRevL, rCat, rAppend, rPop, rSetL, tAndV, tOrV, tNotV, tSl, tPart, tNoPart, tM1, gTup, gCons, gNil, cxK, cxnK, List.map_cons, List.map_nil, List.length_cons, List.length_nil, List.replicate, List.cons_append, List.nil_append, List.append_nil, List.set_cons_zero, List.set_cons_succ, List.getElem?_cons_zero, List.getElem?_cons_succ, Option.some.injEq, V.ref.injEq, V.int.injEq, V.str.injEq, V.bl.injEq, V.ty.injEq, exists_eq_left', exists_eq_left, exists_and_left, List.cons.injEq, and_true, true_and, sc_ii, sc_ss, sc_bb, sc_ni, sc_in, sc_is, sc_si, sc_nn, decide_true, decide_false, reduceCtorEq, Bool.false_eq_true, if_true, if_false, ite_true, ite_false, exists_const, eq_self, false_and, and_false, or_false, false_or, exists_false, Evl.rLenS, rSum, wipe, tYes, exists_eq, exists_eq', rIxL, rIxT, rIxS, exists_and_right, gt_iff_lt, not_true_eq_false, not_false_eq_true, Bool.not_true, Bool.not_false, decide_eq_true_eq, Nat.reduceSub, Nat.reduceAdd, List.append_assoc, tChain, tDIn, tDNotIn, sDDel, tAug, ipI, isStrD]
      have zs : z.cps.toList.length = z.length := Array.length_toList
      have zl : z.length ≤ 1000 := of_decide_eq_true sz
      have q' : ∀ H', Kp [] H H' → Q (.bl (nameS z)) H' := q
      unfold nameS at q'
      refine ⟨small (by omega), ?_⟩
      by_cases h1 : 1 ≤ z.length
      · by_cases h8 : z.length ≤ 8
        · have e1 : (1 : Int) ≤ (z.length : Nat) := by omega
          have e8 : ((z.length : Nat) : Int) ≤ 8 := by omega
          rw [decide_eq_true h1, decide_eq_true h8] at q'
          rw [if_pos e1, if_pos e8]
          refine ⟨.str z, rfl, z, rfl, fun o no => lc_it walk_str (LowIn z o H) ⟨upd_same, Kp.new no⟩ (fun _ _ _ _ => True.intro) ?_ ?_⟩
          · rintro i x H1 H2 hi ⟨ho, kp⟩ ⟨rfl, c, hc, rfl⟩
            try simp (maxSteps := 1000000) only [tSeq, tIfS, tTest, tOp, tUn, tCB, tCons, tNil, tVar, tC, rI0, rI, rU, rEq, rNe, tRet, tRetN, tAsg, gName, gSub, tBM, tBM0, tNext, tB, tNot, tAnd, tOr, tIf, tCall, tDrop, tBreak, tCont, L2.start, tDGet, sDPut, tTup, tLst, tDNewK, tRevL, rCat, rAppend, rPop, rSetL, tAndV, tOrV, tNotV, tSl, tPart, tNoPart, tM1, gTup, gCons, gNil, cxK, cxnK, List.map_cons, List.map_nil, List.length_cons, List.length_nil, List.replicate, List.cons_append, List.nil_append, List.append_nil, List.set_cons_zero, List.set_cons_succ, List.getElem?_cons_zero, List.getElem?_cons_succ, Option.some.injEq, V.ref.injEq, V.int.injEq, V.str.injEq, V.bl.injEq, V.ty.injEq, exists_eq_left', exists_eq_left, exists_and_left, List.cons.injEq, and_true, true_and, sc_ii, sc_ss, sc_bb, sc_ni, sc_in, sc_is, sc_si, sc_nn, decide_true, decide_false, reduceCtorEq, Bool.false_eq_true, if_true, if_false, ite_true, ite_false, exists_const, eq_self, false_and, and_false, or_false, false_or, exists_false, Evl.rLenS, rSum, wipe, tYes, exists_eq, exists_eq', rIxL, rIxT, rIxS, exists_and_right, gt_iff_lt, not_true_eq_false, not_false_eq_true, Bool.not_true, Bool.not_false, decide_eq_true_eq, Nat.reduceSub, Nat.reduceAdd, List.append_assoc, tChain, tDIn, tDNotIn, sDDel, tAug, ipI]
            refine ⟨c, rfl, _, ho, ?_, ?_, kp.wr no⟩
            · rw [List.length_map, List.length_take, zs]; exact smallL (by omega)
            · rw [upd_same, lets_mem, take_snoc (x := c) (by rw [← hc]; simp), List.map_append]; rfl
          · rintro H1 ⟨ho, kp⟩
            have q2 := q' H1 kp
            rw [← all_take] at q2
            refine ⟨_, z.cps.toList.map lowC, rfl, sq_l (ho.trans ?_), ?_⟩
            · rw [List.take_of_length_le (by simp), List.map_map]; rfl
            · simpa using q2
        · have e1 : (1 : Int) ≤ (z.length : Nat) := by omega
          have e8 : ¬ ((z.length : Nat) : Int) ≤ 8 := by omega
          rw [decide_eq_true h1, decide_eq_false h8] at q'
          rw [if_pos e1, if_neg e8]
          exact q' _ (Kp.refl _ _)
      · have e1 : ¬ (1 : Int) ≤ (z.length : Nat) := by omega
        rw [decide_eq_false h1] at q'
        rw [if_neg e1]
        exact q' _ (Kp.refl _ _)
    | _ => exact q H (Kp.refl _ _)

def spBelow : Sp := fun vs H Q _ => ∃ (v : V) (d : PyData) (m : Int), vs = [v, .int m] ∧ Dq H v d ∧ Q (.bl (belowD m d)) H
theorem ok_is_below {f : Addr} {fd : FuncData} (D : Df K mg "is_below" s_is_below ["value", "bound"] f fd) (T : Bt mg tL t1 t2) : FnOk P w K mg base CX0 1 f fd ["value", "bound"] spBelow := by
  refine D.F.ok sc_is_below (fun vs H Q E h => ?_) (fun cdv A outer s H vs Q E hr h => ?_)
  · obtain ⟨v, d, m, rfl, _⟩ := h
    rfl
  · obtain ⟨v, d, m, rfl, hd, q⟩ := h
    refine ⟨_, (pss_one (ps_ret (pe_and (pe_callB (id := "isinstance") (r := rIsi K) call_isi (by rfl) T.b_isinstance (by decide +kernel) (pa_cons (pv 0) (pa_cons (pe_bltn (v := .ty "int") (by rfl) T.b_int (by decide +kernel) rfl) pa_nil))) (pe_and (pe_not (pe_callB (id := "isinstance") (r := rIsi K) call_isi (by rfl) T.b_isinstance (by decide +kernel) (pa_cons (pv 0) (pa_cons (pe_bltn (v := .ty "bool") (by rfl) T.b_bool (by decide +kernel) rfl) pa_nil)))) (pe_one (pe_chain op_le op_lt pe_int (pv 0) (pv 1))))))), ?_⟩
    try simp (maxSteps := 1000000) only [tSeq, tIfS, tTest, tOp, tUn, tCB, tCons, tNil, tVar, tC, rI0, rI, rU, rEq, rNe, tRet, tRetN, tAsg, gName, gSub, tBM, tBM0, tNext, tB, tNot, tAnd, tOr, tIf, tCall, tDrop, tBreak, tCont, L2.start, tDGet, sDPut, tTup, tLst, tDNewK, tRevL, rCat, rAppend, rPop, rSetL, tAndV, tOrV, tNotV, tSl, tPart, tNoPart, tM1, gTup, gCons, gNil, cxK, cxnK, List.map_cons, List.map_nil, List.length_cons, List.length_nil, List.replicate, List.cons_append, List.nil_append, List.append_nil, List.set_cons_zero, List.set_cons_succ, List.getElem?_cons_zero, List.getElem?_cons_succ, Option.some.injEq, V.ref.injEq, V.int.injEq, V.str.injEq, V.bl.injEq, V.ty.injEq, exists_eq_left', exists_eq_left, exists_and_left, List.cons.injEq, and_true, true_and, sc_ii, sc_ss, sc_bb, sc_ni, sc_in, sc_is, sc_si, sc_nn, decide_true, decide_false, reduceCtorEq, Bool.false_eq_true, if_true, if_false, ite_true, ite_false, exists_const, eq_self, false_and, and_false, or_false, false_or, exists_false, Evl.rLenS, rSum, wipe, tYes, exists_eq, exists_eq', rIxL, rIxT, rIxS, exists_and_right, gt_iff_lt, not_true_eq_false, not_false_eq_true, Bool.not_true, Bool.not_false, decide_eq_true_eq, Nat.reduceSub, Nat.reduceAdd, List.append_assoc, tChain, tDIn, tDNotIn, sDDel, tAug, ipI]
    refine isi_Dint hd ?_
    cases hd with
    | int i =>
      try simp (maxSteps := 1000000) only [tSeq, tIfS, tTest, tOp, tUn, tCB, tCons, tNil, tVar, tC, rI0, rI, rU, rEq, rNe, tRet, tRetN, tAsg, gName, gSub, tBM, tBM0, tNext, tB, tNot, tAnd, tOr, tIf, tCall, tDrop, tBreak, tCont, L2.start, tDGet, sDPut, tTup, tLst, tDNewK, tRevL, rCat, rAppend, rPop, rSetL, tAndV, tOrV, tNotV, tSl, tPart, tNoPart, tM1, gTup, gCons, gNil, cxK, cxnK, List.map_cons, List.map_nil, List.length_cons, List.length_nil, List.replicate, List.cons_append, List.nil_append, List.append_nil, List.set_cons_zero, List.set_cons_succ, List.getElem?_cons_zero, List.getElem?_cons_succ, Option.some.injEq, V.ref.injEq, V.int.injEq, V.str.injEq, V.bl.injEq, V.ty.injEq, exists_eq_left', exists_eq_left, exists_and_left, List.cons.injEq, and_true, true_and, sc_ii, sc_ss, sc_bb, sc_ni, sc_in, sc_is, sc_si, sc_nn, decide_true, decide_false, reduceCtorEq, Bool.false_eq_true, if_true, if_false, ite_true, ite_false, exists_const, eq_self, false_and, and_false, or_false, false_or, exists_false, Evl.rLenS, rSum, wipe, tYes, exists_eq, exists_eq', rIxL, rIxT, rIxS, exists_and_right, gt_iff_lt, not_true_eq_false, not_false_eq_true, Bool.not_true, Bool.not_false, decide_eq_true_eq, Nat.reduceSub, Nat.reduceAdd, List.append_assoc, tChain, tDIn, tDNotIn, sDDel, tAug, ipI, isIntD]
      refine isi_int_bool ?_
      try simp (maxSteps := 1000000) only [tSeq, tIfS, tTest, tOp, tUn, tCB, tCons, tNil, tVar, tC, rI0, rI, rU, rEq, rNe, tRet, tRetN, tAsg, gName, gSub, tBM, tBM0, tNext, tB, tNot, tAnd, tOr, tIf, tCall, tDrop, tBreak, tCont, L2.start, tDGet, sDPut, tTup, tLst, tDNewK, tRevL, rCat, rAppend, rPop, rSetL, tAndV, tOrV, tNotV, tSl, tPart, tNoPart, tM1, gTup, gCons, gNil, cxK, cxnK, List.map_cons, List.map_nil, List.length_cons, List.length_nil, List.replicate, List.cons_append, List.nil_append, List.append_nil, List.set_cons_zero, List.set_cons_succ, List.getElem?_cons_zero, List.getElem?_cons_succ, Option.some.injEq, V.ref.injEq, V.int.injEq, V.str.injEq, V.bl.injEq, V.ty.injEq, exists_eq_left', exists_eq_left, exists_and_left, List.cons.injEq, and_true, true_and, sc_ii, sc_ss, sc_bb, sc_ni, sc_in, sc_is, sc_si, sc_nn, decide_true, decide_false, reduceCtorEq, Bool.false_eq_true, if_true, if_false, ite_true, ite_false, exists_const, eq_self, false_and, and_false, or_false, false_or, exists_false, Evl.rLenS, rSum, wipe, tYes, exists_eq, exists_eq', rIxL, rIxT, rIxS, exists_and_right, gt_iff_lt, not_true_eq_false, not_false_eq_true, Bool.not_true, Bool.not_false, decide_eq_true_eq, Nat.reduceSub, Nat.reduceAdd, List.append_assoc, tChain, tDIn, tDNotIn, sDDel, tAug, ipI]
      by_cases h0 : 0 ≤ i
      · simp only [h0, decide_true, if_true]
        have q' : Q (.bl (decide (0 ≤ i) && decide (i < m))) H := q
        rw [decide_eq_true h0] at q'
        exact q'
      · simp only [h0, decide_false, Bool.false_eq_true, if_false]
        have q' : Q (.bl (decide (0 ≤ i) && decide (i < m))) H := q
        rw [decide_eq_false h0] at q'
        exact q'
    | bl b =>
      try simp (maxSteps := 1000000) only [tSeq, tIfS, tTest, tOp, tUn, tCB, tCons, tNil, tVar, tC, rI0, rI, rU, rEq, rNe, tRet, tRetN, tAsg, gName, gSub, tBM, tBM0, tNext, tB, tNot, tAnd, tOr, tIf, tCall, tDrop, tBreak, tCont, L2.start, tDGet, sDPut, tTup, tLst, tDNewK, tRevL, rCat, rAppend, rPop, rSetL, tAndV, tOrV, tNotV, tSl, tPart, tNoPart, tM1, gTup, gCons, gNil, cxK, cxnK, List.map_cons, List.map_nil, List.length_cons, List.length_nil, List.replicate, List.cons_append, List.nil_append, List.append_nil, List.set_cons_zero, List.set_cons_succ, List.getElem?_cons_zero, List.getElem?_cons_succ, Option.some.injEq, V.ref.injEq, V.int.injEq, V.str.injEq, V.bl.injEq, V.ty.injEq, exists_eq_left', exists_eq_left, exists_and_left, List.cons.injEq, and_true, true_and, sc_ii, sc_ss, sc_bb, sc_ni, sc_in, sc_is, sc_si, sc_nn, decide_true, decide_false, reduceCtorEq, Bool.false_eq_true, if_true, if_false, ite_true, ite_false, exists_const, eq_self, false_and, and_false, or_false, false_or, exists_false, Evl.rLenS, rSum, wipe, tYes, exists_eq, exists_eq', rIxL, rIxT, rIxS, exists_and_right, gt_iff_lt, not_true_eq_false, not_false_eq_true, Bool.not_true, Bool.not_false, decide_eq_true_eq, Nat.reduceSub, Nat.reduceAdd, List.append_assoc, tChain, tDIn, tDNotIn, sDDel, tAug, ipI, isIntD]
      refine isi_bl_bool ?_
      try simp (maxSteps := 1000000) only [tSeq, tIfS, tTest, tOp, tUn, tCB, tCons, tNil, tVar, tC, rI0, rI, rU, rEq, rNe, tRet, tRetN, tAsg, gName, gSub, tBM, tBM0, tNext, tB, tNot, tAnd, tOr, tIf, tCall, tDrop, tBreak, tCont, L2.start, tDGet, sDPut, tTup, tLst, tDNewK, tRevL, rCat, rAppend, rPop, rSetL, tAndV, tOrV, tNotV, tSl, tPart, tNoPart, tM1, gTup, gCons, gNil, cxK, cxnK, List.map_cons, List.map_nil, List.length_cons, List.length_nil, List.replicate, List.cons_append, List.nil_append, List.append_nil, List.set_cons_zero, List.set_cons_succ, List.getElem?_cons_zero, List.getElem?_cons_succ, Option.some.injEq, V.ref.injEq, V.int.injEq, V.str.injEq, V.bl.injEq, V.ty.injEq, exists_eq_left', exists_eq_left, exists_and_left, List.cons.injEq, and_true, true_and, sc_ii, sc_ss, sc_bb, sc_ni, sc_in, sc_is, sc_si, sc_nn, decide_true, decide_false, reduceCtorEq, Bool.false_eq_true, if_true, if_false, ite_true, ite_false, exists_const, eq_self, false_and, and_false, or_false, false_or, exists_false, Evl.rLenS, rSum, wipe, tYes, exists_eq, exists_eq', rIxL, rIxT, rIxS, exists_and_right, gt_iff_lt, not_true_eq_false, not_false_eq_true, Bool.not_true, Bool.not_false, decide_eq_true_eq, Nat.reduceSub, Nat.reduceAdd, List.append_assoc, tChain, tDIn, tDNotIn, sDDel, tAug, ipI]
      exact q
    | _ =>
      try simp (maxSteps := 1000000) only [tSeq, tIfS, tTest, tOp, tUn, tCB, tCons, tNil, tVar, tC, rI0, rI, rU, rEq, rNe, tRet, tRetN, tAsg, gName, gSub, tBM, tBM0, tNext, tB, tNot, tAnd, tOr, tIf, tCall, tDrop, tBreak, tCont, L2.start, tDGet, sDPut, tTup, tLst, tDNewK, tRevL, rCat, rAppend, rPop, rSetL, tAndV, tOrV, tNotV, tSl, tPart, tNoPart, tM1, gTup, gCons, gNil, cxK, cxnK, List.map_cons, List.map_nil, List.length_cons, List.length_nil, List.replicate, List.cons_append, List.nil_append, List.append_nil, List.set_cons_zero, List.set_cons_succ, List.getElem?_cons_zero, List.getElem?_cons_succ, Option.some.injEq, V.ref.injEq, V.int.injEq, V.str.injEq, V.bl.injEq, V.ty.injEq, exists_eq_left', exists_eq_left, exists_and_left, List.cons.injEq, and_true, true_and, sc_ii, sc_ss, sc_bb, sc_ni, sc_in, sc_is, sc_si, sc_nn, decide_true, decide_false, reduceCtorEq, Bool.false_eq_true, if_true, if_false, ite_true, ite_false, exists_const, eq_self, false_and, and_false, or_false, false_or, exists_false, Evl.rLenS, rSum, wipe, tYes, exists_eq, exists_eq', rIxL, rIxT, rIxS, exists_and_right, gt_iff_lt, not_true_eq_false, not_false_eq_true, Bool.not_true, Bool.not_false, decide_eq_true_eq, Nat.reduceSub, Nat.reduceAdd, List.append_assoc, tChain, tDIn, tDNotIn, sDDel, tAug, ipI, isIntD]
      exact q
theorem ok_is_number {f : Addr} {fd : FuncData} (D : Df K mg "is_number" s_is_number ["value"] f fd) (T : Bt mg tL t1 t2) {fb : Addr} {fdb : FuncData} (D_is_below : Df K mg "is_below" s_is_below ["value", "bound"] fb fdb) (G_is_below : FnOk P w K mg base CX0 1 fb fdb ["value", "bound"] spBelow) :
    FnOk P w K mg base CX0 2 f fd ["value"] (spD (fun _ => True) (belowD 10)) := by
  refine D.F.ok sc_is_number (fun vs H Q E h => ?_) (fun cdv A outer s H vs Q E hr h => ?_)
  · obtain ⟨v, d, rfl, _⟩ := h
    rfl
  · obtain ⟨v, d, rfl, hd, _, _, q⟩ := h
    refine ⟨_, (pss_one (ps_ret (pe_call G_is_below (hr.mono (by decide)) rfl D_is_below.g D_is_below.F.kp D_is_below.b .nil pass0 (pa_cons (pv 0) (pa_cons pe_int pa_nil))))), ?_⟩
    try simp (maxSteps := 1000000) only [tSeq, tIfS, tTest, tOp, tUn, tCB, tCons, tNil, tVar, tC, rI0, rI, rU, rEq, rNe, tRet, tRetN, tAsg, gName, gSub, tBM, tBM0, tNext, tB, tNot, tAnd, tOr, tIf, tCall, tDrop, tBreak, tCont, L2.start, tDGet, sDPut, tTup, tLst, tDNewK, tRevL, rCat, rAppend, rPop, rSetL, tAndV, tOrV, tNotV, tSl, tPart, tNoPart, tM1, gTup, gCons, gNil, cxK, cxnK, List.map_cons, List.map_nil, List.length_cons, List.length_nil, List.replicate, List.cons_append, List.nil_append, List.append_nil, List.set_cons_zero, List.set_cons_succ, List.getElem?_cons_zero, List.getElem?_cons_succ, Option.some.injEq, V.ref.injEq, V.int.injEq, V.str.injEq, V.bl.injEq, V.ty.injEq, exists_eq_left', exists_eq_left, exists_and_left, List.cons.injEq, and_true, true_and, sc_ii, sc_ss, sc_bb, sc_ni, sc_in, sc_is, sc_si, sc_nn, decide_true, decide_false, reduceCtorEq, Bool.false_eq_true, if_true, if_false, ite_true, ite_false, exists_const, eq_self, false_and, and_false, or_false, false_or, exists_false, Evl.rLenS, rSum, wipe, tYes, exists_eq, exists_eq', rIxL, rIxT, rIxS, exists_and_right, gt_iff_lt, not_true_eq_false, not_false_eq_true, Bool.not_true, Bool.not_false, decide_eq_true_eq, Nat.reduceSub, Nat.reduceAdd, List.append_assoc, tChain, tDIn, tDNotIn, sDDel, tAug, ipI]
    exact ⟨v, d, 10, rfl, hd, q H (Kp.refl _ _)⟩
/-- ahead of the i-th item of a row of data: what was told of those before stands in the new list -/
def AllIn {α : Type} (g : α → Bool) (ds : List α) (D : Addr) (H : Hp) (i : Nat) (H' : Hp) : Prop := H' D = some (.lst ((ds.take i).map fun d => V.bl (g d))) ∧ Kp [] H H'
theorem allIn_step {α : Type} {g : α → Bool} {ds : List α} {D : Addr} {H H1 H2 : Hp} {i : Nat} {d : α} (hn : H D = none) (h : AllIn g ds D H i H1) (k : Kp [] H1 H2) (e : ds[i]? = some d) (hl : ds.length ≤ 1000) :
    ∃ acc, H2 D = some (.lst acc) ∧ acc.length < sizeLine ∧ AllIn g ds D H (i + 1) (upd H2 D (.lst (acc ++ [V.bl (g d)]))) := by
  refine ⟨_, k _ _ not0 h.1, ?_, ?_, (h.2.trans k).wr hn⟩
  · rw [List.length_map, List.length_take]; exact smallL (by omega)
  · rw [upd_same, take_snoc e, List.map_append]; rfl
theorem allIn_end {α : Type} {K : PySem.W.Frag} {g : α → Bool} {ds : List α} {D : Addr} {H H1 : Hp} {Q : VK} (h : AllIn g ds D H ds.length H1) (q : Q (.bl (ds.all g)) H1) : rAll K [.ref D] H1 Q := by
  refine ⟨D, ds.map g, rfl, sq_l (h.1.trans ?_), ?_⟩
  · rw [List.take_length, List.map_map]; rfl
  · rw [all_take]; exact q
/-! ### pairs and rows of a table -/
def pairD (m : Int) : PyData → Bool
  | .tuple [a, s] => belowD 10 a && belowD m s
  | _ => false
def rowD : PyData → Bool
  | .list ds => decide (1 ≤ ds.length) && (decide (ds.length ≤ 100) && ds.all (pairD ds.length))
  | _ => false
def spPairD : Sp := fun vs H Q _ => ∃ (v : V) (d : PyData) (m : Int), vs = [v, .int m] ∧ Dq H v d ∧ szD d = true ∧ ∀ H', Kp [] H H' → Q (.bl (pairD m d)) H'
theorem ok_is_pair {f : Addr} {fd : FuncData} (D : Df K mg "is_pair" s_is_pair ["pair", "size"] f fd) (T : Bt mg tL t1 t2) {fb : Addr} {fdb : FuncData} (D_is_number : Df K mg "is_number" s_is_number ["value"] fb fdb) (G_is_number : FnOk P w K mg base CX0 2 fb fdb ["value"] (spD (fun _ => True) (belowD 10)))
    {fl : Addr} {fdl : FuncData} (D_is_below : Df K mg "is_below" s_is_below ["value", "bound"] fl fdl) (G_is_below : FnOk P w K mg base CX0 1 fl fdl ["value", "bound"] spBelow) : FnOk P w K mg base CX0 3 f fd ["pair", "size"] spPairD := by
  refine D.F.ok sc_is_pair (fun vs H Q E h => ?_) (fun cdv A outer s H vs Q E hr h => ?_)
  · obtain ⟨v, d, m, rfl, _⟩ := h
    rfl
  · obtain ⟨v, d, m, rfl, hd, sz, q⟩ := h
    refine ⟨_, (pss_cons (ps_if (PW.pt (pw_or (pt_not (pt_val (pe_callB (id := "isinstance") (r := rIsi K) call_isi (by rfl) T.b_isinstance (by decide +kernel) (pa_cons (pv 0) (pa_cons (pe_bltn (v := .ty "tuple") (by rfl) T.b_tuple (by decide +kernel) rfl) pa_nil))))) (pw_or1 (pt_cmpR op_ne (pe_callB (id := "len") (r := Evl.rLenS K) call_len_seq (by rfl) T.b_len PySem.boot_len (pa_cons (pv 0) pa_nil)) pe_int (nomark _))))) (pss_one (ps_ret pe_bl)) pss_nil)
      (pss_cons (ps_asg (pv 0) (pg_tup (n := 2) (by rfl) (pgs_cons (pg_name (i := 2) sc_is_pair.nd rfl (Or.inl rfl)) (pgs_cons (pg_name (i := 3) sc_is_pair.nd rfl (Or.inl rfl)) pgs_nil))))
      (pss_one (ps_ret (pe_and (pe_call G_is_number (hr.mono (by decide)) rfl D_is_number.g D_is_number.F.kp D_is_number.b .nil pass0 (pa_cons (pv 2) pa_nil)) (pe_one (pe_call G_is_below (hr.mono (by decide)) rfl D_is_below.g D_is_below.F.kp D_is_below.b .nil pass0 (pa_cons (pv 3) (pa_cons (pv 1) pa_nil))))))))), ?_⟩
    try simp (maxSteps := 1000000) only [tSeq, tIfS, tTest, tOp, tUn, tCB, tCons, tNil, tVar, tC, rI0, rI, rU, rEq, rNe, tRet, tRetN, tAsg, gName, gSub, tBM, tBM0, tNext, tB, tNot, tAnd, tOr, tIf, tCall, tDrop, tBreak, tCont, L2.start, tDGet, sDPut, tTup, tLst, tDNewK, tRevL, rCat, rAppend, rPop, rSetL, tAndV, tOrV, tNotV, tSl, tPart, tNoPart, tM1, gTup, gCons, gNil, cxK, cxnK, List.map_cons, List.map_nil, List.length_cons, List.length_nil, List.replicate, List.cons_append, List.nil_append, List.append_nil, List.set_cons_zero, List.set_cons_succ, List.getElem?_cons_zero, List.getElem?_cons_succ, Option.some.injEq, V.ref.injEq, V.int.injEq, V.str.injEq, V.bl.injEq, V.ty.injEq, exists_eq_left', exists_eq_left, exists_and_left, List.cons.injEq, and_true, true_and, sc_ii, sc_ss, sc_bb, sc_ni, sc_in, sc_is, sc_si, sc_nn, decide_true, decide_false, reduceCtorEq, Bool.false_eq_true, if_true, if_false, ite_true, ite_false, exists_const, eq_self, false_and, and_false, or_false, false_or, exists_false, Evl.rLenS, rSum, wipe, tYes, exists_eq, exists_eq', rIxL, rIxT, rIxS, exists_and_right, gt_iff_lt, not_true_eq_false, not_false_eq_true, Bool.not_true, Bool.not_false, decide_eq_true_eq, Nat.reduceSub, Nat.reduceAdd, List.append_assoc, tChain, tDIn, tDNotIn, sDDel, tAug, ipI]
    refine isi_Dtup hd ?_
    cases hd with
    | @tup a xs ds e ha =>
      try simp (maxSteps := 1000000) only [tSeq, tIfS, tTest, tOp, tUn, tCB, tCons, tNil, tVar, tC, rI0, rI, rU, rEq, rNe, tRet, tRetN, tAsg, gName, gSub, tBM, tBM0, tNext, tB, tNot, tAnd, tOr, tIf, tCall, tDrop, tBreak, tCont, L2.start, tDGet, sDPut, tTup, tLst, tDNewK, tRevL, rCat, rAppend, rPop, rSetL, tAndV, tOrV, tNotV, tSl, tPart, tNoPart, tM1, gTup, gCons, gNil, cxK, cxnK, List.map_cons, List.map_nil, List.length_cons, List.length_nil, List.replicate, List.cons_append, List.nil_append, List.append_nil, List.set_cons_zero, List.set_cons_succ, List.getElem?_cons_zero, List.getElem?_cons_succ, Option.some.injEq, V.ref.injEq, V.int.injEq, V.str.injEq, V.bl.injEq, V.ty.injEq, exists_eq_left', exists_eq_left, exists_and_left, List.cons.injEq, and_true, true_and, sc_ii, sc_ss, sc_bb, sc_ni, sc_in, sc_is, sc_si, sc_nn, decide_true, decide_false, reduceCtorEq, Bool.false_eq_true, if_true, if_false, ite_true, ite_false, exists_const, eq_self, false_and, and_false, or_false, false_or, exists_false, Evl.rLenS, rSum, wipe, tYes, exists_eq, exists_eq', rIxL, rIxT, rIxS, exists_and_right, gt_iff_lt, not_true_eq_false, not_false_eq_true, Bool.not_true, Bool.not_false, decide_eq_true_eq, Nat.reduceSub, Nat.reduceAdd, List.append_assoc, tChain, tDIn, tDNotIn, sDDel, tAug, ipI, isTupD]
      have hl := ha.len
      refine ⟨xs, .inr (sq_t e), ?_⟩
      rw [hl]
      by_cases h2 : ds.length = 2
      · obtain ⟨da, db, rfl⟩ : ∃ a b, ds = [a, b] := by
          match ds, h2 with
          | [a, b], _ => exact ⟨a, b, rfl⟩
        cases ha with
        | cons h1 ht =>
        cases ht with
        | cons h3 ht =>
        cases ht
        have q' : ∀ H', Kp [] H H' → Q (.bl (belowD 10 da && belowD m db)) H' := q
        have e2 : (((2 : Nat) : Int) = 2) = True := eq_true rfl
        try simp (maxSteps := 1000000) only [tSeq, tIfS, tTest, tOp, tUn, tCB, tCons, tNil, tVar, tC, rI0, rI, rU, rEq, rNe, tRet, tRetN, tAsg, gName, gSub, tBM, tBM0, tNext, tB, tNot, tAnd, tOr, tIf, tCall, tDrop, tBreak, tCont, L2.start, tDGet, sDPut, tTup, tLst, tDNewK, tRevL, rCat, rAppend, rPop, rSetL, tAndV, tOrV, tNotV, tSl, tPart, tNoPart, tM1, gTup, gCons, gNil, cxK, cxnK, List.map_cons, List.map_nil, List.length_cons, List.length_nil, List.replicate, List.cons_append, List.nil_append, List.append_nil, List.set_cons_zero, List.set_cons_succ, List.getElem?_cons_zero, List.getElem?_cons_succ, Option.some.injEq, V.ref.injEq, V.int.injEq, V.str.injEq, V.bl.injEq, V.ty.injEq, exists_eq_left', exists_eq_left, exists_and_left, List.cons.injEq, and_true, true_and, sc_ii, sc_ss, sc_bb, sc_ni, sc_in, sc_is, sc_si, sc_nn, decide_true, decide_false, reduceCtorEq, Bool.false_eq_true, if_true, if_false, ite_true, ite_false, exists_const, eq_self, false_and, and_false, or_false, false_or, exists_false, Evl.rLenS, rSum, wipe, tYes, exists_eq, exists_eq', rIxL, rIxT, rIxS, exists_and_right, gt_iff_lt, not_true_eq_false, not_false_eq_true, Bool.not_true, Bool.not_false, decide_eq_true_eq, Nat.reduceSub, Nat.reduceAdd, List.append_assoc, tChain, tDIn, tDNotIn, sDDel, tAug, ipI, e2]
        refine ⟨_, sq_t e, rfl, _, _, rfl, _, _, rfl, rfl, ?_⟩
        refine ⟨_, da, rfl, h1, szAll_mem sz da (by simp), True.intro, fun H1 k1 => ?_⟩
        cases hn : belowD 10 da with
        | false =>
          rw [hn] at q'
          try simp (maxSteps := 1000000) only [tSeq, tIfS, tTest, tOp, tUn, tCB, tCons, tNil, tVar, tC, rI0, rI, rU, rEq, rNe, tRet, tRetN, tAsg, gName, gSub, tBM, tBM0, tNext, tB, tNot, tAnd, tOr, tIf, tCall, tDrop, tBreak, tCont, L2.start, tDGet, sDPut, tTup, tLst, tDNewK, tRevL, rCat, rAppend, rPop, rSetL, tAndV, tOrV, tNotV, tSl, tPart, tNoPart, tM1, gTup, gCons, gNil, cxK, cxnK, List.map_cons, List.map_nil, List.length_cons, List.length_nil, List.replicate, List.cons_append, List.nil_append, List.append_nil, List.set_cons_zero, List.set_cons_succ, List.getElem?_cons_zero, List.getElem?_cons_succ, Option.some.injEq, V.ref.injEq, V.int.injEq, V.str.injEq, V.bl.injEq, V.ty.injEq, exists_eq_left', exists_eq_left, exists_and_left, List.cons.injEq, and_true, true_and, sc_ii, sc_ss, sc_bb, sc_ni, sc_in, sc_is, sc_si, sc_nn, decide_true, decide_false, reduceCtorEq, Bool.false_eq_true, if_true, if_false, ite_true, ite_false, exists_const, eq_self, false_and, and_false, or_false, false_or, exists_false, Evl.rLenS, rSum, wipe, tYes, exists_eq, exists_eq', rIxL, rIxT, rIxS, exists_and_right, gt_iff_lt, not_true_eq_false, not_false_eq_true, Bool.not_true, Bool.not_false, decide_eq_true_eq, Nat.reduceSub, Nat.reduceAdd, List.append_assoc, tChain, tDIn, tDNotIn, sDDel, tAug, ipI]
          exact q' _ k1
        | true =>
          rw [hn] at q'
          try simp (maxSteps := 1000000) only [tSeq, tIfS, tTest, tOp, tUn, tCB, tCons, tNil, tVar, tC, rI0, rI, rU, rEq, rNe, tRet, tRetN, tAsg, gName, gSub, tBM, tBM0, tNext, tB, tNot, tAnd, tOr, tIf, tCall, tDrop, tBreak, tCont, L2.start, tDGet, sDPut, tTup, tLst, tDNewK, tRevL, rCat, rAppend, rPop, rSetL, tAndV, tOrV, tNotV, tSl, tPart, tNoPart, tM1, gTup, gCons, gNil, cxK, cxnK, List.map_cons, List.map_nil, List.length_cons, List.length_nil, List.replicate, List.cons_append, List.nil_append, List.append_nil, List.set_cons_zero, List.set_cons_succ, List.getElem?_cons_zero, List.getElem?_cons_succ, Option.some.injEq, V.ref.injEq, V.int.injEq, V.str.injEq, V.bl.injEq, V.ty.injEq, exists_eq_left', exists_eq_left, exists_and_left, List.cons.injEq, and_true, true_and, sc_ii, sc_ss, sc_bb, sc_ni, sc_in, sc_is, sc_si, sc_nn, decide_true, decide_false, reduceCtorEq, Bool.false_eq_true, if_true, if_false, ite_true, ite_false, exists_const, eq_self, false_and, and_false, or_false, false_or, exists_false, Evl.rLenS, rSum, wipe, tYes, exists_eq, exists_eq', rIxL, rIxT, rIxS, exists_and_right, gt_iff_lt, not_true_eq_false, not_false_eq_true, Bool.not_true, Bool.not_false, decide_eq_true_eq, Nat.reduceSub, Nat.reduceAdd, List.append_assoc, tChain, tDIn, tDNotIn, sDDel, tAug, ipI]
          exact ⟨_, db, m, rfl, h3.kp k1, q' _ k1⟩
      · have e2 : ((ds.length : Nat) : Int) ≠ 2 := by omega
        have qf : pairD m (.tuple ds) = false := by
          match ds, h2 with
          | [], _ => rfl
          | [_], _ => rfl
          | _ :: _ :: _ :: _, _ => rfl
        rw [qf] at q
        try simp (maxSteps := 1000000) only [tSeq, tIfS, tTest, tOp, tUn, tCB, tCons, tNil, tVar, tC, rI0, rI, rU, rEq, rNe, tRet, tRetN, tAsg, gName, gSub, tBM, tBM0, tNext, tB, tNot, tAnd, tOr, tIf, tCall, tDrop, tBreak, tCont, L2.start, tDGet, sDPut, tTup, tLst, tDNewK, tRevL, rCat, rAppend, rPop, rSetL, tAndV, tOrV, tNotV, tSl, tPart, tNoPart, tM1, gTup, gCons, gNil, cxK, cxnK, List.map_cons, List.map_nil, List.length_cons, List.length_nil, List.replicate, List.cons_append, List.nil_append, List.append_nil, List.set_cons_zero, List.set_cons_succ, List.getElem?_cons_zero, List.getElem?_cons_succ, Option.some.injEq, V.ref.injEq, V.int.injEq, V.str.injEq, V.bl.injEq, V.ty.injEq, exists_eq_left', exists_eq_left, exists_and_left, List.cons.injEq, and_true, true_and, sc_ii, sc_ss, sc_bb, sc_ni, sc_in, sc_is, sc_si, sc_nn, decide_true, decide_false, reduceCtorEq, Bool.false_eq_true, if_true, if_false, ite_true, ite_false, exists_const, eq_self, false_and, and_false, or_false, false_or, exists_false, Evl.rLenS, rSum, wipe, tYes, exists_eq, exists_eq', rIxL, rIxT, rIxS, exists_and_right, gt_iff_lt, not_true_eq_false, not_false_eq_true, Bool.not_true, Bool.not_false, decide_eq_true_eq, Nat.reduceSub, Nat.reduceAdd, List.append_assoc, tChain, tDIn, tDNotIn, sDDel, tAug, ipI, e2]
        exact q _ (Kp.refl _ _)
    | _ =>
      try simp (maxSteps := 1000000) only [tSeq, tIfS, tTest, tOp, tUn, tCB, tCons, tNil, tVar, tC, rI0, rI, rU, rEq, rNe, tRet, tRetN, tAsg, gName, gSub, tBM, tBM0, tNext, tB, tNot, tAnd, tOr, tIf, tCall, tDrop, tBreak, tCont, L2.start, tDGet, sDPut, tTup, tLst, tDNewK, tRevL, rCat, rAppend, rPop, rSetL, tAndV, tOrV, tNotV, tSl, tPart, tNoPart, tM1, gTup, gCons, gNil, cxK, cxnK, List.map_cons, List.map_nil, List.length_cons, List.length_nil, List.replicate, List.cons_append, List.nil_append, List.append_nil, List.set_cons_zero, List.set_cons_succ, List.getElem?_cons_zero, List.getElem?_cons_succ, Option.some.injEq, V.ref.injEq, V.int.injEq, V.str.injEq, V.bl.injEq, V.ty.injEq, exists_eq_left', exists_eq_left, exists_and_left, List.cons.injEq, and_true, true_and, sc_ii, sc_ss, sc_bb, sc_ni, sc_in, sc_is, sc_si, sc_nn, decide_true, decide_false, reduceCtorEq, Bool.false_eq_true, if_true, if_false, ite_true, ite_false, exists_const, eq_self, false_and, and_false, or_false, false_or, exists_false, Evl.rLenS, rSum, wipe, tYes, exists_eq, exists_eq', rIxL, rIxT, rIxS, exists_and_right, gt_iff_lt, not_true_eq_false, not_false_eq_true, Bool.not_true, Bool.not_false, decide_eq_true_eq, Nat.reduceSub, Nat.reduceAdd, List.append_assoc, tChain, tDIn, tDNotIn, sDDel, tAug, ipI, isTupD]
      exact q _ (Kp.refl _ _)
theorem ok_is_row {f : Addr} {fd : FuncData} (D : Df K mg "is_row" s_is_row ["row"] f fd) (T : Bt mg tL t1 t2) {fb : Addr} {fdb : FuncData} (D_is_pair : Df K mg "is_pair" s_is_pair ["pair", "size"] fb fdb) (G_is_pair : FnOk P w K mg base CX0 3 fb fdb ["pair", "size"] spPairD) : FnOk P w K mg base CX0 4 f fd ["row"] (spD (fun d => ∀ ds, d = .list ds → ds.length ≤ 1000) rowD) := by
  refine D.F.ok sc_is_row (fun vs H Q E h => ?_) (fun cdv A outer s H vs Q E hr h => ?_)
  · obtain ⟨v, d, rfl, _⟩ := h
    rfl
  · obtain ⟨v, d, rfl, hd, sz, pre, q⟩ := h
    refine ⟨_, (pss_cons (ps_if (PW.pt (pw_or (pt_not (pt_val (pe_callB (id := "isinstance") (r := rIsi K) call_isi (by rfl) T.b_isinstance (by decide +kernel) (pa_cons (pv 0) (pa_cons (pe_bltn (v := .ty "list") (by rfl) T.b_list (by decide +kernel) rfl) pa_nil))))) (pw_or1 (pt_not (pt_chain op_le op_le pe_int (pe_callB (id := "len") (r := Evl.rLenS K) call_len_seq (by rfl) T.b_len PySem.boot_len (pa_cons (pv 0) pa_nil)) (pe_glob (v := .int 100) rfl T.c_MOST_STATES ⟨_, rfl⟩)))))) (pss_one (ps_ret pe_bl)) pss_nil)
      (pss_one (ps_ret (pe_callB (id := "all") (r := rAll K) (cr_all rfl) (by rfl) T.b_all (by decide +kernel) (pa_cons (pe_lc (own := [("pair", 1)]) (g := (gName 1)) (tt := tYes) rfl sc_is_row.nd (pi_list (pv 0)) (blkOk_by (N := ["row", "pair"]) (sc := defScope s_is_row) (by decide +kernel)) (fun _ _ _ _ _ => (pg_name (i := 1) sc_is_row.nd rfl (Or.inl rfl))) (fun _ _ _ _ _ => pts_nil) (fun _ _ _ _ _ => (pe_call G_is_pair (hr.mono (by decide)) rfl D_is_pair.g D_is_pair.F.kp D_is_pair.b .nil pass0 (pa_cons (pv 1) (pa_cons (pe_callB (id := "len") (r := Evl.rLenS K) call_len_seq (by rfl) T.b_len PySem.boot_len (pa_cons (pv 0) pa_nil)) pa_nil))))) pa_nil))))), ?_⟩
    try simp (maxSteps := 1000000) only [tSeq, tIfS, tTest, tOp, tUn, tCB, tCons, tNil, tVar, tC, rI0, rI, rU, rEq, rNe, tRet, tRetN, tAsg, gName, gSub, tBM, tBM0, tNext, tB, tNot, tAnd, tOr, tIf, tCall, tDrop, tBreak, tCont, L2.start, tDGet, sDPut, tTup, tLst, tDNewK, tRevL, rCat, rAppend, rPop, rSetL, tAndV, tOrV, tNotV, tSl, tPart, tNoPart, tM1, gTup, gCons, gNil, cxK, cxnK, List.map_cons, List.map_nil, List.length_cons, List.length_nil, List.replicate, List.cons_append, List.nil_append, List.append_nil, List.set_cons_zero, List.set_cons_succ, List.getElem?_cons_zero, List.getElem?_cons_succ, Option.some.injEq, V.ref.injEq, V.int.injEq, V.str.injEq, V.bl.injEq, V.ty.injEq, exists_eq_left', exists_eq_left, exists_and_left, List.cons.injEq, and_true, true_and, sc_ii, sc_ss, sc_bb, sc_ni, sc_in, sc_is, sc_si, sc_nn, decide_true, decide_false, reduceCtorEq, Bool.false_eq_true, if_true, if_false, ite_true, ite_false, exists_const, eq_self, false_and, and_false, or_false, false_or, exists_false, Evl.rLenS, rSum, wipe, tYes, exists_eq, exists_eq', rIxL, rIxT, rIxS, exists_and_right, gt_iff_lt, not_true_eq_false, not_false_eq_true, Bool.not_true, Bool.not_false, decide_eq_true_eq, Nat.reduceSub, Nat.reduceAdd, List.append_assoc, tChain, tDIn, tDNotIn, sDDel, tAug, ipI]
    refine isi_Dlst hd ?_
    cases hd with
    | @lst a xs ds e ha =>
      try simp (maxSteps := 1000000) only [tSeq, tIfS, tTest, tOp, tUn, tCB, tCons, tNil, tVar, tC, rI0, rI, rU, rEq, rNe, tRet, tRetN, tAsg, gName, gSub, tBM, tBM0, tNext, tB, tNot, tAnd, tOr, tIf, tCall, tDrop, tBreak, tCont, L2.start, tDGet, sDPut, tTup, tLst, tDNewK, tRevL, rCat, rAppend, rPop, rSetL, tAndV, tOrV, tNotV, tSl, tPart, tNoPart, tM1, gTup, gCons, gNil, cxK, cxnK, List.map_cons, List.map_nil, List.length_cons, List.length_nil, List.replicate, List.cons_append, List.nil_append, List.append_nil, List.set_cons_zero, List.set_cons_succ, List.getElem?_cons_zero, List.getElem?_cons_succ, Option.some.injEq, V.ref.injEq, V.int.injEq, V.str.injEq, V.bl.injEq, V.ty.injEq, exists_eq_left', exists_eq_left, exists_and_left, List.cons.injEq, and_true, true_and, sc_ii, sc_ss, sc_bb, sc_ni, sc_in, sc_is, sc_si, sc_nn, decide_true, decide_false, reduceCtorEq, Bool.false_eq_true, if_true, if_false, ite_true, ite_false, exists_const, eq_self, false_and, and_false, or_false, false_or, exists_false, Evl.rLenS, rSum, wipe, tYes, exists_eq, exists_eq', rIxL, rIxT, rIxS, exists_and_right, gt_iff_lt, not_true_eq_false, not_false_eq_true, Bool.not_true, Bool.not_false, decide_eq_true_eq, Nat.reduceSub, Nat.reduceAdd, List.append_assoc, tChain, tDIn, tDNotIn, sDDel, tAug, ipI, isLstD]
      have hl := ha.len
      have hb := pre ds rfl
      refine ⟨xs, .inl (sq_l e), ?_⟩
      rw [hl]
      have q' : ∀ H', Kp [] H H' → Q (.bl (decide (1 ≤ ds.length) && (decide (ds.length ≤ 100) && ds.all (pairD ds.length)))) H' := q
      by_cases h1 : 1 ≤ ds.length
      · by_cases h3 : ds.length ≤ 100
        · have e1 : (1 : Int) ≤ (ds.length : Nat) := by omega
          have e3 : ((ds.length : Nat) : Int) ≤ 100 := by omega
          rw [decide_eq_true h1, decide_eq_true h3] at q'
          try simp (maxSteps := 1000000) only [tSeq, tIfS, tTest, tOp, tUn, tCB, tCons, tNil, tVar, tC, rI0, rI, rU, rEq, rNe, tRet, tRetN, tAsg, gName, gSub, tBM, tBM0, tNext, tB, tNot, tAnd, tOr, tIf, tCall, tDrop, tBreak, tCont, L2.start, tDGet, sDPut, tTup, tLst, tDNewK, tRevL, rCat, rAppend, rPop, rSetL, tAndV, tOrV, tNotV, tSl, tPart, tNoPart, tM1, gTup, gCons, gNil, cxK, cxnK, List.map_cons, List.map_nil, List.length_cons, List.length_nil, List.replicate, List.cons_append, List.nil_append, List.append_nil, List.set_cons_zero, List.set_cons_succ, List.getElem?_cons_zero, List.getElem?_cons_succ, Option.some.injEq, V.ref.injEq, V.int.injEq, V.str.injEq, V.bl.injEq, V.ty.injEq, exists_eq_left', exists_eq_left, exists_and_left, List.cons.injEq, and_true, true_and, sc_ii, sc_ss, sc_bb, sc_ni, sc_in, sc_is, sc_si, sc_nn, decide_true, decide_false, reduceCtorEq, Bool.false_eq_true, if_true, if_false, ite_true, ite_false, exists_const, eq_self, false_and, and_false, or_false, false_or, exists_false, Evl.rLenS, rSum, wipe, tYes, exists_eq, exists_eq', rIxL, rIxT, rIxS, exists_and_right, gt_iff_lt, not_true_eq_false, not_false_eq_true, Bool.not_true, Bool.not_false, decide_eq_true_eq, Nat.reduceSub, Nat.reduceAdd, List.append_assoc, tChain, tDIn, tDNotIn, sDDel, tAug, ipI, e1, e3]
          refine ⟨.ref a, rfl, a, rfl, ⟨_, sq_l e⟩, fun o no => lc_list (xs := xs) (AllIn (pairD ds.length) ds o H) ⟨upd_same, Kp.new no⟩ (fun i H1 _ h => h.2.ls not0 (sq_l e)) ?_ ?_⟩
          · rintro i x H1 hx h
            obtain ⟨d, ed, hdx⟩ := ha.get hx
            try simp (maxSteps := 1000000) only [tSeq, tIfS, tTest, tOp, tUn, tCB, tCons, tNil, tVar, tC, rI0, rI, rU, rEq, rNe, tRet, tRetN, tAsg, gName, gSub, tBM, tBM0, tNext, tB, tNot, tAnd, tOr, tIf, tCall, tDrop, tBreak, tCont, L2.start, tDGet, sDPut, tTup, tLst, tDNewK, tRevL, rCat, rAppend, rPop, rSetL, tAndV, tOrV, tNotV, tSl, tPart, tNoPart, tM1, gTup, gCons, gNil, cxK, cxnK, List.map_cons, List.map_nil, List.length_cons, List.length_nil, List.replicate, List.cons_append, List.nil_append, List.append_nil, List.set_cons_zero, List.set_cons_succ, List.getElem?_cons_zero, List.getElem?_cons_succ, Option.some.injEq, V.ref.injEq, V.int.injEq, V.str.injEq, V.bl.injEq, V.ty.injEq, exists_eq_left', exists_eq_left, exists_and_left, List.cons.injEq, and_true, true_and, sc_ii, sc_ss, sc_bb, sc_ni, sc_in, sc_is, sc_si, sc_nn, decide_true, decide_false, reduceCtorEq, Bool.false_eq_true, if_true, if_false, ite_true, ite_false, exists_const, eq_self, false_and, and_false, or_false, false_or, exists_false, Evl.rLenS, rSum, wipe, tYes, exists_eq, exists_eq', rIxL, rIxT, rIxS, exists_and_right, gt_iff_lt, not_true_eq_false, not_false_eq_true, Bool.not_true, Bool.not_false, decide_eq_true_eq, Nat.reduceSub, Nat.reduceAdd, List.append_assoc, tChain, tDIn, tDNotIn, sDDel, tAug, ipI]
            refine ⟨xs, .inl (h.2.ls not0 (sq_l e)), x, d, ds.length, by rw [hl], hdx.kp h.2, szAll_mem sz d (List.mem_of_getElem? ed), fun H2 k2 => allIn_step no h k2 ed (by omega)⟩
          · intro H1 h
            rw [hl] at h
            exact allIn_end h (q' _ h.2)
        · have e1 : (1 : Int) ≤ (ds.length : Nat) := by omega
          have e3 : ¬ ((ds.length : Nat) : Int) ≤ 100 := by omega
          rw [decide_eq_true h1, decide_eq_false h3] at q'
          try simp (maxSteps := 1000000) only [tSeq, tIfS, tTest, tOp, tUn, tCB, tCons, tNil, tVar, tC, rI0, rI, rU, rEq, rNe, tRet, tRetN, tAsg, gName, gSub, tBM, tBM0, tNext, tB, tNot, tAnd, tOr, tIf, tCall, tDrop, tBreak, tCont, L2.start, tDGet, sDPut, tTup, tLst, tDNewK, tRevL, rCat, rAppend, rPop, rSetL, tAndV, tOrV, tNotV, tSl, tPart, tNoPart, tM1, gTup, gCons, gNil, cxK, cxnK, List.map_cons, List.map_nil, List.length_cons, List.length_nil, List.replicate, List.cons_append, List.nil_append, List.append_nil, List.set_cons_zero, List.set_cons_succ, List.getElem?_cons_zero, List.getElem?_cons_succ, Option.some.injEq, V.ref.injEq, V.int.injEq, V.str.injEq, V.bl.injEq, V.ty.injEq, exists_eq_left', exists_eq_left, exists_and_left, List.cons.injEq, and_true, true_and, sc_ii, sc_ss, sc_bb, sc_ni, sc_in, sc_is, sc_si, sc_nn, decide_true, decide_false, reduceCtorEq, Bool.false_eq_true, if_true, if_false, ite_true, ite_false, exists_const, eq_self, false_and, and_false, or_false, false_or, exists_false, Evl.rLenS, rSum, wipe, tYes, exists_eq, exists_eq', rIxL, rIxT, rIxS, exists_and_right, gt_iff_lt, not_true_eq_false, not_false_eq_true, Bool.not_true, Bool.not_false, decide_eq_true_eq, Nat.reduceSub, Nat.reduceAdd, List.append_assoc, tChain, tDIn, tDNotIn, sDDel, tAug, ipI, e1, e3]
          exact q' _ (Kp.refl _ _)
      · have e1 : ¬ (1 : Int) ≤ (ds.length : Nat) := by omega
        rw [decide_eq_false h1] at q'
        try simp (maxSteps := 1000000) only [tSeq, tIfS, tTest, tOp, tUn, tCB, tCons, tNil, tVar, tC, rI0, rI, rU, rEq, rNe, tRet, tRetN, tAsg, gName, gSub, tBM, tBM0, tNext, tB, tNot, tAnd, tOr, tIf, tCall, tDrop, tBreak, tCont, L2.start, tDGet, sDPut, tTup, tLst, tDNewK, tRevL, rCat, rAppend, rPop, rSetL, tAndV, tOrV, tNotV, tSl, tPart, tNoPart, tM1, gTup, gCons, gNil, cxK, cxnK, List.map_cons, List.map_nil, List.length_cons, List.length_nil, List.replicate, List.cons_append, List.nil_append, List.append_nil, List.set_cons_zero, List.set_cons_succ, List.getElem?_cons_zero, List.getElem?_cons_succ, Option.some.injEq, V.ref.injEq, V.int.injEq, V.str.injEq, V.bl.injEq, V.ty.injEq, exists_eq_left', exists_eq_left, exists_and_left, List.cons.injEq, and_true, true_and, sc_ii, sc_ss, sc_bb, sc_ni, sc_in, sc_is, sc_si, sc_nn, decide_true, decide_false, reduceCtorEq, Bool.false_eq_true, if_true, if_false, ite_true, ite_false, exists_const, eq_self, false_and, and_false, or_false, false_or, exists_false, Evl.rLenS, rSum, wipe, tYes, exists_eq, exists_eq', rIxL, rIxT, rIxS, exists_and_right, gt_iff_lt, not_true_eq_false, not_false_eq_true, Bool.not_true, Bool.not_false, decide_eq_true_eq, Nat.reduceSub, Nat.reduceAdd, List.append_assoc, tChain, tDIn, tDNotIn, sDDel, tAug, ipI, e1]
        exact q' _ (Kp.refl _ _)
    | _ =>
      try simp (maxSteps := 1000000) only [tSeq, tIfS, tTest, tOp, tUn, tCB, tCons, tNil, tVar, tC, rI0, rI, rU, rEq, rNe, tRet, tRetN, tAsg, gName, gSub, tBM, tBM0, tNext, tB, tNot, tAnd, tOr, tIf, tCall, tDrop, tBreak, tCont, L2.start, tDGet, sDPut, tTup, tLst, tDNewK, tRevL, rCat, rAppend, rPop, rSetL, tAndV, tOrV, tNotV, tSl, tPart, tNoPart, tM1, gTup, gCons, gNil, cxK, cxnK, List.map_cons, List.map_nil, List.length_cons, List.length_nil, List.replicate, List.cons_append, List.nil_append, List.append_nil, List.set_cons_zero, List.set_cons_succ, List.getElem?_cons_zero, List.getElem?_cons_succ, Option.some.injEq, V.ref.injEq, V.int.injEq, V.str.injEq, V.bl.injEq, V.ty.injEq, exists_eq_left', exists_eq_left, exists_and_left, List.cons.injEq, and_true, true_and, sc_ii, sc_ss, sc_bb, sc_ni, sc_in, sc_is, sc_si, sc_nn, decide_true, decide_false, reduceCtorEq, Bool.false_eq_true, if_true, if_false, ite_true, ite_false, exists_const, eq_self, false_and, and_false, or_false, false_or, exists_false, Evl.rLenS, rSum, wipe, tYes, exists_eq, exists_eq', rIxL, rIxT, rIxS, exists_and_right, gt_iff_lt, not_true_eq_false, not_false_eq_true, Bool.not_true, Bool.not_false, decide_eq_true_eq, Nat.reduceSub, Nat.reduceAdd, List.append_assoc, tChain, tDIn, tDNotIn, sDDel, tAug, ipI, isLstD]
      exact q _ (Kp.refl _ _)
end
end My

set_option Elab.async false
set_option linter.all false
set_option maxRecDepth 100000
set_option maxHeartbeats 4000000
namespace My
open PySem L2 NdefX
def mtop (i j : Nat) : Stmt := match top i with
  | .ClassDef _ _ _ b _ _ _ _ _ _ _ => b.getD j (.Pass ⟨0, 0, 0, 0⟩)
  | _ => .Pass ⟨0, 0, 0, 0⟩
abbrev s_BadTable_init : Stmt := mtop 5 0
theorem sc_BadTable_init : NScope ["self", "name", "__class__"] ["self", "name"] ["__class__"] (defScope s_BadTable_init) := nscope_by (by decide +kernel)
/-- what stands of an own error with one field, and its __init__ -/
structure Er1 (P : Program) (w : World) (K : PySem.W.Frag) (mg : Str → Option Value) (base : Heap) (nm fld : Str) (C f : Addr) (fd : FuncData) (ps : List Str) (Pf : V → Prop) : Prop where
  k : mg nm = some (.ref C)
  ox : OexC K C
  ic : PySem.W.findIn K (.ref C) "__init__" = some (some (.ref f))
  ti : PySem.W.typeIn K (.ref f) = some (.type "function")
  b : Binds K fd ps []
  G : FnOk P w K mg base (L2.CX P w) 1 f fd ps (spErr1 C fld Pf)
section
variable {P : Program} {w : World} {K : PySem.W.Frag} {mg : Str → Option Value} {base : Heap} {CX : CXT} {tL t1 t2 : Tok}
theorem ok_BadTable_init {f cc cda C : Addr} {fd : FuncData} (F : FunX K "__init__" "BadTable.__init__" s_BadTable_init f fd cc cda C) (T : ErrC K C) (G : CodeF K P cda) (hsup : mg "super" = none) (n1 : PySem.W.findIn K (.ref C) "name" = some none) {Pf : V → Prop} :
    FnOk P w K mg base CX 1 f fd ["self", "name"] (spErr1 C "name" Pf) := by
  have F0 := F
  obtain ⟨oc, od, kV, doc, pm, an, ct, osl, hfd, lk, hcd⟩ := F0.ex
  obtain ⟨cl, cld, csl, hcc⟩ := F0.cell
  refine F.ok sc_BadTable_init (fun vs H Q E h => ?_) (fun A outer s H vs Q E hr h => ?_)
  · obtain ⟨a, v, rfl, _⟩ := h
    rfl
  · obtain ⟨a, v, rfl, hp, ha, q⟩ := h
    refine ⟨_, psat_cons (psat_sup T G lk (by rw [hfd]; rfl) hcc hsup rfl rfl rfl rfl rfl rfl rfl (pa_cons pe_str pa_nil) rfl rfl rfl rfl rfl) (pss_one (ps_ost (pv 0) (pv 1))), ?_⟩
    try simp (maxSteps := 1000000) only [tSeq, tIfS, tTest, tOp, tUn, tCB, tCons, tNil, tVar, tC, rI0, rI, rU, rEq, rNe, tRet, tRetN, tAsg, gName, gSub, tBM, tBM0, tNext, tB, tNot, tAnd, tOr, tIf, tCall, tDrop, tBreak, tCont, L2.start, tDGet, sDPut, tTup, tLst, tDNewK, tRevL, rCat, rAppend, rPop, rSetL, tAndV, tOrV, tNotV, tSl, tPart, tNoPart, tM1, gTup, gCons, gNil, cxK, cxnK, List.map_cons, List.map_nil, List.length_cons, List.length_nil, List.replicate, List.cons_append, List.nil_append, List.append_nil, List.set_cons_zero, List.set_cons_succ, List.getElem?_cons_zero, List.getElem?_cons_succ, Option.some.injEq, V.ref.injEq, V.int.injEq, V.str.injEq, V.bl.injEq, V.ty.injEq, exists_eq_left', exists_eq_left, exists_and_left, List.cons.injEq, and_true, true_and, sc_ii, sc_ss, sc_bb, sc_ni, sc_in, sc_is, sc_si, sc_nn, decide_true, decide_false, reduceCtorEq, Bool.false_eq_true, if_true, if_false, ite_true, ite_false, exists_const, eq_self, false_and, and_false, or_false, false_or, exists_false, Evl.rLenS, rSum, wipe, tYes, exists_eq, exists_eq', rIxL, rIxT, rIxS, exists_and_right, gt_iff_lt, not_true_eq_false, not_false_eq_true, Bool.not_true, Bool.not_false, decide_eq_true_eq, Nat.reduceSub, Nat.reduceAdd, List.append_assoc, tChain, tDIn, tDNotIn, sDDel, tAug, ipI, startF, tSupI, tOst]
    exact ⟨ha, by decide, ha, C, T.ox, n1, .inl ⟨ha, q⟩⟩
def RowsD (H : Hp) (kvs : List (Key × V)) (rs : List (Str × PyData)) : Prop := kvs.length = rs.length ∧ ∀ (i : Nat) (k : Key) (v : V), kvs[i]? = some (k, v) → ∃ n d, k = Sum.inr n ∧ rs[i]? = some (n, d) ∧ Dq H v d ∧ szD d = true ∧ (∀ ds, d = .list ds → ds.length ≤ 1000) ∧ n.length ≤ 1000
def lenD : PyData → Nat
  | .list ds => ds.length
  | _ => 0
def goodR (m : Nat) (p : Str × PyData) : Bool := nameS p.1 && (rowD p.2 && lenD p.2 == m)
def rowsBad (rs : List (Str × PyData)) : Option Str :=
  match rs with
  | [] => some ""
  | p :: r => if 7 ≤ (p :: r).length then some "" else ((p :: r).find? fun q => !goodR (lenD p.2) q).map (·.1)
mutual
theorem Dq.kpN {H H' : Hp} {S : List Addr} (k : Kp S H H') (hS : ∀ a ∈ S, ∀ xs, H a ≠ some (.tup xs) ∧ H a ≠ some (.lst xs)) : ∀ {d : PyData} {v : V}, Dq H v d → Dq H' v d
  | _, _, .non => .non
  | _, _, .bl b => .bl b
  | _, _, .int i => .int i
  | _, _, .str x => .str x
  | _, _, .lst e h => .lst (k _ _ (fun m => (hS _ m _).2 e) e) (DqAll.kpN k hS h)
  | _, _, .tup e h => .tup (k _ _ (fun m => (hS _ m _).1 e) e) (DqAll.kpN k hS h)
theorem DqAll.kpN {H H' : Hp} {S : List Addr} (k : Kp S H H') (hS : ∀ a ∈ S, ∀ xs, H a ≠ some (.tup xs) ∧ H a ≠ some (.lst xs)) : ∀ {ds : List PyData} {vs : List V}, DqAll H vs ds → DqAll H' vs ds
  | _, _, .nil => .nil
  | _, _, .cons h t => .cons (Dq.kpN k hS h) (DqAll.kpN k hS t)
end
theorem unl {H2 H' : Hp} {d : Addr} {u : HO} (k : Kp [d] H2 H') (e : H2 d = some u) : Kp [] H2 (upd H' d u) := fun b o _ eb => by
  by_cases z : b = d
  · rw [z, upd_same, ← e, ← z, eb]
  · rw [upd_ne z]; exact k b o (not1 z) eb
theorem find_first {α : Type} {f : α → Bool} {l : List α} {i : Nat} {x : α} (e : l[i]? = some x) (hx : f x = true) (h : ∀ j y, j < i → l[j]? = some y → f y = false) : l.find? f = some x := by
  induction l generalizing i with
  | nil => cases e
  | cons a r ih =>
    cases i with
    | zero => cases e; rw [List.find?_cons, hx]
    | succ i =>
      rw [List.find?_cons, h 0 a (by omega) rfl]
      exact ih e fun j y hj ey => h (j + 1) y (by omega) ey
def CkInv (d : Addr) (v0 : V) (od : Obj) (kvs : List (Key × V)) (rs : List (Str × PyData)) (m : Nat) (H2 : Hp) (i : Nat) (σ : L2.St) (H' : Hp) : Prop := ∃ c, σ = [some (.ref d), some v0, c] ∧ H' d = some (.frz od (.dK kvs)) ∧ Kp [d] H2 H' ∧ ∀ j p, j < i → rs[j]? = some p → (!goodR m p) = false
def spCheck (C : Addr) : Sp := fun vs H Q E => ∃ (d : Addr) (kvs : List (Key × V)) (rs : List (Str × PyData)), vs = [.ref d] ∧ H d = some (.dK kvs) ∧ RowsD H kvs rs ∧ (kvs.map (·.1)).Nodup ∧ kvs.length ≤ 1000 ∧ (rowsBad rs = none → ∀ H', Kp [] H H' → Q .non H') ∧
  (∀ nm, rowsBad rs = some nm → ∀ (e : Addr) (H' : Hp), H e = none → H' e = some (.xd [("name", .str nm)]) → Kp [] H H' → E (.ref C) (some e) H')
theorem ok_check_rows {f : Addr} {fd : FuncData} (D : Df K mg "check_rows" s_check_rows ["rows"] f fd) (T : Bt mg tL t1 t2) {BT fB : Addr} {fdB : FuncData} (E_BadTable : Er1 P w K mg base "BadTable" "name" BT fB fdB ["self", "name"] (fun _ => True)) {fa : Addr} {fda : FuncData} (D_is_name : Df K mg "is_name" s_is_name ["value"] fa fda) (G_is_name : FnOk P w K mg base CX0 1 fa fda ["value"] (spD (fun _ => True) nameD))
    {fr : Addr} {fdr : FuncData} (D_is_row : Df K mg "is_row" s_is_row ["row"] fr fdr) (G_is_row : FnOk P w K mg base CX0 4 fr fdr ["row"] (spD (fun d => ∀ ds, d = .list ds → ds.length ≤ 1000) rowD)) : FnOk P w K mg base (L2.CX P w) 5 f fd ["rows"] (spCheck BT) := by
  refine D.F.okX sc_check_rows (fun vs H Q E h => ?_) (fun cdv A outer s H vs Q E hr h => ?_)
  · obtain ⟨d, _, _, rfl, _⟩ := h
    rfl
  · obtain ⟨d, kvs, rs, rfl, hd, hrs, nd, kl, qG, qB⟩ := h
    have hu := hu_of hr
    refine ⟨_, (pss_cons (ps_if (pt_not (pt_chain op_le op_le pe_int (pe_callB call_lenD (by rfl) T.b_len PySem.boot_len (pa_cons (pv 0) pa_nil)) (pe_glob (v := .int 6) rfl T.c_MOST_OPERATIONS ⟨_, rfl⟩))) (pss_one (ps_raise rfl (takes_of rfl rfl rfl rfl) (pmk_oex E_BadTable.ox E_BadTable.ic E_BadTable.ti E_BadTable.G (hr.mono (by decide)) E_BadTable.b .nil passL rfl E_BadTable.k (pa_cons pe_str pa_nil)))) pss_nil)
      (pss_cons (ps_set (i := 1) sc_check_rows.nd rfl (Or.inl rfl) (pe_ix (r := rIxL K) ix_list (pe_callTy (T := "list") (r := rListV) (call_listV rfl) (by rfl) T.b_list (by decide +kernel) (pa_cons (pe_values (pv 0)) pa_nil)) pe_int (fun _ _ => rfl)))
      (pss_one (ps_lock (ps_for (passes_of rfl) rfl (pi_keys (pv 0)) (pg_name (i := 2) sc_check_rows.nd rfl (Or.inl rfl)) (pss_one (ps_if (PW.pt (pw_or (pt_not (pt_val (pe_call G_is_name (hr.mono (by decide)) rfl D_is_name.g D_is_name.F.kp D_is_name.b .nil pass0 (pa_cons (pv 2) pa_nil)))) (pw_or (pt_not (pt_val (pe_call G_is_row (hr.mono (by decide)) rfl D_is_row.g D_is_row.F.kp D_is_row.b .nil pass0 (pa_cons (pe_dget hu (pv 0) (pv 2) (fun _ _ => rfl)) pa_nil)))) (pw_or1 (pt_cmpR op_ne (pe_callB (id := "len") (r := Evl.rLenS K) call_len_seq (by rfl) T.b_len PySem.boot_len (pa_cons (pe_dget hu (pv 0) (pv 2) (fun _ _ => rfl)) pa_nil)) (pe_callB (id := "len") (r := Evl.rLenS K) call_len_seq (by rfl) T.b_len PySem.boot_len (pa_cons (pv 1) pa_nil)) (nomark _)))))) (pss_one (ps_raise rfl (takes_lock (takes_of rfl rfl rfl rfl)) (pmk_oex E_BadTable.ox E_BadTable.ic E_BadTable.ti E_BadTable.G (hr.mono (by decide)) E_BadTable.b .nil passL rfl E_BadTable.k (pa_cons (pv 2) pa_nil)))) pss_nil))))))), ?_⟩
    have err : ∀ (nm : Str) (H1 : Hp), Kp [] H H1 → rowsBad rs = some nm → ([V.str nm] : List V).length ≤ 1000 ∧ ∀ a, H1 a = none → spErr1 BT "name" (fun _ => True) (.ref a :: ([V.str nm] ++ [])) (upd H1 a (exo a BT none)) (fun v H2 => v = .non ∧ ∃ (d : Addr) (fs : List (Str × V)), H2 a = some (exo a BT (some d)) ∧ H2 d = some (exd d fs) ∧ H1 d = none ∧ E (.ref BT) (some d) (upd (del H2 a) d (.xd fs))) (fun _ _ _ => False) := fun nm H1 kp hb =>
      err1_made (P := fun _ => True) True.intro fun e H' ne he k => qB nm hb e H' (kp.free0 ne) he (kp.trans k)
    try simp (maxSteps := 1000000) only [tSeq, tIfS, tTest, tOp, tUn, tCB, tCons, tNil, tVar, tC, rI0, rI, rU, rEq, rNe, tRet, tRetN, tAsg, gName, gSub, tBM, tBM0, tNext, tB, tNot, tAnd, tOr, tIf, tCall, tDrop, tBreak, tCont, L2.start, tDGet, sDPut, tTup, tLst, tDNewK, tRevL, rCat, rAppend, rPop, rSetL, tAndV, tOrV, tNotV, tSl, tPart, tNoPart, tM1, gTup, gCons, gNil, cxK, cxnK, List.map_cons, List.map_nil, List.length_cons, List.length_nil, List.replicate, List.cons_append, List.nil_append, List.append_nil, List.set_cons_zero, List.set_cons_succ, List.getElem?_cons_zero, List.getElem?_cons_succ, Option.some.injEq, V.ref.injEq, V.int.injEq, V.str.injEq, V.bl.injEq, V.ty.injEq, exists_eq_left', exists_eq_left, exists_and_left, List.cons.injEq, and_true, true_and, sc_ii, sc_ss, sc_bb, sc_ni, sc_in, sc_is, sc_si, sc_nn, decide_true, decide_false, reduceCtorEq, Bool.false_eq_true, if_true, if_false, ite_true, ite_false, exists_const, eq_self, false_and, and_false, or_false, false_or, exists_false, Evl.rLenS, rSum, wipe, tYes, exists_eq, exists_eq', rIxL, rIxT, rIxS, exists_and_right, gt_iff_lt, not_true_eq_false, not_false_eq_true, Bool.not_true, Bool.not_false, decide_eq_true_eq, Nat.reduceSub, Nat.reduceAdd, List.append_assoc, tChain, tDIn, tDNotIn, sDDel, tAug, ipI]
    refine ⟨kvs, hd, ?_⟩
    have hlen := hrs.1
    cases hr0 : rs with
    | nil =>
      have z0 : kvs.length = 0 := by rw [hlen, hr0]; rfl
      rw [if_neg (by omega)]
      exact err "" H (Kp.refl _ _) (by rw [hr0]; rfl)
    | cons p0 rr =>
      have zl : kvs.length = rr.length + 1 := by rw [hlen, hr0]; rfl
      rw [if_pos (by omega)]
      by_cases h7 : 7 ≤ (p0 :: rr).length
      · have h7' : 7 ≤ rr.length + 1 := h7
        have e6 : ¬ ((kvs.length : Nat) : Int) ≤ 6 := by omega
        rw [decide_eq_false e6]
        exact err "" H (Kp.refl _ _) (by rw [hr0]; exact if_pos h7)
      · have h7' : rr.length + 1 < 7 := Nat.lt_of_not_le h7
        have e6 : ((kvs.length : Nat) : Int) ≤ 6 := by omega
        rw [decide_eq_true e6]
        have rb : rowsBad rs = ((p0 :: rr).find? fun q => !goodR (lenD p0.2) q).map (·.1) := by rw [hr0]; exact if_neg h7
        obtain ⟨⟨k0, v0⟩, kr, hk0⟩ : ∃ q r, kvs = q :: r := by
          cases kvs with
          | nil => simp at zl
          | cons q r => exact ⟨q, r, rfl⟩
        refine ⟨.ref d, rfl, d, kvs, rfl, hd, fun q nq => ?_⟩
        have hdq : (upd H q (viewO q d)) d = some (.dK kvs) := by rw [upd_ne (ne_of_none hd nq)]; exact hd
        refine ⟨q, d, kvs, rfl, upd_same, hdq, fun l nl => ⟨l, rfl, _, sq_l upd_same, v0, atI_of (by decide) (by rw [hk0]; rfl), ?_⟩⟩
        have k2 : Kp [] H (upd (upd H q (viewO q d)) l (.lst (kvs.map fun kv => kv.2))) := (Kp.new nq).trans (Kp.new nl)
        generalize upd (upd H q (viewO q d)) l (.lst (kvs.map fun kv => kv.2)) = H2 at k2 ⊢
        have hd2 := k2 _ _ not0 hd
        refine ⟨d, .dK kvs, hd2, True.intro, fun od => ?_⟩
        have nf : ∀ o v, (cxOf (L2.CX P w) P w K mg base ["rows", "first_row", "name"] "check_rows" (defScope s_check_rows) f cdv A outer s H E).H_0 d ≠ some (.frz o v) := fun o v z => by
          rw [show (cxOf (L2.CX P w) P w K mg base ["rows", "first_row", "name"] "check_rows" (defScope s_check_rows) f cdv A outer s H E).H_0 d = H d from rfl, hd] at z
          cases z
        have dno : ∀ a ∈ [d], ∀ xs, H2 a ≠ some (.tup xs) ∧ H2 a ≠ some (.lst xs) := fun a ha xs => by
          rw [List.mem_singleton.mp ha, hd2]
          exact ⟨fun z => (by cases z), fun z => (by cases z)⟩
        have kl0 : Kp [d] H2 (upd H2 d (.frz od (.dK kvs))) := (Kp.refl [d] _).put List.mem_cons_self
        refine ⟨.ref d, rfl, d, od, rfl, .inl ⟨kvs, upd_same, for_it walk_keys (CkInv d v0 od kvs rs (lenD p0.2) H2) ⟨_, rfl, upd_same, kl0, fun j p hj => absurd hj (by omega)⟩ (fun i σ H' _ h => by obtain ⟨_, _, e, _⟩ := h; exact e) ?_ ?_⟩⟩
        · rintro i x σ H3 H4 hi ⟨c, rfl, hf3, k3, hg⟩ ⟨rfl, k, v, ek, rfl⟩
          obtain ⟨n, dd, rfl, er, hq, szd, bnd, nl3⟩ := hrs.2 i k v ek
          have hq3 := (hq.kp k2).kpN k3 dno
          have bad : (!goodR (lenD p0.2) (n, dd)) = true → ∀ (H5 : Hp), Kp [] H4 H5 → rowsBad rs = some n := fun z H5 _ => by
            rw [rb, find_first (x := (n, dd)) (i := i) (by rw [← hr0]; exact er) z (fun j y hj ey => hg j y hj (by rw [hr0]; exact ey))]; rfl
          try simp (maxSteps := 1000000) only [tSeq, tIfS, tTest, tOp, tUn, tCB, tCons, tNil, tVar, tC, rI0, rI, rU, rEq, rNe, tRet, tRetN, tAsg, gName, gSub, tBM, tBM0, tNext, tB, tNot, tAnd, tOr, tIf, tCall, tDrop, tBreak, tCont, L2.start, tDGet, sDPut, tTup, tLst, tDNewK, tRevL, rCat, rAppend, rPop, rSetL, tAndV, tOrV, tNotV, tSl, tPart, tNoPart, tM1, gTup, gCons, gNil, cxK, cxnK, List.map_cons, List.map_nil, List.length_cons, List.length_nil, List.replicate, List.cons_append, List.nil_append, List.append_nil, List.set_cons_zero, List.set_cons_succ, List.getElem?_cons_zero, List.getElem?_cons_succ, Option.some.injEq, V.ref.injEq, V.int.injEq, V.str.injEq, V.bl.injEq, V.ty.injEq, exists_eq_left', exists_eq_left, exists_and_left, List.cons.injEq, and_true, true_and, sc_ii, sc_ss, sc_bb, sc_ni, sc_in, sc_is, sc_si, sc_nn, decide_true, decide_false, reduceCtorEq, Bool.false_eq_true, if_true, if_false, ite_true, ite_false, exists_const, eq_self, false_and, and_false, or_false, false_or, exists_false, Evl.rLenS, rSum, wipe, tYes, exists_eq, exists_eq', rIxL, rIxT, rIxS, exists_and_right, gt_iff_lt, not_true_eq_false, not_false_eq_true, Bool.not_true, Bool.not_false, decide_eq_true_eq, Nat.reduceSub, Nat.reduceAdd, List.append_assoc, tChain, tDIn, tDNotIn, sDDel, tAug, ipI]
          refine ⟨.str n, .str n, rfl, .str n, by simp [szD, nl3], True.intro, fun H5 k5 => ?_⟩
          have hf4 := k5 _ _ not0 hf3
          have errL : ∀ (H6 : Hp), Kp [] H4 H6 → (!goodR (lenD p0.2) (n, dd)) = true → tMkO BT (spErr1 BT "name" fun _ => True) [] (tCons (tVar 2) tNil) [some (.ref d), some v0, some (.str n)] H6 (fun cls d_1 H' => WLock (cxOf (L2.CX P w) P w K mg base ["rows", "first_row", "name"] "check_rows" (defScope s_check_rows) f cdv A outer s H E) (fun cls d x H => E cls d H) cls d_1 [some (.ref d), some v0, some (.str n)] H') := fun H6 k6 hb => by
            have hf6 := k6 _ _ not0 hf3
            have k36 : Kp [d] H2 H6 := k3.trans k6.of0
            have key := err1_made (C := BT) (f := "name") (P := fun _ => True) (v := .str n) (H1 := H6) (Q := fun cls d_1 H' => WLock (cxOf (L2.CX P w) P w K mg base ["rows", "first_row", "name"] "check_rows" (defScope s_check_rows) f cdv A outer s H E) (fun cls d x H => E cls d H) cls d_1 [some (.ref d), some v0, some (.str n)] H') True.intro (fun e H' ne he k => by
              have ed : e ≠ d := fun z => by rw [z, hf6] at ne; cases ne
              exact ⟨d, .dK kvs, od, k _ _ not0 hf6, nf, qB n (bad hb H6 k6) e _ ((k2.trans (unl k36 hd2)).free0 (by rw [upd_ne ed]; exact ne)) (by rw [upd_ne ed]; exact he) (k2.trans (unl (k36.trans k.of0) hd2))⟩)
            exact ⟨.str n, rfl, key⟩
          have en : nameD (.str n) = nameS n := rfl
          rw [en]
          cases hns : nameS n with
          | false =>
            try simp (maxSteps := 1000000) only [tSeq, tIfS, tTest, tOp, tUn, tCB, tCons, tNil, tVar, tC, rI0, rI, rU, rEq, rNe, tRet, tRetN, tAsg, gName, gSub, tBM, tBM0, tNext, tB, tNot, tAnd, tOr, tIf, tCall, tDrop, tBreak, tCont, L2.start, tDGet, sDPut, tTup, tLst, tDNewK, tRevL, rCat, rAppend, rPop, rSetL, tAndV, tOrV, tNotV, tSl, tPart, tNoPart, tM1, gTup, gCons, gNil, cxK, cxnK, List.map_cons, List.map_nil, List.length_cons, List.length_nil, List.replicate, List.cons_append, List.nil_append, List.append_nil, List.set_cons_zero, List.set_cons_succ, List.getElem?_cons_zero, List.getElem?_cons_succ, Option.some.injEq, V.ref.injEq, V.int.injEq, V.str.injEq, V.bl.injEq, V.ty.injEq, exists_eq_left', exists_eq_left, exists_and_left, List.cons.injEq, and_true, true_and, sc_ii, sc_ss, sc_bb, sc_ni, sc_in, sc_is, sc_si, sc_nn, decide_true, decide_false, reduceCtorEq, Bool.false_eq_true, if_true, if_false, ite_true, ite_false, exists_const, eq_self, false_and, and_false, or_false, false_or, exists_false, Evl.rLenS, rSum, wipe, tYes, exists_eq, exists_eq', rIxL, rIxT, rIxS, exists_and_right, gt_iff_lt, not_true_eq_false, not_false_eq_true, Bool.not_true, Bool.not_false, decide_eq_true_eq, Nat.reduceSub, Nat.reduceAdd, List.append_assoc, tChain, tDIn, tDNotIn, sDDel, tAug, ipI]
            exact errL H5 k5 (by unfold goodR; rw [hns]; rfl)
          | true =>
            try simp (maxSteps := 1000000) only [tSeq, tIfS, tTest, tOp, tUn, tCB, tCons, tNil, tVar, tC, rI0, rI, rU, rEq, rNe, tRet, tRetN, tAsg, gName, gSub, tBM, tBM0, tNext, tB, tNot, tAnd, tOr, tIf, tCall, tDrop, tBreak, tCont, L2.start, tDGet, sDPut, tTup, tLst, tDNewK, tRevL, rCat, rAppend, rPop, rSetL, tAndV, tOrV, tNotV, tSl, tPart, tNoPart, tM1, gTup, gCons, gNil, cxK, cxnK, List.map_cons, List.map_nil, List.length_cons, List.length_nil, List.replicate, List.cons_append, List.nil_append, List.append_nil, List.set_cons_zero, List.set_cons_succ, List.getElem?_cons_zero, List.getElem?_cons_succ, Option.some.injEq, V.ref.injEq, V.int.injEq, V.str.injEq, V.bl.injEq, V.ty.injEq, exists_eq_left', exists_eq_left, exists_and_left, List.cons.injEq, and_true, true_and, sc_ii, sc_ss, sc_bb, sc_ni, sc_in, sc_is, sc_si, sc_nn, decide_true, decide_false, reduceCtorEq, Bool.false_eq_true, if_true, if_false, ite_true, ite_false, exists_const, eq_self, false_and, and_false, or_false, false_or, exists_false, Evl.rLenS, rSum, wipe, tYes, exists_eq, exists_eq', rIxL, rIxT, rIxS, exists_and_right, gt_iff_lt, not_true_eq_false, not_false_eq_true, Bool.not_true, Bool.not_false, decide_eq_true_eq, Nat.reduceSub, Nat.reduceAdd, List.append_assoc, tChain, tDIn, tDNotIn, sDDel, tAug, ipI]
            have vget : valV kvs (Sum.inr n) = some v := valV_mem nd (List.mem_of_getElem? ek)
            refine ⟨v, .inl ⟨kvs, Sum.inr n, .inr ⟨od, hf4⟩, rfl, vget.symm⟩, ?_⟩
            refine ⟨v, dd, rfl, hq3.kp k5, szd, bnd, fun H6 k6 => ?_⟩
            have k46 := k5.trans k6
            cases hrd : rowD dd with
            | false =>
              try simp (maxSteps := 1000000) only [tSeq, tIfS, tTest, tOp, tUn, tCB, tCons, tNil, tVar, tC, rI0, rI, rU, rEq, rNe, tRet, tRetN, tAsg, gName, gSub, tBM, tBM0, tNext, tB, tNot, tAnd, tOr, tIf, tCall, tDrop, tBreak, tCont, L2.start, tDGet, sDPut, tTup, tLst, tDNewK, tRevL, rCat, rAppend, rPop, rSetL, tAndV, tOrV, tNotV, tSl, tPart, tNoPart, tM1, gTup, gCons, gNil, cxK, cxnK, List.map_cons, List.map_nil, List.length_cons, List.length_nil, List.replicate, List.cons_append, List.nil_append, List.append_nil, List.set_cons_zero, List.set_cons_succ, List.getElem?_cons_zero, List.getElem?_cons_succ, Option.some.injEq, V.ref.injEq, V.int.injEq, V.str.injEq, V.bl.injEq, V.ty.injEq, exists_eq_left', exists_eq_left, exists_and_left, List.cons.injEq, and_true, true_and, sc_ii, sc_ss, sc_bb, sc_ni, sc_in, sc_is, sc_si, sc_nn, decide_true, decide_false, reduceCtorEq, Bool.false_eq_true, if_true, if_false, ite_true, ite_false, exists_const, eq_self, false_and, and_false, or_false, false_or, exists_false, Evl.rLenS, rSum, wipe, tYes, exists_eq, exists_eq', rIxL, rIxT, rIxS, exists_and_right, gt_iff_lt, not_true_eq_false, not_false_eq_true, Bool.not_true, Bool.not_false, decide_eq_true_eq, Nat.reduceSub, Nat.reduceAdd, List.append_assoc, tChain, tDIn, tDNotIn, sDDel, tAug, ipI]
              exact errL H6 k46 (by unfold goodR; rw [hns, hrd]; rfl)
            | true =>
              try simp (maxSteps := 1000000) only [tSeq, tIfS, tTest, tOp, tUn, tCB, tCons, tNil, tVar, tC, rI0, rI, rU, rEq, rNe, tRet, tRetN, tAsg, gName, gSub, tBM, tBM0, tNext, tB, tNot, tAnd, tOr, tIf, tCall, tDrop, tBreak, tCont, L2.start, tDGet, sDPut, tTup, tLst, tDNewK, tRevL, rCat, rAppend, rPop, rSetL, tAndV, tOrV, tNotV, tSl, tPart, tNoPart, tM1, gTup, gCons, gNil, cxK, cxnK, List.map_cons, List.map_nil, List.length_cons, List.length_nil, List.replicate, List.cons_append, List.nil_append, List.append_nil, List.set_cons_zero, List.set_cons_succ, List.getElem?_cons_zero, List.getElem?_cons_succ, Option.some.injEq, V.ref.injEq, V.int.injEq, V.str.injEq, V.bl.injEq, V.ty.injEq, exists_eq_left', exists_eq_left, exists_and_left, List.cons.injEq, and_true, true_and, sc_ii, sc_ss, sc_bb, sc_ni, sc_in, sc_is, sc_si, sc_nn, decide_true, decide_false, reduceCtorEq, Bool.false_eq_true, if_true, if_false, ite_true, ite_false, exists_const, eq_self, false_and, and_false, or_false, false_or, exists_false, Evl.rLenS, rSum, wipe, tYes, exists_eq, exists_eq', rIxL, rIxT, rIxS, exists_and_right, gt_iff_lt, not_true_eq_false, not_false_eq_true, Bool.not_true, Bool.not_false, decide_eq_true_eq, Nat.reduceSub, Nat.reduceAdd, List.append_assoc, tChain, tDIn, tDNotIn, sDDel, tAug, ipI]
              refine ⟨v, .inl ⟨kvs, Sum.inr n, .inr ⟨od, k6 _ _ not0 hf4⟩, rfl, vget.symm⟩, ?_⟩
              have isL : ∀ {dd : PyData}, rowD dd = true → ∃ ds, dd = .list ds := fun {dd} h => by
                cases dd <;> first | exact ⟨_, rfl⟩ | cases h
              obtain ⟨ds, rfl⟩ := isL hrd
              obtain ⟨n0, d0, _, er0, hq0, _, _, _⟩ := hrs.2 0 k0 v0 (by rw [hk0]; rfl)
              have ep0 : p0 = (n0, d0) := by rw [hr0] at er0; exact Option.some.inj er0
              have hrd0 : rowD d0 = true := by
                by_cases z : i = 0
                · subst z
                  rw [er] at er0
                  cases er0
                  exact hrd
                · have g0 := hg 0 (n0, d0) (by omega) er0
                  unfold goodR at g0
                  cases h : rowD d0 with
                  | true => rfl
                  | false => rw [h] at g0; cases hz : nameS n0 <;> rw [hz] at g0 <;> cases g0
              obtain ⟨ds0, rfl⟩ := isL hrd0
              have hq6 := hq3.kp k46
              have hq06 := ((hq0.kp k2).kpN k3 dno).kp k46
              cases hq6 with
              | lst e1 a1 =>
              cases hq06 with
              | lst e2 a2 =>
              refine ⟨_, rfl, _, .inl (sq_l e1), _, rfl, _, .inl (sq_l e2), ?_⟩
              rw [a1.len, a2.len]
              have lp : lenD p0.2 = ds0.length := by rw [ep0]; rfl
              by_cases hz : ds.length = ds0.length
              · have e3 : ((ds.length : Nat) : Int) = (ds0.length : Nat) := by omega
                try simp (maxSteps := 1000000) only [tSeq, tIfS, tTest, tOp, tUn, tCB, tCons, tNil, tVar, tC, rI0, rI, rU, rEq, rNe, tRet, tRetN, tAsg, gName, gSub, tBM, tBM0, tNext, tB, tNot, tAnd, tOr, tIf, tCall, tDrop, tBreak, tCont, L2.start, tDGet, sDPut, tTup, tLst, tDNewK, tRevL, rCat, rAppend, rPop, rSetL, tAndV, tOrV, tNotV, tSl, tPart, tNoPart, tM1, gTup, gCons, gNil, cxK, cxnK, List.map_cons, List.map_nil, List.length_cons, List.length_nil, List.replicate, List.cons_append, List.nil_append, List.append_nil, List.set_cons_zero, List.set_cons_succ, List.getElem?_cons_zero, List.getElem?_cons_succ, Option.some.injEq, V.ref.injEq, V.int.injEq, V.str.injEq, V.bl.injEq, V.ty.injEq, exists_eq_left', exists_eq_left, exists_and_left, List.cons.injEq, and_true, true_and, sc_ii, sc_ss, sc_bb, sc_ni, sc_in, sc_is, sc_si, sc_nn, decide_true, decide_false, reduceCtorEq, Bool.false_eq_true, if_true, if_false, ite_true, ite_false, exists_const, eq_self, false_and, and_false, or_false, false_or, exists_false, Evl.rLenS, rSum, wipe, tYes, exists_eq, exists_eq', rIxL, rIxT, rIxS, exists_and_right, gt_iff_lt, not_true_eq_false, not_false_eq_true, Bool.not_true, Bool.not_false, decide_eq_true_eq, Nat.reduceSub, Nat.reduceAdd, List.append_assoc, tChain, tDIn, tDNotIn, sDDel, tAug, ipI, e3]
                refine ⟨_, rfl, k6 _ _ not0 hf4, k3.trans k46.of0, fun j p hj ej => ?_⟩
                by_cases zj : j = i
                · subst zj
                  rw [er] at ej
                  cases ej
                  unfold goodR
                  rw [hns, hrd, lp, show lenD (.list ds) = ds.length from rfl, hz]
                  simp
                · exact hg j p (by omega) ej
              · have e3 : ¬ ((ds.length : Nat) : Int) = (ds0.length : Nat) := by omega
                try simp (maxSteps := 1000000) only [tSeq, tIfS, tTest, tOp, tUn, tCB, tCons, tNil, tVar, tC, rI0, rI, rU, rEq, rNe, tRet, tRetN, tAsg, gName, gSub, tBM, tBM0, tNext, tB, tNot, tAnd, tOr, tIf, tCall, tDrop, tBreak, tCont, L2.start, tDGet, sDPut, tTup, tLst, tDNewK, tRevL, rCat, rAppend, rPop, rSetL, tAndV, tOrV, tNotV, tSl, tPart, tNoPart, tM1, gTup, gCons, gNil, cxK, cxnK, List.map_cons, List.map_nil, List.length_cons, List.length_nil, List.replicate, List.cons_append, List.nil_append, List.append_nil, List.set_cons_zero, List.set_cons_succ, List.getElem?_cons_zero, List.getElem?_cons_succ, Option.some.injEq, V.ref.injEq, V.int.injEq, V.str.injEq, V.bl.injEq, V.ty.injEq, exists_eq_left', exists_eq_left, exists_and_left, List.cons.injEq, and_true, true_and, sc_ii, sc_ss, sc_bb, sc_ni, sc_in, sc_is, sc_si, sc_nn, decide_true, decide_false, reduceCtorEq, Bool.false_eq_true, if_true, if_false, ite_true, ite_false, exists_const, eq_self, false_and, and_false, or_false, false_or, exists_false, Evl.rLenS, rSum, wipe, tYes, exists_eq, exists_eq', rIxL, rIxT, rIxS, exists_and_right, gt_iff_lt, not_true_eq_false, not_false_eq_true, Bool.not_true, Bool.not_false, decide_eq_true_eq, Nat.reduceSub, Nat.reduceAdd, List.append_assoc, tChain, tDIn, tDNotIn, sDDel, tAug, ipI, e3]
                refine errL H6 k46 ?_
                unfold goodR
                rw [hns, hrd, lp, show lenD (.list ds) = ds.length from rfl, beq_eq_false_iff_ne.mpr hz]; rfl
        · rintro σ H3 ⟨c, rfl, hf3, k3, hg⟩
          refine ⟨hf3, qG ?_ _ (k2.trans (unl k3 hd2))⟩
          rw [rb]
          have none_ : ((p0 :: rr).find? fun q => !goodR (lenD p0.2) q) = none := by
            rw [List.find?_eq_none]
            intro y hy
            obtain ⟨j, ej⟩ := List.getElem?_of_mem hy
            have hj : j < kvs.length := by
              have := (List.getElem?_eq_some_iff.mp ej).1
              rw [List.length_cons] at this
              omega
            rw [hg j y hj (by rw [hr0]; exact ej)]
            exact Bool.false_ne_true
          rw [none_]; rfl
end
end My

set_option Elab.async false
set_option linter.all false
set_option maxRecDepth 100000
set_option maxHeartbeats 4000000
namespace My
open PySem L2 NdefX
def rLstOf (K : PySem.W.Frag) : List V → Hp → VK → Prop := fun xs H Q => ∃ p ys, xs = [V.ref p] ∧ (SqL K H p ys ∨ SqT K H p ys) ∧ ∀ (l : Addr), H l = none → Q (V.ref l) (upd H l (HO.lst ys))
abbrev s_BadNumber_init : Stmt := mtop 3 0
theorem sc_BadNumber_init : NScope ["self", "number", "__class__"] ["self", "number"] ["__class__"] (defScope s_BadNumber_init) := nscope_by (by decide +kernel)
theorem ok_BadNumber_init {P : Program} {w : World} {K : PySem.W.Frag} {mg : Str → Option Value} {base : Heap} {CX : CXT} {f cc cda C : Addr} {fd : FuncData} (F : FunX K "__init__" "BadNumber.__init__" s_BadNumber_init f fd cc cda C) (T : ErrC K C) (G : CodeF K P cda) (hsup : mg "super" = none) (n1 : PySem.W.findIn K (.ref C) "number" = some none) {Pf : V → Prop} :
    FnOk P w K mg base CX 1 f fd ["self", "number"] (spErr1 C "number" Pf) := by
  have F0 := F
  obtain ⟨oc, od, kV, doc, pm, an, ct, osl, hfd, lk, hcd⟩ := F0.ex
  obtain ⟨cl, cld, csl, hcc⟩ := F0.cell
  refine F.ok sc_BadNumber_init (fun vs H Q E h => ?_) (fun A outer s H vs Q E hr h => ?_)
  · obtain ⟨a, v, rfl, _⟩ := h
    rfl
  · obtain ⟨a, v, rfl, hp, ha, q⟩ := h
    refine ⟨_, psat_cons (psat_sup T G lk (by rw [hfd]; rfl) hcc hsup rfl rfl rfl rfl rfl rfl rfl (pa_cons pe_str pa_nil) rfl rfl rfl rfl rfl) (pss_one (ps_ost (pv 0) (pv 1))), ?_⟩
    try simp (maxSteps := 1000000) only [tSeq, tIfS, tTest, tOp, tUn, tCB, tCons, tNil, tVar, tC, rI0, rI, rU, rEq, rNe, tRet, tRetN, tAsg, gName, gSub, tBM, tBM0, tNext, tB, tNot, tAnd, tOr, tIf, tCall, tDrop, tBreak, tCont, L2.start, tDGet, sDPut, tTup, tLst, tDNewK, tRevL, rCat, rAppend, rPop, rSetL, tAndV, tOrV, tNotV, tSl, tPart, tNoPart, tM1, gTup, gCons, gNil, cxK, cxnK, List.map_cons, List.map_nil, List.length_cons, List.length_nil, List.replicate, List.cons_append, List.nil_append, List.append_nil, List.set_cons_zero, List.set_cons_succ, List.getElem?_cons_zero, List.getElem?_cons_succ, Option.some.injEq, V.ref.injEq, V.int.injEq, V.str.injEq, V.bl.injEq, V.ty.injEq, exists_eq_left', exists_eq_left, exists_and_left, List.cons.injEq, and_true, true_and, sc_ii, sc_ss, sc_bb, sc_ni, sc_in, sc_is, sc_si, sc_nn, decide_true, decide_false, reduceCtorEq, Bool.false_eq_true, if_true, if_false, ite_true, ite_false, exists_const, eq_self, false_and, and_false, or_false, false_or, exists_false, Evl.rLenS, rSum, wipe, tYes, exists_eq, exists_eq', rIxL, rIxT, rIxS, exists_and_right, gt_iff_lt, not_true_eq_false, not_false_eq_true, Bool.not_true, Bool.not_false, decide_eq_true_eq, Nat.reduceSub, Nat.reduceAdd, List.append_assoc, tChain, tDIn, tDNotIn, sDDel, tAug, ipI, startF, tSupI, tOst]
    exact ⟨ha, by decide, ha, C, T.ox, n1, .inl ⟨ha, q⟩⟩
abbrev s_NoOperation_init : Stmt := mtop 6 0
theorem sc_NoOperation_init : NScope ["self", "name", "__class__"] ["self", "name"] ["__class__"] (defScope s_NoOperation_init) := nscope_by (by decide +kernel)
theorem ok_NoOperation_init {P : Program} {w : World} {K : PySem.W.Frag} {mg : Str → Option Value} {base : Heap} {CX : CXT} {f cc cda C : Addr} {fd : FuncData} (F : FunX K "__init__" "NoOperation.__init__" s_NoOperation_init f fd cc cda C) (T : ErrC K C) (G : CodeF K P cda) (hsup : mg "super" = none) (n1 : PySem.W.findIn K (.ref C) "name" = some none) {Pf : V → Prop} :
    FnOk P w K mg base CX 1 f fd ["self", "name"] (spErr1 C "name" Pf) := by
  have F0 := F
  obtain ⟨oc, od, kV, doc, pm, an, ct, osl, hfd, lk, hcd⟩ := F0.ex
  obtain ⟨cl, cld, csl, hcc⟩ := F0.cell
  refine F.ok sc_NoOperation_init (fun vs H Q E h => ?_) (fun A outer s H vs Q E hr h => ?_)
  · obtain ⟨a, v, rfl, _⟩ := h
    rfl
  · obtain ⟨a, v, rfl, hp, ha, q⟩ := h
    refine ⟨_, psat_cons (psat_sup T G lk (by rw [hfd]; rfl) hcc hsup rfl rfl rfl rfl rfl rfl rfl (pa_cons pe_str pa_nil) rfl rfl rfl rfl rfl) (pss_one (ps_ost (pv 0) (pv 1))), ?_⟩
    try simp (maxSteps := 1000000) only [tSeq, tIfS, tTest, tOp, tUn, tCB, tCons, tNil, tVar, tC, rI0, rI, rU, rEq, rNe, tRet, tRetN, tAsg, gName, gSub, tBM, tBM0, tNext, tB, tNot, tAnd, tOr, tIf, tCall, tDrop, tBreak, tCont, L2.start, tDGet, sDPut, tTup, tLst, tDNewK, tRevL, rCat, rAppend, rPop, rSetL, tAndV, tOrV, tNotV, tSl, tPart, tNoPart, tM1, gTup, gCons, gNil, cxK, cxnK, List.map_cons, List.map_nil, List.length_cons, List.length_nil, List.replicate, List.cons_append, List.nil_append, List.append_nil, List.set_cons_zero, List.set_cons_succ, List.getElem?_cons_zero, List.getElem?_cons_succ, Option.some.injEq, V.ref.injEq, V.int.injEq, V.str.injEq, V.bl.injEq, V.ty.injEq, exists_eq_left', exists_eq_left, exists_and_left, List.cons.injEq, and_true, true_and, sc_ii, sc_ss, sc_bb, sc_ni, sc_in, sc_is, sc_si, sc_nn, decide_true, decide_false, reduceCtorEq, Bool.false_eq_true, if_true, if_false, ite_true, ite_false, exists_const, eq_self, false_and, and_false, or_false, false_or, exists_false, Evl.rLenS, rSum, wipe, tYes, exists_eq, exists_eq', rIxL, rIxT, rIxS, exists_and_right, gt_iff_lt, not_true_eq_false, not_false_eq_true, Bool.not_true, Bool.not_false, decide_eq_true_eq, Nat.reduceSub, Nat.reduceAdd, List.append_assoc, tChain, tDIn, tDNotIn, sDDel, tAug, ipI, startF, tSupI, tOst]
    exact ⟨ha, by decide, ha, C, T.ox, n1, .inl ⟨ha, q⟩⟩
abbrev s_Table_init : Stmt := mtop 16 0
theorem sc_Table_init : FnScope ["self", "rows", "first", "name"] ["self", "rows", "first"] (defScope s_Table_init) := ⟨rfl, rfl, rfl, by decide +kernel, rfl, by decide +kernel, by decide +kernel⟩
abbrev s_Table_names : Stmt := mtop 16 1
theorem sc_Table_names : FnScope ["self"] ["self"] (defScope s_Table_names) := ⟨rfl, rfl, rfl, by decide +kernel, rfl, by decide +kernel, by decide +kernel⟩
abbrev s_Table_call : Stmt := mtop 16 2
theorem sc_Table_call : FnScope ["self", "name", "state"] ["self", "name", "state"] (defScope s_Table_call) := ⟨rfl, rfl, rfl, by decide +kernel, rfl, by decide +kernel, by decide +kernel⟩
abbrev s_Table_answers : Stmt := mtop 16 3
theorem sc_Table_answers : FnScope ["self", "calls", "name", "state", "found", "answer"] ["self", "calls"] (defScope s_Table_answers) := ⟨rfl, rfl, rfl, by decide +kernel, rfl, by decide +kernel, by decide +kernel⟩
abbrev s_Table_check_name : Stmt := mtop 16 5
theorem sc_Table_check_name : FnScope ["self", "name"] ["self", "name"] (defScope s_Table_check_name) := ⟨rfl, rfl, rfl, by decide +kernel, rfl, by decide +kernel, by decide +kernel⟩
/-- rows of data that are good stand at the dict's values -/
theorem RowsD.kpN {H H' : Hp} {S : List Addr} {kvs : List (Key × V)} {rs : List (Str × PyData)} (h : RowsD H kvs rs) (k : Kp S H H') (hS : ∀ a ∈ S, ∀ xs, H a ≠ some (.tup xs) ∧ H a ≠ some (.lst xs)) : RowsD H' kvs rs :=
  ⟨h.1, fun i key v e => by
    obtain ⟨n, d, a, b, c, r⟩ := h.2 i key v e
    exact ⟨n, d, a, b, c.kpN k hS, r⟩⟩
theorem RowsD.kp {H H' : Hp} {kvs : List (Key × V)} {rs : List (Str × PyData)} (h : RowsD H kvs rs) (k : Kp [] H H') : RowsD H' kvs rs := h.kpN k fun a m => absurd m (by simp)
/-- what the class Table has for the objects -/
structure TbC (K : PySem.W.Frag) (mg : Str → Option Value) (TC : Addr) : Prop where
  k : mg "Table" = some (.ref TC)
  cl : Cls K TC
  n1 : NoAttr K TC "size"
  n2 : NoAttr K TC "first"
  n3 : NoAttr K TC "_rows"
/-- at o a Table of the good rows rs -/
def TabAt (TC : Addr) (H : Hp) (o : Addr) (m : Nat) (first : Int) (rs : List (Str × PyData)) : Prop := ∃ (dx d : Addr) (kvs : List (Key × V)), H o = some (.ins TC dx [("size", .int (m : Nat)), ("first", .int first), ("_rows", .ref d)]) ∧ H d = some (.dK kvs) ∧ RowsD H kvs rs ∧ (kvs.map (·.1)).Nodup ∧ rowsBad rs = none ∧ m = lenD (rs.headD ("", .none)).2 ∧ 0 ≤ first ∧ first < m
theorem TabAt.kp {TC : Addr} {H H' : Hp} {o : Addr} {m : Nat} {first : Int} {rs : List (Str × PyData)} (h : TabAt TC H o m first rs) (k : Kp [] H H') : TabAt TC H' o m first rs := by
  obtain ⟨dx, d, kvs, a, b, c, r⟩ := h
  exact ⟨dx, d, kvs, k _ _ not0 a, k _ _ not0 b, c.kp k, r⟩
def spTI (TC BT : Addr) : Sp := fun vs H Q E => ∃ (o dx d : Addr) (vf : V) (df : PyData) (kvs : List (Key × V)) (rs : List (Str × PyData)), vs = [.ref o, .ref d, vf] ∧ H o = some (.ins TC dx []) ∧ H d = some (.dK kvs) ∧ RowsD H kvs rs ∧ (kvs.map (·.1)).Nodup ∧ kvs.length ≤ 1000 ∧ Dq H vf df ∧
  (rowsBad rs = none → ∀ i : Int, df = .int i → 0 ≤ i → i < lenD (rs.headD ("", .none)).2 → ∀ H', TabAt TC H' o (lenD (rs.headD ("", .none)).2) i rs → Kp [o] H H' → Q .non H') ∧
  (∀ nm, (rowsBad rs = some nm ∨ (rowsBad rs = none ∧ belowD (lenD (rs.headD ("", .none)).2) df = false ∧ nm = ("" : Str))) → ∀ (e : Addr) (H' : Hp), H e = none → H' e = some (.xd [("name", .str nm)]) → Kp [o] H H' → E (.ref BT) (some e) H')
theorem rowsBad_none {rs : List (Str × PyData)} (h : rowsBad rs = none) : rs ≠ [] ∧ rs.length ≤ 6 ∧ ∀ q ∈ rs, goodR (lenD (rs.headD ("", .none)).2) q = true := by
  cases rs with
  | nil => cases h
  | cons p r =>
    have h : (if 7 ≤ (p :: r).length then some ("" : Str) else ((p :: r).find? fun q => !goodR (lenD p.2) q).map (·.1)) = none := h
    by_cases z : 7 ≤ (p :: r).length
    · rw [if_pos z] at h; cases h
    · rw [if_neg z] at h
      refine ⟨by simp, by omega, fun q hq => ?_⟩
      have h2 : ((p :: r).find? fun q => !goodR (lenD p.2) q) = none := by
        cases e : ((p :: r).find? fun q => !goodR (lenD p.2) q) with
        | none => rfl
        | some x => rw [e] at h; cases h
      have h3 := List.find?_eq_none.mp h2 q hq
      show goodR (lenD p.2) q = true
      simpa using h3
theorem isL {dd : PyData} (h : rowD dd = true) : ∃ ds, dd = .list ds := by
  cases dd <;> first | exact ⟨_, rfl⟩ | cases h
theorem goodR_row {m : Nat} {n : Str} {d : PyData} (h : goodR m (n, d) = true) : nameS n = true ∧ ∃ ds, d = .list ds ∧ rowD (.list ds) = true ∧ ds.length = m := by
  unfold goodR at h
  rw [Bool.and_eq_true, Bool.and_eq_true, beq_iff_eq] at h
  obtain ⟨ds, rfl⟩ := isL h.2.1
  exact ⟨h.1, ds, rfl, h.2.1, h.2.2⟩
theorem belowD_int {m : Int} {d : PyData} (h : belowD m d = true) : ∃ i : Int, d = .int i ∧ 0 ≤ i ∧ i < m := by
  cases d with
  | int i =>
    have h' : (decide (0 ≤ i) && decide (i < m)) = true := h
    rw [Bool.and_eq_true, decide_eq_true_eq, decide_eq_true_eq] at h'
    exact ⟨i, rfl, h'⟩
  | _ => cases h
theorem ins_no {H : Hp} {o C dx : Addr} {fs : List (Str × V)} (e : H o = some (.ins C dx fs)) : ∀ a ∈ [o], ∀ xs, H a ≠ some (.tup xs) ∧ H a ≠ some (.lst xs) := fun a m xs => by
  rw [List.mem_singleton.mp m, e]
  exact ⟨fun z => (by cases z), fun z => (by cases z)⟩
theorem RowsD.app {H : Hp} {kvs : List (Key × V)} {rs : List (Str × PyData)} (h : RowsD H kvs rs) {n : Str} {v : V} {dd : PyData} (hq : Dq H v dd) (sz : szD dd = true) (bnd : ∀ ds, dd = .list ds → ds.length ≤ 1000) (nl : n.length ≤ 1000) : RowsD H (kvs ++ [(Sum.inr n, v)]) (rs ++ [(n, dd)]) := by
  refine ⟨by simp [h.1], fun i k x e => ?_⟩
  rcases Nat.lt_trichotomy i kvs.length with z | z | z
  · rw [List.getElem?_append_left z] at e
    obtain ⟨n', d', a, b, c⟩ := h.2 i k x e
    exact ⟨n', d', a, by rw [List.getElem?_append_left (by rw [← h.1]; exact z)]; exact b, c⟩
  · subst z
    rw [List.getElem?_append_right (Nat.le_refl _), Nat.sub_self] at e
    cases e
    refine ⟨n, dd, rfl, ?_, hq, sz, bnd, nl⟩
    rw [List.getElem?_append_right (by rw [h.1]; exact Nat.le_refl _), h.1, Nat.sub_self]; rfl
  · rw [List.getElem?_append_right (by omega), List.getElem?_eq_none (by simp; omega)] at e
    cases e
theorem nd_fresh {α : Type} {l : List α} {j : Nat} {x : α} (nd : l.Nodup) (e : l[j]? = some x) : x ∉ l.take j := fun m => by
  obtain ⟨i, hi, ei⟩ := List.mem_iff_getElem.mp m
  rw [List.length_take] at hi
  rw [List.getElem_take] at ei
  obtain ⟨hj, ej⟩ := List.getElem?_eq_some_iff.mp e
  have := (List.getElem_inj nd).mp (ei.trans ej.symm)
  omega
theorem valV_fresh {kvs : List (Key × V)} {k : Key} (h : k ∉ kvs.map (·.1)) : valV kvs k = none := by
  induction kvs with
  | nil => rfl
  | cons p r ih =>
    rw [List.map_cons, List.mem_cons, not_or] at h
    have e := ih h.2
    unfold valV at e ⊢
    simp [Ne.symm h.1, e]
/-- ahead of the i-th name: the new dict at D has the rows of those before, as new lists -/
def CopyIn (d : Addr) (od : Obj) (kvs : List (Key × V)) (rs : List (Str × PyData)) (D : Addr) (H2 : Hp) (i : Nat) (H' : Hp) : Prop := H' d = some (.frz od (.dK kvs)) ∧ Kp [] H2 H' ∧ ∃ kvs', H' D = some (.dK kvs') ∧ RowsD H' kvs' (rs.take i) ∧ kvs'.map (·.1) = (kvs.map (·.1)).take i
section
variable {P : Program} {w : World} {K : PySem.W.Frag} {mg : Str → Option Value} {base : Heap} {tL t1 t2 : Tok}
theorem ok_Table_init {f : Addr} {fd : FuncData} {dvs : List V} (F : FunD K "__init__" "Table.__init__" (defArgs s_Table_init) (defBody s_Table_init) (defScope s_Table_init) dvs [] f fd) (T : Bt mg tL t1 t2) {TC BT fB : Addr} {fdB : FuncData} (C : TbC K mg TC) (E_BadTable : Er1 P w K mg base "BadTable" "name" BT fB fdB ["self", "name"] (fun _ => True))
    {fc : Addr} {fdc : FuncData} (D_check_rows : Df K mg "check_rows" s_check_rows ["rows"] fc fdc) (G_check_rows : FnOk P w K mg base (L2.CX P w) 5 fc fdc ["rows"] (spCheck BT))
    {fl : Addr} {fdl : FuncData} (D_is_below : Df K mg "is_below" s_is_below ["value", "bound"] fl fdl) (G_is_below : FnOk P w K mg base CX0 1 fl fdl ["value", "bound"] spBelow) : FnOk P w K mg base (L2.CX P w) 6 f fd ["self", "rows", "first"] (spTI TC BT) := by
  refine F.ok (CX := L2.CX P w) sc_Table_init (fun vs H Q E h => ?_) (fun cdv A outer s H vs Q E hr h => ?_)
  · obtain ⟨o, dx, d, vf, df, kvs, rs, rfl, _⟩ := h
    rfl
  · obtain ⟨o, dx, d, vf, df, kvs, rs, rfl, ho, hd, hrs, nd, kl, hf, qG, qB⟩ := h
    have hu := hu_of hr
    refine ⟨_, (pss_cons (ps_expr (pe_call G_check_rows (hr.mono (by decide)) rfl D_check_rows.g D_check_rows.F.kp D_check_rows.b .nil (passes_call (E := E) (takes_of rfl rfl rfl rfl) (fun _ _ _ _ h => h)) (pa_cons (pv 1) pa_nil)))
      (pss_cons (ps_fld (pv 0) (pe_callB (id := "len") (r := Evl.rLenS K) call_len_seq (by rfl) T.b_len PySem.boot_len (pa_cons (pe_ix (r := rIxL K) ix_list (pe_callTy (T := "list") (r := rListV) (call_listV rfl) (by rfl) T.b_list (by decide +kernel) (pa_cons (pe_values (pv 1)) pa_nil)) pe_int (fun _ _ => rfl)) pa_nil)) rfl)
      (pss_cons (ps_if (pt_not (pt_val (pe_call G_is_below (hr.mono (by decide)) rfl D_is_below.g D_is_below.F.kp D_is_below.b .nil pass0 (pa_cons (pv 2) (pa_cons (pe_fld (pv 0) rfl) pa_nil))))) (pss_one (ps_raise rfl (takes_of rfl rfl rfl rfl) (pmk_oex E_BadTable.ox E_BadTable.ic E_BadTable.ti E_BadTable.G (hr.mono (by decide)) E_BadTable.b .nil passL rfl E_BadTable.k (pa_cons pe_str pa_nil)))) pss_nil)
      (pss_cons (ps_fld (pv 0) (pv 2) rfl)
      (pss_one (ps_fld (pv 0) (pe_lock (pe_dc (own := [("name", 3)]) (g := (gName 3)) (tt := tYes) rfl sc_Table_init.nd (pi_keys (pv 1)) (blkOk_by (N := ["self", "rows", "first", "name"]) (sc := defScope s_Table_init) (by decide +kernel)) (fun _ _ _ _ _ => (pg_name (i := 3) sc_Table_init.nd rfl (Or.inl rfl))) (fun _ _ _ _ _ => pts_nil) (fun _ _ _ _ _ => (pv 3)) (fun _ _ _ _ _ => (pe_callTy (T := "list") (r := rLstOf K) call_list_of (by rfl) T.b_list (by decide +kernel) (pa_cons (pe_dget hu (pv 1) (pv 3) (fun _ _ => rfl)) pa_nil))))) rfl)))))), ?_⟩
    try simp (maxSteps := 1000000) only [tSeq, tIfS, tTest, tOp, tUn, tCB, tCons, tNil, tVar, tC, rI0, rI, rU, rEq, rNe, tRet, tRetN, tAsg, gName, gSub, tBM, tBM0, tNext, tB, tNot, tAnd, tOr, tIf, tCall, tDrop, tBreak, tCont, L2.start, tDGet, sDPut, tTup, tLst, tDNewK, tRevL, rCat, rAppend, rPop, rSetL, tAndV, tOrV, tNotV, tSl, tPart, tNoPart, tM1, gTup, gCons, gNil, cxK, cxnK, List.map_cons, List.map_nil, List.length_cons, List.length_nil, List.replicate, List.cons_append, List.nil_append, List.append_nil, List.set_cons_zero, List.set_cons_succ, List.getElem?_cons_zero, List.getElem?_cons_succ, Option.some.injEq, V.ref.injEq, V.int.injEq, V.str.injEq, V.bl.injEq, V.ty.injEq, exists_eq_left', exists_eq_left, exists_and_left, List.cons.injEq, and_true, true_and, sc_ii, sc_ss, sc_bb, sc_ni, sc_in, sc_is, sc_si, sc_nn, decide_true, decide_false, reduceCtorEq, Bool.false_eq_true, if_true, if_false, ite_true, ite_false, exists_const, eq_self, false_and, and_false, or_false, false_or, exists_false, Evl.rLenS, rSum, wipe, tYes, exists_eq, exists_eq', rIxL, rIxT, rIxS, exists_and_right, gt_iff_lt, not_true_eq_false, not_false_eq_true, Bool.not_true, Bool.not_false, decide_eq_true_eq, Nat.reduceSub, Nat.reduceAdd, List.append_assoc, tChain, tDIn, tDNotIn, sDDel, tAug, ipI]
    refine ⟨d, kvs, rs, rfl, hd, hrs, nd, kl, fun rb H1 k1 => ?_, fun nm rb e H' ne he k => qB nm (.inl rb) e H' ne he k.of0⟩
    have hd1 := k1 _ _ not0 hd
    have ho1 := k1 _ _ not0 ho
    have hrs1 := hrs.kp k1
    have hlen := hrs.1
    obtain ⟨⟨n0, d0⟩, rr, hr0⟩ : ∃ p r, rs = p :: r := by
      cases rs with
      | nil => cases rb
      | cons p r => exact ⟨p, r, rfl⟩
    have zl : kvs.length = rr.length + 1 := by rw [hlen, hr0]; rfl
    obtain ⟨⟨k0, v0⟩, kr, hk0⟩ : ∃ q r, kvs = q :: r := by
      cases kvs with
      | nil => simp at zl
      | cons q r => exact ⟨q, r, rfl⟩
    try simp (maxSteps := 1000000) only [tSeq, tIfS, tTest, tOp, tUn, tCB, tCons, tNil, tVar, tC, rI0, rI, rU, rEq, rNe, tRet, tRetN, tAsg, gName, gSub, tBM, tBM0, tNext, tB, tNot, tAnd, tOr, tIf, tCall, tDrop, tBreak, tCont, L2.start, tDGet, sDPut, tTup, tLst, tDNewK, tRevL, rCat, rAppend, rPop, rSetL, tAndV, tOrV, tNotV, tSl, tPart, tNoPart, tM1, gTup, gCons, gNil, cxK, cxnK, List.map_cons, List.map_nil, List.length_cons, List.length_nil, List.replicate, List.cons_append, List.nil_append, List.append_nil, List.set_cons_zero, List.set_cons_succ, List.getElem?_cons_zero, List.getElem?_cons_succ, Option.some.injEq, V.ref.injEq, V.int.injEq, V.str.injEq, V.bl.injEq, V.ty.injEq, exists_eq_left', exists_eq_left, exists_and_left, List.cons.injEq, and_true, true_and, sc_ii, sc_ss, sc_bb, sc_ni, sc_in, sc_is, sc_si, sc_nn, decide_true, decide_false, reduceCtorEq, Bool.false_eq_true, if_true, if_false, ite_true, ite_false, exists_const, eq_self, false_and, and_false, or_false, false_or, exists_false, Evl.rLenS, rSum, wipe, tYes, exists_eq, exists_eq', rIxL, rIxT, rIxS, exists_and_right, gt_iff_lt, not_true_eq_false, not_false_eq_true, Bool.not_true, Bool.not_false, decide_eq_true_eq, Nat.reduceSub, Nat.reduceAdd, List.append_assoc, tChain, tDIn, tDNotIn, sDDel, tAug, ipI, sFld, tFld]
    refine ⟨.ref d, rfl, d, kvs, rfl, hd1, fun q nq => ?_⟩
    have hdq : (upd H1 q (viewO q d)) d = some (.dK kvs) := by rw [upd_ne (ne_of_none hd1 nq)]; exact hd1
    refine ⟨q, d, kvs, rfl, upd_same, hdq, fun l nl => ⟨l, rfl, _, sq_l upd_same, v0, atI_of (by decide) (by rw [hk0]; rfl), ?_⟩⟩
    have k2 : Kp [] H1 (upd (upd H1 q (viewO q d)) l (.lst (kvs.map fun kv => kv.2))) := (Kp.new nq).trans (Kp.new nl)
    generalize upd (upd H1 q (viewO q d)) l (.lst (kvs.map fun kv => kv.2)) = H2 at k2 ⊢
    obtain ⟨n0', d0', _, er0, hq0, _, _, _⟩ := hrs1.2 0 k0 v0 (by rw [hk0]; rfl)
    rw [hr0] at er0
    cases er0
    try simp (maxSteps := 1000000) only [tSeq, tIfS, tTest, tOp, tUn, tCB, tCons, tNil, tVar, tC, rI0, rI, rU, rEq, rNe, tRet, tRetN, tAsg, gName, gSub, tBM, tBM0, tNext, tB, tNot, tAnd, tOr, tIf, tCall, tDrop, tBreak, tCont, L2.start, tDGet, sDPut, tTup, tLst, tDNewK, tRevL, rCat, rAppend, rPop, rSetL, tAndV, tOrV, tNotV, tSl, tPart, tNoPart, tM1, gTup, gCons, gNil, cxK, cxnK, List.map_cons, List.map_nil, List.length_cons, List.length_nil, List.replicate, List.cons_append, List.nil_append, List.append_nil, List.set_cons_zero, List.set_cons_succ, List.getElem?_cons_zero, List.getElem?_cons_succ, Option.some.injEq, V.ref.injEq, V.int.injEq, V.str.injEq, V.bl.injEq, V.ty.injEq, exists_eq_left', exists_eq_left, exists_and_left, List.cons.injEq, and_true, true_and, sc_ii, sc_ss, sc_bb, sc_ni, sc_in, sc_is, sc_si, sc_nn, decide_true, decide_false, reduceCtorEq, Bool.false_eq_true, if_true, if_false, ite_true, ite_false, exists_const, eq_self, false_and, and_false, or_false, false_or, exists_false, Evl.rLenS, rSum, wipe, tYes, exists_eq, exists_eq', rIxL, rIxT, rIxS, exists_and_right, gt_iff_lt, not_true_eq_false, not_false_eq_true, Bool.not_true, Bool.not_false, decide_eq_true_eq, Nat.reduceSub, Nat.reduceAdd, List.append_assoc, tChain, tDIn, tDNotIn, sDDel, tAug, ipI, sFld, tFld]
    have rg := rowsBad_none rb
    have rg0 := goodR_row (rg.2.2 (n0, d0) (by rw [hr0]; simp))
    obtain ⟨_, ds0, rfl, _, _⟩ := rg0
    have zm : lenD (rs.headD ("", .none)).2 = ds0.length := by rw [hr0]; rfl
    rw [zm] at qG qB
    cases hq0 with
    | @lst a0 xs0 _ e0 ha0 =>
    have hx0 : xs0.length = ds0.length := ha0.len
    have ho2 := k2 _ _ not0 ho1
    have hd2 := k2 _ _ not0 hd1
    refine ⟨a0, rfl, xs0, .inl (sq_l (k2 _ _ not0 e0)), TC, dx, [], ho2, C.cl, C.n1, by decide, TC, dx, _, upd_same, C.cl, C.n1, _, rfl, ?_⟩
    rw [hx0]
    have hrs2 := hrs1.kp k2
    have hf2 := (hf.kp k1).kp k2
    have kw1 : Kp [o] H2 (upd H2 o (.ins TC dx (putF "size" (.int (ds0.length : Nat)) []))) := (Kp.refl [o] _).put (by simp)
    have hf3 := hf2.kpN kw1 (ins_no ho2)
    refine ⟨vf, df, (ds0.length : Nat), rfl, hf3, ?_⟩
    cases hb : belowD (ds0.length : Nat) df with
    | false =>
      try simp (maxSteps := 1000000) only [tSeq, tIfS, tTest, tOp, tUn, tCB, tCons, tNil, tVar, tC, rI0, rI, rU, rEq, rNe, tRet, tRetN, tAsg, gName, gSub, tBM, tBM0, tNext, tB, tNot, tAnd, tOr, tIf, tCall, tDrop, tBreak, tCont, L2.start, tDGet, sDPut, tTup, tLst, tDNewK, tRevL, rCat, rAppend, rPop, rSetL, tAndV, tOrV, tNotV, tSl, tPart, tNoPart, tM1, gTup, gCons, gNil, cxK, cxnK, List.map_cons, List.map_nil, List.length_cons, List.length_nil, List.replicate, List.cons_append, List.nil_append, List.append_nil, List.set_cons_zero, List.set_cons_succ, List.getElem?_cons_zero, List.getElem?_cons_succ, Option.some.injEq, V.ref.injEq, V.int.injEq, V.str.injEq, V.bl.injEq, V.ty.injEq, exists_eq_left', exists_eq_left, exists_and_left, List.cons.injEq, and_true, true_and, sc_ii, sc_ss, sc_bb, sc_ni, sc_in, sc_is, sc_si, sc_nn, decide_true, decide_false, reduceCtorEq, Bool.false_eq_true, if_true, if_false, ite_true, ite_false, exists_const, eq_self, false_and, and_false, or_false, false_or, exists_false, Evl.rLenS, rSum, wipe, tYes, exists_eq, exists_eq', rIxL, rIxT, rIxS, exists_and_right, gt_iff_lt, not_true_eq_false, not_false_eq_true, Bool.not_true, Bool.not_false, decide_eq_true_eq, Nat.reduceSub, Nat.reduceAdd, List.append_assoc, tChain, tDIn, tDNotIn, sDDel, tAug, ipI]
      refine err1_made (P := fun _ => True) True.intro fun e H' ne he k => qB "" (.inr ⟨rb, hb, rfl⟩) e H' ?_ he ?_
      · have eo : e ≠ o := fun z => by rw [z, upd_same] at ne; cases ne
        rw [upd_ne eo] at ne
        exact (k1.trans k2).free0 ne
      · exact ((k1.trans k2).of0.trans kw1).trans k.of0
    | true =>
      try simp (maxSteps := 1000000) only [tSeq, tIfS, tTest, tOp, tUn, tCB, tCons, tNil, tVar, tC, rI0, rI, rU, rEq, rNe, tRet, tRetN, tAsg, gName, gSub, tBM, tBM0, tNext, tB, tNot, tAnd, tOr, tIf, tCall, tDrop, tBreak, tCont, L2.start, tDGet, sDPut, tTup, tLst, tDNewK, tRevL, rCat, rAppend, rPop, rSetL, tAndV, tOrV, tNotV, tSl, tPart, tNoPart, tM1, gTup, gCons, gNil, cxK, cxnK, List.map_cons, List.map_nil, List.length_cons, List.length_nil, List.replicate, List.cons_append, List.nil_append, List.append_nil, List.set_cons_zero, List.set_cons_succ, List.getElem?_cons_zero, List.getElem?_cons_succ, Option.some.injEq, V.ref.injEq, V.int.injEq, V.str.injEq, V.bl.injEq, V.ty.injEq, exists_eq_left', exists_eq_left, exists_and_left, List.cons.injEq, and_true, true_and, sc_ii, sc_ss, sc_bb, sc_ni, sc_in, sc_is, sc_si, sc_nn, decide_true, decide_false, reduceCtorEq, Bool.false_eq_true, if_true, if_false, ite_true, ite_false, exists_const, eq_self, false_and, and_false, or_false, false_or, exists_false, Evl.rLenS, rSum, wipe, tYes, exists_eq, exists_eq', rIxL, rIxT, rIxS, exists_and_right, gt_iff_lt, not_true_eq_false, not_false_eq_true, Bool.not_true, Bool.not_false, decide_eq_true_eq, Nat.reduceSub, Nat.reduceAdd, List.append_assoc, tChain, tDIn, tDNotIn, sDDel, tAug, ipI]
      obtain ⟨i, rfl, i0, i1⟩ := belowD_int hb
      cases hf3 with
      | int _ =>
      refine ⟨TC, dx, _, upd_same, C.cl, C.n2, (show (1 : Nat) < 1000 by decide), ?_⟩
      have kw3 : Kp [o] H2 (upd (upd H2 o (.ins TC dx (putF "size" (.int (ds0.length : Nat)) []))) o (.ins TC dx (putF "first" (.int i) (putF "size" (.int (ds0.length : Nat)) [])))) := kw1.put (by simp)
      have ho3 : (upd (upd H2 o (.ins TC dx (putF "size" (.int (ds0.length : Nat)) []))) o (.ins TC dx (putF "first" (.int i) (putF "size" (.int (ds0.length : Nat)) [])))) o = some (.ins TC dx [("size", .int (ds0.length : Nat)), ("first", .int i)]) := upd_same
      generalize (upd (upd H2 o (.ins TC dx (putF "size" (.int (ds0.length : Nat)) []))) o (.ins TC dx (putF "first" (.int i) (putF "size" (.int (ds0.length : Nat)) [])))) = H3 at kw3 ho3 ⊢
      have od_ne : o ≠ d := fun z => by rw [z, hd2] at ho2; cases ho2
      have hd3 : H3 d = some (.dK kvs) := kw3 _ _ (not1 (Ne.symm od_ne)) hd2
      have hrs3 := hrs2.kpN kw3 (ins_no ho2)
      refine ⟨d, .dK kvs, hd3, True.intro, fun od => ?_⟩
      have kl0 : Kp [d] H3 (upd H3 d (.frz od (.dK kvs))) := (Kp.refl [d] _).put List.mem_cons_self
      have dno : ∀ a ∈ [d], ∀ xs, H3 a ≠ some (.tup xs) ∧ H3 a ≠ some (.lst xs) := fun a ha xs => by
        rw [List.mem_singleton.mp ha, hd3]
        exact ⟨fun z => (by cases z), fun z => (by cases z)⟩
      have hrs4 := hrs3.kpN kl0 dno
      refine ⟨.ref d, rfl, d, od, rfl, .inl ⟨kvs, upd_same, fun D nD => dc_it walk_keys (CopyIn d od kvs rs D (upd H3 d (.frz od (.dK kvs)))) ?_ (fun i H' _ h => h.1) ?_ ?_⟩⟩
      · have dD : d ≠ D := ne_of_none upd_same nD
        exact ⟨by rw [upd_ne dD, upd_same], Kp.new nD, [], upd_same, ⟨rfl, fun i k v e => by cases e⟩, rfl⟩
      · rintro j x H5 H6 hj ⟨hf5, k5, kvs', hD5, hr5, hk5⟩ ⟨rfl, k, v, ek, rfl⟩
        obtain ⟨n, dd, rfl, er, hq, szd, bnd, nl3⟩ := hrs4.2 j k v ek
        try simp (maxSteps := 1000000) only [tSeq, tIfS, tTest, tOp, tUn, tCB, tCons, tNil, tVar, tC, rI0, rI, rU, rEq, rNe, tRet, tRetN, tAsg, gName, gSub, tBM, tBM0, tNext, tB, tNot, tAnd, tOr, tIf, tCall, tDrop, tBreak, tCont, L2.start, tDGet, sDPut, tTup, tLst, tDNewK, tRevL, rCat, rAppend, rPop, rSetL, tAndV, tOrV, tNotV, tSl, tPart, tNoPart, tM1, gTup, gCons, gNil, cxK, cxnK, List.map_cons, List.map_nil, List.length_cons, List.length_nil, List.replicate, List.cons_append, List.nil_append, List.append_nil, List.set_cons_zero, List.set_cons_succ, List.getElem?_cons_zero, List.getElem?_cons_succ, Option.some.injEq, V.ref.injEq, V.int.injEq, V.str.injEq, V.bl.injEq, V.ty.injEq, exists_eq_left', exists_eq_left, exists_and_left, List.cons.injEq, and_true, true_and, sc_ii, sc_ss, sc_bb, sc_ni, sc_in, sc_is, sc_si, sc_nn, decide_true, decide_false, reduceCtorEq, Bool.false_eq_true, if_true, if_false, ite_true, ite_false, exists_const, eq_self, false_and, and_false, or_false, false_or, exists_false, Evl.rLenS, rSum, wipe, tYes, exists_eq, exists_eq', rIxL, rIxT, rIxS, exists_and_right, gt_iff_lt, not_true_eq_false, not_false_eq_true, Bool.not_true, Bool.not_false, decide_eq_true_eq, Nat.reduceSub, Nat.reduceAdd, List.append_assoc, tChain, tDIn, tDNotIn, sDDel, tAug, ipI]
        obtain ⟨_, ds, rfl, _, _⟩ := goodR_row (rg.2.2 (n, dd) (List.mem_of_getElem? er))
        cases hq with
        | @lst a xs _ e ha =>
        refine ⟨.ref a, .inl ⟨kvs, Sum.inr n, .inr ⟨od, hf5⟩, rfl, (valV_mem nd (List.mem_of_getElem? ek)).symm⟩, ?_⟩
        refine ⟨a, xs, rfl, .inl (sq_l (k5 _ _ not0 e)), fun p np => ?_⟩
        have hkj : (kvs.map (·.1))[j]? = some (Sum.inr n) := by rw [List.getElem?_map, ek]; rfl
        have fr : (Sum.inr n : Key) ∉ kvs'.map (·.1) := by rw [hk5]; exact nd_fresh nd hkj
        have kp6 : Kp [] H6 (upd H6 p (.lst xs)) := Kp.new np
        have hD6 := kp6 _ _ not0 hD5
        have dD : d ≠ D := fun z => by rw [z, hD5] at hf5; cases hf5
        have l5 : kvs'.length ≤ 1000 := by
          have := congrArg List.length hk5
          rw [List.length_map, List.length_take, List.length_map] at this
          omega
        refine ⟨kvs', Sum.inr n, rfl, hD6, smallL (by omega), ?_⟩
        rw [putK_new _ (valV_fresh fr)]
        have kw7 : Kp [D] (upd H6 p (.lst xs)) (upd (upd H6 p (.lst xs)) D (.dK (kvs' ++ [(Sum.inr n, .ref p)]))) := (Kp.refl [D] _).put List.mem_cons_self
        have Dno : ∀ a ∈ [D], ∀ xs', (upd H6 p (.lst xs)) a ≠ some (.tup xs') ∧ (upd H6 p (.lst xs)) a ≠ some (.lst xs') := fun a ha xs' => by
          rw [List.mem_singleton.mp ha, hD6]
          exact ⟨fun z => (by cases z), fun z => (by cases z)⟩
        refine ⟨kw7 _ _ (not1 dD) (kp6 _ _ not0 hf5), (k5.trans kp6).wr nD, _, upd_same, ?_, ?_⟩
        · rw [take_snoc er]
          have hnew : Dq (upd H6 p (.lst xs)) (.ref p) (.list ds) := .lst upd_same (DqAll.kpN (k5.trans kp6) (fun a m => absurd m (by simp)) ha)
          exact RowsD.app ((hr5.kp kp6).kpN kw7 Dno) (hnew.kpN kw7 Dno) szd bnd nl3
        · rw [List.map_append, take_snoc hkj, hk5]; rfl
      · rintro H5 ⟨hf5, k5, kvs', hD5, hr5, hk5⟩
        have dD : d ≠ D := fun z => by rw [z, hD5] at hf5; cases hf5
        have oD : o ≠ D := fun z => by rw [← z, upd_ne od_ne, ho3] at nD; cases nD
        have ho5 := k5 o _ not0 (by rw [upd_ne od_ne]; exact ho3)
        have ho6 : (upd H5 d (.dK kvs)) o = some (.ins TC dx [("size", .int (ds0.length : Nat)), ("first", .int i)]) := by rw [upd_ne od_ne]; exact ho5
        refine ⟨hf5, TC, dx, [("size", .int (ds0.length : Nat)), ("first", .int i)], ho6, C.cl, C.n3, (show (2 : Nat) < 1000 by decide), ?_⟩
        have k35 := unl (kl0.trans k5.of0) hd3
        have k56 : Kp [d] H5 (upd H5 d (.dK kvs)) := (Kp.refl [d] _).put List.mem_cons_self
        have dno5 : ∀ a ∈ [d], ∀ xs', H5 a ≠ some (.tup xs') ∧ H5 a ≠ some (.lst xs') := fun a ha xs' => by
          rw [List.mem_singleton.mp ha, hf5]
          exact ⟨fun z => (by cases z), fun z => (by cases z)⟩
        have kw6 : Kp [o] (upd H5 d (.dK kvs)) (upd (upd H5 d (.dK kvs)) o (.ins TC dx (putF "_rows" (.ref D) [("size", .int (ds0.length : Nat)), ("first", .int i)]))) := (Kp.refl [o] _).put List.mem_cons_self
        have hl : kvs.length = rs.length := hlen
        rw [hl, List.take_length] at hr5
        refine qG rb i rfl i0 i1 _ ⟨dx, D, kvs', upd_same, ?_, (hr5.kpN k56 dno5).kpN kw6 (ins_no ho6), ?_, rb, zm.symm, i0, i1⟩ ((((k1.trans k2).of0.trans kw3).trans k35.of0).trans kw6)
        · rw [upd_ne (Ne.symm oD), upd_ne (Ne.symm dD)]; exact hD5
        · rw [hk5, List.take_of_length_le (by rw [List.length_map]; omega)]; exact nd
end
end My

set_option Elab.async false
set_option linter.all false
set_option maxRecDepth 100000
set_option maxHeartbeats 4000000
namespace My
open PySem L2 NdefX
/-! ### what a table tells -/
def pairI : PyData → Int × Int
  | .tuple [.int a, .int s] => (a, s)
  | _ => (0, 0)
def rowL : PyData → List (Int × Int)
  | .list ds => ds.map pairI
  | _ => []
def rowOf (rs : List (Str × PyData)) (z : Str) : List (Int × Int) := match rs.find? (fun p => decide (p.1 = z)) with
  | some p => rowL p.2
  | none => []
def cellOf (rs : List (Str × PyData)) (z : Str) (s : Int) : Int × Int := (rowOf rs z).getD s.toNat (0, 0)
def walkR (rs : List (Str × PyData)) : Int → List Str → List Int
  | _, [] => []
  | s, z :: zs => (cellOf rs z s).1 :: walkR rs (cellOf rs z s).2 zs
def stateR (rs : List (Str × PyData)) : Int → List Str → Int
  | s, [] => s
  | s, z :: zs => stateR rs (cellOf rs z s).2 zs
def hasD (rs : List (Str × PyData)) : PyData → Bool
  | .str z => nameS z && decide (z ∈ rs.map (·.1))
  | _ => false
theorem pairD_is {m : Int} {d : PyData} (h : pairD m d = true) : ∃ a s : Int, d = .tuple [.int a, .int s] ∧ 0 ≤ a ∧ a < 10 ∧ 0 ≤ s ∧ s < m := by
  match d, h with
  | .tuple [a, s], h =>
    have h' : (belowD 10 a && belowD m s) = true := h
    rw [Bool.and_eq_true] at h'
    obtain ⟨i, rfl, i0, i1⟩ := belowD_int h'.1
    obtain ⟨j, rfl, j0, j1⟩ := belowD_int h'.2
    exact ⟨i, j, rfl, i0, i1, j0, j1⟩
theorem find_key {rs : List (Str × PyData)} {z : Str} {d : PyData} {j : Nat} (nd : (rs.map (·.1)).Nodup) (e : rs[j]? = some (z, d)) : rs.find? (fun p => decide (p.1 = z)) = some (z, d) := by
  refine find_first e (by simp) fun i y hi ey => ?_
  refine decide_eq_false fun h => ?_
  have e1 : (rs.map (·.1))[j]? = some z := by rw [List.getElem?_map, e]; rfl
  have e2 : (rs.map (·.1))[i]? = some z := by rw [List.getElem?_map, ey, ← h]; rfl
  obtain ⟨a, ea⟩ := List.getElem?_eq_some_iff.mp e1
  obtain ⟨b, eb⟩ := List.getElem?_eq_some_iff.mp e2
  have := (List.getElem_inj nd).mp (ea.trans eb.symm)
  omega
theorem RowsD.keys {H : Hp} {kvs : List (Key × V)} {rs : List (Str × PyData)} (h : RowsD H kvs rs) : kvs.map (·.1) = (rs.map (·.1)).map (fun z => (Sum.inr z : Key)) := by
  refine List.ext_getElem? fun i => ?_
  rw [List.getElem?_map, List.getElem?_map, List.getElem?_map]
  cases e : kvs[i]? with
  | none =>
    have : rs[i]? = none := by
      rw [List.getElem?_eq_none_iff] at e ⊢
      have := h.1
      omega
    rw [this]; rfl
  | some p =>
    obtain ⟨k, v⟩ := p
    obtain ⟨n, d, rfl, er, _⟩ := h.2 i k v e
    rw [er]; rfl
theorem nd_names {kvs : List (Key × V)} {rs : List (Str × PyData)} (e : kvs.map (·.1) = (rs.map (·.1)).map (fun z => (Sum.inr z : Key))) (nd : (kvs.map (·.1)).Nodup) : (rs.map (·.1)).Nodup := by
  rw [e] at nd
  exact List.Pairwise.of_map _ (fun a b h e => h (by rw [e])) nd
theorem TabAt.get {TC : Addr} {H : Hp} {o : Addr} {m : Nat} {first : Int} {rs : List (Str × PyData)} (h : TabAt TC H o m first rs) {z : Str} (hz : z ∈ rs.map (·.1)) : ∃ (dx d : Addr) (kvs : List (Key × V)) (a : Addr) (xs : List V), H o = some (.ins TC dx [("size", .int (m : Nat)), ("first", .int first), ("_rows", .ref d)]) ∧ H d = some (.dK kvs) ∧ valV kvs (Sum.inr z) = some (.ref a) ∧ H a = some (.lst xs) ∧ xs.length = m ∧
    ∀ s : Int, 0 ≤ s → s < m → ∃ p, xs[s.toNat]? = some (.ref p) ∧ H p = some (.tup [.int (cellOf rs z s).1, .int (cellOf rs z s).2]) ∧ 0 ≤ (cellOf rs z s).1 ∧ (cellOf rs z s).1 < 10 ∧ 0 ≤ (cellOf rs z s).2 ∧ (cellOf rs z s).2 < m := by
  obtain ⟨dx, d, kvs, ho, hd, hr, nd, rb, em, f0, f1⟩ := h
  obtain ⟨⟨z', dd⟩, hm, rfl⟩ := List.mem_map.mp hz
  obtain ⟨j, ej⟩ := List.getElem?_of_mem hm
  obtain ⟨⟨k, v⟩, ek⟩ : ∃ p, kvs[j]? = some p := by
    have hj := (List.getElem?_eq_some_iff.mp ej).1
    exact ⟨kvs[j]'(by rw [hr.1]; exact hj), List.getElem?_eq_getElem _⟩
  obtain ⟨n, d', rfl, er, hq, _⟩ := hr.2 j k v ek
  rw [ej] at er
  cases er
  obtain ⟨hn, ds, rfl, hrow, hl⟩ := goodR_row ((rowsBad_none rb).2.2 _ hm)
  cases hq with
  | @lst a xs _ e ha =>
  refine ⟨dx, d, kvs, a, xs, ho, hd, valV_mem nd (List.mem_of_getElem? ek), e, by rw [ha.len, hl, em], fun s s0 s1 => ?_⟩
  have sl : s.toNat < xs.length := by rw [ha.len, hl, ← em]; omega
  obtain ⟨dp, edp, hdp⟩ := ha.get (List.getElem?_eq_getElem sl)
  have hall : ds.all (pairD ds.length) = true := by
    have h' : (decide (1 ≤ ds.length) && (decide (ds.length ≤ 100) && ds.all (pairD ds.length))) = true := hrow
    rw [Bool.and_eq_true, Bool.and_eq_true] at h'
    exact h'.2.2
  obtain ⟨x, y, rfl, x0, x1, y0, y1⟩ := pairD_is (List.all_eq_true.mp hall _ (List.mem_of_getElem? edp))
  have ec : cellOf rs z' s = (x, y) := by
    unfold cellOf rowOf
    rw [find_key (nd_names hr.keys nd) ej]
    show (ds.map pairI).getD s.toNat (0, 0) = (x, y)
    rw [List.getD_eq_getElem?_getD, List.getElem?_map, edp]; rfl
  rw [ec]
  have e5 : xs[s.toNat]? = some xs[s.toNat] := List.getElem?_eq_getElem sl
  rw [e5]
  generalize xs[s.toNat] = w0 at hdp
  have hl2 : ds.length = m := by rw [hl, em]
  rw [hl2] at y1
  cases hdp with
  | tup e2 h2 =>
  cases h2 with
  | cons a1 t =>
  cases t with
  | cons a2 t =>
  cases t
  cases a1
  cases a2
  exact ⟨_, rfl, e2, x0, x1, y0, y1⟩
theorem TabAt.head {TC : Addr} {H : Hp} {o : Addr} {m : Nat} {first : Int} {rs : List (Str × PyData)} (h : TabAt TC H o m first rs) : ∃ dx d : Addr, H o = some (.ins TC dx [("size", .int (m : Nat)), ("first", .int first), ("_rows", .ref d)]) := by
  obtain ⟨dx, d, _, ho, _⟩ := h
  exact ⟨dx, d, ho⟩
theorem TabAt.has {TC : Addr} {H : Hp} {o : Addr} {m : Nat} {first : Int} {rs : List (Str × PyData)} (h : TabAt TC H o m first rs) : ∃ (dx d : Addr) (kvs : List (Key × V)), H o = some (.ins TC dx [("size", .int (m : Nat)), ("first", .int first), ("_rows", .ref d)]) ∧ H d = some (.dK kvs) ∧ (kvs.map fun kv => kV kv.1) = (rs.map (·.1)).map V.str ∧ ∀ z : Str, (valV kvs (Sum.inr z)).isSome = decide (z ∈ rs.map (·.1)) := by
  obtain ⟨dx, d, kvs, ho, hd, hr, nd, rb, em, f0, f1⟩ := h
  refine ⟨dx, d, kvs, ho, hd, ?_, fun z => ?_⟩
  · have e := congrArg (List.map kV) hr.keys
    rw [List.map_map, List.map_map] at e
    exact e
  · by_cases hz : z ∈ rs.map (·.1)
    · rw [decide_eq_true hz]
      have hk : (Sum.inr z : Key) ∈ kvs.map (·.1) := by rw [hr.keys]; exact List.mem_map_of_mem hz
      obtain ⟨⟨k, v⟩, hm, ek⟩ := List.mem_map.mp hk
      have ek' : k = Sum.inr z := ek
      subst ek'
      rw [valV_mem nd hm]; rfl
    · rw [decide_eq_false hz]
      have hk : (Sum.inr z : Key) ∉ kvs.map (·.1) := by
        rw [hr.keys]
        intro h
        obtain ⟨z', hz', e⟩ := List.mem_map.mp h
        cases e
        exact hz hz'
      rw [valV_fresh hk]; rfl
section
variable {P : Program} {w : World} {K : PySem.W.Frag} {mg : Str → Option Value} {base : Heap} {tL t1 t2 : Tok}
def spTN (TC : Addr) : Sp := fun vs H Q E => ∃ (o : Addr) (m : Nat) (first : Int) (rs : List (Str × PyData)), vs = [.ref o] ∧ TabAt TC H o m first rs ∧ ∀ l H', H l = none → H' l = some (.lst ((rs.map (·.1)).map V.str)) → Kp [] H H' → Q (.ref l) H'
theorem ok_Table_names {f : Addr} {fd : FuncData} (F : Fun K "names" "Table.names" s_Table_names f fd) (T : Bt mg tL t1 t2) {TC : Addr} (C : TbC K mg TC) : FnOk P w K mg base CX0 1 f fd ["self"] (spTN TC) := by
  refine F.ok sc_Table_names (fun vs H Q E h => ?_) (fun cdv A outer s H vs Q E hr h => ?_)
  · obtain ⟨o, m, first, rs, rfl, _⟩ := h
    rfl
  · obtain ⟨o, m, first, rs, rfl, hT, q⟩ := h
    obtain ⟨dx, d, kvs, ho, hd, ek, _⟩ := hT.has
    refine ⟨_, (pss_one (ps_ret (pe_callTy (call_listD rfl) (by rfl) T.b_list (by decide +kernel) (pa_cons (pe_fld (pv 0) rfl) pa_nil)))), ?_⟩
    try simp (maxSteps := 1000000) only [tSeq, tIfS, tTest, tOp, tUn, tCB, tCons, tNil, tVar, tC, rI0, rI, rU, rEq, rNe, tRet, tRetN, tAsg, gName, gSub, tBM, tBM0, tNext, tB, tNot, tAnd, tOr, tIf, tCall, tDrop, tBreak, tCont, L2.start, tDGet, sDPut, tTup, tLst, tDNewK, tRevL, rCat, rAppend, rPop, rSetL, tAndV, tOrV, tNotV, tSl, tPart, tNoPart, tM1, gTup, gCons, gNil, cxK, cxnK, List.map_cons, List.map_nil, List.length_cons, List.length_nil, List.replicate, List.cons_append, List.nil_append, List.append_nil, List.set_cons_zero, List.set_cons_succ, List.getElem?_cons_zero, List.getElem?_cons_succ, Option.some.injEq, V.ref.injEq, V.int.injEq, V.str.injEq, V.bl.injEq, V.ty.injEq, exists_eq_left', exists_eq_left, exists_and_left, List.cons.injEq, and_true, true_and, sc_ii, sc_ss, sc_bb, sc_ni, sc_in, sc_is, sc_si, sc_nn, decide_true, decide_false, reduceCtorEq, Bool.false_eq_true, if_true, if_false, ite_true, ite_false, exists_const, eq_self, false_and, and_false, or_false, false_or, exists_false, Evl.rLenS, rSum, wipe, tYes, exists_eq, exists_eq', rIxL, rIxT, rIxS, exists_and_right, gt_iff_lt, not_true_eq_false, not_false_eq_true, Bool.not_true, Bool.not_false, decide_eq_true_eq, Nat.reduceSub, Nat.reduceAdd, List.append_assoc, tChain, tDIn, tDNotIn, sDDel, tAug, ipI, tFld]
    refine ⟨TC, dx, _, ho, C.cl, C.n3, .ref d, rfl, d, rfl, kvs, .inl hd, fun p np => ?_⟩
    rw [ek]
    exact q p _ np upd_same (Kp.new np)
def spTK (TC NO : Addr) : Sp := fun vs H Q E => ∃ (o : Addr) (v : V) (dn : PyData) (m : Nat) (first : Int) (rs : List (Str × PyData)), vs = [.ref o, v] ∧ TabAt TC H o m first rs ∧ Dq H v dn ∧ szD dn = true ∧ (hasD rs dn = true → ∀ H', Kp [] H H' → Q .non H') ∧
  (hasD rs dn = false → ∀ (e : Addr) (H' : Hp), H e = none → H' e = some (.xd [("name", v)]) → Kp [] H H' → E (.ref NO) (some e) H')
theorem ok_Table_check_name {f : Addr} {fd : FuncData} (F : Fun K "check_name" "Table.check_name" s_Table_check_name f fd) (T : Bt mg tL t1 t2) {TC NO fN : Addr} {fdN : FuncData} (C : TbC K mg TC) (E_NoOperation : Er1 P w K mg base "NoOperation" "name" NO fN fdN ["self", "name"] (fun _ => True))
    {fa : Addr} {fda : FuncData} (D_is_name : Df K mg "is_name" s_is_name ["value"] fa fda) (G_is_name : FnOk P w K mg base CX0 1 fa fda ["value"] (spD (fun _ => True) nameD)) : FnOk P w K mg base (L2.CX P w) 3 f fd ["self", "name"] (spTK TC NO) := by
  refine F.okX sc_Table_check_name (fun vs H Q E h => ?_) (fun cdv A outer s H vs Q E hr h => ?_)
  · obtain ⟨o, v, dn, m, first, rs, rfl, _⟩ := h
    rfl
  · obtain ⟨o, v, dn, m, first, rs, rfl, hT, hv, sz, qG, qB⟩ := h
    have hu := hu_of hr
    refine ⟨_, (pss_one (ps_if (PW.pt (pw_or (pt_not (pt_val (pe_call G_is_name (hr.mono (by decide)) rfl D_is_name.g D_is_name.F.kp D_is_name.b .nil pass0 (pa_cons (pv 1) pa_nil)))) (pw_or1 (pt_cmp (pc_dnotin hu (pv 1) (pe_fld (pv 0) rfl)))))) (pss_one (ps_raise rfl (takes_of rfl rfl rfl rfl) (pmk_oex E_NoOperation.ox E_NoOperation.ic E_NoOperation.ti E_NoOperation.G (hr.mono (by decide)) E_NoOperation.b .nil passL rfl E_NoOperation.k (pa_cons (pv 1) pa_nil)))) pss_nil)), ?_⟩
    try simp (maxSteps := 1000000) only [tSeq, tIfS, tTest, tOp, tUn, tCB, tCons, tNil, tVar, tC, rI0, rI, rU, rEq, rNe, tRet, tRetN, tAsg, gName, gSub, tBM, tBM0, tNext, tB, tNot, tAnd, tOr, tIf, tCall, tDrop, tBreak, tCont, L2.start, tDGet, sDPut, tTup, tLst, tDNewK, tRevL, rCat, rAppend, rPop, rSetL, tAndV, tOrV, tNotV, tSl, tPart, tNoPart, tM1, gTup, gCons, gNil, cxK, cxnK, List.map_cons, List.map_nil, List.length_cons, List.length_nil, List.replicate, List.cons_append, List.nil_append, List.append_nil, List.set_cons_zero, List.set_cons_succ, List.getElem?_cons_zero, List.getElem?_cons_succ, Option.some.injEq, V.ref.injEq, V.int.injEq, V.str.injEq, V.bl.injEq, V.ty.injEq, exists_eq_left', exists_eq_left, exists_and_left, List.cons.injEq, and_true, true_and, sc_ii, sc_ss, sc_bb, sc_ni, sc_in, sc_is, sc_si, sc_nn, decide_true, decide_false, reduceCtorEq, Bool.false_eq_true, if_true, if_false, ite_true, ite_false, exists_const, eq_self, false_and, and_false, or_false, false_or, exists_false, Evl.rLenS, rSum, wipe, tYes, exists_eq, exists_eq', rIxL, rIxT, rIxS, exists_and_right, gt_iff_lt, not_true_eq_false, not_false_eq_true, Bool.not_true, Bool.not_false, decide_eq_true_eq, Nat.reduceSub, Nat.reduceAdd, List.append_assoc, tChain, tDIn, tDNotIn, sDDel, tAug, ipI, tFld]
    refine ⟨v, dn, rfl, hv, sz, True.intro, fun H1 k1 => ?_⟩
    obtain ⟨dx, d, kvs, ho, hd, _, ek⟩ := (hT.kp k1).has
    have err : ∀ (H2 : Hp), Kp [] H H2 → hasD rs dn = false → tMkO NO (spErr1 NO "name" fun _ => True) [] (tCons (tVar 1) tNil) [some (.ref o), some v] H2 (fun cls d H' => E cls d H') := fun H2 k2 hb =>
      ⟨v, rfl, err1_made (P := fun _ => True) True.intro fun e H' ne he k => qB hb e H' (k2.free0 ne) he (k2.trans k)⟩
    cases hn : nameD dn with
    | false =>
      try simp (maxSteps := 1000000) only [tSeq, tIfS, tTest, tOp, tUn, tCB, tCons, tNil, tVar, tC, rI0, rI, rU, rEq, rNe, tRet, tRetN, tAsg, gName, gSub, tBM, tBM0, tNext, tB, tNot, tAnd, tOr, tIf, tCall, tDrop, tBreak, tCont, L2.start, tDGet, sDPut, tTup, tLst, tDNewK, tRevL, rCat, rAppend, rPop, rSetL, tAndV, tOrV, tNotV, tSl, tPart, tNoPart, tM1, gTup, gCons, gNil, cxK, cxnK, List.map_cons, List.map_nil, List.length_cons, List.length_nil, List.replicate, List.cons_append, List.nil_append, List.append_nil, List.set_cons_zero, List.set_cons_succ, List.getElem?_cons_zero, List.getElem?_cons_succ, Option.some.injEq, V.ref.injEq, V.int.injEq, V.str.injEq, V.bl.injEq, V.ty.injEq, exists_eq_left', exists_eq_left, exists_and_left, List.cons.injEq, and_true, true_and, sc_ii, sc_ss, sc_bb, sc_ni, sc_in, sc_is, sc_si, sc_nn, decide_true, decide_false, reduceCtorEq, Bool.false_eq_true, if_true, if_false, ite_true, ite_false, exists_const, eq_self, false_and, and_false, or_false, false_or, exists_false, Evl.rLenS, rSum, wipe, tYes, exists_eq, exists_eq', rIxL, rIxT, rIxS, exists_and_right, gt_iff_lt, not_true_eq_false, not_false_eq_true, Bool.not_true, Bool.not_false, decide_eq_true_eq, Nat.reduceSub, Nat.reduceAdd, List.append_assoc, tChain, tDIn, tDNotIn, sDDel, tAug, ipI]
      refine err H1 k1 ?_
      cases dn with
      | str z =>
        have hn' : nameS z = false := hn
        show (nameS z && _) = false
        rw [hn']; rfl
      | _ => rfl
    | true =>
      obtain ⟨z, rfl⟩ : ∃ z, dn = .str z := by
        cases dn <;> first | exact ⟨_, rfl⟩ | cases hn
      cases hv with
      | str _ =>
      have eh : hasD rs (.str z) = decide (z ∈ rs.map (·.1)) := by
        have hn' : nameS z = true := hn
        show (nameS z && _) = _
        rw [hn']; rfl
      try simp (maxSteps := 1000000) only [tSeq, tIfS, tTest, tOp, tUn, tCB, tCons, tNil, tVar, tC, rI0, rI, rU, rEq, rNe, tRet, tRetN, tAsg, gName, gSub, tBM, tBM0, tNext, tB, tNot, tAnd, tOr, tIf, tCall, tDrop, tBreak, tCont, L2.start, tDGet, sDPut, tTup, tLst, tDNewK, tRevL, rCat, rAppend, rPop, rSetL, tAndV, tOrV, tNotV, tSl, tPart, tNoPart, tM1, gTup, gCons, gNil, cxK, cxnK, List.map_cons, List.map_nil, List.length_cons, List.length_nil, List.replicate, List.cons_append, List.nil_append, List.append_nil, List.set_cons_zero, List.set_cons_succ, List.getElem?_cons_zero, List.getElem?_cons_succ, Option.some.injEq, V.ref.injEq, V.int.injEq, V.str.injEq, V.bl.injEq, V.ty.injEq, exists_eq_left', exists_eq_left, exists_and_left, List.cons.injEq, and_true, true_and, sc_ii, sc_ss, sc_bb, sc_ni, sc_in, sc_is, sc_si, sc_nn, decide_true, decide_false, reduceCtorEq, Bool.false_eq_true, if_true, if_false, ite_true, ite_false, exists_const, eq_self, false_and, and_false, or_false, false_or, exists_false, Evl.rLenS, rSum, wipe, tYes, exists_eq, exists_eq', rIxL, rIxT, rIxS, exists_and_right, gt_iff_lt, not_true_eq_false, not_false_eq_true, Bool.not_true, Bool.not_false, decide_eq_true_eq, Nat.reduceSub, Nat.reduceAdd, List.append_assoc, tChain, tDIn, tDNotIn, sDDel, tAug, ipI]
      refine ⟨TC, dx, _, ho, C.cl, C.n3, .ref d, rfl, d, rfl, _, .inl ⟨kvs, Sum.inr z, .inl hd, rfl, rfl⟩, ?_⟩
      rw [ek z]
      by_cases hz : z ∈ rs.map (·.1)
      · rw [decide_eq_true hz]
        exact qG (eh.trans (decide_eq_true hz)) H1 k1
      · rw [decide_eq_false hz]
        exact err H1 k1 (eh.trans (decide_eq_false hz))
def spTCall (TC NO BN : Addr) : Sp := fun vs H Q E => ∃ (o : Addr) (v u : V) (dn ds : PyData) (m : Nat) (first : Int) (rs : List (Str × PyData)), vs = [.ref o, v, u] ∧ TabAt TC H o m first rs ∧ Dq H v dn ∧ szD dn = true ∧ Dq H u ds ∧
  (∀ (z : Str) (s : Int), dn = .str z → ds = .int s → hasD rs dn = true → 0 ≤ s → s < m → ∀ (p : Addr) (H' : Hp), H' p = some (.tup [.int (cellOf rs z s).1, .int (cellOf rs z s).2]) → Kp [] H H' → Q (.ref p) H') ∧
  (hasD rs dn = false → ∀ (e : Addr) (H' : Hp), H e = none → H' e = some (.xd [("name", v)]) → Kp [] H H' → E (.ref NO) (some e) H') ∧
  (hasD rs dn = true → belowD m ds = false → ∀ (e : Addr) (H' : Hp), H e = none → H' e = some (.xd [("number", u)]) → Kp [] H H' → E (.ref BN) (some e) H')
theorem ok_Table_call {f : Addr} {fd : FuncData} (F : Fun K "__call__" "Table.__call__" s_Table_call f fd) (T : Bt mg tL t1 t2) {TC NO BN fB fN : Addr} {fdB fdN : FuncData} (C : TbC K mg TC) (E_BadNumber : Er1 P w K mg base "BadNumber" "number" BN fB fdB ["self", "number"] (fun _ => True))
    (ME_Table_check_name : Meth K TC "check_name" fN) (bM_Table_check_name : Binds K fdN ["self", "name"] []) (G_Table_check_name : FnOk P w K mg base (L2.CX P w) 3 fN fdN ["self", "name"] (spTK TC NO))
    {fl : Addr} {fdl : FuncData} (D_is_below : Df K mg "is_below" s_is_below ["value", "bound"] fl fdl) (G_is_below : FnOk P w K mg base CX0 1 fl fdl ["value", "bound"] spBelow) : FnOk P w K mg base (L2.CX P w) 4 f fd ["self", "name", "state"] (spTCall TC NO BN) := by
  refine F.okX sc_Table_call (fun vs H Q E h => ?_) (fun cdv A outer s H vs Q E hr h => ?_)
  · obtain ⟨o, v, u, dn, ds, m, first, rs, rfl, _⟩ := h
    rfl
  · obtain ⟨o, v, u, dn, ds, m, first, rs, rfl, hT, hv, sz, hs, qG, qN, qS⟩ := h
    have hu := hu_of hr
    refine ⟨_, (pss_cons (ps_expr (pe_meth (pv 0) C.cl ME_Table_check_name G_Table_check_name (hr.mono (by decide)) bM_Table_check_name .nil (passes_call (E := E) (takes_of rfl rfl rfl rfl) (fun _ _ _ _ h => h)) (pa_cons (pv 1) pa_nil)))
      (pss_cons (ps_if (pt_not (pt_val (pe_call G_is_below (hr.mono (by decide)) rfl D_is_below.g D_is_below.F.kp D_is_below.b .nil pass0 (pa_cons (pv 2) (pa_cons (pe_fld (pv 0) rfl) pa_nil))))) (pss_one (ps_raise rfl (takes_of rfl rfl rfl rfl) (pmk_oex E_BadNumber.ox E_BadNumber.ic E_BadNumber.ti E_BadNumber.G (hr.mono (by decide)) E_BadNumber.b .nil passL rfl E_BadNumber.k (pa_cons (pv 2) pa_nil)))) pss_nil)
      (pss_one (ps_ret (pe_ix (r := rIxL K) ix_list (pe_dget hu (pe_fld (pv 0) rfl) (pv 1) (fun _ _ => rfl)) (pv 2) (fun _ _ => rfl)))))), ?_⟩
    try simp (maxSteps := 1000000) only [tSeq, tIfS, tTest, tOp, tUn, tCB, tCons, tNil, tVar, tC, rI0, rI, rU, rEq, rNe, tRet, tRetN, tAsg, gName, gSub, tBM, tBM0, tNext, tB, tNot, tAnd, tOr, tIf, tCall, tDrop, tBreak, tCont, L2.start, tDGet, sDPut, tTup, tLst, tDNewK, tRevL, rCat, rAppend, rPop, rSetL, tAndV, tOrV, tNotV, tSl, tPart, tNoPart, tM1, gTup, gCons, gNil, cxK, cxnK, List.map_cons, List.map_nil, List.length_cons, List.length_nil, List.replicate, List.cons_append, List.nil_append, List.append_nil, List.set_cons_zero, List.set_cons_succ, List.getElem?_cons_zero, List.getElem?_cons_succ, Option.some.injEq, V.ref.injEq, V.int.injEq, V.str.injEq, V.bl.injEq, V.ty.injEq, exists_eq_left', exists_eq_left, exists_and_left, List.cons.injEq, and_true, true_and, sc_ii, sc_ss, sc_bb, sc_ni, sc_in, sc_is, sc_si, sc_nn, decide_true, decide_false, reduceCtorEq, Bool.false_eq_true, if_true, if_false, ite_true, ite_false, exists_const, eq_self, false_and, and_false, or_false, false_or, exists_false, Evl.rLenS, rSum, wipe, tYes, exists_eq, exists_eq', rIxL, rIxT, rIxS, exists_and_right, gt_iff_lt, not_true_eq_false, not_false_eq_true, Bool.not_true, Bool.not_false, decide_eq_true_eq, Nat.reduceSub, Nat.reduceAdd, List.append_assoc, tChain, tDIn, tDNotIn, sDDel, tAug, ipI, tFld, tMeth]
    obtain ⟨dx0, d0, ho0⟩ := hT.head
    refine ⟨dx0, _, ho0, rfl, o, v, dn, m, first, rs, rfl, hT, hv, sz, fun hh H1 k1 => ?_, fun hh e H' ne he k => qN hh e H' ne he k⟩
    have hT1 := hT.kp k1
    obtain ⟨z, rfl⟩ : ∃ z, dn = .str z := by
      cases dn <;> first | exact ⟨_, rfl⟩ | cases hh
    have hz : z ∈ rs.map (·.1) := by
      have h' : (nameS z && decide (z ∈ rs.map (·.1))) = true := hh
      rw [Bool.and_eq_true, decide_eq_true_eq] at h'
      exact h'.2
    obtain ⟨dx, d, kvs, a, xs, ho, hd, ev, ha, hl, cell⟩ := hT1.get hz
    cases hv with
    | str _ =>
    refine ⟨TC, dx, _, ho, C.cl, C.n1, _, rfl, u, ds, (m : Nat), rfl, hs.kp k1, ?_⟩
    cases hb : belowD (m : Nat) ds with
    | false =>
      try simp (maxSteps := 1000000) only [tSeq, tIfS, tTest, tOp, tUn, tCB, tCons, tNil, tVar, tC, rI0, rI, rU, rEq, rNe, tRet, tRetN, tAsg, gName, gSub, tBM, tBM0, tNext, tB, tNot, tAnd, tOr, tIf, tCall, tDrop, tBreak, tCont, L2.start, tDGet, sDPut, tTup, tLst, tDNewK, tRevL, rCat, rAppend, rPop, rSetL, tAndV, tOrV, tNotV, tSl, tPart, tNoPart, tM1, gTup, gCons, gNil, cxK, cxnK, List.map_cons, List.map_nil, List.length_cons, List.length_nil, List.replicate, List.cons_append, List.nil_append, List.append_nil, List.set_cons_zero, List.set_cons_succ, List.getElem?_cons_zero, List.getElem?_cons_succ, Option.some.injEq, V.ref.injEq, V.int.injEq, V.str.injEq, V.bl.injEq, V.ty.injEq, exists_eq_left', exists_eq_left, exists_and_left, List.cons.injEq, and_true, true_and, sc_ii, sc_ss, sc_bb, sc_ni, sc_in, sc_is, sc_si, sc_nn, decide_true, decide_false, reduceCtorEq, Bool.false_eq_true, if_true, if_false, ite_true, ite_false, exists_const, eq_self, false_and, and_false, or_false, false_or, exists_false, Evl.rLenS, rSum, wipe, tYes, exists_eq, exists_eq', rIxL, rIxT, rIxS, exists_and_right, gt_iff_lt, not_true_eq_false, not_false_eq_true, Bool.not_true, Bool.not_false, decide_eq_true_eq, Nat.reduceSub, Nat.reduceAdd, List.append_assoc, tChain, tDIn, tDNotIn, sDDel, tAug, ipI]
      exact ⟨u, rfl, err1_made (P := fun _ => True) True.intro fun e H' ne he k => qS hh hb e H' (k1.free0 ne) he (k1.trans k)⟩
    | true =>
      obtain ⟨i, rfl, i0, i1⟩ := belowD_int hb
      cases hs with
      | int _ =>
      obtain ⟨p, ep, hp, _⟩ := cell i i0 i1
      try simp (maxSteps := 1000000) only [tSeq, tIfS, tTest, tOp, tUn, tCB, tCons, tNil, tVar, tC, rI0, rI, rU, rEq, rNe, tRet, tRetN, tAsg, gName, gSub, tBM, tBM0, tNext, tB, tNot, tAnd, tOr, tIf, tCall, tDrop, tBreak, tCont, L2.start, tDGet, sDPut, tTup, tLst, tDNewK, tRevL, rCat, rAppend, rPop, rSetL, tAndV, tOrV, tNotV, tSl, tPart, tNoPart, tM1, gTup, gCons, gNil, cxK, cxnK, List.map_cons, List.map_nil, List.length_cons, List.length_nil, List.replicate, List.cons_append, List.nil_append, List.append_nil, List.set_cons_zero, List.set_cons_succ, List.getElem?_cons_zero, List.getElem?_cons_succ, Option.some.injEq, V.ref.injEq, V.int.injEq, V.str.injEq, V.bl.injEq, V.ty.injEq, exists_eq_left', exists_eq_left, exists_and_left, List.cons.injEq, and_true, true_and, sc_ii, sc_ss, sc_bb, sc_ni, sc_in, sc_is, sc_si, sc_nn, decide_true, decide_false, reduceCtorEq, Bool.false_eq_true, if_true, if_false, ite_true, ite_false, exists_const, eq_self, false_and, and_false, or_false, false_or, exists_false, Evl.rLenS, rSum, wipe, tYes, exists_eq, exists_eq', rIxL, rIxT, rIxS, exists_and_right, gt_iff_lt, not_true_eq_false, not_false_eq_true, Bool.not_true, Bool.not_false, decide_eq_true_eq, Nat.reduceSub, Nat.reduceAdd, List.append_assoc, tChain, tDIn, tDNotIn, sDDel, tAug, ipI]
      exact ⟨TC, dx, _, ho, C.cl, C.n3, .ref d, rfl, d, rfl, .ref a, .inl ⟨kvs, Sum.inr z, .inl hd, rfl, ev.symm⟩, a, rfl, xs, sq_l ha, .ref p, atI_of i0 ep, qG z i rfl rfl hh i0 i1 p _ hp k1⟩
def spTA (TC NO : Addr) : Sp := fun vs H Q E => ∃ (o l : Addr) (zs : List Str) (m : Nat) (first : Int) (rs : List (Str × PyData)), vs = [.ref o, .ref l] ∧ TabAt TC H o m first rs ∧ H l = some (.lst (zs.map V.str)) ∧ zs.length ≤ 1000 ∧ (∀ z ∈ zs, z.length ≤ 1000) ∧
  ((∀ z ∈ zs, z ∈ rs.map (·.1)) → ∀ (r : Addr) (H' : Hp), H r = none → H' r = some (.lst ((walkR rs first zs).map V.int)) → Kp [] H H' → Q (.ref r) H') ∧
  (∀ (i : Nat) (z : Str), zs[i]? = some z → hasD rs (.str z) = false → (∀ j y, j < i → zs[j]? = some y → hasD rs (.str y) = true) → ∀ (e : Addr) (H' : Hp), H e = none → H' e = some (.xd [("name", .str z)]) → Kp [] H H' → E (.ref NO) (some e) H')
def ChkIn (o l : Addr) (zs : List Str) (rs : List (Str × PyData)) (H : Hp) (i : Nat) (σ : L2.St) (H' : Hp) : Prop := ∃ c, σ = [some (.ref o), some (.ref l), c, none, none, none] ∧ Kp [] H H' ∧ ∀ j y, j < i → zs[j]? = some y → hasD rs (.str y) = true
def AnsIn (o l r : Addr) (zs : List Str) (first : Int) (rs : List (Str × PyData)) (H : Hp) (i : Nat) (σ : L2.St) (H' : Hp) : Prop := ∃ c x, σ = [some (.ref o), some (.ref l), c, some (.int (stateR rs first (zs.take i))), some (.ref r), x] ∧ H' r = some (.lst ((walkR rs first (zs.take i)).map V.int)) ∧ Kp [] H H' ∧ 0 ≤ stateR rs first (zs.take i) ∧ stateR rs first (zs.take i) < lenD (rs.headD ("", .none)).2
theorem walkR_snoc (rs : List (Str × PyData)) : ∀ (s : Int) (zs : List Str) (z : Str), walkR rs s (zs ++ [z]) = walkR rs s zs ++ [(cellOf rs z (stateR rs s zs)).1] ∧ stateR rs s (zs ++ [z]) = (cellOf rs z (stateR rs s zs)).2
  | s, [], z => ⟨rfl, rfl⟩
  | s, y :: ys, z => by
    obtain ⟨a, b⟩ := walkR_snoc rs (cellOf rs y s).2 ys z
    constructor
    · show (cellOf rs y s).1 :: walkR rs (cellOf rs y s).2 (ys ++ [z]) = _
      rw [a]; rfl
    · exact b
theorem walkR_len (rs : List (Str × PyData)) : ∀ (s : Int) (zs : List Str), (walkR rs s zs).length = zs.length
  | _, [] => rfl
  | s, z :: zs => by
    show (walkR rs _ zs).length + 1 = zs.length + 1
    rw [walkR_len]
theorem ok_Table_answers {f : Addr} {fd : FuncData} (F : Fun K "answers" "Table.answers" s_Table_answers f fd) (T : Bt mg tL t1 t2) {TC NO fN : Addr} {fdN : FuncData} (C : TbC K mg TC)
    (ME_Table_check_name : Meth K TC "check_name" fN) (bM_Table_check_name : Binds K fdN ["self", "name"] []) (G_Table_check_name : FnOk P w K mg base (L2.CX P w) 3 fN fdN ["self", "name"] (spTK TC NO)) : FnOk P w K mg base (L2.CX P w) 4 f fd ["self", "calls"] (spTA TC NO) := by
  refine F.okX sc_Table_answers (fun vs H Q E h => ?_) (fun cdv A outer s H vs Q E hr h => ?_)
  · obtain ⟨o, l, zs, m, first, rs, rfl, _⟩ := h
    rfl
  · obtain ⟨o, l, zs, m, first, rs, rfl, hT, hl, zl, zb, qG, qN⟩ := h
    have hu := hu_of hr
    refine ⟨_, (pss_cons (ps_for (passes_of rfl) rfl (pi_list (pv 1)) (pg_name (i := 2) sc_Table_answers.nd rfl (Or.inl rfl)) (pss_one (ps_expr (pe_meth (pv 0) C.cl ME_Table_check_name G_Table_check_name (hr.mono (by decide)) bM_Table_check_name .nil (passes_call (E := E) (takes_of rfl rfl rfl rfl) (fun _ _ _ _ h => h)) (pa_cons (pv 2) pa_nil)))))
      (pss_cons (ps_set (i := 3) sc_Table_answers.nd rfl (Or.inl rfl) (pe_fld (pv 0) rfl))
      (pss_cons (ps_set (i := 4) sc_Table_answers.nd rfl (Or.inl rfl) (pe_lst pa_nil))
      (pss_cons (ps_for (passes_of rfl) rfl (pi_list (pv 1)) (pg_name (i := 2) sc_Table_answers.nd rfl (Or.inl rfl)) (pss_cons (ps_asg (pe_ix (r := rIxL K) ix_list (pe_dget hu (pe_fld (pv 0) rfl) (pv 2) (fun _ _ => rfl)) (pv 3) (fun _ _ => rfl)) (pg_tup (n := 2) (by rfl) (pgs_cons (pg_name (i := 5) sc_Table_answers.nd rfl (Or.inl rfl)) (pgs_cons (pg_name (i := 3) sc_Table_answers.nd rfl (Or.inl rfl)) pgs_nil))))
      (pss_one (ps_expr (pe_bm PySem.F.plainAttrs_list PySem.F.slot_list_append PySem.F.type_list_append mt_append (pv 4) (pa_cons (pv 5) pa_nil))))))
      (pss_one (ps_ret (pv 4))))))), ?_⟩
    try simp (maxSteps := 1000000) only [tSeq, tIfS, tTest, tOp, tUn, tCB, tCons, tNil, tVar, tC, rI0, rI, rU, rEq, rNe, tRet, tRetN, tAsg, gName, gSub, tBM, tBM0, tNext, tB, tNot, tAnd, tOr, tIf, tCall, tDrop, tBreak, tCont, L2.start, tDGet, sDPut, tTup, tLst, tDNewK, tRevL, rCat, rAppend, rPop, rSetL, tAndV, tOrV, tNotV, tSl, tPart, tNoPart, tM1, gTup, gCons, gNil, cxK, cxnK, List.map_cons, List.map_nil, List.length_cons, List.length_nil, List.replicate, List.cons_append, List.nil_append, List.append_nil, List.set_cons_zero, List.set_cons_succ, List.getElem?_cons_zero, List.getElem?_cons_succ, Option.some.injEq, V.ref.injEq, V.int.injEq, V.str.injEq, V.bl.injEq, V.ty.injEq, exists_eq_left', exists_eq_left, exists_and_left, List.cons.injEq, and_true, true_and, sc_ii, sc_ss, sc_bb, sc_ni, sc_in, sc_is, sc_si, sc_nn, decide_true, decide_false, reduceCtorEq, Bool.false_eq_true, if_true, if_false, ite_true, ite_false, exists_const, eq_self, false_and, and_false, or_false, false_or, exists_false, Evl.rLenS, rSum, wipe, tYes, exists_eq, exists_eq', rIxL, rIxT, rIxS, exists_and_right, gt_iff_lt, not_true_eq_false, not_false_eq_true, Bool.not_true, Bool.not_false, decide_eq_true_eq, Nat.reduceSub, Nat.reduceAdd, List.append_assoc, tChain, tDIn, tDNotIn, sDDel, tAug, ipI, tFld, tMeth]
    have xl : ∀ {i : Nat} {x : V}, (zs.map V.str)[i]? = some x → ∃ z, zs[i]? = some z ∧ x = .str z := fun {i x} e => by
      rw [List.getElem?_map] at e
      cases ez : zs[i]? with
      | none => rw [ez] at e; cases e
      | some z => rw [ez] at e; cases e; exact ⟨z, rfl, rfl⟩
    refine ⟨.ref l, rfl, l, rfl, ⟨_, sq_l hl⟩, for_list (K := K) (a := l) (xs := zs.map V.str) (ChkIn o l zs rs H) ⟨_, rfl, Kp.refl _ _, fun j y hj => absurd hj (by omega)⟩ (fun i σ H' _ h => by obtain ⟨_, _, k, _⟩ := h; exact k.ls not0 (sq_l hl)) ?_ ?_⟩
    · rintro i x σ H1 hx ⟨c, rfl, k1, hg⟩
      obtain ⟨z, ez, rfl⟩ := xl hx
      try simp (maxSteps := 1000000) only [tSeq, tIfS, tTest, tOp, tUn, tCB, tCons, tNil, tVar, tC, rI0, rI, rU, rEq, rNe, tRet, tRetN, tAsg, gName, gSub, tBM, tBM0, tNext, tB, tNot, tAnd, tOr, tIf, tCall, tDrop, tBreak, tCont, L2.start, tDGet, sDPut, tTup, tLst, tDNewK, tRevL, rCat, rAppend, rPop, rSetL, tAndV, tOrV, tNotV, tSl, tPart, tNoPart, tM1, gTup, gCons, gNil, cxK, cxnK, List.map_cons, List.map_nil, List.length_cons, List.length_nil, List.replicate, List.cons_append, List.nil_append, List.append_nil, List.set_cons_zero, List.set_cons_succ, List.getElem?_cons_zero, List.getElem?_cons_succ, Option.some.injEq, V.ref.injEq, V.int.injEq, V.str.injEq, V.bl.injEq, V.ty.injEq, exists_eq_left', exists_eq_left, exists_and_left, List.cons.injEq, and_true, true_and, sc_ii, sc_ss, sc_bb, sc_ni, sc_in, sc_is, sc_si, sc_nn, decide_true, decide_false, reduceCtorEq, Bool.false_eq_true, if_true, if_false, ite_true, ite_false, exists_const, eq_self, false_and, and_false, or_false, false_or, exists_false, Evl.rLenS, rSum, wipe, tYes, exists_eq, exists_eq', rIxL, rIxT, rIxS, exists_and_right, gt_iff_lt, not_true_eq_false, not_false_eq_true, Bool.not_true, Bool.not_false, decide_eq_true_eq, Nat.reduceSub, Nat.reduceAdd, List.append_assoc, tChain, tDIn, tDNotIn, sDDel, tAug, ipI, tMeth]
      obtain ⟨dx0, d0, ho0⟩ := (hT.kp k1).head
      have szz : szD (.str z) = true := decide_eq_true (zb z (List.mem_of_getElem? ez))
      refine ⟨dx0, _, ho0, rfl, o, .str z, .str z, m, first, rs, rfl, hT.kp k1, .str z, szz, fun hh H2 k2 => ⟨_, rfl, k1.trans k2, fun j y hj ey => ?_⟩, fun hh e H' ne he k => qN i z ez hh hg e H' (k1.free0 ne) he (k1.trans k)⟩
      by_cases zj : j = i
      · subst zj; rw [ez] at ey; cases ey; exact hh
      · exact hg j y (by omega) ey
    · rintro σ H1 ⟨c, rfl, k1, hg⟩
      have hT1 := hT.kp k1
      have allN : ∀ z ∈ zs, z ∈ rs.map (·.1) := fun z hz => by
        obtain ⟨j, ej⟩ := List.getElem?_of_mem hz
        have hh := hg j z (by rw [List.length_map]; exact (List.getElem?_eq_some_iff.mp ej).1) ej
        have h' : (nameS z && decide (z ∈ rs.map (·.1))) = true := hh
        rw [Bool.and_eq_true, decide_eq_true_eq] at h'
        exact h'.2
      try simp (maxSteps := 1000000) only [tSeq, tIfS, tTest, tOp, tUn, tCB, tCons, tNil, tVar, tC, rI0, rI, rU, rEq, rNe, tRet, tRetN, tAsg, gName, gSub, tBM, tBM0, tNext, tB, tNot, tAnd, tOr, tIf, tCall, tDrop, tBreak, tCont, L2.start, tDGet, sDPut, tTup, tLst, tDNewK, tRevL, rCat, rAppend, rPop, rSetL, tAndV, tOrV, tNotV, tSl, tPart, tNoPart, tM1, gTup, gCons, gNil, cxK, cxnK, List.map_cons, List.map_nil, List.length_cons, List.length_nil, List.replicate, List.cons_append, List.nil_append, List.append_nil, List.set_cons_zero, List.set_cons_succ, List.getElem?_cons_zero, List.getElem?_cons_succ, Option.some.injEq, V.ref.injEq, V.int.injEq, V.str.injEq, V.bl.injEq, V.ty.injEq, exists_eq_left', exists_eq_left, exists_and_left, List.cons.injEq, and_true, true_and, sc_ii, sc_ss, sc_bb, sc_ni, sc_in, sc_is, sc_si, sc_nn, decide_true, decide_false, reduceCtorEq, Bool.false_eq_true, if_true, if_false, ite_true, ite_false, exists_const, eq_self, false_and, and_false, or_false, false_or, exists_false, Evl.rLenS, rSum, wipe, tYes, exists_eq, exists_eq', rIxL, rIxT, rIxS, exists_and_right, gt_iff_lt, not_true_eq_false, not_false_eq_true, Bool.not_true, Bool.not_false, decide_eq_true_eq, Nat.reduceSub, Nat.reduceAdd, List.append_assoc, tChain, tDIn, tDNotIn, sDDel, tAug, ipI, tFld]
      obtain ⟨dx0, d0, kvs0, ho0, hd0, hr0, nd0, rb0, em0, f00, f01⟩ := hT1
      refine ⟨TC, dx0, _, ho0, C.cl, C.n2, _, rfl, small (by decide), fun r nr => ?_⟩
      have nrH : H r = none := k1.free0 nr
      have k1r : Kp [] H (upd H1 r (.lst [])) := k1.trans (Kp.new nr)
      refine ⟨.ref l, rfl, l, rfl, ⟨_, sq_l (k1r _ _ not0 hl)⟩, for_list (K := K) (a := l) (xs := zs.map V.str) (AnsIn o l r zs first rs H) ⟨c, none, rfl, upd_same, k1r, f00, by rw [← em0]; exact f01⟩ (fun i σ H' _ h => by obtain ⟨_, _, _, _, k, _⟩ := h; exact k.ls not0 (sq_l hl)) ?_ ?_⟩
      · rintro i x σ H2 hx ⟨c, y, rfl, hr2, k2, s0, s1⟩
        obtain ⟨z, ez, rfl⟩ := xl hx
        try simp (maxSteps := 1000000) only [tSeq, tIfS, tTest, tOp, tUn, tCB, tCons, tNil, tVar, tC, rI0, rI, rU, rEq, rNe, tRet, tRetN, tAsg, gName, gSub, tBM, tBM0, tNext, tB, tNot, tAnd, tOr, tIf, tCall, tDrop, tBreak, tCont, L2.start, tDGet, sDPut, tTup, tLst, tDNewK, tRevL, rCat, rAppend, rPop, rSetL, tAndV, tOrV, tNotV, tSl, tPart, tNoPart, tM1, gTup, gCons, gNil, cxK, cxnK, List.map_cons, List.map_nil, List.length_cons, List.length_nil, List.replicate, List.cons_append, List.nil_append, List.append_nil, List.set_cons_zero, List.set_cons_succ, List.getElem?_cons_zero, List.getElem?_cons_succ, Option.some.injEq, V.ref.injEq, V.int.injEq, V.str.injEq, V.bl.injEq, V.ty.injEq, exists_eq_left', exists_eq_left, exists_and_left, List.cons.injEq, and_true, true_and, sc_ii, sc_ss, sc_bb, sc_ni, sc_in, sc_is, sc_si, sc_nn, decide_true, decide_false, reduceCtorEq, Bool.false_eq_true, if_true, if_false, ite_true, ite_false, exists_const, eq_self, false_and, and_false, or_false, false_or, exists_false, Evl.rLenS, rSum, wipe, tYes, exists_eq, exists_eq', rIxL, rIxT, rIxS, exists_and_right, gt_iff_lt, not_true_eq_false, not_false_eq_true, Bool.not_true, Bool.not_false, decide_eq_true_eq, Nat.reduceSub, Nat.reduceAdd, List.append_assoc, tChain, tDIn, tDNotIn, sDDel, tAug, ipI, tFld]
        obtain ⟨dx, d, kvs, a, xs, ho, hd, ev, ha, hl2, cell⟩ := (hT.kp k2).get (allN z (List.mem_of_getElem? ez))
        have s1' := s1
        rw [← em0] at s1'
        obtain ⟨p, ep, hp, c0, c1, d0, d1⟩ := cell _ s0 s1'
        refine ⟨TC, dx, _, ho, C.cl, C.n3, .ref d, rfl, d, rfl, .ref a, .inl ⟨kvs, Sum.inr z, .inl hd, rfl, ev.symm⟩, a, rfl, xs, sq_l ha, .ref p, atI_of s0 ep, ?_⟩
        have wl : ((walkR rs first (zs.take i)).map V.int).length ≤ 1000 := by
          rw [List.length_map, walkR_len, List.length_take]; omega
        have wz := walkR_snoc rs first (zs.take i) z
        refine ⟨p, rfl, _, sq_t hp, rfl, _, _, rfl, _, _, rfl, rfl, .inl ⟨rfl, _, sq_l hr2⟩, _, hr2, smallL (by omega), ?_⟩
        refine ⟨some (.str z), some (.int (cellOf rs z (stateR rs first (zs.take i))).1), ?_, ?_, k2.wr nrH, ?_⟩
        · rw [take_snoc ez, wz.2]
        · rw [take_snoc ez, wz.1, upd_same, List.map_append]; rfl
        · rw [take_snoc ez, wz.2, ← em0]
          exact ⟨d0, d1⟩
      · rintro σ H2 ⟨c, y, rfl, hr2, k2, s0, s1⟩
        rw [List.length_map, List.take_length] at hr2
        try simp (maxSteps := 1000000) only [tSeq, tIfS, tTest, tOp, tUn, tCB, tCons, tNil, tVar, tC, rI0, rI, rU, rEq, rNe, tRet, tRetN, tAsg, gName, gSub, tBM, tBM0, tNext, tB, tNot, tAnd, tOr, tIf, tCall, tDrop, tBreak, tCont, L2.start, tDGet, sDPut, tTup, tLst, tDNewK, tRevL, rCat, rAppend, rPop, rSetL, tAndV, tOrV, tNotV, tSl, tPart, tNoPart, tM1, gTup, gCons, gNil, cxK, cxnK, List.map_cons, List.map_nil, List.length_cons, List.length_nil, List.replicate, List.cons_append, List.nil_append, List.append_nil, List.set_cons_zero, List.set_cons_succ, List.getElem?_cons_zero, List.getElem?_cons_succ, Option.some.injEq, V.ref.injEq, V.int.injEq, V.str.injEq, V.bl.injEq, V.ty.injEq, exists_eq_left', exists_eq_left, exists_and_left, List.cons.injEq, and_true, true_and, sc_ii, sc_ss, sc_bb, sc_ni, sc_in, sc_is, sc_si, sc_nn, decide_true, decide_false, reduceCtorEq, Bool.false_eq_true, if_true, if_false, ite_true, ite_false, exists_const, eq_self, false_and, and_false, or_false, false_or, exists_false, Evl.rLenS, rSum, wipe, tYes, exists_eq, exists_eq', rIxL, rIxT, rIxS, exists_and_right, gt_iff_lt, not_true_eq_false, not_false_eq_true, Bool.not_true, Bool.not_false, decide_eq_true_eq, Nat.reduceSub, Nat.reduceAdd, List.append_assoc, tChain, tDIn, tDNotIn, sDDel, tAug, ipI]
        exact qG allN r H2 nrH hr2 k2
end
end My

set_option Elab.async false
set_option linter.all false
set_option maxRecDepth 100000
set_option maxHeartbeats 4000000
/-! what k14's texts tell of rows and tables -/
namespace My
open PySem L2 NdefX
def cellD (p : Int × Int) : PyData := .tuple [.int p.1, .int p.2]
def rowD2 (k : Nat) (f : Nat → Int × Int) : PyData := .list ((List.range k).map fun i => cellD (f i))
/-- cells as new tuples -/
def Cells (f : Nat → Int × Int) (xs : List V) (k : Nat) (H : Hp) : Prop := xs.length = k ∧ ∀ i, i < k → ∃ p, xs[i]? = some (.ref p) ∧ H p = some (.tup [.int (f i).1, .int (f i).2])
theorem Cells.kp {f : Nat → Int × Int} {xs : List V} {k : Nat} {H H' : Hp} (h : Cells f xs k H) (kp : Kp [] H H') : Cells f xs k H' :=
  ⟨h.1, fun s hs => by
    obtain ⟨p, e, hp⟩ := h.2 s hs
    exact ⟨p, e, kp _ _ not0 hp⟩⟩
theorem Cells.snoc {f : Nat → Int × Int} {xs : List V} {k : Nat} {H : Hp} {p : Addr} (h : Cells f xs k H) (hp : H p = some (.tup [.int (f k).1, .int (f k).2])) : Cells f (xs ++ [.ref p]) (k + 1) H := by
  refine ⟨by rw [List.length_append, h.1]; rfl, fun s hs => ?_⟩
  by_cases z : s = k
  · subst z
    exact ⟨p, by rw [List.getElem?_append_right (by rw [h.1]; exact Nat.le_refl _), h.1, Nat.sub_self]; rfl, hp⟩
  · obtain ⟨p', e', hp'⟩ := h.2 s (by omega)
    exact ⟨p', by rw [List.getElem?_append_left (by rw [h.1]; omega)]; exact e', hp'⟩
theorem Cells.putL {f : Nat → Int × Int} {xs ys zs : List V} {k : Nat} {H : Hp} {D : Addr} (h : Cells f xs k H) (hD : H D = some (.lst ys)) : Cells f xs k (upd H D (.lst zs)) :=
  ⟨h.1, fun s hs => by
    obtain ⟨p, e, hp⟩ := h.2 s hs
    have ne : p ≠ D := fun z => by rw [z, hD] at hp; cases hp
    exact ⟨p, e, by rw [upd_ne ne]; exact hp⟩⟩
theorem Cells.dq {f : Nat → Int × Int} {H : Hp} : ∀ {k : Nat} {xs : List V}, Cells f xs k H → DqAll H xs ((List.range k).map fun i => cellD (f i))
  | 0, [], _ => .nil
  | 0, _ :: _, h => by cases h.1
  | k + 1, xs, h => by
    obtain ⟨p, e, hp⟩ := h.2 k (by omega)
    have hx : xs = xs.take k ++ [.ref p] := by rw [← take_snoc e, List.take_of_length_le (Nat.le_of_eq h.1)]
    have ih : Cells f (xs.take k) k H := ⟨by rw [List.length_take, h.1]; omega, fun i hi => by
      obtain ⟨p', e', hp'⟩ := h.2 i (by omega)
      exact ⟨p', by rw [List.getElem?_take_of_lt hi]; exact e', hp'⟩⟩
    rw [List.range_succ, List.map_append, hx]
    have app : ∀ {vs us : List V} {ds es : List PyData}, DqAll H vs ds → DqAll H us es → DqAll H (vs ++ us) (ds ++ es) := by
      intro vs us ds es h1 h2
      induction vs generalizing ds with
      | nil => cases h1; exact h2
      | cons v r ih =>
        cases h1 with
        | cons a b => exact .cons a (ih b)
    exact app ih.dq (.cons (.tup hp (.cons (.int _) (.cons (.int _) .nil))) .nil)
def namesOf (rs : List (Str × PyData)) : List Str := rs.map (·.1)
theorem rowsBad_of {rs : List (Str × PyData)} {M : Nat} (h1 : rs ≠ []) (h2 : rs.length ≤ 6) (hM : M = lenD (rs.headD ("", .none)).2) (h3 : ∀ q ∈ rs, goodR M q = true) : rowsBad rs = none := by
  cases rs with
  | nil => exact absurd rfl h1
  | cons p r =>
    show (if 7 ≤ (p :: r).length then some ("" : Str) else ((p :: r).find? fun q => !goodR (lenD p.2) q).map (·.1)) = none
    rw [if_neg (by omega)]
    have : ((p :: r).find? fun q => !goodR (lenD p.2) q) = none := by
      rw [List.find?_eq_none]
      intro q hq
      have hM' : M = lenD p.2 := hM
      have := h3 q hq
      rw [hM'] at this
      simp [this]
    rw [this]; rfl
def CellOk (rs : List (Str × PyData)) (m : Nat) : Prop := ∀ z ∈ namesOf rs, ∀ s : Nat, s < m → 0 ≤ (cellOf rs z s).1 ∧ (cellOf rs z s).1 < 10 ∧ 0 ≤ (cellOf rs z s).2 ∧ (cellOf rs z s).2 < m
theorem TabAt.cells {TC : Addr} {H : Hp} {o : Addr} {m : Nat} {first : Int} {rs : List (Str × PyData)} (h : TabAt TC H o m first rs) : CellOk rs m := fun z hz s hs => by
  obtain ⟨_, _, _, _, _, _, _, _, _, _, c⟩ := h.get hz
  obtain ⟨p, _, _, r⟩ := c s (by omega) (by omega)
  exact r
theorem TabAt.bnd {TC : Addr} {H : Hp} {o : Addr} {m : Nat} {first : Int} {rs : List (Str × PyData)} (h : TabAt TC H o m first rs) : rs ≠ [] ∧ rs.length ≤ 6 ∧ (∀ z ∈ namesOf rs, nameS z = true) ∧ 1 ≤ m ∧ m ≤ 100 ∧ 0 ≤ first ∧ first < m ∧ (namesOf rs).Nodup := by
  obtain ⟨dx, d, kvs, ho, hd, hr, nd, rb, em, f0, f1⟩ := h
  have g := rowsBad_none rb
  refine ⟨g.1, g.2.1, fun z hz => ?_, by omega, ?_, f0, f1, nd_names hr.keys nd⟩
  · obtain ⟨⟨z', dd⟩, hm, rfl⟩ := List.mem_map.mp hz
    exact (goodR_row (g.2.2 _ hm)).1
  · cases rs with
    | nil => exact absurd rfl g.1
    | cons p r =>
      obtain ⟨p1, p2⟩ := p
      obtain ⟨_, ds, e, hrow, hl⟩ := goodR_row (g.2.2 (p1, p2) (by simp))
      subst e
      have h' : (decide (1 ≤ ds.length) && (decide (ds.length ≤ 100) && ds.all (pairD ds.length))) = true := hrow
      rw [Bool.and_eq_true, Bool.and_eq_true, decide_eq_true_eq, decide_eq_true_eq] at h'
      have e2 : m = ds.length := em
      omega
theorem good_side {k : Nat} {z : Str} {f : Nat → Int × Int} (hz : nameS z = true) (k1 : 1 ≤ k) (k2 : k ≤ 100) (hf : ∀ i, i < k → 0 ≤ (f i).1 ∧ (f i).1 < 10 ∧ 0 ≤ (f i).2 ∧ (f i).2 < k) : goodR k (z, rowD2 k f) = true := by
  have hl : ((List.range k).map fun i => cellD (f i)).length = k := by simp
  unfold goodR rowD2
  have e2 : lenD (.list ((List.range k).map fun i => cellD (f i))) = k := hl
  have e3 : rowD (.list ((List.range k).map fun i => cellD (f i))) = true := by
    show (decide (1 ≤ ((List.range k).map fun i => cellD (f i)).length) && (decide (((List.range k).map fun i => cellD (f i)).length ≤ 100) && ((List.range k).map fun i => cellD (f i)).all (pairD ((List.range k).map fun i => cellD (f i)).length))) = true
    rw [hl, decide_eq_true k1, decide_eq_true k2, Bool.true_and, Bool.true_and, List.all_eq_true]
    intro d hd
    obtain ⟨i, hi, rfl⟩ := List.mem_map.mp hd
    obtain ⟨a, b, c, e⟩ := hf i (List.mem_range.mp hi)
    show ((decide (0 ≤ (f i).1) && decide ((f i).1 < 10)) && (decide (0 ≤ (f i).2) && decide ((f i).2 < k))) = true
    rw [decide_eq_true a, decide_eq_true b, decide_eq_true c, decide_eq_true e]; rfl
  show (nameS z && (rowD _ && lenD _ == k)) = true
  rw [hz, e3, e2]
  simp
theorem Cells.kpN {f : Nat → Int × Int} {xs : List V} {k : Nat} {H H' : Hp} {S : List Addr} (h : Cells f xs k H) (kp : Kp S H H') (hS : ∀ a ∈ S, ∀ xs, H a ≠ some (.tup xs) ∧ H a ≠ some (.lst xs)) : Cells f xs k H' :=
  ⟨h.1, fun s hs => by
    obtain ⟨p, e, hp⟩ := h.2 s hs
    exact ⟨p, e, kp _ _ (fun m => (hS _ m _).1 hp) hp⟩⟩
theorem dk_no {H : Hp} {d : Addr} {kv : List (Key × V)} (e : H d = some (.dK kv)) : ∀ a ∈ [d], ∀ xs, H a ≠ some (.tup xs) ∧ H a ≠ some (.lst xs) := fun a m xs => by
  rw [List.mem_singleton.mp m, e]
  exact ⟨fun z => (by cases z), fun z => (by cases z)⟩
theorem sz_row {k : Nat} {f : Nat → Int × Int} : szD (rowD2 k f) = true := by
  have : ∀ ds : List PyData, (∀ d ∈ ds, szD d = true) → szAll ds = true := by
    intro ds h
    induction ds with
    | nil => rfl
    | cons d r ih =>
      show (szD d && szAll r) = true
      rw [h d List.mem_cons_self, ih fun x hx => h x (List.mem_cons_of_mem _ hx)]; rfl
  refine this _ fun d hd => ?_
  obtain ⟨i, _, rfl⟩ := List.mem_map.mp hd
  rfl
/-- at d a dict of rows of new tuples -/
def RwAt (H : Hp) (d : Addr) (zs : List Str) (m : Nat) (c : Str → Nat → Int × Int) : Prop := ∃ kvs : List (Key × V), H d = some (.dK kvs) ∧ kvs.length = zs.length ∧ ∀ (i : Nat) (z : Str), zs[i]? = some z → ∃ l xs, kvs[i]? = some (Sum.inr z, .ref l) ∧ H l = some (.lst xs) ∧ Cells (c z) xs m H
theorem RwAt.kp {H H' : Hp} {d : Addr} {zs : List Str} {m : Nat} {c : Str → Nat → Int × Int} (h : RwAt H d zs m c) (k : Kp [] H H') : RwAt H' d zs m c := by
  obtain ⟨kvs, hd, hl, hv⟩ := h
  refine ⟨kvs, k _ _ not0 hd, hl, fun i z e => ?_⟩
  obtain ⟨l, xs, a, b, cc⟩ := hv i z e
  exact ⟨l, xs, a, k _ _ not0 b, cc.kp k⟩
theorem RwAt.keys {kvs : List (Key × V)} {zs : List Str} {P : Nat → Str → V → Prop} (hl : kvs.length = zs.length) (h : ∀ (i : Nat) (z : Str), zs[i]? = some z → ∃ v, kvs[i]? = some (Sum.inr z, v) ∧ P i z v) : kvs.map (·.1) = zs.map (fun z => (Sum.inr z : Key)) := by
  refine List.ext_getElem? fun i => ?_
  rw [List.getElem?_map, List.getElem?_map]
  cases e : zs[i]? with
  | none =>
    have : kvs[i]? = none := by
      rw [List.getElem?_eq_none_iff] at e ⊢
      omega
    rw [this]; rfl
  | some z =>
    obtain ⟨v, ev, _⟩ := h i z e
    rw [ev]; rfl
/-- one row more -/
theorem RwAt.put {H H2 : Hp} {d l : Addr} {zs : List Str} {m : Nat} {c : Str → Nat → Int × Int} {z : Str} {xs : List V} (h : RwAt H d zs m c) (k : Kp [] H H2) (hz : z ∉ zs) (hl : H2 l = some (.lst xs)) (hc : Cells (c z) xs m H2) :
    ∃ kvs, H2 d = some (.dK kvs) ∧ kvs.length = zs.length ∧ putK kvs (Sum.inr z) (.ref l) = kvs ++ [(Sum.inr z, .ref l)] ∧ RwAt (upd H2 d (.dK (kvs ++ [(Sum.inr z, .ref l)]))) d (zs ++ [z]) m c := by
  obtain ⟨kvs, hd, hlen, hv⟩ := h
  have hd2 := k _ _ not0 hd
  have kw : Kp [d] H2 (upd H2 d (.dK (kvs ++ [(Sum.inr z, .ref l)]))) := (Kp.refl [d] _).put List.mem_cons_self
  refine ⟨kvs, hd2, hlen, putK_new _ (valV_fresh ?_), _, upd_same, by simp [hlen], fun i y e => ?_⟩
  · rw [RwAt.keys (P := fun _ _ _ => True) hlen fun i z e => by obtain ⟨l, xs, a, _⟩ := hv i z e; exact ⟨_, a, True.intro⟩]
    intro hm
    obtain ⟨z', hz', e⟩ := List.mem_map.mp hm
    cases e
    exact hz hz'
  · rcases Nat.lt_trichotomy i zs.length with w | w | w
    · rw [List.getElem?_append_left w] at e
      obtain ⟨l', xs', a, b, cc⟩ := hv i y e
      have hb := k _ _ not0 b
      exact ⟨l', xs', by rw [List.getElem?_append_left (by omega)]; exact a, kw _ _ (fun m => (dk_no hd2 _ m _).2 hb) hb, (cc.kp k).kpN kw (dk_no hd2)⟩
    · subst w
      rw [List.getElem?_append_right (Nat.le_refl _), Nat.sub_self] at e
      cases e
      exact ⟨l, xs, by rw [← hlen, List.getElem?_append_right (Nat.le_refl _), Nat.sub_self]; rfl, kw _ _ (fun m => (dk_no hd2 _ m _).2 hl) hl, hc.kpN kw (dk_no hd2)⟩
    · rw [List.getElem?_append_right (by omega), List.getElem?_eq_none (by simp; omega)] at e
      cases e
theorem RwAt.get {H : Hp} {d : Addr} {zs : List Str} {m : Nat} {c : Str → Nat → Int × Int} (h : RwAt H d zs m c) (nd : zs.Nodup) {z : Str} (hz : z ∈ zs) : ∃ kvs l xs, H d = some (.dK kvs) ∧ valV kvs (Sum.inr z) = some (.ref l) ∧ H l = some (.lst xs) ∧ Cells (c z) xs m H := by
  obtain ⟨kvs, hd, hlen, hv⟩ := h
  obtain ⟨i, e⟩ := List.getElem?_of_mem hz
  obtain ⟨l, xs, a, b, cc⟩ := hv i z e
  refine ⟨kvs, l, xs, hd, valV_mem ?_ (List.mem_of_getElem? a), b, cc⟩
  rw [RwAt.keys (P := fun _ _ _ => True) hlen fun i z e => by obtain ⟨l, xs, a, _⟩ := hv i z e; exact ⟨_, a, True.intro⟩]
  exact List.Pairwise.map (R := fun a b => a ≠ b) _ (fun a b h e => h (by cases e; rfl)) nd
def CellB (zs : List Str) (m : Nat) (most : Int) (c : Str → Nat → Int × Int) : Prop := ∀ z ∈ zs, ∀ s, s < m → (0 ≤ (c z s).1 ∧ (c z s).1 < most) ∧ 0 ≤ (c z s).2 ∧ (c z s).2 < m
/-- the table at t tells the rows c -/
def TabIs (TC : Addr) (H : Hp) (t : Addr) (zs : List Str) (m : Nat) (start : Int) (c : Str → Nat → Int × Int) : Prop := ∃ rs, TabAt TC H t m start rs ∧ namesOf rs = zs ∧ ∀ z ∈ zs, ∀ s : Nat, s < m → cellOf rs z s = c z s
def walkC (c : Str → Nat → Int × Int) : Int → List Str → List Int
  | _, [] => []
  | s, z :: zs => (c z s.toNat).1 :: walkC c (c z s.toNat).2 zs
def stateC (c : Str → Nat → Int × Int) : Int → List Str → Int
  | s, [] => s
  | s, z :: zs => stateC c (c z s.toNat).2 zs
theorem walkC_snoc (c : Str → Nat → Int × Int) : ∀ (s : Int) (zs : List Str) (z : Str), walkC c s (zs ++ [z]) = walkC c s zs ++ [(c z (stateC c s zs).toNat).1] ∧ stateC c s (zs ++ [z]) = (c z (stateC c s zs).toNat).2
  | s, [], z => ⟨rfl, rfl⟩
  | s, y :: ys, z => by
    obtain ⟨a, b⟩ := walkC_snoc c (c y s.toNat).2 ys z
    constructor
    · show (c y s.toNat).1 :: walkC c (c y s.toNat).2 (ys ++ [z]) = _
      rw [a]; rfl
    · exact b
theorem walkC_len (c : Str → Nat → Int × Int) : ∀ (s : Int) (zs : List Str), (walkC c s zs).length = zs.length
  | _, [] => rfl
  | s, z :: zs => by
    show (walkC c _ zs).length + 1 = zs.length + 1
    rw [walkC_len]
theorem stateC_ok {zs : List Str} {m : Nat} {most : Int} {c : Str → Nat → Int × Int} (h : CellB zs m most c) : ∀ {cs : List Str} {s : Int}, (∀ z ∈ cs, z ∈ zs) → 0 ≤ s → s < m → 0 ≤ stateC c s cs ∧ stateC c s cs < m
  | [], s, _, s0, s1 => ⟨s0, s1⟩
  | z :: cs, s, hz, s0, s1 => by
    have := (h z (hz z List.mem_cons_self) s.toNat (by omega)).2
    exact stateC_ok (cs := cs) (s := (c z s.toNat).2) h (fun y hy => hz y (List.mem_cons_of_mem _ hy)) this.1 this.2
theorem walk_same {rs : List (Str × PyData)} {zs : List Str} {m : Nat} {most : Int} {c : Str → Nat → Int × Int} (h : CellB zs m most c) (e : ∀ z ∈ zs, ∀ s : Nat, s < m → cellOf rs z s = c z s) : ∀ {cs : List Str} {s : Int}, (∀ z ∈ cs, z ∈ zs) → 0 ≤ s → s < m → walkR rs s cs = walkC c s cs
  | [], s, _, _, _ => rfl
  | z :: cs, s, hz, s0, s1 => by
    have z0 := hz z List.mem_cons_self
    have e1 := e z z0 s.toNat (by omega)
    rw [Int.toNat_of_nonneg s0] at e1
    have b := (h z z0 s.toNat (by omega)).2
    show (cellOf rs z s).1 :: walkR rs (cellOf rs z s).2 cs = (c z s.toNat).1 :: walkC c (c z s.toNat).2 cs
    rw [e1, walk_same (cs := cs) h e (fun y hy => hz y (List.mem_cons_of_mem _ hy)) b.1 b.2]
theorem pick_of {zs : List Str} {i : Int} (h0 : 0 ≤ i) (h1 : i < (zs.length : Nat)) : ∃ z, z ∈ zs ∧ atI (zs.map V.str) i = some (.str z) := by
  have hi : i.toNat < zs.length := by omega
  refine ⟨zs[i.toNat], List.getElem_mem _, atI_of h0 ?_⟩
  rw [List.getElem?_map, List.getElem?_eq_getElem hi]; rfl
def rowsR (zs : List Str) (m : Nat) (c : Str → Nat → Int × Int) : List (Str × PyData) := zs.map fun z => (z, rowD2 m (c z))
theorem names_rowsR {zs : List Str} {m : Nat} {c : Str → Nat → Int × Int} : namesOf (rowsR zs m c) = zs := by
  unfold namesOf rowsR
  rw [List.map_map]
  exact (List.map_congr_left fun z _ => rfl).trans (List.map_id zs)
theorem name8 {x : Str} (hx : nameS x = true) : x.length ≤ 1000 := by
  have h8 := hx
  unfold nameS at h8
  rw [Bool.and_eq_true, Bool.and_eq_true, decide_eq_true_eq, decide_eq_true_eq] at h8
  omega
theorem RwAt.rows {H : Hp} {d : Addr} {zs : List Str} {m : Nat} {c : Str → Nat → Int × Int} (h : RwAt H d zs m c) (hb : m ≤ 1000) (nm : ∀ z ∈ zs, nameS z = true) : ∃ kvs, H d = some (.dK kvs) ∧ RowsD H kvs (rowsR zs m c) ∧ kvs.map (·.1) = zs.map (fun z => (Sum.inr z : Key)) := by
  obtain ⟨kvs, hd, hl, hv⟩ := h
  refine ⟨kvs, hd, ⟨by unfold rowsR; rw [hl, List.length_map], fun i k v e => ?_⟩, ?_⟩
  · have hi : i < zs.length := by rw [← hl]; exact (List.getElem?_eq_some_iff.mp e).1
    obtain ⟨l, xs, e2, hl2, hc⟩ := hv i zs[i] (List.getElem?_eq_getElem hi)
    rw [e] at e2
    cases e2
    exact ⟨zs[i], rowD2 m (c zs[i]), rfl, by unfold rowsR; rw [List.getElem?_map, List.getElem?_eq_getElem hi]; rfl, Dq.lst hl2 hc.dq, sz_row, fun ds e => by cases e; simpa using hb, name8 (nm _ (List.getElem_mem _))⟩
  · exact RwAt.keys (P := fun _ _ _ => True) hl fun i z e => by
      obtain ⟨l, xs, e2, _⟩ := hv i z e
      exact ⟨_, e2, True.intro⟩
theorem cellRow {A : List (Str × PyData)} {k : Nat} {f : Nat → Int × Int} {z : Str} (h : A.find? (fun p => decide (p.1 = z)) = some (z, rowD2 k f)) {i : Nat} (hi : i < k) : cellOf A z (i : Nat) = f i := by
  unfold cellOf rowOf
  rw [h]
  show ((((List.range k).map fun i => cellD (f i)).map pairI).getD (Int.toNat (i : Nat)) (0, 0)) = f i
  rw [Int.toNat_natCast, List.map_map, List.getD_eq_getElem?_getD, List.getElem?_map, List.getElem?_range hi]
  rfl
theorem find_rowsR {zs : List Str} {m : Nat} {c : Str → Nat → Int × Int} : ∀ {z : Str}, z ∈ zs → (rowsR zs m c).find? (fun p => decide (p.1 = z)) = some (z, rowD2 m (c z)) := by
  induction zs with
  | nil => intro z h; cases h
  | cons y r ih =>
    intro z h
    show ((y, rowD2 m (c y)) :: rowsR r m c).find? _ = _
    by_cases e : y = z
    · rw [List.find?_cons_of_pos (by exact decide_eq_true e), e]
    · rw [List.find?_cons_of_neg (by simpa using e)]
      rcases List.mem_cons.mp h with h | h
      · exact absurd h.symm e
      · exact ih h
theorem good_rowsR {zs : List Str} {m : Nat} {c : Str → Nat → Int × Int} (hb : CellB zs m 10 c) (zne : zs ≠ []) (z6 : zs.length ≤ 6) (nm : ∀ z ∈ zs, nameS z = true) (m1 : 1 ≤ m) (m100 : m ≤ 100) : rowsBad (rowsR zs m c) = none ∧ lenD ((rowsR zs m c).headD ("", .none)).2 = m := by
  have ln : lenD ((rowsR zs m c).headD ("", .none)).2 = m := by
    cases zs with
    | nil => exact absurd rfl zne
    | cons z r => simp [rowsR, rowD2, lenD]
  refine ⟨rowsBad_of (M := m) (by unfold rowsR; simpa using zne) (by unfold rowsR; simpa using z6) ln.symm fun q hq => ?_, ln⟩
  unfold rowsR at hq
  obtain ⟨z, hz, rfl⟩ := List.mem_map.mp hq
  refine good_side (nm z hz) m1 m100 fun i hi => ?_
  obtain ⟨⟨a, b⟩, c1, d1⟩ := hb z hz i hi
  exact ⟨a, b, c1, d1⟩
theorem mk_tab {TC BT t dt d : Addr} {H2 : Hp} {zs : List Str} {m : Nat} {c : Str → Nat → Int × Int} {st : Int} {Q : VK} {E : XK} (hR : RwAt H2 d zs m c) (hb : CellB zs m 10 c) (nd : zs.Nodup) (zne : zs ≠ []) (z6 : zs.length ≤ 6) (nm : ∀ z ∈ zs, nameS z = true) (m1 : 1 ≤ m) (m100 : m ≤ 100) (s0 : 0 ≤ st) (s1 : st < m)
    (nt : H2 t = none) (ndt : H2 dt = none) (ne : t ≠ dt) (q : ∀ H3, TabIs TC H3 t zs m st c → Kp [] H2 H3 → Q .non H3) : spTI TC BT [.ref t, .ref d, .int st] (upd (upd H2 dt (.own t)) t (.ins TC dt [])) Q E := by
  have k3 : Kp [] H2 (upd (upd H2 dt (.own t)) t (.ins TC dt [])) := (Kp.new ndt).trans (Kp.new (by rw [upd_ne ne]; exact nt))
  obtain ⟨kvs, hd, hrs, hk⟩ := hR.rows (by omega) nm
  obtain ⟨rb, ln⟩ := good_rowsR hb zne z6 nm m1 m100
  have ndk : (kvs.map (·.1)).Nodup := by
    rw [hk]
    exact List.pairwise_map.mpr (nd.imp fun h e => h (by cases e; rfl))
  have kl : kvs.length ≤ 1000 := by
    have := congrArg List.length hk
    rw [List.length_map, List.length_map] at this
    omega
  refine ⟨t, dt, d, .int st, .int st, kvs, _, rfl, upd_same, k3 _ _ not0 hd, hrs.kp k3, ndk, kl, .int _, fun _ i ei i0 i1 H3 hT3 k4 => ?_, fun n hbad => ?_⟩
  · cases ei
    rw [ln] at hT3
    refine q H3 ⟨_, hT3, names_rowsR, fun z hz s hs => cellRow (find_rowsR hz) hs⟩ fun a o _ ea => k4 a o (not1 fun w => by rw [w, nt] at ea; cases ea) (k3 _ _ not0 ea)
  · exfalso
    rcases hbad with h | ⟨_, h, _⟩
    · rw [rb] at h; cases h
    · rw [ln] at h
      have : (decide (0 ≤ st) && decide (st < (m : Nat))) = false := h
      rw [decide_eq_true s0, decide_eq_true s1] at this
      cases this
end My

set_option Elab.async false
set_option linter.all false
set_option maxRecDepth 100000
set_option maxHeartbeats 4000000
namespace My
open PySem L2 NdefX StX
abbrev s_found_states : Stmt := top 21
theorem sc_found_states : FnScope ["table", "found", "seen", "at", "name", "goal"] ["table"] (defScope s_found_states) := ⟨rfl, rfl, rfl, by decide +kernel, rfl, by decide +kernel, by decide +kernel⟩
structure BtF (mg : Str → Option Value) : Prop where
  b_len : mg "len" = none
  b_range : mg "range" = none
  b_tuple : mg "tuple" = none
  b_set : mg "set" = none
theorem _root_.L2.FnOk.toR {P : Program} {w : World} {K : PySem.W.Frag} {mg : Str → Option Value} {base : Heap} {CX : CXT} {k : Nat} {f : Addr} {fd : FuncData} {ps : List Str} {sp : Sp} (F : FnOk P w K mg base CX k f fd ps sp) (hb : Binds K fd ps []) : FnR P w K mg base CX k f sp :=
  fun A outer s H us vs Q E hr e0 r h => by
    have KX : K.In s.heap := e0.mod.kin.keeps fun b o e => (e0.bs b o e).1
    have hl : us.length = ps.length := by rw [← r.length]; exact F.len _ _ _ _ h
    have z := hb s us KX (by rw [List.append_nil]; exact hl)
    rw [List.append_nil] at z
    exact F.run A outer s H ⟨us, []⟩ us vs Q E hr e0 z r h

/-- a state is noted where it is new -/
def noteS (rs : List (Str × PyData)) (s : Nat) (f : List Nat) (z : Str) : List Nat := if (cellOf rs z s).2.toNat ∈ f then f else f ++ [(cellOf rs z s).2.toNat]
def visitS (rs : List (Str × PyData)) (s : Nat) (zs : List Str) (f : List Nat) : List Nat := zs.foldl (noteS rs s) f
/-- the states found after i of them have been asked -/
def fnd (rs : List (Str × PyData)) (first : Nat) : Nat → List Nat
  | 0 => [first]
  | i + 1 => match (fnd rs first i)[i]? with
    | some s => visitS rs s (namesOf rs) (fnd rs first i)
    | none => fnd rs first i
def FndOk (m : Nat) (f : List Nat) : Prop := f.Nodup ∧ ∀ x ∈ f, x < m
theorem noneB {H H1 : Hp} {e : Addr} (k : Kp [] H H1) (n : H1 e = none) : H e = none := by
  cases h : H e with
  | none => rfl
  | some x => rw [k _ _ not0 h] at n; cases n
theorem noteS_ok {rs : List (Str × PyData)} {m s : Nat} {f : List Nat} {z : Str} (h : FndOk m f) (c : CellOk rs m) (hz : z ∈ namesOf rs) (hs : s < m) : FndOk m (noteS rs s f z) := by
  unfold noteS
  split
  · exact h
  · rename_i hn
    obtain ⟨_, _, c0, c1⟩ := c z hz s hs
    refine ⟨List.nodup_append.mpr ⟨h.1, by simp, fun x hx y hy e => hn (by rw [List.mem_singleton.mp hy] at e; rw [← e]; exact hx)⟩, fun x hx => ?_⟩
    rcases List.mem_append.mp hx with hx | hx
    · exact h.2 x hx
    · rw [List.mem_singleton.mp hx]; omega
theorem visitS_ok {rs : List (Str × PyData)} {m s : Nat} (c : CellOk rs m) (hs : s < m) : ∀ {zs : List Str} {f : List Nat}, (∀ z ∈ zs, z ∈ namesOf rs) → FndOk m f → FndOk m (visitS rs s zs f)
  | [], _, _, h => h
  | z :: zs, f, hz, h => visitS_ok (zs := zs) (f := noteS rs s f z) c hs (fun y hy => hz y (List.mem_cons_of_mem _ hy)) (noteS_ok h c (hz z List.mem_cons_self) hs)
theorem fnd_ok {rs : List (Str × PyData)} {m first : Nat} (c : CellOk rs m) (hf : first < m) : ∀ i, FndOk m (fnd rs first i)
  | 0 => ⟨by simp [fnd], fun x hx => by rw [List.mem_singleton.mp hx]; exact hf⟩
  | i + 1 => by
    have ih := fnd_ok c hf i
    unfold fnd
    split
    · rename_i s e
      exact visitS_ok c (ih.2 s (List.mem_of_getElem? e)) (fun z h => h) ih
    · exact ih
theorem nodup_lenP {α : Type} [DecidableEq α] : ∀ {l m : List α}, l.Nodup → (∀ x ∈ l, x ∈ m) → l.length ≤ m.length
  | [], _, _, _ => Nat.zero_le _
  | x :: l, m, h, s => by
    rw [List.nodup_cons] at h
    have hx := s x (by simp)
    have ih := nodup_lenP (l := l) (m := m.erase x) h.2 fun y hy => (List.mem_erase_of_ne (fun e => h.1 (by rw [← e]; exact hy))).mpr (s y (by simp [hy]))
    rw [List.length_erase_of_mem hx] at ih
    have : 0 < m.length := List.length_pos_of_mem hx
    rw [List.length_cons]; omega
theorem fndOk_len {m : Nat} {f : List Nat} (h : FndOk m f) : f.length ≤ m := by
  have := nodup_lenP h.1 (m := List.range m) fun x hx => List.mem_range.mpr (h.2 x hx)
  rwa [List.length_range] at this
theorem visitS_le {rs : List (Str × PyData)} {s : Nat} : ∀ {zs : List Str} {f : List Nat}, f.length ≤ (visitS rs s zs f).length
  | [], f => Nat.le_refl _
  | z :: zs, f => by
    refine Nat.le_trans ?_ (visitS_le (zs := zs) (f := noteS rs s f z))
    unfold noteS
    split
    · exact Nat.le_refl _
    · simp
theorem forLD {K : PySem.W.Frag} {te : TE} {g : TG} {tb : TS} {D : Ends} {σ : L2.St} {H : Hp} (Pa : Addr → Hp → Prop) (ht : ∀ R : VK, (∀ a H1, Pa a H1 → R (.ref a) H1) → te σ H R) (h : ∀ a H1, Pa a H1 → tFor (iList K (fun _ _ q => q (.ref a) H1)) g tb D σ H1) : tFor (iList K te) g tb D σ H :=
  ht _ fun a H1 p => h a H1 p
section
variable {P : Program} {w : World} {K : PySem.W.Frag} {mg : Str → Option Value} {base : Heap} {tL t1 t2 : Tok}
def spFound (TC : Addr) : Sp := fun vs H Q _ => ∃ (o : Addr) (m : Nat) (first : Int) (rs : List (Str × PyData)), vs = [.ref o] ∧ TabAt TC H o m first rs ∧ ∀ l i H', H l = none → i = (fnd rs first.toNat i).length → H' l = some (.lst ((fnd rs first.toNat i).map fun x => V.int (x : Nat))) → Kp [] H H' → Q (.ref l) H'
def keyI (x : Nat) : Key := Sum.inl (x : Int)
/-- the lists and the dict of what is found -/
def FdAt (H H' : Hp) (l sd : Addr) (f : List Nat) : Prop := H' l = some (.lst (f.map fun x => V.int (x : Nat))) ∧ (∃ kvs, H' sd = some (.dK kvs) ∧ kvs.map (·.1) = f.map keyI) ∧ Kp [] H H'
theorem visitS_get {rs : List (Str × PyData)} {s : Nat} : ∀ {zs : List Str} {f : List Nat} {i x : Nat}, f[i]? = some x → (visitS rs s zs f)[i]? = some x
  | [], _, _, _, h => h
  | z :: zs, f, i, x, h => visitS_get (zs := zs) (f := noteS rs s f z) (by
    unfold noteS
    split
    · exact h
    · rw [List.getElem?_append_left (List.getElem?_eq_some_iff.mp h).1]; exact h)
def WFd (rs : List (Str × PyData)) (f0 m : Nat) (o p sd : Addr) (H : Hp) (n : Nat) (σ : L2.St) (H' : Hp) : Prop := ∃ (i : Nat) (c4 c5 : Option V), σ = [some (.ref o), some (.ref p), some (.ref sd), some (.int (i : Nat)), c4, c5] ∧ FdAt H H' p sd (fnd rs f0 i) ∧ i ≤ (fnd rs f0 i).length ∧ n = m + 1 - i
theorem FdAt.kp {H H1 H2 : Hp} {l sd : Addr} {f : List Nat} (h : FdAt H H1 l sd f) (k : Kp [] H1 H2) : FdAt H H2 l sd f := by
  obtain ⟨a, ⟨kvs, b, c⟩, d⟩ := h
  exact ⟨k _ _ not0 a, ⟨kvs, k _ _ not0 b, c⟩, d.trans k⟩
theorem fnd_succ {rs : List (Str × PyData)} {f0 i s : Nat} (e : (fnd rs f0 i)[i]? = some s) : fnd rs f0 (i + 1) = visitS rs s (namesOf rs) (fnd rs f0 i) := by
  show (match (fnd rs f0 i)[i]? with | some s => visitS rs s (namesOf rs) (fnd rs f0 i) | none => fnd rs f0 i) = _
  rw [e]
theorem visitS_snoc {rs : List (Str × PyData)} {s j : Nat} {zs : List Str} {f : List Nat} {z : Str} (e : zs[j]? = some z) : visitS rs s (zs.take (j + 1)) f = noteS rs s (visitS rs s (zs.take j) f) z := by
  unfold visitS
  rw [take_snoc e, List.foldl_append]
  rfl
theorem ok_found_states {f : Addr} {fd : FuncData} (D : Df K mg "found_states" s_found_states ["table"] f fd) (T : BtF mg) {TC NO BN fN fC : Addr} {fdN fdC : FuncData} (C : TbC K mg TC)
    (ME_Table_names : Meth K TC "names" fN) (bM_Table_names : Binds K fdN ["self"] []) (G_Table_names : FnOk P w K mg base CX0 1 fN fdN ["self"] (spTN TC))
    (CO_Table : CallO K TC fC) (bC_Table : Binds K fdC ["self", "name", "state"] []) (G_Table_call0 : FnOk P w K mg base (L2.CX P w) 4 fC fdC ["self", "name", "state"] (spTCall TC NO BN)) : FnOk P w K mg base CX0 5 f fd ["table"] (spFound TC) := by
  refine D.F.ok sc_found_states (fun vs H Q E h => ?_) (fun cdv A outer s H vs Q E hr h => ?_)
  · obtain ⟨o, m, first, rs, rfl, _⟩ := h
    rfl
  · obtain ⟨o, m, first, rs, rfl, hT, q⟩ := h
    have hu := hu_of hr
    have G_Table_call := G_Table_call0.toR bC_Table
    refine ⟨_, (pss_cons (ps_set (i := 1) sc_found_states.nd rfl (Or.inl rfl) (pe_lst (pa_cons (pe_fld (pv 0) rfl) pa_nil)))
      (pss_cons (ps_set (i := 2) sc_found_states.nd rfl (Or.inl rfl) (pe_disp (pps_cons (pe_fld (pv 0) rfl) pe_bl pps_nil) rfl rfl (by simp) (by decide)))
      (pss_cons (ps_set (i := 3) sc_found_states.nd rfl (Or.inl rfl) pe_int)
      (pss_cons (ps_while PassesOwn.never (pt_cmpR op_lt (pv 3) (pe_callB (id := "len") (r := Evl.rLenS K) call_len_seq (by rfl) T.b_len PySem.boot_len (pa_cons (pv 1) pa_nil)) (nomark _)) (pss_cons (ps_for PassesOwn.never rfl (pi_list (pe_meth0 (pv 0) C.cl ME_Table_names G_Table_names (hr.mono (by decide)) bM_Table_names .nil pass0)) (pg_name (i := 4) sc_found_states.nd rfl (Or.inl rfl)) (pss_cons (ps_set (i := 5) sc_found_states.nd rfl (Or.inl rfl) (pe_ix (r := rIxT K) ix_tup (pe_callO (pv 0) CO_Table G_Table_call (hr.mono (by decide)) passL (pa_cons (pv 4) (pa_cons (pe_ix (r := rIxL K) ix_list (pv 1) (pv 3) (fun _ _ => rfl)) pa_nil))) pe_int (fun _ _ => rfl)))
      (pss_one (ps_if (pt_cmp (pc_dnotin hu (pv 5) (pv 2))) (pss_cons (ps_dput hu (pv 2) (pv 5) pe_bl rfl)
      (pss_one (ps_expr (pe_bm PySem.F.plainAttrs_list PySem.F.slot_list_append PySem.F.type_list_append mt_append (pv 1) (pa_cons (pv 5) pa_nil))))) pss_nil))))
      (pss_one (ps_aug (i := 3) sc_found_states.nd rfl (Or.inl rfl) pe_int ip_add))))
      (pss_one (ps_ret (pv 1))))))), ?_⟩
    try simp (maxSteps := 1000000) only [tSeq, tIfS, tTest, tOp, tUn, tCB, tCons, tNil, tVar, tC, rI0, rI, rU, rEq, rNe, tRet, tRetN, tAsg, gName, gSub, tBM, tBM0, tNext, tB, tNot, tAnd, tOr, tIf, tCall, tDrop, tBreak, tCont, L2.start, tDGet, sDPut, tTup, tLst, tDNewK, tRevL, rCat, rAppend, rPop, rSetL, tAndV, tOrV, tNotV, tSl, tPart, tNoPart, tM1, gTup, gCons, gNil, cxK, cxnK, List.map_cons, List.map_nil, List.length_cons, List.length_nil, List.replicate, List.cons_append, List.nil_append, List.append_nil, List.set_cons_zero, List.set_cons_succ, List.getElem?_cons_zero, List.getElem?_cons_succ, Option.some.injEq, V.ref.injEq, V.int.injEq, V.str.injEq, V.bl.injEq, V.ty.injEq, exists_eq_left', exists_eq_left, exists_and_left, List.cons.injEq, and_true, true_and, sc_ii, sc_ss, sc_bb, sc_ni, sc_in, sc_is, sc_si, sc_nn, decide_true, decide_false, reduceCtorEq, Bool.false_eq_true, if_true, if_false, ite_true, ite_false, exists_const, eq_self, false_and, and_false, or_false, false_or, exists_false, Evl.rLenS, rSum, wipe, tYes, exists_eq, exists_eq', rIxL, rIxT, rIxS, exists_and_right, gt_iff_lt, not_true_eq_false, not_false_eq_true, Bool.not_true, Bool.not_false, decide_eq_true_eq, Nat.reduceSub, Nat.reduceAdd, List.append_assoc, tChain, tDIn, tDNotIn, sDDel, tAug, ipI, tFld]
    obtain ⟨dx, dd, ho⟩ := hT.head
    have bT := hT.bnd
    have cT := hT.cells
    obtain ⟨f0, hf0⟩ : ∃ n : Nat, first = (n : Nat) := ⟨first.toNat, by have := bT.2.2.2.2.2.1; omega⟩
    subst hf0
    have fm : f0 < m := by have := bT.2.2.2.2.2.2.1; omega
    rw [show (((f0 : Nat) : Int)).toNat = f0 from Int.toNat_natCast f0] at q
    refine ⟨TC, dx, _, ho, C.cl, C.n2, _, rfl, by decide, fun p np => ?_⟩
    have k1 : Kp [] H (upd H p (.lst [.int (f0 : Nat)])) := Kp.new np
    try simp (maxSteps := 1000000) only [tSeq, tIfS, tTest, tOp, tUn, tCB, tCons, tNil, tVar, tC, rI0, rI, rU, rEq, rNe, tRet, tRetN, tAsg, gName, gSub, tBM, tBM0, tNext, tB, tNot, tAnd, tOr, tIf, tCall, tDrop, tBreak, tCont, L2.start, tDGet, sDPut, tTup, tLst, tDNewK, tRevL, rCat, rAppend, rPop, rSetL, tAndV, tOrV, tNotV, tSl, tPart, tNoPart, tM1, gTup, gCons, gNil, cxK, cxnK, List.map_cons, List.map_nil, List.length_cons, List.length_nil, List.replicate, List.cons_append, List.nil_append, List.append_nil, List.set_cons_zero, List.set_cons_succ, List.getElem?_cons_zero, List.getElem?_cons_succ, Option.some.injEq, V.ref.injEq, V.int.injEq, V.str.injEq, V.bl.injEq, V.ty.injEq, exists_eq_left', exists_eq_left, exists_and_left, List.cons.injEq, and_true, true_and, sc_ii, sc_ss, sc_bb, sc_ni, sc_in, sc_is, sc_si, sc_nn, decide_true, decide_false, reduceCtorEq, Bool.false_eq_true, if_true, if_false, ite_true, ite_false, exists_const, eq_self, false_and, and_false, or_false, false_or, exists_false, Evl.rLenS, rSum, wipe, tYes, exists_eq, exists_eq', rIxL, rIxT, rIxS, exists_and_right, gt_iff_lt, not_true_eq_false, not_false_eq_true, Bool.not_true, Bool.not_false, decide_eq_true_eq, Nat.reduceSub, Nat.reduceAdd, List.append_assoc, tChain, tDIn, tDNotIn, sDDel, tAug, ipI, tDisp, tPairs, tFld]
    intro sd nsd
    have k2 : Kp [] (upd H p (.lst [.int (f0 : Nat)])) (upd (upd H p (.lst [.int (f0 : Nat)])) sd (.dK [])) := Kp.new nsd
    refine ⟨TC, dx, _, k2 _ _ not0 (k1 _ _ not0 ho), C.cl, C.n2, _, rfl, upd_same, [(keyI f0, .bl true)], rfl, by simp, ?_⟩
    have psd : p ≠ sd := fun z => by rw [z, upd_same] at nsd; cases nsd
    have nsd0 : H sd = none := noneB k1 nsd
    have h0 : FdAt H (upd (upd (upd H p (.lst [.int (f0 : Nat)])) sd (.dK [])) sd (.dK (mergeK [] [(keyI f0, .bl true)]))) p sd (fnd rs f0 0) := by
      refine ⟨by rw [upd_ne psd, upd_ne psd, upd_same]; rfl, ⟨_, upd_same, rfl⟩, (k1.trans k2).wr nsd0⟩
    generalize upd (upd (upd H p (.lst [.int (f0 : Nat)])) sd (.dK [])) sd (.dK (mergeK [] [(keyI f0, .bl true)])) = H1 at h0
    refine ⟨WFd rs f0 m o p sd H, ⟨_, 0, none, none, rfl, h0, Nat.zero_le _, rfl⟩, ?_⟩
    rintro n σ H2 ⟨i, c4, c5, rfl, hF, il, rfl⟩
    obtain ⟨hl, ⟨kvs, hsd, hk⟩, k02⟩ := id hF
    have fo := fnd_ok cT fm i
    have flen := fndOk_len fo
    try simp (maxSteps := 1000000) only [tSeq, tIfS, tTest, tOp, tUn, tCB, tCons, tNil, tVar, tC, rI0, rI, rU, rEq, rNe, tRet, tRetN, tAsg, gName, gSub, tBM, tBM0, tNext, tB, tNot, tAnd, tOr, tIf, tCall, tDrop, tBreak, tCont, L2.start, tDGet, sDPut, tTup, tLst, tDNewK, tRevL, rCat, rAppend, rPop, rSetL, tAndV, tOrV, tNotV, tSl, tPart, tNoPart, tM1, gTup, gCons, gNil, cxK, cxnK, List.map_cons, List.map_nil, List.length_cons, List.length_nil, List.replicate, List.cons_append, List.nil_append, List.append_nil, List.set_cons_zero, List.set_cons_succ, List.getElem?_cons_zero, List.getElem?_cons_succ, Option.some.injEq, V.ref.injEq, V.int.injEq, V.str.injEq, V.bl.injEq, V.ty.injEq, exists_eq_left', exists_eq_left, exists_and_left, List.cons.injEq, and_true, true_and, sc_ii, sc_ss, sc_bb, sc_ni, sc_in, sc_is, sc_si, sc_nn, decide_true, decide_false, reduceCtorEq, Bool.false_eq_true, if_true, if_false, ite_true, ite_false, exists_const, eq_self, false_and, and_false, or_false, false_or, exists_false, Evl.rLenS, rSum, wipe, tYes, exists_eq, exists_eq', rIxL, rIxT, rIxS, exists_and_right, gt_iff_lt, not_true_eq_false, not_false_eq_true, Bool.not_true, Bool.not_false, decide_eq_true_eq, Nat.reduceSub, Nat.reduceAdd, List.append_assoc, tChain, tDIn, tDNotIn, sDDel, tAug, ipI]
    refine ⟨_, .inl (sq_l hl), ?_⟩
    rw [List.length_map]
    by_cases e : i < (fnd rs f0 i).length
    · rw [if_pos (show (i : Int) < ((fnd rs f0 i).length : Nat) by omega)]
      refine ⟨fun σ' H' => ∃ m', m' < m + 1 - i ∧ WFd rs f0 m o p sd H m' σ' H', fun _ _ h => h, ?_⟩
      have es : (fnd rs f0 i)[i]? = some (fnd rs f0 i)[i] := List.getElem?_eq_getElem e
      generalize (fnd rs f0 i)[i] = s' at es
      have sm : s' < m := fo.2 s' (List.mem_of_getElem? es)
      refine forLD (fun nn H' => H' nn = some (.lst ((namesOf rs).map V.str)) ∧ Kp [] H2 H' ∧ H2 nn = none) (fun R hR => ?_) fun nn H3 ⟨hnn, k23, nnn⟩ => ?_
      · try simp (maxSteps := 1000000) only [tSeq, tIfS, tTest, tOp, tUn, tCB, tCons, tNil, tVar, tC, rI0, rI, rU, rEq, rNe, tRet, tRetN, tAsg, gName, gSub, tBM, tBM0, tNext, tB, tNot, tAnd, tOr, tIf, tCall, tDrop, tBreak, tCont, L2.start, tDGet, sDPut, tTup, tLst, tDNewK, tRevL, rCat, rAppend, rPop, rSetL, tAndV, tOrV, tNotV, tSl, tPart, tNoPart, tM1, gTup, gCons, gNil, cxK, cxnK, List.map_cons, List.map_nil, List.length_cons, List.length_nil, List.replicate, List.cons_append, List.nil_append, List.append_nil, List.set_cons_zero, List.set_cons_succ, List.getElem?_cons_zero, List.getElem?_cons_succ, Option.some.injEq, V.ref.injEq, V.int.injEq, V.str.injEq, V.bl.injEq, V.ty.injEq, exists_eq_left', exists_eq_left, exists_and_left, List.cons.injEq, and_true, true_and, sc_ii, sc_ss, sc_bb, sc_ni, sc_in, sc_is, sc_si, sc_nn, decide_true, decide_false, reduceCtorEq, Bool.false_eq_true, if_true, if_false, ite_true, ite_false, exists_const, eq_self, false_and, and_false, or_false, false_or, exists_false, Evl.rLenS, rSum, wipe, tYes, exists_eq, exists_eq', rIxL, rIxT, rIxS, exists_and_right, gt_iff_lt, not_true_eq_false, not_false_eq_true, Bool.not_true, Bool.not_false, decide_eq_true_eq, Nat.reduceSub, Nat.reduceAdd, List.append_assoc, tChain, tDIn, tDNotIn, sDDel, tAug, ipI, tMeth]
        exact ⟨dx, _, k02 _ _ not0 ho, rfl, o, m, (f0 : Nat), rs, rfl, hT.kp k02, fun l H' nl hl' k => hR l H' ⟨hl', k, nl⟩⟩
      have nnp : nn ≠ p := fun z => by rw [z, hl] at nnn; cases nnn
      have nns : nn ≠ sd := fun z => by rw [z, hsd] at nnn; cases nnn
      refine ⟨nn, rfl, ⟨_, sq_l hnn⟩, for_list (K := K) (a := nn) (xs := (namesOf rs).map V.str) (fun j σ H' => (∃ c4 c5 : Option V, σ = [some (.ref o), some (.ref p), some (.ref sd), some (.int (i : Nat)), c4, c5]) ∧ FdAt H H' p sd (visitS rs s' ((namesOf rs).take j) (fnd rs f0 i)) ∧ H' nn = some (.lst ((namesOf rs).map V.str))) ⟨⟨_, _, rfl⟩, hF.kp k23, hnn⟩ (fun j σ H' _ h => sq_l h.2.2) ?_ ?_⟩
      · rintro j x σ H4 hx ⟨⟨c4, c5, rfl⟩, hF4, hn4⟩
        obtain ⟨z, ez, rfl⟩ : ∃ z, (namesOf rs)[j]? = some z ∧ V.str z = x := by
          rw [List.getElem?_map] at hx
          cases e : (namesOf rs)[j]? with
          | none => rw [e] at hx; cases hx
          | some z => rw [e] at hx; exact ⟨z, rfl, Option.some.inj hx⟩
        have hz : z ∈ namesOf rs := List.mem_of_getElem? ez
        have fv : FndOk m (visitS rs s' ((namesOf rs).take j) (fnd rs f0 i)) := visitS_ok cT sm (fun y hy => List.mem_of_mem_take hy) fo
        try simp (maxSteps := 1000000) only [tSeq, tIfS, tTest, tOp, tUn, tCB, tCons, tNil, tVar, tC, rI0, rI, rU, rEq, rNe, tRet, tRetN, tAsg, gName, gSub, tBM, tBM0, tNext, tB, tNot, tAnd, tOr, tIf, tCall, tDrop, tBreak, tCont, L2.start, tDGet, sDPut, tTup, tLst, tDNewK, tRevL, rCat, rAppend, rPop, rSetL, tAndV, tOrV, tNotV, tSl, tPart, tNoPart, tM1, gTup, gCons, gNil, cxK, cxnK, List.map_cons, List.map_nil, List.length_cons, List.length_nil, List.replicate, List.cons_append, List.nil_append, List.append_nil, List.set_cons_zero, List.set_cons_succ, List.getElem?_cons_zero, List.getElem?_cons_succ, Option.some.injEq, V.ref.injEq, V.int.injEq, V.str.injEq, V.bl.injEq, V.ty.injEq, exists_eq_left', exists_eq_left, exists_and_left, List.cons.injEq, and_true, true_and, sc_ii, sc_ss, sc_bb, sc_ni, sc_in, sc_is, sc_si, sc_nn, decide_true, decide_false, reduceCtorEq, Bool.false_eq_true, if_true, if_false, ite_true, ite_false, exists_const, eq_self, false_and, and_false, or_false, false_or, exists_false, Evl.rLenS, rSum, wipe, tYes, exists_eq, exists_eq', rIxL, rIxT, rIxS, exists_and_right, gt_iff_lt, not_true_eq_false, not_false_eq_true, Bool.not_true, Bool.not_false, decide_eq_true_eq, Nat.reduceSub, Nat.reduceAdd, List.append_assoc, tChain, tDIn, tDNotIn, sDDel, tAug, ipI, tCallO]
        obtain ⟨hl4, ⟨kv4, hs4, hk4⟩, k04⟩ := id hF4
        have hasT : hasD rs (.str z) = true := by
          show (nameS z && decide (z ∈ rs.map (·.1))) = true
          rw [bT.2.2.1 z hz, decide_eq_true (show z ∈ rs.map (·.1) from hz)]; rfl
        have szz : szD (.str z) = true := decide_eq_true (name8 (bT.2.2.1 z hz))
        refine ⟨_, sq_l hl4, .int (s' : Nat), atI_nat (by rw [List.getElem?_map, visitS_get es]; rfl), .inr ⟨dx, _, k04 _ _ not0 ho⟩, o, .str z, .int (s' : Nat), .str z, .int (s' : Nat), m, (f0 : Nat), rs, rfl, hT.kp k04, .str z, szz, .int _, fun z' s2 ez' es' hh i0 i1 qa H5 hqa k5 => ?_, fun hh => by (rw [hasT] at hh; cases hh), fun hh hb => ?_⟩
        · cases ez'
          cases es'
          obtain ⟨_, _, g0, g1⟩ := cT z hz s' sm
          have eg : (cellOf rs z (s' : Nat)).2 = ((cellOf rs z (s' : Nat)).2.toNat : Nat) := by omega
          have hv : visitS rs s' ((namesOf rs).take (j + 1)) (fnd rs f0 i) = noteS rs s' (visitS rs s' ((namesOf rs).take j) (fnd rs f0 i)) z := visitS_snoc ez
          rw [hv]
          unfold noteS
          rw [eg] at hqa
          generalize (cellOf rs z (s' : Nat)).2.toNat = g at hqa ⊢
          have hs5 := k5 _ _ not0 hs4
          refine ⟨qa, rfl, _, sq_t hqa, .int (g : Nat), rfl, _, DGet.k (k := keyI g) hs5, ?_⟩
          by_cases hm : g ∈ visitS rs s' ((namesOf rs).take j) (fnd rs f0 i)
          · have vs : valV kv4 (keyI g) ≠ none := fun e => valV_not e (by rw [hk4]; exact List.mem_map_of_mem hm)
            rw [show (valV kv4 (keyI g)).isSome = true from Option.isSome_iff_ne_none.mpr vs, if_neg (by decide), if_pos hm]
            exact ⟨hF4.kp k5, k5 _ _ not0 hn4⟩
          · have vn : valV kv4 (keyI g) = none := valV_fresh (by
              rw [hk4]
              intro zz
              obtain ⟨y, hy, e⟩ := List.mem_map.mp zz
              have e : (Sum.inl ((y : Nat) : Int) : Key) = Sum.inl ((g : Nat) : Int) := e
              injection e with e
              exact hm (by rw [show g = y by omega]; exact hy))
            rw [vn, if_pos (by decide), if_neg hm]
            have klen : kv4.length ≤ m := by
              have := congrArg List.length hk4
              rw [List.length_map, List.length_map] at this
              have := fndOk_len fv
              omega
            refine ⟨_, DPut.k (k := keyI g) hs5 (smallL (by have := bT.2.2.2.2.1; omega)), ?_⟩
            rw [putK_new _ vn]
            have hl6 : (upd H5 sd (.dK (kv4 ++ [(keyI g, .bl true)]))) p = some (.lst ((visitS rs s' ((namesOf rs).take j) (fnd rs f0 i)).map fun x => V.int (x : Nat))) := by rw [upd_ne psd]; exact k5 _ _ not0 hl4
            refine ⟨.inl ⟨rfl, _, sq_l hl6⟩, _, hl6, smallL (by rw [List.length_map]; have := fndOk_len fv; have := bT.2.2.2.2.1; omega), ⟨by rw [upd_same, List.map_append]; rfl, ⟨_, by rw [upd_ne (Ne.symm psd), upd_same], by rw [List.map_append, List.map_append, hk4]; rfl⟩, ((k04.trans k5).wr nsd0).wr np⟩, by rw [upd_ne nnp, upd_ne nns]; exact k5 _ _ not0 hn4⟩
        · have : (decide (0 ≤ ((s' : Nat) : Int)) && decide (((s' : Nat) : Int) < (m : Nat))) = false := hb
          rw [decide_eq_true (show (0 : Int) ≤ (s' : Nat) by omega), decide_eq_true (show ((s' : Nat) : Int) < (m : Nat) by omega)] at this
          cases this
      · rintro σ H4 ⟨⟨c4, c5, rfl⟩, hF4, _⟩
        rw [List.length_map, List.take_length, ← fnd_succ es] at hF4
        try simp (maxSteps := 1000000) only [tSeq, tIfS, tTest, tOp, tUn, tCB, tCons, tNil, tVar, tC, rI0, rI, rU, rEq, rNe, tRet, tRetN, tAsg, gName, gSub, tBM, tBM0, tNext, tB, tNot, tAnd, tOr, tIf, tCall, tDrop, tBreak, tCont, L2.start, tDGet, sDPut, tTup, tLst, tDNewK, tRevL, rCat, rAppend, rPop, rSetL, tAndV, tOrV, tNotV, tSl, tPart, tNoPart, tM1, gTup, gCons, gNil, cxK, cxnK, List.map_cons, List.map_nil, List.length_cons, List.length_nil, List.replicate, List.cons_append, List.nil_append, List.append_nil, List.set_cons_zero, List.set_cons_succ, List.getElem?_cons_zero, List.getElem?_cons_succ, Option.some.injEq, V.ref.injEq, V.int.injEq, V.str.injEq, V.bl.injEq, V.ty.injEq, exists_eq_left', exists_eq_left, exists_and_left, List.cons.injEq, and_true, true_and, sc_ii, sc_ss, sc_bb, sc_ni, sc_in, sc_is, sc_si, sc_nn, decide_true, decide_false, reduceCtorEq, Bool.false_eq_true, if_true, if_false, ite_true, ite_false, exists_const, eq_self, false_and, and_false, or_false, false_or, exists_false, Evl.rLenS, rSum, wipe, tYes, exists_eq, exists_eq', rIxL, rIxT, rIxS, exists_and_right, gt_iff_lt, not_true_eq_false, not_false_eq_true, Bool.not_true, Bool.not_false, decide_eq_true_eq, Nat.reduceSub, Nat.reduceAdd, List.append_assoc, tChain, tDIn, tDNotIn, sDDel, tAug, ipI]
        refine ⟨m + 1 - (i + 1), by omega, i + 1, c4, c5, rfl, hF4, ?_, rfl⟩
        rw [fnd_succ es]
        exact Nat.le_trans e visitS_le
    · rw [if_neg (show ¬ (i : Int) < ((fnd rs f0 i).length : Nat) by omega)]
      exact q p i H2 np (by omega) hl k02
end
end My

set_option Elab.async false
set_option linter.all false
set_option maxRecDepth 100000
set_option maxHeartbeats 4000000
namespace My
open PySem L2 NdefX StX
abbrev s_finer : Stmt := top 23
theorem sc_finer : FnScope ["table", "classes", "numbers", "found", "state", "pairs", "name", "told", "answer", "goal"] ["table", "classes"] (defScope s_finer) := ⟨rfl, rfl, rfl, by decide +kernel, rfl, by decide +kernel, by decide +kernel⟩
/-- what is told of a state: its class, and for each name the answer and the class behind -/
def keyS (rs : List (Str × PyData)) (cs : List Nat) (s : Nat) : NestedKey := .tup [.num ((cs.getD s 0 : Nat) : Int), .tup ((namesOf rs).map fun z => .tup [.num (cellOf rs z s).1, .num ((cs.getD (cellOf rs z s).2.toNat 0 : Nat) : Int)])]
/-- the first ones, in their order -/
def ddK (ks : List NestedKey) : List NestedKey := ks.foldl (fun acc k => if k ∈ acc then acc else acc ++ [k]) []
def finS (rs : List (Str × PyData)) (cs : List Nat) (m : Nat) : List Nat := ((List.range m).map (keyS rs cs)).map fun k => (ddK ((List.range m).map (keyS rs cs))).idxOf k
theorem snocInd {α : Type} {p : List α → Prop} (h0 : p []) (h1 : ∀ l x, p l → p (l ++ [x])) (l : List α) : p l := by
  have h : ∀ l : List α, p l.reverse := fun l => by
    induction l with
    | nil => exact h0
    | cons x r ih => rw [List.reverse_cons]; exact h1 _ _ ih
  rw [← List.reverse_reverse l]
  exact h _
theorem ddK_snoc (ks : List NestedKey) (k : NestedKey) : ddK (ks ++ [k]) = if k ∈ ddK ks then ddK ks else ddK ks ++ [k] := by
  unfold ddK
  rw [List.foldl_append]
  rfl
theorem ddK_mem : ∀ {ks : List NestedKey} {k : NestedKey}, k ∈ ddK ks ↔ k ∈ ks := by
  intro ks
  refine snocInd (p := fun ks => ∀ {k : NestedKey}, k ∈ ddK ks ↔ k ∈ ks) (fun {k} => Iff.rfl) (fun ks x ih => ?_) ks
  · intro k
    rw [ddK_snoc]
    split
    · rename_i h
      rw [ih, List.mem_append, List.mem_singleton]
      exact ⟨Or.inl, fun z => z.elim id fun e => by rw [e]; exact ih.mp h⟩
    · rw [List.mem_append, List.mem_append, ih]
theorem ddK_pre : ∀ {ks more : List NestedKey}, ddK ks <+: ddK (ks ++ more) := by
  intro ks more
  refine snocInd (p := fun more => ddK ks <+: ddK (ks ++ more)) (by rw [List.append_nil]; exact List.prefix_refl _) (fun l x ih => ?_) more
  · rw [← List.append_assoc, ddK_snoc]
    split
    · exact ih
    · exact ih.trans (List.prefix_append _ _)
theorem ddK_len {ks : List NestedKey} : (ddK ks).length ≤ ks.length := by
  refine snocInd (p := fun ks => (ddK ks).length ≤ ks.length) (Nat.le_refl _) (fun l x ih => ?_) ks
  · rw [ddK_snoc, List.length_append, List.length_singleton]
    split
    · omega
    · rw [List.length_append, List.length_singleton]; omega
theorem idx_pre {l l' : List NestedKey} {k : NestedKey} (h : l <+: l') (hk : k ∈ l) : l'.idxOf k = l.idxOf k := by
  obtain ⟨t, rfl⟩ := h
  rw [List.idxOf_append, if_pos hk]
/-- the dict of numbers, behind some states -/
def numsN (l : List NestedKey) : List (NestedKey × V) := l.mapIdx fun i k => (k, V.int (i : Nat))
theorem numsN_none {l : List NestedKey} {k : NestedKey} (hk : k ∉ l) : valN (numsN l) k = none := by
  unfold valN numsN
  rw [Option.map_eq_none_iff, List.find?_eq_none]
  intro p hp
  obtain ⟨i, hi, e⟩ := List.mem_mapIdx.mp hp
  rw [← e]
  simp
  intro z
  exact hk (by rw [← z]; exact List.getElem_mem _)
theorem numsN_val {l : List NestedKey} {k : NestedKey} (hk : k ∈ l) : valN (numsN l) k = some (.int (l.idxOf k : Nat)) := by
  revert hk
  refine snocInd (p := fun l => k ∈ l → valN (numsN l) k = some (.int (l.idxOf k : Nat))) (fun h => nomatch h) (fun l x ih => ?_) l
  intro hk
  have e : numsN (l ++ [x]) = numsN l ++ [(x, .int (l.length : Nat))] := by unfold numsN; simp
  rw [e]
  unfold valN at ih ⊢
  rw [List.find?_append]
  by_cases h : k ∈ l
  · have q := ih h
    cases f : (numsN l).find? (fun p => decide (p.1 = k)) with
    | none => rw [f] at q; cases q
    | some v =>
      rw [f] at q
      rw [List.idxOf_append, if_pos h]
      exact q
  · have hx : k = x := by
      rcases List.mem_append.mp hk with z | z
      · exact absurd z h
      · exact List.mem_singleton.mp z
    subst hx
    have n := numsN_none h
    unfold valN at n
    rw [Option.map_eq_none_iff.mp n, List.idxOf_append, if_neg h]
    simp
theorem numsN_put {l : List NestedKey} {k : NestedKey} (hk : k ∉ l) : putN (numsN l) k (.int (l.length : Nat)) = numsN (l ++ [k]) := by
  unfold putN
  rw [numsN_none hk]
  unfold numsN
  simp
theorem numsN_len {l : List NestedKey} : (numsN l).length = l.length := by simp [numsN]
theorem depth_pairs {α : Type} {a b : α → Int} : ∀ {l : List α}, NestedKey.depthAll (l.map fun z => .tup [.num (a z), .num (b z)]) ≤ 1
  | [] => Nat.zero_le _
  | z :: l => by
    have := depth_pairs (a := a) (b := b) (l := l)
    rw [List.map_cons]
    simp only [NestedKey.depthAll, NestedKey.depth]
    omega
theorem keyS_depth {rs : List (Str × PyData)} {cs : List Nat} {s : Nat} : (keyS rs cs s).depth ≤ 8 := by
  have := depth_pairs (a := fun z => (cellOf rs z s).1) (b := fun z => ((cs.getD (cellOf rs z s).2.toNat 0 : Nat) : Int)) (l := namesOf rs)
  unfold keyS
  simp only [NestedKey.depthAll, NestedKey.depth]
  omega
end My

set_option Elab.async false
set_option linter.all false
set_option maxRecDepth 100000
set_option maxHeartbeats 4000000
namespace My
open PySem L2 NdefX StX
theorem forRg {ta : TA} {g : TG} {tb : TS} {D : Ends} {σ : L2.St} {H : Hp} (m : Nat) (Pv : Nat → L2.St → Hp → Prop) (ht : ∀ R : List V → Hp → Prop, R [.int (m : Nat)] H → ta σ H R) (h1 : -(2 ^ 62) ≤ (m : Int)) (h2 : (m : Int) < 2 ^ 62) (h0 : Pv 0 σ H)
    (step : ∀ j σ H, j < m → Pv j σ H → g (.int (j : Nat)) σ H fun σ2 H2 => tb { D with nx := Pv (j + 1), ct := Pv (j + 1), bk := D.nx } σ2 H2) (fin : ∀ σ H, Pv m σ H → D.nx σ H) : tFor (iRng1 ta) g tb D σ H :=
  ht _ ⟨m, rfl, h1, h2, for_range Pv h0 (fun i σ' H' hi p => by rw [Int.zero_add]; exact step i σ' H' (by omega) p) (by rw [Int.toNat_natCast]; exact fin)⟩
theorem lcL {K : PySem.W.Frag} {te : TE} {g : TG} {tt : TT} {tb : TE} {vs : List Nat} {σ : L2.St} {H : Hp} {Q : VK} (Pa : Addr → Hp → Prop) (ht : ∀ R : VK, (∀ a H1, Pa a H1 → R (.ref a) H1) → te σ H R) (h : ∀ a H1, Pa a H1 → tLc (iList K (fun _ _ q => q (.ref a) H1)) g tt tb vs σ H1 Q) : tLc (iList K te) g tt tb vs σ H Q :=
  ht _ fun a H1 p => h a H1 p
theorem dn_kp {P : Program} {w : World} {H H' : Hp} {d : Addr} {kvs : List (NestedKey × V)} (h : DnAt P w H d kvs) (k : Kp [] H H') : DnAt P w H' d kvs := by
  rcases h with ⟨a, b⟩ | ⟨xs, a, b, c⟩
  · exact .inl ⟨k _ _ not0 a, b⟩
  · exact .inr ⟨xs, k _ _ not0 a, b, fun x hx => ⟨(c x hx).1.tp fun b ys e => k _ _ not0 e, (c x hx).2⟩⟩
theorem map_getD {α : Type} {l : List Str} {g : Str → α} : l.map g = (List.range l.length).map fun i => g (l.getD i "") := by
  refine List.ext_getElem? fun i => ?_
  rw [List.getElem?_map, List.getElem?_map]
  by_cases h : i < l.length
  · rw [List.getElem?_eq_getElem h, List.getElem?_range h]
    show some (g l[i]) = some (g (l.getD i ""))
    rw [List.getD_eq_getElem?_getD, List.getElem?_eq_getElem h]
    rfl
  · rw [List.getElem?_eq_none (by omega), List.getElem?_eq_none (by rw [List.length_range]; omega)]
    rfl
theorem nkAll_app {H : Hp} : ∀ {vs us : List V} {ks js : List NestedKey}, NkAll H vs ks → NkAll H us js → NkAll H (vs ++ us) (ks ++ js)
  | _, _, _, _, .nil, h => h
  | _, _, _, _, .cons a t, h => .cons a (nkAll_app t h)
theorem nk_cells {f : Nat → Int × Int} {H : Hp} : ∀ {k : Nat} {xs : List V}, Cells f xs k H → NkAll H xs ((List.range k).map fun i => .tup [.num (f i).1, .num (f i).2])
  | 0, xs, h => by
    have : xs = [] := List.eq_nil_of_length_eq_zero h.1
    rw [this]; exact .nil
  | k + 1, xs, h => by
    obtain ⟨p, e, hp⟩ := h.2 k (Nat.lt_succ_self k)
    have hx : xs = xs.take k ++ [.ref p] := by
      have := take_snoc e
      rw [← this, List.take_of_length_le (by rw [h.1]; exact Nat.le_refl _)]
    rw [hx, List.range_succ, List.map_append]
    refine nkAll_app (nk_cells (k := k) ⟨by rw [List.length_take, h.1]; omega, fun i hi => ?_⟩) (.cons (.tup hp (.cons (.int _) (.cons (.int _) .nil))) .nil)
    obtain ⟨q, eq, hq⟩ := h.2 i (by omega)
    exact ⟨q, by rw [List.getElem?_take_of_lt hi]; exact eq, hq⟩
section
variable {P : Program} {w : World} {K : PySem.W.Frag} {mg : Str → Option Value} {base : Heap} {tL t1 t2 : Tok}
def spFiner (TC : Addr) : Sp := fun vs H Q _ => ∃ (o cl : Addr) (m : Nat) (first : Int) (rs : List (Str × PyData)) (cs : List Nat), vs = [.ref o, .ref cl] ∧ TabAt TC H o m first rs ∧ H cl = some (.lst (cs.map fun x => V.int (x : Nat))) ∧ cs.length = m ∧ ∀ l H', H l = none → H' l = some (.lst ((finS rs cs m).map fun x => V.int (x : Nat))) → Kp [] H H' → Q (.ref l) H'
theorem csAt {cs : List Nat} {g : Nat} (h : g < cs.length) : (cs.map fun x => V.int (x : Nat))[g]? = some (V.int (cs.getD g 0 : Nat)) := by
  rw [List.getElem?_map, List.getD_eq_getElem?_getD, List.getElem?_eq_getElem h]
  rfl
theorem dn_wr {P : Program} {w : World} {H : Hp} {d l : Addr} {us ws : List V} {kvs : List (NestedKey × V)} (h : DnAt P w H d kvs) (hl : H l = some (.lst us)) (ne : d ≠ l) : DnAt P w (upd H l (.lst ws)) d kvs := by
  rcases h with ⟨a, b⟩ | ⟨xs, a, b, c⟩
  · exact .inl ⟨by rw [upd_ne ne]; exact a, b⟩
  · refine .inr ⟨xs, by rw [upd_ne ne]; exact a, b, fun x hx => ⟨(c x hx).1.tp fun b ys e => ?_, (c x hx).2⟩⟩
    rw [upd_ne (fun z => by rw [z, hl] at e; cases e)]
    exact e
theorem ddK_succ {rs : List (Str × PyData)} {cs : List Nat} {j : Nat} : ddK ((List.range (j + 1)).map (keyS rs cs)) = if keyS rs cs j ∈ ddK ((List.range j).map (keyS rs cs)) then ddK ((List.range j).map (keyS rs cs)) else ddK ((List.range j).map (keyS rs cs)) ++ [keyS rs cs j] := by
  rw [List.range_succ, List.map_append]
  exact ddK_snoc _ _
/-- ahead of the j-th state -/
def FiAt (P : Program) (w : World) (rs : List (Str × PyData)) (cs : List Nat) (H : Hp) (nd fl : Addr) (j : Nat) (H' : Hp) : Prop := DnAt P w H' nd (numsN (ddK ((List.range j).map (keyS rs cs)))) ∧ H' fl = some (.lst ((finS rs cs j).map fun x => V.int (x : Nat))) ∧ Kp [] H H'
theorem finS_succ {rs : List (Str × PyData)} {cs : List Nat} {j : Nat} : finS rs cs (j + 1) = finS rs cs j ++ [(ddK ((List.range (j + 1)).map (keyS rs cs))).idxOf (keyS rs cs j)] := by
  unfold finS
  rw [List.range_succ, List.map_append, List.map_append]
  congr 1
  refine List.map_congr_left fun k hk => ?_
  exact idx_pre ddK_pre (ddK_mem.mpr hk)
theorem ok_finer {f : Addr} {fd : FuncData} (D : Df K mg "finer" s_finer ["table", "classes"] f fd) (T : BtF mg) {TC NO BN fN fC : Addr} {fdN fdC : FuncData} (C : TbC K mg TC)
    (ME_Table_names : Meth K TC "names" fN) (bM_Table_names : Binds K fdN ["self"] []) (G_Table_names : FnOk P w K mg base CX0 1 fN fdN ["self"] (spTN TC))
    (CO_Table : CallO K TC fC) (bC_Table : Binds K fdC ["self", "name", "state"] []) (G_Table_call0 : FnOk P w K mg base (L2.CX P w) 4 fC fdC ["self", "name", "state"] (spTCall TC NO BN)) : FnOk P w K mg base CX0 5 f fd ["table", "classes"] (spFiner TC) := by
  refine D.F.ok sc_finer (fun vs H Q E h => ?_) (fun cdv A outer s H vs Q E hr h => ?_)
  · obtain ⟨_, _, _, _, _, _, rfl, _⟩ := h
    rfl
  · obtain ⟨o, cl, m, first, rs, cs, rfl, hT, hcl, hcm, q⟩ := h
    have hu := hu_of hr
    have G_Table_call := G_Table_call0.toR bC_Table
    refine ⟨_, (pss_cons (ps_set (i := 2) sc_finer.nd rfl (Or.inl rfl) pe_dnewK)
      (pss_cons (ps_set (i := 3) sc_finer.nd rfl (Or.inl rfl) (pe_lst pa_nil))
      (pss_cons (ps_for PassesOwn.never rfl (pi_range1 rfl T.b_range (pa_cons (pe_fld (pv 0) rfl) pa_nil)) (pg_name (i := 4) sc_finer.nd rfl (Or.inr rfl)) (pss_cons (ps_setLc (i := 5) (own := [("name", 6)]) (g := (gName 6)) (tt := tYes) rfl sc_finer.nd rfl rfl (sw_true rfl rfl rfl (by decide +kernel)) (pi_list (pe_meth0 (pv 0) C.cl ME_Table_names G_Table_names (hr.mono (by decide)) bM_Table_names .nil pass0)) (blkOk_by (N := ["table", "classes", "numbers", "found", "state", "pairs", "name", "told", "answer", "goal"]) (sc := defScope s_finer) (by decide +kernel)) (fun _ _ _ _ _ => (pg_name (i := 6) sc_finer.nd rfl (Or.inl rfl))) (fun _ _ _ _ _ => pts_nil) (fun _ _ _ _ _ => (pe_callOI (pv 0) CO_Table G_Table_call (hr.mono (by decide)) passL (pa_cons (pv 6) (pa_cons (pv 4) pa_nil)))))
      (pss_cons (ps_set (i := 7) sc_finer.nd rfl (Or.inl rfl) (pe_tup (pa_cons (pe_ix (r := rIxL K) ix_list (pv 1) (pv 4) (fun _ _ => rfl)) (pa_cons (pe_callTy call_tuple_of (by rfl) T.b_tuple (by decide +kernel) (pa_cons (pe_lc (own := [("answer", 8), ("goal", 9)]) (g := (gTup K 2 (gCons (gName 8) (gCons (gName 9) gNil)))) (tt := tYes) rfl sc_finer.nd (pi_list (pv 5)) (blkOk_by (N := ["table", "classes", "numbers", "found", "state", "pairs", "name", "told", "answer", "goal"]) (sc := defScope s_finer) (by decide +kernel)) (fun _ _ _ _ _ => (pg_tup (n := 2) (by rfl) (pgs_cons (pg_name (i := 8) sc_finer.nd rfl (Or.inl rfl)) (pgs_cons (pg_name (i := 9) sc_finer.nd rfl (Or.inl rfl)) pgs_nil)))) (fun _ _ _ _ _ => pts_nil) (fun _ _ _ _ _ => (pe_tup (pa_cons (pv 8) (pa_cons (pe_ix (r := rIxL K) ix_list (pv 1) (pv 9) (fun _ _ => rfl)) pa_nil))))) pa_nil)) pa_nil))))
      (pss_one (ps_expr (pe_bm PySem.F.plainAttrs_list PySem.F.slot_list_append PySem.F.type_list_append mt_append (pv 3) (pa_cons (pe_ndef hr.units (pv 2) (pa_cons (pv 7) (pa_cons (pe_callB (id := "len") (r := rLenN P w) call_lenN (by rfl) T.b_len PySem.boot_len (pa_cons (pv 2) pa_nil)) pa_nil))) pa_nil)))))))
      (pss_one (ps_ret (pv 3)))))), ?_⟩
    try simp (maxSteps := 1000000) only [tSeq, tIfS, tTest, tOp, tUn, tCB, tCons, tNil, tVar, tC, rI0, rI, rU, rEq, rNe, tRet, tRetN, tAsg, gName, gSub, tBM, tBM0, tNext, tB, tNot, tAnd, tOr, tIf, tCall, tDrop, tBreak, tCont, L2.start, tDGet, sDPut, tTup, tLst, tDNewK, tRevL, rCat, rAppend, rPop, rSetL, tAndV, tOrV, tNotV, tSl, tPart, tNoPart, tM1, gTup, gCons, gNil, cxK, cxnK, List.map_cons, List.map_nil, List.length_cons, List.length_nil, List.replicate, List.cons_append, List.nil_append, List.append_nil, List.set_cons_zero, List.set_cons_succ, List.getElem?_cons_zero, List.getElem?_cons_succ, Option.some.injEq, V.ref.injEq, V.int.injEq, V.str.injEq, V.bl.injEq, V.ty.injEq, exists_eq_left', exists_eq_left, exists_and_left, List.cons.injEq, and_true, true_and, sc_ii, sc_ss, sc_bb, sc_ni, sc_in, sc_is, sc_si, sc_nn, decide_true, decide_false, reduceCtorEq, Bool.false_eq_true, if_true, if_false, ite_true, ite_false, exists_const, eq_self, false_and, and_false, or_false, false_or, exists_false, Evl.rLenS, rSum, wipe, tYes, exists_eq, exists_eq', rIxL, rIxT, rIxS, exists_and_right, gt_iff_lt, not_true_eq_false, not_false_eq_true, Bool.not_true, Bool.not_false, decide_eq_true_eq, Nat.reduceSub, Nat.reduceAdd, List.append_assoc, tChain, tDIn, tDNotIn, sDDel, tAug, ipI]
    obtain ⟨dx, dd, ho⟩ := hT.head
    have bT := hT.bnd
    have cT := hT.cells
    intro nd nnd
    refine ⟨by decide, fun fl nfl => ?_⟩
    have k1 : Kp [] H (upd H nd (.dK [])) := Kp.new nnd
    have k2 : Kp [] (upd H nd (.dK [])) (upd (upd H nd (.dK [])) fl (.lst [])) := Kp.new nfl
    have nfl0 : H fl = none := noneB k1 nfl
    have ndl : nd ≠ fl := fun z => by rw [z, upd_same] at nfl; cases nfl
    refine forRg m (fun j σ H' => (∃ c4 c5 c6 c7 c8 c9 : Option V, σ = [some (.ref o), some (.ref cl), some (.ref nd), some (.ref fl), c4, c5, c6, c7, c8, c9]) ∧ FiAt P w rs cs H nd fl j H') (fun R q' => ?_) (by omega) (by have := bT.2.2.2.2.1; omega) ⟨⟨_, _, _, _, _, _, rfl⟩, ?_⟩ ?_ ?_
    · try simp (maxSteps := 1000000) only [tSeq, tIfS, tTest, tOp, tUn, tCB, tCons, tNil, tVar, tC, rI0, rI, rU, rEq, rNe, tRet, tRetN, tAsg, gName, gSub, tBM, tBM0, tNext, tB, tNot, tAnd, tOr, tIf, tCall, tDrop, tBreak, tCont, L2.start, tDGet, sDPut, tTup, tLst, tDNewK, tRevL, rCat, rAppend, rPop, rSetL, tAndV, tOrV, tNotV, tSl, tPart, tNoPart, tM1, gTup, gCons, gNil, cxK, cxnK, List.map_cons, List.map_nil, List.length_cons, List.length_nil, List.replicate, List.cons_append, List.nil_append, List.append_nil, List.set_cons_zero, List.set_cons_succ, List.getElem?_cons_zero, List.getElem?_cons_succ, Option.some.injEq, V.ref.injEq, V.int.injEq, V.str.injEq, V.bl.injEq, V.ty.injEq, exists_eq_left', exists_eq_left, exists_and_left, List.cons.injEq, and_true, true_and, sc_ii, sc_ss, sc_bb, sc_ni, sc_in, sc_is, sc_si, sc_nn, decide_true, decide_false, reduceCtorEq, Bool.false_eq_true, if_true, if_false, ite_true, ite_false, exists_const, eq_self, false_and, and_false, or_false, false_or, exists_false, Evl.rLenS, rSum, wipe, tYes, exists_eq, exists_eq', rIxL, rIxT, rIxS, exists_and_right, gt_iff_lt, not_true_eq_false, not_false_eq_true, Bool.not_true, Bool.not_false, decide_eq_true_eq, Nat.reduceSub, Nat.reduceAdd, List.append_assoc, tChain, tDIn, tDNotIn, sDDel, tAug, ipI, tFld]
      exact ⟨TC, dx, _, (k1.trans k2) _ _ not0 ho, C.cl, C.n1, _, rfl, q'⟩
    · exact ⟨.inl ⟨by rw [upd_ne ndl, upd_same], rfl⟩, upd_same, k1.trans k2⟩
    · rintro j σ H2 hj ⟨⟨c4, c5, c6, c7, c8, c9, rfl⟩, hF⟩
      try simp (maxSteps := 1000000) only [tSeq, tIfS, tTest, tOp, tUn, tCB, tCons, tNil, tVar, tC, rI0, rI, rU, rEq, rNe, tRet, tRetN, tAsg, gName, gSub, tBM, tBM0, tNext, tB, tNot, tAnd, tOr, tIf, tCall, tDrop, tBreak, tCont, L2.start, tDGet, sDPut, tTup, tLst, tDNewK, tRevL, rCat, rAppend, rPop, rSetL, tAndV, tOrV, tNotV, tSl, tPart, tNoPart, tM1, gTup, gCons, gNil, cxK, cxnK, List.map_cons, List.map_nil, List.length_cons, List.length_nil, List.replicate, List.cons_append, List.nil_append, List.append_nil, List.set_cons_zero, List.set_cons_succ, List.getElem?_cons_zero, List.getElem?_cons_succ, Option.some.injEq, V.ref.injEq, V.int.injEq, V.str.injEq, V.bl.injEq, V.ty.injEq, exists_eq_left', exists_eq_left, exists_and_left, List.cons.injEq, and_true, true_and, sc_ii, sc_ss, sc_bb, sc_ni, sc_in, sc_is, sc_si, sc_nn, decide_true, decide_false, reduceCtorEq, Bool.false_eq_true, if_true, if_false, ite_true, ite_false, exists_const, eq_self, false_and, and_false, or_false, false_or, exists_false, Evl.rLenS, rSum, wipe, tYes, exists_eq, exists_eq', rIxL, rIxT, rIxS, exists_and_right, gt_iff_lt, not_true_eq_false, not_false_eq_true, Bool.not_true, Bool.not_false, decide_eq_true_eq, Nat.reduceSub, Nat.reduceAdd, List.append_assoc, tChain, tDIn, tDNotIn, sDDel, tAug, ipI]
      obtain ⟨hN, hfl, k02⟩ := hF
      refine lcL (fun nn H' => H' nn = some (.lst ((namesOf rs).map V.str)) ∧ Kp [] H2 H') (fun R hR => ?_) fun nn H3 ⟨hnn, k23⟩ => ?_
      · try simp (maxSteps := 1000000) only [tSeq, tIfS, tTest, tOp, tUn, tCB, tCons, tNil, tVar, tC, rI0, rI, rU, rEq, rNe, tRet, tRetN, tAsg, gName, gSub, tBM, tBM0, tNext, tB, tNot, tAnd, tOr, tIf, tCall, tDrop, tBreak, tCont, L2.start, tDGet, sDPut, tTup, tLst, tDNewK, tRevL, rCat, rAppend, rPop, rSetL, tAndV, tOrV, tNotV, tSl, tPart, tNoPart, tM1, gTup, gCons, gNil, cxK, cxnK, List.map_cons, List.map_nil, List.length_cons, List.length_nil, List.replicate, List.cons_append, List.nil_append, List.append_nil, List.set_cons_zero, List.set_cons_succ, List.getElem?_cons_zero, List.getElem?_cons_succ, Option.some.injEq, V.ref.injEq, V.int.injEq, V.str.injEq, V.bl.injEq, V.ty.injEq, exists_eq_left', exists_eq_left, exists_and_left, List.cons.injEq, and_true, true_and, sc_ii, sc_ss, sc_bb, sc_ni, sc_in, sc_is, sc_si, sc_nn, decide_true, decide_false, reduceCtorEq, Bool.false_eq_true, if_true, if_false, ite_true, ite_false, exists_const, eq_self, false_and, and_false, or_false, false_or, exists_false, Evl.rLenS, rSum, wipe, tYes, exists_eq, exists_eq', rIxL, rIxT, rIxS, exists_and_right, gt_iff_lt, not_true_eq_false, not_false_eq_true, Bool.not_true, Bool.not_false, decide_eq_true_eq, Nat.reduceSub, Nat.reduceAdd, List.append_assoc, tChain, tDIn, tDNotIn, sDDel, tAug, ipI, tMeth]
        exact ⟨dx, _, k02 _ _ not0 ho, rfl, o, m, first, rs, rfl, hT.kp k02, fun l H' _ hl' k => hR l H' ⟨hl', k⟩⟩
      have k03 := k02.trans k23
      refine ⟨nn, rfl, ⟨_, sq_l hnn⟩, fun D1 nD1 => lc_list (K := K) (a := nn) (xs := (namesOf rs).map V.str) (fun i H' => ∃ xs, H' D1 = some (.lst xs) ∧ Cells (fun i => cellOf rs ((namesOf rs).getD i "") (j : Nat)) xs i H' ∧ Kp [] H3 H') ⟨[], upd_same, ⟨rfl, fun i hi => absurd hi (by omega)⟩, Kp.new nD1⟩ (fun i H' _ h => by obtain ⟨_, _, _, k⟩ := h; exact k.ls not0 (sq_l hnn)) ?_ ?_⟩
      · rintro i x H4 hx ⟨xs, hD, hC, k34⟩
        obtain ⟨z, ez, rfl⟩ : ∃ z, (namesOf rs)[i]? = some z ∧ V.str z = x := by
          rw [List.getElem?_map] at hx
          cases e : (namesOf rs)[i]? with
          | none => rw [e] at hx; cases hx
          | some z => rw [e] at hx; exact ⟨z, rfl, Option.some.inj hx⟩
        have hz : z ∈ namesOf rs := List.mem_of_getElem? ez
        have hasT : hasD rs (.str z) = true := by
          show (nameS z && decide (z ∈ rs.map (·.1))) = true
          rw [bT.2.2.1 z hz, decide_eq_true (show z ∈ rs.map (·.1) from hz)]; rfl
        have szz : szD (.str z) = true := decide_eq_true (name8 (bT.2.2.1 z hz))
        have il : i < (namesOf rs).length := (List.getElem?_eq_some_iff.mp ez).1
        have l6 : (namesOf rs).length ≤ 6 := by unfold namesOf; rw [List.length_map]; exact bT.2.1
        have k04 := k03.trans k34
        try simp (maxSteps := 1000000) only [tSeq, tIfS, tTest, tOp, tUn, tCB, tCons, tNil, tVar, tC, rI0, rI, rU, rEq, rNe, tRet, tRetN, tAsg, gName, gSub, tBM, tBM0, tNext, tB, tNot, tAnd, tOr, tIf, tCall, tDrop, tBreak, tCont, L2.start, tDGet, sDPut, tTup, tLst, tDNewK, tRevL, rCat, rAppend, rPop, rSetL, tAndV, tOrV, tNotV, tSl, tPart, tNoPart, tM1, gTup, gCons, gNil, cxK, cxnK, List.map_cons, List.map_nil, List.length_cons, List.length_nil, List.replicate, List.cons_append, List.nil_append, List.append_nil, List.set_cons_zero, List.set_cons_succ, List.getElem?_cons_zero, List.getElem?_cons_succ, Option.some.injEq, V.ref.injEq, V.int.injEq, V.str.injEq, V.bl.injEq, V.ty.injEq, exists_eq_left', exists_eq_left, exists_and_left, List.cons.injEq, and_true, true_and, sc_ii, sc_ss, sc_bb, sc_ni, sc_in, sc_is, sc_si, sc_nn, decide_true, decide_false, reduceCtorEq, Bool.false_eq_true, if_true, if_false, ite_true, ite_false, exists_const, eq_self, false_and, and_false, or_false, false_or, exists_false, Evl.rLenS, rSum, wipe, tYes, exists_eq, exists_eq', rIxL, rIxT, rIxS, exists_and_right, gt_iff_lt, not_true_eq_false, not_false_eq_true, Bool.not_true, Bool.not_false, decide_eq_true_eq, Nat.reduceSub, Nat.reduceAdd, List.append_assoc, tChain, tDIn, tDNotIn, sDDel, tAug, ipI, tCallOI]
        refine ⟨⟨dx, _, k04 _ _ not0 ho⟩, o, .str z, .int (j : Nat), .str z, .int (j : Nat), m, first, rs, rfl, hT.kp k04, .str z, szz, .int _, fun z' s2 ez' es' hh i0 i1 p1 H5 hp k5 => ?_, fun hh => by (rw [hasT] at hh; cases hh), fun hh hb => ?_⟩
        · cases ez'
          cases es'
          refine ⟨xs, k5 _ _ not0 hD, smallL (by rw [hC.1]; omega), xs ++ [.ref p1], upd_same, ?_, (k34.trans k5).wr nD1⟩
          exact ((hC.kp k5).snoc (by
            show H5 p1 = some (.tup [.int (cellOf rs ((namesOf rs).getD i "") (j : Nat)).1, .int (cellOf rs ((namesOf rs).getD i "") (j : Nat)).2])
            rw [List.getD_eq_getElem?_getD, ez]
            exact hp)).putL (k5 _ _ not0 hD)
        · have : (decide (0 ≤ ((j : Nat) : Int)) && decide (((j : Nat) : Int) < (m : Nat))) = false := hb
          rw [decide_eq_true (show (0 : Int) ≤ (j : Nat) by omega), decide_eq_true (show ((j : Nat) : Int) < (m : Nat) by omega)] at this
          cases this
      · rintro H4 ⟨xs, hD, hC, k34⟩
        have k04 := k03.trans k34
        try simp (maxSteps := 1000000) only [tSeq, tIfS, tTest, tOp, tUn, tCB, tCons, tNil, tVar, tC, rI0, rI, rU, rEq, rNe, tRet, tRetN, tAsg, gName, gSub, tBM, tBM0, tNext, tB, tNot, tAnd, tOr, tIf, tCall, tDrop, tBreak, tCont, L2.start, tDGet, sDPut, tTup, tLst, tDNewK, tRevL, rCat, rAppend, rPop, rSetL, tAndV, tOrV, tNotV, tSl, tPart, tNoPart, tM1, gTup, gCons, gNil, cxK, cxnK, List.map_cons, List.map_nil, List.length_cons, List.length_nil, List.replicate, List.cons_append, List.nil_append, List.append_nil, List.set_cons_zero, List.set_cons_succ, List.getElem?_cons_zero, List.getElem?_cons_succ, Option.some.injEq, V.ref.injEq, V.int.injEq, V.str.injEq, V.bl.injEq, V.ty.injEq, exists_eq_left', exists_eq_left, exists_and_left, List.cons.injEq, and_true, true_and, sc_ii, sc_ss, sc_bb, sc_ni, sc_in, sc_is, sc_si, sc_nn, decide_true, decide_false, reduceCtorEq, Bool.false_eq_true, if_true, if_false, ite_true, ite_false, exists_const, eq_self, false_and, and_false, or_false, false_or, exists_false, Evl.rLenS, rSum, wipe, tYes, exists_eq, exists_eq', rIxL, rIxT, rIxS, exists_and_right, gt_iff_lt, not_true_eq_false, not_false_eq_true, Bool.not_true, Bool.not_false, decide_eq_true_eq, Nat.reduceSub, Nat.reduceAdd, List.append_assoc, tChain, tDIn, tDNotIn, sDDel, tAug, ipI]
        rw [List.length_map] at hC
        have hj' : j < cs.length := by omega
        have l6 : (namesOf rs).length ≤ 6 := by unfold namesOf; rw [List.length_map]; exact bT.2.1
        refine ⟨_, sq_l (k04 _ _ not0 hcl), .int ((cs.getD j 0 : Nat)), atI_nat (by rw [List.getElem?_map, List.getElem?_eq_getElem hj', List.getD_eq_getElem?_getD, List.getElem?_eq_getElem hj']; rfl), ?_⟩
        refine ⟨.ref D1, rfl, D1, rfl, ⟨_, sq_l hD⟩, fun D2 nD2 => lc_list (K := K) (a := D1) (xs := xs) (fun i H' => ∃ ys, H' D2 = some (.lst ys) ∧ Cells (fun i => ((cellOf rs ((namesOf rs).getD i "") (j : Nat)).1, ((cs.getD (cellOf rs ((namesOf rs).getD i "") (j : Nat)).2.toNat 0 : Nat) : Int))) ys i H' ∧ Kp [] H4 H') ⟨[], upd_same, ⟨rfl, fun i hi => absurd hi (by omega)⟩, Kp.new nD2⟩ (fun i H' _ h => by obtain ⟨_, _, _, k⟩ := h; exact k.ls not0 (sq_l hD)) ?_ ?_⟩
        · rintro i x H5 hx ⟨ys, hD5, hC5, k45⟩
          have il : i < (namesOf rs).length := by rw [← hC.1]; exact (List.getElem?_eq_some_iff.mp hx).1
          obtain ⟨pi, ep, hpi⟩ := hC.2 i il
          rw [hx] at ep
          cases ep
          have hz : (namesOf rs).getD i "" ∈ namesOf rs := by rw [List.getD_eq_getElem?_getD, List.getElem?_eq_getElem il]; exact List.getElem_mem _
          obtain ⟨_, _, g0, g1⟩ := cT _ hz j hj
          have hp5 := k45 _ _ not0 hpi
          have hcl5 := (k04.trans k45) _ _ not0 hcl
          have two : (2 : Nat) ≤ sizeLine := by rw [sizeLine_eq]; decide
          have gl : (cellOf rs ((namesOf rs).getD i "") (j : Nat)).2.toNat < cs.length := by omega
          try simp (maxSteps := 1000000) only [tSeq, tIfS, tTest, tOp, tUn, tCB, tCons, tNil, tVar, tC, rI0, rI, rU, rEq, rNe, tRet, tRetN, tAsg, gName, gSub, tBM, tBM0, tNext, tB, tNot, tAnd, tOr, tIf, tCall, tDrop, tBreak, tCont, L2.start, tDGet, sDPut, tTup, tLst, tDNewK, tRevL, rCat, rAppend, rPop, rSetL, tAndV, tOrV, tNotV, tSl, tPart, tNoPart, tM1, gTup, gCons, gNil, cxK, cxnK, List.map_cons, List.map_nil, List.length_cons, List.length_nil, List.replicate, List.cons_append, List.nil_append, List.append_nil, List.set_cons_zero, List.set_cons_succ, List.getElem?_cons_zero, List.getElem?_cons_succ, Option.some.injEq, V.ref.injEq, V.int.injEq, V.str.injEq, V.bl.injEq, V.ty.injEq, exists_eq_left', exists_eq_left, exists_and_left, List.cons.injEq, and_true, true_and, sc_ii, sc_ss, sc_bb, sc_ni, sc_in, sc_is, sc_si, sc_nn, decide_true, decide_false, reduceCtorEq, Bool.false_eq_true, if_true, if_false, ite_true, ite_false, exists_const, eq_self, false_and, and_false, or_false, false_or, exists_false, Evl.rLenS, rSum, wipe, tYes, exists_eq, exists_eq', rIxL, rIxT, rIxS, exists_and_right, gt_iff_lt, not_true_eq_false, not_false_eq_true, Bool.not_true, Bool.not_false, decide_eq_true_eq, Nat.reduceSub, Nat.reduceAdd, List.append_assoc, tChain, tDIn, tDNotIn, sDDel, tAug, ipI]
          refine ⟨_, sq_t hp5, rfl, _, _, rfl, _, _, rfl, rfl, _, _, rfl, sq_l hcl5, .int ((cs.getD (cellOf rs ((namesOf rs).getD i "") (j : Nat)).2.toNat 0 : Nat)), atI_of g0 (csAt gl), two, fun p2 np2 => ?_⟩
          have kq := (Kp.new np2 : Kp [] H5 (upd H5 p2 (.tup [.int (cellOf rs ((namesOf rs).getD i "") (j : Nat)).1, .int ((cs.getD (cellOf rs ((namesOf rs).getD i "") (j : Nat)).2.toNat 0 : Nat))])))
          exact ⟨ys, kq _ _ not0 hD5, smallL (by rw [hC5.1]; omega), ys ++ [.ref p2], upd_same, ((hC5.kp kq).snoc upd_same).putL (kq _ _ not0 hD5), (k45.trans kq).wr nD2⟩
        · rintro H5 ⟨ys, hD5, hC5, k45⟩
          rw [hC.1] at hC5
          try simp (maxSteps := 1000000) only [tSeq, tIfS, tTest, tOp, tUn, tCB, tCons, tNil, tVar, tC, rI0, rI, rU, rEq, rNe, tRet, tRetN, tAsg, gName, gSub, tBM, tBM0, tNext, tB, tNot, tAnd, tOr, tIf, tCall, tDrop, tBreak, tCont, L2.start, tDGet, sDPut, tTup, tLst, tDNewK, tRevL, rCat, rAppend, rPop, rSetL, tAndV, tOrV, tNotV, tSl, tPart, tNoPart, tM1, gTup, gCons, gNil, cxK, cxnK, List.map_cons, List.map_nil, List.length_cons, List.length_nil, List.replicate, List.cons_append, List.nil_append, List.append_nil, List.set_cons_zero, List.set_cons_succ, List.getElem?_cons_zero, List.getElem?_cons_succ, Option.some.injEq, V.ref.injEq, V.int.injEq, V.str.injEq, V.bl.injEq, V.ty.injEq, exists_eq_left', exists_eq_left, exists_and_left, List.cons.injEq, and_true, true_and, sc_ii, sc_ss, sc_bb, sc_ni, sc_in, sc_is, sc_si, sc_nn, decide_true, decide_false, reduceCtorEq, Bool.false_eq_true, if_true, if_false, ite_true, ite_false, exists_const, eq_self, false_and, and_false, or_false, false_or, exists_false, Evl.rLenS, rSum, wipe, tYes, exists_eq, exists_eq', rIxL, rIxT, rIxS, exists_and_right, gt_iff_lt, not_true_eq_false, not_false_eq_true, Bool.not_true, Bool.not_false, decide_eq_true_eq, Nat.reduceSub, Nat.reduceAdd, List.append_assoc, tChain, tDIn, tDNotIn, sDDel, tAug, ipI]
          have two : (2 : Nat) ≤ sizeLine := by rw [sizeLine_eq]; decide
          have k05 := k04.trans k45
          have k25 := (k23.trans k34).trans k45
          refine ⟨_, .inl ⟨sq_l hD5, fun tp ntp => ⟨two, fun tl ntl => ?_⟩⟩⟩
          have kG : Kp [] H5 (upd (upd H5 tp (.tup ys)) tl (.tup [.int ((cs.getD j 0 : Nat)), .ref tp])) := (Kp.new ntp).trans (Kp.new ntl)
          have htl : (upd (upd H5 tp (.tup ys)) tl (.tup [.int ((cs.getD j 0 : Nat)), .ref tp])) tl = some (.tup [.int ((cs.getD j 0 : Nat)), .ref tp]) := upd_same
          have htp : (upd (upd H5 tp (.tup ys)) tl (.tup [.int ((cs.getD j 0 : Nat)), .ref tp])) tp = some (.tup ys) := by
            rw [upd_ne (fun z => by rw [← z, upd_same] at ntl; cases ntl), upd_same]
          generalize upd (upd H5 tp (.tup ys)) tl (.tup [.int ((cs.getD j 0 : Nat)), .ref tp]) = G at kG htl htp ⊢
          have hk : NkAt G (.ref tl) (keyS rs cs j) := by
            refine .tup htl (.cons (.int _) (.cons (.tup htp ?_) .nil))
            rw [map_getD]
            exact nk_cells (hC5.kp kG)
          have hNG := dn_kp hN (k25.trans kG)
          have hflG := (k25.trans kG) _ _ not0 hfl
          have dl : (ddK ((List.range j).map (keyS rs cs))).length ≤ j := by
            have := ddK_len (ks := (List.range j).map (keyS rs cs))
            rw [List.length_map, List.length_range] at this
            exact this
          refine ⟨.inl ⟨rfl, _, sq_l hflG⟩, ?_⟩
          try simp (maxSteps := 1000000) only [tSeq, tIfS, tTest, tOp, tUn, tCB, tCons, tNil, tVar, tC, rI0, rI, rU, rEq, rNe, tRet, tRetN, tAsg, gName, gSub, tBM, tBM0, tNext, tB, tNot, tAnd, tOr, tIf, tCall, tDrop, tBreak, tCont, L2.start, tDGet, sDPut, tTup, tLst, tDNewK, tRevL, rCat, rAppend, rPop, rSetL, tAndV, tOrV, tNotV, tSl, tPart, tNoPart, tM1, gTup, gCons, gNil, cxK, cxnK, List.map_cons, List.map_nil, List.length_cons, List.length_nil, List.replicate, List.cons_append, List.nil_append, List.append_nil, List.set_cons_zero, List.set_cons_succ, List.getElem?_cons_zero, List.getElem?_cons_succ, Option.some.injEq, V.ref.injEq, V.int.injEq, V.str.injEq, V.bl.injEq, V.ty.injEq, exists_eq_left', exists_eq_left, exists_and_left, List.cons.injEq, and_true, true_and, sc_ii, sc_ss, sc_bb, sc_ni, sc_in, sc_is, sc_si, sc_nn, decide_true, decide_false, reduceCtorEq, Bool.false_eq_true, if_true, if_false, ite_true, ite_false, exists_const, eq_self, false_and, and_false, or_false, false_or, exists_false, Evl.rLenS, rSum, wipe, tYes, exists_eq, exists_eq', rIxL, rIxT, rIxS, exists_and_right, gt_iff_lt, not_true_eq_false, not_false_eq_true, Bool.not_true, Bool.not_false, decide_eq_true_eq, Nat.reduceSub, Nat.reduceAdd, List.append_assoc, tChain, tDIn, tDNotIn, sDDel, tAug, ipI, tNDef, rLenN]
          have fln : (finS rs cs j).length = j := by unfold finS; rw [List.length_map, List.length_map, List.length_range]
          have hm100 : m ≤ 100 := bT.2.2.2.2.1
          refine ⟨⟨_, hNG⟩, _, hNG, _, keyS rs cs j, .ref tl, _, ⟨rfl, rfl⟩, hNG, ⟨tl, rfl, hk, keyS_depth⟩, smallL (by rw [numsN_len]; omega), fun v' hv => ?_, fun hv ob e' => ?_⟩
          · have hin : keyS rs cs j ∈ ddK ((List.range j).map (keyS rs cs)) := by
              refine Classical.byContradiction fun z => ?_
              rw [numsN_none z] at hv
              cases hv
            rw [numsN_val hin] at hv
            cases hv
            refine ⟨_, hflG, smallL (by rw [List.length_map, fln]; omega), ?_, ?_, (k02.trans (k25.trans kG)).wr nfl0⟩
            · rw [ddK_succ, if_pos hin]
              exact dn_wr hNG hflG ndl
            · rw [upd_same, finS_succ, ddK_succ, if_pos hin, List.map_append]
              rfl
          · have hout : keyS rs cs j ∉ ddK ((List.range j).map (keyS rs cs)) := fun z => by
              rw [numsN_val z] at hv
              cases hv
            rw [numsN_len, numsN_put hout] at e'
            have hfl2 : (upd G nd ob) fl = some (.lst ((finS rs cs j).map fun x => V.int (x : Nat))) := by rw [upd_ne (Ne.symm ndl)]; exact hflG
            refine ⟨_, hfl2, smallL (by rw [List.length_map, fln]; omega), ?_, ?_, ((k02.trans (k25.trans kG)).wr nnd).wr nfl0⟩
            · rw [ddK_succ, if_neg hout]
              exact dn_wr e' hfl2 ndl
            · rw [upd_same, finS_succ, ddK_succ, if_neg hout, List.map_append, List.idxOf_append, if_neg hout, numsN_len]
              simp
    · rintro σ H2 ⟨⟨c4, c5, c6, c7, c8, c9, rfl⟩, hF⟩
      try simp (maxSteps := 1000000) only [tSeq, tIfS, tTest, tOp, tUn, tCB, tCons, tNil, tVar, tC, rI0, rI, rU, rEq, rNe, tRet, tRetN, tAsg, gName, gSub, tBM, tBM0, tNext, tB, tNot, tAnd, tOr, tIf, tCall, tDrop, tBreak, tCont, L2.start, tDGet, sDPut, tTup, tLst, tDNewK, tRevL, rCat, rAppend, rPop, rSetL, tAndV, tOrV, tNotV, tSl, tPart, tNoPart, tM1, gTup, gCons, gNil, cxK, cxnK, List.map_cons, List.map_nil, List.length_cons, List.length_nil, List.replicate, List.cons_append, List.nil_append, List.append_nil, List.set_cons_zero, List.set_cons_succ, List.getElem?_cons_zero, List.getElem?_cons_succ, Option.some.injEq, V.ref.injEq, V.int.injEq, V.str.injEq, V.bl.injEq, V.ty.injEq, exists_eq_left', exists_eq_left, exists_and_left, List.cons.injEq, and_true, true_and, sc_ii, sc_ss, sc_bb, sc_ni, sc_in, sc_is, sc_si, sc_nn, decide_true, decide_false, reduceCtorEq, Bool.false_eq_true, if_true, if_false, ite_true, ite_false, exists_const, eq_self, false_and, and_false, or_false, false_or, exists_false, Evl.rLenS, rSum, wipe, tYes, exists_eq, exists_eq', rIxL, rIxT, rIxS, exists_and_right, gt_iff_lt, not_true_eq_false, not_false_eq_true, Bool.not_true, Bool.not_false, decide_eq_true_eq, Nat.reduceSub, Nat.reduceAdd, List.append_assoc, tChain, tDIn, tDNotIn, sDDel, tAug, ipI]
      exact q fl H2 nfl0 hF.2.1 hF.2.2
end
end My

set_option Elab.async false
set_option linter.all false
set_option maxRecDepth 100000
set_option maxHeartbeats 4000000
namespace My
open PySem L2 NdefX StX
abbrev s_classes_of : Stmt := top 22
theorem sc_classes_of : FnScope ["table", "classes", "_", "many"] ["table"] (defScope s_classes_of) := ⟨rfl, rfl, rfl, by decide +kernel, rfl, by decide +kernel, by decide +kernel⟩
/-- the classes after i turns -/
def clsS (rs : List (Str × PyData)) (m : Nat) : Nat → List Nat
  | 0 => List.replicate m 0
  | i + 1 => finS rs (clsS rs m i) m
def manyS (rs : List (Str × PyData)) (m i : Nat) : Nat := (dedI ((clsS rs m i).map fun x => ((x : Nat) : Int))).length
theorem finS_len {rs : List (Str × PyData)} {cs : List Nat} {m : Nat} : (finS rs cs m).length = m := by unfold finS; rw [List.length_map, List.length_map, List.length_range]
theorem clsS_len {rs : List (Str × PyData)} {m : Nat} : ∀ i, (clsS rs m i).length = m
  | 0 => List.length_replicate ..
  | _ + 1 => finS_len
theorem dedI_le (ns : List Int) : (dedI ns).length ≤ ns.length := by
  have h : ∀ (ns acc : List Int), (ns.foldl PyProof.Rows.step_dedup acc).length ≤ acc.length + ns.length := by
    intro ns
    induction ns with
    | nil => intro acc; exact Nat.le_refl _
    | cons n ns ih =>
      intro acc
      have a := ih (PyProof.Rows.step_dedup acc n)
      have b : (PyProof.Rows.step_dedup acc n).length ≤ acc.length + 1 := by
        unfold PyProof.Rows.step_dedup
        split
        · omega
        · simp
      rw [List.foldl_cons, List.length_cons]
      omega
  have := h ns []
  rw [List.length_nil, Nat.zero_add] at this
  exact this
theorem manyS_le {rs : List (Str × PyData)} {m i : Nat} : manyS rs m i ≤ m := by
  have := dedI_le ((clsS rs m i).map fun x => ((x : Nat) : Int))
  rw [List.length_map, clsS_len] at this
  exact this
theorem dedI_pos {n : Int} {ns : List Int} : 1 ≤ (dedI (n :: ns)).length := by
  have h : ∀ (ns acc : List Int), acc.length ≤ (ns.foldl PyProof.Rows.step_dedup acc).length := by
    intro ns
    induction ns with
    | nil => intro acc; exact Nat.le_refl _
    | cons n ns ih =>
      intro acc
      refine Nat.le_trans ?_ (ih _)
      unfold PyProof.Rows.step_dedup
      split
      · exact Nat.le_refl _
      · simp
  exact h ns [n]
theorem manyS_pos {rs : List (Str × PyData)} {m : Nat} (hm : 1 ≤ m) : 1 ≤ manyS rs m 0 := by
  unfold manyS clsS
  obtain ⟨k, rfl⟩ : ∃ k, m = k + 1 := ⟨m - 1, by omega⟩
  rw [List.replicate_succ, List.map_cons]
  exact dedI_pos
section
variable {P : Program} {w : World} {K : PySem.W.Frag} {mg : Str → Option Value} {base : Heap} {tL t1 t2 : Tok}
def spClasses (TC : Addr) : Sp := fun vs H Q _ => ∃ (o : Addr) (m : Nat) (first : Int) (rs : List (Str × PyData)), vs = [.ref o] ∧ TabAt TC H o m first rs ∧ ∀ i l H', H l = none → manyS rs m (i + 1) ≤ manyS rs m i → H' l = some (.lst ((clsS rs m (i + 1)).map fun x => V.int (x : Nat))) → Kp [] H H' → Q (.ref l) H'
/-- i turns are done -/
def ClW (TC : Addr) (o : Addr) (m : Nat) (rs : List (Str × PyData)) (H : Hp) (n : Nat) (σ : L2.St) (H' : Hp) : Prop := ∃ (i many : Nat) (l : Addr) (c2 : Option V), σ = [some (.ref o), some (.ref l), c2, some (.int (many : Nat))] ∧ H l = none ∧ H' l = some (.lst ((clsS rs m i).map fun x => V.int (x : Nat))) ∧ Kp [] H H' ∧ n = m - many ∧ ((i = 0 ∧ many = 0) ∨ ∃ j, i = j + 1 ∧ many = manyS rs m j)
theorem ok_classes_of {f : Addr} {fd : FuncData} (D : Df K mg "classes_of" s_classes_of ["table"] f fd) (T : BtF mg) {TC : Addr} (C : TbC K mg TC) {ff : Addr} {fdf : FuncData} (D_finer : Df K mg "finer" s_finer ["table", "classes"] ff fdf) (G_finer : FnOk P w K mg base CX0 5 ff fdf ["table", "classes"] (spFiner TC)) : FnOk P w K mg base CX0 6 f fd ["table"] (spClasses TC) := by
  refine D.F.ok sc_classes_of (fun vs H Q E h => ?_) (fun cdv A outer s H vs Q E hr h => ?_)
  · obtain ⟨_, _, _, _, rfl, _⟩ := h
    rfl
  · obtain ⟨o, m, first, rs, rfl, hT, q⟩ := h
    obtain ⟨dx, dd, ho⟩ := hT.head
    have bT := hT.bnd
    refine ⟨_, (pss_cons (ps_setLc (i := 1) (own := [("_", 2)]) (g := (gName 2)) (tt := tYes) rfl sc_classes_of.nd rfl rfl (sw_true rfl rfl rfl (by decide +kernel)) (pi_range1 rfl T.b_range (pa_cons (pe_fld (pv 0) rfl) pa_nil)) (blkOk_by (N := ["table", "classes", "_", "many"]) (sc := defScope s_classes_of) (by decide +kernel)) (fun _ _ _ _ _ => (pg_name (i := 2) sc_classes_of.nd rfl (Or.inl rfl))) (fun _ _ _ _ _ => pts_nil) (fun _ _ _ _ _ => pe_int))
      (pss_cons (ps_set (i := 3) sc_classes_of.nd rfl (Or.inl rfl) pe_int)
      (pss_cons (ps_while PassesOwn.never (pt_cmpR op_lt (pv 3) (pe_lenSetA rfl T.b_len rfl T.b_set (pv 1)) (nomark _)) (pss_cons (ps_set (i := 3) sc_classes_of.nd rfl (Or.inl rfl) (pe_lenSetA rfl T.b_len rfl T.b_set (pv 1)))
      (pss_one (ps_set (i := 1) sc_classes_of.nd rfl (Or.inl rfl) (pe_call G_finer (hr.mono (by decide)) rfl D_finer.g D_finer.F.kp D_finer.b .nil pass0 (pa_cons (pv 0) (pa_cons (pv 1) pa_nil)))))))
      (pss_one (ps_ret (pv 1)))))), ?_⟩
    try simp (maxSteps := 1000000) only [tSeq, tIfS, tTest, tOp, tUn, tCB, tCons, tNil, tVar, tC, rI0, rI, rU, rEq, rNe, tRet, tRetN, tAsg, gName, gSub, tBM, tBM0, tNext, tB, tNot, tAnd, tOr, tIf, tCall, tDrop, tBreak, tCont, L2.start, tDGet, sDPut, tTup, tLst, tDNewK, tRevL, rCat, rAppend, rPop, rSetL, tAndV, tOrV, tNotV, tSl, tPart, tNoPart, tM1, gTup, gCons, gNil, cxK, cxnK, List.map_cons, List.map_nil, List.length_cons, List.length_nil, List.replicate, List.cons_append, List.nil_append, List.append_nil, List.set_cons_zero, List.set_cons_succ, List.getElem?_cons_zero, List.getElem?_cons_succ, Option.some.injEq, V.ref.injEq, V.int.injEq, V.str.injEq, V.bl.injEq, V.ty.injEq, exists_eq_left', exists_eq_left, exists_and_left, List.cons.injEq, and_true, true_and, sc_ii, sc_ss, sc_bb, sc_ni, sc_in, sc_is, sc_si, sc_nn, decide_true, decide_false, reduceCtorEq, Bool.false_eq_true, if_true, if_false, ite_true, ite_false, exists_const, eq_self, false_and, and_false, or_false, false_or, exists_false, Evl.rLenS, rSum, wipe, tYes, exists_eq, exists_eq', rIxL, rIxT, rIxS, exists_and_right, gt_iff_lt, not_true_eq_false, not_false_eq_true, Bool.not_true, Bool.not_false, decide_eq_true_eq, Nat.reduceSub, Nat.reduceAdd, List.append_assoc, tChain, tDIn, tDNotIn, sDDel, tAug, ipI, tFld]
    have m100 : m ≤ 100 := bT.2.2.2.2.1
    refine ⟨.ref o, rfl, o, TC, dx, _, _, rfl, ho, C.cl, C.n1, rfl, (m : Nat), rfl, by omega, by omega, fun D nD => ?_⟩
    refine lc_range (lo := 0) (n := ((m : Nat) : Int).toNat) (fun i H' => H' D = some (.lst ((List.replicate i 0).map fun x => V.int (x : Nat))) ∧ Kp [] H H') ⟨upd_same, Kp.new nD⟩ (fun i H' hi h => ?_) fun H1 h => ?_
    · refine ⟨by simp [wipe], ?_⟩
      simp only [tYes, if_true]
      exact ⟨_, h.1, smallL (by rw [List.length_map, List.length_replicate]; omega), by rw [upd_same, List.replicate_succ', List.map_append]; rfl, h.2.wr nD⟩
    rw [Int.toNat_natCast] at h
    try simp (maxSteps := 1000000) only [tSeq, tIfS, tTest, tOp, tUn, tCB, tCons, tNil, tVar, tC, rI0, rI, rU, rEq, rNe, tRet, tRetN, tAsg, gName, gSub, tBM, tBM0, tNext, tB, tNot, tAnd, tOr, tIf, tCall, tDrop, tBreak, tCont, L2.start, tDGet, sDPut, tTup, tLst, tDNewK, tRevL, rCat, rAppend, rPop, rSetL, tAndV, tOrV, tNotV, tSl, tPart, tNoPart, tM1, gTup, gCons, gNil, cxK, cxnK, List.map_cons, List.map_nil, List.length_cons, List.length_nil, List.replicate, List.cons_append, List.nil_append, List.append_nil, List.set_cons_zero, List.set_cons_succ, List.getElem?_cons_zero, List.getElem?_cons_succ, Option.some.injEq, V.ref.injEq, V.int.injEq, V.str.injEq, V.bl.injEq, V.ty.injEq, exists_eq_left', exists_eq_left, exists_and_left, List.cons.injEq, and_true, true_and, sc_ii, sc_ss, sc_bb, sc_ni, sc_in, sc_is, sc_si, sc_nn, decide_true, decide_false, reduceCtorEq, Bool.false_eq_true, if_true, if_false, ite_true, ite_false, exists_const, eq_self, false_and, and_false, or_false, false_or, exists_false, Evl.rLenS, rSum, wipe, tYes, exists_eq, exists_eq', rIxL, rIxT, rIxS, exists_and_right, gt_iff_lt, not_true_eq_false, not_false_eq_true, Bool.not_true, Bool.not_false, decide_eq_true_eq, Nat.reduceSub, Nat.reduceAdd, List.append_assoc, tChain, tDIn, tDNotIn, sDDel, tAug, ipI]
    refine ⟨ClW TC o m rs H, ⟨_, 0, 0, D, none, rfl, nD, h.1, h.2, rfl, .inl ⟨rfl, rfl⟩⟩, ?_⟩
    rintro n σ H2 ⟨i, many, l, c2, rfl, nl, hl, k02, rfl, hi⟩
    have cl := clsS_len (rs := rs) (m := m) i
    have em : (clsS rs m i).map (fun x => V.int (x : Nat)) = ((clsS rs m i).map fun x => ((x : Nat) : Int)).map V.int := by rw [List.map_map]; rfl
    have hl' := hl
    rw [em] at hl'
    have ml := manyS_le (rs := rs) (m := m) (i := i)
    have c4 : ((clsS rs m i).map fun x => ((x : Nat) : Int)).length ≤ 4000 := by rw [List.length_map]; omega
    try simp (maxSteps := 1000000) only [tSeq, tIfS, tTest, tOp, tUn, tCB, tCons, tNil, tVar, tC, rI0, rI, rU, rEq, rNe, tRet, tRetN, tAsg, gName, gSub, tBM, tBM0, tNext, tB, tNot, tAnd, tOr, tIf, tCall, tDrop, tBreak, tCont, L2.start, tDGet, sDPut, tTup, tLst, tDNewK, tRevL, rCat, rAppend, rPop, rSetL, tAndV, tOrV, tNotV, tSl, tPart, tNoPart, tM1, gTup, gCons, gNil, cxK, cxnK, List.map_cons, List.map_nil, List.length_cons, List.length_nil, List.replicate, List.cons_append, List.nil_append, List.append_nil, List.set_cons_zero, List.set_cons_succ, List.getElem?_cons_zero, List.getElem?_cons_succ, Option.some.injEq, V.ref.injEq, V.int.injEq, V.str.injEq, V.bl.injEq, V.ty.injEq, exists_eq_left', exists_eq_left, exists_and_left, List.cons.injEq, and_true, true_and, sc_ii, sc_ss, sc_bb, sc_ni, sc_in, sc_is, sc_si, sc_nn, decide_true, decide_false, reduceCtorEq, Bool.false_eq_true, if_true, if_false, ite_true, ite_false, exists_const, eq_self, false_and, and_false, or_false, false_or, exists_false, Evl.rLenS, rSum, wipe, tYes, exists_eq, exists_eq', rIxL, rIxT, rIxS, exists_and_right, gt_iff_lt, not_true_eq_false, not_false_eq_true, Bool.not_true, Bool.not_false, decide_eq_true_eq, Nat.reduceSub, Nat.reduceAdd, List.append_assoc, tChain, tDIn, tDNotIn, sDDel, tAug, ipI, tLenSetA]
    refine ⟨_, sq_l hl', c4, ?_⟩
    show if (many : Int) < (manyS rs m i : Nat) then _ else _
    by_cases e : many < manyS rs m i
    · rw [if_pos (by omega)]
      refine ⟨fun σ' H' => ∃ m', m' < m - many ∧ ClW TC o m rs H m' σ' H', fun _ _ h => h, _, sq_l hl', c4, ?_⟩
      refine ⟨o, l, m, first, rs, clsS rs m i, rfl, hT.kp k02, hl, cl, fun l2 H3 nl2 hl2 k3 => ?_⟩
      exact ⟨m - manyS rs m i, by omega, i + 1, manyS rs m i, l2, c2, rfl, noneB k02 nl2, hl2, k02.trans k3, rfl, .inr ⟨i, rfl, rfl⟩⟩
    · rw [if_neg (by omega)]
      rcases hi with ⟨rfl, rfl⟩ | ⟨j, rfl, rfl⟩
      · have := manyS_pos (rs := rs) (m := m) bT.2.2.2.1
        exact absurd this (by omega)
      · exact q j l H2 nl (by omega) hl k02
end
end My

set_option Elab.async false
set_option linter.all false
set_option maxRecDepth 100000
set_option maxHeartbeats 4000000
/-! classes, leaders and the search, by cells -/
namespace My
open PySem L2
def nx (c : Str → Nat → Int × Int) (z : Str) (s : Nat) : Nat := (c z s).2.toNat
def Nx (zs : List Str) (m : Nat) (c : Str → Nat → Int × Int) : Prop := ∀ z ∈ zs, ∀ s, s < m → nx c z s < m
def keyC (zs : List Str) (c : Str → Nat → Int × Int) (cs : List Nat) (s : Nat) : NestedKey := .tup [.num ((cs.getD s 0 : Nat) : Int), .tup (zs.map fun z => .tup [.num (c z s).1, .num ((cs.getD (c z s).2.toNat 0 : Nat) : Int)])]
def finC (zs : List Str) (c : Str → Nat → Int × Int) (cs : List Nat) (m : Nat) : List Nat := ((List.range m).map (keyC zs c cs)).map fun k => (ddK ((List.range m).map (keyC zs c cs))).idxOf k
/-- the classes after i turns, by the cells -/
def clsC (zs : List Str) (c : Str → Nat → Int × Int) (m : Nat) : Nat → List Nat
  | 0 => List.replicate m 0
  | i + 1 => finC zs c (clsC zs c m i) m
def manyC (zs : List Str) (c : Str → Nat → Int × Int) (m i : Nat) : Nat := (dedI ((clsC zs c m i).map fun x => ((x : Nat) : Int))).length
section
variable {zs : List Str} {c c' : Str → Nat → Int × Int} {m : Nat}
theorem keyC_congr {cs : List Nat} {s : Nat} (h : ∀ z ∈ zs, c z s = c' z s) : keyC zs c cs s = keyC zs c' cs s := by
  unfold keyC
  rw [List.map_congr_left (g := fun z => NestedKey.tup [.num (c' z s).1, .num ((cs.getD (c' z s).2.toNat 0 : Nat) : Int)]) fun z hz => by rw [h z hz]]
theorem finC_congr {cs : List Nat} (h : ∀ z ∈ zs, ∀ s, s < m → c z s = c' z s) : finC zs c cs m = finC zs c' cs m := by
  unfold finC
  rw [List.map_congr_left (l := List.range m) (f := keyC zs c cs) (g := keyC zs c' cs) fun s hs => keyC_congr fun z hz => h z hz s (List.mem_range.mp hs)]
theorem clsC_congr (h : ∀ z ∈ zs, ∀ s, s < m → c z s = c' z s) : ∀ i, clsC zs c m i = clsC zs c' m i
  | 0 => rfl
  | i + 1 => by
    show finC zs c (clsC zs c m i) m = finC zs c' (clsC zs c' m i) m
    rw [clsC_congr h i, finC_congr h]
theorem finC_len {cs : List Nat} : (finC zs c cs m).length = m := by unfold finC; rw [List.length_map, List.length_map, List.length_range]
theorem clsC_len : ∀ i, (clsC zs c m i).length = m
  | 0 => List.length_replicate ..
  | _ + 1 => finC_len
theorem finC_at {cs : List Nat} {s : Nat} (hs : s < m) : (finC zs c cs m).getD s 0 = (ddK ((List.range m).map (keyC zs c cs))).idxOf (keyC zs c cs s) := by
  unfold finC
  rw [List.getD_eq_getElem?_getD, List.getElem?_map, List.getElem?_map, List.getElem?_range hs]
  rfl
theorem idx_inj {l : List NestedKey} {a b : NestedKey} (ha : a ∈ l) (hb : b ∈ l) (e : l.idxOf a = l.idxOf b) : a = b := by
  have h1 := List.getElem_idxOf (List.idxOf_lt_length_iff.mpr ha)
  have h2 := List.getElem_idxOf (List.idxOf_lt_length_iff.mpr hb)
  have : l[l.idxOf a]? = l[l.idxOf b]? := by rw [e]
  rw [List.getElem?_eq_getElem (List.idxOf_lt_length_iff.mpr ha), List.getElem?_eq_getElem (List.idxOf_lt_length_iff.mpr hb), h1, h2] at this
  exact Option.some.inj this
theorem fin_iff {cs : List Nat} {s t : Nat} (hs : s < m) (ht : t < m) : (finC zs c cs m).getD s 0 = (finC zs c cs m).getD t 0 ↔ keyC zs c cs s = keyC zs c cs t := by
  rw [finC_at hs, finC_at ht]
  refine ⟨fun e => idx_inj (ddK_mem.mpr (List.mem_map_of_mem (List.mem_range.mpr hs))) (ddK_mem.mpr (List.mem_map_of_mem (List.mem_range.mpr ht))) e, fun e => by rw [e]⟩
theorem key_iff {cs : List Nat} {s t : Nat} : keyC zs c cs s = keyC zs c cs t ↔ cs.getD s 0 = cs.getD t 0 ∧ ∀ z ∈ zs, (c z s).1 = (c z t).1 ∧ cs.getD (nx c z s) 0 = cs.getD (nx c z t) 0 := by
  unfold keyC nx
  constructor
  · intro h
    injection h with h
    injection h with h1 h2
    injection h1 with h1
    injection h2 with h2
    injection h2 with h2
    refine ⟨by omega, fun z hz => ?_⟩
    have := List.map_inj_left.mp h2 z hz
    injection this with this
    injection this with a b
    injection a with a
    injection b with b
    injection b with b
    exact ⟨a, by omega⟩
  · intro h
    rw [h.1, List.map_congr_left (g := fun z => NestedKey.tup [.num (c z t).1, .num ((cs.getD (c z t).2.toNat 0 : Nat) : Int)]) fun z hz => by rw [(h.2 z hz).1, (h.2 z hz).2]]
/-- in one class at each turn -/
def Eqc (zs : List Str) (c : Str → Nat → Int × Int) (m s t : Nat) : Prop := ∀ i, (clsC zs c m i).getD s 0 = (clsC zs c m i).getD t 0
theorem Eqc.refl (s : Nat) : Eqc zs c m s s := fun _ => rfl
theorem Eqc.symm {s t : Nat} (h : Eqc zs c m s t) : Eqc zs c m t s := fun i => (h i).symm
theorem Eqc.trans {s t u : Nat} (h : Eqc zs c m s t) (h2 : Eqc zs c m t u) : Eqc zs c m s u := fun i => (h i).trans (h2 i)
theorem Eqc.step {s t : Nat} (h : Eqc zs c m s t) (hs : s < m) (ht : t < m) : ∀ z ∈ zs, (c z s).1 = (c z t).1 ∧ Eqc zs c m (nx c z s) (nx c z t) := fun z hz =>
  ⟨((key_iff.mp ((fin_iff hs ht).mp (h 1))).2 z hz).1, fun i => ((key_iff.mp ((fin_iff hs ht).mp (h (i + 1)))).2 z hz).2⟩
theorem bis_cls {R : Nat → Nat → Prop} (hR : ∀ s t, R s t → s < m ∧ t < m ∧ ∀ z ∈ zs, (c z s).1 = (c z t).1 ∧ R (nx c z s) (nx c z t)) : ∀ i s t, R s t → (clsC zs c m i).getD s 0 = (clsC zs c m i).getD t 0
  | 0, s, t, h => by
    obtain ⟨a, b, _⟩ := hR s t h
    unfold clsC
    rw [List.getD_eq_getElem?_getD, List.getD_eq_getElem?_getD, List.getElem?_replicate, List.getElem?_replicate, if_pos a, if_pos b]
  | i + 1, s, t, h => by
    obtain ⟨a, b, q⟩ := hR s t h
    exact (fin_iff a b).mpr (key_iff.mpr ⟨bis_cls hR i s t h, fun z hz => ⟨(q z hz).1, bis_cls hR i _ _ (q z hz).2⟩⟩)
/-! the number of classes -/
def DdN (l : List Nat) : List Int := dedI (l.map fun x => ((x : Nat) : Int))
theorem dedI_snoc (l : List Int) (x : Int) : dedI (l ++ [x]) = if x ∈ dedI l then dedI l else dedI l ++ [x] := by
  unfold dedI
  rw [List.foldl_append]
  show PyProof.Rows.step_dedup _ x = _
  unfold PyProof.Rows.step_dedup
  simp [List.any_eq_true]
theorem dedI_mem : ∀ {l : List Int} {x : Int}, x ∈ dedI l ↔ x ∈ l := by
  intro l
  refine snocInd (p := fun l => ∀ {x : Int}, x ∈ dedI l ↔ x ∈ l) (fun {x} => Iff.rfl) (fun l y ih => ?_) l
  intro x
  rw [dedI_snoc]
  split
  · rename_i h
    rw [ih, List.mem_append, List.mem_singleton]
    exact ⟨Or.inl, fun z => z.elim id fun e => by rw [e]; exact ih.mp h⟩
  · rw [List.mem_append, List.mem_append, ih]
theorem dedI_nodup (l : List Int) : (dedI l).Nodup := by
  refine snocInd (p := fun l => (dedI l).Nodup) List.nodup_nil (fun l y ih => ?_) l
  rw [dedI_snoc]
  split
  · exact ih
  · rename_i h
    exact List.nodup_append.mpr ⟨ih, by simp, fun x hx y' hy e => h (by rw [List.mem_singleton] at hy; subst hy; rw [← e]; exact hx)⟩
theorem getD_mem {l : List Nat} {s : Nat} (h : s < l.length) : l.getD s 0 ∈ l := by
  rw [List.getD_eq_getElem?_getD, List.getElem?_eq_getElem h]
  exact List.getElem_mem _
theorem D_at {l : List Nat} {s : Nat} (h : s < l.length) : ((l.getD s 0 : Nat) : Int) ∈ DdN l := dedI_mem.mpr (List.mem_map.mpr ⟨_, getD_mem h, rfl⟩)
theorem D_of {l : List Nat} {v : Int} (h : v ∈ DdN l) : ∃ s, s < l.length ∧ ((l.getD s 0 : Nat) : Int) = v := by
  obtain ⟨x, hx, rfl⟩ := List.mem_map.mp (dedI_mem.mp h)
  obtain ⟨i, e⟩ := List.getElem?_of_mem hx
  exact ⟨i, (List.getElem?_eq_some_iff.mp e).1, by rw [List.getD_eq_getElem?_getD, e]; rfl⟩
/-- what is finer has as many classes -/
theorem le_many {l l' : List Nat} (hl : l.length = l'.length) (ref : ∀ s t, s < l.length → t < l.length → l'.getD s 0 = l'.getD t 0 → l.getD s 0 = l.getD t 0) : (DdN l).length ≤ (DdN l').length := by
  have ex : ∀ v : Int, ∃ s, v ∈ DdN l → s < l.length ∧ ((l.getD s 0 : Nat) : Int) = v := fun v => by
    by_cases h : v ∈ DdN l
    · obtain ⟨s, a, b⟩ := D_of h
      exact ⟨s, fun _ => ⟨a, b⟩⟩
    · exact ⟨0, fun z => absurd z h⟩
  obtain ⟨r, hr⟩ := Classical.axiomOfChoice ex
  have nd : ((DdN l).map fun v => ((l'.getD (r v) 0 : Nat) : Int)).Nodup := by
    have := dedI_nodup (l.map fun x => ((x : Nat) : Int))
    refine List.pairwise_map.mpr (List.Pairwise.imp_of_mem (fun {a b} ha hb ne e => ne ?_) this)
    have e2 := ref _ _ (hr a ha).1 (hr b hb).1 (by omega)
    rw [← (hr a ha).2, ← (hr b hb).2, e2]
  have := nodup_lenP nd (m := DdN l') fun x hx => by
    obtain ⟨v, hv, rfl⟩ := List.mem_map.mp hx
    exact D_at (by rw [← hl]; exact (hr v hv).1)
  rwa [List.length_map] at this
theorem lt_many {l l' : List Nat} (hl : l.length = l'.length) (ref : ∀ s t, s < l.length → t < l.length → l'.getD s 0 = l'.getD t 0 → l.getD s 0 = l.getD t 0) {x y : Nat} (hx : x < l.length) (hy : y < l.length) (e : l.getD x 0 = l.getD y 0) (ne : l'.getD x 0 ≠ l'.getD y 0) : (DdN l).length < (DdN l').length := by
  have ex : ∀ v : Int, ∃ s, v ∈ DdN l → s < l.length ∧ ((l.getD s 0 : Nat) : Int) = v ∧ (v = (l.getD x 0 : Nat) → s = x) := fun v => by
    by_cases h : v = (l.getD x 0 : Nat)
    · exact ⟨x, fun _ => ⟨hx, h.symm, fun _ => rfl⟩⟩
    by_cases h2 : v ∈ DdN l
    · obtain ⟨s, a, b⟩ := D_of h2
      exact ⟨s, fun _ => ⟨a, b, fun z => absurd z h⟩⟩
    · exact ⟨0, fun z => absurd z h2⟩
  obtain ⟨r, hr⟩ := Classical.axiomOfChoice ex
  have nd : ((DdN l).map (fun v => ((l'.getD (r v) 0 : Nat) : Int)) ++ [((l'.getD y 0 : Nat) : Int)]).Nodup := by
    have := dedI_nodup (l.map fun x => ((x : Nat) : Int))
    refine List.nodup_append.mpr ⟨List.pairwise_map.mpr (List.Pairwise.imp_of_mem (fun {a b} ha hb ne e => ne ?_) this), by simp, fun a ha b hb e2 => ?_⟩
    · rw [List.mem_singleton] at hb
      subst hb
      obtain ⟨v, hv, rfl⟩ := List.mem_map.mp ha
      have e3 := ref _ _ (hr v hv).1 hy (by omega)
      have := (hr v hv).2.2 (by rw [← (hr v hv).2.1, e3, e])
      rw [this] at e2
      exact ne (by omega)
    · have e2 := ref _ _ (hr a ha).1 (hr b hb).1 (by omega)
      rw [← (hr a ha).2.1, ← (hr b hb).2.1, e2]
  have := nodup_lenP nd (m := DdN l') fun a ha => by
    rcases List.mem_append.mp ha with ha | ha
    · obtain ⟨v, hv, rfl⟩ := List.mem_map.mp ha
      exact D_at (by rw [← hl]; exact (hr v hv).1)
    · rw [List.mem_singleton.mp ha]
      exact D_at (by rw [← hl]; exact hy)
  rw [List.length_append, List.length_map, List.length_singleton] at this
  omega
theorem DdN_le (l : List Nat) : (DdN l).length ≤ l.length := by
  have := nodup_lenP (dedI_nodup (l.map fun x => ((x : Nat) : Int))) fun x hx => dedI_mem.mp hx
  rwa [List.length_map] at this
theorem cls_ref (i : Nat) : ∀ s t, s < m → t < m → (clsC zs c m (i + 1)).getD s 0 = (clsC zs c m (i + 1)).getD t 0 → (clsC zs c m i).getD s 0 = (clsC zs c m i).getD t 0 := fun s t hs ht e => (key_iff.mp ((fin_iff hs ht).mp e)).1
theorem manyC_mono (i : Nat) : manyC zs c m i ≤ manyC zs c m (i + 1) :=
  le_many (by rw [clsC_len, clsC_len]) fun s t hs ht => cls_ref i s t (by rwa [clsC_len] at hs) (by rwa [clsC_len] at ht)
/-- where it gets no finer, a class is for ever -/
theorem stable_eqc (hn : Nx zs m c) {i : Nat} (h : manyC zs c m (i + 1) ≤ manyC zs c m i) {s t : Nat} (hs : s < m) (ht : t < m) : (clsC zs c m (i + 1)).getD s 0 = (clsC zs c m (i + 1)).getD t 0 ↔ Eqc zs c m s t := by
  have back : ∀ x y, x < m → y < m → (clsC zs c m i).getD x 0 = (clsC zs c m i).getD y 0 → (clsC zs c m (i + 1)).getD x 0 = (clsC zs c m (i + 1)).getD y 0 := fun x y hx hy e => by
    refine Classical.byContradiction fun ne => ?_
    have := lt_many (l := clsC zs c m i) (l' := clsC zs c m (i + 1)) (by rw [clsC_len, clsC_len]) (fun s t hs ht => cls_ref i s t (by rwa [clsC_len] at hs) (by rwa [clsC_len] at ht)) (by rwa [clsC_len]) (by rwa [clsC_len]) e ne
    unfold manyC at h
    exact absurd this (by unfold DdN; omega)
  refine ⟨fun e => fun j => bis_cls (R := fun s t => s < m ∧ t < m ∧ (clsC zs c m (i + 1)).getD s 0 = (clsC zs c m (i + 1)).getD t 0) (fun s t h => ⟨h.1, h.2.1, fun z hz => ?_⟩) j s t ⟨hs, ht, e⟩, fun e => e _⟩
  have q := (key_iff.mp ((fin_iff h.1 h.2.1).mp h.2.2)).2 z hz
  exact ⟨q.1, hn z hz _ h.1, hn z hz _ h.2.1, back _ _ (hn z hz _ h.1) (hn z hz _ h.2.1) q.2⟩
end
/-! the leaders: the first ones of each class, in the order of a list -/
open Classical in
noncomputable def leadC (E : Nat → Nat → Prop) (f : List Nat) : List Nat := f.foldl (fun acc s => if ∃ t ∈ acc, E t s then acc else acc ++ [s]) []
open Classical in
noncomputable def numC (E : Nat → Nat → Prop) (f : List Nat) (s : Nat) : Nat := (leadC E f).findIdx fun t => decide (E t s)
structure Eqv (E : Nat → Nat → Prop) : Prop where
  refl : ∀ s, E s s
  symm : ∀ {s t}, E s t → E t s
  trans : ∀ {s t u}, E s t → E t u → E s u
section
variable {E : Nat → Nat → Prop} {f : List Nat}
open Classical in
theorem lead_snoc (f : List Nat) (s : Nat) : leadC E (f ++ [s]) = if ∃ t ∈ leadC E f, E t s then leadC E f else leadC E f ++ [s] := by
  unfold leadC
  rw [List.foldl_append]
  rfl
theorem lead_old {s : Nat} (h : ∃ t ∈ leadC E f, E t s) : leadC E (f ++ [s]) = leadC E f := by rw [lead_snoc, if_pos h]
theorem lead_new {s : Nat} (h : ¬ ∃ t ∈ leadC E f, E t s) : leadC E (f ++ [s]) = leadC E f ++ [s] := by rw [lead_snoc, if_neg h]
theorem lead_sub : ∀ t ∈ leadC E f, t ∈ f := by
  refine snocInd (p := fun f => ∀ t ∈ leadC E f, t ∈ f) (fun t h => h) (fun l x ih => ?_) f
  intro t ht
  by_cases h : ∃ t ∈ leadC E l, E t x
  · rw [lead_old h] at ht
    exact List.mem_append_left _ (ih t ht)
  · rw [lead_new h] at ht
    rcases List.mem_append.mp ht with ht | ht
    · exact List.mem_append_left _ (ih t ht)
    · exact List.mem_append_right _ ht
theorem lead_apart : (leadC E f).Pairwise fun a b => ¬ E a b := by
  refine snocInd (p := fun f => (leadC E f).Pairwise fun a b => ¬ E a b) List.Pairwise.nil (fun l x ih => ?_) f
  by_cases h : ∃ t ∈ leadC E l, E t x
  · rw [lead_old h]; exact ih
  · rw [lead_new h]
    exact List.pairwise_append.mpr ⟨ih, List.pairwise_singleton _ _, fun a ha b hb e => h ⟨a, ha, by rw [← List.mem_singleton.mp hb]; exact e⟩⟩
theorem lead_has (hE : Eqv E) : ∀ s ∈ f, ∃ t ∈ leadC E f, E t s := by
  refine snocInd (p := fun f => ∀ s ∈ f, ∃ t ∈ leadC E f, E t s) (fun s h => nomatch h) (fun l x ih => ?_) f
  intro s hs
  by_cases h : ∃ t ∈ leadC E l, E t x
  · rw [lead_old h]
    rcases List.mem_append.mp hs with hs | hs
    · exact ih s hs
    · rw [List.mem_singleton.mp hs]; exact h
  · rw [lead_new h]
    rcases List.mem_append.mp hs with hs | hs
    · obtain ⟨t, a, b⟩ := ih s hs
      exact ⟨t, List.mem_append_left _ a, b⟩
    · rw [List.mem_singleton.mp hs]
      exact ⟨x, List.mem_append_right _ List.mem_cons_self, hE.refl x⟩
theorem lead_pre (f g : List Nat) : leadC E f <+: leadC E (f ++ g) := by
  refine snocInd (p := fun g => leadC E f <+: leadC E (f ++ g)) (by rw [List.append_nil]; exact List.prefix_refl _) (fun l x ih => ?_) g
  rw [← List.append_assoc]
  by_cases h : ∃ t ∈ leadC E (f ++ l), E t x
  · rw [lead_old h]; exact ih
  · rw [lead_new h]; exact ih.trans (List.prefix_append _ _)
theorem lead_pre2 {f g : List Nat} (h : f <+: g) : leadC E f <+: leadC E g := by
  obtain ⟨t, rfl⟩ := h
  exact lead_pre f t
theorem lead_len : (leadC E f).length ≤ f.length := by
  refine snocInd (p := fun f => (leadC E f).length ≤ f.length) (Nat.le_refl _) (fun l x ih => ?_) f
  rw [List.length_append, List.length_singleton]
  by_cases h : ∃ t ∈ leadC E l, E t x
  · rw [lead_old h]; omega
  · rw [lead_new h, List.length_append, List.length_singleton]; omega
/-- the number tells the leader -/
theorem num_at {s k t : Nat} (hE : Eqv E) (e : (leadC E f)[k]? = some t) (h : E t s) : numC E f s = k := by
  obtain ⟨hk, rfl⟩ := List.getElem?_eq_some_iff.mp e
  unfold numC
  refine (List.findIdx_eq hk).mpr ⟨by simpa using h, fun j hj => ?_⟩
  have := List.pairwise_iff_getElem.mp (lead_apart (E := E) (f := f)) j k (by omega) hk hj
  simp only [decide_eq_false_iff_not]
  exact fun z => this (hE.trans z (hE.symm h))
theorem num_lead {s : Nat} (hE : Eqv E) (hs : s ∈ f) : ∃ t, (leadC E f)[numC E f s]? = some t ∧ E t s := by
  obtain ⟨t, ht, e⟩ := lead_has hE s hs
  obtain ⟨k, hk⟩ := List.getElem?_of_mem ht
  exact ⟨t, by rw [num_at hE hk e]; exact hk, e⟩
theorem num_lt {s : Nat} (hE : Eqv E) (hs : s ∈ f) : numC E f s < (leadC E f).length := by
  obtain ⟨t, e, _⟩ := num_lead hE hs
  exact (List.getElem?_eq_some_iff.mp e).1
theorem num_eq {s t : Nat} (hE : Eqv E) (hs : s ∈ f) (h : E s t) : numC E f s = numC E f t := by
  obtain ⟨u, e, hu⟩ := num_lead hE hs
  exact (num_at hE e (hE.trans hu h)).symm
theorem num_inj {s t : Nat} (hE : Eqv E) (hs : s ∈ f) (ht : t ∈ f) (h : numC E f s = numC E f t) : E s t := by
  obtain ⟨u, e, hu⟩ := num_lead hE hs
  obtain ⟨u2, e2, hu2⟩ := num_lead hE ht
  rw [h, e2] at e
  cases e
  exact hE.trans (hE.symm hu) hu2
/-- what is behind a beginning -/
theorem num_pre {A f : List Nat} {x : Nat} (hE : Eqv E) (h : A <+: f) (hx : ∃ t ∈ leadC E A, E t x) : numC E f x < (leadC E A).length := by
  obtain ⟨t, ht, e⟩ := hx
  obtain ⟨k, hk⟩ := List.getElem?_of_mem ht
  obtain ⟨r, hr⟩ := lead_pre2 (E := E) h
  have kl := (List.getElem?_eq_some_iff.mp hk).1
  have : (leadC E f)[k]? = some t := by rw [← hr, List.getElem?_append_left kl]; exact hk
  rw [num_at hE this e]
  exact kl
/-! the search -/
end
def noteC (c : Str → Nat → Int × Int) (s : Nat) (f : List Nat) (z : Str) : List Nat := if nx c z s ∈ f then f else f ++ [nx c z s]
def visitC (c : Str → Nat → Int × Int) (s : Nat) (zs : List Str) (f : List Nat) : List Nat := zs.foldl (noteC c s) f
def fndC (zs : List Str) (c : Str → Nat → Int × Int) (first : Nat) : Nat → List Nat
  | 0 => [first]
  | i + 1 => match (fndC zs c first i)[i]? with
    | some s => visitC c s zs (fndC zs c first i)
    | none => fndC zs c first i
section
variable {zs : List Str} {c c' : Str → Nat → Int × Int} {m : Nat}
def FOk (m : Nat) (f : List Nat) : Prop := f.Nodup ∧ ∀ x ∈ f, x < m
theorem noteC_ok {s : Nat} {f : List Nat} {z : Str} (h : FOk m f) (hn : nx c z s < m) : FOk m (noteC c s f z) := by
  unfold noteC
  split
  · exact h
  · rename_i hq
    refine ⟨List.nodup_append.mpr ⟨h.1, by simp, fun x hx y hy e => hq (by rw [List.mem_singleton.mp hy] at e; rw [← e]; exact hx)⟩, fun x hx => ?_⟩
    rcases List.mem_append.mp hx with hx | hx
    · exact h.2 x hx
    · rw [List.mem_singleton.mp hx]; exact hn
theorem visitC_ok {s : Nat} : ∀ {zs : List Str} {f : List Nat}, (∀ z ∈ zs, nx c z s < m) → FOk m f → FOk m (visitC c s zs f)
  | [], _, _, h => h
  | z :: zs, f, hz, h => visitC_ok (zs := zs) (f := noteC c s f z) (fun y hy => hz y (List.mem_cons_of_mem _ hy)) (noteC_ok h (hz z List.mem_cons_self))
theorem fndC_ok {first : Nat} (hn : Nx zs m c) (hf : first < m) : ∀ i, FOk m (fndC zs c first i)
  | 0 => ⟨by simp [fndC], fun x hx => by rw [List.mem_singleton.mp hx]; exact hf⟩
  | i + 1 => by
    have ih := fndC_ok hn hf i
    unfold fndC
    split
    · rename_i s e
      exact visitC_ok (fun z hz => hn z hz s (ih.2 s (List.mem_of_getElem? e))) ih
    · exact ih
theorem FOk.len {f : List Nat} (h : FOk m f) : f.length ≤ m := by
  have := nodup_lenP h.1 (m := List.range m) fun x hx => List.mem_range.mpr (h.2 x hx)
  rwa [List.length_range] at this
theorem noteC_pre {s : Nat} {f : List Nat} {z : Str} : f <+: noteC c s f z := by
  unfold noteC
  split
  · exact List.prefix_refl _
  · exact List.prefix_append _ _
theorem visitC_pre {s : Nat} : ∀ {zs : List Str} {f : List Nat}, f <+: visitC c s zs f
  | [], f => List.prefix_refl _
  | z :: zs, f => noteC_pre.trans (visitC_pre (zs := zs) (f := noteC c s f z))
theorem fndC_pre1 {first : Nat} (i : Nat) : fndC zs c first i <+: fndC zs c first (i + 1) := by
  show _ <+: (match (fndC zs c first i)[i]? with | some s => visitC c s zs (fndC zs c first i) | none => fndC zs c first i)
  split
  · exact visitC_pre
  · exact List.prefix_refl _
theorem fndC_pre {first : Nat} (i : Nat) : ∀ k, fndC zs c first i <+: fndC zs c first (i + k)
  | 0 => List.prefix_refl _
  | k + 1 => (fndC_pre i k).trans (fndC_pre1 (i + k))
theorem fndC_succ {f0 i s : Nat} (e : (fndC zs c f0 i)[i]? = some s) : fndC zs c f0 (i + 1) = visitC c s zs (fndC zs c f0 i) := by
  show (match (fndC zs c f0 i)[i]? with | some s => visitC c s zs (fndC zs c f0 i) | none => fndC zs c f0 i) = _
  rw [e]
theorem fndC_stop {f0 i : Nat} (e : (fndC zs c f0 i).length ≤ i) : fndC zs c f0 (i + 1) = fndC zs c f0 i := by
  show (match (fndC zs c f0 i)[i]? with | some s => visitC c s zs (fndC zs c f0 i) | none => fndC zs c f0 i) = _
  rw [List.getElem?_eq_none e]
theorem fndC_stable {f0 i : Nat} (e : (fndC zs c f0 i).length ≤ i) : ∀ k, fndC zs c f0 (i + k) = fndC zs c f0 i
  | 0 => rfl
  | k + 1 => by
    have ih := fndC_stable e k
    rw [← Nat.add_assoc, fndC_stop (by rw [ih]; omega), ih]
/-- all that is found -/
theorem fndC_all {f0 i : Nat} (hn : Nx zs m c) (hf : f0 < m) (e : i = (fndC zs c f0 i).length) : fndC zs c f0 i = fndC zs c f0 m := by
  have hl := (fndC_ok hn hf i).len
  have := fndC_stable (show (fndC zs c f0 i).length ≤ i by omega) (m - i)
  rw [show i + (m - i) = m by omega] at this
  exact this.symm
theorem visitC_has {s : Nat} : ∀ {zs : List Str} {f : List Nat}, ∀ z ∈ zs, nx c z s ∈ visitC c s zs f
  | [], _, _, h => nomatch h
  | y :: zs, f, z, h => by
    rcases List.mem_cons.mp h with rfl | h
    · have h1 : nx c z s ∈ noteC c s f z := by
        unfold noteC
        split
        · assumption
        · exact List.mem_append_right _ List.mem_cons_self
      exact (visitC_pre (zs := zs) (f := noteC c s f z)).subset h1
    · exact visitC_has (zs := zs) (f := noteC c s f y) z h
/-- those asked lead within -/
theorem fndC_closed {f0 : Nat} : ∀ i, ∀ s ∈ (fndC zs c f0 i).take i, ∀ z ∈ zs, nx c z s ∈ fndC zs c f0 i
  | 0, s, h, _, _ => by rw [List.take_zero] at h; cases h
  | i + 1, s, h, z, hz => by
    have ih := fndC_closed (f0 := f0) i
    by_cases hi : i < (fndC zs c f0 i).length
    · have es : (fndC zs c f0 i)[i]? = some (fndC zs c f0 i)[i] := List.getElem?_eq_getElem hi
      rw [fndC_succ es] at h ⊢
      obtain ⟨r, hr⟩ := visitC_pre (c := c) (s := (fndC zs c f0 i)[i]) (zs := zs) (f := fndC zs c f0 i)
      rw [← hr, List.take_append_of_le_length (by omega), List.take_succ, List.getElem?_eq_getElem hi] at h
      rcases List.mem_append.mp h with h | h
      · exact visitC_pre.subset (ih s h z hz)
      · have : s = (fndC zs c f0 i)[i] := by simpa using h
        rw [this]
        exact visitC_has z hz
    · rw [fndC_stop (by omega)] at h ⊢
      rw [List.take_of_length_le (by omega)] at h
      exact ih s (by rw [List.take_of_length_le (by omega)]; exact h) z hz
theorem fndC_full {f0 : Nat} (hn : Nx zs m c) (hf : f0 < m) : ∀ s ∈ fndC zs c f0 m, ∀ z ∈ zs, nx c z s ∈ fndC zs c f0 m := fun s hs z hz =>
  fndC_closed m s (by rw [List.take_of_length_le (fndC_ok hn hf m).len]; exact hs) z hz
theorem fndC_head {f0 : Nat} (i : Nat) : (fndC zs c f0 i)[0]? = some f0 := by
  obtain ⟨r, hr⟩ := fndC_pre (zs := zs) (c := c) (first := f0) 0 i
  rw [Nat.zero_add] at hr
  rw [← hr]
  rfl
theorem noteC_congr {s : Nat} {f : List Nat} {z : Str} (h : c z s = c' z s) : noteC c s f z = noteC c' s f z := by
  unfold noteC nx
  rw [h]
theorem visitC_congr {s : Nat} : ∀ {zs : List Str} {f : List Nat}, (∀ z ∈ zs, c z s = c' z s) → visitC c s zs f = visitC c' s zs f
  | [], _, _ => rfl
  | z :: zs, f, h => by
    show visitC c s zs (noteC c s f z) = visitC c' s zs (noteC c' s f z)
    rw [noteC_congr (h z List.mem_cons_self), visitC_congr fun y hy => h y (List.mem_cons_of_mem _ hy)]
theorem fndC_congr {f0 : Nat} (hn : Nx zs m c) (hf : f0 < m) (h : ∀ z ∈ zs, ∀ s, s < m → c z s = c' z s) : ∀ i, fndC zs c f0 i = fndC zs c' f0 i
  | 0 => rfl
  | i + 1 => by
    have ih := fndC_congr hn hf h i
    by_cases hi : i < (fndC zs c f0 i).length
    · have es : (fndC zs c f0 i)[i]? = some (fndC zs c f0 i)[i] := List.getElem?_eq_getElem hi
      have hs := (fndC_ok hn hf i).2 _ (List.getElem_mem hi)
      generalize (fndC zs c f0 i)[i] = s at es hs
      rw [fndC_succ es, visitC_congr fun z hz => h z hz _ hs]
      rw [fndC_succ (zs := zs) (c := c') (s := s) (by rw [← ih]; exact es), ih]
    · rw [fndC_stop (by omega), fndC_stop (by rw [← ih]; omega), ih]
end
/-! the least table -/
theorem eqc_eqv {zs : List Str} {c : Str → Nat → Int × Int} {m : Nat} : Eqv (Eqc zs c m) := ⟨Eqc.refl, Eqc.symm, Eqc.trans⟩
/-- its cells -/
noncomputable def leastC (E : Nat → Nat → Prop) (f : List Nat) (c : Str → Nat → Int × Int) (z : Str) (k : Nat) : Int × Int := ((c z ((leadC E f).getD k 0)).1, ((numC E f (nx c z ((leadC E f).getD k 0)) : Nat) : Int))
section
variable {zs : List Str} {c c' : Str → Nat → Int × Int} {m f0 : Nat}
/-- all that the least table takes from a table -/
structure LeF (zs : List Str) (c : Str → Nat → Int × Int) (m f0 : Nat) (f : List Nat) : Prop where
  nxt : Nx zs m c
  lt : f0 < m
  all : f = fndC zs c f0 m
section
variable {f : List Nat} (h : LeF zs c m f0 f)
include h
theorem LeF.in' {s : Nat} (hs : s ∈ f) : s < m := (fndC_ok h.nxt h.lt m).2 s (by rw [← h.all]; exact hs)
theorem LeF.clo {s : Nat} (hs : s ∈ f) {z : Str} (hz : z ∈ zs) : nx c z s ∈ f := by
  rw [h.all] at hs ⊢
  exact fndC_full h.nxt h.lt s hs z hz
theorem LeF.fst : f0 ∈ f := by rw [h.all]; exact List.mem_of_getElem? (fndC_head m)
theorem LeF.len : f.length ≤ m := by rw [h.all]; exact (fndC_ok h.nxt h.lt m).len
theorem LeF.num0 : numC (Eqc zs c m) f f0 = 0 := by
  have e : f[0]? = some f0 := by rw [h.all]; exact fndC_head m
  obtain ⟨r, rfl⟩ : ∃ r, f = f0 :: r := by
    cases f with
    | nil => cases e
    | cons a r => cases e; exact ⟨r, rfl⟩
  obtain ⟨q, hq⟩ := lead_pre (E := Eqc zs c m) [f0] r
  refine num_at (t := f0) eqc_eqv ?_ (Eqc.refl f0)
  have e2 : f0 :: r = [f0] ++ r := rfl
  have e3 : leadC (Eqc zs c m) [f0] = [f0] := by
    have := lead_new (E := Eqc zs c m) (f := []) (s := f0) (fun ⟨_, z, _⟩ => nomatch z)
    exact this
  rw [e2, ← hq, e3]
  rfl
theorem LeF.bnd : 1 ≤ (leadC (Eqc zs c m) f).length ∧ (leadC (Eqc zs c m) f).length ≤ m := ⟨Nat.lt_of_le_of_lt (Nat.zero_le _) (num_lt eqc_eqv h.fst), Nat.le_trans lead_len h.len⟩
/-- a state and its leader -/
theorem LeF.mate {s : Nat} (hs : s ∈ f) : ∃ t, (leadC (Eqc zs c m) f).getD (numC (Eqc zs c m) f s) 0 = t ∧ t ∈ f ∧ Eqc zs c m t s := by
  obtain ⟨t, e, q⟩ := num_lead eqc_eqv hs
  exact ⟨t, by rw [List.getD_eq_getElem?_getD, e]; rfl, lead_sub t (List.mem_of_getElem? e), q⟩
theorem LeF.ans {s : Nat} (hs : s ∈ f) {z : Str} (hz : z ∈ zs) : leastC (Eqc zs c m) f c z (numC (Eqc zs c m) f s) = ((c z s).1, ((numC (Eqc zs c m) f (nx c z s) : Nat) : Int)) := by
  obtain ⟨t, e, ht, q⟩ := h.mate hs
  unfold leastC
  rw [e]
  obtain ⟨a, b⟩ := q.step (h.in' ht) (h.in' hs) z hz
  rw [a, num_eq eqc_eqv (h.clo ht hz) b]
theorem LeF.lead_mem {k : Nat} (hk : k < (leadC (Eqc zs c m) f).length) : (leadC (Eqc zs c m) f).getD k 0 ∈ f ∧ numC (Eqc zs c m) f ((leadC (Eqc zs c m) f).getD k 0) = k := by
  have e : (leadC (Eqc zs c m) f)[k]? = some (leadC (Eqc zs c m) f)[k] := List.getElem?_eq_getElem hk
  rw [List.getD_eq_getElem?_getD, e]
  exact ⟨lead_sub _ (List.mem_of_getElem? e), num_at eqc_eqv e (Eqc.refl _)⟩
theorem LeF.nx2 : Nx zs (leadC (Eqc zs c m) f).length (leastC (Eqc zs c m) f c) := fun z hz k hk => by
  have q := h.lead_mem hk
  have := num_lt (E := Eqc zs c m) eqc_eqv (h.clo q.1 hz)
  show Int.toNat ((numC (Eqc zs c m) f (nx c z ((leadC (Eqc zs c m) f).getD k 0)) : Nat) : Int) < _
  omega
/-- no two of its states are alike -/
theorem LeF.apart {a b : Nat} (ha : a < (leadC (Eqc zs c m) f).length) (hb : b < (leadC (Eqc zs c m) f).length) (e : Eqc zs (leastC (Eqc zs c m) f c) (leadC (Eqc zs c m) f).length a b) : a = b := by
  obtain ⟨a1, a2⟩ := h.lead_mem ha
  obtain ⟨b1, b2⟩ := h.lead_mem hb
  have : Eqc zs c m ((leadC (Eqc zs c m) f).getD a 0) ((leadC (Eqc zs c m) f).getD b 0) := fun i => by
    refine bis_cls (R := fun s t => s ∈ f ∧ t ∈ f ∧ Eqc zs (leastC (Eqc zs c m) f c) (leadC (Eqc zs c m) f).length (numC (Eqc zs c m) f s) (numC (Eqc zs c m) f t)) (fun s t hst => ⟨h.in' hst.1, h.in' hst.2.1, fun z hz => ?_⟩) i _ _ ⟨a1, b1, by rw [a2, b2]; exact e⟩
    obtain ⟨p, q⟩ := hst.2.2.step (num_lt eqc_eqv hst.1) (num_lt eqc_eqv hst.2.1) z hz
    rw [h.ans hst.1 hz, h.ans hst.2.1 hz] at p
    refine ⟨p, h.clo hst.1 hz, h.clo hst.2.1 hz, ?_⟩
    unfold nx at q
    rw [h.ans hst.1 hz, h.ans hst.2.1 hz] at q
    exact q
  rw [← a2, ← b2]
  exact num_eq eqc_eqv a1 this
/-- its search finds the numbers in order -/
theorem LeF.visit {s : Nat} (hs : s ∈ f) : ∀ {ys : List Str}, (∀ z ∈ ys, z ∈ zs) → ∀ {A : List Nat}, visitC c s ys A <+: f → visitC (leastC (Eqc zs c m) f c) (numC (Eqc zs c m) f s) ys (List.range (leadC (Eqc zs c m) A).length) = List.range (leadC (Eqc zs c m) (visitC c s ys A)).length
  | [], _, A, _ => rfl
  | z :: ys, hy, A, hA => by
    have hz := hy z List.mem_cons_self
    have hA1 : noteC c s A z <+: f := (visitC_pre (c := c) (s := s) (zs := ys) (f := noteC c s A z)).trans hA
    have hA0 : A <+: f := (noteC_pre (c := c) (s := s)).trans hA1
    have e1 : nx (leastC (Eqc zs c m) f c) z (numC (Eqc zs c m) f s) = numC (Eqc zs c m) f (nx c z s) := by
      show Int.toNat _ = _
      rw [h.ans hs hz, Int.toNat_natCast]
    have st : noteC (leastC (Eqc zs c m) f c) (numC (Eqc zs c m) f s) (List.range (leadC (Eqc zs c m) A).length) z = List.range (leadC (Eqc zs c m) (noteC c s A z)).length := by
      unfold noteC at hA1 ⊢
      rw [e1]
      by_cases hin : nx c z s ∈ A
      · have := num_pre (E := Eqc zs c m) eqc_eqv hA0 (lead_has eqc_eqv _ hin)
        rw [if_pos hin, if_pos (List.mem_range.mpr this)]
      · rw [if_neg hin] at hA1 ⊢
        by_cases hm : ∃ t ∈ leadC (Eqc zs c m) A, Eqc zs c m t (nx c z s)
        · rw [lead_old hm, if_pos (List.mem_range.mpr (num_pre eqc_eqv hA0 hm))]
        · have e2 := lead_new hm
          obtain ⟨r, hr⟩ := lead_pre2 (E := Eqc zs c m) hA1
          have e3 : (leadC (Eqc zs c m) f)[(leadC (Eqc zs c m) A).length]? = some (nx c z s) := by
            rw [← hr, e2, List.append_assoc, List.getElem?_append_right (Nat.le_refl _), Nat.sub_self]
            rfl
          rw [num_at eqc_eqv e3 (Eqc.refl _), if_neg (by rw [List.mem_range]; omega), e2, List.length_append, List.length_singleton, List.range_succ]
    show visitC _ _ ys (noteC _ _ _ z) = List.range (leadC _ (visitC c s ys (noteC c s A z))).length
    rw [st]
    exact LeF.visit hs (ys := ys) (fun y hh => hy y (List.mem_cons_of_mem _ hh)) hA
theorem LeF.order : ∀ i, fndC zs (leastC (Eqc zs c m) f c) 0 (leadC (Eqc zs c m) ((fndC zs c f0 i).take i)).length = List.range (leadC (Eqc zs c m) (fndC zs c f0 i)).length
  | 0 => by
    have e : leadC (Eqc zs c m) [f0] = [f0] := lead_new (E := Eqc zs c m) (f := []) (s := f0) (fun ⟨_, z, _⟩ => nomatch z)
    show fndC zs _ 0 (leadC _ []).length = List.range (leadC _ [f0]).length
    rw [e]
    rfl
  | i + 1 => by
    have ih := LeF.order i
    have fpre : ∀ j, fndC zs c f0 j <+: f := fun j => by
      rw [h.all]
      by_cases hj : j ≤ m
      · have := fndC_pre (zs := zs) (c := c) (first := f0) j (m - j)
        rwa [show j + (m - j) = m by omega] at this
      · have := fndC_stable (zs := zs) (c := c) (f0 := f0) (fndC_ok h.nxt h.lt m).len (j - m)
        rw [show m + (j - m) = j by omega] at this
        rw [this]
        exact List.prefix_refl _
    by_cases hi : i < (fndC zs c f0 i).length
    · have es : (fndC zs c f0 i)[i]? = some (fndC zs c f0 i)[i] := List.getElem?_eq_getElem hi
      have pre1 := fpre (i + 1)
      have pre0 := fpre i
      have clo := fndC_closed (zs := zs) (c := c) (f0 := f0) i
      have pre2 : (fndC zs c f0 i).take (i + 1) <+: fndC zs c f0 i := List.take_prefix _ _
      have et : (fndC zs c f0 (i + 1)).take (i + 1) = (fndC zs c f0 i).take i ++ [(fndC zs c f0 i)[i]] := by
        obtain ⟨r, hr⟩ := fndC_pre1 (zs := zs) (c := c) (first := f0) i
        rw [← hr, List.take_append_of_le_length (by omega), List.take_succ, List.getElem?_eq_getElem hi]
        rfl
      have e4 : (fndC zs c f0 i).take (i + 1) = (fndC zs c f0 i).take i ++ [(fndC zs c f0 i)[i]] := by
        rw [List.take_succ, List.getElem?_eq_getElem hi]; rfl
      rw [et]
      rw [e4] at pre2
      rw [fndC_succ es] at pre1 ⊢
      generalize (fndC zs c f0 i)[i] = s at *
      have hs : s ∈ f := pre0.subset (List.mem_of_getElem? es)
      generalize hT : (fndC zs c f0 i).take i = T at *
      generalize fndC zs c f0 i = A at *
      by_cases hm : ∃ t ∈ leadC (Eqc zs c m) T, Eqc zs c m t s
      · rw [lead_old hm, ih]
        obtain ⟨t, ht, e⟩ := hm
        have tT := lead_sub t ht
        have tf : t ∈ f := pre0.subset (by rw [← hT] at tT; exact List.mem_of_mem_take tT)
        have key : ∀ ys : List Str, (∀ z ∈ ys, z ∈ zs) → ∀ B, A <+: B → leadC (Eqc zs c m) (visitC c s ys B) = leadC (Eqc zs c m) B := by
          intro ys
          induction ys with
          | nil => intro _ B _; rfl
          | cons z ys ihy =>
            intro hy B hB
            have e5 : leadC (Eqc zs c m) (noteC c s B z) = leadC (Eqc zs c m) B := by
              unfold noteC
              split
              · rfl
              · have z1 := hy z List.mem_cons_self
                obtain ⟨u, hu, hu2⟩ := lead_has (E := Eqc zs c m) eqc_eqv _ (hB.subset (clo t tT z z1))
                exact lead_old ⟨u, hu, hu2.trans (e.step (h.in' tf) (h.in' hs) z z1).2⟩
            show leadC _ (visitC c s ys (noteC c s B z)) = _
            rw [ihy (fun y hh => hy y (List.mem_cons_of_mem _ hh)) _ (hB.trans noteC_pre), e5]
        rw [key zs (fun z hz => hz) A (List.prefix_refl _)]
      · rw [lead_new hm, List.length_append, List.length_singleton]
        obtain ⟨r, hr⟩ := (lead_pre2 (E := Eqc zs c m) pre2)
        rw [lead_new hm] at hr
        obtain ⟨r2, hr2⟩ := lead_pre2 (E := Eqc zs c m) pre0
        have e6 : (leadC (Eqc zs c m) f)[(leadC (Eqc zs c m) T).length]? = some s := by
          rw [← hr2, ← hr, List.append_assoc, List.append_assoc, List.getElem?_append_right (Nat.le_refl _), Nat.sub_self]
          rfl
        have e7 := num_at eqc_eqv e6 (Eqc.refl s)
        have lt : (leadC (Eqc zs c m) T).length < (leadC (Eqc zs c m) A).length := by
          rw [← hr, List.length_append, List.length_append, List.length_singleton]; omega
        have e8 : (fndC zs (leastC (Eqc zs c m) f c) 0 (leadC (Eqc zs c m) T).length)[(leadC (Eqc zs c m) T).length]? = some (leadC (Eqc zs c m) T).length := by
          rw [ih, List.getElem?_range lt]
        rw [fndC_succ e8, ih]
        have := h.visit hs (ys := zs) (fun z hz => hz) (A := A) pre1
        rw [e7] at this
        exact this
    · have e1 := fndC_stop (zs := zs) (c := c) (f0 := f0) (i := i) (by omega)
      rw [e1, List.take_of_length_le (by omega)]
      rw [List.take_of_length_le (by omega)] at ih
      exact ih
/-- all of them -/
theorem LeF.order_all : fndC zs (leastC (Eqc zs c m) f c) 0 (leadC (Eqc zs c m) f).length = List.range (leadC (Eqc zs c m) f).length := by
  have := h.order m
  rwa [← h.all, List.take_of_length_le h.len] at this
end
/-- the count of what a list of classes tells -/
theorem count_lead {E : Nat → Nat → Prop} (b : Nat → Nat) (hE : Eqv E) : ∀ f : List Nat, (∀ s ∈ f, ∀ t ∈ f, b s = b t ↔ E s t) → (DdN (f.map b)).length = (leadC E f).length ∧ ∀ x, x ∈ DdN (f.map b) ↔ ∃ t ∈ leadC E f, ((b t : Nat) : Int) = x := by
  intro f
  refine snocInd (p := fun f => (∀ s ∈ f, ∀ t ∈ f, b s = b t ↔ E s t) → (DdN (f.map b)).length = (leadC E f).length ∧ ∀ x, x ∈ DdN (f.map b) ↔ ∃ t ∈ leadC E f, ((b t : Nat) : Int) = x) (fun _ => ⟨rfl, fun x => ⟨fun z => (nomatch z), fun ⟨_, z, _⟩ => (nomatch z)⟩⟩) (fun l s ih => ?_) f
  intro hb
  obtain ⟨i1, i2⟩ := ih fun s hs t ht => hb s (List.mem_append_left _ hs) t (List.mem_append_left _ ht)
  have es : DdN ((l ++ [s]).map b) = if ((b s : Nat) : Int) ∈ DdN (l.map b) then DdN (l.map b) else DdN (l.map b) ++ [((b s : Nat) : Int)] := by
    unfold DdN
    rw [List.map_append, List.map_append]
    exact dedI_snoc _ _
  have hs : s ∈ l ++ [s] := List.mem_append_right _ List.mem_cons_self
  by_cases hm : ∃ t ∈ leadC E l, E t s
  · have : ((b s : Nat) : Int) ∈ DdN (l.map b) := by
      obtain ⟨t, ht, e⟩ := hm
      refine (i2 _).mpr ⟨t, ht, ?_⟩
      rw [(hb t (List.mem_append_left _ (lead_sub t ht)) s hs).mpr e]
    rw [es, if_pos this, lead_old hm]
    exact ⟨i1, i2⟩
  · have : ((b s : Nat) : Int) ∉ DdN (l.map b) := fun z => by
      obtain ⟨t, ht, e⟩ := (i2 _).mp z
      exact hm ⟨t, ht, (hb t (List.mem_append_left _ (lead_sub t ht)) s hs).mp (by omega)⟩
    rw [es, if_neg this, lead_new hm, List.length_append, List.length_append, i1]
    refine ⟨rfl, fun x => ⟨fun hx => ?_, fun hx => ?_⟩⟩
    · rcases List.mem_append.mp hx with hx | hx
      · obtain ⟨t, ht, e⟩ := (i2 x).mp hx
        exact ⟨t, List.mem_append_left _ ht, e⟩
      · exact ⟨s, List.mem_append_right _ List.mem_cons_self, (List.mem_singleton.mp hx).symm⟩
    · obtain ⟨t, ht, e⟩ := hx
      rcases List.mem_append.mp ht with ht | ht
      · exact List.mem_append_left _ ((i2 x).mpr ⟨t, ht, e⟩)
      · rw [List.mem_singleton.mp ht] at e
        exact List.mem_append_right _ (List.mem_singleton.mpr e.symm)
/-- of states all apart the least table is the table -/
theorem lead_self {E : Nat → Nat → Prop} (hE : Eqv E) : ∀ f : List Nat, f.Nodup → (∀ s ∈ f, ∀ t ∈ f, E s t → s = t) → leadC E f = f := by
  intro f
  refine snocInd (p := fun f => f.Nodup → (∀ s ∈ f, ∀ t ∈ f, E s t → s = t) → leadC E f = f) (fun _ _ => rfl) (fun l s ih => ?_) f
  intro nd h
  have nd' := List.nodup_append.mp nd
  have ihl := ih nd'.1 fun a ha b hb => h a (List.mem_append_left _ ha) b (List.mem_append_left _ hb)
  rw [lead_new, ihl]
  rw [ihl]
  intro ⟨t, ht, e⟩
  exact nd'.2.2 t ht s List.mem_cons_self (h t (List.mem_append_left _ ht) s (List.mem_append_right _ List.mem_cons_self) e)
theorem least_self {n : Nat} (hn : Nx zs n c) (h0 : ∀ z ∈ zs, ∀ s, s < n → 0 ≤ (c z s).2) (ap : ∀ s t, s < n → t < n → Eqc zs c n s t → s = t) : leadC (Eqc zs c n) (List.range n) = List.range n ∧ ∀ z ∈ zs, ∀ k, k < n → leastC (Eqc zs c n) (List.range n) c z k = c z k := by
  have e1 := lead_self (E := Eqc zs c n) eqc_eqv (List.range n) List.nodup_range fun s hs t ht => ap s t (List.mem_range.mp hs) (List.mem_range.mp ht)
  refine ⟨e1, fun z hz k hk => ?_⟩
  have e2 : (List.range n).getD k 0 = k := by rw [List.getD_eq_getElem?_getD, List.getElem?_range hk]; rfl
  unfold leastC
  rw [e1, e2]
  have hx := hn z hz k hk
  have := num_at (E := Eqc zs c n) (f := List.range n) (s := nx c z k) (k := nx c z k) (t := nx c z k) eqc_eqv (by rw [e1, List.getElem?_range hx]) (Eqc.refl _)
  rw [this]
  refine Prod.ext rfl ?_
  show ((Int.toNat (c z k).2 : Nat) : Int) = (c z k).2
  have := h0 z hz k hk
  omega
end

/-- the cells of a table's rows -/
def cF (rs : List (Str × PyData)) : Str → Nat → Int × Int := fun z s => cellOf rs z (s : Nat)
theorem clsS_C {rs : List (Str × PyData)} {m : Nat} : ∀ i, clsS rs m i = clsC (namesOf rs) (cF rs) m i
  | 0 => rfl
  | i + 1 => by
    show finS rs (clsS rs m i) m = finC _ _ (clsC _ _ m i) m
    rw [clsS_C i]
    rfl
theorem manyS_C {rs : List (Str × PyData)} {m i : Nat} : manyS rs m i = manyC (namesOf rs) (cF rs) m i := by
  unfold manyS manyC
  rw [clsS_C]
theorem fnd_C {rs : List (Str × PyData)} {f0 : Nat} : ∀ i, fnd rs f0 i = fndC (namesOf rs) (cF rs) f0 i
  | 0 => rfl
  | i + 1 => by
    show (match (fnd rs f0 i)[i]? with | some s => visitS rs s (namesOf rs) (fnd rs f0 i) | none => fnd rs f0 i) = (match (fndC (namesOf rs) (cF rs) f0 i)[i]? with | some s => visitC (cF rs) s (namesOf rs) (fndC (namesOf rs) (cF rs) f0 i) | none => fndC (namesOf rs) (cF rs) f0 i)
    rw [fnd_C i]
    rfl
theorem Eqc_congr {zs : List Str} {c c' : Str → Nat → Int × Int} {m : Nat} (h : ∀ z ∈ zs, ∀ s, s < m → c z s = c' z s) : Eqc zs c m = Eqc zs c' m := by
  funext s t
  unfold Eqc
  simp only [clsC_congr h]
end My

set_option Elab.async false
set_option linter.all false
set_option maxRecDepth 100000
set_option maxHeartbeats 4000000
namespace My
open PySem L2 NdefX StX
abbrev s_least : Stmt := top 24
theorem sc_least : FnScope ["table", "classes", "numbers", "leaders", "state", "rows", "name", "pairs", "answer", "goal"] ["table"] (defScope s_least) := ⟨rfl, rfl, rfl, by decide +kernel, rfl, by decide +kernel, by decide +kernel⟩
theorem CellOk.nx {rs : List (Str × PyData)} {m : Nat} (h : CellOk rs m) : Nx (namesOf rs) m (cF rs) := fun z hz s hs => by
  obtain ⟨_, _, a, b⟩ := h z hz s hs
  show (cellOf rs z (s : Nat)).2.toNat < m
  omega
/-- the dict of the leaders' numbers -/
def kvsL (cs L : List Nat) : List (Key × V) := L.mapIdx fun i t => (keyI (cs.getD t 0), V.int (i : Nat))
theorem kvsL_snoc {cs L : List Nat} {s : Nat} : kvsL cs (L ++ [s]) = kvsL cs L ++ [(keyI (cs.getD s 0), V.int (L.length : Nat))] := by unfold kvsL; simp
theorem kvsL_len {cs L : List Nat} : (kvsL cs L).length = L.length := by unfold kvsL; simp
theorem kvsL_keys {cs L : List Nat} : (kvsL cs L).map (·.1) = L.map fun t => keyI (cs.getD t 0) := by
  unfold kvsL
  refine List.ext_getElem? fun i => ?_
  rw [List.getElem?_map, List.getElem?_mapIdx, List.getElem?_map, Option.map_map]
  rfl
theorem keyI_inj {x y : Nat} (h : keyI x = keyI y) : x = y := by
  have h : (Sum.inl ((x : Nat) : Int) : Key) = Sum.inl ((y : Nat) : Int) := h
  injection h with h
  omega
theorem kvsL_none {cs L : List Nat} {x : Nat} (h : ∀ t ∈ L, cs.getD t 0 ≠ x) : valV (kvsL cs L) (keyI x) = none := valV_fresh (by
  rw [kvsL_keys]
  intro z
  obtain ⟨t, ht, e⟩ := List.mem_map.mp z
  exact h t ht (keyI_inj e))
theorem kvsL_some {cs L : List Nat} {k t : Nat} (hp : L.Pairwise fun a b => cs.getD a 0 ≠ cs.getD b 0) (e : L[k]? = some t) : valV (kvsL cs L) (keyI (cs.getD t 0)) = some (.int (k : Nat)) := by
  refine valV_mem ?_ ?_
  · rw [kvsL_keys]
    exact List.pairwise_map.mpr (hp.imp fun h z => h (keyI_inj z))
  · refine List.mem_of_getElem? (i := k) ?_
    unfold kvsL
    rw [List.getElem?_mapIdx, e]
    rfl
section
variable {P : Program} {w : World} {K : PySem.W.Frag} {mg : Str → Option Value} {base : Heap} {tL t1 t2 : Tok}
noncomputable def leadT (zs : List Str) (c : Str → Nat → Int × Int) (m f0 : Nat) : List Nat := leadC (Eqc zs c m) (fndC zs c f0 m)
noncomputable def cellT (zs : List Str) (c : Str → Nat → Int × Int) (m f0 : Nat) : Str → Nat → Int × Int := leastC (Eqc zs c m) (fndC zs c f0 m) c
def spLeast (TC : Addr) : Sp := fun vs H Q _ => ∃ (o : Addr) (m f0 : Nat) (zs : List Str) (c : Str → Nat → Int × Int), vs = [.ref o] ∧ TabIs TC H o zs m (f0 : Nat) c ∧ ∀ t H', H t = none → TabIs TC H' t zs (leadT zs c m f0).length 0 (cellT zs c m f0) → Kp [] H H' → Q (.ref t) H'
theorem ok_least {f : Addr} {fd : FuncData} (D : Df K mg "least" s_least ["table"] f fd) (T : BtF mg) {TC NO BN BT fN fC fI : Addr} {fdN fdC fdI : FuncData} (C : TbC K mg TC) (M_Table : Mk K TC fI) (bI_Table : Binds K fdI ["self", "rows", "first"] []) (G_Table_init : FnOk P w K mg base (L2.CX P w) 6 fI fdI ["self", "rows", "first"] (spTI TC BT))
    (ME_Table_names : Meth K TC "names" fN) (bM_Table_names : Binds K fdN ["self"] []) (G_Table_names : FnOk P w K mg base CX0 1 fN fdN ["self"] (spTN TC))
    (CO_Table : CallO K TC fC) (bC_Table : Binds K fdC ["self", "name", "state"] []) (G_Table_call0 : FnOk P w K mg base (L2.CX P w) 4 fC fdC ["self", "name", "state"] (spTCall TC NO BN))
    {fs : Addr} {fds : FuncData} (D_classes_of : Df K mg "classes_of" s_classes_of ["table"] fs fds) (G_classes_of : FnOk P w K mg base CX0 6 fs fds ["table"] (spClasses TC)) {fu : Addr} {fdu : FuncData} (D_found_states : Df K mg "found_states" s_found_states ["table"] fu fdu) (G_found_states : FnOk P w K mg base CX0 5 fu fdu ["table"] (spFound TC)) : FnOk P w K mg base CX0 8 f fd ["table"] (spLeast TC) := by
  refine D.F.ok sc_least (fun vs H Q E h => ?_) (fun cdv A outer s H vs Q E hr h => ?_)
  · obtain ⟨o, _, _, _, _, rfl, _⟩ := h
    rfl
  · obtain ⟨o, m, f0, zs, c, rfl, ⟨rs, hT, ez, hc⟩, q⟩ := h
    have hu := hu_of hr
    have G_Table_call := G_Table_call0.toR bC_Table
    refine ⟨_, (pss_cons (ps_set (i := 1) sc_least.nd rfl (Or.inr rfl) (pe_call G_classes_of (hr.mono (by decide)) rfl D_classes_of.g D_classes_of.F.kp D_classes_of.b .nil pass0 (pa_cons (pv 0) pa_nil)))
      (pss_cons (ps_set (i := 2) sc_least.nd rfl (Or.inr rfl) pe_dnewK)
      (pss_cons (ps_set (i := 3) sc_least.nd rfl (Or.inl rfl) (pe_lst pa_nil))
      (pss_cons (ps_for PassesOwn.never rfl (pi_list (pe_call G_found_states (hr.mono (by decide)) rfl D_found_states.g D_found_states.F.kp D_found_states.b .nil pass0 (pa_cons (pv 0) pa_nil))) (pg_name (i := 4) sc_least.nd rfl (Or.inl rfl)) (pss_one (ps_if (pt_cmp (pc_dnotin hu (pe_ix (r := rIxL K) ix_list (pv 1) (pv 4) (fun _ _ => rfl)) (pv 2))) (pss_cons (ps_dput hu (pv 2) (pe_ix (r := rIxL K) ix_list (pv 1) (pv 4) (fun _ _ => rfl)) (pe_callB (id := "len") (r := Evl.rLenS K) call_len_seq (by rfl) T.b_len PySem.boot_len (pa_cons (pv 3) pa_nil)) rfl)
      (pss_one (ps_expr (pe_bm PySem.F.plainAttrs_list PySem.F.slot_list_append PySem.F.type_list_append mt_append (pv 3) (pa_cons (pv 4) pa_nil))))) pss_nil)))
      (pss_cons (ps_set (i := 5) sc_least.nd rfl (Or.inl rfl) pe_dnewK)
      (pss_cons (ps_for PassesOwn.never rfl (pi_list (pe_meth0 (pv 0) C.cl ME_Table_names G_Table_names (hr.mono (by decide)) bM_Table_names .nil pass0)) (pg_name (i := 6) sc_least.nd rfl (Or.inr rfl)) (pss_cons (ps_setLc (i := 7) (own := [("state", 4)]) (g := (gName 4)) (tt := tYes) rfl sc_least.nd rfl rfl (sw_true rfl rfl rfl (by decide +kernel)) (pi_list (pv 3)) (blkOk_by (N := ["table", "classes", "numbers", "leaders", "state", "rows", "name", "pairs", "answer", "goal"]) (sc := defScope s_least) (by decide +kernel)) (fun _ _ _ _ _ => (pg_name (i := 4) sc_least.nd rfl (Or.inl rfl))) (fun _ _ _ _ _ => pts_nil) (fun _ _ _ _ _ => (pe_callOI (pv 0) CO_Table G_Table_call (hr.mono (by decide)) passL (pa_cons (pv 6) (pa_cons (pv 4) pa_nil)))))
      (pss_one (ps_dput hu (pv 5) (pv 6) (pe_lc (own := [("answer", 8), ("goal", 9)]) (g := (gTup K 2 (gCons (gName 8) (gCons (gName 9) gNil)))) (tt := tYes) rfl sc_least.nd (pi_list (pv 7)) (blkOk_by (N := ["table", "classes", "numbers", "leaders", "state", "rows", "name", "pairs", "answer", "goal"]) (sc := defScope s_least) (by decide +kernel)) (fun _ _ _ _ _ => (pg_tup (n := 2) (by rfl) (pgs_cons (pg_name (i := 8) sc_least.nd rfl (Or.inl rfl)) (pgs_cons (pg_name (i := 9) sc_least.nd rfl (Or.inl rfl)) pgs_nil)))) (fun _ _ _ _ _ => pts_nil) (fun _ _ _ _ _ => (pe_tup (pa_cons (pv 8) (pa_cons (pe_dget hu (pv 2) (pe_ix (r := rIxL K) ix_list (pv 1) (pv 9) (fun _ _ => rfl)) (fun _ _ => rfl)) pa_nil))))) rfl))))
      (pss_one (ps_ret (pe_make M_Table G_Table_init (hr.mono (by decide)) rfl C.k bI_Table .nil passL (pa_cons (pv 5) (pa_cons pe_int pa_nil))))))))))), ?_⟩
    try simp (maxSteps := 1000000) only [tSeq, tIfS, tTest, tOp, tUn, tCB, tCons, tNil, tVar, tC, rI0, rI, rU, rEq, rNe, tRet, tRetN, tAsg, gName, gSub, tBM, tBM0, tNext, tB, tNot, tAnd, tOr, tIf, tCall, tDrop, tBreak, tCont, L2.start, tDGet, sDPut, tTup, tLst, tDNewK, tRevL, rCat, rAppend, rPop, rSetL, tAndV, tOrV, tNotV, tSl, tPart, tNoPart, tM1, gTup, gCons, gNil, cxK, cxnK, List.map_cons, List.map_nil, List.length_cons, List.length_nil, List.replicate, List.cons_append, List.nil_append, List.append_nil, List.set_cons_zero, List.set_cons_succ, List.getElem?_cons_zero, List.getElem?_cons_succ, Option.some.injEq, V.ref.injEq, V.int.injEq, V.str.injEq, V.bl.injEq, V.ty.injEq, exists_eq_left', exists_eq_left, exists_and_left, List.cons.injEq, and_true, true_and, sc_ii, sc_ss, sc_bb, sc_ni, sc_in, sc_is, sc_si, sc_nn, decide_true, decide_false, reduceCtorEq, Bool.false_eq_true, if_true, if_false, ite_true, ite_false, exists_const, eq_self, false_and, and_false, or_false, false_or, exists_false, Evl.rLenS, rSum, wipe, tYes, exists_eq, exists_eq', rIxL, rIxT, rIxS, exists_and_right, gt_iff_lt, not_true_eq_false, not_false_eq_true, Bool.not_true, Bool.not_false, decide_eq_true_eq, Nat.reduceSub, Nat.reduceAdd, List.append_assoc, tChain, tDIn, tDNotIn, sDDel, tAug, ipI, tMake]
    obtain ⟨dx, dd, ho⟩ := hT.head
    have bT := hT.bnd
    have cT := hT.cells
    subst ez
    have f0m : f0 < m := by have := bT.2.2.2.2.2.2.1; omega
    have hN := cT.nx
    -- the promise, by the rows
    have cgE : Eqc (namesOf rs) c m = Eqc (namesOf rs) (cF rs) m := Eqc_congr fun z hz s hs => (hc z hz s hs).symm
    have hNc : Nx (namesOf rs) m c := fun z hz s hs => by
      have := hN z hz s hs
      unfold nx cF at this
      rw [hc z hz s hs] at this
      exact this
    have cgF : fndC (namesOf rs) c f0 m = fndC (namesOf rs) (cF rs) f0 m := fndC_congr hNc f0m (fun z hz s hs => (hc z hz s hs).symm) m
    have hL : LeF (namesOf rs) (cF rs) m f0 (fndC (namesOf rs) (cF rs) f0 m) := ⟨hN, f0m, rfl⟩
    have cgC : ∀ z ∈ namesOf rs, ∀ k : Nat, k < (leadT (namesOf rs) c m f0).length → cellT (namesOf rs) c m f0 z k = leastC (Eqc (namesOf rs) (cF rs) m) (fndC (namesOf rs) (cF rs) f0 m) (cF rs) z k := fun z hz k hk => by
      unfold leadT at hk
      unfold cellT leastC nx
      rw [cgE, cgF] at hk ⊢
      have := hL.in' (hL.lead_mem hk).1
      rw [← hc z hz _ this]
      rfl
    have eqN : (leadT (namesOf rs) c m f0).length = (leadC (Eqc (namesOf rs) (cF rs) m) (fndC (namesOf rs) (cF rs) f0 m)).length := by unfold leadT; rw [cgE, cgF]
    have bL := hL.bnd
    refine ⟨o, m, (f0 : Nat), rs, rfl, hT, fun i cl H1 ncl hst hcl k1 => ?_⟩
    rw [clsS_C] at hcl
    rw [manyS_C, manyS_C] at hst
    have stab : ∀ {s t : Nat}, s < m → t < m → ((clsC (namesOf rs) (cF rs) m (i + 1)).getD s 0 = (clsC (namesOf rs) (cF rs) m (i + 1)).getD t 0 ↔ Eqc (namesOf rs) (cF rs) m s t) := fun hs ht => stable_eqc hN hst hs ht
    have clen : (clsC (namesOf rs) (cF rs) m (i + 1)).length = m := clsC_len _
    generalize clsC (namesOf rs) (cF rs) m (i + 1) = cs at hcl stab clen
    have hcs : ∀ {s t : Nat}, s ∈ fndC (namesOf rs) (cF rs) f0 m → t ∈ fndC (namesOf rs) (cF rs) f0 m → (cs.getD s 0 = cs.getD t 0 ↔ Eqc (namesOf rs) (cF rs) m s t) := fun hs ht => stab (hL.in' hs) (hL.in' ht)
    intro nd nnd
    refine ⟨by decide, fun ll nll => ?_⟩
    have k2 : Kp [] H1 (upd H1 nd (.dK [])) := Kp.new nnd
    have k3 : Kp [] (upd H1 nd (.dK [])) (upd (upd H1 nd (.dK [])) ll (.lst [])) := Kp.new nll
    have ndl : nd ≠ ll := fun z => by rw [z, upd_same] at nll; cases nll
    have nnd0 : H nd = none := noneB k1 nnd
    have nll1 : H1 ll = none := noneB k2 nll
    have nll0 : H ll = none := noneB k1 nll1
    have hnd3 : (upd (upd H1 nd (.dK [])) ll (.lst [])) nd = some (.dK []) := by rw [upd_ne ndl, upd_same]
    have hll3 : (upd (upd H1 nd (.dK [])) ll (.lst [])) ll = some (.lst []) := upd_same
    have k13 := k2.trans k3
    generalize upd (upd H1 nd (.dK [])) ll (.lst []) = H3 at hnd3 hll3 k13
    have k03 := k1.trans k13
    have hcl3 := k13 _ _ not0 hcl
    have ncl1 : cl ≠ nd := fun z => by rw [z, nnd] at hcl; cases hcl
    have ncl2 : cl ≠ ll := fun z => by rw [z, nll1] at hcl; cases hcl
    refine forLD (fun fl H' => H' fl = some (.lst ((fndC (namesOf rs) (cF rs) f0 m).map fun x => V.int (x : Nat))) ∧ Kp [] H3 H') (fun R hR => ?_) fun fl H4 ⟨hfl, k34⟩ => ?_
    · try simp (maxSteps := 1000000) only [tSeq, tIfS, tTest, tOp, tUn, tCB, tCons, tNil, tVar, tC, rI0, rI, rU, rEq, rNe, tRet, tRetN, tAsg, gName, gSub, tBM, tBM0, tNext, tB, tNot, tAnd, tOr, tIf, tCall, tDrop, tBreak, tCont, L2.start, tDGet, sDPut, tTup, tLst, tDNewK, tRevL, rCat, rAppend, rPop, rSetL, tAndV, tOrV, tNotV, tSl, tPart, tNoPart, tM1, gTup, gCons, gNil, cxK, cxnK, List.map_cons, List.map_nil, List.length_cons, List.length_nil, List.replicate, List.cons_append, List.nil_append, List.append_nil, List.set_cons_zero, List.set_cons_succ, List.getElem?_cons_zero, List.getElem?_cons_succ, Option.some.injEq, V.ref.injEq, V.int.injEq, V.str.injEq, V.bl.injEq, V.ty.injEq, exists_eq_left', exists_eq_left, exists_and_left, List.cons.injEq, and_true, true_and, sc_ii, sc_ss, sc_bb, sc_ni, sc_in, sc_is, sc_si, sc_nn, decide_true, decide_false, reduceCtorEq, Bool.false_eq_true, if_true, if_false, ite_true, ite_false, exists_const, eq_self, false_and, and_false, or_false, false_or, exists_false, Evl.rLenS, rSum, wipe, tYes, exists_eq, exists_eq', rIxL, rIxT, rIxS, exists_and_right, gt_iff_lt, not_true_eq_false, not_false_eq_true, Bool.not_true, Bool.not_false, decide_eq_true_eq, Nat.reduceSub, Nat.reduceAdd, List.append_assoc, tChain, tDIn, tDNotIn, sDDel, tAug, ipI]
      refine ⟨o, m, (f0 : Nat), rs, rfl, hT.kp k03, fun l j H' nl hj hl' k' => hR l H' ⟨?_, k'⟩⟩
      rw [Int.toNat_natCast, fnd_C] at hj hl'
      rw [← fndC_all hN f0m hj]
      exact hl'
    have hflin : ∀ s ∈ fndC (namesOf rs) (cF rs) f0 m, s < m := fun s hs => hL.in' hs
    have hLlen := hL.len
    have aparts : ∀ g, g <+: fndC (namesOf rs) (cF rs) f0 m → (leadC (Eqc (namesOf rs) (cF rs) m) g).Pairwise fun a b => cs.getD a 0 ≠ cs.getD b 0 := fun g hg => by
      refine List.Pairwise.imp_of_mem (fun {a b} ha hb ne e => ne ?_) (lead_apart (E := Eqc (namesOf rs) (cF rs) m) (f := g))
      exact (hcs (hg.subset (lead_sub a ha)) (hg.subset (lead_sub b hb))).mp e
    have fullT : (fndC (namesOf rs) (cF rs) f0 m).take (fndC (namesOf rs) (cF rs) f0 m).length = fndC (namesOf rs) (cF rs) f0 m := List.take_length
    generalize hfd : fndC (namesOf rs) (cF rs) f0 m = fs at *
    have hn34 : H4 nd = some (.dK []) := k34 _ _ not0 hnd3
    have hl34 : H4 ll = some (.lst []) := k34 _ _ not0 hll3
    have nfn : fl ≠ nd := fun z => by rw [z, hn34] at hfl; cases hfl
    have nfl : fl ≠ ll ∨ fs = [] := by
      by_cases z : fl = ll
      · rw [z, hl34] at hfl
        right
        cases fs with
        | nil => rfl
        | cons a r => cases hfl
      · exact .inl z
    have nfl : fl ≠ ll := by
      rcases nfl with h | h
      · exact h
      · have := hL.fst
        rw [h] at this
        cases this
    refine ⟨fl, rfl, ⟨_, sq_l hfl⟩, for_list (K := K) (a := fl) (xs := fs.map fun x => V.int (x : Nat)) (fun j σ H' => (∃ c4 : Option V, σ = [some (.ref o), some (.ref cl), some (.ref nd), some (.ref ll), c4, none, none, none, none, none]) ∧ H' ll = some (.lst ((leadC (Eqc (namesOf rs) (cF rs) m) (fs.take j)).map fun x => V.int (x : Nat))) ∧ H' nd = some (.dK (kvsL cs (leadC (Eqc (namesOf rs) (cF rs) m) (fs.take j)))) ∧ H' fl = some (.lst (fs.map fun x => V.int (x : Nat))) ∧ Kp [] H H' ∧ H' cl = some (.lst (cs.map fun x => V.int (x : Nat)))) ⟨⟨_, rfl⟩, hl34, hn34, hfl, k03.trans k34, k34 _ _ not0 hcl3⟩ (fun j σ H' _ h => sq_l h.2.2.2.1) ?_ ?_⟩
    · rintro j x σ H5 hx ⟨⟨c4, rfl⟩, hl5, hn5, hf5, k05, hc5⟩
      obtain ⟨s, es, rfl⟩ : ∃ s, fs[j]? = some s ∧ V.int (s : Nat) = x := by
        rw [List.getElem?_map] at hx
        cases e : fs[j]? with
        | none => rw [e] at hx; cases hx
        | some z => rw [e] at hx; exact ⟨z, rfl, Option.some.inj hx⟩
      have hs : s ∈ fs := List.mem_of_getElem? es
      have sm := hflin s hs
      have et : fs.take (j + 1) = fs.take j ++ [s] := take_snoc es
      have hpre : fs.take j <+: fs := List.take_prefix _ _
      have hap := aparts _ hpre
      have hjl : j < fs.length := (List.getElem?_eq_some_iff.mp es).1
      have lle : (leadC (Eqc (namesOf rs) (cF rs) m) (fs.take j)).length ≤ j := by
        have := lead_len (E := Eqc (namesOf rs) (cF rs) m) (f := fs.take j)
        rw [List.length_take] at this
        omega
      try simp (maxSteps := 1000000) only [tSeq, tIfS, tTest, tOp, tUn, tCB, tCons, tNil, tVar, tC, rI0, rI, rU, rEq, rNe, tRet, tRetN, tAsg, gName, gSub, tBM, tBM0, tNext, tB, tNot, tAnd, tOr, tIf, tCall, tDrop, tBreak, tCont, L2.start, tDGet, sDPut, tTup, tLst, tDNewK, tRevL, rCat, rAppend, rPop, rSetL, tAndV, tOrV, tNotV, tSl, tPart, tNoPart, tM1, gTup, gCons, gNil, cxK, cxnK, List.map_cons, List.map_nil, List.length_cons, List.length_nil, List.replicate, List.cons_append, List.nil_append, List.append_nil, List.set_cons_zero, List.set_cons_succ, List.getElem?_cons_zero, List.getElem?_cons_succ, Option.some.injEq, V.ref.injEq, V.int.injEq, V.str.injEq, V.bl.injEq, V.ty.injEq, exists_eq_left', exists_eq_left, exists_and_left, List.cons.injEq, and_true, true_and, sc_ii, sc_ss, sc_bb, sc_ni, sc_in, sc_is, sc_si, sc_nn, decide_true, decide_false, reduceCtorEq, Bool.false_eq_true, if_true, if_false, ite_true, ite_false, exists_const, eq_self, false_and, and_false, or_false, false_or, exists_false, Evl.rLenS, rSum, wipe, tYes, exists_eq, exists_eq', rIxL, rIxT, rIxS, exists_and_right, gt_iff_lt, not_true_eq_false, not_false_eq_true, Bool.not_true, Bool.not_false, decide_eq_true_eq, Nat.reduceSub, Nat.reduceAdd, List.append_assoc, tChain, tDIn, tDNotIn, sDDel, tAug, ipI]
      refine ⟨_, sq_l hc5, .int (cs.getD s 0 : Nat), atI_nat (csAt (by rw [clen]; exact sm)), _, DGet.k (k := keyI (cs.getD s 0)) hn5, ?_⟩
      by_cases hm : ∃ t ∈ leadC (Eqc (namesOf rs) (cF rs) m) (fs.take j), Eqc (namesOf rs) (cF rs) m t s
      · obtain ⟨t, ht, e⟩ := hm
        obtain ⟨k, hk⟩ := List.getElem?_of_mem ht
        have ev := kvsL_some hap hk
        rw [(hcs (hpre.subset (lead_sub t ht)) hs).mpr e] at ev
        rw [ev, if_neg (by simp), et, lead_old ⟨t, ht, e⟩]
        exact ⟨hl5, hn5, hf5, k05, hc5⟩
      · have ev : valV (kvsL cs (leadC (Eqc (namesOf rs) (cF rs) m) (fs.take j))) (keyI (cs.getD s 0)) = none := kvsL_none fun t ht z => hm ⟨t, ht, (hcs (hpre.subset (lead_sub t ht)) hs).mp z⟩
        rw [ev, if_pos (by decide), et, lead_new hm]
        have ne1 : cl ≠ nd := ncl1
        refine ⟨_, .inl (sq_l hl5), _, sq_l hc5, .int (cs.getD s 0 : Nat), atI_nat (csAt (by rw [clen]; exact sm)), _, DPut.k (k := keyI (cs.getD s 0)) hn5 (smallL (by rw [kvsL_len]; omega)), ?_⟩
        rw [putK_new _ ev, List.length_map, ← kvsL_snoc]
        have hl6 : (upd H5 nd (.dK (kvsL cs (leadC (Eqc (namesOf rs) (cF rs) m) (fs.take j) ++ [s])))) ll = some (.lst ((leadC (Eqc (namesOf rs) (cF rs) m) (fs.take j)).map fun x => V.int (x : Nat))) := by rw [upd_ne (Ne.symm ndl)]; exact hl5
        refine ⟨.inl ⟨rfl, _, sq_l hl6⟩, _, hl6, smallL (by rw [List.length_map]; omega), by rw [upd_same, List.map_append]; rfl, by rw [upd_ne ndl, upd_same], by rw [upd_ne nfl, upd_ne nfn]; exact hf5, (k05.wr nnd0).wr nll0, by rw [upd_ne ncl2, upd_ne ncl1]; exact hc5⟩
    · rintro σ H5 ⟨⟨c4, rfl⟩, hl5, hn5, hf5, k05, hc5⟩
      rw [List.length_map, fullT] at hl5 hn5
      try simp (maxSteps := 1000000) only [tSeq, tIfS, tTest, tOp, tUn, tCB, tCons, tNil, tVar, tC, rI0, rI, rU, rEq, rNe, tRet, tRetN, tAsg, gName, gSub, tBM, tBM0, tNext, tB, tNot, tAnd, tOr, tIf, tCall, tDrop, tBreak, tCont, L2.start, tDGet, sDPut, tTup, tLst, tDNewK, tRevL, rCat, rAppend, rPop, rSetL, tAndV, tOrV, tNotV, tSl, tPart, tNoPart, tM1, gTup, gCons, gNil, cxK, cxnK, List.map_cons, List.map_nil, List.length_cons, List.length_nil, List.replicate, List.cons_append, List.nil_append, List.append_nil, List.set_cons_zero, List.set_cons_succ, List.getElem?_cons_zero, List.getElem?_cons_succ, Option.some.injEq, V.ref.injEq, V.int.injEq, V.str.injEq, V.bl.injEq, V.ty.injEq, exists_eq_left', exists_eq_left, exists_and_left, List.cons.injEq, and_true, true_and, sc_ii, sc_ss, sc_bb, sc_ni, sc_in, sc_is, sc_si, sc_nn, decide_true, decide_false, reduceCtorEq, Bool.false_eq_true, if_true, if_false, ite_true, ite_false, exists_const, eq_self, false_and, and_false, or_false, false_or, exists_false, Evl.rLenS, rSum, wipe, tYes, exists_eq, exists_eq', rIxL, rIxT, rIxS, exists_and_right, gt_iff_lt, not_true_eq_false, not_false_eq_true, Bool.not_true, Bool.not_false, decide_eq_true_eq, Nat.reduceSub, Nat.reduceAdd, List.append_assoc, tChain, tDIn, tDNotIn, sDDel, tAug, ipI]
      have hap := aparts _ (List.prefix_refl _)
      generalize hLd : leadC (Eqc (namesOf rs) (cF rs) m) fs = L at *
      have nmL : ∀ k, k < L.length → L.getD k 0 ∈ fs := fun k hk => (by have := hL.lead_mem (k := k); rw [hLd] at this; exact (this hk).1)
      have nd0 : (namesOf rs).Nodup := bT.2.2.2.2.2.2.2
      intro rd nrd
      have kr : Kp [] H5 (upd H5 rd (.dK [])) := Kp.new nrd
      have nrd0 : H rd = none := noneB k05 nrd
      refine forLD (fun nn H' => H' nn = some (.lst ((namesOf rs).map V.str)) ∧ Kp [] (upd H5 rd (.dK [])) H') (fun R hR => ?_) fun nn H6 ⟨hnn, k56⟩ => ?_
      · try simp (maxSteps := 1000000) only [tSeq, tIfS, tTest, tOp, tUn, tCB, tCons, tNil, tVar, tC, rI0, rI, rU, rEq, rNe, tRet, tRetN, tAsg, gName, gSub, tBM, tBM0, tNext, tB, tNot, tAnd, tOr, tIf, tCall, tDrop, tBreak, tCont, L2.start, tDGet, sDPut, tTup, tLst, tDNewK, tRevL, rCat, rAppend, rPop, rSetL, tAndV, tOrV, tNotV, tSl, tPart, tNoPart, tM1, gTup, gCons, gNil, cxK, cxnK, List.map_cons, List.map_nil, List.length_cons, List.length_nil, List.replicate, List.cons_append, List.nil_append, List.append_nil, List.set_cons_zero, List.set_cons_succ, List.getElem?_cons_zero, List.getElem?_cons_succ, Option.some.injEq, V.ref.injEq, V.int.injEq, V.str.injEq, V.bl.injEq, V.ty.injEq, exists_eq_left', exists_eq_left, exists_and_left, List.cons.injEq, and_true, true_and, sc_ii, sc_ss, sc_bb, sc_ni, sc_in, sc_is, sc_si, sc_nn, decide_true, decide_false, reduceCtorEq, Bool.false_eq_true, if_true, if_false, ite_true, ite_false, exists_const, eq_self, false_and, and_false, or_false, false_or, exists_false, Evl.rLenS, rSum, wipe, tYes, exists_eq, exists_eq', rIxL, rIxT, rIxS, exists_and_right, gt_iff_lt, not_true_eq_false, not_false_eq_true, Bool.not_true, Bool.not_false, decide_eq_true_eq, Nat.reduceSub, Nat.reduceAdd, List.append_assoc, tChain, tDIn, tDNotIn, sDDel, tAug, ipI, tMeth]
        exact ⟨dx, _, (k05.trans kr) _ _ not0 ho, rfl, o, m, (f0 : Nat), rs, rfl, hT.kp (k05.trans kr), fun l H' _ hl' k' => hR l H' ⟨hl', k'⟩⟩
      have k06 := (k05.trans kr).trans k56
      have q1 : ll ≠ rd := fun z => by rw [z, nrd] at hl5; cases hl5
      have q2 : nd ≠ rd := fun z => by rw [z, nrd] at hn5; cases hn5
      have q3 : cl ≠ rd := fun z => by rw [z, nrd] at hc5; cases hc5
      have q4 : nn ≠ rd := fun z => by rw [z, k56 _ _ not0 upd_same] at hnn; cases hnn
      refine ⟨nn, rfl, ⟨_, sq_l hnn⟩, for_list (K := K) (a := nn) (xs := (namesOf rs).map V.str) (fun j σ H' => (∃ c6 c7 c8 c9 : Option V, σ = [some (.ref o), some (.ref cl), some (.ref nd), some (.ref ll), c4, some (.ref rd), c6, c7, c8, c9]) ∧ RwAt H' rd ((namesOf rs).take j) L.length (leastC (Eqc (namesOf rs) (cF rs) m) fs (cF rs)) ∧ Kp [] H H' ∧ H' ll = some (.lst (L.map fun x => V.int (x : Nat))) ∧ H' nd = some (.dK (kvsL cs L)) ∧ H' cl = some (.lst (cs.map fun x => V.int (x : Nat))) ∧ H' nn = some (.lst ((namesOf rs).map V.str))) ⟨⟨_, _, _, _, rfl⟩, ⟨[], k56 _ _ not0 upd_same, rfl, fun i z e => by cases e⟩, k06, k56 _ _ not0 (kr _ _ not0 hl5), k56 _ _ not0 (kr _ _ not0 hn5), k56 _ _ not0 (kr _ _ not0 hc5), hnn⟩ (fun j σ H' _ h => sq_l h.2.2.2.2.2.2) ?_ ?_⟩
      · rintro j x σ H7 hx ⟨⟨c6, c7, c8, c9, rfl⟩, hrw, k07, hl7, hn7, hc7, hnn7⟩
        obtain ⟨z, ez, rfl⟩ : ∃ z, (namesOf rs)[j]? = some z ∧ V.str z = x := by
          rw [List.getElem?_map] at hx
          cases e : (namesOf rs)[j]? with
          | none => rw [e] at hx; cases hx
          | some z => rw [e] at hx; exact ⟨z, rfl, Option.some.inj hx⟩
        have hz : z ∈ namesOf rs := List.mem_of_getElem? ez
        try simp (maxSteps := 1000000) only [tSeq, tIfS, tTest, tOp, tUn, tCB, tCons, tNil, tVar, tC, rI0, rI, rU, rEq, rNe, tRet, tRetN, tAsg, gName, gSub, tBM, tBM0, tNext, tB, tNot, tAnd, tOr, tIf, tCall, tDrop, tBreak, tCont, L2.start, tDGet, sDPut, tTup, tLst, tDNewK, tRevL, rCat, rAppend, rPop, rSetL, tAndV, tOrV, tNotV, tSl, tPart, tNoPart, tM1, gTup, gCons, gNil, cxK, cxnK, List.map_cons, List.map_nil, List.length_cons, List.length_nil, List.replicate, List.cons_append, List.nil_append, List.append_nil, List.set_cons_zero, List.set_cons_succ, List.getElem?_cons_zero, List.getElem?_cons_succ, Option.some.injEq, V.ref.injEq, V.int.injEq, V.str.injEq, V.bl.injEq, V.ty.injEq, exists_eq_left', exists_eq_left, exists_and_left, List.cons.injEq, and_true, true_and, sc_ii, sc_ss, sc_bb, sc_ni, sc_in, sc_is, sc_si, sc_nn, decide_true, decide_false, reduceCtorEq, Bool.false_eq_true, if_true, if_false, ite_true, ite_false, exists_const, eq_self, false_and, and_false, or_false, false_or, exists_false, Evl.rLenS, rSum, wipe, tYes, exists_eq, exists_eq', rIxL, rIxT, rIxS, exists_and_right, gt_iff_lt, not_true_eq_false, not_false_eq_true, Bool.not_true, Bool.not_false, decide_eq_true_eq, Nat.reduceSub, Nat.reduceAdd, List.append_assoc, tChain, tDIn, tDNotIn, sDDel, tAug, ipI]
        have hasT : hasD rs (.str z) = true := by
          show (nameS z && decide (z ∈ rs.map (·.1))) = true
          rw [bT.2.2.1 z hz, decide_eq_true (show z ∈ rs.map (·.1) from hz)]; rfl
        have szz : szD (.str z) = true := decide_eq_true (name8 (bT.2.2.1 z hz))
        have Lm : L.length ≤ 100 := by have := hL.bnd; rw [hLd] at this; omega
        refine ⟨.ref ll, rfl, ll, rfl, ⟨_, sq_l hl7⟩, fun D1 nD1 => lc_list (K := K) (a := ll) (xs := L.map fun x => V.int (x : Nat)) (fun i H' => ∃ xs, H' D1 = some (.lst xs) ∧ Cells (fun k => cellOf rs z (L.getD k 0 : Nat)) xs i H' ∧ Kp [] H7 H') ⟨[], upd_same, ⟨rfl, fun i hi => absurd hi (by omega)⟩, Kp.new nD1⟩ (fun i H' _ h => by obtain ⟨_, _, _, k⟩ := h; exact k.ls not0 (sq_l hl7)) ?_ ?_⟩
        · rintro i x H8 hx ⟨xs, hD, hC, k78⟩
          obtain ⟨s, es, rfl⟩ : ∃ s, L[i]? = some s ∧ V.int (s : Nat) = x := by
            rw [List.getElem?_map] at hx
            cases e : L[i]? with
            | none => rw [e] at hx; cases hx
            | some z => rw [e] at hx; exact ⟨z, rfl, Option.some.inj hx⟩
          have il : i < L.length := (List.getElem?_eq_some_iff.mp es).1
          have eg : L.getD i 0 = s := by rw [List.getD_eq_getElem?_getD, es]; rfl
          have sm : s < m := hflin s (by rw [← eg]; exact nmL i il)
          have k08 := k07.trans k78
          try simp (maxSteps := 1000000) only [tSeq, tIfS, tTest, tOp, tUn, tCB, tCons, tNil, tVar, tC, rI0, rI, rU, rEq, rNe, tRet, tRetN, tAsg, gName, gSub, tBM, tBM0, tNext, tB, tNot, tAnd, tOr, tIf, tCall, tDrop, tBreak, tCont, L2.start, tDGet, sDPut, tTup, tLst, tDNewK, tRevL, rCat, rAppend, rPop, rSetL, tAndV, tOrV, tNotV, tSl, tPart, tNoPart, tM1, gTup, gCons, gNil, cxK, cxnK, List.map_cons, List.map_nil, List.length_cons, List.length_nil, List.replicate, List.cons_append, List.nil_append, List.append_nil, List.set_cons_zero, List.set_cons_succ, List.getElem?_cons_zero, List.getElem?_cons_succ, Option.some.injEq, V.ref.injEq, V.int.injEq, V.str.injEq, V.bl.injEq, V.ty.injEq, exists_eq_left', exists_eq_left, exists_and_left, List.cons.injEq, and_true, true_and, sc_ii, sc_ss, sc_bb, sc_ni, sc_in, sc_is, sc_si, sc_nn, decide_true, decide_false, reduceCtorEq, Bool.false_eq_true, if_true, if_false, ite_true, ite_false, exists_const, eq_self, false_and, and_false, or_false, false_or, exists_false, Evl.rLenS, rSum, wipe, tYes, exists_eq, exists_eq', rIxL, rIxT, rIxS, exists_and_right, gt_iff_lt, not_true_eq_false, not_false_eq_true, Bool.not_true, Bool.not_false, decide_eq_true_eq, Nat.reduceSub, Nat.reduceAdd, List.append_assoc, tChain, tDIn, tDNotIn, sDDel, tAug, ipI, tCallOI]
          refine ⟨⟨dx, _, k08 _ _ not0 ho⟩, o, .str z, .int (s : Nat), .str z, .int (s : Nat), m, (f0 : Nat), rs, rfl, hT.kp k08, .str z, szz, .int _, fun z' s2 ez' es' hh i0 i1 p1 H9 hp k9 => ?_, fun hh => by (rw [hasT] at hh; cases hh), fun hh hb => ?_⟩
          · cases ez'
            cases es'
            refine ⟨xs, k9 _ _ not0 hD, smallL (by rw [hC.1]; omega), xs ++ [.ref p1], upd_same, ?_, (k78.trans k9).wr nD1⟩
            exact ((hC.kp k9).snoc (by
              show H9 p1 = some (.tup [.int (cellOf rs z (L.getD i 0 : Nat)).1, .int (cellOf rs z (L.getD i 0 : Nat)).2])
              rw [eg]
              exact hp)).putL (k9 _ _ not0 hD)
          · have : (decide (0 ≤ ((s : Nat) : Int)) && decide (((s : Nat) : Int) < (m : Nat))) = false := hb
            rw [decide_eq_true (show (0 : Int) ≤ (s : Nat) by omega), decide_eq_true (show ((s : Nat) : Int) < (m : Nat) by omega)] at this
            cases this
        · rintro H8 ⟨xs, hD, hC, k78⟩
          rw [List.length_map] at hC
          try simp (maxSteps := 1000000) only [tSeq, tIfS, tTest, tOp, tUn, tCB, tCons, tNil, tVar, tC, rI0, rI, rU, rEq, rNe, tRet, tRetN, tAsg, gName, gSub, tBM, tBM0, tNext, tB, tNot, tAnd, tOr, tIf, tCall, tDrop, tBreak, tCont, L2.start, tDGet, sDPut, tTup, tLst, tDNewK, tRevL, rCat, rAppend, rPop, rSetL, tAndV, tOrV, tNotV, tSl, tPart, tNoPart, tM1, gTup, gCons, gNil, cxK, cxnK, List.map_cons, List.map_nil, List.length_cons, List.length_nil, List.replicate, List.cons_append, List.nil_append, List.append_nil, List.set_cons_zero, List.set_cons_succ, List.getElem?_cons_zero, List.getElem?_cons_succ, Option.some.injEq, V.ref.injEq, V.int.injEq, V.str.injEq, V.bl.injEq, V.ty.injEq, exists_eq_left', exists_eq_left, exists_and_left, List.cons.injEq, and_true, true_and, sc_ii, sc_ss, sc_bb, sc_ni, sc_in, sc_is, sc_si, sc_nn, decide_true, decide_false, reduceCtorEq, Bool.false_eq_true, if_true, if_false, ite_true, ite_false, exists_const, eq_self, false_and, and_false, or_false, false_or, exists_false, Evl.rLenS, rSum, wipe, tYes, exists_eq, exists_eq', rIxL, rIxT, rIxS, exists_and_right, gt_iff_lt, not_true_eq_false, not_false_eq_true, Bool.not_true, Bool.not_false, decide_eq_true_eq, Nat.reduceSub, Nat.reduceAdd, List.append_assoc, tChain, tDIn, tDNotIn, sDDel, tAug, ipI]
          refine ⟨.ref D1, rfl, D1, rfl, ⟨_, sq_l hD⟩, fun D2 nD2 => lc_list (K := K) (a := D1) (xs := xs) (fun i H' => ∃ ys, H' D2 = some (.lst ys) ∧ Cells (leastC (Eqc (namesOf rs) (cF rs) m) fs (cF rs) z) ys i H' ∧ Kp [] H8 H') ⟨[], upd_same, ⟨rfl, fun i hi => absurd hi (by omega)⟩, Kp.new nD2⟩ (fun i H' _ h => by obtain ⟨_, _, _, k⟩ := h; exact k.ls not0 (sq_l hD)) ?_ ?_⟩
          · rintro i x H9 hx ⟨ys, hD9, hC9, k89⟩
            have il : i < L.length := by rw [← hC.1]; exact (List.getElem?_eq_some_iff.mp hx).1
            obtain ⟨pi, ep, hpi⟩ := hC.2 i il
            rw [hx] at ep
            cases ep
            have hLi := nmL i il
            have sm := hflin _ hLi
            obtain ⟨_, _, g0, g1⟩ := cT z hz _ sm
            have hp9 := k89 _ _ not0 hpi
            have k79 := k78.trans k89
            have hc9 := k79 _ _ not0 hc7
            have hn9 := k79 _ _ not0 hn7
            have gf : nx (cF rs) z (L.getD i 0) ∈ fs := hL.clo hLi hz
            have gm := hflin _ gf
            obtain ⟨t, et, eqt⟩ := num_lead (E := Eqc (namesOf rs) (cF rs) m) eqc_eqv gf
            rw [hLd] at et
            have evv := kvsL_some hap et
            have tf : t ∈ fs := by
              have := nmL _ (List.getElem?_eq_some_iff.mp et).1
              rw [List.getD_eq_getElem?_getD, et] at this
              exact this
            rw [(hcs tf gf).mpr eqt] at evv
            have two : (2 : Nat) ≤ sizeLine := by rw [sizeLine_eq]; decide
            have ec : leastC (Eqc (namesOf rs) (cF rs) m) fs (cF rs) z i = ((cellOf rs z (L.getD i 0 : Nat)).1, ((numC (Eqc (namesOf rs) (cF rs) m) fs (nx (cF rs) z (L.getD i 0)) : Nat) : Int)) := by
              unfold leastC
              rw [hLd]
              rfl
            try simp (maxSteps := 1000000) only [tSeq, tIfS, tTest, tOp, tUn, tCB, tCons, tNil, tVar, tC, rI0, rI, rU, rEq, rNe, tRet, tRetN, tAsg, gName, gSub, tBM, tBM0, tNext, tB, tNot, tAnd, tOr, tIf, tCall, tDrop, tBreak, tCont, L2.start, tDGet, sDPut, tTup, tLst, tDNewK, tRevL, rCat, rAppend, rPop, rSetL, tAndV, tOrV, tNotV, tSl, tPart, tNoPart, tM1, gTup, gCons, gNil, cxK, cxnK, List.map_cons, List.map_nil, List.length_cons, List.length_nil, List.replicate, List.cons_append, List.nil_append, List.append_nil, List.set_cons_zero, List.set_cons_succ, List.getElem?_cons_zero, List.getElem?_cons_succ, Option.some.injEq, V.ref.injEq, V.int.injEq, V.str.injEq, V.bl.injEq, V.ty.injEq, exists_eq_left', exists_eq_left, exists_and_left, List.cons.injEq, and_true, true_and, sc_ii, sc_ss, sc_bb, sc_ni, sc_in, sc_is, sc_si, sc_nn, decide_true, decide_false, reduceCtorEq, Bool.false_eq_true, if_true, if_false, ite_true, ite_false, exists_const, eq_self, false_and, and_false, or_false, false_or, exists_false, Evl.rLenS, rSum, wipe, tYes, exists_eq, exists_eq', rIxL, rIxT, rIxS, exists_and_right, gt_iff_lt, not_true_eq_false, not_false_eq_true, Bool.not_true, Bool.not_false, decide_eq_true_eq, Nat.reduceSub, Nat.reduceAdd, List.append_assoc, tChain, tDIn, tDNotIn, sDDel, tAug, ipI]
            refine ⟨_, sq_t hp9, rfl, _, _, rfl, _, _, rfl, rfl, _, _, rfl, sq_l hc9, .int (cs.getD (nx (cF rs) z (L.getD i 0)) 0 : Nat), atI_of g0 (csAt (by rw [clen]; exact gm)), _, evv ▸ DGet.k (k := keyI (cs.getD (nx (cF rs) z (L.getD i 0)) 0)) hn9, two, fun p2 np2 => ?_⟩
            have kq := (Kp.new np2 : Kp [] H9 (upd H9 p2 (.tup [.int (cellOf rs z (L.getD i 0 : Nat)).1, .int ((numC (Eqc (namesOf rs) (cF rs) m) fs (nx (cF rs) z (L.getD i 0)) : Nat))])))
            exact ⟨ys, kq _ _ not0 hD9, smallL (by rw [hC9.1]; omega), ys ++ [.ref p2], upd_same, ((hC9.kp kq).snoc (by rw [upd_same, ec])).putL (kq _ _ not0 hD9), (k89.trans kq).wr nD2⟩
          · rintro H9 ⟨ys, hD9, hC9, k89⟩
            rw [hC.1] at hC9
            obtain ⟨kvs, hr9, hl9, hput, hrw9⟩ := hrw.put (z := z) (xs := ys) (c := leastC (Eqc (namesOf rs) (cF rs) m) fs (cF rs)) (k78.trans k89) (nd_fresh nd0 ez) hD9 hC9
            have k79 := k78.trans k89
            have l6 : (namesOf rs).length ≤ 6 := by unfold namesOf; rw [List.length_map]; exact bT.2.1
            have jl : j < (namesOf rs).length := (List.getElem?_eq_some_iff.mp ez).1
            refine ⟨_, DPut.k (k := Sum.inr z) hr9 (smallL (by rw [hl9, List.length_take]; omega)), ?_⟩
            rw [hput, take_snoc ez]
            exact ⟨hrw9, (k07.trans k79).wr nrd0, by rw [upd_ne q1]; exact k79 _ _ not0 hl7, by rw [upd_ne q2]; exact k79 _ _ not0 hn7, by rw [upd_ne q3]; exact k79 _ _ not0 hc7, by rw [upd_ne q4]; exact k79 _ _ not0 hnn7⟩
      · rintro σ H7 ⟨⟨c6, c7, c8, c9, rfl⟩, hrw, k07, hl7, hn7, hc7, hnn7⟩
        rw [List.length_map, List.take_length] at hrw
        try simp (maxSteps := 1000000) only [tSeq, tIfS, tTest, tOp, tUn, tCB, tCons, tNil, tVar, tC, rI0, rI, rU, rEq, rNe, tRet, tRetN, tAsg, gName, gSub, tBM, tBM0, tNext, tB, tNot, tAnd, tOr, tIf, tCall, tDrop, tBreak, tCont, L2.start, tDGet, sDPut, tTup, tLst, tDNewK, tRevL, rCat, rAppend, rPop, rSetL, tAndV, tOrV, tNotV, tSl, tPart, tNoPart, tM1, gTup, gCons, gNil, cxK, cxnK, List.map_cons, List.map_nil, List.length_cons, List.length_nil, List.replicate, List.cons_append, List.nil_append, List.append_nil, List.set_cons_zero, List.set_cons_succ, List.getElem?_cons_zero, List.getElem?_cons_succ, Option.some.injEq, V.ref.injEq, V.int.injEq, V.str.injEq, V.bl.injEq, V.ty.injEq, exists_eq_left', exists_eq_left, exists_and_left, List.cons.injEq, and_true, true_and, sc_ii, sc_ss, sc_bb, sc_ni, sc_in, sc_is, sc_si, sc_nn, decide_true, decide_false, reduceCtorEq, Bool.false_eq_true, if_true, if_false, ite_true, ite_false, exists_const, eq_self, false_and, and_false, or_false, false_or, exists_false, Evl.rLenS, rSum, wipe, tYes, exists_eq, exists_eq', rIxL, rIxT, rIxS, exists_and_right, gt_iff_lt, not_true_eq_false, not_false_eq_true, Bool.not_true, Bool.not_false, decide_eq_true_eq, Nat.reduceSub, Nat.reduceAdd, List.append_assoc, tChain, tDIn, tDNotIn, sDDel, tAug, ipI, tMake]
        intro t dt nt ndt ne
        have nm1 : ∀ z ∈ namesOf rs, nameS z = true := bT.2.2.1
        have hLb := hL.bnd
        have hLn := hL.nx2
        rw [hLd] at hLb hLn
        have zne : namesOf rs ≠ [] := fun z => bT.1 (List.map_eq_nil_iff.mp z)
        have l6 : (namesOf rs).length ≤ 6 := by unfold namesOf; rw [List.length_map]; exact bT.2.1
        refine mk_tab hrw (fun z hz k hk => ?_) nd0 zne l6 nm1 hLb.1 (by have := bT.2.2.2.2.1; omega) (by decide) (by omega) nt ndt ne.symm fun H8 hT8 k8 => ⟨rfl, q t H8 (noneB k07 nt) ?_ (k07.trans k8)⟩
        · obtain ⟨a, b, _⟩ := cT z hz _ (hflin _ (nmL k hk))
          have := hLn z hz k hk
          unfold nx at this
          refine ⟨?_, ?_, ?_⟩
          · unfold leastC
            rw [hLd]
            exact ⟨a, b⟩
          · unfold leastC
            omega
          · have h0 : 0 ≤ (leastC (Eqc (namesOf rs) (cF rs) m) fs (cF rs) z k).2 := by unfold leastC; omega
            omega
        · obtain ⟨rs', h1, h2, h3⟩ := hT8
          rw [eqN]
          exact ⟨rs', h1, h2, fun z hz s hs => by rw [h3 z hz s hs, cgC z hz s (by rw [eqN]; exact hs)]⟩
end
end My

set_option Elab.async false
set_option linter.all false
set_option maxRecDepth 100000
set_option maxHeartbeats 4000000
namespace My
open PySem L2 NdefX
abbrev s_law_mixed : Stmt := top 26
theorem sc_law_mixed : FnScope ["_law_cell", "_law_k", "_law_one", "_law_two"] ["_law_cell", "_law_k"] (defScope s_law_mixed) := ⟨rfl, rfl, rfl, by decide +kernel, rfl, by decide +kernel, by decide +kernel⟩
abbrev s_law_draws : Stmt := top 27
theorem sc_law_draws : FnScope ["_law_script", "_law_at", "_law_bounds", "_law_cell", "_law_rest", "_law_great", "_law_found", "_law_bound"] ["_law_script", "_law_at", "_law_bounds"] (defScope s_law_draws) := ⟨rfl, rfl, rfl, by decide +kernel, rfl, by decide +kernel, by decide +kernel⟩
structure BtG (mg : Str → Option Value) : Prop where
  b_int : mg "int" = none
  b_len : mg "len" = none
  b_abs : mg "abs" = none
section
variable {P : Program} {w : World} {K : PySem.W.Frag} {mg : Str → Option Value} {base : Heap}
def spMixed : Sp := fun vs H Q _ => ∃ (c k : Int), vs = [.int c, .int k] ∧ 0 ≤ k ∧ k ≤ 2000000 ∧ ∀ r : Int, 0 ≤ r → r < 2147483587 → Q (.int r) H
theorem ok_law_mixed {f : Addr} {fd : FuncData} (D : Df K mg "_law_mixed" s_law_mixed ["_law_cell", "_law_k"] f fd) (T : BtG mg) : FnOk P w K mg base CX0 1 f fd ["_law_cell", "_law_k"] spMixed := by
  refine D.F.ok sc_law_mixed (fun vs H Q E h => ?_) (fun cdv A outer s H vs Q E hr h => ?_)
  · obtain ⟨c, k, rfl, _⟩ := h
    rfl
  · obtain ⟨c, k, rfl, k0, k1, q⟩ := h
    refine ⟨_, (pss_cons (ps_set (i := 2) sc_law_mixed.nd rfl (Or.inl rfl) (pe_op op_mod (pe_callTy (T := "int") call_int1 (by rfl) T.b_int (by decide +kernel) (pa_cons (pe_op op_add (pe_op op_add (pe_op op_mul (pv 0) pe_int) (pe_op op_mul (pv 1) pe_int)) pe_int) pa_nil)) pe_int))
      (pss_cons (ps_set (i := 3) sc_law_mixed.nd rfl (Or.inl rfl) (pe_op op_mod (pe_callTy (T := "int") call_int1 (by rfl) T.b_int (by decide +kernel) (pa_cons (pe_op op_add (pe_op op_add (pe_op op_mul (pv 2) (pv 2)) (pe_op op_mul (pv 1) pe_int)) pe_int) pa_nil)) pe_int))
      (pss_one (ps_ret (pe_op op_mod (pe_callTy (T := "int") call_int1 (by rfl) T.b_int (by decide +kernel) (pa_cons (pe_op op_add (pe_op op_mul (pv 3) (pv 3)) (pv 2)) pa_nil)) pe_int))))), ?_⟩
    try simp (maxSteps := 1000000) only [tSeq, tIfS, tTest, tOp, tUn, tCB, tCons, tNil, tVar, tC, rI0, rI, rU, rEq, rNe, tRet, tRetN, tAsg, gName, gSub, tBM, tBM0, tNext, tB, tNot, tAnd, tOr, tIf, tCall, tDrop, tBreak, tCont, L2.start, tDGet, sDPut, tTup, tLst, tDNewK, tRevL, rCat, rAppend, rPop, rSetL, tAndV, tOrV, tNotV, tSl, tPart, tNoPart, tM1, gTup, gCons, gNil, cxK, cxnK, List.map_cons, List.map_nil, List.length_cons, List.length_nil, List.replicate, List.cons_append, List.nil_append, List.append_nil, List.set_cons_zero, List.set_cons_succ, List.getElem?_cons_zero, List.getElem?_cons_succ, Option.some.injEq, V.ref.injEq, V.int.injEq, V.str.injEq, V.bl.injEq, V.ty.injEq, exists_eq_left', exists_eq_left, exists_and_left, List.cons.injEq, and_true, true_and, sc_ii, sc_ss, sc_bb, sc_ni, sc_in, sc_is, sc_si, sc_nn, decide_true, decide_false, reduceCtorEq, Bool.false_eq_true, if_true, if_false, ite_true, ite_false, exists_const, eq_self, false_and, and_false, or_false, false_or, exists_false, Evl.rLenS, rSum, wipe, tYes, exists_eq, exists_eq', rIxL, rIxT, rIxS, exists_and_right, gt_iff_lt, not_true_eq_false, not_false_eq_true, Bool.not_true, Bool.not_false, decide_eq_true_eq, Nat.reduceSub, Nat.reduceAdd, List.append_assoc, tChain, tDIn, tDNotIn, sDDel, tAug, ipI]
    have m1 := Int.emod_nonneg (c * 48271 + k * 69621 + 17) (show (2147483647 : Int) ≠ 0 by decide)
    have m2 := Int.emod_lt_of_pos (c * 48271 + k * 69621 + 17) (show (0 : Int) < 2147483647 by decide)
    generalize (c * 48271 + k * 69621 + 17) % 2147483647 = x at m1 m2 ⊢
    have m3 := Int.emod_nonneg (x * x + k * 16807 + 29) (show (2147483629 : Int) ≠ 0 by decide)
    have m4 := Int.emod_lt_of_pos (x * x + k * 16807 + 29) (show (0 : Int) < 2147483629 by decide)
    generalize (x * x + k * 16807 + 29) % 2147483629 = y at m3 m4 ⊢
    exact ⟨.inr ⟨by decide, by decide⟩, .inr ⟨by decide, by decide⟩, by decide, .inl ⟨by omega, by omega⟩, .inr ⟨by decide, by decide⟩, by decide, .inl ⟨by omega, by omega⟩, by decide, q _ (Int.emod_nonneg _ (by decide)) (Int.emod_lt_of_pos _ (by decide))⟩
/-- the script -/
def Scr (K : PySem.W.Frag) (H : Hp) (a : Addr) (ns : List Int) : Prop := SqL K H a (ns.map V.int) ∧ ns.length ≤ 63
def DrawOk (bs ds : List Int) : Prop := ds.length = bs.length ∧ ∀ (i : Nat) (d b : Int), ds[i]? = some d → bs[i]? = some b → 0 ≤ d ∧ d < b
def spDraws (K : PySem.W.Frag) : Sp := fun vs H Q _ => ∃ (a bl : Addr) (at_ : Nat) (ns bs : List Int), vs = [.ref a, .int (at_ : Nat), .ref bl] ∧ Scr K H a ns ∧ at_ ≤ 1000 ∧ H bl = some (.lst (bs.map V.int)) ∧ bs.length ≤ 10000 ∧ (∀ b ∈ bs, 1 ≤ b ∧ b ≤ 1000000000) ∧
  ∀ (r : Addr) (ds : List Int) (H' : Hp), H r = none → H' r = some (.lst (ds.map V.int)) → DrawOk bs ds → Kp [] H H' → Q (.ref r) H'
theorem ok_law_draws {f : Addr} {fd : FuncData} (D : Df K mg "_law_draws" s_law_draws ["_law_script", "_law_at", "_law_bounds"] f fd) (T : BtG mg) {fg : Addr} {fdg : FuncData} (D_law_mixed : Df K mg "_law_mixed" s_law_mixed ["_law_cell", "_law_k"] fg fdg) (G_law_mixed : FnOk P w K mg base CX0 1 fg fdg ["_law_cell", "_law_k"] spMixed) : FnOk P w K mg base CX0 2 f fd ["_law_script", "_law_at", "_law_bounds"] (spDraws K) := by
  refine D.F.ok sc_law_draws (fun vs H Q E h => ?_) (fun cdv A outer s H vs Q E hr h => ?_)
  · obtain ⟨a, bl, at_, ns, bs, rfl, _⟩ := h
    rfl
  · obtain ⟨a, bl, at_, ns, bs, rfl, ⟨hS, hl⟩, a1, hb, bz, b1, q⟩ := h
    refine ⟨_, (pss_cons (ps_if (pt_cmpR op_eq (pe_callB (id := "len") (r := Evl.rLenS K) call_len_seq (by rfl) T.b_len PySem.boot_len (pa_cons (pv 0) pa_nil)) pe_int (nomark _)) (pss_one (ps_ret (pe_op op_rep (pe_lst (pa_cons pe_int pa_nil)) (pe_callB (id := "len") (r := Evl.rLenS K) call_len_seq (by rfl) T.b_len PySem.boot_len (pa_cons (pv 2) pa_nil))))) pss_nil)
      (pss_cons (ps_set (i := 3) sc_law_draws.nd rfl (Or.inl rfl) (pe_callTy (T := "int") call_int1 (by rfl) T.b_int (by decide +kernel) (pa_cons (pe_ix (r := rIxL K) ix_list (pv 0) (pe_op op_mod (pe_callTy (T := "int") call_int1 (by rfl) T.b_int (by decide +kernel) (pa_cons (pv 1) pa_nil)) (pe_callB (id := "len") (r := Evl.rLenS K) call_len_seq (by rfl) T.b_len PySem.boot_len (pa_cons (pv 0) pa_nil))) (fun _ _ => rfl)) pa_nil)))
      (pss_cons (ps_if (pt_cmpR op_ge (pv 1) (pe_callB (id := "len") (r := Evl.rLenS K) call_len_seq (by rfl) T.b_len PySem.boot_len (pa_cons (pv 0) pa_nil)) (nomark _)) (pss_one (ps_set (i := 3) sc_law_draws.nd rfl (Or.inl rfl) (pe_op op_mod (pe_callTy (T := "int") call_int1 (by rfl) T.b_int (by decide +kernel) (pa_cons (pv 3) pa_nil)) pe_int))) pss_nil)
      (pss_cons (ps_set (i := 4) sc_law_draws.nd rfl (Or.inl rfl) (pe_callB (id := "abs") call_abs (by rfl) T.b_abs (by decide +kernel) (pa_cons (pv 3) pa_nil)))
      (pss_cons (ps_set (i := 5) sc_law_draws.nd rfl (Or.inl rfl) (pe_cmpR op_ge (pv 4) (pe_op op_pow pe_int pe_int) (nomark _)))
      (pss_cons (ps_set (i := 6) sc_law_draws.nd rfl (Or.inl rfl) (pe_lst pa_nil))
      (pss_cons (ps_for PassesOwn.never rfl (pi_list (pv 2)) (pg_name (i := 7) sc_law_draws.nd rfl (Or.inl rfl)) (pss_one (ps_if (pt_val (pv 5)) (pss_cons (ps_expr (pe_bm PySem.F.plainAttrs_list PySem.F.slot_list_append PySem.F.type_list_append mt_append (pv 6) (pa_cons (pe_op op_mod (pe_callTy (T := "int") call_int1 (by rfl) T.b_int (by decide +kernel) (pa_cons (pv 4) pa_nil)) (pv 7)) pa_nil)))
      (pss_one (ps_set (i := 4) sc_law_draws.nd rfl (Or.inl rfl) (pe_op op_fdiv (pv 4) (pv 7))))) (pss_one (ps_expr (pe_bm PySem.F.plainAttrs_list PySem.F.slot_list_append PySem.F.type_list_append mt_append (pv 6) (pa_cons (pe_op op_mod (pe_callTy (T := "int") call_int1 (by rfl) T.b_int (by decide +kernel) (pa_cons (pe_call G_law_mixed (hr.mono (by decide)) rfl D_law_mixed.g D_law_mixed.F.kp D_law_mixed.b .nil pass0 (pa_cons (pv 3) (pa_cons (pe_op op_add (pe_op op_mul pe_int (pv 1)) (pe_callB (id := "len") (r := Evl.rLenS K) call_len_seq (by rfl) T.b_len PySem.boot_len (pa_cons (pv 6) pa_nil))) pa_nil))) pa_nil)) (pv 7)) pa_nil)))))))
      (pss_one (ps_ret (pv 6)))))))))), ?_⟩
    try simp (maxSteps := 1000000) only [tSeq, tIfS, tTest, tOp, tUn, tCB, tCons, tNil, tVar, tC, rI0, rI, rU, rEq, rNe, tRet, tRetN, tAsg, gName, gSub, tBM, tBM0, tNext, tB, tNot, tAnd, tOr, tIf, tCall, tDrop, tBreak, tCont, L2.start, tDGet, sDPut, tTup, tLst, tDNewK, tRevL, rCat, rAppend, rPop, rSetL, tAndV, tOrV, tNotV, tSl, tPart, tNoPart, tM1, gTup, gCons, gNil, cxK, cxnK, List.map_cons, List.map_nil, List.length_cons, List.length_nil, List.replicate, List.cons_append, List.nil_append, List.append_nil, List.set_cons_zero, List.set_cons_succ, List.getElem?_cons_zero, List.getElem?_cons_succ, Option.some.injEq, V.ref.injEq, V.int.injEq, V.str.injEq, V.bl.injEq, V.ty.injEq, exists_eq_left', exists_eq_left, exists_and_left, List.cons.injEq, and_true, true_and, sc_ii, sc_ss, sc_bb, sc_ni, sc_in, sc_is, sc_si, sc_nn, decide_true, decide_false, reduceCtorEq, Bool.false_eq_true, if_true, if_false, ite_true, ite_false, exists_const, eq_self, false_and, and_false, or_false, false_or, exists_false, Evl.rLenS, rSum, wipe, tYes, exists_eq, exists_eq', rIxL, rIxT, rIxS, exists_and_right, gt_iff_lt, not_true_eq_false, not_false_eq_true, Bool.not_true, Bool.not_false, decide_eq_true_eq, Nat.reduceSub, Nat.reduceAdd, List.append_assoc, tChain, tDIn, tDNotIn, sDDel, tAug, ipI]
    refine ⟨_, .inl hS, ?_⟩
    rw [List.length_map]
    have zero_ok : DrawOk bs (List.replicate bs.length 0) := ⟨by simp, fun i d b hd hb' => by
      rw [List.getElem?_replicate] at hd
      split at hd
      · cases hd
        exact ⟨by decide, by have := (b1 b (List.mem_of_getElem? hb')).1; omega⟩
      · cases hd⟩
    refine ite2 (fun h1 => ?_) (fun h1 => ?_)
    · refine ⟨by decide, fun p np => ?_⟩
      have kp : Kp [] H (upd H p (.lst [.int 0])) := Kp.new np
      try simp (maxSteps := 1000000) only [tSeq, tIfS, tTest, tOp, tUn, tCB, tCons, tNil, tVar, tC, rI0, rI, rU, rEq, rNe, tRet, tRetN, tAsg, gName, gSub, tBM, tBM0, tNext, tB, tNot, tAnd, tOr, tIf, tCall, tDrop, tBreak, tCont, L2.start, tDGet, sDPut, tTup, tLst, tDNewK, tRevL, rCat, rAppend, rPop, rSetL, tAndV, tOrV, tNotV, tSl, tPart, tNoPart, tM1, gTup, gCons, gNil, cxK, cxnK, List.map_cons, List.map_nil, List.length_cons, List.length_nil, List.replicate, List.cons_append, List.nil_append, List.append_nil, List.set_cons_zero, List.set_cons_succ, List.getElem?_cons_zero, List.getElem?_cons_succ, Option.some.injEq, V.ref.injEq, V.int.injEq, V.str.injEq, V.bl.injEq, V.ty.injEq, exists_eq_left', exists_eq_left, exists_and_left, List.cons.injEq, and_true, true_and, sc_ii, sc_ss, sc_bb, sc_ni, sc_in, sc_is, sc_si, sc_nn, decide_true, decide_false, reduceCtorEq, Bool.false_eq_true, if_true, if_false, ite_true, ite_false, exists_const, eq_self, false_and, and_false, or_false, false_or, exists_false, Evl.rLenS, rSum, wipe, tYes, exists_eq, exists_eq', rIxL, rIxT, rIxS, exists_and_right, gt_iff_lt, not_true_eq_false, not_false_eq_true, Bool.not_true, Bool.not_false, decide_eq_true_eq, Nat.reduceSub, Nat.reduceAdd, List.append_assoc, tChain, tDIn, tDNotIn, sDDel, tAug, ipI, rRep]
      refine ⟨_, .inl (sq_l (kp _ _ not0 hb)), [.int 0], upd_same, by rw [List.length_map]; omega, by rw [List.length_map]; omega, ?_, fun r nr => ?_⟩
      · rw [List.length_map, List.length_singleton, Int.toNat_natCast]
        have := (smallL (n := bs.length) (by omega))
        omega
      · have nr' := kp.free0 nr
        refine q r (List.replicate bs.length 0) _ nr' ?_ zero_ok (kp.trans (Kp.new nr))
        have fl : ∀ n : Nat, (List.replicate n [V.int 0]).flatten = (List.replicate n (0 : Int)).map V.int := by
          intro n
          induction n with
          | zero => rfl
          | succ n ih => rw [List.replicate_succ, List.replicate_succ, List.flatten_cons, ih]; rfl
        rw [upd_same, List.length_map, Int.toNat_natCast, fl]
    · have tail : ∀ (p : Addr), H p = none → ∀ (cell rest : Int) (gr : Bool), 0 ≤ rest → (tFor (iList K (tVar 2)) (gName 7)
          (tIfS (tB (tVar 5)) (tSeq (tDrop (tBM K "list" rAppend (tVar 6) (tCons (tOp (rI (fun _ j => 0 < j) fun i j => V.int (i % j)) (tCB (fun xs H Q => (∃ i, xs = [V.int i] ∧ Q (V.int i) H) ∨ ∃ k, xs = [V.bl k] ∧ Q (V.int (if k = true then 1 else 0)) H) (tCons (tVar 4) tNil)) (tVar 7)) tNil))) (tAsg (tOp (rI CDiv fun i j => V.int (i / j)) (tVar 4) (tVar 7)) (gName 4)))
            (tDrop (tBM K "list" rAppend (tVar 6) (tCons (tOp (rI (fun _ j => 0 < j) fun i j => V.int (i % j)) (tCB (fun xs H Q => (∃ i, xs = [V.int i] ∧ Q (V.int i) H) ∨ ∃ k, xs = [V.bl k] ∧ Q (V.int (if k = true then 1 else 0)) H) (tCons (tCall spMixed [] E0 (tCons (tVar 3) (tCons (tOp (rI0 fun i j => V.int (i + j)) (tOp (rI CMul fun i j => V.int (i * j)) (tC (V.int 1009)) (tVar 1)) (tCB (Evl.rLenS K) (tCons (tVar 6) tNil))) tNil))) tNil)) (tVar 7)) tNil)))))
          { nx := tRet (tVar 6) { nx := fun x H' => Q V.non H', rt := Q }, rt := Q } [some (V.ref a), some (V.int (at_ : Nat)), some (V.ref bl), some (V.int cell), some (V.int rest), some (V.bl gr), some (V.ref p), none] (upd H p (HO.lst [])) := by
        intro p np cell rest0 gr r2
        have kp : Kp [] H (upd H p (.lst [])) := Kp.new np
        refine ⟨.ref bl, rfl, bl, rfl, ⟨_, sq_l (kp _ _ not0 hb)⟩, for_list (K := K) (a := bl) (xs := bs.map V.int) (fun i σ H' => ∃ (rest : Int) (c7 : Option V) (ds : List Int), σ = [some (.ref a), some (.int (at_ : Nat)), some (.ref bl), some (.int cell), some (.int rest), some (.bl gr), some (.ref p), c7] ∧ 0 ≤ rest ∧ H' p = some (.lst (ds.map V.int)) ∧ DrawOk (bs.take i) ds ∧ Kp [] H H') ⟨rest0, none, [], rfl, r2, upd_same, ⟨rfl, fun i d b e => by cases e⟩, kp⟩ (fun i σ H' _ h => by obtain ⟨_, _, _, _, _, _, _, k⟩ := h; exact k.ls not0 (sq_l hb)) ?_ ?_⟩
        · rintro i v σ H1 hx ⟨rest, c7, ds, rfl, s0, hp, hd, k1⟩
          obtain ⟨b, eb, rfl⟩ : ∃ b, bs[i]? = some b ∧ V.int b = v := by
            rw [List.getElem?_map] at hx
            cases e : bs[i]? with
            | none => rw [e] at hx; cases hx
            | some b => rw [e] at hx; exact ⟨b, rfl, Option.some.inj hx⟩
          have bb := b1 b (List.mem_of_getElem? eb)
          have il := (List.getElem?_eq_some_iff.mp eb).1
          have dl : ds.length = i := by rw [hd.1, List.length_take]; omega
          have more : ∀ d : Int, 0 ≤ d → d < b → DrawOk (bs.take (i + 1)) (ds ++ [d]) := fun d d0 d1 => ⟨by rw [take_snoc eb, List.length_append, List.length_append, hd.1]; rfl, fun j d' b' hj hb' => by
            rw [take_snoc eb] at hb'
            have lt : (bs.take i).length = i := by rw [List.length_take]; omega
            rcases Nat.lt_trichotomy j i with w | w | w
            · rw [List.getElem?_append_left (by omega)] at hj hb'
              exact hd.2 j d' b' hj hb'
            · subst w
              rw [List.getElem?_append_right (by omega)] at hj hb'
              rw [dl, Nat.sub_self] at hj
              rw [lt, Nat.sub_self] at hb'
              cases hj
              cases hb'
              exact ⟨d0, d1⟩
            · rw [List.getElem?_append_right (by omega), dl, List.getElem?_eq_none (by simp; omega)] at hj
              cases hj⟩
          have sl : (ds.map V.int).length < sizeLine := smallL (by rw [List.length_map]; omega)
          cases gr with
          | true =>
            try simp (maxSteps := 1000000) only [tSeq, tIfS, tTest, tOp, tUn, tCB, tCons, tNil, tVar, tC, rI0, rI, rU, rEq, rNe, tRet, tRetN, tAsg, gName, gSub, tBM, tBM0, tNext, tB, tNot, tAnd, tOr, tIf, tCall, tDrop, tBreak, tCont, L2.start, tDGet, sDPut, tTup, tLst, tDNewK, tRevL, rCat, rAppend, rPop, rSetL, tAndV, tOrV, tNotV, tSl, tPart, tNoPart, tM1, gTup, gCons, gNil, cxK, cxnK, List.map_cons, List.map_nil, List.length_cons, List.length_nil, List.replicate, List.cons_append, List.nil_append, List.append_nil, List.set_cons_zero, List.set_cons_succ, List.getElem?_cons_zero, List.getElem?_cons_succ, Option.some.injEq, V.ref.injEq, V.int.injEq, V.str.injEq, V.bl.injEq, V.ty.injEq, exists_eq_left', exists_eq_left, exists_and_left, List.cons.injEq, and_true, true_and, sc_ii, sc_ss, sc_bb, sc_ni, sc_in, sc_is, sc_si, sc_nn, decide_true, decide_false, reduceCtorEq, Bool.false_eq_true, if_true, if_false, ite_true, ite_false, exists_const, eq_self, false_and, and_false, or_false, false_or, exists_false, Evl.rLenS, rSum, wipe, tYes, exists_eq, exists_eq', rIxL, rIxT, rIxS, exists_and_right, gt_iff_lt, not_true_eq_false, not_false_eq_true, Bool.not_true, Bool.not_false, decide_eq_true_eq, Nat.reduceSub, Nat.reduceAdd, List.append_assoc, tChain, tDIn, tDNotIn, sDDel, tAug, ipI]
            exact ⟨.inl ⟨rfl, _, sq_l hp⟩, by omega, _, hp, sl, ⟨by omega, by omega⟩, Int.ediv_nonneg s0 (by omega), ds ++ [rest % b], by rw [upd_same, List.map_append]; rfl, more _ (Int.emod_nonneg _ (by omega)) (Int.emod_lt_of_pos _ (by omega)), k1.wr np⟩
          | false =>
            try simp (maxSteps := 1000000) only [tSeq, tIfS, tTest, tOp, tUn, tCB, tCons, tNil, tVar, tC, rI0, rI, rU, rEq, rNe, tRet, tRetN, tAsg, gName, gSub, tBM, tBM0, tNext, tB, tNot, tAnd, tOr, tIf, tCall, tDrop, tBreak, tCont, L2.start, tDGet, sDPut, tTup, tLst, tDNewK, tRevL, rCat, rAppend, rPop, rSetL, tAndV, tOrV, tNotV, tSl, tPart, tNoPart, tM1, gTup, gCons, gNil, cxK, cxnK, List.map_cons, List.map_nil, List.length_cons, List.length_nil, List.replicate, List.cons_append, List.nil_append, List.append_nil, List.set_cons_zero, List.set_cons_succ, List.getElem?_cons_zero, List.getElem?_cons_succ, Option.some.injEq, V.ref.injEq, V.int.injEq, V.str.injEq, V.bl.injEq, V.ty.injEq, exists_eq_left', exists_eq_left, exists_and_left, List.cons.injEq, and_true, true_and, sc_ii, sc_ss, sc_bb, sc_ni, sc_in, sc_is, sc_si, sc_nn, decide_true, decide_false, reduceCtorEq, Bool.false_eq_true, if_true, if_false, ite_true, ite_false, exists_const, eq_self, false_and, and_false, or_false, false_or, exists_false, Evl.rLenS, rSum, wipe, tYes, exists_eq, exists_eq', rIxL, rIxT, rIxS, exists_and_right, gt_iff_lt, not_true_eq_false, not_false_eq_true, Bool.not_true, Bool.not_false, decide_eq_true_eq, Nat.reduceSub, Nat.reduceAdd, List.append_assoc, tChain, tDIn, tDNotIn, sDDel, tAug, ipI]
            exact ⟨.inl ⟨rfl, _, sq_l hp⟩, .inl ⟨by decide, by decide⟩, _, .inl (sq_l hp), cell, _, rfl, by omega, by rw [List.length_map]; omega, fun r r0 r1 => .inl ⟨r, rfl, by omega, _, hp, sl, s0, ds ++ [r % b], by rw [upd_same, List.map_append]; rfl, more _ (Int.emod_nonneg _ (by omega)) (Int.emod_lt_of_pos _ (by omega)), k1.wr np⟩⟩
        · rintro σ H1 ⟨rest, c7, ds, rfl, s0, hp, hd, k1⟩
          rw [List.length_map, List.take_length] at hd
          try simp (maxSteps := 1000000) only [tSeq, tIfS, tTest, tOp, tUn, tCB, tCons, tNil, tVar, tC, rI0, rI, rU, rEq, rNe, tRet, tRetN, tAsg, gName, gSub, tBM, tBM0, tNext, tB, tNot, tAnd, tOr, tIf, tCall, tDrop, tBreak, tCont, L2.start, tDGet, sDPut, tTup, tLst, tDNewK, tRevL, rCat, rAppend, rPop, rSetL, tAndV, tOrV, tNotV, tSl, tPart, tNoPart, tM1, gTup, gCons, gNil, cxK, cxnK, List.map_cons, List.map_nil, List.length_cons, List.length_nil, List.replicate, List.cons_append, List.nil_append, List.append_nil, List.set_cons_zero, List.set_cons_succ, List.getElem?_cons_zero, List.getElem?_cons_succ, Option.some.injEq, V.ref.injEq, V.int.injEq, V.str.injEq, V.bl.injEq, V.ty.injEq, exists_eq_left', exists_eq_left, exists_and_left, List.cons.injEq, and_true, true_and, sc_ii, sc_ss, sc_bb, sc_ni, sc_in, sc_is, sc_si, sc_nn, decide_true, decide_false, reduceCtorEq, Bool.false_eq_true, if_true, if_false, ite_true, ite_false, exists_const, eq_self, false_and, and_false, or_false, false_or, exists_false, Evl.rLenS, rSum, wipe, tYes, exists_eq, exists_eq', rIxL, rIxT, rIxS, exists_and_right, gt_iff_lt, not_true_eq_false, not_false_eq_true, Bool.not_true, Bool.not_false, decide_eq_true_eq, Nat.reduceSub, Nat.reduceAdd, List.append_assoc, tChain, tDIn, tDNotIn, sDDel, tAug, ipI]
          exact q p ds H1 np hp hd k1
      have len0 : (0 : Int) < (ns.length : Nat) := by omega
      have r0 := Int.emod_nonneg (at_ : Int) (show ((ns.length : Nat) : Int) ≠ 0 by omega)
      have r1 := Int.emod_lt_of_pos (at_ : Int) len0
      obtain ⟨v, hv, ev⟩ := atI_ex (xs := ns.map V.int) r0 (by rw [List.length_map]; exact r1)
      obtain ⟨x, _, rfl⟩ := List.mem_map.mp hv
      refine ⟨_, .inl hS, by rw [List.length_map]; exact len0, _, hS, _, by rw [List.length_map]; exact ev, .inl ⟨x, rfl, _, .inl hS, ?_⟩⟩
      have p18 : CPow 10 18 := ⟨by decide, by decide, by decide⟩
      rw [List.length_map]
      refine ite2 (fun h2 => ?_) (fun h2 => ?_)
      · refine ⟨by decide, p18, Nat.zero_le _, fun p np => ?_⟩
        have r2 : 0 ≤ (if x % 1000003 < 0 then -(x % 1000003) else x % 1000003) := by split <;> omega
        generalize (if x % 1000003 < 0 then -(x % 1000003) else x % 1000003) = rest at r2 ⊢
        generalize x % 1000003 = cell
        generalize decide (10 ^ Int.toNat 18 ≤ rest) = gr
        exact tail p np cell rest gr r2
      · refine ⟨p18, Nat.zero_le _, fun p np => ?_⟩
        have r2 : 0 ≤ (if x < 0 then -x else x) := by split <;> omega
        generalize (if x < 0 then -x else x) = rest at r2 ⊢
        generalize decide (10 ^ Int.toNat 18 ≤ rest) = gr
        exact tail p np x rest gr r2
end
end My

set_option Elab.async false
set_option linter.all false
set_option maxRecDepth 100000
set_option maxHeartbeats 4000000
namespace My
open PySem L2
def tx (cs : List Nat) : Str := ⟨cs.toArray⟩
theorem tx_inj {a b : List Nat} (h : tx a = tx b) : a = b := by
  have e : a.toArray = b.toArray := congrArg Str.cps h
  simpa using e
theorem tx_len (cs : List Nat) : (tx cs).length = cs.length := by
  show cs.toArray.size = _
  simp
theorem tx_list (cs : List Nat) : (tx cs).cps.toList = cs := by
  show cs.toArray.toList = cs
  simp
theorem tx_app (a b : List Nat) : tx a ++ tx b = tx (a ++ b) := by
  show (⟨a.toArray ++ b.toArray⟩ : Str) = ⟨(a ++ b).toArray⟩
  simp
theorem join_ones : ∀ cs : List Nat, Txt.join "" (cs.map fun c => tx [c]) = tx cs := by
  intro cs
  have e := SX.join_S [] (cs.map fun c => [c])
  have e2 : (cs.map fun c => [c]).map SX.S = cs.map fun c => tx [c] := by rw [List.map_map]; rfl
  rw [e2] at e
  have e3 : TL.joinL [] (cs.map fun c => [c]) = cs := by
    clear e e2
    induction cs with
    | nil => rfl
    | cons c r ih =>
      cases r with
      | nil => rfl
      | cons d r =>
        show [c] ++ ([] ++ TL.joinL [] ((d :: r).map fun c => [c])) = c :: d :: r
        rw [ih]; rfl
  rw [e3] at e
  exact e
theorem cutTo (cs : List Nat) (k : Nat) : cutS (tx cs) none (some (k : Int)) = tx (cs.take k) := by
  unfold cutS
  rw [HT.sIx_none, HT.sIx_nat, tx_list, tx_len, List.drop_zero, Nat.sub_zero]
  show tx _ = tx _
  congr 1
  rcases Nat.le_total k cs.length with h | h
  · rw [Nat.min_eq_left h]
  · rw [Nat.min_eq_right h, List.take_length, List.take_of_length_le h]
theorem cutFrom (cs : List Nat) (k : Nat) : cutS (tx cs) (some (k : Int)) none = tx (cs.drop k) := by
  unfold cutS
  rw [HT.sIx_none, HT.sIx_nat, tx_list, tx_len]
  show tx _ = tx _
  congr 1
  rcases Nat.le_total k cs.length with h | h
  · rw [Nat.min_eq_left h, List.take_of_length_le (by rw [List.length_drop]; exact Nat.le_refl _)]
  · rw [Nat.min_eq_right h, List.drop_of_length_le h, List.drop_length]; simp
def vari (cs : List Nat) (s c : Nat) : List Nat := cs.take s ++ ([c] ++ cs.drop (s + 1))
theorem vari_len {cs : List Nat} {s c : Nat} (h : s < cs.length) : (vari cs s c).length = cs.length := by
  simp [vari]; omega
theorem vari_vari {cs : List Nat} {s c d : Nat} (h : s < cs.length) : vari (vari cs s c) s d = vari cs s d := by
  have l : (cs.take s).length = s := by rw [List.length_take]; omega
  unfold vari
  rw [List.take_append_of_le_length (by omega), List.take_of_length_le (by omega)]
  congr 2
  rw [List.drop_append, l, List.drop_of_length_le (by omega), List.nil_append, show s + 1 - s = 1 by omega]; rfl
theorem vari_inj {cs : List Nat} {s c d : Nat} (h : vari cs s c = vari cs s d) : c = d := by
  unfold vari at h
  have := List.append_cancel_left h
  simpa using this
def LowL (cs : List Nat) : Prop := ∀ c ∈ cs, 97 ≤ c ∧ c ≤ 122
theorem vari_low {cs : List Nat} {s c : Nat} (h : LowL cs) (hc : 97 ≤ c ∧ c ≤ 122) : LowL (vari cs s c) := fun d hd => by
  unfold vari at hd
  rcases List.mem_append.mp hd with h1 | h1
  · exact h d (List.mem_of_mem_take h1)
  · rcases List.mem_append.mp h1 with h2 | h2
    · rw [List.mem_singleton.mp h2]; exact hc
    · exact h d (List.mem_of_mem_drop h2)
theorem tx_name {cs : List Nat} (h : LowL cs) (h1 : 1 ≤ cs.length) (h8 : cs.length ≤ 8) : nameS (tx cs) = true := by
  unfold nameS
  rw [tx_len, tx_list, decide_eq_true h1, decide_eq_true h8, Bool.true_and, Bool.true_and, List.all_eq_true]
  intro c hc
  unfold lowC
  rw [decide_eq_true (h c hc).1, decide_eq_true (h c hc).2]; rfl
theorem many {zs : List Str} {cs : List Nat} {s : Nat} (h : ∀ i, i < 25 → tx (vari cs s (97 + i)) ∈ zs) : 25 ≤ zs.length := by
  have nd : ((List.range 25).map fun i => tx (vari cs s (97 + i))).Nodup := by
    unfold List.Nodup
    rw [List.pairwise_map]
    refine List.Pairwise.imp_of_mem ?_ List.pairwise_lt_range
    intro a b _ _ hab e
    have := vari_inj (tx_inj e)
    omega
  have le := List.Nodup.length_le_of_subset nd (l₂ := zs) fun x hx => by
    obtain ⟨i, hi, rfl⟩ := List.mem_map.mp hx
    exact h i (List.mem_range.mp hi)
  rw [List.length_map, List.length_range] at le
  exact le
/-- a test, both ways to one end -/
theorem ifs_both {c : TT} {t u : TS} {D : Ends} {σ : L2.St} {H : Hp} (Pv : L2.St → Hp → Prop) (h : ∀ Dn : Ends, (∀ σ' H', Pv σ' H' → Dn.nx σ' H') → tIfS c t u Dn σ H) (h2 : ∀ σ' H', Pv σ' H' → D.nx σ' H') : tIfS c t u D σ H := h D h2
theorem lcRgN {ta : TA} {g : TG} {tt : TT} {te : TE} {vs : List Nat} {σ : L2.St} {H : Hp} {Q : VK} (m : Nat) (hm : m ≤ 100000) (Pv : Addr → Nat → Hp → Prop) (ht : ∀ R : List V → Hp → Prop, R [.int (m : Nat)] H → ta σ H R) (h0 : ∀ o, H o = none → Pv o 0 (upd H o (.lst [])))
    (step : ∀ o i H', H o = none → i < m → Pv o i H' → g (.int (i : Nat)) (wipe σ vs) H' fun σ2 H2 => wipe σ2 vs = wipe σ vs ∧ tt σ2 H2 fun b H3 => if b = true then te σ2 H3 fun y H4 => ∃ acc, H4 o = some (.lst acc) ∧ acc.length < sizeLine ∧ Pv o (i + 1) (upd H4 o (.lst (acc ++ [y]))) else Pv o (i + 1) H3)
    (fin : ∀ o H', H o = none → Pv o m H' → Q (.ref o) H') : tLc (iRng1 ta) g tt te vs σ H Q :=
  ht _ ⟨(m : Nat), rfl, by omega, by omega, fun o no => lc_range (Pv o) (h0 o no) (fun i H' hi p => by rw [Int.zero_add]; exact step o i H' no (by omega) p) fun H' p => fin o H' no (by rw [Int.toNat_natCast] at p; exact p)⟩
theorem sum_ones : ∀ cs : List Nat, ((cs.map fun c => tx [c]).map fun z => z.length).sum = cs.length
  | [] => rfl
  | c :: r => by
    show (tx [c]).length + ((r.map fun c => tx [c]).map fun z => z.length).sum = r.length + 1
    rw [sum_ones r, tx_len]
    show 1 + r.length = _
    omega
theorem inV_str {z : Str} : ∀ {ks : List Str}, inV (.str z) (ks.map V.str) = decide (z ∈ ks)
  | [] => rfl
  | k :: ks => by
    have e : inV (.str z) ((k :: ks).map V.str) = ((k == z) || inV (.str z) (ks.map V.str)) := rfl
    rw [e, inV_str (ks := ks)]
    by_cases h : k = z
    · rw [h, beq_self_eq_true, Bool.true_or, decide_eq_true List.mem_cons_self]
    · rw [beq_eq_false_iff_ne.mpr h, Bool.false_or]
      refine decide_eq_decide.mpr ⟨fun q => List.mem_cons_of_mem _ q, fun q => ?_⟩
      rcases List.mem_cons.mp q with q | q
      · exact absurd q.symm h
      · exact q
theorem flat_strs {ks : List Str} : (ks.map V.str).all flatV = true := by
  rw [List.all_map, List.all_eq_true]
  intro _ _; rfl
theorem lets_at : ∀ i : Nat, i < 26 → lets.cps.toList[i]? = some (97 + i) := by decide +kernel
end My

set_option Elab.async false
set_option linter.all false
set_option maxRecDepth 100000
set_option maxHeartbeats 4000000
namespace My
open PySem L2 NdefX
abbrev s_law_names : Stmt := top 28
theorem sc_law_names : FnScope ["_law_script", "_law_at", "_law_many", "_law_letters", "_law_spots", "_law_found", "_law_k", "_law_row", "_law_word", "_law_j", "_law_spot", "_law_letter"] ["_law_script", "_law_at", "_law_many"] (defScope s_law_names) := ⟨rfl, rfl, rfl, by decide +kernel, rfl, by decide +kernel, by decide +kernel⟩
structure BtN (mg : Str → Option Value) : Prop where
  b_int : mg "int" = none
  b_len : mg "len" = none
  b_range : mg "range" = none
def bsN (n : Nat) : List Int := [3, 8] ++ (List.replicate n [8, 26, 26, 26]).flatten
theorem bsN_len {n : Nat} : (bsN n).length = 2 + 4 * n := by
  unfold bsN
  simp; omega
theorem bsN_ok {n : Nat} : ∀ b ∈ bsN n, 1 ≤ b ∧ b ≤ 1000000000 := by
  intro b hb
  unfold bsN at hb
  rcases List.mem_append.mp hb with h | h
  · rcases List.mem_cons.mp h with rfl | h
    · decide
    · rcases List.mem_cons.mp h with rfl | h
      · decide
      · cases h
  · obtain ⟨l, hl, hb⟩ := List.mem_flatten.mp h
    rw [(List.mem_replicate.mp hl).2] at hb
    simp at hb
    rcases hb with rfl | rfl <;> decide
theorem fl_at {n : Nat} : ∀ {k j : Nat} {b : Int}, k < n → ([8, 26, 26, 26] : List Int)[j]? = some b → (List.replicate n ([8, 26, 26, 26] : List Int)).flatten[4 * k + j]? = some b := by
  induction n with
  | zero => intro k j b h; omega
  | succ n ih =>
    intro k j b hk hj
    have hj4 : j < 4 := (List.getElem?_eq_some_iff.mp hj).1
    rw [List.replicate_succ, List.flatten_cons]
    cases k with
    | zero => rw [Nat.mul_zero, Nat.zero_add, List.getElem?_append_left hj4]; exact hj
    | succ k =>
      rw [List.getElem?_append_right (by show 4 ≤ _; omega), show 4 * (k + 1) + j - ([8, 26, 26, 26] : List Int).length = 4 * k + j by show 4 * (k + 1) + j - 4 = _; omega]
      exact ih (by omega) hj
theorem bsN_at {n k j : Nat} {b : Int} (hk : k < n) (hj : ([8, 26, 26, 26] : List Int)[j]? = some b) : (bsN n)[2 + 4 * k + j]? = some b := by
  unfold bsN
  rw [List.getElem?_append_right (by show 2 ≤ _; omega), show 2 + 4 * k + j - ([3, 8] : List Int).length = 4 * k + j by show 2 + 4 * k + j - 2 = _; omega]
  exact fl_at hk hj
/-- four drawn numbers of the k-th name -/
theorem draw4 {n k : Nat} {ds : List Int} (h : DrawOk (bsN n) ds) (hk : k < n) : ∃ w x y v : Int, (ds.drop (2 + 4 * k)).take 4 = [w, x, y, v] ∧ (0 ≤ w ∧ w < 8) ∧ (0 ≤ x ∧ x < 26) ∧ (0 ≤ y ∧ y < 26) ∧ (0 ≤ v ∧ v < 26) := by
  have len : ds.length = 2 + 4 * n := by rw [h.1, bsN_len]
  have at_ : ∀ j b, ([8, 26, 26, 26] : List Int)[j]? = some b → ∃ d, ds[2 + 4 * k + j]? = some d ∧ 0 ≤ d ∧ d < b := fun j b e => by
    have hj4 : j < 4 := (List.getElem?_eq_some_iff.mp e).1
    have lt : 2 + 4 * k + j < ds.length := by omega
    exact ⟨ds[2 + 4 * k + j], List.getElem?_eq_getElem lt, h.2 _ _ b (List.getElem?_eq_getElem lt) (bsN_at hk e)⟩
  obtain ⟨w, e0, b0⟩ := at_ 0 8 rfl
  obtain ⟨x, e1, b1⟩ := at_ 1 26 rfl
  obtain ⟨y, e2, b2⟩ := at_ 2 26 rfl
  obtain ⟨v, e3, b3⟩ := at_ 3 26 rfl
  refine ⟨w, x, y, v, ?_, b0, b1, b2, b3⟩
  refine List.ext_getElem? fun i => ?_
  rw [List.getElem?_take]
  rcases (show i = 0 ∨ i = 1 ∨ i = 2 ∨ i = 3 ∨ 4 ≤ i by omega) with rfl | rfl | rfl | rfl | h4
  · rw [if_pos (by decide), List.getElem?_drop]; exact e0
  · rw [if_pos (by decide), List.getElem?_drop]; exact e1
  · rw [if_pos (by decide), List.getElem?_drop]; exact e2
  · rw [if_pos (by decide), List.getElem?_drop]; exact e3
  · rw [if_neg (by omega), List.getElem?_eq_none (by show 4 ≤ i; exact h4)]
section
variable {P : Program} {w : World} {K : PySem.W.Frag} {mg : Str → Option Value} {base : Heap}
def spNames (K : PySem.W.Frag) : Sp := fun vs H Q _ => ∃ (a : Addr) (at_ n : Nat) (ns : List Int), vs = [.ref a, .int (at_ : Nat), .int (n : Nat)] ∧ Scr K H a ns ∧ at_ ≤ 1000 ∧ 1 ≤ n ∧ n ≤ 20 ∧
  ∀ (r : Addr) (zs : List Str) (H' : Hp), H r = none → H' r = some (.lst (zs.map V.str)) → zs.length = n → (∀ z ∈ zs, nameS z = true) → zs.Nodup → Kp [] H H' → Q (.ref r) H'
theorem ok_law_names {f : Addr} {fd : FuncData} (D : Df K mg "_law_names" s_law_names ["_law_script", "_law_at", "_law_many"] f fd) (T : BtN mg) {fg : Addr} {fdg : FuncData} (D_law_draws : Df K mg "_law_draws" s_law_draws ["_law_script", "_law_at", "_law_bounds"] fg fdg) (G_law_draws : FnOk P w K mg base CX0 2 fg fdg ["_law_script", "_law_at", "_law_bounds"] (spDraws K)) : FnOk P w K mg base CX0 3 f fd ["_law_script", "_law_at", "_law_many"] (spNames K) := by
  refine D.F.ok sc_law_names (fun vs H Q E h => ?_) (fun cdv A outer s H vs Q E hr h => ?_)
  · obtain ⟨a, at_, n, ns, rfl, _⟩ := h
    rfl
  · obtain ⟨a, at_, n, ns, rfl, hS, a1, n1, n2, q⟩ := h
    have hu := hu_of hr
    refine ⟨_, (pss_cons (ps_set (i := 3) sc_law_names.nd rfl (Or.inr rfl) pe_str)
      (pss_cons (ps_set (i := 4) sc_law_names.nd rfl (Or.inl rfl) (pe_call G_law_draws (hr.mono (by decide)) rfl D_law_draws.g D_law_draws.F.kp D_law_draws.b .nil pass0 (pa_cons (pv 0) (pa_cons (pv 1) (pa_cons (pe_op op_cat (pe_lst (pa_cons pe_int (pa_cons pe_int pa_nil))) (pe_op op_rep (pe_lst (pa_cons pe_int (pa_cons pe_int (pa_cons pe_int (pa_cons pe_int pa_nil))))) (pv 2))) pa_nil)))))
      (pss_cons (ps_set (i := 5) sc_law_names.nd rfl (Or.inl rfl) (pe_lst pa_nil))
      (pss_cons (ps_for PassesOwn.never rfl (pi_range1 rfl T.b_range (pa_cons (pv 2) pa_nil)) (pg_name (i := 6) sc_law_names.nd rfl (Or.inl rfl)) (pss_cons (ps_set (i := 7) sc_law_names.nd rfl (Or.inr rfl) (pe_slice sl_list (pv 4) (po_some (pe_op op_add pe_int (pe_op op_mul pe_int (pv 6)))) (po_some (pe_op op_add pe_int (pe_op op_mul pe_int (pv 6))))))
      (pss_cons (ps_if (pt_cmpR op_eq (pe_ix (r := rIxL K) ix_list (pv 4) pe_int (fun _ _ => rfl)) pe_int (nomark _)) (pss_one (ps_set (i := 7) sc_law_names.nd rfl (Or.inr rfl) (pe_slice sl_list (pv 4) (po_some pe_int) (po_some pe_int)))) pss_nil)
      (pss_cons (ps_set (i := 8) sc_law_names.nd rfl (Or.inl rfl) (pe_join pe_str (pe_lc (own := [("_law_j", 9)]) (g := (gName 9)) (tt := tYes) rfl sc_law_names.nd (pi_range1 rfl T.b_range (pa_cons (pe_op op_add (pe_ix (r := rIxL K) ix_list (pv 7) pe_int (fun _ _ => rfl)) pe_int) pa_nil)) (blkOk_by (N := ["_law_script", "_law_at", "_law_many", "_law_letters", "_law_spots", "_law_found", "_law_k", "_law_row", "_law_word", "_law_j", "_law_spot", "_law_letter"]) (sc := defScope s_law_names) (by decide +kernel)) (fun _ _ _ _ _ => (pg_name (i := 9) sc_law_names.nd rfl (Or.inl rfl))) (fun _ _ _ _ _ => pts_nil) (fun _ _ _ _ _ => (pe_ix ix_str (pv 3) (pe_ix (r := rIxL K) ix_list (pv 7) (pe_op op_add pe_int (pe_op op_mod (pe_callTy (T := "int") call_int1 (by rfl) T.b_int (by decide +kernel) (pa_cons (pv 9) pa_nil)) pe_int)) (fun _ _ => rfl)) (fun _ _ => rfl))))))
      (pss_cons (ps_set (i := 10) sc_law_names.nd rfl (Or.inl rfl) (pe_op op_mod (pe_callTy (T := "int") call_int1 (by rfl) T.b_int (by decide +kernel) (pa_cons (pe_ix (r := rIxL K) ix_list (pv 4) pe_int (fun _ _ => rfl)) pa_nil)) (pe_callB (id := "len") call_len_str (by rfl) T.b_len PySem.boot_len (pa_cons (pv 8) pa_nil))))
      (pss_cons (ps_for PassesOwn.never rfl (pi_str (pv 3)) (pg_name (i := 11) sc_law_names.nd rfl (Or.inl rfl)) (pss_one (ps_if (pt_cmpR op_in_seq (pv 8) (pv 5) (by rfl)) (pss_one (ps_set (i := 8) sc_law_names.nd rfl (Or.inl rfl) (pe_op op_add_str (pe_op op_add_str (pe_slice sl_str (pv 8) po_none (po_some (pv 10))) (pv 11)) (pe_slice sl_str (pv 8) (po_some (pe_op op_add (pv 10) pe_int)) po_none)))) pss_nil)))
      (pss_one (ps_expr (pe_bm PySem.F.plainAttrs_list PySem.F.slot_list_append PySem.F.type_list_append mt_append (pv 5) (pa_cons (pv 8) pa_nil))))))))))
      (pss_one (ps_ret (pv 5))))))), ?_⟩
    try simp (maxSteps := 1000000) only [tSeq, tIfS, tTest, tOp, tUn, tCB, tCons, tNil, tVar, tC, rI0, rI, rU, rEq, rNe, tRet, tRetN, tAsg, gName, gSub, tBM, tBM0, tNext, tB, tNot, tAnd, tOr, tIf, tCall, tDrop, tBreak, tCont, L2.start, tDGet, sDPut, tTup, tLst, tDNewK, tRevL, rCat, rAppend, rPop, rSetL, tAndV, tOrV, tNotV, tSl, tPart, tNoPart, tM1, gTup, gCons, gNil, cxK, cxnK, List.map_cons, List.map_nil, List.length_cons, List.length_nil, List.replicate, List.cons_append, List.nil_append, List.append_nil, List.set_cons_zero, List.set_cons_succ, List.getElem?_cons_zero, List.getElem?_cons_succ, Option.some.injEq, V.ref.injEq, V.int.injEq, V.str.injEq, V.bl.injEq, V.ty.injEq, exists_eq_left', exists_eq_left, exists_and_left, List.cons.injEq, and_true, true_and, sc_ii, sc_ss, sc_bb, sc_ni, sc_in, sc_is, sc_si, sc_nn, decide_true, decide_false, reduceCtorEq, Bool.false_eq_true, if_true, if_false, ite_true, ite_false, exists_const, eq_self, false_and, and_false, or_false, false_or, exists_false, Evl.rLenS, rSum, wipe, tYes, exists_eq, exists_eq', rIxL, rIxT, rIxS, exists_and_right, gt_iff_lt, not_true_eq_false, not_false_eq_true, Bool.not_true, Bool.not_false, decide_eq_true_eq, Nat.reduceSub, Nat.reduceAdd, List.append_assoc, tChain, tDIn, tDNotIn, sDDel, tAug, ipI, rRep]
    refine ⟨by decide, fun p np => ⟨by decide, fun p1 np1 => ⟨_, upd_same, by omega, by omega, ?_, fun p2 np2 => ?_⟩⟩⟩
    · rw [Int.toNat_natCast]
      have := (smallL (n := 4 * n) (by omega))
      show 4 * n ≤ sizeLine
      omega
    rw [Int.toNat_natCast]
    have k1 : Kp [] H (upd H p (.lst [.int 3, .int 8])) := Kp.new np
    have k2 := k1.trans (Kp.new np1 (o := .lst [.int 8, .int 26, .int 26, .int 26]))
    have hp : (upd (upd H p (.lst [.int 3, .int 8])) p1 (.lst [.int 8, .int 26, .int 26, .int 26])) p = some (.lst [.int 3, .int 8]) := by rw [upd_ne (ne_of_none upd_same np1)]; exact upd_same
    generalize (upd (upd H p (.lst [.int 3, .int 8])) p1 (.lst [.int 8, .int 26, .int 26, .int 26])) = H2 at k2 hp np2 ⊢
    refine ⟨_, by rw [upd_ne (ne_of_none hp np2)]; exact hp, _, upd_same, ?_, fun p3 np3 => ?_⟩
    · have := (smallL (n := 4 * n + 2) (by omega))
      simp
      omega
    have k3 := k2.trans (Kp.new np2 (o := .lst (List.replicate n [V.int 8, .int 26, .int 26, .int 26]).flatten))
    have k4 := k3.trans (Kp.new np3 (o := .lst ([V.int 3, .int 8] ++ (List.replicate n [V.int 8, .int 26, .int 26, .int 26]).flatten)))
    have bsV : [V.int 3, .int 8] ++ (List.replicate n [V.int 8, .int 26, .int 26, .int 26]).flatten = (bsN n).map V.int := by
      unfold bsN
      rw [List.map_append, List.map_flatten, List.map_replicate]; rfl
    rw [bsV] at k4 ⊢
    refine ⟨a, p3, at_, ns, bsN n, rfl, ⟨k4.trans (Kp.refl _ _) |>.ls not0 hS.1, hS.2⟩, a1, upd_same, by rw [bsN_len]; omega, bsN_ok, fun s ds H5 ns5 hs hd k5 => ?_⟩
    generalize (upd (upd H2 p2 (.lst (List.replicate n [V.int 8, .int 26, .int 26, .int 26]).flatten)) p3 (.lst ((bsN n).map V.int))) = H4 at k4 ns5 k5 ⊢
    refine ⟨Nat.zero_le _, fun f nf => ?_⟩
    have k6 : Kp [] H (upd H5 f (.lst [])) := (k4.trans k5).trans (Kp.new nf)
    have nf0 : H f = none := (k4.trans k5).free0 nf
    refine forRg n (fun j σ H' => ∃ (c6 c7 c8 c9 c10 c11 : Option V) (zs : List Str), σ = [some (.ref a), some (.int (at_ : Nat)), some (.int (n : Nat)), some (.str lets), some (.ref s), some (.ref f), c6, c7, c8, c9, c10, c11] ∧ H' f = some (.lst (zs.map V.str)) ∧ zs.length = j ∧ (∀ z ∈ zs, nameS z = true) ∧ zs.Nodup ∧ Kp [] H5 H' ∧ Kp [] H H') ?_ (by omega) (by omega) ?_ ?_ ?_
    · intro R q
      exact ⟨_, rfl, q⟩
    · exact ⟨none, none, none, none, none, none, [], rfl, upd_same, rfl, (fun z h => nomatch h), List.nodup_nil, Kp.new nf, k6⟩
    · intro j σ H6 hj h6
      obtain ⟨c6, c7, c8, c9, c10, c11, zs, rfl, hf, hl, hn, nd, k7, k8⟩ := h6
      have hs6 := k7 _ _ not0 hs
      try simp (maxSteps := 1000000) only [tSeq, tTest, tOp, tUn, tCB, tCons, tNil, tVar, tC, rI0, rI, rU, rEq, rNe, tRet, tRetN, tAsg, gName, gSub, tBM, tBM0, tNext, tB, tNot, tAnd, tOr, tIf, tCall, tDrop, tBreak, tCont, L2.start, tDGet, sDPut, tTup, tLst, tDNewK, tRevL, rCat, rAppend, rPop, rSetL, tAndV, tOrV, tNotV, tSl, tPart, tNoPart, tM1, gTup, gCons, gNil, cxK, cxnK, List.map_cons, List.map_nil, List.length_cons, List.length_nil, List.replicate, List.cons_append, List.nil_append, List.append_nil, List.set_cons_zero, List.set_cons_succ, List.getElem?_cons_zero, List.getElem?_cons_succ, Option.some.injEq, V.ref.injEq, V.int.injEq, V.str.injEq, V.bl.injEq, V.ty.injEq, exists_eq_left', exists_eq_left, exists_and_left, List.cons.injEq, and_true, true_and, sc_ii, sc_ss, sc_bb, sc_ni, sc_in, sc_is, sc_si, sc_nn, decide_true, decide_false, reduceCtorEq, Bool.false_eq_true, if_true, if_false, ite_true, ite_false, exists_const, eq_self, false_and, and_false, or_false, false_or, exists_false, Evl.rLenS, rSum, wipe, tYes, exists_eq, exists_eq', rIxL, rIxT, rIxS, exists_and_right, gt_iff_lt, not_true_eq_false, not_false_eq_true, Bool.not_true, Bool.not_false, decide_eq_true_eq, Nat.reduceSub, Nat.reduceAdd, List.append_assoc, tChain, tDIn, tDNotIn, sDDel, tAug, ipI]
      refine ⟨.inl ⟨by decide, by decide⟩, .inl ⟨by decide, by decide⟩, s, _, rfl, sq_l hs6, fun R nR => ?_⟩
      have kR : Kp [] H6 (upd H6 R (.lst (cutV (ds.map V.int) (some (2 + 4 * (j : Int))) (some (6 + 4 * (j : Int)))))) := Kp.new nR
      have cut4 : ∀ k : Nat, cutV (ds.map V.int) (some ((2 + 4 * k : Nat) : Int)) (some ((6 + 4 * k : Nat) : Int)) = ((ds.drop (2 + 4 * k)).take 4).map V.int := by
        intro k
        unfold cutV
        rw [HT.sIx_nat, HT.sIx_nat, List.length_map, ← List.map_drop, ← List.map_take]
        congr 1
        rcases Nat.le_total (2 + 4 * k) ds.length with z | z
        · rw [Nat.min_eq_left z]
          rcases Nat.le_total (6 + 4 * k) ds.length with z2 | z2
          · rw [Nat.min_eq_left z2, show 6 + 4 * k - (2 + 4 * k) = 4 by omega]
          · rw [Nat.min_eq_right z2, List.take_of_length_le (by rw [List.length_drop]; omega), List.take_of_length_le (by rw [List.length_drop]; omega)]
        · rw [Nat.min_eq_right z, List.drop_length, List.drop_of_length_le z]; simp
      have eR : (upd H6 R (.lst (cutV (ds.map V.int) (some (2 + 4 * (j : Int))) (some (6 + 4 * (j : Int)))))) R = some (.lst (((ds.drop (2 + 4 * j)).take 4).map V.int)) := by
        rw [upd_same]
        have := cut4 j
        rw [show ((2 + 4 * j : Nat) : Int) = 2 + 4 * (j : Int) by omega, show ((6 + 4 * j : Nat) : Int) = 6 + 4 * (j : Int) by omega] at this
        rw [this]
      generalize (upd H6 R (.lst (cutV (ds.map V.int) (some (2 + 4 * (j : Int))) (some (6 + 4 * (j : Int)))))) = H7 at kR eR ⊢
      have dlen : ds.length = 2 + 4 * n := by rw [hd.1, bsN_len]
      refine ifs_both (fun σ' H' => ∃ (R : Addr) (w x y v : Int), σ' = [some (.ref a), some (.int (at_ : Nat)), some (.int (n : Nat)), some (.str lets), some (.ref s), some (.ref f), some (.int (j : Nat)), some (.ref R), c8, c9, c10, c11] ∧ H' R = some (.lst [.int w, .int x, .int y, .int v]) ∧ (0 ≤ w ∧ w < 8) ∧ (0 ≤ x ∧ x < 26) ∧ (0 ≤ y ∧ y < 26) ∧ (0 ≤ v ∧ v < 26) ∧ Kp [] H6 H') (fun Dn q2 => ?_) ?_
      · have hs7 := kR _ _ not0 hs6
        obtain ⟨d0, e0⟩ : ∃ d, ds[0]? = some d := ⟨ds[0]'(by omega), List.getElem?_eq_getElem _⟩
        have e0' : (ds.map V.int)[0]? = some (.int d0) := by rw [List.getElem?_map, e0]; rfl
        try simp (maxSteps := 1000000) only [tSeq, tIfS, tTest, tOp, tUn, tCB, tCons, tNil, tVar, tC, rI0, rI, rU, rEq, rNe, tRet, tRetN, tAsg, gName, gSub, tBM, tBM0, tNext, tB, tNot, tAnd, tOr, tIf, tCall, tDrop, tBreak, tCont, L2.start, tDGet, sDPut, tTup, tLst, tDNewK, tRevL, rCat, rAppend, rPop, rSetL, tAndV, tOrV, tNotV, tSl, tPart, tNoPart, tM1, gTup, gCons, gNil, cxK, cxnK, List.map_cons, List.map_nil, List.length_cons, List.length_nil, List.replicate, List.cons_append, List.nil_append, List.append_nil, List.set_cons_zero, List.set_cons_succ, List.getElem?_cons_zero, List.getElem?_cons_succ, Option.some.injEq, V.ref.injEq, V.int.injEq, V.str.injEq, V.bl.injEq, V.ty.injEq, exists_eq_left', exists_eq_left, exists_and_left, List.cons.injEq, and_true, true_and, sc_ii, sc_ss, sc_bb, sc_ni, sc_in, sc_is, sc_si, sc_nn, decide_true, decide_false, reduceCtorEq, Bool.false_eq_true, if_true, if_false, ite_true, ite_false, exists_const, eq_self, false_and, and_false, or_false, false_or, exists_false, Evl.rLenS, rSum, wipe, tYes, exists_eq, exists_eq', rIxL, rIxT, rIxS, exists_and_right, gt_iff_lt, not_true_eq_false, not_false_eq_true, Bool.not_true, Bool.not_false, decide_eq_true_eq, Nat.reduceSub, Nat.reduceAdd, List.append_assoc, tChain, tDIn, tDNotIn, sDDel, tAug, ipI]
        refine ⟨_, sq_l hs7, .int d0, atI_of (by decide) e0', ?_⟩
        try simp (maxSteps := 1000000) only [tSeq, tIfS, tTest, tOp, tUn, tCB, tCons, tNil, tVar, tC, rI0, rI, rU, rEq, rNe, tRet, tRetN, tAsg, gName, gSub, tBM, tBM0, tNext, tB, tNot, tAnd, tOr, tIf, tCall, tDrop, tBreak, tCont, L2.start, tDGet, sDPut, tTup, tLst, tDNewK, tRevL, rCat, rAppend, rPop, rSetL, tAndV, tOrV, tNotV, tSl, tPart, tNoPart, tM1, gTup, gCons, gNil, cxK, cxnK, List.map_cons, List.map_nil, List.length_cons, List.length_nil, List.replicate, List.cons_append, List.nil_append, List.append_nil, List.set_cons_zero, List.set_cons_succ, List.getElem?_cons_zero, List.getElem?_cons_succ, Option.some.injEq, V.ref.injEq, V.int.injEq, V.str.injEq, V.bl.injEq, V.ty.injEq, exists_eq_left', exists_eq_left, exists_and_left, List.cons.injEq, and_true, true_and, sc_ii, sc_ss, sc_bb, sc_ni, sc_in, sc_is, sc_si, sc_nn, decide_true, decide_false, reduceCtorEq, Bool.false_eq_true, if_true, if_false, ite_true, ite_false, exists_const, eq_self, false_and, and_false, or_false, false_or, exists_false, Evl.rLenS, rSum, wipe, tYes, exists_eq, exists_eq', rIxL, rIxT, rIxS, exists_and_right, gt_iff_lt, not_true_eq_false, not_false_eq_true, Bool.not_true, Bool.not_false, decide_eq_true_eq, Nat.reduceSub, Nat.reduceAdd, List.append_assoc, tChain, tDIn, tDNotIn, sDDel, tAug, ipI]
        refine ite2 (fun h1 => ?_) (fun h1 => ?_)
        · refine ⟨s, _, rfl, sq_l hs7, fun R2 nR2 => q2 _ _ ?_⟩
          obtain ⟨w, x, y, v, e4, b⟩ := draw4 hd (k := 0) (by omega)
          refine ⟨R2, w, x, y, v, rfl, ?_, b.1, b.2.1, b.2.2.1, b.2.2.2, kR.trans (Kp.new nR2)⟩
          rw [upd_same]
          have := cut4 0
          rw [e4] at this
          exact congrArg (fun l => some (HO.lst l)) this
        · obtain ⟨w, x, y, v, e4, b⟩ := draw4 hd hj
          refine q2 _ _ ⟨R, w, x, y, v, rfl, ?_, b.1, b.2.1, b.2.2.1, b.2.2.2, kR⟩
          rw [eR, e4]; rfl
      clear eR kR nR
      clear R H7
      rintro σ H7 ⟨R, w, x, y, v, rfl, hR, w0, x0, y0, v0, k67⟩
      try simp (maxSteps := 1000000) only [tSeq, tTest, tOp, tUn, tCB, tCons, tNil, tVar, tC, rI0, rI, rU, rEq, rNe, tRet, tRetN, tAsg, gName, gSub, tBM, tBM0, tNext, tB, tNot, tAnd, tOr, tIf, tCall, tDrop, tBreak, tCont, L2.start, tDGet, sDPut, tTup, tLst, tDNewK, tRevL, rCat, rAppend, rPop, rSetL, tAndV, tOrV, tNotV, tSl, tPart, tNoPart, tM1, gTup, gCons, gNil, cxK, cxnK, List.map_cons, List.map_nil, List.length_cons, List.length_nil, List.replicate, List.cons_append, List.nil_append, List.append_nil, List.set_cons_zero, List.set_cons_succ, List.getElem?_cons_zero, List.getElem?_cons_succ, Option.some.injEq, V.ref.injEq, V.int.injEq, V.str.injEq, V.bl.injEq, V.ty.injEq, exists_eq_left', exists_eq_left, exists_and_left, List.cons.injEq, and_true, true_and, sc_ii, sc_ss, sc_bb, sc_ni, sc_in, sc_is, sc_si, sc_nn, decide_true, decide_false, reduceCtorEq, Bool.false_eq_true, if_true, if_false, ite_true, ite_false, exists_const, eq_self, false_and, and_false, or_false, false_or, exists_false, Evl.rLenS, rSum, wipe, tYes, exists_eq, exists_eq', rIxL, rIxT, rIxS, exists_and_right, gt_iff_lt, not_true_eq_false, not_false_eq_true, Bool.not_true, Bool.not_false, decide_eq_true_eq, Nat.reduceSub, Nat.reduceAdd, List.append_assoc, tChain, tDIn, tDNotIn, sDDel, tAug, ipI]
      have w1 : (w + 1).toNat = w.toNat + 1 := by omega
      have hs7 := k67 _ _ not0 hs6
      obtain ⟨d1, e1⟩ : ∃ d, ds[1]? = some d := ⟨ds[1]'(by omega), List.getElem?_eq_getElem _⟩
      have e1' : (ds.map V.int)[1]? = some (.int d1) := by rw [List.getElem?_map, e1]; rfl
      refine lcRgN (w.toNat + 1) (by omega) (fun D i H' => ∃ cs, H' D = some (.lst ((cs.map fun c => tx [c]).map V.str)) ∧ cs.length = i ∧ LowL cs ∧ Kp [] H7 H') ?_ ?_ ?_ ?_
      · intro R' q'
        have ew : w + 1 = ((w.toNat + 1 : Nat) : Int) := by omega
        rw [← ew] at q'
        try simp (maxSteps := 1000000) only [tSeq, tIfS, tTest, tOp, tUn, tCB, tCons, tNil, tVar, tC, rI0, rI, rU, rEq, rNe, tRet, tRetN, tAsg, gName, gSub, tBM, tBM0, tNext, tB, tNot, tAnd, tOr, tIf, tCall, tDrop, tBreak, tCont, L2.start, tDGet, sDPut, tTup, tLst, tDNewK, tRevL, rCat, rAppend, rPop, rSetL, tAndV, tOrV, tNotV, tSl, tPart, tNoPart, tM1, gTup, gCons, gNil, cxK, cxnK, List.map_cons, List.map_nil, List.length_cons, List.length_nil, List.replicate, List.cons_append, List.nil_append, List.append_nil, List.set_cons_zero, List.set_cons_succ, List.getElem?_cons_zero, List.getElem?_cons_succ, Option.some.injEq, V.ref.injEq, V.int.injEq, V.str.injEq, V.bl.injEq, V.ty.injEq, exists_eq_left', exists_eq_left, exists_and_left, List.cons.injEq, and_true, true_and, sc_ii, sc_ss, sc_bb, sc_ni, sc_in, sc_is, sc_si, sc_nn, decide_true, decide_false, reduceCtorEq, Bool.false_eq_true, if_true, if_false, ite_true, ite_false, exists_const, eq_self, false_and, and_false, or_false, false_or, exists_false, Evl.rLenS, rSum, wipe, tYes, exists_eq, exists_eq', rIxL, rIxT, rIxS, exists_and_right, gt_iff_lt, not_true_eq_false, not_false_eq_true, Bool.not_true, Bool.not_false, decide_eq_true_eq, Nat.reduceSub, Nat.reduceAdd, List.append_assoc, tChain, tDIn, tDNotIn, sDDel, tAug, ipI]
        exact ⟨_, sq_l hR, .int w, atI_of (by decide) rfl, _, rfl, q'⟩
      · intro D nD
        exact ⟨[], upd_same, rfl, (fun c h => nomatch h), Kp.new nD⟩
      · intro D i H' nD hi hP
        obtain ⟨cs, hD, hlen, low, k7'⟩ := hP
        have hR' := k7' _ _ not0 hR
        try simp (maxSteps := 1000000) only [tSeq, tIfS, tTest, tOp, tUn, tCB, tCons, tNil, tVar, tC, rI0, rI, rU, rEq, rNe, tRet, tRetN, tAsg, gName, gSub, tBM, tBM0, tNext, tB, tNot, tAnd, tOr, tIf, tCall, tDrop, tBreak, tCont, L2.start, tDGet, sDPut, tTup, tLst, tDNewK, tRevL, rCat, rAppend, rPop, rSetL, tAndV, tOrV, tNotV, tSl, tPart, tNoPart, tM1, gTup, gCons, gNil, cxK, cxnK, List.map_cons, List.map_nil, List.length_cons, List.length_nil, List.replicate, List.cons_append, List.nil_append, List.append_nil, List.set_cons_zero, List.set_cons_succ, List.getElem?_cons_zero, List.getElem?_cons_succ, Option.some.injEq, V.ref.injEq, V.int.injEq, V.str.injEq, V.bl.injEq, V.ty.injEq, exists_eq_left', exists_eq_left, exists_and_left, List.cons.injEq, and_true, true_and, sc_ii, sc_ss, sc_bb, sc_ni, sc_in, sc_is, sc_si, sc_nn, decide_true, decide_false, reduceCtorEq, Bool.false_eq_true, if_true, if_false, ite_true, ite_false, exists_const, eq_self, false_and, and_false, or_false, false_or, exists_false, Evl.rLenS, rSum, wipe, tYes, exists_eq, exists_eq', rIxL, rIxT, rIxS, exists_and_right, gt_iff_lt, not_true_eq_false, not_false_eq_true, Bool.not_true, Bool.not_false, decide_eq_true_eq, Nat.reduceSub, Nat.reduceAdd, List.append_assoc, tChain, tDIn, tDNotIn, sDDel, tAug, ipI]
        obtain ⟨u, eu, u0, u1⟩ : ∃ u : Int, atI [V.int w, .int x, .int y, .int v] (1 + (i : Int) % 3) = some (.int u) ∧ 0 ≤ u ∧ u < 26 := by
          rcases (show (i : Int) % 3 = 0 ∨ (i : Int) % 3 = 1 ∨ (i : Int) % 3 = 2 by omega) with e | e | e <;> rw [e]
          · exact ⟨x, rfl, x0⟩
          · exact ⟨y, rfl, y0⟩
          · exact ⟨v, rfl, v0⟩
        have l26 : lets.length ≤ sizeLine := by
          have := smallL (n := 26) (by decide)
          show 26 ≤ _
          omega
        refine ⟨by decide, _, sq_l hR', _, eu, u, rfl, l26, 97 + u.toNat, atI_of u0 (lets_at u.toNat (by omega)), _, hD, smallL (by rw [List.length_map, List.length_map]; omega), cs ++ [97 + u.toNat], by rw [upd_same, List.map_append, List.map_append]; rfl, by rw [List.length_append, hlen]; rfl, fun c hc => ?_, k7'.wr nD⟩
        rcases List.mem_append.mp hc with h | h
        · exact low c h
        · rw [List.mem_singleton.mp h]; omega
      · intro D H8 nD hP
        obtain ⟨cs, hD, hlen, low, k78⟩ := hP
        refine ⟨D, rfl, cs.map fun c => tx [c], .inl (sq_l hD), ?_, _, sq_l (k78 _ _ not0 hs7), _, atI_of (by decide) e1', .inl ⟨d1, rfl, ?_⟩⟩
        · rw [sum_ones, List.length_map]
          show _ + _ * 0 ≤ _
          omega
        have ej : Txt.join (Str.ofString "") (cs.map fun c => tx [c]) = tx cs := join_ones cs
        rw [ej, tx_len]
        refine ⟨?_, by omega, ?_⟩
        · have := (smallL (n := cs.length) (by omega))
          omega
        have d10 := (hd.2 1 d1 8 e1 rfl).1
        have sp0 := Int.emod_nonneg d1 (show ((cs.length : Nat) : Int) ≠ 0 by omega)
        have sp1 := Int.emod_lt_of_pos d1 (show (0 : Int) < (cs.length : Nat) by omega)
        obtain ⟨sp, esp⟩ := Int.eq_ofNat_of_zero_le sp0
        rw [esp] at sp1 ⊢
        have spl : sp < cs.length := by omega
        have k68 := k67.trans k78
        have hf8 := k68 _ _ not0 hf
        have s26 : lets.cps.size = 26 := by decide +kernel
        refine ⟨.str lets, rfl, lets, rfl, for_it (walk_str (z := lets)) (fun i σ H' => ∃ cs' c11', σ = [some (.ref a), some (.int (at_ : Nat)), some (.int (n : Nat)), some (.str lets), some (.ref s), some (.ref f), some (.int (j : Nat)), some (.ref R), some (.str (tx cs')), c9, some (.int (sp : Nat)), c11'] ∧ cs'.length = cs.length ∧ LowL cs' ∧ (∀ c, vari cs' sp c = vari cs sp c) ∧ (tx cs' ∈ zs → (∀ i', i' + 1 < i → tx (vari cs sp (97 + i')) ∈ zs) ∧ (0 < i → cs' = vari cs sp (97 + (i - 1)))) ∧ H' = H8) ⟨cs, c11, rfl, rfl, low, fun _ => rfl, fun _ => ⟨fun i' h => absurd h (by omega), fun h => absurd h (by omega)⟩, rfl⟩ (fun _ _ _ _ _ => True.intro) ?_ ?_⟩
        · rintro i xv σ H9 H10 hi ⟨cs', c11', rfl, hl', low', hv', hin, rfl⟩ ⟨rfl, c, ec, rfl⟩
          have hi26 : i < 26 := by rw [← s26]; exact hi
          have ec' : c = 97 + i := by
            have := lets_at i hi26
            rw [Array.getElem?_toList, ec] at this
            exact Option.some.inj this
          subst ec'
          have sz8 : ∀ {c : List Nat}, c.length ≤ 8 → (tx c).length ≤ sizeLine := fun {c} h => by
            have := (smallL (n := 8) (by decide))
            rw [tx_len]; omega
          have one : ({ cps := #[97 + i] } : Str) = tx [97 + i] := rfl
          try simp (maxSteps := 1000000) only [tSeq, tIfS, tTest, tOp, tUn, tCB, tCons, tNil, tVar, tC, rI0, rI, rU, rEq, rNe, tRet, tRetN, tAsg, gName, gSub, tBM, tBM0, tNext, tB, tNot, tAnd, tOr, tIf, tCall, tDrop, tBreak, tCont, L2.start, tDGet, sDPut, tTup, tLst, tDNewK, tRevL, rCat, rAppend, rPop, rSetL, tAndV, tOrV, tNotV, tSl, tPart, tNoPart, tM1, gTup, gCons, gNil, cxK, cxnK, List.map_cons, List.map_nil, List.length_cons, List.length_nil, List.replicate, List.cons_append, List.nil_append, List.append_nil, List.set_cons_zero, List.set_cons_succ, List.getElem?_cons_zero, List.getElem?_cons_succ, Option.some.injEq, V.ref.injEq, V.int.injEq, V.str.injEq, V.bl.injEq, V.ty.injEq, exists_eq_left', exists_eq_left, exists_and_left, List.cons.injEq, and_true, true_and, sc_ii, sc_ss, sc_bb, sc_ni, sc_in, sc_is, sc_si, sc_nn, decide_true, decide_false, reduceCtorEq, Bool.false_eq_true, if_true, if_false, ite_true, ite_false, exists_const, eq_self, false_and, and_false, or_false, false_or, exists_false, Evl.rLenS, rSum, wipe, tYes, exists_eq, exists_eq', rIxL, rIxT, rIxS, exists_and_right, gt_iff_lt, not_true_eq_false, not_false_eq_true, Bool.not_true, Bool.not_false, decide_eq_true_eq, Nat.reduceSub, Nat.reduceAdd, List.append_assoc, tChain, tDIn, tDNotIn, sDDel, tAug, ipI]
          refine ⟨f, _, rfl, .inl (sq_l hf8), rfl, flat_strs, ?_⟩
          simp only [Bool.false_eq_true, if_false]
          rw [inV_str]
          by_cases hz : tx cs' ∈ zs
          · rw [decide_eq_true hz]
            refine ⟨true, rfl, ?_⟩
            rw [if_pos rfl]
            have lc : cs'.length ≤ 8 := by omega
            refine ⟨tx cs', rfl, sz8 lc, _, rfl, ?_, tx cs', rfl, sz8 lc, _, rfl, ?_, vari cs' sp (97 + i), ?_, by rw [vari_len (by omega)]; exact hl', vari_low low' (by omega), fun c => ?_, fun _ => ⟨fun i' hi' => ?_, fun _ => ?_⟩, rfl⟩
            · have := (smallL (n := 20) (by decide))
              rw [cutTo, one, tx_len, tx_len, List.length_take]
              show _ + 1 ≤ _
              omega
            · have := (smallL (n := 20) (by decide))
              rw [show (sp : Int) + 1 = ((sp + 1 : Nat) : Int) by omega, cutFrom, cutTo, one, tx_app, tx_len, tx_len, List.length_append, List.length_take, List.length_drop]
              show _ + 1 + _ ≤ _
              omega
            · rw [show (sp : Int) + 1 = ((sp + 1 : Nat) : Int) by omega, cutFrom, cutTo, one, tx_app, tx_app, List.append_assoc]; rfl
            · rw [vari_vari (by omega)]; exact hv' c
            · obtain ⟨h1, h2⟩ := hin hz
              by_cases z : i' + 1 < i
              · exact h1 i' z
              · have e : i' = i - 1 := by omega
                rw [e, ← h2 (by omega)]
                exact hz
            · rw [hv']; rfl
          · rw [decide_eq_false hz]
            refine ⟨false, rfl, ?_⟩
            rw [if_neg Bool.false_ne_true]
            exact ⟨cs', rfl, hl', low', hv', fun h => absurd h hz, by first | rfl | trivial⟩
        · rintro σ H9 ⟨cs', c11', rfl, hl', low', hv', hin, rfl⟩
          rw [s26] at hin
          have fresh : tx cs' ∉ zs := fun h => by
            obtain ⟨h1, h2⟩ := hin h
            have := many (zs := zs) (cs := cs) (s := sp) fun i hi => h1 i (by omega)
            omega
          try simp (maxSteps := 1000000) only [tSeq, tIfS, tTest, tOp, tUn, tCB, tCons, tNil, tVar, tC, rI0, rI, rU, rEq, rNe, tRet, tRetN, tAsg, gName, gSub, tBM, tBM0, tNext, tB, tNot, tAnd, tOr, tIf, tCall, tDrop, tBreak, tCont, L2.start, tDGet, sDPut, tTup, tLst, tDNewK, tRevL, rCat, rAppend, rPop, rSetL, tAndV, tOrV, tNotV, tSl, tPart, tNoPart, tM1, gTup, gCons, gNil, cxK, cxnK, List.map_cons, List.map_nil, List.length_cons, List.length_nil, List.replicate, List.cons_append, List.nil_append, List.append_nil, List.set_cons_zero, List.set_cons_succ, List.getElem?_cons_zero, List.getElem?_cons_succ, Option.some.injEq, V.ref.injEq, V.int.injEq, V.str.injEq, V.bl.injEq, V.ty.injEq, exists_eq_left', exists_eq_left, exists_and_left, List.cons.injEq, and_true, true_and, sc_ii, sc_ss, sc_bb, sc_ni, sc_in, sc_is, sc_si, sc_nn, decide_true, decide_false, reduceCtorEq, Bool.false_eq_true, if_true, if_false, ite_true, ite_false, exists_const, eq_self, false_and, and_false, or_false, false_or, exists_false, Evl.rLenS, rSum, wipe, tYes, exists_eq, exists_eq', rIxL, rIxT, rIxS, exists_and_right, gt_iff_lt, not_true_eq_false, not_false_eq_true, Bool.not_true, Bool.not_false, decide_eq_true_eq, Nat.reduceSub, Nat.reduceAdd, List.append_assoc, tChain, tDIn, tDNotIn, sDDel, tAug, ipI]
          have fn : H5 f = none := nf
          refine ⟨.inl ⟨rfl, _, sq_l hf8⟩, _, hf8, smallL (by rw [List.length_map]; omega), zs ++ [tx cs'], by rw [upd_same, List.map_append]; rfl, by rw [List.length_append, hl]; rfl, fun z hz => ?_, ?_, (k7.trans k68).wr fn, (k8.trans k68).wr nf0⟩
          · rcases List.mem_append.mp hz with h | h
            · exact hn z h
            · rw [List.mem_singleton.mp h]; exact tx_name low' (by omega) (by omega)
          · exact List.nodup_append.mpr ⟨nd, by simp, fun x hx y hy e => fresh (by rw [← List.mem_singleton.mp hy, ← e]; exact hx)⟩
    · intro σ H6 h6
      obtain ⟨c6, c7, c8, c9, c10, c11, zs, rfl, hf, hl, hn, nd, k7, k8⟩ := h6
      try simp (maxSteps := 1000000) only [tSeq, tIfS, tTest, tOp, tUn, tCB, tCons, tNil, tVar, tC, rI0, rI, rU, rEq, rNe, tRet, tRetN, tAsg, gName, gSub, tBM, tBM0, tNext, tB, tNot, tAnd, tOr, tIf, tCall, tDrop, tBreak, tCont, L2.start, tDGet, sDPut, tTup, tLst, tDNewK, tRevL, rCat, rAppend, rPop, rSetL, tAndV, tOrV, tNotV, tSl, tPart, tNoPart, tM1, gTup, gCons, gNil, cxK, cxnK, List.map_cons, List.map_nil, List.length_cons, List.length_nil, List.replicate, List.cons_append, List.nil_append, List.append_nil, List.set_cons_zero, List.set_cons_succ, List.getElem?_cons_zero, List.getElem?_cons_succ, Option.some.injEq, V.ref.injEq, V.int.injEq, V.str.injEq, V.bl.injEq, V.ty.injEq, exists_eq_left', exists_eq_left, exists_and_left, List.cons.injEq, and_true, true_and, sc_ii, sc_ss, sc_bb, sc_ni, sc_in, sc_is, sc_si, sc_nn, decide_true, decide_false, reduceCtorEq, Bool.false_eq_true, if_true, if_false, ite_true, ite_false, exists_const, eq_self, false_and, and_false, or_false, false_or, exists_false, Evl.rLenS, rSum, wipe, tYes, exists_eq, exists_eq', rIxL, rIxT, rIxS, exists_and_right, gt_iff_lt, not_true_eq_false, not_false_eq_true, Bool.not_true, Bool.not_false, decide_eq_true_eq, Nat.reduceSub, Nat.reduceAdd, List.append_assoc, tChain, tDIn, tDNotIn, sDDel, tAug, ipI]
      exact q f zs H6 nf0 hf (by omega) hn nd k8
end
end My

set_option Elab.async false
set_option linter.all false
set_option maxRecDepth 100000
set_option maxHeartbeats 4000000
namespace My
open PySem L2 NdefX
abbrev s_law_rows : Stmt := top 29
theorem sc_law_rows : FnScope ["_law_script", "_law_at", "_law_names_here", "_law_size", "_law_most", "_law_spots", "_law_rows_here", "_law_k", "_law_j"] ["_law_script", "_law_at", "_law_names_here", "_law_size", "_law_most"] (defScope s_law_rows) := ⟨rfl, rfl, rfl, by decide +kernel, rfl, by decide +kernel, by decide +kernel⟩
abbrev s_law_copy : Stmt := top 30
theorem sc_law_copy : FnScope ["_law_names_here", "_law_rows_here", "_law_found", "_law_name"] ["_law_names_here", "_law_rows_here"] (defScope s_law_copy) := ⟨rfl, rfl, rfl, by decide +kernel, rfl, by decide +kernel, by decide +kernel⟩
abbrev s_law_is_whole : Stmt := top 31
theorem sc_law_is_whole : FnScope ["_law_told", "_law_due"] ["_law_told", "_law_due"] (defScope s_law_is_whole) := ⟨rfl, rfl, rfl, by decide +kernel, rfl, by decide +kernel, by decide +kernel⟩
structure BtW (mg : Str → Option Value) : Prop where
  b_int : mg "int" = none
  b_isinstance : mg "isinstance" = none
  b_bool : mg "bool" = none
structure BtL (mg : Str → Option Value) : Prop where
  b_list : mg "list" = none
/-- the drawn cells -/
def drawnC (zs : List Str) (m : Nat) (ds : List Int) (z : Str) (s : Nat) : Int × Int := (ds.getD (2 * (zs.idxOf z * m + s)) 0, ds.getD (2 * (zs.idxOf z * m + s) + 1) 0)
theorem fl2 {n : Nat} {x y : Int} : ∀ {i j : Nat} {b : Int}, i < n → ([x, y] : List Int)[j]? = some b → (List.replicate n ([x, y] : List Int)).flatten[2 * i + j]? = some b := by
  induction n with
  | zero => intro i j b h; omega
  | succ n ih =>
    intro i j b hk hj
    have hj2 : j < 2 := (List.getElem?_eq_some_iff.mp hj).1
    rw [List.replicate_succ, List.flatten_cons]
    cases i with
    | zero => rw [Nat.mul_zero, Nat.zero_add, List.getElem?_append_left hj2]; exact hj
    | succ i =>
      rw [List.getElem?_append_right (by show 2 ≤ _; omega), show 2 * (i + 1) + j - ([x, y] : List Int).length = 2 * i + j by show 2 * (i + 1) + j - 2 = _; omega]
      exact ih (by omega) hj
theorem drawn2 {n : Nat} {x y : Int} {ds : List Int} (h : DrawOk (List.replicate n ([x, y] : List Int)).flatten ds) {i : Nat} (hi : i < n) : ∃ u v, ds[2 * i]? = some u ∧ ds[2 * i + 1]? = some v ∧ (0 ≤ u ∧ u < x) ∧ 0 ≤ v ∧ v < y := by
  have len : ds.length = 2 * n := by
    rw [h.1]
    simp
    omega
  have e0 : ds[2 * i]? = some (ds[2 * i]'(by omega)) := List.getElem?_eq_getElem _
  have e1 : ds[2 * i + 1]? = some (ds[2 * i + 1]'(by omega)) := List.getElem?_eq_getElem _
  exact ⟨_, _, e0, e1, h.2 _ _ x e0 (fl2 (j := 0) hi rfl), h.2 _ _ y e1 (fl2 (j := 1) hi rfl)⟩
theorem lcRg2N {ta : TA} {g : TG} {tt : TT} {te : TE} {vs : List Nat} {σ : L2.St} {H : Hp} {Q : VK} (lo m : Nat) (hm : lo + m ≤ 100000) (Pv : Addr → Nat → Hp → Prop) (ht : ∀ R : List V → Hp → Prop, R [.int (lo : Nat), .int ((lo : Int) + (m : Nat))] H → ta σ H R) (h0 : ∀ o, H o = none → Pv o 0 (upd H o (.lst [])))
    (step : ∀ o i H', H o = none → i < m → Pv o i H' → g (.int ((lo + i : Nat) : Int)) (wipe σ vs) H' fun σ2 H2 => wipe σ2 vs = wipe σ vs ∧ tt σ2 H2 fun b H3 => if b = true then te σ2 H3 fun y H4 => ∃ acc, H4 o = some (.lst acc) ∧ acc.length < sizeLine ∧ Pv o (i + 1) (upd H4 o (.lst (acc ++ [y]))) else Pv o (i + 1) H3)
    (fin : ∀ o H', H o = none → Pv o m H' → Q (.ref o) H') : tLc (iRng2 ta) g tt te vs σ H Q := by
  have en : ((lo : Int) + (m : Nat) - (lo : Nat)).toNat = m := by omega
  refine ht _ ⟨(lo : Nat), (lo : Int) + (m : Nat), rfl, ⟨by omega, by omega, by omega, by omega⟩, fun o no => ?_⟩
  rw [en]
  exact lc_range (Pv o) (h0 o no) (fun i H' hi p => by
    have := step o i H' no hi p
    rwa [show ((lo + i : Nat) : Int) = (lo : Int) + (i : Nat) by omega] at this) fun H' p => fin o H' no p
section
variable {P : Program} {w : World} {K : PySem.W.Frag} {mg : Str → Option Value} {base : Heap}
def spRows (K : PySem.W.Frag) : Sp := fun vs H Q _ => ∃ (a nl : Addr) (at_ m : Nat) (most : Int) (ns : List Int) (zs : List Str), vs = [.ref a, .int (at_ : Nat), .ref nl, .int (m : Nat), .int most] ∧ Scr K H a ns ∧ at_ ≤ 1000 ∧ H nl = some (.lst (zs.map V.str)) ∧ zs.Nodup ∧ zs.length ≤ 20 ∧ 1 ≤ m ∧ m ≤ 100 ∧ 1 ≤ most ∧ most ≤ 10 ∧
  ∀ (r : Addr) (c : Str → Nat → Int × Int) (H' : Hp), H r = none → RwAt H' r zs m c → CellB zs m most c → Kp [] H H' → Q (.ref r) H'
theorem ok_law_rows {f : Addr} {fd : FuncData} (D : Df K mg "_law_rows" s_law_rows ["_law_script", "_law_at", "_law_names_here", "_law_size", "_law_most"] f fd) (T : BtN mg) {fg : Addr} {fdg : FuncData} (D_law_draws : Df K mg "_law_draws" s_law_draws ["_law_script", "_law_at", "_law_bounds"] fg fdg) (G_law_draws : FnOk P w K mg base CX0 2 fg fdg ["_law_script", "_law_at", "_law_bounds"] (spDraws K)) : FnOk P w K mg base CX0 3 f fd ["_law_script", "_law_at", "_law_names_here", "_law_size", "_law_most"] (spRows K) := by
  refine D.F.ok sc_law_rows (fun vs H Q E h => ?_) (fun cdv A outer s H vs Q E hr h => ?_)
  · obtain ⟨a, nl, at_, m, most, ns, zs, rfl, _⟩ := h
    rfl
  · obtain ⟨a, nl, at_, m, most, ns, zs, rfl, hS, a1, hn, nd, z20, m1, m100, o1, o10, q⟩ := h
    have hu := hu_of hr
    refine ⟨_, (pss_cons (ps_set (i := 5) sc_law_rows.nd rfl (Or.inr rfl) (pe_call G_law_draws (hr.mono (by decide)) rfl D_law_draws.g D_law_draws.F.kp D_law_draws.b .nil pass0 (pa_cons (pv 0) (pa_cons (pv 1) (pa_cons (pe_op op_rep (pe_lst (pa_cons (pv 4) (pa_cons (pv 3) pa_nil))) (pe_op op_mul (pv 3) (pe_callB (id := "len") (r := Evl.rLenS K) call_len_seq (by rfl) T.b_len PySem.boot_len (pa_cons (pv 2) pa_nil)))) pa_nil)))))
      (pss_cons (ps_set (i := 6) sc_law_rows.nd rfl (Or.inl rfl) pe_dnewK)
      (pss_cons (ps_for PassesOwn.never rfl (pi_range1 rfl T.b_range (pa_cons (pe_callB (id := "len") (r := Evl.rLenS K) call_len_seq (by rfl) T.b_len PySem.boot_len (pa_cons (pv 2) pa_nil)) pa_nil)) (pg_name (i := 7) sc_law_rows.nd rfl (Or.inl rfl)) (pss_one (ps_dput hu (pv 6) (pe_ix (r := rIxL K) ix_list (pv 2) (pv 7) (fun _ _ => rfl)) (pe_lc (own := [("_law_j", 8)]) (g := (gName 8)) (tt := tYes) rfl sc_law_rows.nd (pi_range2 rfl T.b_range (pa_cons (pe_op op_mul (pv 7) (pv 3)) (pa_cons (pe_op op_add (pe_op op_mul (pv 7) (pv 3)) (pv 3)) pa_nil))) (blkOk_by (N := ["_law_script", "_law_at", "_law_names_here", "_law_size", "_law_most", "_law_spots", "_law_rows_here", "_law_k", "_law_j"]) (sc := defScope s_law_rows) (by decide +kernel)) (fun _ _ _ _ _ => (pg_name (i := 8) sc_law_rows.nd rfl (Or.inl rfl))) (fun _ _ _ _ _ => pts_nil) (fun _ _ _ _ _ => (pe_tup (pa_cons (pe_ix (r := rIxL K) ix_list (pv 5) (pe_op op_mul pe_int (pv 8)) (fun _ _ => rfl)) (pa_cons (pe_ix (r := rIxL K) ix_list (pv 5) (pe_op op_add (pe_op op_mul pe_int (pv 8)) pe_int) (fun _ _ => rfl)) pa_nil))))) rfl)))
      (pss_one (ps_ret (pv 6)))))), ?_⟩
    try simp (maxSteps := 1000000) only [tSeq, tIfS, tTest, tOp, tUn, tCB, tCons, tNil, tVar, tC, rI0, rI, rU, rEq, rNe, tRet, tRetN, tAsg, gName, gSub, tBM, tBM0, tNext, tB, tNot, tAnd, tOr, tIf, tCall, tDrop, tBreak, tCont, L2.start, tDGet, sDPut, tTup, tLst, tDNewK, tRevL, rCat, rAppend, rPop, rSetL, tAndV, tOrV, tNotV, tSl, tPart, tNoPart, tM1, gTup, gCons, gNil, cxK, cxnK, List.map_cons, List.map_nil, List.length_cons, List.length_nil, List.replicate, List.cons_append, List.nil_append, List.append_nil, List.set_cons_zero, List.set_cons_succ, List.getElem?_cons_zero, List.getElem?_cons_succ, Option.some.injEq, V.ref.injEq, V.int.injEq, V.str.injEq, V.bl.injEq, V.ty.injEq, exists_eq_left', exists_eq_left, exists_and_left, List.cons.injEq, and_true, true_and, sc_ii, sc_ss, sc_bb, sc_ni, sc_in, sc_is, sc_si, sc_nn, decide_true, decide_false, reduceCtorEq, Bool.false_eq_true, if_true, if_false, ite_true, ite_false, exists_const, eq_self, false_and, and_false, or_false, false_or, exists_false, Evl.rLenS, rSum, wipe, tYes, exists_eq, exists_eq', rIxL, rIxT, rIxS, exists_and_right, gt_iff_lt, not_true_eq_false, not_false_eq_true, Bool.not_true, Bool.not_false, decide_eq_true_eq, Nat.reduceSub, Nat.reduceAdd, List.append_assoc, tChain, tDIn, tDNotIn, sDDel, tAug, ipI, rRep]
    refine ⟨by decide, fun p np => ?_⟩
    have k1 : Kp [] H (upd H p (.lst [.int most, .int (m : Nat)])) := Kp.new np
    have hn1 := k1 _ _ not0 hn
    refine ⟨_, .inl (sq_l hn1), .inl ⟨by omega, by omega⟩, _, upd_same, ?_⟩
    rw [List.length_map, show ((m : Nat) : Int) * ((zs.length : Nat) : Int) = ((m * zs.length : Nat) : Int) by push_cast; rfl, Int.toNat_natCast]
    have mz : m * zs.length ≤ 2000 := by
      have := Nat.mul_le_mul m100 z20
      omega
    refine ⟨by omega, by omega, ?_, fun p1 np1 => ?_⟩
    · have := smallL (n := 5000) (by decide)
      show 2 * _ ≤ _
      omega
    have k2 := k1.trans (Kp.new np1 (o := .lst (List.replicate (m * zs.length) [V.int most, .int (m : Nat)]).flatten))
    have bsV : (List.replicate (m * zs.length) [V.int most, .int (m : Nat)]).flatten = (List.replicate (m * zs.length) ([most, (m : Int)] : List Int)).flatten.map V.int := by
      rw [List.map_flatten, List.map_replicate]; rfl
    rw [bsV] at k2 ⊢
    refine ⟨a, p1, at_, ns, _, rfl, ⟨k2.ls not0 hS.1, hS.2⟩, a1, upd_same, by simp; omega, fun b hb => ?_, fun s ds H5 ns5 hs hd k5 => ?_⟩
    · obtain ⟨l, hl, hb⟩ := List.mem_flatten.mp hb
      rw [(List.mem_replicate.mp hl).2] at hb
      simp at hb
      rcases hb with rfl | rfl <;> omega
    generalize (upd (upd H p (.lst [.int most, .int (m : Nat)])) p1 (.lst ((List.replicate (m * zs.length) ([most, (m : Int)] : List Int)).flatten.map V.int))) = H4 at k2 ns5 k5 ⊢
    have k25 := k2.trans k5
    have hn5 := k25 _ _ not0 hn
    intro r nr
    have nr0 : H r = none := k25.free0 nr
    have kr : Kp [] H5 (upd H5 r (.dK [])) := Kp.new nr
    have cell : ∀ {z : Str} {j : Nat}, zs[j]? = some z → zs.idxOf z = j := fun {z j} e => by
      obtain ⟨hj, ej⟩ := List.getElem?_eq_some_iff.mp e
      have hz : z ∈ zs := List.mem_of_getElem? e
      have h1 := List.idxOf_lt_length_iff.mpr hz
      have h2 : zs[zs.idxOf z] = z := List.getElem_idxOf h1
      exact (List.getElem_inj nd).mp (h2.trans ej.symm)
    refine forRg zs.length (fun j σ H' => ∃ c7, σ = [some (.ref a), some (.int (at_ : Nat)), some (.ref nl), some (.int (m : Nat)), some (.int most), some (.ref s), some (.ref r), c7, none] ∧ RwAt H' r (zs.take j) m (drawnC zs m ds) ∧ Kp [] H5 H') ?_ (by omega) (by omega) ⟨none, rfl, ⟨[], upd_same, rfl, fun i z e => by cases e⟩, kr⟩ ?_ ?_
    · intro R q
      have hn6 := kr _ _ not0 hn5
      try simp (maxSteps := 1000000) only [tSeq, tIfS, tTest, tOp, tUn, tCB, tCons, tNil, tVar, tC, rI0, rI, rU, rEq, rNe, tRet, tRetN, tAsg, gName, gSub, tBM, tBM0, tNext, tB, tNot, tAnd, tOr, tIf, tCall, tDrop, tBreak, tCont, L2.start, tDGet, sDPut, tTup, tLst, tDNewK, tRevL, rCat, rAppend, rPop, rSetL, tAndV, tOrV, tNotV, tSl, tPart, tNoPart, tM1, gTup, gCons, gNil, cxK, cxnK, List.map_cons, List.map_nil, List.length_cons, List.length_nil, List.replicate, List.cons_append, List.nil_append, List.append_nil, List.set_cons_zero, List.set_cons_succ, List.getElem?_cons_zero, List.getElem?_cons_succ, Option.some.injEq, V.ref.injEq, V.int.injEq, V.str.injEq, V.bl.injEq, V.ty.injEq, exists_eq_left', exists_eq_left, exists_and_left, List.cons.injEq, and_true, true_and, sc_ii, sc_ss, sc_bb, sc_ni, sc_in, sc_is, sc_si, sc_nn, decide_true, decide_false, reduceCtorEq, Bool.false_eq_true, if_true, if_false, ite_true, ite_false, exists_const, eq_self, false_and, and_false, or_false, false_or, exists_false, Evl.rLenS, rSum, wipe, tYes, exists_eq, exists_eq', rIxL, rIxT, rIxS, exists_and_right, gt_iff_lt, not_true_eq_false, not_false_eq_true, Bool.not_true, Bool.not_false, decide_eq_true_eq, Nat.reduceSub, Nat.reduceAdd, List.append_assoc, tChain, tDIn, tDNotIn, sDDel, tAug, ipI]
      refine ⟨_, .inl (sq_l hn6), ?_⟩
      rw [List.length_map]
      exact q
    · rintro j σ H6 hj ⟨c7, rfl, hrw, k6⟩
      have hs6 := k6 _ _ not0 hs
      have hn6 := k6 _ _ not0 hn5
      obtain ⟨z, ez⟩ : ∃ z, zs[j]? = some z := ⟨zs[j], List.getElem?_eq_getElem hj⟩
      have jm : j * m + m ≤ m * zs.length := by
        have := Nat.mul_le_mul_right m (show j + 1 ≤ zs.length from hj)
        rw [Nat.add_mul, Nat.one_mul, Nat.mul_comm zs.length] at this
        exact this
      try simp (maxSteps := 1000000) only [tSeq, tIfS, tTest, tOp, tUn, tCB, tCons, tNil, tVar, tC, rI0, rI, rU, rEq, rNe, tRet, tRetN, tAsg, gName, gSub, tBM, tBM0, tNext, tB, tNot, tAnd, tOr, tIf, tCall, tDrop, tBreak, tCont, L2.start, tDGet, sDPut, tTup, tLst, tDNewK, tRevL, rCat, rAppend, rPop, rSetL, tAndV, tOrV, tNotV, tSl, tPart, tNoPart, tM1, gTup, gCons, gNil, cxK, cxnK, List.map_cons, List.map_nil, List.length_cons, List.length_nil, List.replicate, List.cons_append, List.nil_append, List.append_nil, List.set_cons_zero, List.set_cons_succ, List.getElem?_cons_zero, List.getElem?_cons_succ, Option.some.injEq, V.ref.injEq, V.int.injEq, V.str.injEq, V.bl.injEq, V.ty.injEq, exists_eq_left', exists_eq_left, exists_and_left, List.cons.injEq, and_true, true_and, sc_ii, sc_ss, sc_bb, sc_ni, sc_in, sc_is, sc_si, sc_nn, decide_true, decide_false, reduceCtorEq, Bool.false_eq_true, if_true, if_false, ite_true, ite_false, exists_const, eq_self, false_and, and_false, or_false, false_or, exists_false, Evl.rLenS, rSum, wipe, tYes, exists_eq, exists_eq', rIxL, rIxT, rIxS, exists_and_right, gt_iff_lt, not_true_eq_false, not_false_eq_true, Bool.not_true, Bool.not_false, decide_eq_true_eq, Nat.reduceSub, Nat.reduceAdd, List.append_assoc, tChain, tDIn, tDNotIn, sDDel, tAug, ipI, sDPut]
      refine lcRg2N (j * m) m (by omega) (fun D i H' => ∃ xs, H' D = some (.lst xs) ∧ Cells (drawnC zs m ds z) xs i H' ∧ Kp [] H6 H') ?_ ?_ ?_ ?_
      · intro R' q'
        have cm : CMul (j : Int) (m : Int) := .inl ⟨by omega, by omega⟩
        have ejm : (j : Int) * (m : Int) = ((j * m : Nat) : Int) := by push_cast; rfl
        try simp (maxSteps := 1000000) only [tSeq, tIfS, tTest, tOp, tUn, tCB, tCons, tNil, tVar, tC, rI0, rI, rU, rEq, rNe, tRet, tRetN, tAsg, gName, gSub, tBM, tBM0, tNext, tB, tNot, tAnd, tOr, tIf, tCall, tDrop, tBreak, tCont, L2.start, tDGet, sDPut, tTup, tLst, tDNewK, tRevL, rCat, rAppend, rPop, rSetL, tAndV, tOrV, tNotV, tSl, tPart, tNoPart, tM1, gTup, gCons, gNil, cxK, cxnK, List.map_cons, List.map_nil, List.length_cons, List.length_nil, List.replicate, List.cons_append, List.nil_append, List.append_nil, List.set_cons_zero, List.set_cons_succ, List.getElem?_cons_zero, List.getElem?_cons_succ, Option.some.injEq, V.ref.injEq, V.int.injEq, V.str.injEq, V.bl.injEq, V.ty.injEq, exists_eq_left', exists_eq_left, exists_and_left, List.cons.injEq, and_true, true_and, sc_ii, sc_ss, sc_bb, sc_ni, sc_in, sc_is, sc_si, sc_nn, decide_true, decide_false, reduceCtorEq, Bool.false_eq_true, if_true, if_false, ite_true, ite_false, exists_const, eq_self, false_and, and_false, or_false, false_or, exists_false, Evl.rLenS, rSum, wipe, tYes, exists_eq, exists_eq', rIxL, rIxT, rIxS, exists_and_right, gt_iff_lt, not_true_eq_false, not_false_eq_true, Bool.not_true, Bool.not_false, decide_eq_true_eq, Nat.reduceSub, Nat.reduceAdd, List.append_assoc, tChain, tDIn, tDNotIn, sDDel, tAug, ipI]
        refine ⟨cm, cm, ?_⟩
        rw [ejm]
        exact q'
      · intro D nD
        exact ⟨[], upd_same, ⟨rfl, fun s hs => absurd hs (by omega)⟩, Kp.new nD⟩
      · intro D i H' nD hi hP
        obtain ⟨xs, hD, hc, k7⟩ := hP
        have hs7 := k7 _ _ not0 hs6
        obtain ⟨u, v, eu, ev, b1, b2⟩ := drawn2 hd (show j * m + i < m * zs.length by omega)
        have eu' : (ds.map V.int)[2 * (j * m + i)]? = some (.int u) := by rw [List.getElem?_map, eu]; rfl
        have ev' : (ds.map V.int)[2 * (j * m + i) + 1]? = some (.int v) := by rw [List.getElem?_map, ev]; rfl
        have ec : drawnC zs m ds z i = (u, v) := by
          unfold drawnC
          rw [cell ez, List.getD_eq_getElem?_getD, List.getD_eq_getElem?_getD, eu, ev]; rfl
        have a1' : atI (ds.map V.int) (2 * ((j * m + i : Nat) : Int)) = some (.int u) := by
          rw [show 2 * ((j * m + i : Nat) : Int) = ((2 * (j * m + i) : Nat) : Int) by omega]; exact atI_nat eu'
        have a2' : atI (ds.map V.int) (2 * ((j * m + i : Nat) : Int) + 1) = some (.int v) := by
          rw [show 2 * ((j * m + i : Nat) : Int) + 1 = ((2 * (j * m + i) + 1 : Nat) : Int) by omega]; exact atI_nat ev'
        try simp (maxSteps := 1000000) only [tSeq, tIfS, tTest, tOp, tUn, tCB, tCons, tNil, tVar, tC, rI0, rI, rU, rEq, rNe, tRet, tRetN, tAsg, gName, gSub, tBM, tBM0, tNext, tB, tNot, tAnd, tOr, tIf, tCall, tDrop, tBreak, tCont, L2.start, tDGet, sDPut, tTup, tLst, tDNewK, tRevL, rCat, rAppend, rPop, rSetL, tAndV, tOrV, tNotV, tSl, tPart, tNoPart, tM1, gTup, gCons, gNil, cxK, cxnK, List.map_cons, List.map_nil, List.length_cons, List.length_nil, List.replicate, List.cons_append, List.nil_append, List.append_nil, List.set_cons_zero, List.set_cons_succ, List.getElem?_cons_zero, List.getElem?_cons_succ, Option.some.injEq, V.ref.injEq, V.int.injEq, V.str.injEq, V.bl.injEq, V.ty.injEq, exists_eq_left', exists_eq_left, exists_and_left, List.cons.injEq, and_true, true_and, sc_ii, sc_ss, sc_bb, sc_ni, sc_in, sc_is, sc_si, sc_nn, decide_true, decide_false, reduceCtorEq, Bool.false_eq_true, if_true, if_false, ite_true, ite_false, exists_const, eq_self, false_and, and_false, or_false, false_or, exists_false, Evl.rLenS, rSum, wipe, tYes, exists_eq, exists_eq', rIxL, rIxT, rIxS, exists_and_right, gt_iff_lt, not_true_eq_false, not_false_eq_true, Bool.not_true, Bool.not_false, decide_eq_true_eq, Nat.reduceSub, Nat.reduceAdd, List.append_assoc, tChain, tDIn, tDNotIn, sDDel, tAug, ipI]
        refine ⟨.inl ⟨by decide, by decide⟩, _, sq_l hs7, .int u, a1', .inl ⟨by decide, by decide⟩, _, sq_l hs7, .int v, a2', by decide, fun p np => ?_⟩
        have kp : Kp [] H' (upd H' p (.tup [.int u, .int v])) := Kp.new np
        have hD2 := kp _ _ not0 hD
        refine ⟨xs, hD2, smallL (by rw [hc.1]; omega), xs ++ [.ref p], upd_same, Cells.putL (Cells.snoc (hc.kp kp) ?_) hD2, (k7.trans kp).wr nD⟩
        rw [upd_same, ec]
      · intro D H7 nD hP
        obtain ⟨xs, hD, hc, k7⟩ := hP
        have hn7 := k7 _ _ not0 hn6
        obtain ⟨kvs, hr7, hl7, hput, hrw7⟩ := hrw.put (z := z) (xs := xs) (c := drawnC zs m ds) k7 (nd_fresh nd ez) hD hc
        have ez' : (zs.map V.str)[j]? = some (.str z) := by rw [List.getElem?_map, ez]; rfl
        try simp (maxSteps := 1000000) only [tSeq, tIfS, tTest, tOp, tUn, tCB, tCons, tNil, tVar, tC, rI0, rI, rU, rEq, rNe, tRet, tRetN, tAsg, gName, gSub, tBM, tBM0, tNext, tB, tNot, tAnd, tOr, tIf, tCall, tDrop, tBreak, tCont, L2.start, tDGet, sDPut, tTup, tLst, tDNewK, tRevL, rCat, rAppend, rPop, rSetL, tAndV, tOrV, tNotV, tSl, tPart, tNoPart, tM1, gTup, gCons, gNil, cxK, cxnK, List.map_cons, List.map_nil, List.length_cons, List.length_nil, List.replicate, List.cons_append, List.nil_append, List.append_nil, List.set_cons_zero, List.set_cons_succ, List.getElem?_cons_zero, List.getElem?_cons_succ, Option.some.injEq, V.ref.injEq, V.int.injEq, V.str.injEq, V.bl.injEq, V.ty.injEq, exists_eq_left', exists_eq_left, exists_and_left, List.cons.injEq, and_true, true_and, sc_ii, sc_ss, sc_bb, sc_ni, sc_in, sc_is, sc_si, sc_nn, decide_true, decide_false, reduceCtorEq, Bool.false_eq_true, if_true, if_false, ite_true, ite_false, exists_const, eq_self, false_and, and_false, or_false, false_or, exists_false, Evl.rLenS, rSum, wipe, tYes, exists_eq, exists_eq', rIxL, rIxT, rIxS, exists_and_right, gt_iff_lt, not_true_eq_false, not_false_eq_true, Bool.not_true, Bool.not_false, decide_eq_true_eq, Nat.reduceSub, Nat.reduceAdd, List.append_assoc, tChain, tDIn, tDNotIn, sDDel, tAug, ipI]
        refine ⟨_, sq_l hn7, .str z, atI_nat ez', _, .inl ⟨kvs, Sum.inr z, hr7, rfl, smallL (by rw [hl7, List.length_take]; omega), rfl⟩, ?_, (k6.trans k7).wr nr⟩
        rw [hput, take_snoc ez]
        exact hrw7
    · rintro σ H6 ⟨c7, rfl, hrw, k6⟩
      rw [List.take_length] at hrw
      try simp (maxSteps := 1000000) only [tSeq, tIfS, tTest, tOp, tUn, tCB, tCons, tNil, tVar, tC, rI0, rI, rU, rEq, rNe, tRet, tRetN, tAsg, gName, gSub, tBM, tBM0, tNext, tB, tNot, tAnd, tOr, tIf, tCall, tDrop, tBreak, tCont, L2.start, tDGet, sDPut, tTup, tLst, tDNewK, tRevL, rCat, rAppend, rPop, rSetL, tAndV, tOrV, tNotV, tSl, tPart, tNoPart, tM1, gTup, gCons, gNil, cxK, cxnK, List.map_cons, List.map_nil, List.length_cons, List.length_nil, List.replicate, List.cons_append, List.nil_append, List.append_nil, List.set_cons_zero, List.set_cons_succ, List.getElem?_cons_zero, List.getElem?_cons_succ, Option.some.injEq, V.ref.injEq, V.int.injEq, V.str.injEq, V.bl.injEq, V.ty.injEq, exists_eq_left', exists_eq_left, exists_and_left, List.cons.injEq, and_true, true_and, sc_ii, sc_ss, sc_bb, sc_ni, sc_in, sc_is, sc_si, sc_nn, decide_true, decide_false, reduceCtorEq, Bool.false_eq_true, if_true, if_false, ite_true, ite_false, exists_const, eq_self, false_and, and_false, or_false, false_or, exists_false, Evl.rLenS, rSum, wipe, tYes, exists_eq, exists_eq', rIxL, rIxT, rIxS, exists_and_right, gt_iff_lt, not_true_eq_false, not_false_eq_true, Bool.not_true, Bool.not_false, decide_eq_true_eq, Nat.reduceSub, Nat.reduceAdd, List.append_assoc, tChain, tDIn, tDNotIn, sDDel, tAug, ipI]
      refine q r (drawnC zs m ds) H6 nr0 hrw (fun z hz s hs => ?_) (k25.trans k6)
      obtain ⟨j, ez⟩ := List.getElem?_of_mem hz
      have hj := (List.getElem?_eq_some_iff.mp ez).1
      have jm : j * m + m ≤ m * zs.length := by
        have := Nat.mul_le_mul_right m (show j + 1 ≤ zs.length from hj)
        rw [Nat.add_mul, Nat.one_mul, Nat.mul_comm zs.length] at this
        exact this
      obtain ⟨u, v, eu, ev, b1, b2⟩ := drawn2 hd (show j * m + s < m * zs.length by omega)
      have ec : drawnC zs m ds z s = (u, v) := by
        unfold drawnC
        rw [cell ez, List.getD_eq_getElem?_getD, List.getD_eq_getElem?_getD, eu, ev]; rfl
      rw [ec]
      exact ⟨b1, b2⟩
/-- a copy: new lists of the same tuples -/
def spCopy : Sp := fun vs H Q _ => ∃ (nl d : Addr) (m : Nat) (zs : List Str) (c : Str → Nat → Int × Int), vs = [.ref nl, .ref d] ∧ H nl = some (.lst (zs.map V.str)) ∧ zs.Nodup ∧ zs.length ≤ 20 ∧ RwAt H d zs m c ∧ ∀ (r : Addr) (H' : Hp), H r = none → RwAt H' r zs m c → Kp [] H H' → Q (.ref r) H'
theorem ok_law_copy {f : Addr} {fd : FuncData} (D : Df K mg "_law_copy" s_law_copy ["_law_names_here", "_law_rows_here"] f fd) (T : BtL mg) : FnOk P w K mg base CX0 1 f fd ["_law_names_here", "_law_rows_here"] spCopy := by
  refine D.F.ok sc_law_copy (fun vs H Q E h => ?_) (fun cdv A outer s H vs Q E hr h => ?_)
  · obtain ⟨nl, d, m, zs, c, rfl, _⟩ := h
    rfl
  · obtain ⟨nl, d, m, zs, c, rfl, hn, nd, z20, hd, q⟩ := h
    have hu := hu_of hr
    refine ⟨_, (pss_cons (ps_set (i := 2) sc_law_copy.nd rfl (Or.inl rfl) pe_dnewK)
      (pss_cons (ps_for PassesOwn.never rfl (pi_list (pv 0)) (pg_name (i := 3) sc_law_copy.nd rfl (Or.inl rfl)) (pss_one (ps_dput hu (pv 2) (pv 3) (pe_callTy call_list_of (by rfl) T.b_list (by decide +kernel) (pa_cons (pe_dget hu (pv 1) (pv 3) (fun _ _ => rfl)) pa_nil)) rfl)))
      (pss_one (ps_ret (pv 2))))), ?_⟩
    try simp (maxSteps := 1000000) only [tSeq, tIfS, tTest, tOp, tUn, tCB, tCons, tNil, tVar, tC, rI0, rI, rU, rEq, rNe, tRet, tRetN, tAsg, gName, gSub, tBM, tBM0, tNext, tB, tNot, tAnd, tOr, tIf, tCall, tDrop, tBreak, tCont, L2.start, tDGet, sDPut, tTup, tLst, tDNewK, tRevL, rCat, rAppend, rPop, rSetL, tAndV, tOrV, tNotV, tSl, tPart, tNoPart, tM1, gTup, gCons, gNil, cxK, cxnK, List.map_cons, List.map_nil, List.length_cons, List.length_nil, List.replicate, List.cons_append, List.nil_append, List.append_nil, List.set_cons_zero, List.set_cons_succ, List.getElem?_cons_zero, List.getElem?_cons_succ, Option.some.injEq, V.ref.injEq, V.int.injEq, V.str.injEq, V.bl.injEq, V.ty.injEq, exists_eq_left', exists_eq_left, exists_and_left, List.cons.injEq, and_true, true_and, sc_ii, sc_ss, sc_bb, sc_ni, sc_in, sc_is, sc_si, sc_nn, decide_true, decide_false, reduceCtorEq, Bool.false_eq_true, if_true, if_false, ite_true, ite_false, exists_const, eq_self, false_and, and_false, or_false, false_or, exists_false, Evl.rLenS, rSum, wipe, tYes, exists_eq, exists_eq', rIxL, rIxT, rIxS, exists_and_right, gt_iff_lt, not_true_eq_false, not_false_eq_true, Bool.not_true, Bool.not_false, decide_eq_true_eq, Nat.reduceSub, Nat.reduceAdd, List.append_assoc, tChain, tDIn, tDNotIn, sDDel, tAug, ipI]
    intro r nr
    have kr : Kp [] H (upd H r (.dK [])) := Kp.new nr
    refine ⟨.ref nl, rfl, nl, rfl, ⟨_, sq_l (kr _ _ not0 hn)⟩, for_list (K := K) (a := nl) (xs := zs.map V.str) (fun i σ H' => ∃ c3, σ = [some (.ref nl), some (.ref d), some (.ref r), c3] ∧ RwAt H' r (zs.take i) m c ∧ Kp [] H H') ⟨none, rfl, ⟨[], upd_same, rfl, fun i z e => by cases e⟩, kr⟩ (fun i σ H' _ h => by obtain ⟨_, _, _, k⟩ := h; exact k.ls not0 (sq_l hn)) ?_ ?_⟩
    · rintro i x σ H1 hx ⟨c3, rfl, hrw, k1⟩
      obtain ⟨z, ez, rfl⟩ : ∃ z, zs[i]? = some z ∧ V.str z = x := by
        rw [List.getElem?_map] at hx
        cases e : zs[i]? with
        | none => rw [e] at hx; cases hx
        | some z => rw [e] at hx; exact ⟨z, rfl, Option.some.inj hx⟩
      obtain ⟨kvs, l, xs, hd1, ev, hl, hc⟩ := (hd.kp k1).get nd (List.mem_of_getElem? ez)
      try simp (maxSteps := 1000000) only [tSeq, tIfS, tTest, tOp, tUn, tCB, tCons, tNil, tVar, tC, rI0, rI, rU, rEq, rNe, tRet, tRetN, tAsg, gName, gSub, tBM, tBM0, tNext, tB, tNot, tAnd, tOr, tIf, tCall, tDrop, tBreak, tCont, L2.start, tDGet, sDPut, tTup, tLst, tDNewK, tRevL, rCat, rAppend, rPop, rSetL, tAndV, tOrV, tNotV, tSl, tPart, tNoPart, tM1, gTup, gCons, gNil, cxK, cxnK, List.map_cons, List.map_nil, List.length_cons, List.length_nil, List.replicate, List.cons_append, List.nil_append, List.append_nil, List.set_cons_zero, List.set_cons_succ, List.getElem?_cons_zero, List.getElem?_cons_succ, Option.some.injEq, V.ref.injEq, V.int.injEq, V.str.injEq, V.bl.injEq, V.ty.injEq, exists_eq_left', exists_eq_left, exists_and_left, List.cons.injEq, and_true, true_and, sc_ii, sc_ss, sc_bb, sc_ni, sc_in, sc_is, sc_si, sc_nn, decide_true, decide_false, reduceCtorEq, Bool.false_eq_true, if_true, if_false, ite_true, ite_false, exists_const, eq_self, false_and, and_false, or_false, false_or, exists_false, Evl.rLenS, rSum, wipe, tYes, exists_eq, exists_eq', rIxL, rIxT, rIxS, exists_and_right, gt_iff_lt, not_true_eq_false, not_false_eq_true, Bool.not_true, Bool.not_false, decide_eq_true_eq, Nat.reduceSub, Nat.reduceAdd, List.append_assoc, tChain, tDIn, tDNotIn, sDDel, tAug, ipI, sDPut]
      refine ⟨.ref l, .inl ⟨kvs, Sum.inr z, .inl hd1, rfl, ev.symm⟩, l, rfl, xs, .inl (sq_l hl), fun p np => ?_⟩
      have kp : Kp [] H1 (upd H1 p (.lst xs)) := Kp.new np
      obtain ⟨kv2, hr7, hl7, hput, hrw7⟩ := hrw.put (z := z) (xs := xs) (c := c) kp (nd_fresh nd ez) upd_same (hc.kp kp)
      refine ⟨_, .inl ⟨kv2, Sum.inr z, hr7, rfl, smallL (by rw [hl7, List.length_take]; omega), rfl⟩, ?_, (k1.trans kp).wr nr⟩
      rw [hput, take_snoc ez]
      exact hrw7
    · rintro σ H1 ⟨c3, rfl, hrw, k1⟩
      rw [List.length_map, List.take_length] at hrw
      try simp (maxSteps := 1000000) only [tSeq, tIfS, tTest, tOp, tUn, tCB, tCons, tNil, tVar, tC, rI0, rI, rU, rEq, rNe, tRet, tRetN, tAsg, gName, gSub, tBM, tBM0, tNext, tB, tNot, tAnd, tOr, tIf, tCall, tDrop, tBreak, tCont, L2.start, tDGet, sDPut, tTup, tLst, tDNewK, tRevL, rCat, rAppend, rPop, rSetL, tAndV, tOrV, tNotV, tSl, tPart, tNoPart, tM1, gTup, gCons, gNil, cxK, cxnK, List.map_cons, List.map_nil, List.length_cons, List.length_nil, List.replicate, List.cons_append, List.nil_append, List.append_nil, List.set_cons_zero, List.set_cons_succ, List.getElem?_cons_zero, List.getElem?_cons_succ, Option.some.injEq, V.ref.injEq, V.int.injEq, V.str.injEq, V.bl.injEq, V.ty.injEq, exists_eq_left', exists_eq_left, exists_and_left, List.cons.injEq, and_true, true_and, sc_ii, sc_ss, sc_bb, sc_ni, sc_in, sc_is, sc_si, sc_nn, decide_true, decide_false, reduceCtorEq, Bool.false_eq_true, if_true, if_false, ite_true, ite_false, exists_const, eq_self, false_and, and_false, or_false, false_or, exists_false, Evl.rLenS, rSum, wipe, tYes, exists_eq, exists_eq', rIxL, rIxT, rIxS, exists_and_right, gt_iff_lt, not_true_eq_false, not_false_eq_true, Bool.not_true, Bool.not_false, decide_eq_true_eq, Nat.reduceSub, Nat.reduceAdd, List.append_assoc, tChain, tDIn, tDNotIn, sDDel, tAug, ipI]
      exact q r H1 nr hrw k1
def spWhole : Sp := fun vs H Q _ => ∃ i j : Int, vs = [.int i, .int j] ∧ Q (.bl (decide (i = j))) H
theorem ok_law_is_whole {f : Addr} {fd : FuncData} (D : Df K mg "_law_is_whole" s_law_is_whole ["_law_told", "_law_due"] f fd) (T : BtN mg) (b_isinstance : mg "isinstance" = none) (b_bool : mg "bool" = none) : FnOk P w K mg base CX0 1 f fd ["_law_told", "_law_due"] spWhole := by
  refine D.F.ok sc_law_is_whole (fun vs H Q E h => ?_) (fun cdv A outer s H vs Q E hr h => ?_)
  · obtain ⟨i, j, rfl, _⟩ := h
    rfl
  · obtain ⟨i, j, rfl, q⟩ := h
    have T : BtW mg := ⟨T.b_int, b_isinstance, b_bool⟩
    refine ⟨_, (pss_one (ps_ret (pe_and (pe_callB (id := "isinstance") (r := rIsi K) call_isi (by rfl) T.b_isinstance (by decide +kernel) (pa_cons (pv 0) (pa_cons (pe_bltn (v := .ty "int") (by rfl) T.b_int (by decide +kernel) rfl) pa_nil))) (pe_and (pe_not (pe_callB (id := "isinstance") (r := rIsi K) call_isi (by rfl) T.b_isinstance (by decide +kernel) (pa_cons (pv 0) (pa_cons (pe_bltn (v := .ty "bool") (by rfl) T.b_bool (by decide +kernel) rfl) pa_nil)))) (pe_one (pe_cmpR op_eq (pv 0) (pv 1) (nomark _))))))), ?_⟩
    try simp (maxSteps := 1000000) only [tSeq, tIfS, tTest, tOp, tUn, tCB, tCons, tNil, tVar, tC, rI0, rI, rU, rEq, rNe, tRet, tRetN, tAsg, gName, gSub, tBM, tBM0, tNext, tB, tNot, tAnd, tOr, tIf, tCall, tDrop, tBreak, tCont, L2.start, tDGet, sDPut, tTup, tLst, tDNewK, tRevL, rCat, rAppend, rPop, rSetL, tAndV, tOrV, tNotV, tSl, tPart, tNoPart, tM1, gTup, gCons, gNil, cxK, cxnK, List.map_cons, List.map_nil, List.length_cons, List.length_nil, List.replicate, List.cons_append, List.nil_append, List.append_nil, List.set_cons_zero, List.set_cons_succ, List.getElem?_cons_zero, List.getElem?_cons_succ, Option.some.injEq, V.ref.injEq, V.int.injEq, V.str.injEq, V.bl.injEq, V.ty.injEq, exists_eq_left', exists_eq_left, exists_and_left, List.cons.injEq, and_true, true_and, sc_ii, sc_ss, sc_bb, sc_ni, sc_in, sc_is, sc_si, sc_nn, decide_true, decide_false, reduceCtorEq, Bool.false_eq_true, if_true, if_false, ite_true, ite_false, exists_const, eq_self, false_and, and_false, or_false, false_or, exists_false, Evl.rLenS, rSum, wipe, tYes, exists_eq, exists_eq', rIxL, rIxT, rIxS, exists_and_right, gt_iff_lt, not_true_eq_false, not_false_eq_true, Bool.not_true, Bool.not_false, decide_eq_true_eq, Nat.reduceSub, Nat.reduceAdd, List.append_assoc, tChain, tDIn, tDNotIn, sDDel, tAug, ipI]
    refine isi_int_int ?_
    try simp (maxSteps := 1000000) only [tSeq, tIfS, tTest, tOp, tUn, tCB, tCons, tNil, tVar, tC, rI0, rI, rU, rEq, rNe, tRet, tRetN, tAsg, gName, gSub, tBM, tBM0, tNext, tB, tNot, tAnd, tOr, tIf, tCall, tDrop, tBreak, tCont, L2.start, tDGet, sDPut, tTup, tLst, tDNewK, tRevL, rCat, rAppend, rPop, rSetL, tAndV, tOrV, tNotV, tSl, tPart, tNoPart, tM1, gTup, gCons, gNil, cxK, cxnK, List.map_cons, List.map_nil, List.length_cons, List.length_nil, List.replicate, List.cons_append, List.nil_append, List.append_nil, List.set_cons_zero, List.set_cons_succ, List.getElem?_cons_zero, List.getElem?_cons_succ, Option.some.injEq, V.ref.injEq, V.int.injEq, V.str.injEq, V.bl.injEq, V.ty.injEq, exists_eq_left', exists_eq_left, exists_and_left, List.cons.injEq, and_true, true_and, sc_ii, sc_ss, sc_bb, sc_ni, sc_in, sc_is, sc_si, sc_nn, decide_true, decide_false, reduceCtorEq, Bool.false_eq_true, if_true, if_false, ite_true, ite_false, exists_const, eq_self, false_and, and_false, or_false, false_or, exists_false, Evl.rLenS, rSum, wipe, tYes, exists_eq, exists_eq', rIxL, rIxT, rIxS, exists_and_right, gt_iff_lt, not_true_eq_false, not_false_eq_true, Bool.not_true, Bool.not_false, decide_eq_true_eq, Nat.reduceSub, Nat.reduceAdd, List.append_assoc, tChain, tDIn, tDNotIn, sDDel, tAug, ipI]
    refine isi_int_bool ?_
    try simp (maxSteps := 1000000) only [tSeq, tIfS, tTest, tOp, tUn, tCB, tCons, tNil, tVar, tC, rI0, rI, rU, rEq, rNe, tRet, tRetN, tAsg, gName, gSub, tBM, tBM0, tNext, tB, tNot, tAnd, tOr, tIf, tCall, tDrop, tBreak, tCont, L2.start, tDGet, sDPut, tTup, tLst, tDNewK, tRevL, rCat, rAppend, rPop, rSetL, tAndV, tOrV, tNotV, tSl, tPart, tNoPart, tM1, gTup, gCons, gNil, cxK, cxnK, List.map_cons, List.map_nil, List.length_cons, List.length_nil, List.replicate, List.cons_append, List.nil_append, List.append_nil, List.set_cons_zero, List.set_cons_succ, List.getElem?_cons_zero, List.getElem?_cons_succ, Option.some.injEq, V.ref.injEq, V.int.injEq, V.str.injEq, V.bl.injEq, V.ty.injEq, exists_eq_left', exists_eq_left, exists_and_left, List.cons.injEq, and_true, true_and, sc_ii, sc_ss, sc_bb, sc_ni, sc_in, sc_is, sc_si, sc_nn, decide_true, decide_false, reduceCtorEq, Bool.false_eq_true, if_true, if_false, ite_true, ite_false, exists_const, eq_self, false_and, and_false, or_false, false_or, exists_false, Evl.rLenS, rSum, wipe, tYes, exists_eq, exists_eq', rIxL, rIxT, rIxS, exists_and_right, gt_iff_lt, not_true_eq_false, not_false_eq_true, Bool.not_true, Bool.not_false, decide_eq_true_eq, Nat.reduceSub, Nat.reduceAdd, List.append_assoc, tChain, tDIn, tDNotIn, sDDel, tAug, ipI]
    exact q
end
end My

set_option Elab.async false
set_option linter.all false
set_option maxRecDepth 100000
set_option maxHeartbeats 4000000
namespace My
open PySem L2 NdefX StX
abbrev s_law_tells : Stmt := top 32
theorem sc_law_tells : FnScope ["_law_table", "_law_names_here", "_law_rows_here", "_law_start", "_law_size", "_law_told", "_law_name", "_law_state", "_law_pair", "_law_due"] ["_law_table", "_law_names_here", "_law_rows_here", "_law_start"] (defScope s_law_tells) := ⟨rfl, rfl, rfl, by decide +kernel, rfl, by decide +kernel, by decide +kernel⟩
structure BtD (mg : Str → Option Value) : Prop where
  b_len : mg "len" = none
  b_range : mg "range" = none
  b_isinstance : mg "isinstance" = none
  b_list : mg "list" = none
  b_tuple : mg "tuple" = none
  b_int : mg "int" = none
def Fit (d : PyData) : Prop := SeqAt.shaped d = true ∧ d.depth ≤ 60
theorem fit_str {z : Str} (h : PyData.canLay0 (.str z) = true) : Fit (.str z) := by
  refine ⟨?_, by show PyData.depth (.str z) ≤ 60; simp [PyData.depth]⟩
  unfold SeqAt.shaped
  rw [h]
  simp [PyData.depth]
theorem fitL {ds : List PyData} (h : ∀ d ∈ ds, Fit d) : SeqAt.shaped (.list ds) = true ∧ SeqAt.shaped (.tuple ds) = true := by
  have a1 : PyData.canLayAll0 ds = true := by
    induction ds with
    | nil => rfl
    | cons d r ih =>
      have h1 := h d List.mem_cons_self
      show (PyData.canLay0 d && PyData.canLayAll0 r) = true
      rw [SeqAt.canLay_of_shaped h1.1, ih fun x hx => h x (List.mem_cons_of_mem _ hx)]; rfl
  have a2 : PyData.depthAll ds ≤ 60 := by
    clear a1
    induction ds with
    | nil => exact Nat.zero_le _
    | cons d r ih =>
      have h1 := h d List.mem_cons_self
      have h2 := ih fun x hx => h x (List.mem_cons_of_mem _ hx)
      show max d.depth (PyData.depthAll r) ≤ 60
      have hd := h1.2
      omega
  have b1 : decide (PyData.depthAll ds + 1 ≤ 64) = true := decide_eq_true (by omega)
  constructor <;> (show (PyData.canLayAll0 ds && decide (PyData.depthAll ds + 1 ≤ 64)) = true; rw [a1, b1]; rfl)
theorem dpStrs {K : PySem.W.Frag} {H : Hp} : ∀ zs : List Str, DpAll K H (zs.map V.str) (zs.map PyData.str)
  | [] => .nil
  | z :: zs => .cons (.str z) (dpStrs zs)
theorem fit_name {z : Str} (h : nameS z = true) : Fit (.str z) := by
  unfold nameS at h
  rw [Bool.and_eq_true, Bool.and_eq_true, decide_eq_true_eq, decide_eq_true_eq, List.all_eq_true] at h
  refine fit_str ?_
  show PySem.PyData.canLay0 (.str z) = true
  unfold PySem.PyData.canLay0 PySem.PyData.strOk
  rw [← Array.all_toList, List.all_eq_true]
  intro c hc
  have := h.2.2 c hc
  unfold lowC at this
  rw [Bool.and_eq_true, decide_eq_true_eq, decide_eq_true_eq] at this
  exact decide_eq_true (by omega)
theorem shaped_names {zs : List Str} (h : ∀ z ∈ zs, nameS z = true) : SeqAt.shaped (.list (zs.map PyData.str)) = true := (fitL fun d hd => by
  obtain ⟨z, hz, rfl⟩ := List.mem_map.mp hd
  exact fit_name (h z hz)).1
theorem TabIs.kp {TC : Addr} {H H' : Hp} {t : Addr} {zs : List Str} {m : Nat} {start : Int} {c : Str → Nat → Int × Int} (h : TabIs TC H t zs m start c) (k : Kp [] H H') : TabIs TC H' t zs m start c := by
  obtain ⟨rs, a, b⟩ := h
  exact ⟨rs, a.kp k, b⟩
section
variable {P : Program} {w : World} {K : PySem.W.Frag} {mg : Str → Option Value} {base : Heap}
def spTells (TC : Addr) : Sp := fun vs H Q _ => ∃ (t nl d : Addr) (m : Nat) (start : Int) (zs : List Str) (c : Str → Nat → Int × Int), vs = [.ref t, .ref nl, .ref d, .int start] ∧ TabIs TC H t zs m start c ∧ H nl = some (.lst (zs.map V.str)) ∧ RwAt H d zs m c ∧ ∀ H', Kp [] H H' → Q (.bl true) H'
theorem ok_law_tells {f : Addr} {fd : FuncData} (D : Df K mg "_law_tells" s_law_tells ["_law_table", "_law_names_here", "_law_rows_here", "_law_start"] f fd) (T : BtD mg) {TC NO BN fN fC : Addr} {fdN fdC : FuncData} (C : TbC K mg TC) {fw : Addr} {fdw : FuncData} (D_law_is_whole : Df K mg "_law_is_whole" s_law_is_whole ["_law_told", "_law_due"] fw fdw) (G_law_is_whole : FnOk P w K mg base CX0 1 fw fdw ["_law_told", "_law_due"] spWhole)
    (ME_Table_names : Meth K TC "names" fN) (bM_Table_names : Binds K fdN ["self"] []) (G_Table_names : FnOk P w K mg base CX0 1 fN fdN ["self"] (spTN TC))
    (CO_Table : CallO K TC fC) (bC_Table : Binds K fdC ["self", "name", "state"] []) (G_Table_call0 : FnOk P w K mg base (L2.CX P w) 4 fC fdC ["self", "name", "state"] (spTCall TC NO BN)) : FnOk P w K mg base CX0 6 f fd ["_law_table", "_law_names_here", "_law_rows_here", "_law_start"] (spTells TC) := by
  refine D.F.ok sc_law_tells (fun vs H Q E h => ?_) (fun cdv A outer s H vs Q E hr h => ?_)
  · obtain ⟨t, nl, d, m, start, zs, c, rfl, _⟩ := h
    rfl
  · obtain ⟨t, nl, d, m, start, zs, c, rfl, ht, hn, hd, q⟩ := h
    have hu := hu_of hr
    have G_Table_call := G_Table_call0.toR bC_Table
    refine ⟨_, (pss_cons (ps_set (i := 4) sc_law_tells.nd rfl (Or.inl rfl) (pe_callB (id := "len") (r := Evl.rLenS K) call_len_seq (by rfl) T.b_len PySem.boot_len (pa_cons (pe_dget hu (pv 2) (pe_ix (r := rIxL K) ix_list (pv 1) pe_int (fun _ _ => rfl)) (fun _ _ => rfl)) pa_nil)))
      (pss_cons (ps_if (PW.pt (pw_or (pt_not (pt_val (pe_call G_law_is_whole (hr.mono (by decide)) rfl D_law_is_whole.g D_law_is_whole.F.kp D_law_is_whole.b .nil pass0 (pa_cons (pe_fld (pv 0) rfl) (pa_cons (pv 4) pa_nil))))) (pw_or1 (pt_not (pt_val (pe_call G_law_is_whole (hr.mono (by decide)) rfl D_law_is_whole.g D_law_is_whole.F.kp D_law_is_whole.b .nil pass0 (pa_cons (pe_fld (pv 0) rfl) (pa_cons (pv 3) pa_nil)))))))) (pss_one (ps_ret pe_bl)) pss_nil)
      (pss_cons (ps_set (i := 5) sc_law_tells.nd rfl (Or.inl rfl) (pe_meth0 (pv 0) C.cl ME_Table_names G_Table_names (hr.mono (by decide)) bM_Table_names .nil pass0))
      (pss_cons (ps_if (PW.pt (pw_or (pt_not (pt_val (pe_callB (id := "isinstance") (r := rIsi K) call_isi (by rfl) T.b_isinstance (by decide +kernel) (pa_cons (pv 5) (pa_cons (pe_bltn (v := .ty "list") (by rfl) T.b_list (by decide +kernel) rfl) pa_nil))))) (pw_or1 (pt_cmpR (op_neD hr.units) (pv 5) (pv 1) (nomark _))))) (pss_one (ps_ret pe_bl)) pss_nil)
      (pss_cons (ps_for PassesOwn.never rfl (pi_list (pv 1)) (pg_name (i := 6) sc_law_tells.nd rfl (Or.inl rfl)) (pss_one (ps_for PassesOwn.never rfl (pi_range1 rfl T.b_range (pa_cons (pv 4) pa_nil)) (pg_name (i := 7) sc_law_tells.nd rfl (Or.inl rfl)) (pss_cons (ps_set (i := 8) sc_law_tells.nd rfl (Or.inl rfl) (pe_callO (pv 0) CO_Table G_Table_call (hr.mono (by decide)) passL (pa_cons (pv 6) (pa_cons (pv 7) pa_nil))))
      (pss_cons (ps_set (i := 9) sc_law_tells.nd rfl (Or.inl rfl) (pe_ix (r := rIxL K) ix_list (pe_dget hu (pv 2) (pv 6) (fun _ _ => rfl)) (pv 7) (fun _ _ => rfl)))
      (pss_cons (ps_if (PW.pt (pw_or (pt_not (pt_val (pe_callB (id := "isinstance") (r := rIsi K) call_isi (by rfl) T.b_isinstance (by decide +kernel) (pa_cons (pv 8) (pa_cons (pe_bltn (v := .ty "tuple") (by rfl) T.b_tuple (by decide +kernel) rfl) pa_nil))))) (pw_or1 (pt_cmpR op_ne (pe_callB (id := "len") (r := Evl.rLenS K) call_len_seq (by rfl) T.b_len PySem.boot_len (pa_cons (pv 8) pa_nil)) pe_int (nomark _))))) (pss_one (ps_ret pe_bl)) pss_nil)
      (pss_one (ps_if (PW.pt (pw_or (pt_not (pt_val (pe_call G_law_is_whole (hr.mono (by decide)) rfl D_law_is_whole.g D_law_is_whole.F.kp D_law_is_whole.b .nil pass0 (pa_cons (pe_ix (r := rIxT K) ix_tup (pv 8) pe_int (fun _ _ => rfl)) (pa_cons (pe_ix (r := rIxT K) ix_tup (pv 9) pe_int (fun _ _ => rfl)) pa_nil))))) (pw_or1 (pt_not (pt_val (pe_call G_law_is_whole (hr.mono (by decide)) rfl D_law_is_whole.g D_law_is_whole.F.kp D_law_is_whole.b .nil pass0 (pa_cons (pe_ix (r := rIxT K) ix_tup (pv 8) pe_int (fun _ _ => rfl)) (pa_cons (pe_ix (r := rIxT K) ix_tup (pv 9) pe_int (fun _ _ => rfl)) pa_nil)))))))) (pss_one (ps_ret pe_bl)) pss_nil))))))))
      (pss_one (ps_ret pe_bl))))))), ?_⟩
    try simp (maxSteps := 1000000) only [tSeq, tIfS, tTest, tOp, tUn, tCB, tCons, tNil, tVar, tC, rI0, rI, rU, rEq, rNe, tRet, tRetN, tAsg, gName, gSub, tBM, tBM0, tNext, tB, tNot, tAnd, tOr, tIf, tCall, tDrop, tBreak, tCont, L2.start, tDGet, sDPut, tTup, tLst, tDNewK, tRevL, rCat, rAppend, rPop, rSetL, tAndV, tOrV, tNotV, tSl, tPart, tNoPart, tM1, gTup, gCons, gNil, cxK, cxnK, List.map_cons, List.map_nil, List.length_cons, List.length_nil, List.replicate, List.cons_append, List.nil_append, List.append_nil, List.set_cons_zero, List.set_cons_succ, List.getElem?_cons_zero, List.getElem?_cons_succ, Option.some.injEq, V.ref.injEq, V.int.injEq, V.str.injEq, V.bl.injEq, V.ty.injEq, exists_eq_left', exists_eq_left, exists_and_left, List.cons.injEq, and_true, true_and, sc_ii, sc_ss, sc_bb, sc_ni, sc_in, sc_is, sc_si, sc_nn, decide_true, decide_false, reduceCtorEq, Bool.false_eq_true, if_true, if_false, ite_true, ite_false, exists_const, eq_self, false_and, and_false, or_false, false_or, exists_false, Evl.rLenS, rSum, wipe, tYes, exists_eq, exists_eq', rIxL, rIxT, rIxS, exists_and_right, gt_iff_lt, not_true_eq_false, not_false_eq_true, Bool.not_true, Bool.not_false, decide_eq_true_eq, Nat.reduceSub, Nat.reduceAdd, List.append_assoc, tChain, tDIn, tDNotIn, sDDel, tAug, ipI, tFld, tMeth]
    obtain ⟨rs, hT, en, hc⟩ := ht
    have bT := hT.bnd
    have nd : zs.Nodup := by rw [← en]; exact bT.2.2.2.2.2.2.2
    obtain ⟨dx, dd, ho⟩ := hT.head
    obtain ⟨z0, r0, ez0⟩ : ∃ z r, zs = z :: r := by
      cases zs with
      | nil =>
        have : rs = [] := List.map_eq_nil_iff.mp en
        exact absurd this bT.1
      | cons z r => exact ⟨z, r, rfl⟩
    have h0 : z0 ∈ zs := by rw [ez0]; simp
    obtain ⟨kvs, l, xs, hd1, ev, hl, hcl⟩ := hd.get nd h0
    refine ⟨_, sq_l hn, .str z0, atI_of (by decide) (by rw [ez0]; rfl), .ref l, .inl ⟨kvs, Sum.inr z0, .inl hd1, rfl, ev.symm⟩, l, rfl, xs, .inl (sq_l hl), TC, dx, _, ho, C.cl, C.n1, _, rfl, (m : Nat), (xs.length : Nat), rfl, ?_⟩
    rw [hcl.1, decide_eq_true rfl]
    try simp (maxSteps := 1000000) only [tSeq, tIfS, tTest, tOp, tUn, tCB, tCons, tNil, tVar, tC, rI0, rI, rU, rEq, rNe, tRet, tRetN, tAsg, gName, gSub, tBM, tBM0, tNext, tB, tNot, tAnd, tOr, tIf, tCall, tDrop, tBreak, tCont, L2.start, tDGet, sDPut, tTup, tLst, tDNewK, tRevL, rCat, rAppend, rPop, rSetL, tAndV, tOrV, tNotV, tSl, tPart, tNoPart, tM1, gTup, gCons, gNil, cxK, cxnK, List.map_cons, List.map_nil, List.length_cons, List.length_nil, List.replicate, List.cons_append, List.nil_append, List.append_nil, List.set_cons_zero, List.set_cons_succ, List.getElem?_cons_zero, List.getElem?_cons_succ, Option.some.injEq, V.ref.injEq, V.int.injEq, V.str.injEq, V.bl.injEq, V.ty.injEq, exists_eq_left', exists_eq_left, exists_and_left, List.cons.injEq, and_true, true_and, sc_ii, sc_ss, sc_bb, sc_ni, sc_in, sc_is, sc_si, sc_nn, decide_true, decide_false, reduceCtorEq, Bool.false_eq_true, if_true, if_false, ite_true, ite_false, exists_const, eq_self, false_and, and_false, or_false, false_or, exists_false, Evl.rLenS, rSum, wipe, tYes, exists_eq, exists_eq', rIxL, rIxT, rIxS, exists_and_right, gt_iff_lt, not_true_eq_false, not_false_eq_true, Bool.not_true, Bool.not_false, decide_eq_true_eq, Nat.reduceSub, Nat.reduceAdd, List.append_assoc, tChain, tDIn, tDNotIn, sDDel, tAug, ipI, tFld, tMeth]
    refine ⟨TC, dx, _, ho, C.cl, C.n2, _, rfl, start, start, rfl, ?_⟩
    rw [decide_eq_true rfl]
    try simp (maxSteps := 1000000) only [tSeq, tIfS, tTest, tOp, tUn, tCB, tCons, tNil, tVar, tC, rI0, rI, rU, rEq, rNe, tRet, tRetN, tAsg, gName, gSub, tBM, tBM0, tNext, tB, tNot, tAnd, tOr, tIf, tCall, tDrop, tBreak, tCont, L2.start, tDGet, sDPut, tTup, tLst, tDNewK, tRevL, rCat, rAppend, rPop, rSetL, tAndV, tOrV, tNotV, tSl, tPart, tNoPart, tM1, gTup, gCons, gNil, cxK, cxnK, List.map_cons, List.map_nil, List.length_cons, List.length_nil, List.replicate, List.cons_append, List.nil_append, List.append_nil, List.set_cons_zero, List.set_cons_succ, List.getElem?_cons_zero, List.getElem?_cons_succ, Option.some.injEq, V.ref.injEq, V.int.injEq, V.str.injEq, V.bl.injEq, V.ty.injEq, exists_eq_left', exists_eq_left, exists_and_left, List.cons.injEq, and_true, true_and, sc_ii, sc_ss, sc_bb, sc_ni, sc_in, sc_is, sc_si, sc_nn, decide_true, decide_false, reduceCtorEq, Bool.false_eq_true, if_true, if_false, ite_true, ite_false, exists_const, eq_self, false_and, and_false, or_false, false_or, exists_false, Evl.rLenS, rSum, wipe, tYes, exists_eq, exists_eq', rIxL, rIxT, rIxS, exists_and_right, gt_iff_lt, not_true_eq_false, not_false_eq_true, Bool.not_true, Bool.not_false, decide_eq_true_eq, Nat.reduceSub, Nat.reduceAdd, List.append_assoc, tChain, tDIn, tDNotIn, sDDel, tAug, ipI, tFld, tMeth]
    refine ⟨dx, _, ho, rfl, t, m, start, rs, rfl, hT, fun nn H1 nnn hnn k1 => ?_⟩
    have en' : rs.map (·.1) = zs := en
    rw [en'] at hnn
    try simp (maxSteps := 1000000) only [tSeq, tIfS, tTest, tOp, tUn, tCB, tCons, tNil, tVar, tC, rI0, rI, rU, rEq, rNe, tRet, tRetN, tAsg, gName, gSub, tBM, tBM0, tNext, tB, tNot, tAnd, tOr, tIf, tCall, tDrop, tBreak, tCont, L2.start, tDGet, sDPut, tTup, tLst, tDNewK, tRevL, rCat, rAppend, rPop, rSetL, tAndV, tOrV, tNotV, tSl, tPart, tNoPart, tM1, gTup, gCons, gNil, cxK, cxnK, List.map_cons, List.map_nil, List.length_cons, List.length_nil, List.replicate, List.cons_append, List.nil_append, List.append_nil, List.set_cons_zero, List.set_cons_succ, List.getElem?_cons_zero, List.getElem?_cons_succ, Option.some.injEq, V.ref.injEq, V.int.injEq, V.str.injEq, V.bl.injEq, V.ty.injEq, exists_eq_left', exists_eq_left, exists_and_left, List.cons.injEq, and_true, true_and, sc_ii, sc_ss, sc_bb, sc_ni, sc_in, sc_is, sc_si, sc_nn, decide_true, decide_false, reduceCtorEq, Bool.false_eq_true, if_true, if_false, ite_true, ite_false, exists_const, eq_self, false_and, and_false, or_false, false_or, exists_false, Evl.rLenS, rSum, wipe, tYes, exists_eq, exists_eq', rIxL, rIxT, rIxS, exists_and_right, gt_iff_lt, not_true_eq_false, not_false_eq_true, Bool.not_true, Bool.not_false, decide_eq_true_eq, Nat.reduceSub, Nat.reduceAdd, List.append_assoc, tChain, tDIn, tDNotIn, sDDel, tAug, ipI]
    refine isi_mk (b := true) (.lst hnn) (by decide +kernel) ?_
    try simp (maxSteps := 1000000) only [tSeq, tIfS, tTest, tOp, tUn, tCB, tCons, tNil, tVar, tC, rI0, rI, rU, rEq, rNe, tRet, tRetN, tAsg, gName, gSub, tBM, tBM0, tNext, tB, tNot, tAnd, tOr, tIf, tCall, tDrop, tBreak, tCont, L2.start, tDGet, sDPut, tTup, tLst, tDNewK, tRevL, rCat, rAppend, rPop, rSetL, tAndV, tOrV, tNotV, tSl, tPart, tNoPart, tM1, gTup, gCons, gNil, cxK, cxnK, List.map_cons, List.map_nil, List.length_cons, List.length_nil, List.replicate, List.cons_append, List.nil_append, List.append_nil, List.set_cons_zero, List.set_cons_succ, List.getElem?_cons_zero, List.getElem?_cons_succ, Option.some.injEq, V.ref.injEq, V.int.injEq, V.str.injEq, V.bl.injEq, V.ty.injEq, exists_eq_left', exists_eq_left, exists_and_left, List.cons.injEq, and_true, true_and, sc_ii, sc_ss, sc_bb, sc_ni, sc_in, sc_is, sc_si, sc_nn, decide_true, decide_false, reduceCtorEq, Bool.false_eq_true, if_true, if_false, ite_true, ite_false, exists_const, eq_self, false_and, and_false, or_false, false_or, exists_false, Evl.rLenS, rSum, wipe, tYes, exists_eq, exists_eq', rIxL, rIxT, rIxS, exists_and_right, gt_iff_lt, not_true_eq_false, not_false_eq_true, Bool.not_true, Bool.not_false, decide_eq_true_eq, Nat.reduceSub, Nat.reduceAdd, List.append_assoc, tChain, tDIn, tDNotIn, sDDel, tAug, ipI]
    have hn1 := k1 _ _ not0 hn
    have nms : ∀ z ∈ zs, nameS z = true := by rw [← en]; exact bT.2.2.1
    have sh := shaped_names nms
    refine ⟨.list (zs.map PyData.str), .list (zs.map PyData.str), .lst (sq_l hnn) (dpStrs zs), .lst (sq_l hn1) (dpStrs zs), sh, sh, ?_⟩
    rw [SeqAt.eqv_refl _ (SeqAt.canLay_of_shaped sh)]
    try simp (maxSteps := 1000000) only [tSeq, tIfS, tTest, tOp, tUn, tCB, tCons, tNil, tVar, tC, rI0, rI, rU, rEq, rNe, tRet, tRetN, tAsg, gName, gSub, tBM, tBM0, tNext, tB, tNot, tAnd, tOr, tIf, tCall, tDrop, tBreak, tCont, L2.start, tDGet, sDPut, tTup, tLst, tDNewK, tRevL, rCat, rAppend, rPop, rSetL, tAndV, tOrV, tNotV, tSl, tPart, tNoPart, tM1, gTup, gCons, gNil, cxK, cxnK, List.map_cons, List.map_nil, List.length_cons, List.length_nil, List.replicate, List.cons_append, List.nil_append, List.append_nil, List.set_cons_zero, List.set_cons_succ, List.getElem?_cons_zero, List.getElem?_cons_succ, Option.some.injEq, V.ref.injEq, V.int.injEq, V.str.injEq, V.bl.injEq, V.ty.injEq, exists_eq_left', exists_eq_left, exists_and_left, List.cons.injEq, and_true, true_and, sc_ii, sc_ss, sc_bb, sc_ni, sc_in, sc_is, sc_si, sc_nn, decide_true, decide_false, reduceCtorEq, Bool.false_eq_true, if_true, if_false, ite_true, ite_false, exists_const, eq_self, false_and, and_false, or_false, false_or, exists_false, Evl.rLenS, rSum, wipe, tYes, exists_eq, exists_eq', rIxL, rIxT, rIxS, exists_and_right, gt_iff_lt, not_true_eq_false, not_false_eq_true, Bool.not_true, Bool.not_false, decide_eq_true_eq, Nat.reduceSub, Nat.reduceAdd, List.append_assoc, tChain, tDIn, tDNotIn, sDDel, tAug, ipI]
    refine ⟨.ref nl, rfl, nl, rfl, ⟨_, sq_l hn1⟩, for_list (K := K) (a := nl) (xs := zs.map V.str) (fun i σ H' => ∃ c6 c7 c8 c9, σ = [some (.ref t), some (.ref nl), some (.ref d), some (.int start), some (.int (m : Nat)), some (.ref nn), c6, c7, c8, c9] ∧ Kp [] H H') ⟨_, _, _, _, rfl, k1⟩ (fun i σ H' _ h => by obtain ⟨_, _, _, _, _, k⟩ := h; exact k.ls not0 (sq_l hn)) ?_ ?_⟩
    · rintro i x σ H2 hx ⟨c6, c7, c8, c9, rfl, k2⟩
      obtain ⟨z, ez, rfl⟩ : ∃ z, zs[i]? = some z ∧ V.str z = x := by
        rw [List.getElem?_map] at hx
        cases e : zs[i]? with
        | none => rw [e] at hx; cases hx
        | some z => rw [e] at hx; exact ⟨z, rfl, Option.some.inj hx⟩
      have hz := List.mem_of_getElem? ez
      refine forRg m (fun j σ H' => ∃ c7 c8 c9, σ = [some (.ref t), some (.ref nl), some (.ref d), some (.int start), some (.int (m : Nat)), some (.ref nn), some (.str z), c7, c8, c9] ∧ Kp [] H H') ?_ (by omega) (by omega) ⟨_, _, _, rfl, k2⟩ ?_ ?_
      · intro R q'
        exact ⟨_, rfl, q'⟩
      · rintro j σ H3 hj ⟨c7, c8, c9, rfl, k3⟩
        try simp (maxSteps := 1000000) only [tSeq, tIfS, tTest, tOp, tUn, tCB, tCons, tNil, tVar, tC, rI0, rI, rU, rEq, rNe, tRet, tRetN, tAsg, gName, gSub, tBM, tBM0, tNext, tB, tNot, tAnd, tOr, tIf, tCall, tDrop, tBreak, tCont, L2.start, tDGet, sDPut, tTup, tLst, tDNewK, tRevL, rCat, rAppend, rPop, rSetL, tAndV, tOrV, tNotV, tSl, tPart, tNoPart, tM1, gTup, gCons, gNil, cxK, cxnK, List.map_cons, List.map_nil, List.length_cons, List.length_nil, List.replicate, List.cons_append, List.nil_append, List.append_nil, List.set_cons_zero, List.set_cons_succ, List.getElem?_cons_zero, List.getElem?_cons_succ, Option.some.injEq, V.ref.injEq, V.int.injEq, V.str.injEq, V.bl.injEq, V.ty.injEq, exists_eq_left', exists_eq_left, exists_and_left, List.cons.injEq, and_true, true_and, sc_ii, sc_ss, sc_bb, sc_ni, sc_in, sc_is, sc_si, sc_nn, decide_true, decide_false, reduceCtorEq, Bool.false_eq_true, if_true, if_false, ite_true, ite_false, exists_const, eq_self, false_and, and_false, or_false, false_or, exists_false, Evl.rLenS, rSum, wipe, tYes, exists_eq, exists_eq', rIxL, rIxT, rIxS, exists_and_right, gt_iff_lt, not_true_eq_false, not_false_eq_true, Bool.not_true, Bool.not_false, decide_eq_true_eq, Nat.reduceSub, Nat.reduceAdd, List.append_assoc, tChain, tDIn, tDNotIn, sDDel, tAug, ipI, tCallO]
        have hT3 := hT.kp k3
        obtain ⟨kv3, l3, xs3, hd3, ev3, hl3, hc3⟩ := (hd.kp k3).get nd hz
        obtain ⟨p2, e2, hp2⟩ := hc3.2 j hj
        have hasT : hasD rs (.str z) = true := by
          show (nameS z && decide (z ∈ rs.map (·.1))) = true
          rw [nms z hz, en', decide_eq_true hz]; rfl
        have szz : szD (.str z) = true := by
          have h8 := nms z hz
          unfold nameS at h8
          rw [Bool.and_eq_true, Bool.and_eq_true, decide_eq_true_eq, decide_eq_true_eq] at h8
          exact decide_eq_true (by omega)
        refine ⟨.inr ⟨dx, _, k3 _ _ not0 ho⟩, t, .str z, .int (j : Nat), .str z, .int (j : Nat), m, start, rs, rfl, hT3, .str z, szz, .int _, fun z' s' ez' es' hh i0 i1 p H4 hp k4 => ?_, fun hh => by (rw [hasT] at hh; cases hh), fun hh hb => ?_⟩
        · cases ez'
          cases es'
          rw [hc z hz j hj] at hp
          have hp2' := k4 _ _ not0 hp2
          refine ⟨.ref l3, .inl ⟨kv3, Sum.inr z, .inl (k4 _ _ not0 hd3), rfl, ev3.symm⟩, l3, rfl, xs3, sq_l (k4 _ _ not0 hl3), .ref p2, atI_nat e2, isi_mk (b := true) (.tup hp) (by decide +kernel) ?_⟩
          try simp (maxSteps := 1000000) only [tSeq, tIfS, tTest, tOp, tUn, tCB, tCons, tNil, tVar, tC, rI0, rI, rU, rEq, rNe, tRet, tRetN, tAsg, gName, gSub, tBM, tBM0, tNext, tB, tNot, tAnd, tOr, tIf, tCall, tDrop, tBreak, tCont, L2.start, tDGet, sDPut, tTup, tLst, tDNewK, tRevL, rCat, rAppend, rPop, rSetL, tAndV, tOrV, tNotV, tSl, tPart, tNoPart, tM1, gTup, gCons, gNil, cxK, cxnK, List.map_cons, List.map_nil, List.length_cons, List.length_nil, List.replicate, List.cons_append, List.nil_append, List.append_nil, List.set_cons_zero, List.set_cons_succ, List.getElem?_cons_zero, List.getElem?_cons_succ, Option.some.injEq, V.ref.injEq, V.int.injEq, V.str.injEq, V.bl.injEq, V.ty.injEq, exists_eq_left', exists_eq_left, exists_and_left, List.cons.injEq, and_true, true_and, sc_ii, sc_ss, sc_bb, sc_ni, sc_in, sc_is, sc_si, sc_nn, decide_true, decide_false, reduceCtorEq, Bool.false_eq_true, if_true, if_false, ite_true, ite_false, exists_const, eq_self, false_and, and_false, or_false, false_or, exists_false, Evl.rLenS, rSum, wipe, tYes, exists_eq, exists_eq', rIxL, rIxT, rIxS, exists_and_right, gt_iff_lt, not_true_eq_false, not_false_eq_true, Bool.not_true, Bool.not_false, decide_eq_true_eq, Nat.reduceSub, Nat.reduceAdd, List.append_assoc, tChain, tDIn, tDNotIn, sDDel, tAug, ipI]
          refine ⟨_, .inr (sq_t hp), ?_⟩
          have e22 : (((([V.int (c z j).1, .int (c z j).2] : List V).length : Nat) : Int) = 2) = True := eq_true rfl
          try simp (maxSteps := 1000000) only [tSeq, tIfS, tTest, tOp, tUn, tCB, tCons, tNil, tVar, tC, rI0, rI, rU, rEq, rNe, tRet, tRetN, tAsg, gName, gSub, tBM, tBM0, tNext, tB, tNot, tAnd, tOr, tIf, tCall, tDrop, tBreak, tCont, L2.start, tDGet, sDPut, tTup, tLst, tDNewK, tRevL, rCat, rAppend, rPop, rSetL, tAndV, tOrV, tNotV, tSl, tPart, tNoPart, tM1, gTup, gCons, gNil, cxK, cxnK, List.map_cons, List.map_nil, List.length_cons, List.length_nil, List.replicate, List.cons_append, List.nil_append, List.append_nil, List.set_cons_zero, List.set_cons_succ, List.getElem?_cons_zero, List.getElem?_cons_succ, Option.some.injEq, V.ref.injEq, V.int.injEq, V.str.injEq, V.bl.injEq, V.ty.injEq, exists_eq_left', exists_eq_left, exists_and_left, List.cons.injEq, and_true, true_and, sc_ii, sc_ss, sc_bb, sc_ni, sc_in, sc_is, sc_si, sc_nn, decide_true, decide_false, reduceCtorEq, Bool.false_eq_true, if_true, if_false, ite_true, ite_false, exists_const, eq_self, false_and, and_false, or_false, false_or, exists_false, Evl.rLenS, rSum, wipe, tYes, exists_eq, exists_eq', rIxL, rIxT, rIxS, exists_and_right, gt_iff_lt, not_true_eq_false, not_false_eq_true, Bool.not_true, Bool.not_false, decide_eq_true_eq, Nat.reduceSub, Nat.reduceAdd, List.append_assoc, tChain, tDIn, tDNotIn, sDDel, tAug, ipI, e22]
          refine ⟨_, sq_t hp, .int (c z j).1, rfl, _, sq_t hp2', .int (c z j).1, rfl, _, _, rfl, ?_⟩
          rw [decide_eq_true rfl]
          try simp (maxSteps := 1000000) only [tSeq, tIfS, tTest, tOp, tUn, tCB, tCons, tNil, tVar, tC, rI0, rI, rU, rEq, rNe, tRet, tRetN, tAsg, gName, gSub, tBM, tBM0, tNext, tB, tNot, tAnd, tOr, tIf, tCall, tDrop, tBreak, tCont, L2.start, tDGet, sDPut, tTup, tLst, tDNewK, tRevL, rCat, rAppend, rPop, rSetL, tAndV, tOrV, tNotV, tSl, tPart, tNoPart, tM1, gTup, gCons, gNil, cxK, cxnK, List.map_cons, List.map_nil, List.length_cons, List.length_nil, List.replicate, List.cons_append, List.nil_append, List.append_nil, List.set_cons_zero, List.set_cons_succ, List.getElem?_cons_zero, List.getElem?_cons_succ, Option.some.injEq, V.ref.injEq, V.int.injEq, V.str.injEq, V.bl.injEq, V.ty.injEq, exists_eq_left', exists_eq_left, exists_and_left, List.cons.injEq, and_true, true_and, sc_ii, sc_ss, sc_bb, sc_ni, sc_in, sc_is, sc_si, sc_nn, decide_true, decide_false, reduceCtorEq, Bool.false_eq_true, if_true, if_false, ite_true, ite_false, exists_const, eq_self, false_and, and_false, or_false, false_or, exists_false, Evl.rLenS, rSum, wipe, tYes, exists_eq, exists_eq', rIxL, rIxT, rIxS, exists_and_right, gt_iff_lt, not_true_eq_false, not_false_eq_true, Bool.not_true, Bool.not_false, decide_eq_true_eq, Nat.reduceSub, Nat.reduceAdd, List.append_assoc, tChain, tDIn, tDNotIn, sDDel, tAug, ipI]
          refine ⟨_, sq_t hp, .int (c z j).2, rfl, _, sq_t hp2', .int (c z j).2, rfl, _, _, rfl, ?_⟩
          rw [decide_eq_true rfl]
          try simp (maxSteps := 1000000) only [tSeq, tIfS, tTest, tOp, tUn, tCB, tCons, tNil, tVar, tC, rI0, rI, rU, rEq, rNe, tRet, tRetN, tAsg, gName, gSub, tBM, tBM0, tNext, tB, tNot, tAnd, tOr, tIf, tCall, tDrop, tBreak, tCont, L2.start, tDGet, sDPut, tTup, tLst, tDNewK, tRevL, rCat, rAppend, rPop, rSetL, tAndV, tOrV, tNotV, tSl, tPart, tNoPart, tM1, gTup, gCons, gNil, cxK, cxnK, List.map_cons, List.map_nil, List.length_cons, List.length_nil, List.replicate, List.cons_append, List.nil_append, List.append_nil, List.set_cons_zero, List.set_cons_succ, List.getElem?_cons_zero, List.getElem?_cons_succ, Option.some.injEq, V.ref.injEq, V.int.injEq, V.str.injEq, V.bl.injEq, V.ty.injEq, exists_eq_left', exists_eq_left, exists_and_left, List.cons.injEq, and_true, true_and, sc_ii, sc_ss, sc_bb, sc_ni, sc_in, sc_is, sc_si, sc_nn, decide_true, decide_false, reduceCtorEq, Bool.false_eq_true, if_true, if_false, ite_true, ite_false, exists_const, eq_self, false_and, and_false, or_false, false_or, exists_false, Evl.rLenS, rSum, wipe, tYes, exists_eq, exists_eq', rIxL, rIxT, rIxS, exists_and_right, gt_iff_lt, not_true_eq_false, not_false_eq_true, Bool.not_true, Bool.not_false, decide_eq_true_eq, Nat.reduceSub, Nat.reduceAdd, List.append_assoc, tChain, tDIn, tDNotIn, sDDel, tAug, ipI]
          exact k3.trans k4
        · have : (decide (0 ≤ (j : Int)) && decide ((j : Int) < (m : Nat))) = false := hb
          rw [decide_eq_true (by omega), decide_eq_true (by omega)] at this
          cases this
      · rintro σ H3 ⟨c7, c8, c9, rfl, k3⟩
        exact ⟨_, _, _, _, rfl, k3⟩
    · rintro σ H2 ⟨c6, c7, c8, c9, rfl, k2⟩
      try simp (maxSteps := 1000000) only [tSeq, tIfS, tTest, tOp, tUn, tCB, tCons, tNil, tVar, tC, rI0, rI, rU, rEq, rNe, tRet, tRetN, tAsg, gName, gSub, tBM, tBM0, tNext, tB, tNot, tAnd, tOr, tIf, tCall, tDrop, tBreak, tCont, L2.start, tDGet, sDPut, tTup, tLst, tDNewK, tRevL, rCat, rAppend, rPop, rSetL, tAndV, tOrV, tNotV, tSl, tPart, tNoPart, tM1, gTup, gCons, gNil, cxK, cxnK, List.map_cons, List.map_nil, List.length_cons, List.length_nil, List.replicate, List.cons_append, List.nil_append, List.append_nil, List.set_cons_zero, List.set_cons_succ, List.getElem?_cons_zero, List.getElem?_cons_succ, Option.some.injEq, V.ref.injEq, V.int.injEq, V.str.injEq, V.bl.injEq, V.ty.injEq, exists_eq_left', exists_eq_left, exists_and_left, List.cons.injEq, and_true, true_and, sc_ii, sc_ss, sc_bb, sc_ni, sc_in, sc_is, sc_si, sc_nn, decide_true, decide_false, reduceCtorEq, Bool.false_eq_true, if_true, if_false, ite_true, ite_false, exists_const, eq_self, false_and, and_false, or_false, false_or, exists_false, Evl.rLenS, rSum, wipe, tYes, exists_eq, exists_eq', rIxL, rIxT, rIxS, exists_and_right, gt_iff_lt, not_true_eq_false, not_false_eq_true, Bool.not_true, Bool.not_false, decide_eq_true_eq, Nat.reduceSub, Nat.reduceAdd, List.append_assoc, tChain, tDIn, tDNotIn, sDDel, tAug, ipI]
      exact q H2 k2
end
end My

set_option Elab.async false
set_option linter.all false
set_option maxRecDepth 100000
set_option maxHeartbeats 4000000
namespace My
open PySem L2 NdefX StX
abbrev s_law_breadth : Stmt := top 36
theorem sc_law_breadth : FnScope ["_law_rows_here", "_law_names_here", "_law_start", "_law_queue", "_law_k", "_law_name", "_law_after"] ["_law_rows_here", "_law_names_here", "_law_start"] (defScope s_law_breadth) := ⟨rfl, rfl, rfl, by decide +kernel, rfl, by decide +kernel, by decide +kernel⟩
theorem CellB.toNx {zs : List Str} {m : Nat} {most : Int} {c : Str → Nat → Int × Int} (h : CellB zs m most c) : Nx zs m c := fun z hz s hs => by
  obtain ⟨_, a, b⟩ := h z hz s hs
  unfold nx
  omega
theorem inV_nat {z : Nat} : ∀ {ks : List Nat}, inV (.int (z : Nat)) (ks.map fun x => V.int (x : Nat)) = decide (z ∈ ks)
  | [] => rfl
  | k :: ks => by
    have e : inV (.int (z : Nat)) ((k :: ks).map fun x => V.int (x : Nat)) = (((k : Int) == (z : Int)) || inV (.int (z : Nat)) (ks.map fun x => V.int (x : Nat))) := rfl
    rw [e, inV_nat (ks := ks)]
    by_cases h : k = z
    · rw [h, beq_self_eq_true, Bool.true_or, decide_eq_true List.mem_cons_self]
    · rw [beq_eq_false_iff_ne.mpr (fun q => h (by omega)), Bool.false_or]
      refine decide_eq_decide.mpr ⟨fun q => List.mem_cons_of_mem _ q, fun q => ?_⟩
      rcases List.mem_cons.mp q with q | q
      · exact absurd q.symm h
      · exact q
theorem flat_nats {ks : List Nat} : (ks.map fun x => V.int (x : Nat)).all flatV = true := by
  rw [List.all_map, List.all_eq_true]
  intro _ _; rfl
theorem visitC_snoc {c : Str → Nat → Int × Int} {s j : Nat} {zs : List Str} {f : List Nat} {z : Str} (e : zs[j]? = some z) : visitC c s (zs.take (j + 1)) f = noteC c s (visitC c s (zs.take j) f) z := by
  unfold visitC
  rw [take_snoc e, List.foldl_append]
  rfl
theorem visitC_get {c : Str → Nat → Int × Int} {s : Nat} {zs : List Str} {f : List Nat} {i x : Nat} (h : f[i]? = some x) : (visitC c s zs f)[i]? = some x := by
  obtain ⟨r, hr⟩ := visitC_pre (c := c) (s := s) (zs := zs) (f := f)
  rw [← hr, List.getElem?_append_left (List.getElem?_eq_some_iff.mp h).1]
  exact h
section
variable {P : Program} {w : World} {K : PySem.W.Frag} {mg : Str → Option Value} {base : Heap} {tL t1 t2 : Tok}
structure BtH (mg : Str → Option Value) : Prop where
  b_len : mg "len" = none
def spBreadth : Sp := fun vs H Q _ => ∃ (rd nl : Addr) (m f0 : Nat) (zs : List Str) (c : Str → Nat → Int × Int), vs = [.ref rd, .ref nl, .int (f0 : Nat)] ∧ RwAt H rd zs m c ∧ H nl = some (.lst (zs.map V.str)) ∧ zs.Nodup ∧ Nx zs m c ∧ (∀ z ∈ zs, ∀ s, s < m → 0 ≤ (c z s).2) ∧ f0 < m ∧ m ≤ 100 ∧ ∀ l H', H l = none → H' l = some (.lst ((fndC zs c f0 m).map fun x => V.int (x : Nat))) → Kp [] H H' → Q (.ref l) H'
def WBr (zs : List Str) (c : Str → Nat → Int × Int) (f0 m : Nat) (rd nl p : Addr) (H : Hp) (n : Nat) (σ : L2.St) (H' : Hp) : Prop := ∃ (i : Nat) (c5 c6 : Option V), σ = [some (.ref rd), some (.ref nl), some (.int (f0 : Nat)), some (.ref p), some (.int (i : Nat)), c5, c6] ∧ H' p = some (.lst ((fndC zs c f0 i).map fun x => V.int (x : Nat))) ∧ Kp [] H H' ∧ i ≤ (fndC zs c f0 i).length ∧ n = m + 1 - i
theorem ok_law_breadth {f : Addr} {fd : FuncData} (D : Df K mg "_law_breadth" s_law_breadth ["_law_rows_here", "_law_names_here", "_law_start"] f fd) (T : BtH mg) : FnOk P w K mg base CX0 1 f fd ["_law_rows_here", "_law_names_here", "_law_start"] spBreadth := by
  refine D.F.ok sc_law_breadth (fun vs H Q E h => ?_) (fun cdv A outer s H vs Q E hr h => ?_)
  · obtain ⟨rd, nl, m, f0, zs, c, rfl, _⟩ := h
    rfl
  · obtain ⟨rd, nl, m, f0, zs, c, rfl, hrw, hn, nd, hN, h0, fm, m100, q⟩ := h
    have hu := hu_of hr
    refine ⟨_, (pss_cons (ps_set (i := 3) sc_law_breadth.nd rfl (Or.inl rfl) (pe_lst (pa_cons (pv 2) pa_nil)))
      (pss_cons (ps_set (i := 4) sc_law_breadth.nd rfl (Or.inl rfl) pe_int)
      (pss_cons (ps_while PassesOwn.never (pt_cmpR op_lt (pv 4) (pe_callB (id := "len") (r := Evl.rLenS K) call_len_seq (by rfl) T.b_len PySem.boot_len (pa_cons (pv 3) pa_nil)) (nomark _)) (pss_cons (ps_for PassesOwn.never rfl (pi_list (pv 1)) (pg_name (i := 5) sc_law_breadth.nd rfl (Or.inl rfl)) (pss_cons (ps_set (i := 6) sc_law_breadth.nd rfl (Or.inl rfl) (pe_ix (r := rIxT K) ix_tup (pe_ix (r := rIxL K) ix_list (pe_dget hu (pv 0) (pv 5) (fun _ _ => rfl)) (pe_ix (r := rIxL K) ix_list (pv 3) (pv 4) (fun _ _ => rfl)) (fun _ _ => rfl)) pe_int (fun _ _ => rfl)))
      (pss_one (ps_if (pt_cmpR op_notIn_seq (pv 6) (pv 3) (by rfl)) (pss_one (ps_expr (pe_bm PySem.F.plainAttrs_list PySem.F.slot_list_append PySem.F.type_list_append mt_append (pv 3) (pa_cons (pv 6) pa_nil)))) pss_nil))))
      (pss_one (ps_aug (i := 4) sc_law_breadth.nd rfl (Or.inl rfl) pe_int ip_add))))
      (pss_one (ps_ret (pv 3)))))), ?_⟩
    try simp (maxSteps := 1000000) only [tSeq, tIfS, tTest, tOp, tUn, tCB, tCons, tNil, tVar, tC, rI0, rI, rU, rEq, rNe, tRet, tRetN, tAsg, gName, gSub, tBM, tBM0, tNext, tB, tNot, tAnd, tOr, tIf, tCall, tDrop, tBreak, tCont, L2.start, tDGet, sDPut, tTup, tLst, tDNewK, tRevL, rCat, rAppend, rPop, rSetL, tAndV, tOrV, tNotV, tSl, tPart, tNoPart, tM1, gTup, gCons, gNil, cxK, cxnK, List.map_cons, List.map_nil, List.length_cons, List.length_nil, List.replicate, List.cons_append, List.nil_append, List.append_nil, List.set_cons_zero, List.set_cons_succ, List.getElem?_cons_zero, List.getElem?_cons_succ, Option.some.injEq, V.ref.injEq, V.int.injEq, V.str.injEq, V.bl.injEq, V.ty.injEq, exists_eq_left', exists_eq_left, exists_and_left, List.cons.injEq, and_true, true_and, sc_ii, sc_ss, sc_bb, sc_ni, sc_in, sc_is, sc_si, sc_nn, decide_true, decide_false, reduceCtorEq, Bool.false_eq_true, if_true, if_false, ite_true, ite_false, exists_const, eq_self, false_and, and_false, or_false, false_or, exists_false, Evl.rLenS, rSum, wipe, tYes, exists_eq, exists_eq', rIxL, rIxT, rIxS, exists_and_right, gt_iff_lt, not_true_eq_false, not_false_eq_true, Bool.not_true, Bool.not_false, decide_eq_true_eq, Nat.reduceSub, Nat.reduceAdd, List.append_assoc, tChain, tDIn, tDNotIn, sDDel, tAug, ipI]
    refine ⟨by decide, fun p np => ?_⟩
    have k1 : Kp [] H (upd H p (.lst [.int (f0 : Nat)])) := Kp.new np
    refine ⟨WBr zs c f0 m rd nl p H, ⟨_, 0, none, none, rfl, upd_same, k1, Nat.zero_le _, rfl⟩, ?_⟩
    rintro n σ H2 ⟨i, c5, c6, rfl, hp, k2, il, rfl⟩
    have fo := fndC_ok hN fm i
    have flen := fo.len
    try simp (maxSteps := 1000000) only [tSeq, tIfS, tTest, tOp, tUn, tCB, tCons, tNil, tVar, tC, rI0, rI, rU, rEq, rNe, tRet, tRetN, tAsg, gName, gSub, tBM, tBM0, tNext, tB, tNot, tAnd, tOr, tIf, tCall, tDrop, tBreak, tCont, L2.start, tDGet, sDPut, tTup, tLst, tDNewK, tRevL, rCat, rAppend, rPop, rSetL, tAndV, tOrV, tNotV, tSl, tPart, tNoPart, tM1, gTup, gCons, gNil, cxK, cxnK, List.map_cons, List.map_nil, List.length_cons, List.length_nil, List.replicate, List.cons_append, List.nil_append, List.append_nil, List.set_cons_zero, List.set_cons_succ, List.getElem?_cons_zero, List.getElem?_cons_succ, Option.some.injEq, V.ref.injEq, V.int.injEq, V.str.injEq, V.bl.injEq, V.ty.injEq, exists_eq_left', exists_eq_left, exists_and_left, List.cons.injEq, and_true, true_and, sc_ii, sc_ss, sc_bb, sc_ni, sc_in, sc_is, sc_si, sc_nn, decide_true, decide_false, reduceCtorEq, Bool.false_eq_true, if_true, if_false, ite_true, ite_false, exists_const, eq_self, false_and, and_false, or_false, false_or, exists_false, Evl.rLenS, rSum, wipe, tYes, exists_eq, exists_eq', rIxL, rIxT, rIxS, exists_and_right, gt_iff_lt, not_true_eq_false, not_false_eq_true, Bool.not_true, Bool.not_false, decide_eq_true_eq, Nat.reduceSub, Nat.reduceAdd, List.append_assoc, tChain, tDIn, tDNotIn, sDDel, tAug, ipI]
    refine ⟨_, .inl (sq_l hp), ?_⟩
    rw [List.length_map]
    by_cases e : i < (fndC zs c f0 i).length
    · rw [if_pos (show (i : Int) < ((fndC zs c f0 i).length : Nat) by omega)]
      refine ⟨fun σ' H' => ∃ m', m' < m + 1 - i ∧ WBr zs c f0 m rd nl p H m' σ' H', fun _ _ h => h, ?_⟩
      have es : (fndC zs c f0 i)[i]? = some (fndC zs c f0 i)[i] := List.getElem?_eq_getElem e
      generalize (fndC zs c f0 i)[i] = s' at es
      have sm : s' < m := fo.2 s' (List.mem_of_getElem? es)
      have hn2 := k2 _ _ not0 hn
      have npn : nl ≠ p := fun z => by rw [z, np] at hn; cases hn
      refine ⟨.ref nl, rfl, nl, rfl, ⟨_, sq_l hn2⟩, for_list (K := K) (a := nl) (xs := zs.map V.str) (fun j σ H' => (∃ c5 c6 : Option V, σ = [some (.ref rd), some (.ref nl), some (.int (f0 : Nat)), some (.ref p), some (.int (i : Nat)), c5, c6]) ∧ H' p = some (.lst ((visitC c s' (zs.take j) (fndC zs c f0 i)).map fun x => V.int (x : Nat))) ∧ Kp [] H H') ⟨⟨_, _, rfl⟩, hp, k2⟩ (fun j σ H' _ h => sq_l (h.2.2 _ _ not0 hn)) ?_ ?_⟩
      · rintro j x σ H4 hx ⟨⟨c5, c6, rfl⟩, hp4, k4⟩
        obtain ⟨z, ez, rfl⟩ : ∃ z, zs[j]? = some z ∧ V.str z = x := by
          rw [List.getElem?_map] at hx
          cases e : zs[j]? with
          | none => rw [e] at hx; cases hx
          | some z => rw [e] at hx; exact ⟨z, rfl, Option.some.inj hx⟩
        have hz : z ∈ zs := List.mem_of_getElem? ez
        have fv : FOk m (visitC c s' (zs.take j) (fndC zs c f0 i)) := visitC_ok (fun y hy => hN y (List.mem_of_mem_take hy) s' sm) fo
        obtain ⟨kv, l, xs, hd, ev, hl, hc⟩ := (hrw.kp k4).get nd hz
        obtain ⟨pr, epr, hpr⟩ := hc.2 s' sm
        try simp (maxSteps := 1000000) only [tSeq, tIfS, tTest, tOp, tUn, tCB, tCons, tNil, tVar, tC, rI0, rI, rU, rEq, rNe, tRet, tRetN, tAsg, gName, gSub, tBM, tBM0, tNext, tB, tNot, tAnd, tOr, tIf, tCall, tDrop, tBreak, tCont, L2.start, tDGet, sDPut, tTup, tLst, tDNewK, tRevL, rCat, rAppend, rPop, rSetL, tAndV, tOrV, tNotV, tSl, tPart, tNoPart, tM1, gTup, gCons, gNil, cxK, cxnK, List.map_cons, List.map_nil, List.length_cons, List.length_nil, List.replicate, List.cons_append, List.nil_append, List.append_nil, List.set_cons_zero, List.set_cons_succ, List.getElem?_cons_zero, List.getElem?_cons_succ, Option.some.injEq, V.ref.injEq, V.int.injEq, V.str.injEq, V.bl.injEq, V.ty.injEq, exists_eq_left', exists_eq_left, exists_and_left, List.cons.injEq, and_true, true_and, sc_ii, sc_ss, sc_bb, sc_ni, sc_in, sc_is, sc_si, sc_nn, decide_true, decide_false, reduceCtorEq, Bool.false_eq_true, if_true, if_false, ite_true, ite_false, exists_const, eq_self, false_and, and_false, or_false, false_or, exists_false, Evl.rLenS, rSum, wipe, tYes, exists_eq, exists_eq', rIxL, rIxT, rIxS, exists_and_right, gt_iff_lt, not_true_eq_false, not_false_eq_true, Bool.not_true, Bool.not_false, decide_eq_true_eq, Nat.reduceSub, Nat.reduceAdd, List.append_assoc, tChain, tDIn, tDNotIn, sDDel, tAug, ipI]
        have hg := hN z hz s' sm
        have hg0 := h0 z hz s' sm
        have ev' := visitC_snoc (c := c) (s := s') (f := fndC zs c f0 i) ez
        have eg : (c z s').2 = ((nx c z s' : Nat) : Int) := by unfold nx; omega
        refine ⟨.ref l, ev ▸ DGet.k (k := Sum.inr z) hd, _, sq_l hp4, .int (s' : Nat), atI_nat (by rw [List.getElem?_map, visitC_get es]; rfl), l, rfl, xs, _, rfl, sq_l hl, .ref pr, atI_nat epr, pr, rfl, _, sq_t hpr, .int (c z s').2, rfl, ?_⟩
        rw [eg]
        refine ⟨p, _, rfl, .inl (sq_l hp4), rfl, flat_nats, _, rfl, ?_⟩
        rw [inV_nat, ev']
        by_cases hm : nx c z s' ∈ visitC c s' (zs.take j) (fndC zs c f0 i)
        · rw [decide_eq_true hm, if_neg (by decide)]
          unfold noteC
          rw [if_pos hm]
          exact ⟨hp4, k4⟩
        · rw [decide_eq_false hm, if_pos (by decide)]
          refine ⟨.inl ⟨rfl, _, sq_l hp4⟩, _, hp4, smallL (by rw [List.length_map]; have := fv.len; omega), ?_, k4.wr np⟩
          unfold noteC
          rw [upd_same, if_neg hm, List.map_append]
          rfl
      · rintro σ H4 ⟨⟨c5, c6, rfl⟩, hp4, k4⟩
        rw [List.length_map, List.take_length, ← fndC_succ es] at hp4
        try simp (maxSteps := 1000000) only [tSeq, tIfS, tTest, tOp, tUn, tCB, tCons, tNil, tVar, tC, rI0, rI, rU, rEq, rNe, tRet, tRetN, tAsg, gName, gSub, tBM, tBM0, tNext, tB, tNot, tAnd, tOr, tIf, tCall, tDrop, tBreak, tCont, L2.start, tDGet, sDPut, tTup, tLst, tDNewK, tRevL, rCat, rAppend, rPop, rSetL, tAndV, tOrV, tNotV, tSl, tPart, tNoPart, tM1, gTup, gCons, gNil, cxK, cxnK, List.map_cons, List.map_nil, List.length_cons, List.length_nil, List.replicate, List.cons_append, List.nil_append, List.append_nil, List.set_cons_zero, List.set_cons_succ, List.getElem?_cons_zero, List.getElem?_cons_succ, Option.some.injEq, V.ref.injEq, V.int.injEq, V.str.injEq, V.bl.injEq, V.ty.injEq, exists_eq_left', exists_eq_left, exists_and_left, List.cons.injEq, and_true, true_and, sc_ii, sc_ss, sc_bb, sc_ni, sc_in, sc_is, sc_si, sc_nn, decide_true, decide_false, reduceCtorEq, Bool.false_eq_true, if_true, if_false, ite_true, ite_false, exists_const, eq_self, false_and, and_false, or_false, false_or, exists_false, Evl.rLenS, rSum, wipe, tYes, exists_eq, exists_eq', rIxL, rIxT, rIxS, exists_and_right, gt_iff_lt, not_true_eq_false, not_false_eq_true, Bool.not_true, Bool.not_false, decide_eq_true_eq, Nat.reduceSub, Nat.reduceAdd, List.append_assoc, tChain, tDIn, tDNotIn, sDDel, tAug, ipI]
        refine ⟨m + 1 - (i + 1), by omega, i + 1, c5, c6, rfl, hp4, k4, ?_, rfl⟩
        rw [fndC_succ es]
        exact Nat.le_trans e visitC_pre.length_le
    · rw [if_neg (show ¬ (i : Int) < ((fndC zs c f0 i).length : Nat) by omega)]
      refine q p H2 np ?_ k2
      rw [← fndC_all hN fm (show i = (fndC zs c f0 i).length by omega)]
      exact hp
end
end My

set_option Elab.async false
set_option linter.all false
set_option maxRecDepth 100000
set_option maxHeartbeats 4000000
namespace My
open PySem L2 NdefX StX
abbrev s_law_pairs : Stmt := top 34
theorem sc_law_pairs : FnScope ["_law_rows_here", "_law_last", "_law_names_here", "_law_start", "_law_queue", "_law_seen", "_law_k", "_law_name", "_law_pair"] ["_law_rows_here", "_law_last", "_law_names_here", "_law_start"] (defScope s_law_pairs) := ⟨rfl, rfl, rfl, by decide +kernel, rfl, by decide +kernel, by decide +kernel⟩
def keyP (d : Nat → Nat) (s : Nat) : NestedKey := .tup [.num (s : Nat), .num (d s : Nat)]
/-- the pairs (s, d s) of a list of states -/
def PrsAt (H : Hp) (d : Nat → Nat) (ps : List V) (f : List Nat) : Prop := ps.length = f.length ∧ ∀ (i s : Nat), f[i]? = some s → ∃ p : Addr, ps[i]? = some (V.ref p) ∧ H p = some (.tup [.int (s : Nat), .int (d s : Nat)])
theorem PrsAt.tp {H H' : Hp} {d : Nat → Nat} {ps : List V} {f : List Nat} (h : PrsAt H d ps f) (k : ∀ b ys, H b = some (.tup ys) → H' b = some (.tup ys)) : PrsAt H' d ps f := ⟨h.1, fun i s e => by
  obtain ⟨p, a, b⟩ := h.2 i s e
  exact ⟨p, a, k _ _ b⟩⟩
theorem PrsAt.snoc {H : Hp} {d : Nat → Nat} {ps : List V} {f : List Nat} {p : Addr} {s : Nat} (h : PrsAt H d ps f) (hp : H p = some (.tup [.int (s : Nat), .int (d s : Nat)])) : PrsAt H d (ps ++ [.ref p]) (f ++ [s]) := by
  refine ⟨by rw [List.length_append, List.length_append, h.1]; rfl, fun i t e => ?_⟩
  rcases Nat.lt_trichotomy i f.length with w | w | w
  · rw [List.getElem?_append_left w] at e
    obtain ⟨p', a, b⟩ := h.2 i t e
    exact ⟨p', by rw [List.getElem?_append_left (by rw [h.1]; exact w)]; exact a, b⟩
  · subst w
    rw [List.getElem?_append_right (Nat.le_refl _), Nat.sub_self] at e
    cases e
    exact ⟨p, by rw [← h.1, List.getElem?_append_right (Nat.le_refl _), Nat.sub_self]; rfl, hp⟩
  · rw [List.getElem?_append_right (by omega), List.getElem?_eq_none (by simp; omega)] at e
    cases e
theorem keyP_inj {d : Nat → Nat} {s t : Nat} (h : keyP d s = keyP d t) : s = t := by
  unfold keyP at h
  injection h with h
  injection h with h _
  injection h with h
  omega
theorem valN_not {kvs : List (NestedKey × V)} {k : NestedKey} (h : k ∉ kvs.map (·.1)) : valN kvs k = none := by
  unfold valN
  rw [Option.map_eq_none_iff, List.find?_eq_none]
  intro p hp
  simp
  intro z
  exact h (by rw [← z]; exact List.mem_map_of_mem hp)
theorem valN_in {kvs : List (NestedKey × V)} {k : NestedKey} (h : k ∈ kvs.map (·.1)) : (valN kvs k).isSome = true := by
  unfold valN
  obtain ⟨p, hp, e⟩ := List.mem_map.mp h
  rw [Option.isSome_map, List.find?_isSome]
  exact ⟨p, hp, by simpa using e⟩
section
variable {P : Program} {w : World} {K : PySem.W.Frag} {mg : Str → Option Value} {base : Heap} {tL t1 t2 : Tok}
/-- d leads along, from the found states -/
def Along (zs : List Str) (c c' : Str → Nat → Int × Int) (n : Nat) (d : Nat → Nat) (f : List Nat) : Prop := ∀ s ∈ f, d s < n ∧ ∀ z ∈ zs, (c' z (d s)).2 = ((d (nx c z s) : Nat) : Int)
def spPairs : Sp := fun vs H Q _ => ∃ (rd ld nl st : Addr) (m n f0 : Nat) (zs : List Str) (c c' : Str → Nat → Int × Int) (d : Nat → Nat), vs = [.ref rd, .ref ld, .ref nl, .ref st] ∧ RwAt H rd zs m c ∧ RwAt H ld zs n c' ∧ H nl = some (.lst (zs.map V.str)) ∧ zs.Nodup ∧ H st = some (.tup [.int (f0 : Nat), .int (d f0 : Nat)]) ∧ Nx zs m c ∧ (∀ z ∈ zs, ∀ s, s < m → 0 ≤ (c z s).2) ∧ f0 < m ∧ m ≤ 100 ∧ Along zs c c' n d (fndC zs c f0 m) ∧
  ∀ l ps H', H l = none → H' l = some (.lst ps) → PrsAt H' d ps (fndC zs c f0 m) → Kp [] H H' → Q (.ref l) H'
/-- what stands while it goes on -/
def PwAt (P : Program) (w : World) (d : Nat → Nat) (H : Hp) (p sd : Addr) (f : List Nat) (H' : Hp) : Prop := (∃ ps, H' p = some (.lst ps) ∧ PrsAt H' d ps f) ∧ (∃ kvs, DnAt P w H' sd kvs ∧ kvs.map (·.1) = f.map (keyP d)) ∧ Kp [] H H'
theorem PwAt.kp {d : Nat → Nat} {H H1 H2 : Hp} {p sd : Addr} {f : List Nat} (h : PwAt P w d H p sd f H1) (k : Kp [] H1 H2) : PwAt P w d H p sd f H2 := by
  obtain ⟨⟨ps, a, b⟩, ⟨kvs, c, e⟩, r⟩ := h
  exact ⟨⟨ps, k _ _ not0 a, b.tp fun b ys e => k _ _ not0 e⟩, ⟨kvs, dn_kp c k, e⟩, r.trans k⟩
def WPr (P : Program) (w : World) (zs : List Str) (c : Str → Nat → Int × Int) (d : Nat → Nat) (f0 m : Nat) (rd ld nl st p sd : Addr) (H : Hp) (n : Nat) (σ : L2.St) (H' : Hp) : Prop := ∃ (i : Nat) (c7 c8 : Option V), σ = [some (.ref rd), some (.ref ld), some (.ref nl), some (.ref st), some (.ref p), some (.ref sd), some (.int (i : Nat)), c7, c8] ∧ PwAt P w d H p sd (fndC zs c f0 i) H' ∧ i ≤ (fndC zs c f0 i).length ∧ n = m + 1 - i
theorem ok_law_pairs {f : Addr} {fd : FuncData} (D : Df K mg "_law_pairs" s_law_pairs ["_law_rows_here", "_law_last", "_law_names_here", "_law_start"] f fd) (T : BtH mg) : FnOk P w K mg base CX0 1 f fd ["_law_rows_here", "_law_last", "_law_names_here", "_law_start"] spPairs := by
  refine D.F.ok sc_law_pairs (fun vs H Q E h => ?_) (fun cdv A outer s H vs Q E hr h => ?_)
  · obtain ⟨rd, ld, nl, st, m, n, f0, zs, c, c', d, rfl, _⟩ := h
    rfl
  · obtain ⟨rd, ld, nl, st, m, n, f0, zs, c, c', d, rfl, hrw, hlw, hn, nd, hst, hN, h0, fm, m100, hal, q⟩ := h
    have hu := hu_of hr
    refine ⟨_, (pss_cons (ps_set (i := 4) sc_law_pairs.nd rfl (Or.inl rfl) (pe_lst (pa_cons (pv 3) pa_nil)))
      (pss_cons (ps_set (i := 5) sc_law_pairs.nd rfl (Or.inl rfl) (pe_dispN hr.units (pv 3) pe_bl))
      (pss_cons (ps_set (i := 6) sc_law_pairs.nd rfl (Or.inl rfl) pe_int)
      (pss_cons (ps_while PassesOwn.never (pt_cmpR op_lt (pv 6) (pe_callB (id := "len") (r := Evl.rLenS K) call_len_seq (by rfl) T.b_len PySem.boot_len (pa_cons (pv 4) pa_nil)) (nomark _)) (pss_cons (ps_for PassesOwn.never rfl (pi_list (pv 2)) (pg_name (i := 7) sc_law_pairs.nd rfl (Or.inl rfl)) (pss_cons (ps_set (i := 8) sc_law_pairs.nd rfl (Or.inl rfl) (pe_tup (pa_cons (pe_ix (r := rIxT K) ix_tup (pe_ix (r := rIxL K) ix_list (pe_dget hu (pv 0) (pv 7) (fun _ _ => rfl)) (pe_ix (r := rIxT K) ix_tup (pe_ix (r := rIxL K) ix_list (pv 4) (pv 6) (fun _ _ => rfl)) pe_int (fun _ _ => rfl)) (fun _ _ => rfl)) pe_int (fun _ _ => rfl)) (pa_cons (pe_ix (r := rIxT K) ix_tup (pe_ix (r := rIxL K) ix_list (pe_dget hu (pv 1) (pv 7) (fun _ _ => rfl)) (pe_ix (r := rIxT K) ix_tup (pe_ix (r := rIxL K) ix_list (pv 4) (pv 6) (fun _ _ => rfl)) pe_int (fun _ _ => rfl)) (fun _ _ => rfl)) pe_int (fun _ _ => rfl)) pa_nil))))
      (pss_one (ps_if (pt_cmp (pc_nnotin hr.units (pv 8) (pv 5))) (pss_cons (ps_nput hr.units (pv 5) (pv 8) pe_bl rfl)
      (pss_one (ps_expr (pe_bm PySem.F.plainAttrs_list PySem.F.slot_list_append PySem.F.type_list_append mt_append (pv 4) (pa_cons (pv 8) pa_nil))))) pss_nil))))
      (pss_one (ps_aug (i := 6) sc_law_pairs.nd rfl (Or.inl rfl) pe_int ip_add))))
      (pss_one (ps_ret (pv 4))))))), ?_⟩
    try simp (maxSteps := 1000000) only [tSeq, tIfS, tTest, tOp, tUn, tCB, tCons, tNil, tVar, tC, rI0, rI, rU, rEq, rNe, tRet, tRetN, tAsg, gName, gSub, tBM, tBM0, tNext, tB, tNot, tAnd, tOr, tIf, tCall, tDrop, tBreak, tCont, L2.start, tDGet, sDPut, tTup, tLst, tDNewK, tRevL, rCat, rAppend, rPop, rSetL, tAndV, tOrV, tNotV, tSl, tPart, tNoPart, tM1, gTup, gCons, gNil, cxK, cxnK, List.map_cons, List.map_nil, List.length_cons, List.length_nil, List.replicate, List.cons_append, List.nil_append, List.append_nil, List.set_cons_zero, List.set_cons_succ, List.getElem?_cons_zero, List.getElem?_cons_succ, Option.some.injEq, V.ref.injEq, V.int.injEq, V.str.injEq, V.bl.injEq, V.ty.injEq, exists_eq_left', exists_eq_left, exists_and_left, List.cons.injEq, and_true, true_and, sc_ii, sc_ss, sc_bb, sc_ni, sc_in, sc_is, sc_si, sc_nn, decide_true, decide_false, reduceCtorEq, Bool.false_eq_true, if_true, if_false, ite_true, ite_false, exists_const, eq_self, false_and, and_false, or_false, false_or, exists_false, Evl.rLenS, rSum, wipe, tYes, exists_eq, exists_eq', rIxL, rIxT, rIxS, exists_and_right, gt_iff_lt, not_true_eq_false, not_false_eq_true, Bool.not_true, Bool.not_false, decide_eq_true_eq, Nat.reduceSub, Nat.reduceAdd, List.append_assoc, tChain, tDIn, tDNotIn, sDDel, tAug, ipI, tDispN]
    refine ⟨by decide, fun p np => ?_⟩
    have k1 : Kp [] H (upd H p (.lst [.ref st])) := Kp.new np
    intro sd nsd
    have k2 : Kp [] (upd H p (.lst [.ref st])) (upd (upd H p (.lst [.ref st])) sd (.dK [])) := Kp.new nsd
    have psd : p ≠ sd := fun z => by rw [z, upd_same] at nsd; cases nsd
    have nsd0 : H sd = none := noneB k1 nsd
    have hst2 := (k1.trans k2) _ _ not0 hst
    refine ⟨upd_same, keyP d f0, ⟨st, rfl, .tup hst2 (.cons (.int _) (.cons (.int _) .nil)), by unfold keyP; simp only [NestedKey.depthAll, NestedKey.depth]; omega⟩, fun ob hob => ?_⟩
    have k3 : Kp [] H (upd (upd (upd H p (.lst [.ref st])) sd (.dK [])) sd ob) := (k1.trans k2).wr nsd0
    have hb0 : PwAt P w d H p sd (fndC zs c f0 0) (upd (upd (upd H p (.lst [.ref st])) sd (.dK [])) sd ob) := by
      refine ⟨⟨[.ref st], by rw [upd_ne psd, upd_ne psd, upd_same], rfl, fun i s e => ?_⟩, ⟨_, hob, rfl⟩, k3⟩
      cases i with
      | zero => cases e; exact ⟨st, rfl, k3 _ _ not0 hst⟩
      | succ i => cases e
    generalize upd (upd (upd H p (.lst [.ref st])) sd (.dK [])) sd ob = H1 at hb0
    refine ⟨WPr P w zs c d f0 m rd ld nl st p sd H, ⟨_, 0, none, none, rfl, hb0, Nat.zero_le _, rfl⟩, ?_⟩
    rintro n' σ H2 ⟨i, c7, c8, rfl, hB, il, rfl⟩
    obtain ⟨⟨ps, hp, hps⟩, _, k2⟩ := id hB
    have fo := fndC_ok hN fm i
    have flen := fo.len
    have fpre : ∀ s, s ∈ fndC zs c f0 i → s ∈ fndC zs c f0 m := fun s hs => by
      by_cases hj : i ≤ m
      · have := fndC_pre (zs := zs) (c := c) (first := f0) i (m - i)
        rw [show i + (m - i) = m by omega] at this
        exact this.subset hs
      · have := fndC_stable (zs := zs) (c := c) (f0 := f0) (fndC_ok hN fm m).len (i - m)
        rw [show m + (i - m) = i by omega] at this
        rw [this] at hs
        exact hs
    try simp (maxSteps := 1000000) only [tSeq, tIfS, tTest, tOp, tUn, tCB, tCons, tNil, tVar, tC, rI0, rI, rU, rEq, rNe, tRet, tRetN, tAsg, gName, gSub, tBM, tBM0, tNext, tB, tNot, tAnd, tOr, tIf, tCall, tDrop, tBreak, tCont, L2.start, tDGet, sDPut, tTup, tLst, tDNewK, tRevL, rCat, rAppend, rPop, rSetL, tAndV, tOrV, tNotV, tSl, tPart, tNoPart, tM1, gTup, gCons, gNil, cxK, cxnK, List.map_cons, List.map_nil, List.length_cons, List.length_nil, List.replicate, List.cons_append, List.nil_append, List.append_nil, List.set_cons_zero, List.set_cons_succ, List.getElem?_cons_zero, List.getElem?_cons_succ, Option.some.injEq, V.ref.injEq, V.int.injEq, V.str.injEq, V.bl.injEq, V.ty.injEq, exists_eq_left', exists_eq_left, exists_and_left, List.cons.injEq, and_true, true_and, sc_ii, sc_ss, sc_bb, sc_ni, sc_in, sc_is, sc_si, sc_nn, decide_true, decide_false, reduceCtorEq, Bool.false_eq_true, if_true, if_false, ite_true, ite_false, exists_const, eq_self, false_and, and_false, or_false, false_or, exists_false, Evl.rLenS, rSum, wipe, tYes, exists_eq, exists_eq', rIxL, rIxT, rIxS, exists_and_right, gt_iff_lt, not_true_eq_false, not_false_eq_true, Bool.not_true, Bool.not_false, decide_eq_true_eq, Nat.reduceSub, Nat.reduceAdd, List.append_assoc, tChain, tDIn, tDNotIn, sDDel, tAug, ipI]
    refine ⟨_, .inl (sq_l hp), ?_⟩
    rw [hps.1]
    by_cases e : i < (fndC zs c f0 i).length
    · rw [if_pos (show (i : Int) < ((fndC zs c f0 i).length : Nat) by omega)]
      refine ⟨fun σ' H' => ∃ m', m' < m + 1 - i ∧ WPr P w zs c d f0 m rd ld nl st p sd H m' σ' H', fun _ _ h => h, ?_⟩
      have es : (fndC zs c f0 i)[i]? = some (fndC zs c f0 i)[i] := List.getElem?_eq_getElem e
      generalize (fndC zs c f0 i)[i] = s' at es
      have sin := List.mem_of_getElem? es
      have sm : s' < m := fo.2 s' sin
      obtain ⟨dn, dz⟩ := hal s' (fpre s' sin)
      have hn2 := k2 _ _ not0 hn
      refine ⟨.ref nl, rfl, nl, rfl, ⟨_, sq_l hn2⟩, for_list (K := K) (a := nl) (xs := zs.map V.str) (fun j σ H' => (∃ c7 c8 : Option V, σ = [some (.ref rd), some (.ref ld), some (.ref nl), some (.ref st), some (.ref p), some (.ref sd), some (.int (i : Nat)), c7, c8]) ∧ PwAt P w d H p sd (visitC c s' (zs.take j) (fndC zs c f0 i)) H') ⟨⟨_, _, rfl⟩, hB⟩ (fun j σ H' _ h => sq_l (h.2.2.2 _ _ not0 hn)) ?_ ?_⟩
      · rintro j x σ H4 hx ⟨⟨c7, c8, rfl⟩, hB4⟩
        obtain ⟨z, ez, rfl⟩ : ∃ z, zs[j]? = some z ∧ V.str z = x := by
          rw [List.getElem?_map] at hx
          cases e : zs[j]? with
          | none => rw [e] at hx; cases hx
          | some z => rw [e] at hx; exact ⟨z, rfl, Option.some.inj hx⟩
        have hz : z ∈ zs := List.mem_of_getElem? ez
        obtain ⟨⟨ps4, hp4, hps4⟩, ⟨kv4, hd4, hk4⟩, k4⟩ := id hB4
        have fv : FOk m (visitC c s' (zs.take j) (fndC zs c f0 i)) := visitC_ok (fun y hy => hN y (List.mem_of_mem_take hy) s' sm) fo
        obtain ⟨kv, l, xs, hd, ev, hl, hc⟩ := (hrw.kp k4).get nd hz
        obtain ⟨pr, epr, hpr⟩ := hc.2 s' sm
        obtain ⟨kv', l', xs', hd', ev', hl', hc'⟩ := (hlw.kp k4).get nd hz
        obtain ⟨pr', epr', hpr'⟩ := hc'.2 (d s') dn
        obtain ⟨qs, eqs, hqs⟩ := hps4.2 i s' (visitC_get es)
        try simp (maxSteps := 1000000) only [tSeq, tIfS, tTest, tOp, tUn, tCB, tCons, tNil, tVar, tC, rI0, rI, rU, rEq, rNe, tRet, tRetN, tAsg, gName, gSub, tBM, tBM0, tNext, tB, tNot, tAnd, tOr, tIf, tCall, tDrop, tBreak, tCont, L2.start, tDGet, sDPut, tTup, tLst, tDNewK, tRevL, rCat, rAppend, rPop, rSetL, tAndV, tOrV, tNotV, tSl, tPart, tNoPart, tM1, gTup, gCons, gNil, cxK, cxnK, List.map_cons, List.map_nil, List.length_cons, List.length_nil, List.replicate, List.cons_append, List.nil_append, List.append_nil, List.set_cons_zero, List.set_cons_succ, List.getElem?_cons_zero, List.getElem?_cons_succ, Option.some.injEq, V.ref.injEq, V.int.injEq, V.str.injEq, V.bl.injEq, V.ty.injEq, exists_eq_left', exists_eq_left, exists_and_left, List.cons.injEq, and_true, true_and, sc_ii, sc_ss, sc_bb, sc_ni, sc_in, sc_is, sc_si, sc_nn, decide_true, decide_false, reduceCtorEq, Bool.false_eq_true, if_true, if_false, ite_true, ite_false, exists_const, eq_self, false_and, and_false, or_false, false_or, exists_false, Evl.rLenS, rSum, wipe, tYes, exists_eq, exists_eq', rIxL, rIxT, rIxS, exists_and_right, gt_iff_lt, not_true_eq_false, not_false_eq_true, Bool.not_true, Bool.not_false, decide_eq_true_eq, Nat.reduceSub, Nat.reduceAdd, List.append_assoc, tChain, tDIn, tDNotIn, sDDel, tAug, ipI, tNNotIn, sNPut]
        have hg := hN z hz s' sm
        have hg0 := h0 z hz s' sm
        have evs := visitC_snoc (c := c) (s := s') (f := fndC zs c f0 i) ez
        have eg : (c z s').2 = ((nx c z s' : Nat) : Int) := by unfold nx; omega
        have two : (2 : Nat) ≤ sizeLine := by rw [sizeLine_eq]; decide
        refine ⟨.ref l, ev ▸ DGet.k (k := Sum.inr z) hd, _, sq_l hp4, .ref qs, atI_nat eqs, qs, rfl, _, sq_t hqs, .int (s' : Nat), rfl, l, rfl, xs, _, rfl, sq_l hl, .ref pr, atI_nat epr, pr, rfl, _, sq_t hpr, .int (c z s').2, rfl,
          .ref l', ev' ▸ DGet.k (k := Sum.inr z) hd', _, sq_l hp4, .ref qs, atI_nat eqs, qs, rfl, _, sq_t hqs, .int (d s' : Nat), rfl, l', rfl, xs', _, rfl, sq_l hl', .ref pr', atI_nat epr', pr', rfl, _, sq_t hpr', .int (c' z (d s')).2, rfl, two, fun tp ntp => ?_⟩
        rw [eg, dz z hz]
        have kt : Kp [] H4 (upd H4 tp (.tup [.int (nx c z s' : Nat), .int (d (nx c z s') : Nat)])) := Kp.new ntp
        have htp : (upd H4 tp (.tup [.int (nx c z s' : Nat), .int (d (nx c z s') : Nat)])) tp = some (.tup [.int (nx c z s' : Nat), .int (d (nx c z s') : Nat)]) := upd_same
        generalize upd H4 tp (.tup [.int (nx c z s' : Nat), .int (d (nx c z s') : Nat)]) = H5 at kt htp
        have hB5 := hB4.kp kt
        have nk : NKey H5 (.ref tp) (keyP d (nx c z s')) := ⟨tp, rfl, .tup htp (.cons (.int _) (.cons (.int _) .nil)), by unfold keyP; simp only [NestedKey.depthAll, NestedKey.depth]; omega⟩
        have hd5 := dn_kp hd4 kt
        have hp5 := kt _ _ not0 hp4
        refine ⟨kv4, hd5, keyP d (nx c z s'), nk, ?_⟩
        rw [evs]
        unfold noteC
        by_cases hm : nx c z s' ∈ visitC c s' (zs.take j) (fndC zs c f0 i)
        · rw [valN_in (by rw [hk4]; exact List.mem_map_of_mem hm), if_neg (by decide), if_pos hm]
          exact hB5
        · have vn : valN kv4 (keyP d (nx c z s')) = none := valN_not (by
            rw [hk4]
            intro zz
            obtain ⟨y, hy, e⟩ := List.mem_map.mp zz
            exact hm (by rw [← keyP_inj e]; exact hy))
          rw [vn, if_pos (by decide), if_neg hm]
          have kl : kv4.length ≤ m := by
            have := congrArg List.length hk4
            rw [List.length_map, List.length_map] at this
            have := fv.len
            omega
          refine ⟨kv4, hd5, keyP d (nx c z s'), nk, smallL (by omega), fun ob hob => ?_⟩
          have psd4 : p ≠ sd := psd
          have hp6 : (upd H5 sd ob) p = some (.lst ps4) := by rw [upd_ne psd]; exact hp5
          refine ⟨.inl ⟨rfl, _, sq_l hp6⟩, ps4, hp6, smallL (by rw [hps4.1]; have := fv.len; omega), ⟨_, upd_same, ?_⟩, ⟨_, dn_wr hob hp6 (Ne.symm psd), ?_⟩, ((k4.trans kt).wr nsd0).wr np⟩
          · have htp6 : (upd H5 sd ob) tp = some (.tup [.int (nx c z s' : Nat), .int (d (nx c z s') : Nat)]) := by
              rw [upd_ne (fun zz => by
                subst zz
                rcases hd5 with ⟨a, _⟩ | ⟨_, a, _⟩ <;> (rw [htp] at a; cases a))]
              exact htp
            have hps6 : PrsAt (upd H5 sd ob) d ps4 (visitC c s' (zs.take j) (fndC zs c f0 i)) := by
              refine ⟨hps4.1, fun i s e => ?_⟩
              obtain ⟨pp, a, b⟩ := hps4.2 i s e
              have b5 := kt _ _ not0 b
              exact ⟨pp, a, by rw [upd_ne (fun zz => by
                subst zz
                rcases hd5 with ⟨a, _⟩ | ⟨_, a, _⟩ <;> (rw [b5] at a; cases a))]; exact b5⟩
            exact (hps6.snoc htp6).tp fun b ys e => by
              rw [upd_ne (fun zz => by rw [zz, hp6] at e; cases e)]
              exact e
          · unfold putN
            rw [vn, if_neg (by decide), List.map_append, List.map_append, hk4]
            rfl
      · rintro σ H4 ⟨⟨c7, c8, rfl⟩, hB4⟩
        rw [List.length_map, List.take_length, ← fndC_succ es] at hB4
        try simp (maxSteps := 1000000) only [tSeq, tIfS, tTest, tOp, tUn, tCB, tCons, tNil, tVar, tC, rI0, rI, rU, rEq, rNe, tRet, tRetN, tAsg, gName, gSub, tBM, tBM0, tNext, tB, tNot, tAnd, tOr, tIf, tCall, tDrop, tBreak, tCont, L2.start, tDGet, sDPut, tTup, tLst, tDNewK, tRevL, rCat, rAppend, rPop, rSetL, tAndV, tOrV, tNotV, tSl, tPart, tNoPart, tM1, gTup, gCons, gNil, cxK, cxnK, List.map_cons, List.map_nil, List.length_cons, List.length_nil, List.replicate, List.cons_append, List.nil_append, List.append_nil, List.set_cons_zero, List.set_cons_succ, List.getElem?_cons_zero, List.getElem?_cons_succ, Option.some.injEq, V.ref.injEq, V.int.injEq, V.str.injEq, V.bl.injEq, V.ty.injEq, exists_eq_left', exists_eq_left, exists_and_left, List.cons.injEq, and_true, true_and, sc_ii, sc_ss, sc_bb, sc_ni, sc_in, sc_is, sc_si, sc_nn, decide_true, decide_false, reduceCtorEq, Bool.false_eq_true, if_true, if_false, ite_true, ite_false, exists_const, eq_self, false_and, and_false, or_false, false_or, exists_false, Evl.rLenS, rSum, wipe, tYes, exists_eq, exists_eq', rIxL, rIxT, rIxS, exists_and_right, gt_iff_lt, not_true_eq_false, not_false_eq_true, Bool.not_true, Bool.not_false, decide_eq_true_eq, Nat.reduceSub, Nat.reduceAdd, List.append_assoc, tChain, tDIn, tDNotIn, sDDel, tAug, ipI]
        refine ⟨m + 1 - (i + 1), by omega, i + 1, c7, c8, rfl, hB4, ?_, rfl⟩
        rw [fndC_succ es]
        exact Nat.le_trans e visitC_pre.length_le
    · rw [if_neg (show ¬ (i : Int) < ((fndC zs c f0 i).length : Nat) by omega)]
      refine q p ps H2 np hp ?_ k2
      rw [← fndC_all hN fm (show i = (fndC zs c f0 i).length by omega)]
      exact hps
end
end My

set_option Elab.async false
set_option linter.all false
set_option maxRecDepth 100000
set_option maxHeartbeats 4000000
namespace My
open PySem L2 NdefX StX
abbrev s_law_classes : Stmt := top 35
theorem sc_law_classes : FnScope ["_law_names_here", "_law_rows_here", "_law_size", "_law_blocks", "_law_many", "_law_turn", "_law_signs", "_law_finer", "_law_state", "_law_sign", "_law_name"] ["_law_names_here", "_law_rows_here"] (defScope s_law_classes) := ⟨rfl, rfl, rfl, by decide +kernel, rfl, by decide +kernel, by decide +kernel⟩
section
variable {zs : List Str} {c : Str → Nat → Int × Int} {cs : List Nat} {m : Nat}
theorem ddC_succ {j : Nat} : ddK ((List.range (j + 1)).map (keyC zs c cs)) = if keyC zs c cs j ∈ ddK ((List.range j).map (keyC zs c cs)) then ddK ((List.range j).map (keyC zs c cs)) else ddK ((List.range j).map (keyC zs c cs)) ++ [keyC zs c cs j] := by
  rw [List.range_succ, List.map_append]
  exact ddK_snoc _ _
theorem finC_succ {j : Nat} : finC zs c cs (j + 1) = finC zs c cs j ++ [(ddK ((List.range (j + 1)).map (keyC zs c cs))).idxOf (keyC zs c cs j)] := by
  unfold finC
  rw [List.range_succ, List.map_append, List.map_append]
  congr 1
  refine List.map_congr_left fun k hk => ?_
  exact idx_pre ddK_pre (ddK_mem.mpr hk)
theorem fin_ded : ∀ j, dedI ((finC zs c cs j).map fun x => ((x : Nat) : Int)) = (List.range (ddK ((List.range j).map (keyC zs c cs))).length).map fun x => ((x : Nat) : Int)
  | 0 => rfl
  | j + 1 => by
    have ih := fin_ded j
    rw [finC_succ, List.map_append]
    show dedI (_ ++ [_]) = _
    rw [dedI_snoc, ih, ddC_succ]
    by_cases h : keyC zs c cs j ∈ ddK ((List.range j).map (keyC zs c cs))
    · rw [if_pos h, if_pos]
      exact List.mem_map.mpr ⟨_, List.mem_range.mpr (List.idxOf_lt_length_iff.mpr h), rfl⟩
    · rw [if_neg h, List.idxOf_append, if_neg h, if_neg, List.length_append, List.length_singleton, List.range_succ, List.map_append]
      · simp
      · intro z
        obtain ⟨x, hx, e⟩ := List.mem_map.mp z
        have := List.mem_range.mp hx
        simp at e
        omega
theorem manyC_succ {i : Nat} : manyC zs c m (i + 1) = (ddK ((List.range m).map (keyC zs c (clsC zs c m i)))).length := by
  unfold manyC
  show (dedI ((finC zs c (clsC zs c m i) m).map _)).length = _
  rw [fin_ded, List.length_map, List.length_range]
theorem rep_flat : ∀ k : Nat, (List.replicate k [V.int 0]).flatten = (List.replicate k 0).map fun x : Nat => V.int (x : Nat)
  | 0 => rfl
  | k + 1 => by rw [List.replicate_succ, List.flatten_cons, rep_flat k, List.replicate_succ]; rfl
theorem ded_rep : ∀ k : Nat, dedI (List.replicate (k + 1) 0) = [0]
  | 0 => rfl
  | k + 1 => by rw [List.replicate_succ', dedI_snoc, ded_rep k]; rfl
theorem manyC_zero (h : 1 ≤ m) : manyC zs c m 0 = 1 := by
  obtain ⟨k, rfl⟩ : ∃ k, m = k + 1 := ⟨m - 1, by omega⟩
  unfold manyC clsC
  rw [List.map_replicate]
  show (dedI (List.replicate (k + 1) 0)).length = 1
  rw [ded_rep]
  rfl
theorem manyC_le {i : Nat} : manyC zs c m i ≤ m := by
  have := DdN_le (clsC zs c m i)
  rw [clsC_len] at this
  exact this
end
section
variable {P : Program} {w : World} {K : PySem.W.Frag} {mg : Str → Option Value} {base : Heap} {tL t1 t2 : Tok}
structure BtI (mg : Str → Option Value) : Prop where
  b_len : mg "len" = none
  b_range : mg "range" = none
  b_tuple : mg "tuple" = none
def spLCls : Sp := fun vs H Q _ => ∃ (nl rd : Addr) (m : Nat) (zs : List Str) (c : Str → Nat → Int × Int), vs = [.ref nl, .ref rd] ∧ RwAt H rd zs m c ∧ H nl = some (.lst (zs.map V.str)) ∧ zs.Nodup ∧ zs ≠ [] ∧ zs.length ≤ 6 ∧ Nx zs m c ∧ (∀ z ∈ zs, ∀ s, s < m → 0 ≤ (c z s).2) ∧ 1 ≤ m ∧ m ≤ 100 ∧ ∀ l (b : List Nat) H', H l = none → b.length = m → (∀ s t, s < m → t < m → (b.getD s 0 = b.getD t 0 ↔ Eqc zs c m s t)) → H' l = some (.lst (b.map fun x => V.int (x : Nat))) → Kp [] H H' → Q (.ref l) H'
/-- ahead of the j-th state -/
def LcAt (P : Program) (w : World) (zs : List Str) (c : Str → Nat → Int × Int) (cs : List Nat) (H : Hp) (sd fl : Addr) (j : Nat) (H' : Hp) : Prop := DnAt P w H' sd (numsN (ddK ((List.range j).map (keyC zs c cs)))) ∧ H' fl = some (.lst ((finC zs c cs j).map fun x => V.int (x : Nat))) ∧ Kp [] H H'
theorem ok_law_classes {f : Addr} {fd : FuncData} (D : Df K mg "_law_classes" s_law_classes ["_law_names_here", "_law_rows_here"] f fd) (T : BtI mg) : FnOk P w K mg base CX0 1 f fd ["_law_names_here", "_law_rows_here"] spLCls := by
  refine D.F.ok sc_law_classes (fun vs H Q E h => ?_) (fun cdv A outer s H vs Q E hr h => ?_)
  · obtain ⟨nl, rd, m, zs, c, rfl, _⟩ := h
    rfl
  · obtain ⟨nl, rd, m, zs, c, rfl, hrw, hn, nd, zne, z6, hN, h0, m1, m100, q⟩ := h
    have hu := hu_of hr
    refine ⟨_, (pss_cons (ps_set (i := 2) sc_law_classes.nd rfl (Or.inl rfl) (pe_callB (id := "len") (r := Evl.rLenS K) call_len_seq (by rfl) T.b_len PySem.boot_len (pa_cons (pe_dget hu (pv 1) (pe_ix (r := rIxL K) ix_list (pv 0) pe_int (fun _ _ => rfl)) (fun _ _ => rfl)) pa_nil)))
      (pss_cons (ps_set (i := 3) sc_law_classes.nd rfl (Or.inr rfl) (pe_op op_rep (pe_lst (pa_cons pe_int pa_nil)) (pv 2)))
      (pss_cons (ps_set (i := 4) sc_law_classes.nd rfl (Or.inl rfl) pe_int)
      (pss_cons (ps_for PassesOwn.never rfl (pi_range1 rfl T.b_range (pa_cons (pe_op op_add (pv 2) pe_int) pa_nil)) (pg_name (i := 5) sc_law_classes.nd rfl (Or.inl rfl)) (pss_cons (ps_set (i := 6) sc_law_classes.nd rfl (Or.inl rfl) pe_dnewK)
      (pss_cons (ps_set (i := 7) sc_law_classes.nd rfl (Or.inl rfl) (pe_lst pa_nil))
      (pss_cons (ps_for PassesOwn.never rfl (pi_range1 rfl T.b_range (pa_cons (pv 2) pa_nil)) (pg_name (i := 8) sc_law_classes.nd rfl (Or.inr rfl)) (pss_cons (ps_set (i := 9) sc_law_classes.nd rfl (Or.inl rfl) (pe_tup (pa_cons (pe_ix (r := rIxL K) ix_list (pv 3) (pv 8) (fun _ _ => rfl)) (pa_cons (pe_callTy call_tuple_of (by rfl) T.b_tuple (by decide +kernel) (pa_cons (pe_lc (own := [("_law_name", 10)]) (g := (gName 10)) (tt := tYes) rfl sc_law_classes.nd (pi_list (pv 0)) (blkOk_by (N := ["_law_names_here", "_law_rows_here", "_law_size", "_law_blocks", "_law_many", "_law_turn", "_law_signs", "_law_finer", "_law_state", "_law_sign", "_law_name"]) (sc := defScope s_law_classes) (by decide +kernel)) (fun _ _ _ _ _ => (pg_name (i := 10) sc_law_classes.nd rfl (Or.inl rfl))) (fun _ _ _ _ _ => pts_nil) (fun _ _ _ _ _ => (pe_tup (pa_cons (pe_ix (r := rIxT K) ix_tup (pe_ix (r := rIxL K) ix_list (pe_dget hu (pv 1) (pv 10) (fun _ _ => rfl)) (pv 8) (fun _ _ => rfl)) pe_int (fun _ _ => rfl)) (pa_cons (pe_ix (r := rIxL K) ix_list (pv 3) (pe_ix (r := rIxT K) ix_tup (pe_ix (r := rIxL K) ix_list (pe_dget hu (pv 1) (pv 10) (fun _ _ => rfl)) (pv 8) (fun _ _ => rfl)) pe_int (fun _ _ => rfl)) (fun _ _ => rfl)) pa_nil))))) pa_nil)) pa_nil))))
      (pss_cons (ps_if (pt_cmp (pc_nnotin hr.units (pv 9) (pv 6))) (pss_one (ps_nput hr.units (pv 6) (pv 9) (pe_callB (id := "len") (r := rLenN P w) call_lenN (by rfl) T.b_len PySem.boot_len (pa_cons (pv 6) pa_nil)) rfl)) pss_nil)
      (pss_one (ps_expr (pe_bm PySem.F.plainAttrs_list PySem.F.slot_list_append PySem.F.type_list_append mt_append (pv 7) (pa_cons (pe_nget hr.units (pv 6) (pv 9) (fun _ _ => rfl)) pa_nil)))))))
      (pss_cons (ps_set (i := 3) sc_law_classes.nd rfl (Or.inr rfl) (pv 7))
      (pss_cons (ps_if (pt_cmpR op_eq (pe_callB (id := "len") (r := rLenN P w) call_lenN (by rfl) T.b_len PySem.boot_len (pa_cons (pv 6) pa_nil)) (pv 4) (nomark _)) (pss_one (ps_ret (pv 3))) pss_nil)
      (pss_one (ps_set (i := 4) sc_law_classes.nd rfl (Or.inl rfl) (pe_callB (id := "len") (r := rLenN P w) call_lenN (by rfl) T.b_len PySem.boot_len (pa_cons (pv 6) pa_nil))))))))))
      (pss_one (ps_ret (pv 3))))))), ?_⟩
    try simp (maxSteps := 1000000) only [tSeq, tIfS, tTest, tOp, tUn, tCB, tCons, tNil, tVar, tC, rI0, rI, rU, rEq, rNe, tRet, tRetN, tAsg, gName, gSub, tBM, tBM0, tNext, tB, tNot, tAnd, tOr, tIf, tCall, tDrop, tBreak, tCont, L2.start, tDGet, sDPut, tTup, tLst, tDNewK, tRevL, rCat, rAppend, rPop, rSetL, tAndV, tOrV, tNotV, tSl, tPart, tNoPart, tM1, gTup, gCons, gNil, cxK, cxnK, List.map_cons, List.map_nil, List.length_cons, List.length_nil, List.replicate, List.cons_append, List.nil_append, List.append_nil, List.set_cons_zero, List.set_cons_succ, List.getElem?_cons_zero, List.getElem?_cons_succ, Option.some.injEq, V.ref.injEq, V.int.injEq, V.str.injEq, V.bl.injEq, V.ty.injEq, exists_eq_left', exists_eq_left, exists_and_left, List.cons.injEq, and_true, true_and, sc_ii, sc_ss, sc_bb, sc_ni, sc_in, sc_is, sc_si, sc_nn, decide_true, decide_false, reduceCtorEq, Bool.false_eq_true, if_true, if_false, ite_true, ite_false, exists_const, eq_self, false_and, and_false, or_false, false_or, exists_false, Evl.rLenS, rSum, wipe, tYes, exists_eq, exists_eq', rIxL, rIxT, rIxS, exists_and_right, gt_iff_lt, not_true_eq_false, not_false_eq_true, Bool.not_true, Bool.not_false, decide_eq_true_eq, Nat.reduceSub, Nat.reduceAdd, List.append_assoc, tChain, tDIn, tDNotIn, sDDel, tAug, ipI, rRep]
    obtain ⟨z0, r0, ez0⟩ : ∃ z r, zs = z :: r := by
      cases zs with
      | nil => exact absurd rfl zne
      | cons z r => exact ⟨z, r, rfl⟩
    have hz0 : z0 ∈ zs := by rw [ez0]; simp
    obtain ⟨kvs, l, xs, hd1, ev, hl, hcl⟩ := hrw.get nd hz0
    have one : (1 : Nat) ≤ sizeLine := by rw [sizeLine_eq]; decide
    refine ⟨_, sq_l hn, .str z0, atI_of (by decide) (by rw [ez0]; rfl), _, ev ▸ DGet.k (k := Sum.inr z0) hd1, l, rfl, xs, .inl (sq_l hl), one, fun p np => ⟨_, upd_same, ?_⟩⟩
    rw [hcl.1, Int.toNat_natCast]
    refine ⟨by omega, by omega, by rw [sizeLine_eq]; show 1 * m ≤ _; omega, fun p1 np1 => ?_⟩
    have k1 : Kp [] H (upd H p (.lst [.int 0])) := Kp.new np
    have k2 : Kp [] (upd H p (.lst [.int 0])) (upd (upd H p (.lst [.int 0])) p1 (.lst (List.replicate m [V.int 0]).flatten)) := Kp.new np1
    have np10 : H p1 = none := noneB k1 np1
    have hb1 : (upd (upd H p (.lst [.int 0])) p1 (.lst (List.replicate m [V.int 0]).flatten)) p1 = some (.lst ((clsC zs c m 0).map fun x => V.int (x : Nat))) := by
      rw [upd_same]
      rw [rep_flat]
      rfl
    have k12 := k1.trans k2
    generalize upd (upd H p (.lst [.int 0])) p1 (.lst (List.replicate m [V.int 0]).flatten) = H1 at hb1 k12
    refine forRg (m + 1) (fun t σ H' => ∃ (bl : Addr) (c5 c6 c7 c8 c9 c10 : Option V), σ = [some (.ref nl), some (.ref rd), some (.int (m : Nat)), some (.ref bl), some (.int (manyC zs c m t : Nat)), c5, c6, c7, c8, c9, c10] ∧ H bl = none ∧ H' bl = some (.lst ((clsC zs c m t).map fun x => V.int (x : Nat))) ∧ Kp [] H H' ∧ t + 1 ≤ manyC zs c m t) (fun R q' => ?_) (by omega) (by omega) ⟨p1, none, none, none, none, none, none, by rw [manyC_zero m1]; rfl, np10, hb1, k12, by rw [manyC_zero m1]; exact Nat.le_refl _⟩ ?_ ?_
    · try simp (maxSteps := 1000000) only [tSeq, tIfS, tTest, tOp, tUn, tCB, tCons, tNil, tVar, tC, rI0, rI, rU, rEq, rNe, tRet, tRetN, tAsg, gName, gSub, tBM, tBM0, tNext, tB, tNot, tAnd, tOr, tIf, tCall, tDrop, tBreak, tCont, L2.start, tDGet, sDPut, tTup, tLst, tDNewK, tRevL, rCat, rAppend, rPop, rSetL, tAndV, tOrV, tNotV, tSl, tPart, tNoPart, tM1, gTup, gCons, gNil, cxK, cxnK, List.map_cons, List.map_nil, List.length_cons, List.length_nil, List.replicate, List.cons_append, List.nil_append, List.append_nil, List.set_cons_zero, List.set_cons_succ, List.getElem?_cons_zero, List.getElem?_cons_succ, Option.some.injEq, V.ref.injEq, V.int.injEq, V.str.injEq, V.bl.injEq, V.ty.injEq, exists_eq_left', exists_eq_left, exists_and_left, List.cons.injEq, and_true, true_and, sc_ii, sc_ss, sc_bb, sc_ni, sc_in, sc_is, sc_si, sc_nn, decide_true, decide_false, reduceCtorEq, Bool.false_eq_true, if_true, if_false, ite_true, ite_false, exists_const, eq_self, false_and, and_false, or_false, false_or, exists_false, Evl.rLenS, rSum, wipe, tYes, exists_eq, exists_eq', rIxL, rIxT, rIxS, exists_and_right, gt_iff_lt, not_true_eq_false, not_false_eq_true, Bool.not_true, Bool.not_false, decide_eq_true_eq, Nat.reduceSub, Nat.reduceAdd, List.append_assoc, tChain, tDIn, tDNotIn, sDDel, tAug, ipI]
      exact q'
    · rintro t σ H2 ht ⟨bl, c5, c6, c7, c8, c9, c10, rfl, nbl, hbl, k02, hgrow⟩
      have clen : (clsC zs c m t).length = m := clsC_len t
      have hms := manyC_succ (zs := zs) (c := c) (m := m) (i := t)
      have ecs : clsC zs c m (t + 1) = finC zs c (clsC zs c m t) m := rfl
      have hmono := manyC_mono (zs := zs) (c := c) (m := m) t
      have hstab : manyC zs c m (t + 1) ≤ manyC zs c m t → ∀ s u, s < m → u < m → ((clsC zs c m (t + 1)).getD s 0 = (clsC zs c m (t + 1)).getD u 0 ↔ Eqc zs c m s u) := fun h s u hs hu => stable_eqc hN h hs hu
      try simp (maxSteps := 1000000) only [tSeq, tIfS, tTest, tOp, tUn, tCB, tCons, tNil, tVar, tC, rI0, rI, rU, rEq, rNe, tRet, tRetN, tAsg, gName, gSub, tBM, tBM0, tNext, tB, tNot, tAnd, tOr, tIf, tCall, tDrop, tBreak, tCont, L2.start, tDGet, sDPut, tTup, tLst, tDNewK, tRevL, rCat, rAppend, rPop, rSetL, tAndV, tOrV, tNotV, tSl, tPart, tNoPart, tM1, gTup, gCons, gNil, cxK, cxnK, List.map_cons, List.map_nil, List.length_cons, List.length_nil, List.replicate, List.cons_append, List.nil_append, List.append_nil, List.set_cons_zero, List.set_cons_succ, List.getElem?_cons_zero, List.getElem?_cons_succ, Option.some.injEq, V.ref.injEq, V.int.injEq, V.str.injEq, V.bl.injEq, V.ty.injEq, exists_eq_left', exists_eq_left, exists_and_left, List.cons.injEq, and_true, true_and, sc_ii, sc_ss, sc_bb, sc_ni, sc_in, sc_is, sc_si, sc_nn, decide_true, decide_false, reduceCtorEq, Bool.false_eq_true, if_true, if_false, ite_true, ite_false, exists_const, eq_self, false_and, and_false, or_false, false_or, exists_false, Evl.rLenS, rSum, wipe, tYes, exists_eq, exists_eq', rIxL, rIxT, rIxS, exists_and_right, gt_iff_lt, not_true_eq_false, not_false_eq_true, Bool.not_true, Bool.not_false, decide_eq_true_eq, Nat.reduceSub, Nat.reduceAdd, List.append_assoc, tChain, tDIn, tDNotIn, sDDel, tAug, ipI]
      intro sd nsd
      refine ⟨by decide, fun fl nfl => ?_⟩
      have k3 : Kp [] H2 (upd H2 sd (.dK [])) := Kp.new nsd
      have k4 : Kp [] (upd H2 sd (.dK [])) (upd (upd H2 sd (.dK [])) fl (.lst [])) := Kp.new nfl
      have sfl : sd ≠ fl := fun z => by rw [z, upd_same] at nfl; cases nfl
      have nsd0 : H sd = none := noneB k02 nsd
      have nfl2 : H2 fl = none := noneB k3 nfl
      have nfl0 : H fl = none := noneB k02 nfl2
      have clo : clsC zs c m t = clsC zs c m t := rfl
      generalize hcs : clsC zs c m t = cs at *
      refine forRg m (fun j σ H' => (∃ c8 c9 c10 : Option V, σ = [some (.ref nl), some (.ref rd), some (.int (m : Nat)), some (.ref bl), some (.int (manyC zs c m t : Nat)), some (.int (t : Nat)), some (.ref sd), some (.ref fl), c8, c9, c10]) ∧ LcAt P w zs c cs H sd fl j H' ∧ Kp [] H2 H') (fun R q' => ⟨_, rfl, q'⟩) (by omega) (by omega) ⟨⟨_, _, _, rfl⟩, ⟨.inl ⟨by rw [upd_ne sfl, upd_same], rfl⟩, upd_same, (k02.trans k3).trans k4⟩, k3.trans k4⟩ ?_ ?_
      · rintro j σ H5 hj ⟨⟨c8, c9, c10, rfl⟩, hF, k25⟩
        obtain ⟨hN5, hfl5, k05⟩ := hF
        have hbl5 := k25 _ _ not0 hbl
        have hn5 := k05 _ _ not0 hn
        try simp (maxSteps := 1000000) only [tSeq, tIfS, tTest, tOp, tUn, tCB, tCons, tNil, tVar, tC, rI0, rI, rU, rEq, rNe, tRet, tRetN, tAsg, gName, gSub, tBM, tBM0, tNext, tB, tNot, tAnd, tOr, tIf, tCall, tDrop, tBreak, tCont, L2.start, tDGet, sDPut, tTup, tLst, tDNewK, tRevL, rCat, rAppend, rPop, rSetL, tAndV, tOrV, tNotV, tSl, tPart, tNoPart, tM1, gTup, gCons, gNil, cxK, cxnK, List.map_cons, List.map_nil, List.length_cons, List.length_nil, List.replicate, List.cons_append, List.nil_append, List.append_nil, List.set_cons_zero, List.set_cons_succ, List.getElem?_cons_zero, List.getElem?_cons_succ, Option.some.injEq, V.ref.injEq, V.int.injEq, V.str.injEq, V.bl.injEq, V.ty.injEq, exists_eq_left', exists_eq_left, exists_and_left, List.cons.injEq, and_true, true_and, sc_ii, sc_ss, sc_bb, sc_ni, sc_in, sc_is, sc_si, sc_nn, decide_true, decide_false, reduceCtorEq, Bool.false_eq_true, if_true, if_false, ite_true, ite_false, exists_const, eq_self, false_and, and_false, or_false, false_or, exists_false, Evl.rLenS, rSum, wipe, tYes, exists_eq, exists_eq', rIxL, rIxT, rIxS, exists_and_right, gt_iff_lt, not_true_eq_false, not_false_eq_true, Bool.not_true, Bool.not_false, decide_eq_true_eq, Nat.reduceSub, Nat.reduceAdd, List.append_assoc, tChain, tDIn, tDNotIn, sDDel, tAug, ipI, tNNotIn, sNPut, tNGet, rLenN]
        refine ⟨_, sq_l hbl5, .int (cs.getD j 0 : Nat), atI_nat (csAt (by omega)), ?_⟩
        refine ⟨.ref nl, rfl, nl, rfl, ⟨_, sq_l hn5⟩, fun D1 nD1 => lc_list (K := K) (a := nl) (xs := zs.map V.str) (fun i H' => ∃ ys, H' D1 = some (.lst ys) ∧ Cells (fun i => ((c (zs.getD i "") j).1, ((cs.getD (nx c (zs.getD i "") j) 0 : Nat) : Int))) ys i H' ∧ Kp [] H5 H') ⟨[], upd_same, ⟨rfl, fun i hi => absurd hi (by omega)⟩, Kp.new nD1⟩ (fun i H' _ h => by obtain ⟨_, _, _, k⟩ := h; exact k.ls not0 (sq_l hn5)) ?_ ?_⟩
        · rintro i x H6 hx ⟨ys, hD, hC, k56⟩
          obtain ⟨z, ez, rfl⟩ : ∃ z, zs[i]? = some z ∧ V.str z = x := by
            rw [List.getElem?_map] at hx
            cases e : zs[i]? with
            | none => rw [e] at hx; cases hx
            | some z => rw [e] at hx; exact ⟨z, rfl, Option.some.inj hx⟩
          have hz : z ∈ zs := List.mem_of_getElem? ez
          have il : i < zs.length := (List.getElem?_eq_some_iff.mp ez).1
          have eg : zs.getD i "" = z := by rw [List.getD_eq_getElem?_getD, ez]; rfl
          obtain ⟨kv, l6, xs6, hd6, ev6, hl6, hc6⟩ := ((hrw.kp k05).kp k56).get nd hz
          obtain ⟨pr, epr, hpr⟩ := hc6.2 j hj
          have hbl6 := k56 _ _ not0 hbl5
          have hg := hN z hz j hj
          have hg0 := h0 z hz j hj
          have two : (2 : Nat) ≤ sizeLine := by rw [sizeLine_eq]; decide
          try simp (maxSteps := 1000000) only [tSeq, tIfS, tTest, tOp, tUn, tCB, tCons, tNil, tVar, tC, rI0, rI, rU, rEq, rNe, tRet, tRetN, tAsg, gName, gSub, tBM, tBM0, tNext, tB, tNot, tAnd, tOr, tIf, tCall, tDrop, tBreak, tCont, L2.start, tDGet, sDPut, tTup, tLst, tDNewK, tRevL, rCat, rAppend, rPop, rSetL, tAndV, tOrV, tNotV, tSl, tPart, tNoPart, tM1, gTup, gCons, gNil, cxK, cxnK, List.map_cons, List.map_nil, List.length_cons, List.length_nil, List.replicate, List.cons_append, List.nil_append, List.append_nil, List.set_cons_zero, List.set_cons_succ, List.getElem?_cons_zero, List.getElem?_cons_succ, Option.some.injEq, V.ref.injEq, V.int.injEq, V.str.injEq, V.bl.injEq, V.ty.injEq, exists_eq_left', exists_eq_left, exists_and_left, List.cons.injEq, and_true, true_and, sc_ii, sc_ss, sc_bb, sc_ni, sc_in, sc_is, sc_si, sc_nn, decide_true, decide_false, reduceCtorEq, Bool.false_eq_true, if_true, if_false, ite_true, ite_false, exists_const, eq_self, false_and, and_false, or_false, false_or, exists_false, Evl.rLenS, rSum, wipe, tYes, exists_eq, exists_eq', rIxL, rIxT, rIxS, exists_and_right, gt_iff_lt, not_true_eq_false, not_false_eq_true, Bool.not_true, Bool.not_false, decide_eq_true_eq, Nat.reduceSub, Nat.reduceAdd, List.append_assoc, tChain, tDIn, tDNotIn, sDDel, tAug, ipI]
          have eg2 : (c z j).2 = ((nx c z j : Nat) : Int) := by unfold nx; omega
          refine ⟨_, ev6 ▸ DGet.k (k := Sum.inr z) hd6, l6, rfl, xs6, sq_l hl6, .ref pr, atI_nat epr, pr, rfl, _, sq_t hpr, .int (c z j).1, rfl, _, ev6 ▸ DGet.k (k := Sum.inr z) hd6, l6, rfl, xs6, sq_l hl6, .ref pr, atI_nat epr, pr, rfl, _, sq_t hpr, .int (c z j).2, rfl, _, _, rfl, sq_l hbl6, .int (cs.getD (nx c z j) 0 : Nat), by rw [eg2]; exact atI_nat (csAt (by omega)), two, fun p2 np2 => ?_⟩
          have kq := (Kp.new np2 : Kp [] H6 (upd H6 p2 (.tup [.int (c z j).1, .int (cs.getD (nx c z j) 0 : Nat)])))
          refine ⟨ys, kq _ _ not0 hD, smallL (by rw [hC.1]; omega), ys ++ [.ref p2], upd_same, ((hC.kp kq).snoc (by rw [upd_same, eg])).putL (kq _ _ not0 hD), (k56.trans kq).wr nD1⟩
        · rintro H6 ⟨ys, hD, hC, k56⟩
          rw [List.length_map] at hC
          try simp (maxSteps := 1000000) only [tSeq, tIfS, tTest, tOp, tUn, tCB, tCons, tNil, tVar, tC, rI0, rI, rU, rEq, rNe, tRet, tRetN, tAsg, gName, gSub, tBM, tBM0, tNext, tB, tNot, tAnd, tOr, tIf, tCall, tDrop, tBreak, tCont, L2.start, tDGet, sDPut, tTup, tLst, tDNewK, tRevL, rCat, rAppend, rPop, rSetL, tAndV, tOrV, tNotV, tSl, tPart, tNoPart, tM1, gTup, gCons, gNil, cxK, cxnK, List.map_cons, List.map_nil, List.length_cons, List.length_nil, List.replicate, List.cons_append, List.nil_append, List.append_nil, List.set_cons_zero, List.set_cons_succ, List.getElem?_cons_zero, List.getElem?_cons_succ, Option.some.injEq, V.ref.injEq, V.int.injEq, V.str.injEq, V.bl.injEq, V.ty.injEq, exists_eq_left', exists_eq_left, exists_and_left, List.cons.injEq, and_true, true_and, sc_ii, sc_ss, sc_bb, sc_ni, sc_in, sc_is, sc_si, sc_nn, decide_true, decide_false, reduceCtorEq, Bool.false_eq_true, if_true, if_false, ite_true, ite_false, exists_const, eq_self, false_and, and_false, or_false, false_or, exists_false, Evl.rLenS, rSum, wipe, tYes, exists_eq, exists_eq', rIxL, rIxT, rIxS, exists_and_right, gt_iff_lt, not_true_eq_false, not_false_eq_true, Bool.not_true, Bool.not_false, decide_eq_true_eq, Nat.reduceSub, Nat.reduceAdd, List.append_assoc, tChain, tDIn, tDNotIn, sDDel, tAug, ipI, tNNotIn, sNPut, tNGet, rLenN]
          have two : (2 : Nat) ≤ sizeLine := by rw [sizeLine_eq]; decide
          refine ⟨_, .inl ⟨sq_l hD, fun tp ntp => ⟨two, fun tl ntl => ?_⟩⟩⟩
          have kG : Kp [] H6 (upd (upd H6 tp (.tup ys)) tl (.tup [.int ((cs.getD j 0 : Nat)), .ref tp])) := (Kp.new ntp).trans (Kp.new ntl)
          have htl : (upd (upd H6 tp (.tup ys)) tl (.tup [.int ((cs.getD j 0 : Nat)), .ref tp])) tl = some (.tup [.int ((cs.getD j 0 : Nat)), .ref tp]) := upd_same
          have htp : (upd (upd H6 tp (.tup ys)) tl (.tup [.int ((cs.getD j 0 : Nat)), .ref tp])) tp = some (.tup ys) := by
            rw [upd_ne (fun z => by rw [← z, upd_same] at ntl; cases ntl), upd_same]
          generalize upd (upd H6 tp (.tup ys)) tl (.tup [.int ((cs.getD j 0 : Nat)), .ref tp]) = G at kG htl htp ⊢
          have k5G := k56.trans kG
          have hk : NkAt G (.ref tl) (keyC zs c cs j) := by
            refine .tup htl (.cons (.int _) (.cons (.tup htp ?_) .nil))
            rw [map_getD]
            exact nk_cells (hC.kp kG)
          have hNG := dn_kp hN5 k5G
          have hflG := k5G _ _ not0 hfl5
          have kdep : (keyC zs c cs j).depth ≤ 8 := by
            have := depth_pairs (a := fun z => (c z j).1) (b := fun z => ((cs.getD (c z j).2.toNat 0 : Nat) : Int)) (l := zs)
            unfold keyC
            simp only [NestedKey.depthAll, NestedKey.depth]
            omega
          have dl : (ddK ((List.range j).map (keyC zs c cs))).length ≤ j := by
            have := ddK_len (ks := (List.range j).map (keyC zs c cs))
            rw [List.length_map, List.length_range] at this
            exact this
          have fln : (finC zs c cs j).length = j := finC_len
          have sz2 : j < sizeLine := smallL (by omega)
          have NKk : NKey G (.ref tl) (keyC zs c cs j) := ⟨tl, rfl, hk, kdep⟩
          refine ⟨_, hNG, _, NKk, ?_⟩
          by_cases hin : keyC zs c cs j ∈ ddK ((List.range j).map (keyC zs c cs))
          · rw [numsN_val hin, if_neg (by simp)]
            refine ⟨.inl ⟨rfl, _, sq_l hflG⟩, _, hNG, _, NKk, _, numsN_val hin, _, hflG, by rw [List.length_map, fln]; exact sz2, ⟨?_, ?_, (k05.trans k5G).wr nfl0⟩, (k25.trans k5G).wr nfl2⟩
            · rw [ddC_succ, if_pos hin]
              exact dn_wr hNG hflG sfl
            · rw [upd_same, finC_succ, ddC_succ, if_pos hin, List.map_append]
              rfl
          · rw [numsN_none hin, if_pos (by decide)]
            refine ⟨_, hNG, _, hNG, _, NKk, by rw [numsN_len]; omega, fun ob hob => ?_⟩
            rw [numsN_len, numsN_put hin] at hob
            have hfl2 : (upd G sd ob) fl = some (.lst ((finC zs c cs j).map fun x => V.int (x : Nat))) := by rw [upd_ne (Ne.symm sfl)]; exact hflG
            have NK2 : NKey (upd G sd ob) (.ref tl) (keyC zs c cs j) := ⟨tl, rfl, hk.tp fun b us e => by
              rw [upd_ne (fun zz => by
                subst zz
                rcases hNG with ⟨a, _⟩ | ⟨_, a, _⟩ <;> (rw [e] at a; cases a))]
              exact e, kdep⟩
            have hin2 : keyC zs c cs j ∈ ddK ((List.range j).map (keyC zs c cs)) ++ [keyC zs c cs j] := List.mem_append_right _ List.mem_cons_self
            refine ⟨.inl ⟨rfl, _, sq_l hfl2⟩, _, hob, _, NK2, _, numsN_val hin2, _, hfl2, by rw [List.length_map, fln]; exact sz2, ⟨?_, ?_, ((k05.trans k5G).wr nsd0).wr nfl0⟩, ((k25.trans k5G).wr nsd).wr nfl2⟩
            · rw [ddC_succ, if_neg hin]
              exact dn_wr hob hfl2 sfl
            · rw [upd_same, finC_succ, ddC_succ, if_neg hin, List.map_append]
              rfl
      · rintro σ H5 ⟨⟨c8, c9, c10, rfl⟩, hF, k25⟩
        obtain ⟨hN5, hfl5, k05⟩ := hF
        try simp (maxSteps := 1000000) only [tSeq, tIfS, tTest, tOp, tUn, tCB, tCons, tNil, tVar, tC, rI0, rI, rU, rEq, rNe, tRet, tRetN, tAsg, gName, gSub, tBM, tBM0, tNext, tB, tNot, tAnd, tOr, tIf, tCall, tDrop, tBreak, tCont, L2.start, tDGet, sDPut, tTup, tLst, tDNewK, tRevL, rCat, rAppend, rPop, rSetL, tAndV, tOrV, tNotV, tSl, tPart, tNoPart, tM1, gTup, gCons, gNil, cxK, cxnK, List.map_cons, List.map_nil, List.length_cons, List.length_nil, List.replicate, List.cons_append, List.nil_append, List.append_nil, List.set_cons_zero, List.set_cons_succ, List.getElem?_cons_zero, List.getElem?_cons_succ, Option.some.injEq, V.ref.injEq, V.int.injEq, V.str.injEq, V.bl.injEq, V.ty.injEq, exists_eq_left', exists_eq_left, exists_and_left, List.cons.injEq, and_true, true_and, sc_ii, sc_ss, sc_bb, sc_ni, sc_in, sc_is, sc_si, sc_nn, decide_true, decide_false, reduceCtorEq, Bool.false_eq_true, if_true, if_false, ite_true, ite_false, exists_const, eq_self, false_and, and_false, or_false, false_or, exists_false, Evl.rLenS, rSum, wipe, tYes, exists_eq, exists_eq', rIxL, rIxT, rIxS, exists_and_right, gt_iff_lt, not_true_eq_false, not_false_eq_true, Bool.not_true, Bool.not_false, decide_eq_true_eq, Nat.reduceSub, Nat.reduceAdd, List.append_assoc, tChain, tDIn, tDNotIn, sDDel, tAug, ipI, rLenN]
        refine ⟨_, hN5, ?_⟩
        rw [← ecs] at hfl5
        rw [numsN_len, ← hms]
        by_cases e : manyC zs c m (t + 1) = manyC zs c m t
        · rw [if_pos (by omega)]
          refine q fl (clsC zs c m (t + 1)) H5 nfl0 (clsC_len _) (fun s u hs hu => ?_) hfl5 k05
          exact hstab (by omega) s u hs hu
        · rw [if_neg (by omega)]
          refine ⟨_, hN5, fl, ⟨rfl, by rw [numsN_len, ← hms]⟩, nfl0, hfl5, k05, by omega⟩
    · rintro σ H2 ⟨bl, c5, c6, c7, c8, c9, c10, rfl, nbl, hbl, k02, hgrow⟩
      have := manyC_le (zs := zs) (c := c) (m := m) (i := m + 1)
      omega
end
end My

set_option Elab.async false
set_option linter.all false
set_option maxRecDepth 100000
set_option maxHeartbeats 4000000
namespace My
open PySem L2 NdefX StX
abbrev s_law_read : Stmt := top 37
theorem sc_law_read : FnScope ["_law_table", "_law_names_here", "_law_told", "_law_size", "_law_rows_here", "_law_name", "_law_row", "_law_state", "_law_pair"] ["_law_table", "_law_names_here"] (defScope s_law_read) := ⟨rfl, rfl, rfl, by decide +kernel, rfl, by decide +kernel, by decide +kernel⟩
structure BtR (mg : Str → Option Value) : Prop where
  b_len : mg "len" = none
  b_range : mg "range" = none
  b_isinstance : mg "isinstance" = none
  b_list : mg "list" = none
  b_tuple : mg "tuple" = none
  b_int : mg "int" = none
  b_bool : mg "bool" = none
section
variable {P : Program} {w : World} {K : PySem.W.Frag} {mg : Str → Option Value} {base : Heap}
def spRead (TC : Addr) : Sp := fun vs H Q _ => ∃ (t nl : Addr) (m : Nat) (zs : List Str) (c : Str → Nat → Int × Int), vs = [.ref t, .ref nl] ∧ TabIs TC H t zs m 0 c ∧ H nl = some (.lst (zs.map V.str)) ∧ ∀ r H', H r = none → RwAt H' r zs m c → Kp [] H H' → Q (.ref r) H'
theorem ok_law_read {f : Addr} {fd : FuncData} (D : Df K mg "_law_read" s_law_read ["_law_table", "_law_names_here"] f fd) (T : BtR mg) {TC NO BN fN fC : Addr} {fdN fdC : FuncData} (C : TbC K mg TC) {fw : Addr} {fdw : FuncData} (D_law_is_whole : Df K mg "_law_is_whole" s_law_is_whole ["_law_told", "_law_due"] fw fdw) (G_law_is_whole : FnOk P w K mg base CX0 1 fw fdw ["_law_told", "_law_due"] spWhole)
    (ME_Table_names : Meth K TC "names" fN) (bM_Table_names : Binds K fdN ["self"] []) (G_Table_names : FnOk P w K mg base CX0 1 fN fdN ["self"] (spTN TC))
    (CO_Table : CallO K TC fC) (bC_Table : Binds K fdC ["self", "name", "state"] []) (G_Table_call0 : FnOk P w K mg base (L2.CX P w) 4 fC fdC ["self", "name", "state"] (spTCall TC NO BN)) : FnOk P w K mg base CX0 6 f fd ["_law_table", "_law_names_here"] (spRead TC) := by
  refine D.F.ok sc_law_read (fun vs H Q E h => ?_) (fun cdv A outer s H vs Q E hr h => ?_)
  · obtain ⟨t, nl, m, zs, c, rfl, _⟩ := h
    rfl
  · obtain ⟨t, nl, m, zs, c, rfl, ht, hn, q⟩ := h
    have hu := hu_of hr
    have G_Table_call := G_Table_call0.toR bC_Table
    refine ⟨_, (pss_cons (ps_set (i := 2) sc_law_read.nd rfl (Or.inl rfl) (pe_meth0 (pv 0) C.cl ME_Table_names G_Table_names (hr.mono (by decide)) bM_Table_names .nil pass0))
      (pss_cons (ps_set (i := 3) sc_law_read.nd rfl (Or.inl rfl) (pe_fld (pv 0) rfl))
      (pss_cons (ps_if (PW.pt (pw_or (pt_not (pt_val (pe_callB (id := "isinstance") (r := rIsi K) call_isi (by rfl) T.b_isinstance (by decide +kernel) (pa_cons (pv 2) (pa_cons (pe_bltn (v := .ty "list") (by rfl) T.b_list (by decide +kernel) rfl) pa_nil))))) (pw_or (pt_cmpR (op_neD hr.units) (pv 2) (pv 1) (nomark _)) (pw_or1 (pt_not (pt_val (pe_call G_law_is_whole (hr.mono (by decide)) rfl D_law_is_whole.g D_law_is_whole.F.kp D_law_is_whole.b .nil pass0 (pa_cons (pe_fld (pv 0) rfl) (pa_cons pe_int pa_nil))))))))) (pss_one (ps_ret pe_non)) pss_nil)
      (pss_cons (ps_if (PW.pt (pw_or (pt_not (pt_val (pe_callB (id := "isinstance") (r := rIsi K) call_isi (by rfl) T.b_isinstance (by decide +kernel) (pa_cons (pv 3) (pa_cons (pe_bltn (v := .ty "int") (by rfl) T.b_int (by decide +kernel) rfl) pa_nil))))) (pw_or (pt_val (pe_callB (id := "isinstance") (r := rIsi K) call_isi (by rfl) T.b_isinstance (by decide +kernel) (pa_cons (pv 3) (pa_cons (pe_bltn (v := .ty "bool") (by rfl) T.b_bool (by decide +kernel) rfl) pa_nil)))) (pw_or (pt_cmpR op_lt (pv 3) pe_int (nomark _)) (pw_or1 (pt_cmpR op_gt (pv 3) pe_int (nomark _))))))) (pss_one (ps_ret pe_non)) pss_nil)
      (pss_cons (ps_set (i := 4) sc_law_read.nd rfl (Or.inl rfl) pe_dnewK)
      (pss_cons (ps_for PassesOwn.never rfl (pi_list (pv 1)) (pg_name (i := 5) sc_law_read.nd rfl (Or.inl rfl)) (pss_cons (ps_set (i := 6) sc_law_read.nd rfl (Or.inl rfl) (pe_lst pa_nil))
      (pss_cons (ps_for PassesOwn.never rfl (pi_range1 rfl T.b_range (pa_cons (pv 3) pa_nil)) (pg_name (i := 7) sc_law_read.nd rfl (Or.inl rfl)) (pss_cons (ps_set (i := 8) sc_law_read.nd rfl (Or.inl rfl) (pe_callO (pv 0) CO_Table G_Table_call (hr.mono (by decide)) passL (pa_cons (pv 5) (pa_cons (pv 7) pa_nil))))
      (pss_cons (ps_if (PW.pt (pw_or (pt_not (pt_val (pe_callB (id := "isinstance") (r := rIsi K) call_isi (by rfl) T.b_isinstance (by decide +kernel) (pa_cons (pv 8) (pa_cons (pe_bltn (v := .ty "tuple") (by rfl) T.b_tuple (by decide +kernel) rfl) pa_nil))))) (pw_or (pt_cmpR op_ne (pe_callB (id := "len") (r := Evl.rLenS K) call_len_seq (by rfl) T.b_len PySem.boot_len (pa_cons (pv 8) pa_nil)) pe_int (nomark _)) (pw_or1 (pt_not (pt_val (pe_call G_law_is_whole (hr.mono (by decide)) rfl D_law_is_whole.g D_law_is_whole.F.kp D_law_is_whole.b .nil pass0 (pa_cons (pe_ix (r := rIxT K) ix_tup (pv 8) pe_int (fun _ _ => rfl)) (pa_cons (pe_ix (r := rIxT K) ix_tup (pv 8) pe_int (fun _ _ => rfl)) pa_nil))))))))) (pss_one (ps_ret pe_non)) pss_nil)
      (pss_cons (ps_if (PW.pt (pw_or (pt_not (pt_val (pe_call G_law_is_whole (hr.mono (by decide)) rfl D_law_is_whole.g D_law_is_whole.F.kp D_law_is_whole.b .nil pass0 (pa_cons (pe_ix (r := rIxT K) ix_tup (pv 8) pe_int (fun _ _ => rfl)) (pa_cons (pe_ix (r := rIxT K) ix_tup (pv 8) pe_int (fun _ _ => rfl)) pa_nil))))) (pw_or (pt_cmpR op_lt (pe_ix (r := rIxT K) ix_tup (pv 8) pe_int (fun _ _ => rfl)) pe_int (nomark _)) (pw_or1 (pt_cmpR op_ge (pe_ix (r := rIxT K) ix_tup (pv 8) pe_int (fun _ _ => rfl)) (pv 3) (nomark _)))))) (pss_one (ps_ret pe_non)) pss_nil)
      (pss_one (ps_expr (pe_bm PySem.F.plainAttrs_list PySem.F.slot_list_append PySem.F.type_list_append mt_append (pv 6) (pa_cons (pv 8) pa_nil))))))))
      (pss_one (ps_dput hu (pv 4) (pv 5) (pv 6) rfl)))))
      (pss_one (ps_ret (pv 4))))))))), ?_⟩
    try simp (maxSteps := 1000000) only [tSeq, tIfS, tTest, tOp, tUn, tCB, tCons, tNil, tVar, tC, rI0, rI, rU, rEq, rNe, tRet, tRetN, tAsg, gName, gSub, tBM, tBM0, tNext, tB, tNot, tAnd, tOr, tIf, tCall, tDrop, tBreak, tCont, L2.start, tDGet, sDPut, tTup, tLst, tDNewK, tRevL, rCat, rAppend, rPop, rSetL, tAndV, tOrV, tNotV, tSl, tPart, tNoPart, tM1, gTup, gCons, gNil, cxK, cxnK, List.map_cons, List.map_nil, List.length_cons, List.length_nil, List.replicate, List.cons_append, List.nil_append, List.append_nil, List.set_cons_zero, List.set_cons_succ, List.getElem?_cons_zero, List.getElem?_cons_succ, Option.some.injEq, V.ref.injEq, V.int.injEq, V.str.injEq, V.bl.injEq, V.ty.injEq, exists_eq_left', exists_eq_left, exists_and_left, List.cons.injEq, and_true, true_and, sc_ii, sc_ss, sc_bb, sc_ni, sc_in, sc_is, sc_si, sc_nn, decide_true, decide_false, reduceCtorEq, Bool.false_eq_true, if_true, if_false, ite_true, ite_false, exists_const, eq_self, false_and, and_false, or_false, false_or, exists_false, Evl.rLenS, rSum, wipe, tYes, exists_eq, exists_eq', rIxL, rIxT, rIxS, exists_and_right, gt_iff_lt, not_true_eq_false, not_false_eq_true, Bool.not_true, Bool.not_false, decide_eq_true_eq, Nat.reduceSub, Nat.reduceAdd, List.append_assoc, tChain, tDIn, tDNotIn, sDDel, tAug, ipI, tFld, tMeth]
    obtain ⟨rs, hT, en, hc⟩ := ht
    have bT := hT.bnd
    have nd : zs.Nodup := by rw [← en]; exact bT.2.2.2.2.2.2.2
    obtain ⟨dx, dd, ho⟩ := hT.head
    refine ⟨dx, _, ho, rfl, t, m, 0, rs, rfl, hT, fun nn H1 nnn hnn k1 => ?_⟩
    have en' : rs.map (·.1) = zs := en
    rw [en'] at hnn
    try simp (maxSteps := 1000000) only [tSeq, tIfS, tTest, tOp, tUn, tCB, tCons, tNil, tVar, tC, rI0, rI, rU, rEq, rNe, tRet, tRetN, tAsg, gName, gSub, tBM, tBM0, tNext, tB, tNot, tAnd, tOr, tIf, tCall, tDrop, tBreak, tCont, L2.start, tDGet, sDPut, tTup, tLst, tDNewK, tRevL, rCat, rAppend, rPop, rSetL, tAndV, tOrV, tNotV, tSl, tPart, tNoPart, tM1, gTup, gCons, gNil, cxK, cxnK, List.map_cons, List.map_nil, List.length_cons, List.length_nil, List.replicate, List.cons_append, List.nil_append, List.append_nil, List.set_cons_zero, List.set_cons_succ, List.getElem?_cons_zero, List.getElem?_cons_succ, Option.some.injEq, V.ref.injEq, V.int.injEq, V.str.injEq, V.bl.injEq, V.ty.injEq, exists_eq_left', exists_eq_left, exists_and_left, List.cons.injEq, and_true, true_and, sc_ii, sc_ss, sc_bb, sc_ni, sc_in, sc_is, sc_si, sc_nn, decide_true, decide_false, reduceCtorEq, Bool.false_eq_true, if_true, if_false, ite_true, ite_false, exists_const, eq_self, false_and, and_false, or_false, false_or, exists_false, Evl.rLenS, rSum, wipe, tYes, exists_eq, exists_eq', rIxL, rIxT, rIxS, exists_and_right, gt_iff_lt, not_true_eq_false, not_false_eq_true, Bool.not_true, Bool.not_false, decide_eq_true_eq, Nat.reduceSub, Nat.reduceAdd, List.append_assoc, tChain, tDIn, tDNotIn, sDDel, tAug, ipI, tFld]
    refine ⟨TC, dx, _, k1 _ _ not0 ho, C.cl, C.n1, _, rfl, isi_mk (b := true) (.lst hnn) (by decide +kernel) ?_⟩
    try simp (maxSteps := 1000000) only [tSeq, tIfS, tTest, tOp, tUn, tCB, tCons, tNil, tVar, tC, rI0, rI, rU, rEq, rNe, tRet, tRetN, tAsg, gName, gSub, tBM, tBM0, tNext, tB, tNot, tAnd, tOr, tIf, tCall, tDrop, tBreak, tCont, L2.start, tDGet, sDPut, tTup, tLst, tDNewK, tRevL, rCat, rAppend, rPop, rSetL, tAndV, tOrV, tNotV, tSl, tPart, tNoPart, tM1, gTup, gCons, gNil, cxK, cxnK, List.map_cons, List.map_nil, List.length_cons, List.length_nil, List.replicate, List.cons_append, List.nil_append, List.append_nil, List.set_cons_zero, List.set_cons_succ, List.getElem?_cons_zero, List.getElem?_cons_succ, Option.some.injEq, V.ref.injEq, V.int.injEq, V.str.injEq, V.bl.injEq, V.ty.injEq, exists_eq_left', exists_eq_left, exists_and_left, List.cons.injEq, and_true, true_and, sc_ii, sc_ss, sc_bb, sc_ni, sc_in, sc_is, sc_si, sc_nn, decide_true, decide_false, reduceCtorEq, Bool.false_eq_true, if_true, if_false, ite_true, ite_false, exists_const, eq_self, false_and, and_false, or_false, false_or, exists_false, Evl.rLenS, rSum, wipe, tYes, exists_eq, exists_eq', rIxL, rIxT, rIxS, exists_and_right, gt_iff_lt, not_true_eq_false, not_false_eq_true, Bool.not_true, Bool.not_false, decide_eq_true_eq, Nat.reduceSub, Nat.reduceAdd, List.append_assoc, tChain, tDIn, tDNotIn, sDDel, tAug, ipI, tFld]
    have hn1 := k1 _ _ not0 hn
    have nms : ∀ z ∈ zs, nameS z = true := by rw [← en]; exact bT.2.2.1
    have sh := shaped_names nms
    refine ⟨.list (zs.map PyData.str), .list (zs.map PyData.str), .lst (sq_l hnn) (dpStrs zs), .lst (sq_l hn1) (dpStrs zs), sh, sh, ?_⟩
    rw [SeqAt.eqv_refl _ (SeqAt.canLay_of_shaped sh)]
    try simp (maxSteps := 1000000) only [tSeq, tIfS, tTest, tOp, tUn, tCB, tCons, tNil, tVar, tC, rI0, rI, rU, rEq, rNe, tRet, tRetN, tAsg, gName, gSub, tBM, tBM0, tNext, tB, tNot, tAnd, tOr, tIf, tCall, tDrop, tBreak, tCont, L2.start, tDGet, sDPut, tTup, tLst, tDNewK, tRevL, rCat, rAppend, rPop, rSetL, tAndV, tOrV, tNotV, tSl, tPart, tNoPart, tM1, gTup, gCons, gNil, cxK, cxnK, List.map_cons, List.map_nil, List.length_cons, List.length_nil, List.replicate, List.cons_append, List.nil_append, List.append_nil, List.set_cons_zero, List.set_cons_succ, List.getElem?_cons_zero, List.getElem?_cons_succ, Option.some.injEq, V.ref.injEq, V.int.injEq, V.str.injEq, V.bl.injEq, V.ty.injEq, exists_eq_left', exists_eq_left, exists_and_left, List.cons.injEq, and_true, true_and, sc_ii, sc_ss, sc_bb, sc_ni, sc_in, sc_is, sc_si, sc_nn, decide_true, decide_false, reduceCtorEq, Bool.false_eq_true, if_true, if_false, ite_true, ite_false, exists_const, eq_self, false_and, and_false, or_false, false_or, exists_false, Evl.rLenS, rSum, wipe, tYes, exists_eq, exists_eq', rIxL, rIxT, rIxS, exists_and_right, gt_iff_lt, not_true_eq_false, not_false_eq_true, Bool.not_true, Bool.not_false, decide_eq_true_eq, Nat.reduceSub, Nat.reduceAdd, List.append_assoc, tChain, tDIn, tDNotIn, sDDel, tAug, ipI, tFld]
    refine ⟨TC, dx, _, k1 _ _ not0 ho, C.cl, C.n2, _, rfl, 0, 0, rfl, ?_⟩
    rw [decide_eq_true rfl]
    try simp (maxSteps := 1000000) only [tSeq, tIfS, tTest, tOp, tUn, tCB, tCons, tNil, tVar, tC, rI0, rI, rU, rEq, rNe, tRet, tRetN, tAsg, gName, gSub, tBM, tBM0, tNext, tB, tNot, tAnd, tOr, tIf, tCall, tDrop, tBreak, tCont, L2.start, tDGet, sDPut, tTup, tLst, tDNewK, tRevL, rCat, rAppend, rPop, rSetL, tAndV, tOrV, tNotV, tSl, tPart, tNoPart, tM1, gTup, gCons, gNil, cxK, cxnK, List.map_cons, List.map_nil, List.length_cons, List.length_nil, List.replicate, List.cons_append, List.nil_append, List.append_nil, List.set_cons_zero, List.set_cons_succ, List.getElem?_cons_zero, List.getElem?_cons_succ, Option.some.injEq, V.ref.injEq, V.int.injEq, V.str.injEq, V.bl.injEq, V.ty.injEq, exists_eq_left', exists_eq_left, exists_and_left, List.cons.injEq, and_true, true_and, sc_ii, sc_ss, sc_bb, sc_ni, sc_in, sc_is, sc_si, sc_nn, decide_true, decide_false, reduceCtorEq, Bool.false_eq_true, if_true, if_false, ite_true, ite_false, exists_const, eq_self, false_and, and_false, or_false, false_or, exists_false, Evl.rLenS, rSum, wipe, tYes, exists_eq, exists_eq', rIxL, rIxT, rIxS, exists_and_right, gt_iff_lt, not_true_eq_false, not_false_eq_true, Bool.not_true, Bool.not_false, decide_eq_true_eq, Nat.reduceSub, Nat.reduceAdd, List.append_assoc, tChain, tDIn, tDNotIn, sDDel, tAug, ipI]
    refine isi_int_int ?_
    try simp (maxSteps := 1000000) only [tSeq, tIfS, tTest, tOp, tUn, tCB, tCons, tNil, tVar, tC, rI0, rI, rU, rEq, rNe, tRet, tRetN, tAsg, gName, gSub, tBM, tBM0, tNext, tB, tNot, tAnd, tOr, tIf, tCall, tDrop, tBreak, tCont, L2.start, tDGet, sDPut, tTup, tLst, tDNewK, tRevL, rCat, rAppend, rPop, rSetL, tAndV, tOrV, tNotV, tSl, tPart, tNoPart, tM1, gTup, gCons, gNil, cxK, cxnK, List.map_cons, List.map_nil, List.length_cons, List.length_nil, List.replicate, List.cons_append, List.nil_append, List.append_nil, List.set_cons_zero, List.set_cons_succ, List.getElem?_cons_zero, List.getElem?_cons_succ, Option.some.injEq, V.ref.injEq, V.int.injEq, V.str.injEq, V.bl.injEq, V.ty.injEq, exists_eq_left', exists_eq_left, exists_and_left, List.cons.injEq, and_true, true_and, sc_ii, sc_ss, sc_bb, sc_ni, sc_in, sc_is, sc_si, sc_nn, decide_true, decide_false, reduceCtorEq, Bool.false_eq_true, if_true, if_false, ite_true, ite_false, exists_const, eq_self, false_and, and_false, or_false, false_or, exists_false, Evl.rLenS, rSum, wipe, tYes, exists_eq, exists_eq', rIxL, rIxT, rIxS, exists_and_right, gt_iff_lt, not_true_eq_false, not_false_eq_true, Bool.not_true, Bool.not_false, decide_eq_true_eq, Nat.reduceSub, Nat.reduceAdd, List.append_assoc, tChain, tDIn, tDNotIn, sDDel, tAug, ipI]
    refine isi_int_bool ?_
    try simp (maxSteps := 1000000) only [tSeq, tIfS, tTest, tOp, tUn, tCB, tCons, tNil, tVar, tC, rI0, rI, rU, rEq, rNe, tRet, tRetN, tAsg, gName, gSub, tBM, tBM0, tNext, tB, tNot, tAnd, tOr, tIf, tCall, tDrop, tBreak, tCont, L2.start, tDGet, sDPut, tTup, tLst, tDNewK, tRevL, rCat, rAppend, rPop, rSetL, tAndV, tOrV, tNotV, tSl, tPart, tNoPart, tM1, gTup, gCons, gNil, cxK, cxnK, List.map_cons, List.map_nil, List.length_cons, List.length_nil, List.replicate, List.cons_append, List.nil_append, List.append_nil, List.set_cons_zero, List.set_cons_succ, List.getElem?_cons_zero, List.getElem?_cons_succ, Option.some.injEq, V.ref.injEq, V.int.injEq, V.str.injEq, V.bl.injEq, V.ty.injEq, exists_eq_left', exists_eq_left, exists_and_left, List.cons.injEq, and_true, true_and, sc_ii, sc_ss, sc_bb, sc_ni, sc_in, sc_is, sc_si, sc_nn, decide_true, decide_false, reduceCtorEq, Bool.false_eq_true, if_true, if_false, ite_true, ite_false, exists_const, eq_self, false_and, and_false, or_false, false_or, exists_false, Evl.rLenS, rSum, wipe, tYes, exists_eq, exists_eq', rIxL, rIxT, rIxS, exists_and_right, gt_iff_lt, not_true_eq_false, not_false_eq_true, Bool.not_true, Bool.not_false, decide_eq_true_eq, Nat.reduceSub, Nat.reduceAdd, List.append_assoc, tChain, tDIn, tDNotIn, sDDel, tAug, ipI]
    have m1 := bT.2.2.2.1
    have m100 := bT.2.2.2.2.1
    have mI1 : ¬ ((m : Nat) : Int) < 1 := by omega
    have mI2 : ¬ (100 : Int) < ((m : Nat) : Int) := by omega
    rw [if_neg mI1, if_neg mI2]
    have z6 : zs.length ≤ 6 := by rw [← en]; unfold namesOf; rw [List.length_map]; exact bT.2.1
    intro r nr
    have kr : Kp [] H1 (upd H1 r (.dK [])) := Kp.new nr
    have k1r := k1.trans kr
    have nr0 : H r = none := noneB k1 nr
    refine ⟨.ref nl, rfl, nl, rfl, ⟨_, sq_l (k1r _ _ not0 hn)⟩, for_list (K := K) (a := nl) (xs := zs.map V.str) (fun i σ H' => (∃ c5 c6 c7 c8, σ = [some (.ref t), some (.ref nl), some (.ref nn), some (.int (m : Nat)), some (.ref r), c5, c6, c7, c8]) ∧ RwAt H' r (zs.take i) m c ∧ Kp [] H H') ⟨⟨_, _, _, _, rfl⟩, ⟨[], upd_same, rfl, fun i z e => by cases e⟩, k1r⟩ (fun i σ H' _ h => h.2.2.ls not0 (sq_l hn)) ?_ ?_⟩
    · rintro i x σ H2 hx ⟨⟨c5, c6, c7, c8, rfl⟩, hrw, k2⟩
      obtain ⟨z, ez, rfl⟩ : ∃ z, zs[i]? = some z ∧ V.str z = x := by
        rw [List.getElem?_map] at hx
        cases e : zs[i]? with
        | none => rw [e] at hx; cases hx
        | some z => rw [e] at hx; exact ⟨z, rfl, Option.some.inj hx⟩
      have hz := List.mem_of_getElem? ez
      try simp (maxSteps := 1000000) only [tSeq, tIfS, tTest, tOp, tUn, tCB, tCons, tNil, tVar, tC, rI0, rI, rU, rEq, rNe, tRet, tRetN, tAsg, gName, gSub, tBM, tBM0, tNext, tB, tNot, tAnd, tOr, tIf, tCall, tDrop, tBreak, tCont, L2.start, tDGet, sDPut, tTup, tLst, tDNewK, tRevL, rCat, rAppend, rPop, rSetL, tAndV, tOrV, tNotV, tSl, tPart, tNoPart, tM1, gTup, gCons, gNil, cxK, cxnK, List.map_cons, List.map_nil, List.length_cons, List.length_nil, List.replicate, List.cons_append, List.nil_append, List.append_nil, List.set_cons_zero, List.set_cons_succ, List.getElem?_cons_zero, List.getElem?_cons_succ, Option.some.injEq, V.ref.injEq, V.int.injEq, V.str.injEq, V.bl.injEq, V.ty.injEq, exists_eq_left', exists_eq_left, exists_and_left, List.cons.injEq, and_true, true_and, sc_ii, sc_ss, sc_bb, sc_ni, sc_in, sc_is, sc_si, sc_nn, decide_true, decide_false, reduceCtorEq, Bool.false_eq_true, if_true, if_false, ite_true, ite_false, exists_const, eq_self, false_and, and_false, or_false, false_or, exists_false, Evl.rLenS, rSum, wipe, tYes, exists_eq, exists_eq', rIxL, rIxT, rIxS, exists_and_right, gt_iff_lt, not_true_eq_false, not_false_eq_true, Bool.not_true, Bool.not_false, decide_eq_true_eq, Nat.reduceSub, Nat.reduceAdd, List.append_assoc, tChain, tDIn, tDNotIn, sDDel, tAug, ipI]
      refine ⟨by decide, fun l nl' => ?_⟩
      have kl : Kp [] H2 (upd H2 l (.lst [])) := Kp.new nl'
      have nl0 : H l = none := noneB k2 nl'
      refine forRg m (fun j σ H' => (∃ c7 c8, σ = [some (.ref t), some (.ref nl), some (.ref nn), some (.int (m : Nat)), some (.ref r), some (.str z), some (.ref l), c7, c8]) ∧ (∃ xs, H' l = some (.lst xs) ∧ Cells (c z) xs j H') ∧ Kp [] H2 H') (fun R q' => ⟨_, rfl, q'⟩) (by omega) (by omega) ⟨⟨_, _, rfl⟩, ⟨[], upd_same, rfl, fun i hi => absurd hi (by omega)⟩, kl⟩ ?_ ?_
      · rintro j σ H3 hj ⟨⟨c7, c8, rfl⟩, ⟨xs, hl3, hC⟩, k23⟩
        have k3 := k2.trans k23
        try simp (maxSteps := 1000000) only [tSeq, tIfS, tTest, tOp, tUn, tCB, tCons, tNil, tVar, tC, rI0, rI, rU, rEq, rNe, tRet, tRetN, tAsg, gName, gSub, tBM, tBM0, tNext, tB, tNot, tAnd, tOr, tIf, tCall, tDrop, tBreak, tCont, L2.start, tDGet, sDPut, tTup, tLst, tDNewK, tRevL, rCat, rAppend, rPop, rSetL, tAndV, tOrV, tNotV, tSl, tPart, tNoPart, tM1, gTup, gCons, gNil, cxK, cxnK, List.map_cons, List.map_nil, List.length_cons, List.length_nil, List.replicate, List.cons_append, List.nil_append, List.append_nil, List.set_cons_zero, List.set_cons_succ, List.getElem?_cons_zero, List.getElem?_cons_succ, Option.some.injEq, V.ref.injEq, V.int.injEq, V.str.injEq, V.bl.injEq, V.ty.injEq, exists_eq_left', exists_eq_left, exists_and_left, List.cons.injEq, and_true, true_and, sc_ii, sc_ss, sc_bb, sc_ni, sc_in, sc_is, sc_si, sc_nn, decide_true, decide_false, reduceCtorEq, Bool.false_eq_true, if_true, if_false, ite_true, ite_false, exists_const, eq_self, false_and, and_false, or_false, false_or, exists_false, Evl.rLenS, rSum, wipe, tYes, exists_eq, exists_eq', rIxL, rIxT, rIxS, exists_and_right, gt_iff_lt, not_true_eq_false, not_false_eq_true, Bool.not_true, Bool.not_false, decide_eq_true_eq, Nat.reduceSub, Nat.reduceAdd, List.append_assoc, tChain, tDIn, tDNotIn, sDDel, tAug, ipI, tCallO]
        have hT3 := hT.kp k3
        have hasT : hasD rs (.str z) = true := by
          show (nameS z && decide (z ∈ rs.map (·.1))) = true
          rw [nms z hz, en', decide_eq_true hz]; rfl
        have szz : szD (.str z) = true := decide_eq_true (name8 (nms z hz))
        have cT := hT.cells z (by rw [en]; exact hz) j hj
        rw [hc z hz j hj] at cT
        refine ⟨.inr ⟨dx, _, k3 _ _ not0 ho⟩, t, .str z, .int (j : Nat), .str z, .int (j : Nat), m, 0, rs, rfl, hT3, .str z, szz, .int _, fun z' s' ez' es' hh i0 i1 p H4 hp k4 => ?_, fun hh => by (rw [hasT] at hh; cases hh), fun hh hb => ?_⟩
        · cases ez'
          cases es'
          rw [hc z hz j hj] at hp
          refine isi_mk (b := true) (.tup hp) (by decide +kernel) ?_
          try simp (maxSteps := 1000000) only [tSeq, tIfS, tTest, tOp, tUn, tCB, tCons, tNil, tVar, tC, rI0, rI, rU, rEq, rNe, tRet, tRetN, tAsg, gName, gSub, tBM, tBM0, tNext, tB, tNot, tAnd, tOr, tIf, tCall, tDrop, tBreak, tCont, L2.start, tDGet, sDPut, tTup, tLst, tDNewK, tRevL, rCat, rAppend, rPop, rSetL, tAndV, tOrV, tNotV, tSl, tPart, tNoPart, tM1, gTup, gCons, gNil, cxK, cxnK, List.map_cons, List.map_nil, List.length_cons, List.length_nil, List.replicate, List.cons_append, List.nil_append, List.append_nil, List.set_cons_zero, List.set_cons_succ, List.getElem?_cons_zero, List.getElem?_cons_succ, Option.some.injEq, V.ref.injEq, V.int.injEq, V.str.injEq, V.bl.injEq, V.ty.injEq, exists_eq_left', exists_eq_left, exists_and_left, List.cons.injEq, and_true, true_and, sc_ii, sc_ss, sc_bb, sc_ni, sc_in, sc_is, sc_si, sc_nn, decide_true, decide_false, reduceCtorEq, Bool.false_eq_true, if_true, if_false, ite_true, ite_false, exists_const, eq_self, false_and, and_false, or_false, false_or, exists_false, Evl.rLenS, rSum, wipe, tYes, exists_eq, exists_eq', rIxL, rIxT, rIxS, exists_and_right, gt_iff_lt, not_true_eq_false, not_false_eq_true, Bool.not_true, Bool.not_false, decide_eq_true_eq, Nat.reduceSub, Nat.reduceAdd, List.append_assoc, tChain, tDIn, tDNotIn, sDDel, tAug, ipI]
          refine ⟨_, .inr (sq_t hp), ?_⟩
          have e22 : (((([V.int (c z j).1, .int (c z j).2] : List V).length : Nat) : Int) = 2) = True := eq_true rfl
          try simp (maxSteps := 1000000) only [tSeq, tIfS, tTest, tOp, tUn, tCB, tCons, tNil, tVar, tC, rI0, rI, rU, rEq, rNe, tRet, tRetN, tAsg, gName, gSub, tBM, tBM0, tNext, tB, tNot, tAnd, tOr, tIf, tCall, tDrop, tBreak, tCont, L2.start, tDGet, sDPut, tTup, tLst, tDNewK, tRevL, rCat, rAppend, rPop, rSetL, tAndV, tOrV, tNotV, tSl, tPart, tNoPart, tM1, gTup, gCons, gNil, cxK, cxnK, List.map_cons, List.map_nil, List.length_cons, List.length_nil, List.replicate, List.cons_append, List.nil_append, List.append_nil, List.set_cons_zero, List.set_cons_succ, List.getElem?_cons_zero, List.getElem?_cons_succ, Option.some.injEq, V.ref.injEq, V.int.injEq, V.str.injEq, V.bl.injEq, V.ty.injEq, exists_eq_left', exists_eq_left, exists_and_left, List.cons.injEq, and_true, true_and, sc_ii, sc_ss, sc_bb, sc_ni, sc_in, sc_is, sc_si, sc_nn, decide_true, decide_false, reduceCtorEq, Bool.false_eq_true, if_true, if_false, ite_true, ite_false, exists_const, eq_self, false_and, and_false, or_false, false_or, exists_false, Evl.rLenS, rSum, wipe, tYes, exists_eq, exists_eq', rIxL, rIxT, rIxS, exists_and_right, gt_iff_lt, not_true_eq_false, not_false_eq_true, Bool.not_true, Bool.not_false, decide_eq_true_eq, Nat.reduceSub, Nat.reduceAdd, List.append_assoc, tChain, tDIn, tDNotIn, sDDel, tAug, ipI, e22]
          refine ⟨_, sq_t hp, .int (c z j).1, rfl, _, sq_t hp, .int (c z j).1, rfl, _, _, rfl, ?_⟩
          rw [decide_eq_true rfl]
          try simp (maxSteps := 1000000) only [tSeq, tIfS, tTest, tOp, tUn, tCB, tCons, tNil, tVar, tC, rI0, rI, rU, rEq, rNe, tRet, tRetN, tAsg, gName, gSub, tBM, tBM0, tNext, tB, tNot, tAnd, tOr, tIf, tCall, tDrop, tBreak, tCont, L2.start, tDGet, sDPut, tTup, tLst, tDNewK, tRevL, rCat, rAppend, rPop, rSetL, tAndV, tOrV, tNotV, tSl, tPart, tNoPart, tM1, gTup, gCons, gNil, cxK, cxnK, List.map_cons, List.map_nil, List.length_cons, List.length_nil, List.replicate, List.cons_append, List.nil_append, List.append_nil, List.set_cons_zero, List.set_cons_succ, List.getElem?_cons_zero, List.getElem?_cons_succ, Option.some.injEq, V.ref.injEq, V.int.injEq, V.str.injEq, V.bl.injEq, V.ty.injEq, exists_eq_left', exists_eq_left, exists_and_left, List.cons.injEq, and_true, true_and, sc_ii, sc_ss, sc_bb, sc_ni, sc_in, sc_is, sc_si, sc_nn, decide_true, decide_false, reduceCtorEq, Bool.false_eq_true, if_true, if_false, ite_true, ite_false, exists_const, eq_self, false_and, and_false, or_false, false_or, exists_false, Evl.rLenS, rSum, wipe, tYes, exists_eq, exists_eq', rIxL, rIxT, rIxS, exists_and_right, gt_iff_lt, not_true_eq_false, not_false_eq_true, Bool.not_true, Bool.not_false, decide_eq_true_eq, Nat.reduceSub, Nat.reduceAdd, List.append_assoc, tChain, tDIn, tDNotIn, sDDel, tAug, ipI]
          refine ⟨_, sq_t hp, .int (c z j).2, rfl, _, sq_t hp, .int (c z j).2, rfl, _, _, rfl, ?_⟩
          rw [decide_eq_true rfl]
          try simp (maxSteps := 1000000) only [tSeq, tIfS, tTest, tOp, tUn, tCB, tCons, tNil, tVar, tC, rI0, rI, rU, rEq, rNe, tRet, tRetN, tAsg, gName, gSub, tBM, tBM0, tNext, tB, tNot, tAnd, tOr, tIf, tCall, tDrop, tBreak, tCont, L2.start, tDGet, sDPut, tTup, tLst, tDNewK, tRevL, rCat, rAppend, rPop, rSetL, tAndV, tOrV, tNotV, tSl, tPart, tNoPart, tM1, gTup, gCons, gNil, cxK, cxnK, List.map_cons, List.map_nil, List.length_cons, List.length_nil, List.replicate, List.cons_append, List.nil_append, List.append_nil, List.set_cons_zero, List.set_cons_succ, List.getElem?_cons_zero, List.getElem?_cons_succ, Option.some.injEq, V.ref.injEq, V.int.injEq, V.str.injEq, V.bl.injEq, V.ty.injEq, exists_eq_left', exists_eq_left, exists_and_left, List.cons.injEq, and_true, true_and, sc_ii, sc_ss, sc_bb, sc_ni, sc_in, sc_is, sc_si, sc_nn, decide_true, decide_false, reduceCtorEq, Bool.false_eq_true, if_true, if_false, ite_true, ite_false, exists_const, eq_self, false_and, and_false, or_false, false_or, exists_false, Evl.rLenS, rSum, wipe, tYes, exists_eq, exists_eq', rIxL, rIxT, rIxS, exists_and_right, gt_iff_lt, not_true_eq_false, not_false_eq_true, Bool.not_true, Bool.not_false, decide_eq_true_eq, Nat.reduceSub, Nat.reduceAdd, List.append_assoc, tChain, tDIn, tDNotIn, sDDel, tAug, ipI]
          have hl4 := k4 _ _ not0 hl3
          have b1 : ¬ (c z j).2 < 0 := by omega
          have b2 : ¬ ((m : Nat) : Int) ≤ (c z j).2 := by omega
          refine ⟨_, sq_t hp, .int (c z j).2, rfl, _, rfl, ?_⟩
          rw [if_neg b1]
          refine ⟨_, sq_t hp, .int (c z j).2, rfl, _, rfl, ?_⟩
          rw [if_neg b2]
          exact ⟨.inl ⟨rfl, _, sq_l hl4⟩, xs, hl4, smallL (by rw [hC.1]; omega), ⟨_, upd_same, ((hC.kp k4).snoc hp).putL hl4⟩, (k23.trans k4).wr nl'⟩
        · have : (decide (0 ≤ (j : Int)) && decide ((j : Int) < (m : Nat))) = false := hb
          rw [decide_eq_true (by omega), decide_eq_true (by omega)] at this
          cases this
      · rintro σ H3 ⟨⟨c7, c8, rfl⟩, ⟨xs, hl3, hC⟩, k23⟩
        obtain ⟨kvs, hr7, hl7, hput, hrw7⟩ := hrw.put (z := z) (xs := xs) (c := c) k23 (nd_fresh nd ez) hl3 hC
        try simp (maxSteps := 1000000) only [tSeq, tIfS, tTest, tOp, tUn, tCB, tCons, tNil, tVar, tC, rI0, rI, rU, rEq, rNe, tRet, tRetN, tAsg, gName, gSub, tBM, tBM0, tNext, tB, tNot, tAnd, tOr, tIf, tCall, tDrop, tBreak, tCont, L2.start, tDGet, sDPut, tTup, tLst, tDNewK, tRevL, rCat, rAppend, rPop, rSetL, tAndV, tOrV, tNotV, tSl, tPart, tNoPart, tM1, gTup, gCons, gNil, cxK, cxnK, List.map_cons, List.map_nil, List.length_cons, List.length_nil, List.replicate, List.cons_append, List.nil_append, List.append_nil, List.set_cons_zero, List.set_cons_succ, List.getElem?_cons_zero, List.getElem?_cons_succ, Option.some.injEq, V.ref.injEq, V.int.injEq, V.str.injEq, V.bl.injEq, V.ty.injEq, exists_eq_left', exists_eq_left, exists_and_left, List.cons.injEq, and_true, true_and, sc_ii, sc_ss, sc_bb, sc_ni, sc_in, sc_is, sc_si, sc_nn, decide_true, decide_false, reduceCtorEq, Bool.false_eq_true, if_true, if_false, ite_true, ite_false, exists_const, eq_self, false_and, and_false, or_false, false_or, exists_false, Evl.rLenS, rSum, wipe, tYes, exists_eq, exists_eq', rIxL, rIxT, rIxS, exists_and_right, gt_iff_lt, not_true_eq_false, not_false_eq_true, Bool.not_true, Bool.not_false, decide_eq_true_eq, Nat.reduceSub, Nat.reduceAdd, List.append_assoc, tChain, tDIn, tDNotIn, sDDel, tAug, ipI, sDPut]
        refine ⟨_, DPut.k (k := Sum.inr z) hr7 (smallL (by rw [hl7, List.length_take]; omega)), ?_, (k2.trans k23).wr nr0⟩
        rw [hput, take_snoc ez]
        exact hrw7
    · rintro σ H2 ⟨⟨c5, c6, c7, c8, rfl⟩, hrw, k2⟩
      rw [List.length_map, List.take_length] at hrw
      try simp (maxSteps := 1000000) only [tSeq, tIfS, tTest, tOp, tUn, tCB, tCons, tNil, tVar, tC, rI0, rI, rU, rEq, rNe, tRet, tRetN, tAsg, gName, gSub, tBM, tBM0, tNext, tB, tNot, tAnd, tOr, tIf, tCall, tDrop, tBreak, tCont, L2.start, tDGet, sDPut, tTup, tLst, tDNewK, tRevL, rCat, rAppend, rPop, rSetL, tAndV, tOrV, tNotV, tSl, tPart, tNoPart, tM1, gTup, gCons, gNil, cxK, cxnK, List.map_cons, List.map_nil, List.length_cons, List.length_nil, List.replicate, List.cons_append, List.nil_append, List.append_nil, List.set_cons_zero, List.set_cons_succ, List.getElem?_cons_zero, List.getElem?_cons_succ, Option.some.injEq, V.ref.injEq, V.int.injEq, V.str.injEq, V.bl.injEq, V.ty.injEq, exists_eq_left', exists_eq_left, exists_and_left, List.cons.injEq, and_true, true_and, sc_ii, sc_ss, sc_bb, sc_ni, sc_in, sc_is, sc_si, sc_nn, decide_true, decide_false, reduceCtorEq, Bool.false_eq_true, if_true, if_false, ite_true, ite_false, exists_const, eq_self, false_and, and_false, or_false, false_or, exists_false, Evl.rLenS, rSum, wipe, tYes, exists_eq, exists_eq', rIxL, rIxT, rIxS, exists_and_right, gt_iff_lt, not_true_eq_false, not_false_eq_true, Bool.not_true, Bool.not_false, decide_eq_true_eq, Nat.reduceSub, Nat.reduceAdd, List.append_assoc, tChain, tDIn, tDNotIn, sDDel, tAug, ipI]
      exact q r H2 nr0 hrw k2
end
end My

set_option Elab.async false
set_option linter.all false
set_option maxRecDepth 100000
set_option maxHeartbeats 4000000
namespace My
open PySem L2 NdefX StX
abbrev s_law_long : Stmt := top 38
theorem sc_law_long : FnScope ["_law_names_here", "_law_d", "_law_rows_here", "_law_k", "_law_size", "_law_state"] ["_law_names_here", "_law_d"] (defScope s_law_long) := ⟨rfl, rfl, rfl, by decide +kernel, rfl, by decide +kernel, by decide +kernel⟩
/-- the size of a chain or a circle -/
def longM (d4 d5 d6 d7 : Int) : Nat := if d4 = 6 then (1 + d5 % (if d7 = 2 then 100 else 24)).toNat else ((1 + d6) * (1 + d5 % 10)).toNat
def longC (zs : List Str) (m : Nat) (d4 d6 d7 : Int) (z : Str) (s : Nat) : Int × Int := if zs.idxOf z = 0 then (if d4 = 6 then (if s + 1 < m then (0, ((s : Nat) : Int) + 1) else (d6, (m : Nat) - 1)) else (((s : Nat) : Int) % (1 + d6), (((s : Nat) : Int) + 1) % (m : Nat))) else (0, (((s : Nat) : Int) * d7) % (m : Nat))
section
variable {P : Program} {w : World} {K : PySem.W.Frag} {mg : Str → Option Value} {base : Heap}
structure BtJ (mg : Str → Option Value) : Prop where
  b_len : mg "len" = none
  b_range : mg "range" = none
  b_int : mg "int" = none
theorem longM_bnd {d4 d5 d6 d7 : Int} (h5 : 0 ≤ d5 ∧ d5 < 100) (h6 : 0 ≤ d6 ∧ d6 < 10) : 1 ≤ longM d4 d5 d6 d7 ∧ longM d4 d5 d6 d7 ≤ 100 := by
  have a := Int.emod_nonneg d5 (show (10 : Int) ≠ 0 by decide)
  have b := Int.emod_lt_of_pos d5 (show (0 : Int) < 10 by decide)
  unfold longM
  split
  · split
    · omega
    · omega
  · have e : (1 + d6) * (1 + d5 % 10) ≤ 10 * 10 := Int.mul_le_mul (by omega) (by omega) (by omega) (by decide)
    have e2 : 1 * 1 ≤ (1 + d6) * (1 + d5 % 10) := Int.mul_le_mul (by omega) (by omega) (by omega) (by omega)
    omega
theorem longC_ok {zs : List Str} {m : Nat} {d4 d6 d7 : Int} (m1 : 1 ≤ m) (h6 : 0 ≤ d6 ∧ d6 < 10) : CellB zs m 10 (longC zs m d4 d6 d7) := fun z hz s hs => by
  have a := Int.emod_nonneg ((s : Nat) : Int) (show (1 + d6) ≠ 0 by omega)
  have b := Int.emod_lt_of_pos ((s : Nat) : Int) (show (0 : Int) < 1 + d6 by omega)
  have a2 := Int.emod_nonneg (((s : Nat) : Int) + 1) (show ((m : Nat) : Int) ≠ 0 by omega)
  have b2 := Int.emod_lt_of_pos (((s : Nat) : Int) + 1) (show (0 : Int) < (m : Nat) by omega)
  have a3 := Int.emod_nonneg (((s : Nat) : Int) * d7) (show ((m : Nat) : Int) ≠ 0 by omega)
  have b3 := Int.emod_lt_of_pos (((s : Nat) : Int) * d7) (show (0 : Int) < (m : Nat) by omega)
  unfold longC
  split
  · split
    · split
      · exact ⟨⟨Int.le_refl 0, by show (0 : Int) < 10; decide⟩, by show (0 : Int) ≤ (s : Nat) + 1; omega, by show ((s : Nat) : Int) + 1 < (m : Nat); omega⟩
      · exact ⟨h6, by show (0 : Int) ≤ (m : Nat) - 1; omega, by show ((m : Nat) : Int) - 1 < (m : Nat); omega⟩
    · exact ⟨⟨a, by show ((s : Nat) : Int) % (1 + d6) < 10; omega⟩, a2, b2⟩
  · exact ⟨⟨Int.le_refl 0, by show (0 : Int) < 10; decide⟩, a3, b3⟩
def spLong : Sp := fun vs H Q _ => ∃ (nl dl : Addr) (zs : List Str) (ds : List Int) (d4 d5 d6 d7 : Int), vs = [.ref nl, .ref dl] ∧ H nl = some (.lst (zs.map V.str)) ∧ zs.Nodup ∧ zs.length ≤ 6 ∧ H dl = some (.lst (ds.map V.int)) ∧ ds[4]? = some d4 ∧ ds[5]? = some d5 ∧ ds[6]? = some d6 ∧ ds[7]? = some d7 ∧ (0 ≤ d5 ∧ d5 < 100) ∧ (0 ≤ d6 ∧ d6 < 10) ∧ (0 ≤ d7 ∧ d7 < 3) ∧ ∀ r H', H r = none → RwAt H' r zs (longM d4 d5 d6 d7) (longC zs (longM d4 d5 d6 d7) d4 d6 d7) → Kp [] H H' → Q (.ref r) H'
theorem ok_law_long {f : Addr} {fd : FuncData} (D : Df K mg "_law_long" s_law_long ["_law_names_here", "_law_d"] f fd) (T : BtJ mg) : FnOk P w K mg base CX0 1 f fd ["_law_names_here", "_law_d"] spLong := by
  refine D.F.ok sc_law_long (fun vs H Q E h => ?_) (fun cdv A outer s H vs Q E hr h => ?_)
  · obtain ⟨nl, dl, zs, ds, d4, d5, d6, d7, rfl, _⟩ := h
    rfl
  · obtain ⟨nl, dl, zs, ds, d4, d5, d6, d7, rfl, hn, nd, z6, hdl, e4, e5, e6, e7, h5, h6, h7, q⟩ := h
    have hu := hu_of hr
    refine ⟨_, (pss_cons (ps_set (i := 2) sc_law_long.nd rfl (Or.inl rfl) pe_dnewK)
      (pss_cons (ps_for PassesOwn.never rfl (pi_range1 rfl T.b_range (pa_cons (pe_callB (id := "len") (r := Evl.rLenS K) call_len_seq (by rfl) T.b_len PySem.boot_len (pa_cons (pv 0) pa_nil)) pa_nil)) (pg_name (i := 3) sc_law_long.nd rfl (Or.inl rfl)) (pss_cons (ps_set (i := 4) sc_law_long.nd rfl (Or.inr rfl) (pe_op op_mul (pe_op op_add pe_int (pe_ix (r := rIxL K) ix_list (pv 1) pe_int (fun _ _ => rfl))) (pe_op op_add pe_int (pe_op op_mod (pe_callTy (T := "int") (r := rIv) call_int1 (by rfl) T.b_int (by decide +kernel) (pa_cons (pe_ix (r := rIxL K) ix_list (pv 1) pe_int (fun _ _ => rfl)) pa_nil)) pe_int))))
      (pss_cons (ps_if (pt_cmpR op_eq (pe_ix (r := rIxL K) ix_list (pv 1) pe_int (fun _ _ => rfl)) pe_int (nomark _)) (pss_one (ps_set (i := 4) sc_law_long.nd rfl (Or.inr rfl) (pe_op op_add pe_int (pe_op op_mod (pe_callTy (T := "int") (r := rIv) call_int1 (by rfl) T.b_int (by decide +kernel) (pa_cons (pe_ix (r := rIxL K) ix_list (pv 1) pe_int (fun _ _ => rfl)) pa_nil)) (pe_ix (r := rIxL K) ix_list (pe_lst (pa_cons pe_int (pa_cons pe_int (pa_cons pe_int pa_nil)))) (pe_ix (r := rIxL K) ix_list (pv 1) pe_int (fun _ _ => rfl)) (fun _ _ => rfl)))))) pss_nil)
      (pss_one (ps_if (pt_cmpR op_gt (pv 3) pe_int (nomark _)) (pss_one (ps_dput hu (pv 2) (pe_ix (r := rIxL K) ix_list (pv 0) (pv 3) (fun _ _ => rfl)) (pe_lc (own := [("_law_state", 5)]) (g := (gName 5)) (tt := tYes) rfl sc_law_long.nd (pi_range1 rfl T.b_range (pa_cons (pv 4) pa_nil)) (blkOk_by (N := ["_law_names_here", "_law_d", "_law_rows_here", "_law_k", "_law_size", "_law_state"]) (sc := defScope s_law_long) (by decide +kernel)) (fun _ _ _ _ _ => (pg_name (i := 5) sc_law_long.nd rfl (Or.inl rfl))) (fun _ _ _ _ _ => pts_nil) (fun _ _ _ _ _ => (pe_tup (pa_cons pe_int (pa_cons (pe_op op_mod (pe_callTy (T := "int") (r := rIv) call_int1 (by rfl) T.b_int (by decide +kernel) (pa_cons (pe_op op_mul (pv 5) (pe_ix (r := rIxL K) ix_list (pv 1) pe_int (fun _ _ => rfl))) pa_nil)) (pv 4)) pa_nil))))) rfl)) (pss_one (ps_if (pt_cmpR op_eq (pe_ix (r := rIxL K) ix_list (pv 1) pe_int (fun _ _ => rfl)) pe_int (nomark _)) (pss_one (ps_dput hu (pv 2) (pe_ix (r := rIxL K) ix_list (pv 0) (pv 3) (fun _ _ => rfl)) (pe_op op_cat (pe_lc (own := [("_law_state", 5)]) (g := (gName 5)) (tt := tYes) rfl sc_law_long.nd (pi_range1 rfl T.b_range (pa_cons (pe_op op_sub (pv 4) pe_int) pa_nil)) (blkOk_by (N := ["_law_names_here", "_law_d", "_law_rows_here", "_law_k", "_law_size", "_law_state"]) (sc := defScope s_law_long) (by decide +kernel)) (fun _ _ _ _ _ => (pg_name (i := 5) sc_law_long.nd rfl (Or.inl rfl))) (fun _ _ _ _ _ => pts_nil) (fun _ _ _ _ _ => (pe_tup (pa_cons pe_int (pa_cons (pe_op op_add (pv 5) pe_int) pa_nil))))) (pe_lst (pa_cons (pe_tup (pa_cons (pe_ix (r := rIxL K) ix_list (pv 1) pe_int (fun _ _ => rfl)) (pa_cons (pe_op op_sub (pv 4) pe_int) pa_nil))) pa_nil))) rfl)) (pss_one (ps_dput hu (pv 2) (pe_ix (r := rIxL K) ix_list (pv 0) (pv 3) (fun _ _ => rfl)) (pe_lc (own := [("_law_state", 5)]) (g := (gName 5)) (tt := tYes) rfl sc_law_long.nd (pi_range1 rfl T.b_range (pa_cons (pv 4) pa_nil)) (blkOk_by (N := ["_law_names_here", "_law_d", "_law_rows_here", "_law_k", "_law_size", "_law_state"]) (sc := defScope s_law_long) (by decide +kernel)) (fun _ _ _ _ _ => (pg_name (i := 5) sc_law_long.nd rfl (Or.inl rfl))) (fun _ _ _ _ _ => pts_nil) (fun _ _ _ _ _ => (pe_tup (pa_cons (pe_op op_mod (pe_callTy (T := "int") (r := rIv) call_int1 (by rfl) T.b_int (by decide +kernel) (pa_cons (pv 5) pa_nil)) (pe_op op_add pe_int (pe_ix (r := rIxL K) ix_list (pv 1) pe_int (fun _ _ => rfl)))) (pa_cons (pe_op op_mod (pe_callTy (T := "int") (r := rIv) call_int1 (by rfl) T.b_int (by decide +kernel) (pa_cons (pe_op op_add (pv 5) pe_int) pa_nil)) (pv 4)) pa_nil))))) rfl)))))))))
      (pss_one (ps_ret (pv 2))))), ?_⟩
    try simp (maxSteps := 1000000) only [tSeq, tIfS, tTest, tOp, tUn, tCB, tCons, tNil, tVar, tC, rI0, rI, rU, rEq, rNe, tRet, tRetN, tAsg, gName, gSub, tBM, tBM0, tNext, tB, tNot, tAnd, tOr, tIf, tCall, tDrop, tBreak, tCont, L2.start, tDGet, sDPut, tTup, tLst, tDNewK, tRevL, rCat, rAppend, rPop, rSetL, tAndV, tOrV, tNotV, tSl, tPart, tNoPart, tM1, gTup, gCons, gNil, cxK, cxnK, List.map_cons, List.map_nil, List.length_cons, List.length_nil, List.replicate, List.cons_append, List.nil_append, List.append_nil, List.set_cons_zero, List.set_cons_succ, List.getElem?_cons_zero, List.getElem?_cons_succ, Option.some.injEq, V.ref.injEq, V.int.injEq, V.str.injEq, V.bl.injEq, V.ty.injEq, exists_eq_left', exists_eq_left, exists_and_left, List.cons.injEq, and_true, true_and, sc_ii, sc_ss, sc_bb, sc_ni, sc_in, sc_is, sc_si, sc_nn, decide_true, decide_false, reduceCtorEq, Bool.false_eq_true, if_true, if_false, ite_true, ite_false, exists_const, eq_self, false_and, and_false, or_false, false_or, exists_false, Evl.rLenS, rSum, wipe, tYes, exists_eq, exists_eq', rIxL, rIxT, rIxS, exists_and_right, gt_iff_lt, not_true_eq_false, not_false_eq_true, Bool.not_true, Bool.not_false, decide_eq_true_eq, Nat.reduceSub, Nat.reduceAdd, List.append_assoc, tChain, tDIn, tDNotIn, sDDel, tAug, ipI]
    obtain ⟨mb1, mb2⟩ := longM_bnd (d4 := d4) (d7 := d7) h5 h6
    generalize hm : longM d4 d5 d6 d7 = m at *
    intro r nr
    have kr : Kp [] H (upd H r (.dK [])) := Kp.new nr
    have at_ : ∀ {i : Nat} {x : Int}, ds[i]? = some x → atI (ds.map V.int) ((i : Nat) : Int) = some (.int x) := fun {i x} e => atI_nat (by rw [List.getElem?_map, e]; rfl)
    refine forRg zs.length (fun k σ H' => (∃ c3 c4 c5 : Option V, σ = [some (.ref nl), some (.ref dl), some (.ref r), c3, c4, c5]) ∧ RwAt H' r (zs.take k) m (longC zs m d4 d6 d7) ∧ Kp [] H H') (fun R q' => ?_) (by omega) (by omega) ⟨⟨_, _, _, rfl⟩, ⟨[], upd_same, rfl, fun i z e => by cases e⟩, kr⟩ ?_ ?_
    · try simp (maxSteps := 1000000) only [tSeq, tIfS, tTest, tOp, tUn, tCB, tCons, tNil, tVar, tC, rI0, rI, rU, rEq, rNe, tRet, tRetN, tAsg, gName, gSub, tBM, tBM0, tNext, tB, tNot, tAnd, tOr, tIf, tCall, tDrop, tBreak, tCont, L2.start, tDGet, sDPut, tTup, tLst, tDNewK, tRevL, rCat, rAppend, rPop, rSetL, tAndV, tOrV, tNotV, tSl, tPart, tNoPart, tM1, gTup, gCons, gNil, cxK, cxnK, List.map_cons, List.map_nil, List.length_cons, List.length_nil, List.replicate, List.cons_append, List.nil_append, List.append_nil, List.set_cons_zero, List.set_cons_succ, List.getElem?_cons_zero, List.getElem?_cons_succ, Option.some.injEq, V.ref.injEq, V.int.injEq, V.str.injEq, V.bl.injEq, V.ty.injEq, exists_eq_left', exists_eq_left, exists_and_left, List.cons.injEq, and_true, true_and, sc_ii, sc_ss, sc_bb, sc_ni, sc_in, sc_is, sc_si, sc_nn, decide_true, decide_false, reduceCtorEq, Bool.false_eq_true, if_true, if_false, ite_true, ite_false, exists_const, eq_self, false_and, and_false, or_false, false_or, exists_false, Evl.rLenS, rSum, wipe, tYes, exists_eq, exists_eq', rIxL, rIxT, rIxS, exists_and_right, gt_iff_lt, not_true_eq_false, not_false_eq_true, Bool.not_true, Bool.not_false, decide_eq_true_eq, Nat.reduceSub, Nat.reduceAdd, List.append_assoc, tChain, tDIn, tDNotIn, sDDel, tAug, ipI]
      refine ⟨_, .inl (sq_l (kr _ _ not0 hn)), ?_⟩
      rw [List.length_map]
      exact q'
    · rintro k σ H2 hk ⟨⟨c3, c4, c5, rfl⟩, hrw, k2⟩
      have hd2 := k2 _ _ not0 hdl
      have hn2 := k2 _ _ not0 hn
      obtain ⟨z, ez⟩ : ∃ z, zs[k]? = some z := ⟨zs[k], List.getElem?_eq_getElem hk⟩
      have ix : zs.idxOf z = k := by
        obtain ⟨hj, ej⟩ := List.getElem?_eq_some_iff.mp ez
        have hz : z ∈ zs := List.mem_of_getElem? ez
        have h1 := List.idxOf_lt_length_iff.mpr hz
        have h2 : zs[zs.idxOf z] = z := List.getElem_idxOf h1
        exact (List.getElem_inj nd).mp (h2.trans ej.symm)
      try simp (maxSteps := 1000000) only [tSeq, tTest, tOp, tUn, tCB, tCons, tNil, tVar, tC, rI0, rI, rU, rEq, rNe, tRet, tRetN, tAsg, gName, gSub, tBM, tBM0, tNext, tB, tNot, tAnd, tOr, tIf, tCall, tDrop, tBreak, tCont, L2.start, tDGet, sDPut, tTup, tLst, tDNewK, tRevL, rCat, rAppend, rPop, rSetL, tAndV, tOrV, tNotV, tSl, tPart, tNoPart, tM1, gTup, gCons, gNil, cxK, cxnK, List.map_cons, List.map_nil, List.length_cons, List.length_nil, List.replicate, List.cons_append, List.nil_append, List.append_nil, List.set_cons_zero, List.set_cons_succ, List.getElem?_cons_zero, List.getElem?_cons_succ, Option.some.injEq, V.ref.injEq, V.int.injEq, V.str.injEq, V.bl.injEq, V.ty.injEq, exists_eq_left', exists_eq_left, exists_and_left, List.cons.injEq, and_true, true_and, sc_ii, sc_ss, sc_bb, sc_ni, sc_in, sc_is, sc_si, sc_nn, decide_true, decide_false, reduceCtorEq, Bool.false_eq_true, if_true, if_false, ite_true, ite_false, exists_const, eq_self, false_and, and_false, or_false, false_or, exists_false, Evl.rLenS, rSum, wipe, tYes, exists_eq, exists_eq', rIxL, rIxT, rIxS, exists_and_right, gt_iff_lt, not_true_eq_false, not_false_eq_true, Bool.not_true, Bool.not_false, decide_eq_true_eq, Nat.reduceSub, Nat.reduceAdd, List.append_assoc, tChain, tDIn, tDNotIn, sDDel, tAug, ipI]
      have a4 := at_ e4
      have a5 := at_ e5
      have a6 := at_ e6
      have a7 := at_ e7
      refine ⟨_, sq_l hd2, _, a6, _, rfl, _, sq_l hd2, _, a5, ?_⟩
      try simp (maxSteps := 1000000) only [tSeq, tTest, tOp, tUn, tCB, tCons, tNil, tVar, tC, rI0, rI, rU, rEq, rNe, tRet, tRetN, tAsg, gName, gSub, tBM, tBM0, tNext, tB, tNot, tAnd, tOr, tIf, tCall, tDrop, tBreak, tCont, L2.start, tDGet, sDPut, tTup, tLst, tDNewK, tRevL, rCat, rAppend, rPop, rSetL, tAndV, tOrV, tNotV, tSl, tPart, tNoPart, tM1, gTup, gCons, gNil, cxK, cxnK, List.map_cons, List.map_nil, List.length_cons, List.length_nil, List.replicate, List.cons_append, List.nil_append, List.append_nil, List.set_cons_zero, List.set_cons_succ, List.getElem?_cons_zero, List.getElem?_cons_succ, Option.some.injEq, V.ref.injEq, V.int.injEq, V.str.injEq, V.bl.injEq, V.ty.injEq, exists_eq_left', exists_eq_left, exists_and_left, List.cons.injEq, and_true, true_and, sc_ii, sc_ss, sc_bb, sc_ni, sc_in, sc_is, sc_si, sc_nn, decide_true, decide_false, reduceCtorEq, Bool.false_eq_true, if_true, if_false, ite_true, ite_false, exists_const, eq_self, false_and, and_false, or_false, false_or, exists_false, Evl.rLenS, rSum, wipe, tYes, exists_eq, exists_eq', rIxL, rIxT, rIxS, exists_and_right, gt_iff_lt, not_true_eq_false, not_false_eq_true, Bool.not_true, Bool.not_false, decide_eq_true_eq, Nat.reduceSub, Nat.reduceAdd, List.append_assoc, tChain, tDIn, tDNotIn, sDDel, tAug, ipI, rIv_int]
      have p5 := Int.emod_nonneg d5 (show (10 : Int) ≠ 0 by decide)
      refine ⟨by decide, .inl ⟨by omega, by omega⟩, ?_⟩
      refine ifs_both (fun σ' H' => σ' = [some (.ref nl), some (.ref dl), some (.ref r), some (.int (k : Nat)), some (.int (m : Nat)), c5] ∧ Kp [] H2 H') (fun Dn hDn => ?_) ?_
      · try simp (maxSteps := 1000000) only [tSeq, tIfS, tTest, tOp, tUn, tCB, tCons, tNil, tVar, tC, rI0, rI, rU, rEq, rNe, tRet, tRetN, tAsg, gName, gSub, tBM, tBM0, tNext, tB, tNot, tAnd, tOr, tIf, tCall, tDrop, tBreak, tCont, L2.start, tDGet, sDPut, tTup, tLst, tDNewK, tRevL, rCat, rAppend, rPop, rSetL, tAndV, tOrV, tNotV, tSl, tPart, tNoPart, tM1, gTup, gCons, gNil, cxK, cxnK, List.map_cons, List.map_nil, List.length_cons, List.length_nil, List.replicate, List.cons_append, List.nil_append, List.append_nil, List.set_cons_zero, List.set_cons_succ, List.getElem?_cons_zero, List.getElem?_cons_succ, Option.some.injEq, V.ref.injEq, V.int.injEq, V.str.injEq, V.bl.injEq, V.ty.injEq, exists_eq_left', exists_eq_left, exists_and_left, List.cons.injEq, and_true, true_and, sc_ii, sc_ss, sc_bb, sc_ni, sc_in, sc_is, sc_si, sc_nn, decide_true, decide_false, reduceCtorEq, Bool.false_eq_true, if_true, if_false, ite_true, ite_false, exists_const, eq_self, false_and, and_false, or_false, false_or, exists_false, Evl.rLenS, rSum, wipe, tYes, exists_eq, exists_eq', rIxL, rIxT, rIxS, exists_and_right, gt_iff_lt, not_true_eq_false, not_false_eq_true, Bool.not_true, Bool.not_false, decide_eq_true_eq, Nat.reduceSub, Nat.reduceAdd, List.append_assoc, tChain, tDIn, tDNotIn, sDDel, tAug, ipI]
        refine ⟨_, sq_l hd2, _, a4, rfl, ?_⟩
        by_cases z4 : d4 = 6
        · rw [if_pos (by rw [z4])]
          refine ⟨_, sq_l hd2, _, a5, ?_⟩
          try simp (maxSteps := 1000000) only [tSeq, tIfS, tTest, tOp, tUn, tCB, tCons, tNil, tVar, tC, rI0, rI, rU, rEq, rNe, tRet, tRetN, tAsg, gName, gSub, tBM, tBM0, tNext, tB, tNot, tAnd, tOr, tIf, tCall, tDrop, tBreak, tCont, L2.start, tDGet, sDPut, tTup, tLst, tDNewK, tRevL, rCat, rAppend, rPop, rSetL, tAndV, tOrV, tNotV, tSl, tPart, tNoPart, tM1, gTup, gCons, gNil, cxK, cxnK, List.map_cons, List.map_nil, List.length_cons, List.length_nil, List.replicate, List.cons_append, List.nil_append, List.append_nil, List.set_cons_zero, List.set_cons_succ, List.getElem?_cons_zero, List.getElem?_cons_succ, Option.some.injEq, V.ref.injEq, V.int.injEq, V.str.injEq, V.bl.injEq, V.ty.injEq, exists_eq_left', exists_eq_left, exists_and_left, List.cons.injEq, and_true, true_and, sc_ii, sc_ss, sc_bb, sc_ni, sc_in, sc_is, sc_si, sc_nn, decide_true, decide_false, reduceCtorEq, Bool.false_eq_true, if_true, if_false, ite_true, ite_false, exists_const, eq_self, false_and, and_false, or_false, false_or, exists_false, Evl.rLenS, rSum, wipe, tYes, exists_eq, exists_eq', rIxL, rIxT, rIxS, exists_and_right, gt_iff_lt, not_true_eq_false, not_false_eq_true, Bool.not_true, Bool.not_false, decide_eq_true_eq, Nat.reduceSub, Nat.reduceAdd, List.append_assoc, tChain, tDIn, tDNotIn, sDDel, tAug, ipI, rIv_int]
          refine ⟨by rw [sizeLine_eq]; decide, fun p np => ?_⟩
          have kp : Kp [] H2 (upd H2 p (.lst [.int 24, .int 24, .int 100])) := Kp.new np
          have fin : ∀ x : Int, (if d7 = 2 then (100 : Int) else 24) = x → Dn.nx [some (.ref nl), some (.ref dl), some (.ref r), some (.int (k : Nat)), some (.int (1 + d5 % x)), c5] (upd H2 p (.lst [.int 24, .int 24, .int 100])) := fun x ex => by
            have px : 0 < x := by rw [← ex]; split <;> decide
            have p5x := Int.emod_nonneg d5 (show x ≠ 0 by omega)
            refine hDn _ _ ⟨?_, kp⟩
            rw [← hm]
            unfold longM
            rw [if_pos z4, ex, Int.toNat_of_nonneg (by omega)]
          refine ⟨_, sq_l (kp _ _ not0 hd2), _, a7, _, _, rfl, sq_l upd_same, ?_⟩
          rcases (show d7 = 0 ∨ d7 = 1 ∨ d7 = 2 by omega) with e | e | e <;> subst e
          · exact ⟨_, rfl, _, rfl, by decide, fin _ rfl⟩
          · exact ⟨_, rfl, _, rfl, by decide, fin _ rfl⟩
          · exact ⟨_, rfl, _, rfl, by decide, fin _ rfl⟩
        · rw [if_neg (fun e => z4 (by cases e; rfl))]
          refine hDn _ _ ⟨?_, Kp.refl [] _⟩
          rw [← hm]
          unfold longM
          rw [if_neg z4]
          have e2 : 1 * 1 ≤ (1 + d6) * (1 + d5 % 10) := Int.mul_le_mul (by omega) (by omega) (by omega) (by omega)
          rw [Int.toNat_of_nonneg (by omega)]
      rintro σ' H3 ⟨rfl, k23⟩
      have k3 := k2.trans k23
      have hd3 := k3 _ _ not0 hdl
      have hn3 := k3 _ _ not0 hn
      have hrw3 := hrw.kp k23
      have fin : ∀ (l : Addr) (xs : List V) (H7 : Hp), Kp [] H3 H7 → H7 l = some (.lst xs) → Cells (longC zs m d4 d6 d7 z) xs m H7 → ∃ kvs, H7 r = some (.dK kvs) ∧ kvs.length < sizeLine ∧ RwAt (upd H7 r (.dK (putK kvs (Sum.inr z) (.ref l)))) r (zs.take (k + 1)) m (longC zs m d4 d6 d7) := fun l xs H7 k7 hl hC => by
        obtain ⟨kvs, hr7, hl7, hput, hrw7⟩ := hrw3.put (z := z) (xs := xs) (c := longC zs m d4 d6 d7) k7 (nd_fresh nd ez) hl hC
        refine ⟨kvs, hr7, smallL (by rw [hl7, List.length_take]; omega), ?_⟩
        rw [hput, take_snoc ez]
        exact hrw7
      have ez' : (zs.map V.str)[k]? = some (.str z) := by rw [List.getElem?_map, ez]; rfl
      have two : (2 : Nat) ≤ sizeLine := by rw [sizeLine_eq]; decide
      try simp (maxSteps := 1000000) only [tSeq, tIfS, tTest, tOp, tUn, tCB, tCons, tNil, tVar, tC, rI0, rI, rU, rEq, rNe, tRet, tRetN, tAsg, gName, gSub, tBM, tBM0, tNext, tB, tNot, tAnd, tOr, tIf, tCall, tDrop, tBreak, tCont, L2.start, tDGet, sDPut, tTup, tLst, tDNewK, tRevL, rCat, rAppend, rPop, rSetL, tAndV, tOrV, tNotV, tSl, tPart, tNoPart, tM1, gTup, gCons, gNil, cxK, cxnK, List.map_cons, List.map_nil, List.length_cons, List.length_nil, List.replicate, List.cons_append, List.nil_append, List.append_nil, List.set_cons_zero, List.set_cons_succ, List.getElem?_cons_zero, List.getElem?_cons_succ, Option.some.injEq, V.ref.injEq, V.int.injEq, V.str.injEq, V.bl.injEq, V.ty.injEq, exists_eq_left', exists_eq_left, exists_and_left, List.cons.injEq, and_true, true_and, sc_ii, sc_ss, sc_bb, sc_ni, sc_in, sc_is, sc_si, sc_nn, decide_true, decide_false, reduceCtorEq, Bool.false_eq_true, if_true, if_false, ite_true, ite_false, exists_const, eq_self, false_and, and_false, or_false, false_or, exists_false, Evl.rLenS, rSum, wipe, tYes, exists_eq, exists_eq', rIxL, rIxT, rIxS, exists_and_right, gt_iff_lt, not_true_eq_false, not_false_eq_true, Bool.not_true, Bool.not_false, decide_eq_true_eq, Nat.reduceSub, Nat.reduceAdd, List.append_assoc, tChain, tDIn, tDNotIn, sDDel, tAug, ipI]
      by_cases k0 : 0 < k
      · rw [if_pos (by omega)]
        refine lcRgN m (by omega) (fun D i H' => ∃ xs, H' D = some (.lst xs) ∧ Cells (longC zs m d4 d6 d7 z) xs i H' ∧ Kp [] H3 H') (fun R q' => ⟨_, rfl, q'⟩) (fun D nD => ⟨[], upd_same, ⟨rfl, fun i hi => absurd hi (by omega)⟩, Kp.new nD⟩) ?_ ?_
        · rintro D i H4 nD hi ⟨xs, hD, hC, k4⟩
          try simp (maxSteps := 1000000) only [tSeq, tIfS, tTest, tOp, tUn, tCB, tCons, tNil, tVar, tC, rI0, rI, rU, rEq, rNe, tRet, tRetN, tAsg, gName, gSub, tBM, tBM0, tNext, tB, tNot, tAnd, tOr, tIf, tCall, tDrop, tBreak, tCont, L2.start, tDGet, sDPut, tTup, tLst, tDNewK, tRevL, rCat, rAppend, rPop, rSetL, tAndV, tOrV, tNotV, tSl, tPart, tNoPart, tM1, gTup, gCons, gNil, cxK, cxnK, List.map_cons, List.map_nil, List.length_cons, List.length_nil, List.replicate, List.cons_append, List.nil_append, List.append_nil, List.set_cons_zero, List.set_cons_succ, List.getElem?_cons_zero, List.getElem?_cons_succ, Option.some.injEq, V.ref.injEq, V.int.injEq, V.str.injEq, V.bl.injEq, V.ty.injEq, exists_eq_left', exists_eq_left, exists_and_left, List.cons.injEq, and_true, true_and, sc_ii, sc_ss, sc_bb, sc_ni, sc_in, sc_is, sc_si, sc_nn, decide_true, decide_false, reduceCtorEq, Bool.false_eq_true, if_true, if_false, ite_true, ite_false, exists_const, eq_self, false_and, and_false, or_false, false_or, exists_false, Evl.rLenS, rSum, wipe, tYes, exists_eq, exists_eq', rIxL, rIxT, rIxS, exists_and_right, gt_iff_lt, not_true_eq_false, not_false_eq_true, Bool.not_true, Bool.not_false, decide_eq_true_eq, Nat.reduceSub, Nat.reduceAdd, List.append_assoc, tChain, tDIn, tDNotIn, sDDel, tAug, ipI]
          refine ⟨_, sq_l (k4 _ _ not0 hd3), _, a7, _, rfl, .inl ⟨by omega, by omega⟩, ?_⟩
          try simp (maxSteps := 1000000) only [tSeq, tIfS, tTest, tOp, tUn, tCB, tCons, tNil, tVar, tC, rI0, rI, rU, rEq, rNe, tRet, tRetN, tAsg, gName, gSub, tBM, tBM0, tNext, tB, tNot, tAnd, tOr, tIf, tCall, tDrop, tBreak, tCont, L2.start, tDGet, sDPut, tTup, tLst, tDNewK, tRevL, rCat, rAppend, rPop, rSetL, tAndV, tOrV, tNotV, tSl, tPart, tNoPart, tM1, gTup, gCons, gNil, cxK, cxnK, List.map_cons, List.map_nil, List.length_cons, List.length_nil, List.replicate, List.cons_append, List.nil_append, List.append_nil, List.set_cons_zero, List.set_cons_succ, List.getElem?_cons_zero, List.getElem?_cons_succ, Option.some.injEq, V.ref.injEq, V.int.injEq, V.str.injEq, V.bl.injEq, V.ty.injEq, exists_eq_left', exists_eq_left, exists_and_left, List.cons.injEq, and_true, true_and, sc_ii, sc_ss, sc_bb, sc_ni, sc_in, sc_is, sc_si, sc_nn, decide_true, decide_false, reduceCtorEq, Bool.false_eq_true, if_true, if_false, ite_true, ite_false, exists_const, eq_self, false_and, and_false, or_false, false_or, exists_false, Evl.rLenS, rSum, wipe, tYes, exists_eq, exists_eq', rIxL, rIxT, rIxS, exists_and_right, gt_iff_lt, not_true_eq_false, not_false_eq_true, Bool.not_true, Bool.not_false, decide_eq_true_eq, Nat.reduceSub, Nat.reduceAdd, List.append_assoc, tChain, tDIn, tDNotIn, sDDel, tAug, ipI, rIv_int]
          refine ⟨by omega, two, fun p np => ?_⟩
          have kp := (Kp.new np : Kp [] H4 (upd H4 p (.tup [.int 0, .int (((i : Nat) : Int) * d7 % (m : Nat))])))
          have hD2 := kp _ _ not0 hD
          refine ⟨xs, hD2, smallL (by rw [hC.1]; omega), xs ++ [.ref p], upd_same, ((hC.kp kp).snoc ?_).putL hD2, (k4.trans kp).wr nD⟩
          rw [upd_same]
          unfold longC
          rw [ix, if_neg (by omega)]
        · rintro D H4 nD ⟨xs, hD, hC, k4⟩
          obtain ⟨kvs, hr4, hs4, hrw4⟩ := fin D xs H4 k4 hD hC
          exact ⟨_, sq_l (k4 _ _ not0 hn3), _, atI_nat ez', _, DPut.k (k := Sum.inr z) hr4 hs4, hrw4, (k3.trans k4).wr nr⟩
      · rw [if_neg (by omega)]
        have k00 : k = 0 := by omega
        refine ⟨_, sq_l hd3, _, a4, rfl, ?_⟩
        by_cases z4 : d4 = 6
        · rw [if_pos (by rw [z4])]
          refine lcRgN (m - 1) (by omega) (fun D i H' => ∃ xs, H' D = some (.lst xs) ∧ Cells (longC zs m d4 d6 d7 z) xs i H' ∧ Kp [] H3 H') (fun R q' => ?_) (fun D nD => ⟨[], upd_same, ⟨rfl, fun i hi => absurd hi (by omega)⟩, Kp.new nD⟩) ?_ ?_
          · try simp (maxSteps := 1000000) only [tSeq, tIfS, tTest, tOp, tUn, tCB, tCons, tNil, tVar, tC, rI0, rI, rU, rEq, rNe, tRet, tRetN, tAsg, gName, gSub, tBM, tBM0, tNext, tB, tNot, tAnd, tOr, tIf, tCall, tDrop, tBreak, tCont, L2.start, tDGet, sDPut, tTup, tLst, tDNewK, tRevL, rCat, rAppend, rPop, rSetL, tAndV, tOrV, tNotV, tSl, tPart, tNoPart, tM1, gTup, gCons, gNil, cxK, cxnK, List.map_cons, List.map_nil, List.length_cons, List.length_nil, List.replicate, List.cons_append, List.nil_append, List.append_nil, List.set_cons_zero, List.set_cons_succ, List.getElem?_cons_zero, List.getElem?_cons_succ, Option.some.injEq, V.ref.injEq, V.int.injEq, V.str.injEq, V.bl.injEq, V.ty.injEq, exists_eq_left', exists_eq_left, exists_and_left, List.cons.injEq, and_true, true_and, sc_ii, sc_ss, sc_bb, sc_ni, sc_in, sc_is, sc_si, sc_nn, decide_true, decide_false, reduceCtorEq, Bool.false_eq_true, if_true, if_false, ite_true, ite_false, exists_const, eq_self, false_and, and_false, or_false, false_or, exists_false, Evl.rLenS, rSum, wipe, tYes, exists_eq, exists_eq', rIxL, rIxT, rIxS, exists_and_right, gt_iff_lt, not_true_eq_false, not_false_eq_true, Bool.not_true, Bool.not_false, decide_eq_true_eq, Nat.reduceSub, Nat.reduceAdd, List.append_assoc, tChain, tDIn, tDNotIn, sDDel, tAug, ipI]
            rw [show ((m : Nat) : Int) - 1 = ((m - 1 : Nat) : Int) by omega]
            exact q'
          · rintro D i H4 nD hi ⟨xs, hD, hC, k4⟩
            try simp (maxSteps := 1000000) only [tSeq, tIfS, tTest, tOp, tUn, tCB, tCons, tNil, tVar, tC, rI0, rI, rU, rEq, rNe, tRet, tRetN, tAsg, gName, gSub, tBM, tBM0, tNext, tB, tNot, tAnd, tOr, tIf, tCall, tDrop, tBreak, tCont, L2.start, tDGet, sDPut, tTup, tLst, tDNewK, tRevL, rCat, rAppend, rPop, rSetL, tAndV, tOrV, tNotV, tSl, tPart, tNoPart, tM1, gTup, gCons, gNil, cxK, cxnK, List.map_cons, List.map_nil, List.length_cons, List.length_nil, List.replicate, List.cons_append, List.nil_append, List.append_nil, List.set_cons_zero, List.set_cons_succ, List.getElem?_cons_zero, List.getElem?_cons_succ, Option.some.injEq, V.ref.injEq, V.int.injEq, V.str.injEq, V.bl.injEq, V.ty.injEq, exists_eq_left', exists_eq_left, exists_and_left, List.cons.injEq, and_true, true_and, sc_ii, sc_ss, sc_bb, sc_ni, sc_in, sc_is, sc_si, sc_nn, decide_true, decide_false, reduceCtorEq, Bool.false_eq_true, if_true, if_false, ite_true, ite_false, exists_const, eq_self, false_and, and_false, or_false, false_or, exists_false, Evl.rLenS, rSum, wipe, tYes, exists_eq, exists_eq', rIxL, rIxT, rIxS, exists_and_right, gt_iff_lt, not_true_eq_false, not_false_eq_true, Bool.not_true, Bool.not_false, decide_eq_true_eq, Nat.reduceSub, Nat.reduceAdd, List.append_assoc, tChain, tDIn, tDNotIn, sDDel, tAug, ipI]
            refine ⟨two, fun p np => ?_⟩
            have kp := (Kp.new np : Kp [] H4 (upd H4 p (.tup [.int 0, .int (((i : Nat) : Int) + 1)])))
            have hD2 := kp _ _ not0 hD
            refine ⟨xs, hD2, smallL (by rw [hC.1]; omega), xs ++ [.ref p], upd_same, ((hC.kp kp).snoc ?_).putL hD2, (k4.trans kp).wr nD⟩
            rw [upd_same]
            unfold longC
            rw [ix, if_pos k00, if_pos z4, if_pos (by omega)]
          · rintro D H4 nD ⟨xs, hD, hC, k4⟩
            try simp (maxSteps := 1000000) only [tSeq, tIfS, tTest, tOp, tUn, tCB, tCons, tNil, tVar, tC, rI0, rI, rU, rEq, rNe, tRet, tRetN, tAsg, gName, gSub, tBM, tBM0, tNext, tB, tNot, tAnd, tOr, tIf, tCall, tDrop, tBreak, tCont, L2.start, tDGet, sDPut, tTup, tLst, tDNewK, tRevL, rCat, rAppend, rPop, rSetL, tAndV, tOrV, tNotV, tSl, tPart, tNoPart, tM1, gTup, gCons, gNil, cxK, cxnK, List.map_cons, List.map_nil, List.length_cons, List.length_nil, List.replicate, List.cons_append, List.nil_append, List.append_nil, List.set_cons_zero, List.set_cons_succ, List.getElem?_cons_zero, List.getElem?_cons_succ, Option.some.injEq, V.ref.injEq, V.int.injEq, V.str.injEq, V.bl.injEq, V.ty.injEq, exists_eq_left', exists_eq_left, exists_and_left, List.cons.injEq, and_true, true_and, sc_ii, sc_ss, sc_bb, sc_ni, sc_in, sc_is, sc_si, sc_nn, decide_true, decide_false, reduceCtorEq, Bool.false_eq_true, if_true, if_false, ite_true, ite_false, exists_const, eq_self, false_and, and_false, or_false, false_or, exists_false, Evl.rLenS, rSum, wipe, tYes, exists_eq, exists_eq', rIxL, rIxT, rIxS, exists_and_right, gt_iff_lt, not_true_eq_false, not_false_eq_true, Bool.not_true, Bool.not_false, decide_eq_true_eq, Nat.reduceSub, Nat.reduceAdd, List.append_assoc, tChain, tDIn, tDNotIn, sDDel, tAug, ipI]
            have one : (1 : Nat) ≤ sizeLine := by rw [sizeLine_eq]; decide
            refine ⟨_, sq_l (k4 _ _ not0 hd3), _, a6, two, fun p np => ⟨one, fun p1 np1 => ?_⟩⟩
            have kp := (Kp.new np : Kp [] H4 (upd H4 p (.tup [.int d6, .int (((m : Nat) : Int) - 1)])))
            have kp1 := (Kp.new np1 : Kp [] _ (upd (upd H4 p (.tup [.int d6, .int (((m : Nat) : Int) - 1)])) p1 (.lst [.ref p])))
            have hD5 := (kp.trans kp1) _ _ not0 hD
            have hp5 := kp1 _ _ not0 (upd_same (H := H4) (a := p) (o := .tup [.int d6, .int (((m : Nat) : Int) - 1)]))
            have hp15 : (upd (upd H4 p (.tup [.int d6, .int (((m : Nat) : Int) - 1)])) p1 (.lst [.ref p])) p1 = some (.lst [.ref p]) := upd_same
            have k45 := kp.trans kp1
            generalize upd (upd H4 p (.tup [.int d6, .int (((m : Nat) : Int) - 1)])) p1 (.lst [.ref p]) = H5 at hD5 hp5 hp15 k45
            refine ⟨_, hD5, _, hp15, by rw [hC.1]; exact Nat.le_of_lt (smallL (by show m - 1 + 1 ≤ _; omega)), fun p2 np2 => ?_⟩
            have kp2 := (Kp.new np2 : Kp [] H5 (upd H5 p2 (.lst (xs ++ [.ref p]))))
            have hC5 : Cells (longC zs m d4 d6 d7 z) (xs ++ [.ref p]) m H5 := by
              have := (hC.kp k45).snoc (p := p) (by
                rw [hp5]
                unfold longC
                rw [ix, if_pos k00, if_pos z4, if_neg (by omega)])
              rwa [show m - 1 + 1 = m by omega] at this
            obtain ⟨kvs, hr6, hs6, hrw6⟩ := fin p2 _ _ ((k4.trans k45).trans kp2) upd_same (hC5.kp kp2)
            exact ⟨_, sq_l (kp2 _ _ not0 (k45 _ _ not0 (k4 _ _ not0 hn3))), _, atI_nat ez', _, DPut.k (k := Sum.inr z) hr6 hs6, hrw6, (((k3.trans k4).trans k45).trans kp2).wr nr⟩
        · rw [if_neg (fun e => z4 (by cases e; rfl))]
          refine lcRgN m (by omega) (fun D i H' => ∃ xs, H' D = some (.lst xs) ∧ Cells (longC zs m d4 d6 d7 z) xs i H' ∧ Kp [] H3 H') (fun R q' => ⟨_, rfl, q'⟩) (fun D nD => ⟨[], upd_same, ⟨rfl, fun i hi => absurd hi (by omega)⟩, Kp.new nD⟩) ?_ ?_
          · rintro D i H4 nD hi ⟨xs, hD, hC, k4⟩
            try simp (maxSteps := 1000000) only [tSeq, tIfS, tTest, tOp, tUn, tCB, tCons, tNil, tVar, tC, rI0, rI, rU, rEq, rNe, tRet, tRetN, tAsg, gName, gSub, tBM, tBM0, tNext, tB, tNot, tAnd, tOr, tIf, tCall, tDrop, tBreak, tCont, L2.start, tDGet, sDPut, tTup, tLst, tDNewK, tRevL, rCat, rAppend, rPop, rSetL, tAndV, tOrV, tNotV, tSl, tPart, tNoPart, tM1, gTup, gCons, gNil, cxK, cxnK, List.map_cons, List.map_nil, List.length_cons, List.length_nil, List.replicate, List.cons_append, List.nil_append, List.append_nil, List.set_cons_zero, List.set_cons_succ, List.getElem?_cons_zero, List.getElem?_cons_succ, Option.some.injEq, V.ref.injEq, V.int.injEq, V.str.injEq, V.bl.injEq, V.ty.injEq, exists_eq_left', exists_eq_left, exists_and_left, List.cons.injEq, and_true, true_and, sc_ii, sc_ss, sc_bb, sc_ni, sc_in, sc_is, sc_si, sc_nn, decide_true, decide_false, reduceCtorEq, Bool.false_eq_true, if_true, if_false, ite_true, ite_false, exists_const, eq_self, false_and, and_false, or_false, false_or, exists_false, Evl.rLenS, rSum, wipe, tYes, exists_eq, exists_eq', rIxL, rIxT, rIxS, exists_and_right, gt_iff_lt, not_true_eq_false, not_false_eq_true, Bool.not_true, Bool.not_false, decide_eq_true_eq, Nat.reduceSub, Nat.reduceAdd, List.append_assoc, tChain, tDIn, tDNotIn, sDDel, tAug, ipI, rIv_int]
            refine ⟨_, sq_l (k4 _ _ not0 hd3), _, a6, _, rfl, ?_⟩
            try simp (maxSteps := 1000000) only [tSeq, tIfS, tTest, tOp, tUn, tCB, tCons, tNil, tVar, tC, rI0, rI, rU, rEq, rNe, tRet, tRetN, tAsg, gName, gSub, tBM, tBM0, tNext, tB, tNot, tAnd, tOr, tIf, tCall, tDrop, tBreak, tCont, L2.start, tDGet, sDPut, tTup, tLst, tDNewK, tRevL, rCat, rAppend, rPop, rSetL, tAndV, tOrV, tNotV, tSl, tPart, tNoPart, tM1, gTup, gCons, gNil, cxK, cxnK, List.map_cons, List.map_nil, List.length_cons, List.length_nil, List.replicate, List.cons_append, List.nil_append, List.append_nil, List.set_cons_zero, List.set_cons_succ, List.getElem?_cons_zero, List.getElem?_cons_succ, Option.some.injEq, V.ref.injEq, V.int.injEq, V.str.injEq, V.bl.injEq, V.ty.injEq, exists_eq_left', exists_eq_left, exists_and_left, List.cons.injEq, and_true, true_and, sc_ii, sc_ss, sc_bb, sc_ni, sc_in, sc_is, sc_si, sc_nn, decide_true, decide_false, reduceCtorEq, Bool.false_eq_true, if_true, if_false, ite_true, ite_false, exists_const, eq_self, false_and, and_false, or_false, false_or, exists_false, Evl.rLenS, rSum, wipe, tYes, exists_eq, exists_eq', rIxL, rIxT, rIxS, exists_and_right, gt_iff_lt, not_true_eq_false, not_false_eq_true, Bool.not_true, Bool.not_false, decide_eq_true_eq, Nat.reduceSub, Nat.reduceAdd, List.append_assoc, tChain, tDIn, tDNotIn, sDDel, tAug, ipI, rIv_int]
            refine ⟨by omega, by omega, two, fun p np => ?_⟩
            have kp := (Kp.new np : Kp [] H4 (upd H4 p (.tup [.int (((i : Nat) : Int) % (1 + d6)), .int ((((i : Nat) : Int) + 1) % (m : Nat))])))
            have hD2 := kp _ _ not0 hD
            refine ⟨xs, hD2, smallL (by rw [hC.1]; omega), xs ++ [.ref p], upd_same, ((hC.kp kp).snoc ?_).putL hD2, (k4.trans kp).wr nD⟩
            rw [upd_same]
            unfold longC
            rw [ix, if_pos k00, if_neg z4]
          · rintro D H4 nD ⟨xs, hD, hC, k4⟩
            obtain ⟨kvs, hr4, hs4, hrw4⟩ := fin D xs H4 k4 hD hC
            exact ⟨_, sq_l (k4 _ _ not0 hn3), _, atI_nat ez', _, DPut.k (k := Sum.inr z) hr4 hs4, hrw4, (k3.trans k4).wr nr⟩
    · rintro σ H2 ⟨⟨c3, c4, c5, rfl⟩, hrw, k2⟩
      rw [List.take_length] at hrw
      try simp (maxSteps := 1000000) only [tSeq, tIfS, tTest, tOp, tUn, tCB, tCons, tNil, tVar, tC, rI0, rI, rU, rEq, rNe, tRet, tRetN, tAsg, gName, gSub, tBM, tBM0, tNext, tB, tNot, tAnd, tOr, tIf, tCall, tDrop, tBreak, tCont, L2.start, tDGet, sDPut, tTup, tLst, tDNewK, tRevL, rCat, rAppend, rPop, rSetL, tAndV, tOrV, tNotV, tSl, tPart, tNoPart, tM1, gTup, gCons, gNil, cxK, cxnK, List.map_cons, List.map_nil, List.length_cons, List.length_nil, List.replicate, List.cons_append, List.nil_append, List.append_nil, List.set_cons_zero, List.set_cons_succ, List.getElem?_cons_zero, List.getElem?_cons_succ, Option.some.injEq, V.ref.injEq, V.int.injEq, V.str.injEq, V.bl.injEq, V.ty.injEq, exists_eq_left', exists_eq_left, exists_and_left, List.cons.injEq, and_true, true_and, sc_ii, sc_ss, sc_bb, sc_ni, sc_in, sc_is, sc_si, sc_nn, decide_true, decide_false, reduceCtorEq, Bool.false_eq_true, if_true, if_false, ite_true, ite_false, exists_const, eq_self, false_and, and_false, or_false, false_or, exists_false, Evl.rLenS, rSum, wipe, tYes, exists_eq, exists_eq', rIxL, rIxT, rIxS, exists_and_right, gt_iff_lt, not_true_eq_false, not_false_eq_true, Bool.not_true, Bool.not_false, decide_eq_true_eq, Nat.reduceSub, Nat.reduceAdd, List.append_assoc, tChain, tDIn, tDNotIn, sDDel, tAug, ipI]
      exact q r H2 nr hrw k2
end
end My

set_option Elab.async false
set_option linter.all false
set_option maxRecDepth 100000
set_option maxHeartbeats 4000000
namespace My
open PySem L2 NdefX StX
abbrev s_law_copies : Stmt := top 33
theorem sc_law_copies : FnScope ["_law_script", "_law_at", "_law_names_here", "_law_rows_here", "_law_start", "_law_size", "_law_spots", "_law_origin", "_law_state", "_law_left", "_law_mixed_here", "_law_k", "_law_used", "_law_found", "_law_name", "_law_row", "_law_pair", "_law_same", "_law_j"] ["_law_script", "_law_at", "_law_names_here", "_law_rows_here", "_law_start"] (defScope s_law_copies) := ⟨rfl, rfl, rfl, by decide +kernel, rfl, by decide +kernel, by decide +kernel⟩
structure BtP (mg : Str → Option Value) : Prop where
  b_len : mg "len" = none
  b_range : mg "range" = none
  b_int : mg "int" = none
  b_list : mg "list" = none
theorem RwAt.congr {H : Hp} {d : Addr} {zs : List Str} {m : Nat} {c c' : Str → Nat → Int × Int} (h : RwAt H d zs m c) (e : ∀ z ∈ zs, ∀ s, s < m → c z s = c' z s) : RwAt H d zs m c' := by
  obtain ⟨kvs, hd, hl, hv⟩ := h
  refine ⟨kvs, hd, hl, fun i z ez => ?_⟩
  obtain ⟨l, xs, a, b, cc⟩ := hv i z ez
  refine ⟨l, xs, a, b, cc.1, fun s hs => ?_⟩
  rw [← e z (List.mem_of_getElem? ez) s hs]
  exact cc.2 s hs
theorem Cells.congr {f g : Nat → Int × Int} {xs : List V} {k : Nat} {H : Hp} (h : Cells f xs k H) (e : ∀ s, s < k → f s = g s) : Cells g xs k H :=
  ⟨h.1, fun s hs => by rw [← e s hs]; exact h.2 s hs⟩
theorem eraseMap {α β : Type} (f : α → β) : ∀ (l : List α) (k : Nat), (l.map f).eraseIdx k = (l.eraseIdx k).map f
  | [], _ => rfl
  | _ :: _, 0 => rfl
  | a :: l, k + 1 => by
    show f a :: (l.map f).eraseIdx k = f a :: (l.eraseIdx k).map f
    rw [eraseMap f l k]
theorem rep_flatI (v : Int) : ∀ k : Nat, (List.replicate k [V.int v]).flatten = (List.replicate k v).map V.int
  | 0 => rfl
  | k + 1 => by rw [List.replicate_succ, List.flatten_cons, rep_flatI v k, List.replicate_succ]; rfl
section
variable {P : Program} {w : World} {K : PySem.W.Frag} {mg : Str → Option Value} {base : Heap}
def spCopies (K : PySem.W.Frag) : Sp := fun vs H Q _ => ∃ (a nl rd : Addr) (at_ m s0 : Nat) (ns : List Int) (zs : List Str) (c : Str → Nat → Int × Int), vs = [.ref a, .int (at_ : Nat), .ref nl, .ref rd, .int (s0 : Nat)] ∧ Scr K H a ns ∧ at_ ≤ 1000 ∧ RwAt H rd zs m c ∧ H nl = some (.lst (zs.map V.str)) ∧ zs.Nodup ∧ zs ≠ [] ∧ zs.length ≤ 6 ∧ CellB zs m 10 c ∧ 1 ≤ m ∧ m ≤ 10 ∧ s0 < m ∧
  ∀ (l r x : Addr) (m' s' : Nat) (c' : Str → Nat → Int × Int) (H' : Hp), H l = none → H' l = some (.lst [.ref r, .int (s' : Nat), .ref x]) → RwAt H' r zs m' c' → CellB zs m' 10 c' → 1 ≤ m' → m' ≤ 100 → s' < m' → Kp [] H H' → Q (.ref l) H'
theorem ok_law_copies {f : Addr} {fd : FuncData} (D : Df K mg "_law_copies" s_law_copies ["_law_script", "_law_at", "_law_names_here", "_law_rows_here", "_law_start"] f fd) (T : BtP mg) {fg : Addr} {fdg : FuncData} (D_law_draws : Df K mg "_law_draws" s_law_draws ["_law_script", "_law_at", "_law_bounds"] fg fdg) (G_law_draws : FnOk P w K mg base CX0 2 fg fdg ["_law_script", "_law_at", "_law_bounds"] (spDraws K)) : FnOk P w K mg base CX0 3 f fd ["_law_script", "_law_at", "_law_names_here", "_law_rows_here", "_law_start"] (spCopies K) := by
  refine D.F.ok sc_law_copies (fun vs H Q E h => ?_) (fun cdv A outer s H vs Q E hr h => ?_)
  · obtain ⟨a, nl, rd, at_, m, s0, ns, zs, c, rfl, _⟩ := h
    rfl
  · obtain ⟨a, nl, rd, at_, m, s0, ns, zs, c, rfl, hS, a1, hrw, hn, nd, zne, z6, hb, m1, m10, s0m, q⟩ := h
    have hu := hu_of hr
    refine ⟨_, (pss_cons (ps_set (i := 5) sc_law_copies.nd rfl (Or.inl rfl) (pe_callB (id := "len") (r := Evl.rLenS K) call_len_seq (by rfl) T.b_len PySem.boot_len (pa_cons (pe_dget hu (pv 3) (pe_ix (r := rIxL K) ix_list (pv 2) pe_int (fun _ _ => rfl)) (fun _ _ => rfl)) pa_nil)))
      (pss_cons (ps_set (i := 6) sc_law_copies.nd rfl (Or.inl rfl) (pe_call G_law_draws (hr.mono (by decide)) rfl D_law_draws.g D_law_draws.F.kp D_law_draws.b .nil pass0 (pa_cons (pv 0) (pa_cons (pv 1) (pa_cons (pe_op op_cat (pe_op op_rep (pe_lst (pa_cons pe_int pa_nil)) (pv 5)) (pe_op op_rep (pe_lst (pa_cons pe_int pa_nil)) (pe_op op_add (pe_op op_add (pe_op op_mul pe_int (pv 5)) (pe_op op_mul (pe_op op_mul pe_int (pv 5)) (pe_callB (id := "len") (r := Evl.rLenS K) call_len_seq (by rfl) T.b_len PySem.boot_len (pa_cons (pv 2) pa_nil)))) pe_int))) pa_nil)))))
      (pss_cons (ps_set (i := 7) sc_law_copies.nd rfl (Or.inl rfl) (pe_lst pa_nil))
      (pss_cons (ps_for PassesOwn.never rfl (pi_range1 rfl T.b_range (pa_cons (pv 5) pa_nil)) (pg_name (i := 8) sc_law_copies.nd rfl (Or.inl rfl)) (pss_one (ps_set (i := 7) sc_law_copies.nd rfl (Or.inl rfl) (pe_op op_cat (pv 7) (pe_op op_rep (pe_lst (pa_cons (pv 8) pa_nil)) (pe_op op_add pe_int (pe_ix (r := rIxL K) ix_list (pv 6) (pv 8) (fun _ _ => rfl))))))))
      (pss_cons (ps_set (i := 9) sc_law_copies.nd rfl (Or.inl rfl) (pe_callTy call_list_of (by rfl) T.b_list (by decide +kernel) (pa_cons (pv 7) pa_nil)))
      (pss_cons (ps_set (i := 10) sc_law_copies.nd rfl (Or.inr rfl) (pe_lst pa_nil))
      (pss_cons (ps_for PassesOwn.never rfl (pi_range1 rfl T.b_range (pa_cons (pe_callB (id := "len") (r := Evl.rLenS K) call_len_seq (by rfl) T.b_len PySem.boot_len (pa_cons (pv 7) pa_nil)) pa_nil)) (pg_name (i := 11) sc_law_copies.nd rfl (Or.inl rfl)) (pss_one (ps_expr (pe_bm PySem.F.plainAttrs_list PySem.F.slot_list_append PySem.F.type_list_append mt_append (pv 10) (pa_cons (pe_bm PySem.F.plainAttrs_list PySem.F.slot_list_pop PySem.F.type_list_pop mt_popAt (pv 9) (pa_cons (pe_op op_mod (pe_callTy (T := "int") (r := rIv) call_int1 (by rfl) T.b_int (by decide +kernel) (pa_cons (pe_ix (r := rIxL K) ix_list (pv 6) (pe_op op_add (pv 5) (pv 11)) (fun _ _ => rfl)) pa_nil)) (pe_callB (id := "len") (r := Evl.rLenS K) call_len_seq (by rfl) T.b_len PySem.boot_len (pa_cons (pv 9) pa_nil))) pa_nil)) pa_nil)))))
      (pss_cons (ps_set (i := 12) sc_law_copies.nd rfl (Or.inl rfl) (pe_op op_mul pe_int (pv 5)))
      (pss_cons (ps_set (i := 13) sc_law_copies.nd rfl (Or.inl rfl) pe_dnewK)
      (pss_cons (ps_for PassesOwn.never rfl (pi_list (pv 2)) (pg_name (i := 14) sc_law_copies.nd rfl (Or.inl rfl)) (pss_cons (ps_set (i := 15) sc_law_copies.nd rfl (Or.inl rfl) (pe_lst pa_nil))
      (pss_cons (ps_for PassesOwn.never rfl (pi_list (pv 10)) (pg_name (i := 8) sc_law_copies.nd rfl (Or.inl rfl)) (pss_cons (ps_set (i := 16) sc_law_copies.nd rfl (Or.inr rfl) (pe_ix (r := rIxL K) ix_list (pe_dget hu (pv 3) (pv 14) (fun _ _ => rfl)) (pv 8) (fun _ _ => rfl)))
      (pss_cons (ps_setLc (i := 17) (own := [("_law_j", 18)]) (g := (gName 18)) rfl sc_law_copies.nd rfl rfl (sw_true rfl rfl rfl (by decide +kernel)) (pi_range1 rfl T.b_range (pa_cons (pe_callB (id := "len") (r := Evl.rLenS K) call_len_seq (by rfl) T.b_len PySem.boot_len (pa_cons (pv 10) pa_nil)) pa_nil)) (blkOk_by (N := ["_law_script", "_law_at", "_law_names_here", "_law_rows_here", "_law_start", "_law_size", "_law_spots", "_law_origin", "_law_state", "_law_left", "_law_mixed_here", "_law_k", "_law_used", "_law_found", "_law_name", "_law_row", "_law_pair", "_law_same", "_law_j"]) (sc := defScope s_law_copies) (by decide +kernel)) (fun _ _ _ _ _ => (pg_name (i := 18) sc_law_copies.nd rfl (Or.inl rfl))) (fun _ _ _ _ _ => (pts_one (pt_cmpR op_eq (pe_ix (r := rIxL K) ix_list (pv 10) (pv 18) (fun _ _ => rfl)) (pe_ix (r := rIxT K) ix_tup (pv 16) pe_int (fun _ _ => rfl)) (nomark _)))) (fun _ _ _ _ _ => (pv 18)))
      (pss_cons (ps_expr (pe_bm PySem.F.plainAttrs_list PySem.F.slot_list_append PySem.F.type_list_append mt_append (pv 15) (pa_cons (pe_tup (pa_cons (pe_ix (r := rIxT K) ix_tup (pv 16) pe_int (fun _ _ => rfl)) (pa_cons (pe_ix (r := rIxL K) ix_list (pv 17) (pe_op op_mod (pe_callTy (T := "int") (r := rIv) call_int1 (by rfl) T.b_int (by decide +kernel) (pa_cons (pe_ix (r := rIxL K) ix_list (pv 6) (pv 12) (fun _ _ => rfl)) pa_nil)) (pe_callB (id := "len") (r := Evl.rLenS K) call_len_seq (by rfl) T.b_len PySem.boot_len (pa_cons (pv 17) pa_nil))) (fun _ _ => rfl)) pa_nil))) pa_nil)))
      (pss_one (ps_aug (i := 12) sc_law_copies.nd rfl (Or.inl rfl) pe_int ip_add))))))
      (pss_one (ps_dput hu (pv 13) (pv 14) (pv 15) rfl)))))
      (pss_cons (ps_setLc (i := 17) (own := [("_law_j", 18)]) (g := (gName 18)) rfl sc_law_copies.nd rfl rfl (sw_true rfl rfl rfl (by decide +kernel)) (pi_range1 rfl T.b_range (pa_cons (pe_callB (id := "len") (r := Evl.rLenS K) call_len_seq (by rfl) T.b_len PySem.boot_len (pa_cons (pv 10) pa_nil)) pa_nil)) (blkOk_by (N := ["_law_script", "_law_at", "_law_names_here", "_law_rows_here", "_law_start", "_law_size", "_law_spots", "_law_origin", "_law_state", "_law_left", "_law_mixed_here", "_law_k", "_law_used", "_law_found", "_law_name", "_law_row", "_law_pair", "_law_same", "_law_j"]) (sc := defScope s_law_copies) (by decide +kernel)) (fun _ _ _ _ _ => (pg_name (i := 18) sc_law_copies.nd rfl (Or.inl rfl))) (fun _ _ _ _ _ => (pts_one (pt_cmpR op_eq (pe_ix (r := rIxL K) ix_list (pv 10) (pv 18) (fun _ _ => rfl)) (pv 4) (nomark _)))) (fun _ _ _ _ _ => (pv 18)))
      (pss_one (ps_ret (pe_lst (pa_cons (pv 13) (pa_cons (pe_ix (r := rIxL K) ix_list (pv 17) (pe_op op_mod (pe_callTy (T := "int") (r := rIv) call_int1 (by rfl) T.b_int (by decide +kernel) (pa_cons (pe_ix (r := rIxL K) ix_list (pv 6) (pv 12) (fun _ _ => rfl)) pa_nil)) (pe_callB (id := "len") (r := Evl.rLenS K) call_len_seq (by rfl) T.b_len PySem.boot_len (pa_cons (pv 17) pa_nil))) (fun _ _ => rfl)) (pa_cons (pv 10) pa_nil))))))))))))))))), ?_⟩
    try simp (maxSteps := 1000000) only [tSeq, tIfS, tTest, tOp, tUn, tCB, tCons, tNil, tVar, tC, rI0, rI, rU, rEq, rNe, tRet, tRetN, tAsg, gName, gSub, tBM, tBM0, tNext, tB, tNot, tAnd, tOr, tIf, tCall, tDrop, tBreak, tCont, L2.start, tDGet, sDPut, tTup, tLst, tDNewK, tRevL, rCat, rAppend, rPop, rSetL, tAndV, tOrV, tNotV, tSl, tPart, tNoPart, tM1, gTup, gCons, gNil, cxK, cxnK, List.map_cons, List.map_nil, List.length_cons, List.length_nil, List.replicate, List.cons_append, List.nil_append, List.append_nil, List.set_cons_zero, List.set_cons_succ, List.getElem?_cons_zero, List.getElem?_cons_succ, Option.some.injEq, V.ref.injEq, V.int.injEq, V.str.injEq, V.bl.injEq, V.ty.injEq, exists_eq_left', exists_eq_left, exists_and_left, List.cons.injEq, and_true, true_and, sc_ii, sc_ss, sc_bb, sc_ni, sc_in, sc_is, sc_si, sc_nn, decide_true, decide_false, reduceCtorEq, Bool.false_eq_true, if_true, if_false, ite_true, ite_false, exists_const, eq_self, false_and, and_false, or_false, false_or, exists_false, Evl.rLenS, rSum, wipe, tYes, exists_eq, exists_eq', rIxL, rIxT, rIxS, exists_and_right, gt_iff_lt, not_true_eq_false, not_false_eq_true, Bool.not_true, Bool.not_false, decide_eq_true_eq, Nat.reduceSub, Nat.reduceAdd, List.append_assoc, tChain, tDIn, tDNotIn, sDDel, tAug, ipI, rRep]
    obtain ⟨z0, r0, ez0⟩ : ∃ z r, zs = z :: r := by
      cases zs with
      | nil => exact absurd rfl zne
      | cons z r => exact ⟨z, r, rfl⟩
    have hz0 : z0 ∈ zs := by rw [ez0]; simp
    obtain ⟨kvs, l, xs, hd1, ev, hl, hcl⟩ := hrw.get nd hz0
    have one : (1 : Nat) ≤ sizeLine := by rw [sizeLine_eq]; decide
    refine ⟨_, sq_l hn, .str z0, atI_of (by decide) (by rw [ez0]; rfl), _, ev ▸ DGet.k (k := Sum.inr z0) hd1, l, rfl, xs, .inl (sq_l hl), one, fun p np => ⟨_, upd_same, ?_⟩⟩
    rw [hcl.1, Int.toNat_natCast]
    refine ⟨by omega, by omega, by rw [sizeLine_eq]; show 1 * m ≤ _; omega, fun p1 np1 => ⟨one, fun p2 np2 => ?_⟩⟩
    rw [rep_flatI] at np2 ⊢
    have kA := (Kp.new (S := []) np (o := .lst [.int 2])).trans (Kp.new np1 (o := .lst ((List.replicate m (2 : Int)).map V.int)))
    have kB := kA.trans (Kp.new np2 (o := .lst [.int 840]))
    refine ⟨.inl ⟨by omega, by omega⟩, .inl ⟨by omega, by omega⟩, _, .inl (sq_l (kB _ _ not0 hn)), ?_⟩
    rw [List.length_map, show (2 * ((m : Nat) : Int) + 2 * ((m : Nat) : Int) * ((zs.length : Nat) : Int) + 1) = ((2 * m + 2 * m * zs.length + 1 : Nat) : Int) by push_cast; rfl, Int.toNat_natCast]
    have mz : 2 * m * zs.length ≤ 20 * 6 := Nat.mul_le_mul (by omega) z6
    generalize hNn : 2 * m + 2 * m * zs.length + 1 = N at *
    refine ⟨.inl ⟨by omega, by omega⟩, _, upd_same, by omega, by omega, by rw [sizeLine_eq]; show 1 * N ≤ _; omega, fun p3 np3 => ?_⟩
    rw [rep_flatI]
    have k3 : Kp [] H (upd (upd (upd (upd H p (.lst [.int 2])) p1 (.lst ((List.replicate m (2 : Int)).map V.int))) p2 (.lst [.int 840])) p3 (.lst ((List.replicate N (840 : Int)).map V.int))) := kB.trans (Kp.new np3)
    have h31 : (upd (upd (upd (upd H p (.lst [.int 2])) p1 (.lst ((List.replicate m (2 : Int)).map V.int))) p2 (.lst [.int 840])) p3 (.lst ((List.replicate N (840 : Int)).map V.int))) p1 = some (.lst ((List.replicate m (2 : Int)).map V.int)) := ((Kp.new np2).trans (Kp.new np3)) _ _ not0 upd_same
    have h33 : (upd (upd (upd (upd H p (.lst [.int 2])) p1 (.lst ((List.replicate m (2 : Int)).map V.int))) p2 (.lst [.int 840])) p3 (.lst ((List.replicate N (840 : Int)).map V.int))) p3 = some (.lst ((List.replicate N (840 : Int)).map V.int)) := upd_same
    generalize upd (upd (upd (upd H p (.lst [.int 2])) p1 (.lst ((List.replicate m (2 : Int)).map V.int))) p2 (.lst [.int 840])) p3 (.lst ((List.replicate N (840 : Int)).map V.int)) = H3 at k3 h31 h33 ⊢
    refine ⟨_, h31, _, h33, by rw [List.length_map, List.length_map, List.length_replicate, List.length_replicate]; exact Nat.le_of_lt (smallL (by omega)), fun p4 np4 => ?_⟩
    have k4 := k3.trans (Kp.new np4 (o := .lst ((List.replicate m (2 : Int)).map V.int ++ (List.replicate N (840 : Int)).map V.int)))
    refine ⟨a, p4, at_, ns, List.replicate m 2 ++ List.replicate N 840, rfl, ⟨k4.ls not0 hS.1, hS.2⟩, a1, by rw [upd_same, List.map_append], by simp; omega, fun b hb => ?_, fun sp ds H5 nsp hsp hd k5 => ?_⟩
    · rcases List.mem_append.mp hb with hb | hb
      · rw [(List.mem_replicate.mp hb).2]; decide
      · rw [(List.mem_replicate.mp hb).2]; decide
    have k05 := k4.trans k5
    have nsp0 : H sp = none := noneB k4 nsp
    have dlen : ds.length = m + N := by rw [hd.1]; simp
    have dget : ∀ i, i < m + N → ∃ v : Int, ds[i]? = some v ∧ 0 ≤ v ∧ v < 840 ∧ (i < m → v < 2) := fun i hi => by
      have e := List.getElem?_eq_getElem (l := ds) (i := i) (by omega)
      refine ⟨_, e, ?_⟩
      by_cases h : i < m
      · have e2 : (List.replicate m (2 : Int) ++ List.replicate N 840)[i]? = some 2 := by
          rw [List.getElem?_append_left (by simpa using h), List.getElem?_replicate, if_pos h]
        have := hd.2 i _ _ e e2
        exact ⟨this.1, by omega, fun _ => this.2⟩
      · have e2 : (List.replicate m (2 : Int) ++ List.replicate N 840)[i]? = some 840 := by
          rw [List.getElem?_append_right (by simp; omega), List.length_replicate, List.getElem?_replicate, if_pos (by omega)]
        have := hd.2 i _ _ e e2
        exact ⟨this.1, this.2, fun z => absurd z h⟩
    have dV : ∀ {i : Nat} {v : Int}, ds[i]? = some v → atI (ds.map V.int) ((i : Nat) : Int) = some (.int v) := fun {i v} e => atI_nat (by rw [List.getElem?_map, e]; rfl)
    try simp (maxSteps := 1000000) only [tSeq, tIfS, tTest, tOp, tUn, tCB, tCons, tNil, tVar, tC, rI0, rI, rU, rEq, rNe, tRet, tRetN, tAsg, gName, gSub, tBM, tBM0, tNext, tB, tNot, tAnd, tOr, tIf, tCall, tDrop, tBreak, tCont, L2.start, tDGet, sDPut, tTup, tLst, tDNewK, tRevL, rCat, rAppend, rPop, rSetL, tAndV, tOrV, tNotV, tSl, tPart, tNoPart, tM1, gTup, gCons, gNil, cxK, cxnK, List.map_cons, List.map_nil, List.length_cons, List.length_nil, List.replicate, List.cons_append, List.nil_append, List.append_nil, List.set_cons_zero, List.set_cons_succ, List.getElem?_cons_zero, List.getElem?_cons_succ, Option.some.injEq, V.ref.injEq, V.int.injEq, V.str.injEq, V.bl.injEq, V.ty.injEq, exists_eq_left', exists_eq_left, exists_and_left, List.cons.injEq, and_true, true_and, sc_ii, sc_ss, sc_bb, sc_ni, sc_in, sc_is, sc_si, sc_nn, decide_true, decide_false, reduceCtorEq, Bool.false_eq_true, if_true, if_false, ite_true, ite_false, exists_const, eq_self, false_and, and_false, or_false, false_or, exists_false, Evl.rLenS, rSum, wipe, tYes, exists_eq, exists_eq', rIxL, rIxT, rIxS, exists_and_right, gt_iff_lt, not_true_eq_false, not_false_eq_true, Bool.not_true, Bool.not_false, decide_eq_true_eq, Nat.reduceSub, Nat.reduceAdd, List.append_assoc, tChain, tDIn, tDNotIn, sDDel, tAug, ipI]
    refine ⟨by decide, fun o0 no0 => ?_⟩
    have k5o : Kp [] H5 (upd H5 o0 (.lst [])) := Kp.new no0
    have no00 : H o0 = none := noneB k05 no0
    refine forRg m (fun j σ H' => (∃ (ol : Addr) (O : List Nat) (c8 : Option V), σ = [some (.ref a), some (.int (at_ : Nat)), some (.ref nl), some (.ref rd), some (.int (s0 : Nat)), some (.int (m : Nat)), some (.ref sp), some (.ref ol), c8, none, none, none, none, none, none, none, none, none, none] ∧ H ol = none ∧ H' ol = some (.lst (O.map fun x => V.int (x : Nat))) ∧ (∀ x ∈ O, x < m) ∧ (∀ k, k < j → k ∈ O) ∧ O.length ≤ 2 * j) ∧ Kp [] H5 H') (fun R q' => ⟨_, rfl, q'⟩) (by omega) (by omega) ⟨⟨o0, [], none, rfl, no00, upd_same, (fun x h => nomatch h), fun k hk => absurd hk (by omega), Nat.le_refl _⟩, k5o⟩ ?_ ?_
    · rintro j σ H6 hj ⟨⟨ol, O, c8, rfl, nol, hol, O1, O2, O3⟩, k56⟩
      obtain ⟨v, ev, v0, _, v2⟩ := dget j (by omega)
      try simp (maxSteps := 1000000) only [tSeq, tIfS, tTest, tOp, tUn, tCB, tCons, tNil, tVar, tC, rI0, rI, rU, rEq, rNe, tRet, tRetN, tAsg, gName, gSub, tBM, tBM0, tNext, tB, tNot, tAnd, tOr, tIf, tCall, tDrop, tBreak, tCont, L2.start, tDGet, sDPut, tTup, tLst, tDNewK, tRevL, rCat, rAppend, rPop, rSetL, tAndV, tOrV, tNotV, tSl, tPart, tNoPart, tM1, gTup, gCons, gNil, cxK, cxnK, List.map_cons, List.map_nil, List.length_cons, List.length_nil, List.replicate, List.cons_append, List.nil_append, List.append_nil, List.set_cons_zero, List.set_cons_succ, List.getElem?_cons_zero, List.getElem?_cons_succ, Option.some.injEq, V.ref.injEq, V.int.injEq, V.str.injEq, V.bl.injEq, V.ty.injEq, exists_eq_left', exists_eq_left, exists_and_left, List.cons.injEq, and_true, true_and, sc_ii, sc_ss, sc_bb, sc_ni, sc_in, sc_is, sc_si, sc_nn, decide_true, decide_false, reduceCtorEq, Bool.false_eq_true, if_true, if_false, ite_true, ite_false, exists_const, eq_self, false_and, and_false, or_false, false_or, exists_false, Evl.rLenS, rSum, wipe, tYes, exists_eq, exists_eq', rIxL, rIxT, rIxS, exists_and_right, gt_iff_lt, not_true_eq_false, not_false_eq_true, Bool.not_true, Bool.not_false, decide_eq_true_eq, Nat.reduceSub, Nat.reduceAdd, List.append_assoc, tChain, tDIn, tDNotIn, sDDel, tAug, ipI, rRep]
      refine ⟨one, fun q1 nq1 => ?_⟩
      have kq1 := (Kp.new (S := []) nq1 (o := .lst [.int (j : Nat)]))
      have hsp6 := k56 _ _ not0 hsp
      refine ⟨_, sq_l (kq1 _ _ not0 hsp6), _, dV ev, _, rfl, _, upd_same, by omega, by omega, by rw [sizeLine_eq]; show 1 * (1 + v).toNat ≤ _; have := v2 hj; omega, fun q2 nq2 => ?_⟩
      rw [rep_flatI]
      have kq2 := kq1.trans (Kp.new nq2 (o := .lst ((List.replicate (1 + v).toNat (((j : Nat) : Int))).map V.int)))
      have eR : (List.replicate (1 + v).toNat (((j : Nat) : Int))).map V.int = (List.replicate (1 + v).toNat j).map fun x : Nat => V.int (x : Nat) := by rw [List.map_replicate, List.map_replicate]
      have vj := v2 hj
      refine ⟨_, kq2 _ _ not0 hol, _, upd_same, by rw [List.length_map, List.length_map, List.length_replicate]; exact Nat.le_of_lt (smallL (by omega)), fun q3 nq3 => ⟨⟨noneB ((k05.trans k56).trans kq2) nq3, O ++ List.replicate (1 + v).toNat j, by rw [upd_same, eR, List.map_append], fun x hx => ?_, fun k hk => ?_, by rw [List.length_append, List.length_replicate]; omega⟩, (k56.trans kq2).trans (Kp.new nq3)⟩⟩
      · rcases List.mem_append.mp hx with hx | hx
        · exact O1 x hx
        · rw [(List.mem_replicate.mp hx).2]; exact hj
      · by_cases z : k = j
        · exact List.mem_append_right _ (List.mem_replicate.mpr ⟨by omega, z⟩)
        · exact List.mem_append_left _ (O2 k (by omega))
    · rintro σ H6 ⟨⟨ol, O, c8, rfl, nol, hol, O1, O2, O3⟩, k56⟩
      have k06 := k05.trans k56
      have hsp6 := k56 _ _ not0 hsp
      try simp (maxSteps := 1000000) only [tSeq, tIfS, tTest, tOp, tUn, tCB, tCons, tNil, tVar, tC, rI0, rI, rU, rEq, rNe, tRet, tRetN, tAsg, gName, gSub, tBM, tBM0, tNext, tB, tNot, tAnd, tOr, tIf, tCall, tDrop, tBreak, tCont, L2.start, tDGet, sDPut, tTup, tLst, tDNewK, tRevL, rCat, rAppend, rPop, rSetL, tAndV, tOrV, tNotV, tSl, tPart, tNoPart, tM1, gTup, gCons, gNil, cxK, cxnK, List.map_cons, List.map_nil, List.length_cons, List.length_nil, List.replicate, List.cons_append, List.nil_append, List.append_nil, List.set_cons_zero, List.set_cons_succ, List.getElem?_cons_zero, List.getElem?_cons_succ, Option.some.injEq, V.ref.injEq, V.int.injEq, V.str.injEq, V.bl.injEq, V.ty.injEq, exists_eq_left', exists_eq_left, exists_and_left, List.cons.injEq, and_true, true_and, sc_ii, sc_ss, sc_bb, sc_ni, sc_in, sc_is, sc_si, sc_nn, decide_true, decide_false, reduceCtorEq, Bool.false_eq_true, if_true, if_false, ite_true, ite_false, exists_const, eq_self, false_and, and_false, or_false, false_or, exists_false, Evl.rLenS, rSum, wipe, tYes, exists_eq, exists_eq', rIxL, rIxT, rIxS, exists_and_right, gt_iff_lt, not_true_eq_false, not_false_eq_true, Bool.not_true, Bool.not_false, decide_eq_true_eq, Nat.reduceSub, Nat.reduceAdd, List.append_assoc, tChain, tDIn, tDNotIn, sDDel, tAug, ipI]
      refine ⟨_, .inl (sq_l hol), fun ll nll => ⟨by decide, fun xl nxl => ?_⟩⟩
      have kl := (Kp.new (S := []) nll (o := .lst (O.map fun x => V.int (x : Nat))))
      have kx := kl.trans (Kp.new nxl (o := .lst []))
      have nl0 : H ll = none := noneB k06 nll
      have nx6 : H6 xl = none := noneB kl nxl
      have nx0 : H xl = none := noneB k06 nx6
      have llx : ll ≠ xl := fun z => by rw [z, upd_same] at nxl; cases nxl
      have O0 : 0 < O.length := List.length_pos_of_mem (O2 0 (by omega))
      refine forRg O.length (fun k σ H' => (∃ (L M : List Nat) (c11 : Option V), σ = [some (.ref a), some (.int (at_ : Nat)), some (.ref nl), some (.ref rd), some (.int (s0 : Nat)), some (.int (m : Nat)), some (.ref sp), some (.ref ol), c8, some (.ref ll), some (.ref xl), c11, none, none, none, none, none, none, none] ∧ H' ll = some (.lst (L.map fun x => V.int (x : Nat))) ∧ H' xl = some (.lst (M.map fun x => V.int (x : Nat))) ∧ M.length = k ∧ L.length = O.length - k ∧ (∀ x ∈ L, x < m) ∧ (∀ x ∈ M, x < m) ∧ ∀ s, s < m → s ∈ L ∨ s ∈ M) ∧ Kp [] H6 H') (fun R q' => ?_) (by omega) (by omega) ⟨⟨O, [], none, rfl, by rw [upd_ne llx, upd_same], upd_same, rfl, rfl, O1, (fun x h => nomatch h), fun s hs => .inl (O2 s hs)⟩, kx⟩ ?_ ?_
      · try simp (maxSteps := 1000000) only [tSeq, tIfS, tTest, tOp, tUn, tCB, tCons, tNil, tVar, tC, rI0, rI, rU, rEq, rNe, tRet, tRetN, tAsg, gName, gSub, tBM, tBM0, tNext, tB, tNot, tAnd, tOr, tIf, tCall, tDrop, tBreak, tCont, L2.start, tDGet, sDPut, tTup, tLst, tDNewK, tRevL, rCat, rAppend, rPop, rSetL, tAndV, tOrV, tNotV, tSl, tPart, tNoPart, tM1, gTup, gCons, gNil, cxK, cxnK, List.map_cons, List.map_nil, List.length_cons, List.length_nil, List.replicate, List.cons_append, List.nil_append, List.append_nil, List.set_cons_zero, List.set_cons_succ, List.getElem?_cons_zero, List.getElem?_cons_succ, Option.some.injEq, V.ref.injEq, V.int.injEq, V.str.injEq, V.bl.injEq, V.ty.injEq, exists_eq_left', exists_eq_left, exists_and_left, List.cons.injEq, and_true, true_and, sc_ii, sc_ss, sc_bb, sc_ni, sc_in, sc_is, sc_si, sc_nn, decide_true, decide_false, reduceCtorEq, Bool.false_eq_true, if_true, if_false, ite_true, ite_false, exists_const, eq_self, false_and, and_false, or_false, false_or, exists_false, Evl.rLenS, rSum, wipe, tYes, exists_eq, exists_eq', rIxL, rIxT, rIxS, exists_and_right, gt_iff_lt, not_true_eq_false, not_false_eq_true, Bool.not_true, Bool.not_false, decide_eq_true_eq, Nat.reduceSub, Nat.reduceAdd, List.append_assoc, tChain, tDIn, tDNotIn, sDDel, tAug, ipI]
        refine ⟨_, .inl (sq_l (kx _ _ not0 hol)), ?_⟩
        rw [List.length_map]
        exact q'
      · rintro k σ H7 hk ⟨⟨L, M, c11, rfl, hL, hM, M1, L1, LB, M2, LM⟩, k67⟩
        have hsp7 := k67 _ _ not0 hsp6
        obtain ⟨v, ev, v0, v1, _⟩ := dget (m + k) (by omega)
        try simp (maxSteps := 1000000) only [tSeq, tIfS, tTest, tOp, tUn, tCB, tCons, tNil, tVar, tC, rI0, rI, rU, rEq, rNe, tRet, tRetN, tAsg, gName, gSub, tBM, tBM0, tNext, tB, tNot, tAnd, tOr, tIf, tCall, tDrop, tBreak, tCont, L2.start, tDGet, sDPut, tTup, tLst, tDNewK, tRevL, rCat, rAppend, rPop, rSetL, tAndV, tOrV, tNotV, tSl, tPart, tNoPart, tM1, gTup, gCons, gNil, cxK, cxnK, List.map_cons, List.map_nil, List.length_cons, List.length_nil, List.replicate, List.cons_append, List.nil_append, List.append_nil, List.set_cons_zero, List.set_cons_succ, List.getElem?_cons_zero, List.getElem?_cons_succ, Option.some.injEq, V.ref.injEq, V.int.injEq, V.str.injEq, V.bl.injEq, V.ty.injEq, exists_eq_left', exists_eq_left, exists_and_left, List.cons.injEq, and_true, true_and, sc_ii, sc_ss, sc_bb, sc_ni, sc_in, sc_is, sc_si, sc_nn, decide_true, decide_false, reduceCtorEq, Bool.false_eq_true, if_true, if_false, ite_true, ite_false, exists_const, eq_self, false_and, and_false, or_false, false_or, exists_false, Evl.rLenS, rSum, wipe, tYes, exists_eq, exists_eq', rIxL, rIxT, rIxS, exists_and_right, gt_iff_lt, not_true_eq_false, not_false_eq_true, Bool.not_true, Bool.not_false, decide_eq_true_eq, Nat.reduceSub, Nat.reduceAdd, List.append_assoc, tChain, tDIn, tDNotIn, sDDel, tAug, ipI]
        have em := dV ev
        rw [show ((m + k : Nat) : Int) = (m : Nat) + (k : Nat) by push_cast; rfl] at em
        refine ⟨.inl ⟨rfl, _, sq_l hM⟩, .inl ⟨rfl, _, sq_l hL⟩, _, sq_l hsp7, _, em, ?_⟩
        try simp (maxSteps := 1000000) only [tSeq, tIfS, tTest, tOp, tUn, tCB, tCons, tNil, tVar, tC, rI0, rI, rU, rEq, rNe, tRet, tRetN, tAsg, gName, gSub, tBM, tBM0, tNext, tB, tNot, tAnd, tOr, tIf, tCall, tDrop, tBreak, tCont, L2.start, tDGet, sDPut, tTup, tLst, tDNewK, tRevL, rCat, rAppend, rPop, rSetL, tAndV, tOrV, tNotV, tSl, tPart, tNoPart, tM1, gTup, gCons, gNil, cxK, cxnK, List.map_cons, List.map_nil, List.length_cons, List.length_nil, List.replicate, List.cons_append, List.nil_append, List.append_nil, List.set_cons_zero, List.set_cons_succ, List.getElem?_cons_zero, List.getElem?_cons_succ, Option.some.injEq, V.ref.injEq, V.int.injEq, V.str.injEq, V.bl.injEq, V.ty.injEq, exists_eq_left', exists_eq_left, exists_and_left, List.cons.injEq, and_true, true_and, sc_ii, sc_ss, sc_bb, sc_ni, sc_in, sc_is, sc_si, sc_nn, decide_true, decide_false, reduceCtorEq, Bool.false_eq_true, if_true, if_false, ite_true, ite_false, exists_const, eq_self, false_and, and_false, or_false, false_or, exists_false, Evl.rLenS, rSum, wipe, tYes, exists_eq, exists_eq', rIxL, rIxT, rIxS, exists_and_right, gt_iff_lt, not_true_eq_false, not_false_eq_true, Bool.not_true, Bool.not_false, decide_eq_true_eq, Nat.reduceSub, Nat.reduceAdd, List.append_assoc, tChain, tDIn, tDNotIn, sDDel, tAug, ipI, rIv_int]
        refine ⟨_, .inl (sq_l hL), ?_⟩
        rw [List.length_map, L1]
        have mn := Int.emod_nonneg v (show (((O.length - k : Nat)) : Int) ≠ 0 by omega)
        have ml := Int.emod_lt_of_pos v (show (0 : Int) < ((O.length - k : Nat)) by omega)
        generalize v % (((O.length - k : Nat)) : Int) = ix at mn ml
        have il : ix.toNat < L.length := by omega
        have eL := List.getElem?_eq_getElem il
        generalize L[ix.toNat] = y at eL
        have yL := List.mem_of_getElem? eL
        have hM' : (upd H7 ll (.lst ((L.eraseIdx ix.toNat).map fun x => V.int (x : Nat)))) xl = some (.lst (M.map fun x => V.int (x : Nat))) := by rw [upd_ne (Ne.symm llx)]; exact hM
        refine ⟨by omega, ll, _, ix, ix.toNat, .int (y : Nat), rfl, rfl, hL, by omega, by omega, seqIndex_of mn (by rw [List.length_map]; omega), by rw [List.getElem?_map, eL]; rfl, ?_⟩
        rw [eraseMap]
        refine ⟨_, hM', smallL (by rw [List.length_map]; omega), ⟨L.eraseIdx ix.toNat, by rw [upd_ne llx, upd_same], M ++ [y], by rw [upd_same, List.map_append]; rfl, by rw [List.length_append, M1]; rfl, by rw [List.length_eraseIdx_of_lt il]; omega, fun x hx => LB x (List.mem_of_mem_eraseIdx hx), fun x hx => ?_, fun s hs => ?_⟩, (k67.wr nll).wr nx6⟩
        · rcases List.mem_append.mp hx with hx | hx
          · exact M2 x hx
          · rw [List.mem_singleton.mp hx]; exact LB y yL
        · rcases LM s hs with h | h
          · by_cases z : s = y
            · exact .inr (List.mem_append_right _ (List.mem_singleton.mpr z))
            · left
              obtain ⟨i, ei⟩ := List.getElem?_of_mem h
              refine List.mem_eraseIdx_iff_getElem?.mpr ⟨i, fun zz => ?_, ei⟩
              rw [zz, eL] at ei
              exact z (Option.some.inj ei).symm
          · exact .inr (List.mem_append_left _ h)
      · rintro σ H7 ⟨⟨L, M, c11, rfl, hL, hM, M1, L1, LB, M2, LM⟩, k67⟩
        have hsp7 := k67 _ _ not0 hsp6
        have k07 := k06.trans k67
        have n20 : O.length ≤ 20 := by omega
        have hLM : ∀ s, s < m → s ∈ M := fun s hs => by
          rcases LM s hs with h | h
          · have : L = [] := List.eq_nil_of_length_eq_zero (by omega)
            rw [this] at h
            cases h
          · exact h
        have Mget : ∀ i, i < O.length → ∃ s, M[i]? = some s ∧ s < m := fun i hi => by
          have e := List.getElem?_eq_getElem (l := M) (i := i) (by omega)
          exact ⟨_, e, M2 _ (List.mem_of_getElem? e)⟩
        try simp (maxSteps := 1000000) only [tSeq, tIfS, tTest, tOp, tUn, tCB, tCons, tNil, tVar, tC, rI0, rI, rU, rEq, rNe, tRet, tRetN, tAsg, gName, gSub, tBM, tBM0, tNext, tB, tNot, tAnd, tOr, tIf, tCall, tDrop, tBreak, tCont, L2.start, tDGet, sDPut, tTup, tLst, tDNewK, tRevL, rCat, rAppend, rPop, rSetL, tAndV, tOrV, tNotV, tSl, tPart, tNoPart, tM1, gTup, gCons, gNil, cxK, cxnK, List.map_cons, List.map_nil, List.length_cons, List.length_nil, List.replicate, List.cons_append, List.nil_append, List.append_nil, List.set_cons_zero, List.set_cons_succ, List.getElem?_cons_zero, List.getElem?_cons_succ, Option.some.injEq, V.ref.injEq, V.int.injEq, V.str.injEq, V.bl.injEq, V.ty.injEq, exists_eq_left', exists_eq_left, exists_and_left, List.cons.injEq, and_true, true_and, sc_ii, sc_ss, sc_bb, sc_ni, sc_in, sc_is, sc_si, sc_nn, decide_true, decide_false, reduceCtorEq, Bool.false_eq_true, if_true, if_false, ite_true, ite_false, exists_const, eq_self, false_and, and_false, or_false, false_or, exists_false, Evl.rLenS, rSum, wipe, tYes, exists_eq, exists_eq', rIxL, rIxT, rIxS, exists_and_right, gt_iff_lt, not_true_eq_false, not_false_eq_true, Bool.not_true, Bool.not_false, decide_eq_true_eq, Nat.reduceSub, Nat.reduceAdd, List.append_assoc, tChain, tDIn, tDNotIn, sDDel, tAug, ipI]
        refine ⟨.inl ⟨by omega, by omega⟩, fun r nr => ?_⟩
        have kr := (Kp.new (S := []) nr (o := .dK []))
        have hn7 := k07 _ _ not0 hn
        have nr0 : H r = none := noneB k07 nr
        have zl : zs.length ≤ 6 := z6
        refine ⟨.ref nl, rfl, nl, rfl, ⟨_, sq_l (kr _ _ not0 hn7)⟩, for_list (K := K) (a := nl) (xs := zs.map V.str) (fun i σ H' => (∃ (c8 c14 c15 c16 c17 c18 : Option V) (u : Nat), σ = [some (.ref a), some (.int (at_ : Nat)), some (.ref nl), some (.ref rd), some (.int (s0 : Nat)), some (.int (m : Nat)), some (.ref sp), some (.ref ol), c8, some (.ref ll), some (.ref xl), c11, some (.int (u : Nat)), some (.ref r), c14, c15, c16, c17, c18] ∧ u = 3 * m + i * O.length) ∧ (∃ c', RwAt H' r (zs.take i) O.length c' ∧ CellB (zs.take i) O.length 10 c') ∧ Kp [] H7 H') ⟨⟨_, _, _, _, _, _, 3 * m, rfl, by omega⟩, ⟨c, ⟨[], upd_same, rfl, fun i z e => by cases e⟩, fun z hz => nomatch hz⟩, kr⟩ (fun i σ H' _ h => (k07.trans h.2.2).ls not0 (sq_l hn)) ?_ ?_⟩
        · rintro i x σ H8 hx ⟨⟨c8, c14, c15, c16, c17, c18, u, rfl, rfl⟩, ⟨c', hrw8, hb8⟩, k78⟩
          obtain ⟨z, ez, rfl⟩ : ∃ z, zs[i]? = some z ∧ V.str z = x := by
            rw [List.getElem?_map] at hx
            cases e : zs[i]? with
            | none => rw [e] at hx; cases hx
            | some z => rw [e] at hx; exact ⟨z, rfl, Option.some.inj hx⟩
          have hz := List.mem_of_getElem? ez
          have il : i < zs.length := (List.getElem?_eq_some_iff.mp ez).1
          have k08 := k07.trans k78
          try simp (maxSteps := 1000000) only [tSeq, tIfS, tTest, tOp, tUn, tCB, tCons, tNil, tVar, tC, rI0, rI, rU, rEq, rNe, tRet, tRetN, tAsg, gName, gSub, tBM, tBM0, tNext, tB, tNot, tAnd, tOr, tIf, tCall, tDrop, tBreak, tCont, L2.start, tDGet, sDPut, tTup, tLst, tDNewK, tRevL, rCat, rAppend, rPop, rSetL, tAndV, tOrV, tNotV, tSl, tPart, tNoPart, tM1, gTup, gCons, gNil, cxK, cxnK, List.map_cons, List.map_nil, List.length_cons, List.length_nil, List.replicate, List.cons_append, List.nil_append, List.append_nil, List.set_cons_zero, List.set_cons_succ, List.getElem?_cons_zero, List.getElem?_cons_succ, Option.some.injEq, V.ref.injEq, V.int.injEq, V.str.injEq, V.bl.injEq, V.ty.injEq, exists_eq_left', exists_eq_left, exists_and_left, List.cons.injEq, and_true, true_and, sc_ii, sc_ss, sc_bb, sc_ni, sc_in, sc_is, sc_si, sc_nn, decide_true, decide_false, reduceCtorEq, Bool.false_eq_true, if_true, if_false, ite_true, ite_false, exists_const, eq_self, false_and, and_false, or_false, false_or, exists_false, Evl.rLenS, rSum, wipe, tYes, exists_eq, exists_eq', rIxL, rIxT, rIxS, exists_and_right, gt_iff_lt, not_true_eq_false, not_false_eq_true, Bool.not_true, Bool.not_false, decide_eq_true_eq, Nat.reduceSub, Nat.reduceAdd, List.append_assoc, tChain, tDIn, tDNotIn, sDDel, tAug, ipI]
          refine ⟨by decide, fun rl nrl => ?_⟩
          have krl := (Kp.new (S := []) nrl (o := .lst []))
          have hM8 := k78 _ _ not0 hM
          have nrl0 : H rl = none := noneB k08 nrl
          refine ⟨.ref xl, rfl, xl, rfl, ⟨_, sq_l (krl _ _ not0 hM8)⟩, for_list (K := K) (a := xl) (xs := M.map fun x => V.int (x : Nat)) (fun j σ H' => (∃ (c8 c16 c17 c18 : Option V) (u : Nat), σ = [some (.ref a), some (.int (at_ : Nat)), some (.ref nl), some (.ref rd), some (.int (s0 : Nat)), some (.int (m : Nat)), some (.ref sp), some (.ref ol), c8, some (.ref ll), some (.ref xl), c11, some (.int (u : Nat)), some (.ref r), some (.str z), some (.ref rl), c16, c17, c18] ∧ u = 3 * m + i * O.length + j) ∧ (∃ (xs : List V) (g : Nat → Int × Int), H' rl = some (.lst xs) ∧ Cells g xs j H' ∧ ∀ s, s < j → (0 ≤ (g s).1 ∧ (g s).1 < 10) ∧ 0 ≤ (g s).2 ∧ (g s).2 < O.length) ∧ Kp [] H8 H') ⟨⟨_, _, _, _, _, rfl, rfl⟩, ⟨[], fun _ => (0, 0), upd_same, ⟨rfl, fun i hi => absurd hi (by omega)⟩, fun s hs => absurd hs (by omega)⟩, krl⟩ (fun j σ H' _ h => h.2.2.ls not0 (sq_l hM8)) ?_ ?_⟩
          · rintro j x σ H9 hx ⟨⟨c8, c16, c17, c18, u, rfl, rfl⟩, ⟨xs9, g, hrl, hC, hg⟩, k89⟩
            obtain ⟨s, es, rfl⟩ : ∃ s, M[j]? = some s ∧ V.int (s : Nat) = x := by
              rw [List.getElem?_map] at hx
              cases e : M[j]? with
              | none => rw [e] at hx; cases hx
              | some z => rw [e] at hx; exact ⟨z, rfl, Option.some.inj hx⟩
            have sm := M2 s (List.mem_of_getElem? es)
            have jl : j < M.length := (List.getElem?_eq_some_iff.mp es).1
            have k09 := k08.trans k89
            obtain ⟨kv, l9, xs, hd9, ev9, hl9, hc9⟩ := (hrw.kp k09).get nd hz
            obtain ⟨pr, epr, hpr⟩ := hc9.2 s sm
            obtain ⟨⟨b1, b2⟩, b3, b4⟩ := hb z hz s sm
            have hM9 := k89 _ _ not0 hM8
            try simp (maxSteps := 1000000) only [tSeq, tIfS, tTest, tOp, tUn, tCB, tCons, tNil, tVar, tC, rI0, rI, rU, rEq, rNe, tRet, tRetN, tAsg, gName, gSub, tBM, tBM0, tNext, tB, tNot, tAnd, tOr, tIf, tCall, tDrop, tBreak, tCont, L2.start, tDGet, sDPut, tTup, tLst, tDNewK, tRevL, rCat, rAppend, rPop, rSetL, tAndV, tOrV, tNotV, tSl, tPart, tNoPart, tM1, gTup, gCons, gNil, cxK, cxnK, List.map_cons, List.map_nil, List.length_cons, List.length_nil, List.replicate, List.cons_append, List.nil_append, List.append_nil, List.set_cons_zero, List.set_cons_succ, List.getElem?_cons_zero, List.getElem?_cons_succ, Option.some.injEq, V.ref.injEq, V.int.injEq, V.str.injEq, V.bl.injEq, V.ty.injEq, exists_eq_left', exists_eq_left, exists_and_left, List.cons.injEq, and_true, true_and, sc_ii, sc_ss, sc_bb, sc_ni, sc_in, sc_is, sc_si, sc_nn, decide_true, decide_false, reduceCtorEq, Bool.false_eq_true, if_true, if_false, ite_true, ite_false, exists_const, eq_self, false_and, and_false, or_false, false_or, exists_false, Evl.rLenS, rSum, wipe, tYes, exists_eq, exists_eq', rIxL, rIxT, rIxS, exists_and_right, gt_iff_lt, not_true_eq_false, not_false_eq_true, Bool.not_true, Bool.not_false, decide_eq_true_eq, Nat.reduceSub, Nat.reduceAdd, List.append_assoc, tChain, tDIn, tDNotIn, sDDel, tAug, ipI]
            refine ⟨_, ev9 ▸ DGet.k (k := Sum.inr z) hd9, l9, rfl, _, sq_l hl9, .ref pr, atI_nat epr, ?_⟩
            refine lcRgN O.length (by omega) (fun o i H' => ∃ js : List Nat, H' o = some (.lst (js.map fun x => V.int (x : Nat))) ∧ js.length ≤ i ∧ (∀ j ∈ js, j < O.length) ∧ (∀ k s', k < i → M[k]? = some s' → ((s' : Nat) : Int) = (c z s).2 → js ≠ []) ∧ Kp [] H9 H') (fun R q' => ?_) (fun o no => ⟨[], upd_same, Nat.le_refl _, (fun x h => nomatch h), fun k s' hk => absurd hk (by omega), Kp.new no⟩) ?_ ?_
            · try simp (maxSteps := 1000000) only [tSeq, tIfS, tTest, tOp, tUn, tCB, tCons, tNil, tVar, tC, rI0, rI, rU, rEq, rNe, tRet, tRetN, tAsg, gName, gSub, tBM, tBM0, tNext, tB, tNot, tAnd, tOr, tIf, tCall, tDrop, tBreak, tCont, L2.start, tDGet, sDPut, tTup, tLst, tDNewK, tRevL, rCat, rAppend, rPop, rSetL, tAndV, tOrV, tNotV, tSl, tPart, tNoPart, tM1, gTup, gCons, gNil, cxK, cxnK, List.map_cons, List.map_nil, List.length_cons, List.length_nil, List.replicate, List.cons_append, List.nil_append, List.append_nil, List.set_cons_zero, List.set_cons_succ, List.getElem?_cons_zero, List.getElem?_cons_succ, Option.some.injEq, V.ref.injEq, V.int.injEq, V.str.injEq, V.bl.injEq, V.ty.injEq, exists_eq_left', exists_eq_left, exists_and_left, List.cons.injEq, and_true, true_and, sc_ii, sc_ss, sc_bb, sc_ni, sc_in, sc_is, sc_si, sc_nn, decide_true, decide_false, reduceCtorEq, Bool.false_eq_true, if_true, if_false, ite_true, ite_false, exists_const, eq_self, false_and, and_false, or_false, false_or, exists_false, Evl.rLenS, rSum, wipe, tYes, exists_eq, exists_eq', rIxL, rIxT, rIxS, exists_and_right, gt_iff_lt, not_true_eq_false, not_false_eq_true, Bool.not_true, Bool.not_false, decide_eq_true_eq, Nat.reduceSub, Nat.reduceAdd, List.append_assoc, tChain, tDIn, tDNotIn, sDDel, tAug, ipI]
              refine ⟨_, .inl (sq_l hM9), ?_⟩
              rw [List.length_map, M1]
              exact q'
            · rintro o i' H' no hi' ⟨js, hjs, jl1, jl2, jl3, k9'⟩
              obtain ⟨s', es', sm'⟩ := Mget i' hi'
              try simp (maxSteps := 1000000) only [tSeq, tIfS, tTest, tOp, tUn, tCB, tCons, tNil, tVar, tC, rI0, rI, rU, rEq, rNe, tRet, tRetN, tAsg, gName, gSub, tBM, tBM0, tNext, tB, tNot, tAnd, tOr, tIf, tCall, tDrop, tBreak, tCont, L2.start, tDGet, sDPut, tTup, tLst, tDNewK, tRevL, rCat, rAppend, rPop, rSetL, tAndV, tOrV, tNotV, tSl, tPart, tNoPart, tM1, gTup, gCons, gNil, cxK, cxnK, List.map_cons, List.map_nil, List.length_cons, List.length_nil, List.replicate, List.cons_append, List.nil_append, List.append_nil, List.set_cons_zero, List.set_cons_succ, List.getElem?_cons_zero, List.getElem?_cons_succ, Option.some.injEq, V.ref.injEq, V.int.injEq, V.str.injEq, V.bl.injEq, V.ty.injEq, exists_eq_left', exists_eq_left, exists_and_left, List.cons.injEq, and_true, true_and, sc_ii, sc_ss, sc_bb, sc_ni, sc_in, sc_is, sc_si, sc_nn, decide_true, decide_false, reduceCtorEq, Bool.false_eq_true, if_true, if_false, ite_true, ite_false, exists_const, eq_self, false_and, and_false, or_false, false_or, exists_false, Evl.rLenS, rSum, wipe, tYes, exists_eq, exists_eq', rIxL, rIxT, rIxS, exists_and_right, gt_iff_lt, not_true_eq_false, not_false_eq_true, Bool.not_true, Bool.not_false, decide_eq_true_eq, Nat.reduceSub, Nat.reduceAdd, List.append_assoc, tChain, tDIn, tDNotIn, sDDel, tAug, ipI]
              refine ⟨_, sq_l (k9' _ _ not0 hM9), .int (s' : Nat), atI_nat (by rw [List.getElem?_map, es']; rfl), _, sq_t (k9' _ _ not0 hpr), .int (c z s).2, rfl, rfl, ?_⟩
              by_cases e : ((s' : Nat) : Int) = (c z s).2
              · rw [if_pos (by rw [e])]
                refine ⟨_, hjs, smallL (by rw [List.length_map]; omega), js ++ [i'], by rw [upd_same, List.map_append]; rfl, by rw [List.length_append, List.length_singleton]; omega, fun x hx => ?_, fun k s' _ _ _ => by simp, k9'.wr no⟩
                rcases List.mem_append.mp hx with hx | hx
                · exact jl2 x hx
                · rw [List.mem_singleton.mp hx]; exact hi'
              · rw [if_neg (fun z => e (by injection z))]
                refine ⟨js, hjs, by omega, jl2, fun k s'' hk ek e2 => ?_, k9'⟩
                by_cases z : k = i'
                · subst z
                  rw [es'] at ek
                  cases ek
                  exact absurd e2 e
                · exact jl3 k s'' (by omega) ek e2
            · rintro o H' no ⟨js, hjs, jl1, jl2, jl3, k9'⟩
              have jne : js ≠ [] := by
                have hin := hLM (c z s).2.toNat (by omega)
                obtain ⟨k, ek⟩ := List.getElem?_of_mem hin
                exact jl3 k _ (by rw [← M1]; exact (List.getElem?_eq_some_iff.mp ek).1) ek (by omega)
              have jpos : 0 < js.length := List.length_pos_iff.mpr jne
              have uz : (i + 1) * O.length ≤ zs.length * (2 * m) := Nat.mul_le_mul il O3
              rw [Nat.add_mul, Nat.one_mul, Nat.mul_comm zs.length] at uz
              obtain ⟨v, evv, v0, v1, _⟩ := dget (3 * m + i * O.length + j) (by omega)
              have hrl' := k9' _ _ not0 hrl
              have hsp' := (k89.trans k9') _ _ not0 (k78 _ _ not0 hsp7)
              have two : (2 : Nat) ≤ sizeLine := by rw [sizeLine_eq]; decide
              try simp (maxSteps := 1000000) only [tSeq, tIfS, tTest, tOp, tUn, tCB, tCons, tNil, tVar, tC, rI0, rI, rU, rEq, rNe, tRet, tRetN, tAsg, gName, gSub, tBM, tBM0, tNext, tB, tNot, tAnd, tOr, tIf, tCall, tDrop, tBreak, tCont, L2.start, tDGet, sDPut, tTup, tLst, tDNewK, tRevL, rCat, rAppend, rPop, rSetL, tAndV, tOrV, tNotV, tSl, tPart, tNoPart, tM1, gTup, gCons, gNil, cxK, cxnK, List.map_cons, List.map_nil, List.length_cons, List.length_nil, List.replicate, List.cons_append, List.nil_append, List.append_nil, List.set_cons_zero, List.set_cons_succ, List.getElem?_cons_zero, List.getElem?_cons_succ, Option.some.injEq, V.ref.injEq, V.int.injEq, V.str.injEq, V.bl.injEq, V.ty.injEq, exists_eq_left', exists_eq_left, exists_and_left, List.cons.injEq, and_true, true_and, sc_ii, sc_ss, sc_bb, sc_ni, sc_in, sc_is, sc_si, sc_nn, decide_true, decide_false, reduceCtorEq, Bool.false_eq_true, if_true, if_false, ite_true, ite_false, exists_const, eq_self, false_and, and_false, or_false, false_or, exists_false, Evl.rLenS, rSum, wipe, tYes, exists_eq, exists_eq', rIxL, rIxT, rIxS, exists_and_right, gt_iff_lt, not_true_eq_false, not_false_eq_true, Bool.not_true, Bool.not_false, decide_eq_true_eq, Nat.reduceSub, Nat.reduceAdd, List.append_assoc, tChain, tDIn, tDNotIn, sDDel, tAug, ipI]
              refine ⟨.inl ⟨rfl, _, sq_l hrl'⟩, _, sq_t (k9' _ _ not0 hpr), .int (c z s).1, rfl, _, sq_l hsp', _, dV evv, ?_⟩
              try simp (maxSteps := 1000000) only [tSeq, tIfS, tTest, tOp, tUn, tCB, tCons, tNil, tVar, tC, rI0, rI, rU, rEq, rNe, tRet, tRetN, tAsg, gName, gSub, tBM, tBM0, tNext, tB, tNot, tAnd, tOr, tIf, tCall, tDrop, tBreak, tCont, L2.start, tDGet, sDPut, tTup, tLst, tDNewK, tRevL, rCat, rAppend, rPop, rSetL, tAndV, tOrV, tNotV, tSl, tPart, tNoPart, tM1, gTup, gCons, gNil, cxK, cxnK, List.map_cons, List.map_nil, List.length_cons, List.length_nil, List.replicate, List.cons_append, List.nil_append, List.append_nil, List.set_cons_zero, List.set_cons_succ, List.getElem?_cons_zero, List.getElem?_cons_succ, Option.some.injEq, V.ref.injEq, V.int.injEq, V.str.injEq, V.bl.injEq, V.ty.injEq, exists_eq_left', exists_eq_left, exists_and_left, List.cons.injEq, and_true, true_and, sc_ii, sc_ss, sc_bb, sc_ni, sc_in, sc_is, sc_si, sc_nn, decide_true, decide_false, reduceCtorEq, Bool.false_eq_true, if_true, if_false, ite_true, ite_false, exists_const, eq_self, false_and, and_false, or_false, false_or, exists_false, Evl.rLenS, rSum, wipe, tYes, exists_eq, exists_eq', rIxL, rIxT, rIxS, exists_and_right, gt_iff_lt, not_true_eq_false, not_false_eq_true, Bool.not_true, Bool.not_false, decide_eq_true_eq, Nat.reduceSub, Nat.reduceAdd, List.append_assoc, tChain, tDIn, tDNotIn, sDDel, tAug, ipI, rIv_int]
              refine ⟨_, .inl (sq_l hjs), ?_⟩
              rw [List.length_map]
              have mn := Int.emod_nonneg v (show ((js.length : Nat) : Int) ≠ 0 by omega)
              have ml := Int.emod_lt_of_pos v (show (0 : Int) < (js.length : Nat) by omega)
              have ej := List.getElem?_eq_getElem (l := js) (i := (v % ((js.length : Nat) : Int)).toNat) (by omega)
              generalize js[(v % ((js.length : Nat) : Int)).toNat] = y at ej
              have yn := jl2 y (List.mem_of_getElem? ej)
              refine ⟨by omega, _, sq_l hjs, .int (y : Nat), atI_of mn (by rw [List.getElem?_map, ej]; rfl), two, fun p np => ?_⟩
              have kp := (Kp.new np : Kp [] H' (upd H' p (.tup [.int (c z s).1, .int (y : Nat)])))
              have hrl2 := kp _ _ not0 hrl'
              refine ⟨xs9, hrl2, smallL (by rw [hC.1]; omega), ⟨_, _, _, _, 3 * m + i * O.length + (j + 1), ⟨rfl, by omega, rfl, rfl, rfl⟩, rfl⟩, ⟨_, upd_same, fun s' => if s' = j then ((c z s).1, ((y : Nat) : Int)) else g s', ?_, fun s' hs' => ?_⟩, ((k89.trans k9').trans kp).wr nrl⟩
              · refine Cells.putL (Cells.snoc (Cells.congr ((hC.kp k9').kp kp) fun s' hs' => ?_) ?_) hrl2
                · rw [if_neg (by omega)]
                · rw [upd_same, if_pos rfl]
              · dsimp only
                by_cases z : s' = j
                · rw [if_pos z]
                  exact ⟨⟨b1, b2⟩, by show (0 : Int) ≤ (y : Nat); omega, by show ((y : Nat) : Int) < _; omega⟩
                · rw [if_neg z]
                  exact hg s' (by omega)
          · rintro σ H9 ⟨⟨c8, c16, c17, c18, u, rfl, rfl⟩, ⟨xs9, g, hrl, hC, hg⟩, k89⟩
            rw [List.length_map, M1] at hC hg
            have hput := (RwAt.congr (c' := fun y s => if y = z then g s else c' y s) hrw8 (fun y hy s hs => by rw [if_neg (fun e => nd_fresh nd ez (by rw [← e]; exact hy))])).put (z := z) (xs := xs9) k89 (nd_fresh nd ez) hrl (Cells.congr hC fun s hs => by rw [if_pos rfl])
            obtain ⟨kvs, hr9, hl9, hput, hrw9⟩ := hput
            try simp (maxSteps := 1000000) only [tSeq, tIfS, tTest, tOp, tUn, tCB, tCons, tNil, tVar, tC, rI0, rI, rU, rEq, rNe, tRet, tRetN, tAsg, gName, gSub, tBM, tBM0, tNext, tB, tNot, tAnd, tOr, tIf, tCall, tDrop, tBreak, tCont, L2.start, tDGet, sDPut, tTup, tLst, tDNewK, tRevL, rCat, rAppend, rPop, rSetL, tAndV, tOrV, tNotV, tSl, tPart, tNoPart, tM1, gTup, gCons, gNil, cxK, cxnK, List.map_cons, List.map_nil, List.length_cons, List.length_nil, List.replicate, List.cons_append, List.nil_append, List.append_nil, List.set_cons_zero, List.set_cons_succ, List.getElem?_cons_zero, List.getElem?_cons_succ, Option.some.injEq, V.ref.injEq, V.int.injEq, V.str.injEq, V.bl.injEq, V.ty.injEq, exists_eq_left', exists_eq_left, exists_and_left, List.cons.injEq, and_true, true_and, sc_ii, sc_ss, sc_bb, sc_ni, sc_in, sc_is, sc_si, sc_nn, decide_true, decide_false, reduceCtorEq, Bool.false_eq_true, if_true, if_false, ite_true, ite_false, exists_const, eq_self, false_and, and_false, or_false, false_or, exists_false, Evl.rLenS, rSum, wipe, tYes, exists_eq, exists_eq', rIxL, rIxT, rIxS, exists_and_right, gt_iff_lt, not_true_eq_false, not_false_eq_true, Bool.not_true, Bool.not_false, decide_eq_true_eq, Nat.reduceSub, Nat.reduceAdd, List.append_assoc, tChain, tDIn, tDNotIn, sDDel, tAug, ipI]
            refine ⟨_, DPut.k (k := Sum.inr z) hr9 (smallL (by rw [hl9, List.length_take]; omega)), ⟨_, _, _, _, _, _, 3 * m + (i + 1) * O.length, ⟨rfl, ?_, rfl, rfl, rfl, rfl, rfl⟩, rfl⟩, ⟨fun y s => if y = z then g s else c' y s, ?_, fun y hy s hs => ?_⟩, (k78.trans k89).wr nr⟩
            · rw [List.length_map, M1, Nat.add_mul, Nat.one_mul]
              omega
            · rw [hput, take_snoc ez]
              exact hrw9
            · rw [take_snoc ez] at hy
              dsimp only
              by_cases e : y = z
              · rw [if_pos e]; exact hg s hs
              · rw [if_neg e]
                rcases List.mem_append.mp hy with hy | hy
                · exact hb8 y hy s hs
                · exact absurd (List.mem_singleton.mp hy) e
        · rintro σ H8 ⟨⟨c8, c14, c15, c16, c17, c18, u, rfl, rfl⟩, ⟨c', hrw8, hb8⟩, k78⟩
          rw [List.length_map, List.take_length] at hrw8 hb8
          have k08 := k07.trans k78
          have hM8 := k78 _ _ not0 hM
          have hsp8 := k78 _ _ not0 hsp7
          try simp (maxSteps := 1000000) only [tSeq, tIfS, tTest, tOp, tUn, tCB, tCons, tNil, tVar, tC, rI0, rI, rU, rEq, rNe, tRet, tRetN, tAsg, gName, gSub, tBM, tBM0, tNext, tB, tNot, tAnd, tOr, tIf, tCall, tDrop, tBreak, tCont, L2.start, tDGet, sDPut, tTup, tLst, tDNewK, tRevL, rCat, rAppend, rPop, rSetL, tAndV, tOrV, tNotV, tSl, tPart, tNoPart, tM1, gTup, gCons, gNil, cxK, cxnK, List.map_cons, List.map_nil, List.length_cons, List.length_nil, List.replicate, List.cons_append, List.nil_append, List.append_nil, List.set_cons_zero, List.set_cons_succ, List.getElem?_cons_zero, List.getElem?_cons_succ, Option.some.injEq, V.ref.injEq, V.int.injEq, V.str.injEq, V.bl.injEq, V.ty.injEq, exists_eq_left', exists_eq_left, exists_and_left, List.cons.injEq, and_true, true_and, sc_ii, sc_ss, sc_bb, sc_ni, sc_in, sc_is, sc_si, sc_nn, decide_true, decide_false, reduceCtorEq, Bool.false_eq_true, if_true, if_false, ite_true, ite_false, exists_const, eq_self, false_and, and_false, or_false, false_or, exists_false, Evl.rLenS, rSum, wipe, tYes, exists_eq, exists_eq', rIxL, rIxT, rIxS, exists_and_right, gt_iff_lt, not_true_eq_false, not_false_eq_true, Bool.not_true, Bool.not_false, decide_eq_true_eq, Nat.reduceSub, Nat.reduceAdd, List.append_assoc, tChain, tDIn, tDNotIn, sDDel, tAug, ipI]
          refine lcRgN O.length (by omega) (fun o i H' => ∃ js : List Nat, H' o = some (.lst (js.map fun x => V.int (x : Nat))) ∧ js.length ≤ i ∧ (∀ j ∈ js, j < O.length) ∧ (∀ k s', k < i → M[k]? = some s' → s' = s0 → js ≠ []) ∧ Kp [] H8 H') (fun R q' => ?_) (fun o no => ⟨[], upd_same, Nat.le_refl _, (fun x h => nomatch h), fun k s' hk => absurd hk (by omega), Kp.new no⟩) ?_ ?_
          · try simp (maxSteps := 1000000) only [tSeq, tIfS, tTest, tOp, tUn, tCB, tCons, tNil, tVar, tC, rI0, rI, rU, rEq, rNe, tRet, tRetN, tAsg, gName, gSub, tBM, tBM0, tNext, tB, tNot, tAnd, tOr, tIf, tCall, tDrop, tBreak, tCont, L2.start, tDGet, sDPut, tTup, tLst, tDNewK, tRevL, rCat, rAppend, rPop, rSetL, tAndV, tOrV, tNotV, tSl, tPart, tNoPart, tM1, gTup, gCons, gNil, cxK, cxnK, List.map_cons, List.map_nil, List.length_cons, List.length_nil, List.replicate, List.cons_append, List.nil_append, List.append_nil, List.set_cons_zero, List.set_cons_succ, List.getElem?_cons_zero, List.getElem?_cons_succ, Option.some.injEq, V.ref.injEq, V.int.injEq, V.str.injEq, V.bl.injEq, V.ty.injEq, exists_eq_left', exists_eq_left, exists_and_left, List.cons.injEq, and_true, true_and, sc_ii, sc_ss, sc_bb, sc_ni, sc_in, sc_is, sc_si, sc_nn, decide_true, decide_false, reduceCtorEq, Bool.false_eq_true, if_true, if_false, ite_true, ite_false, exists_const, eq_self, false_and, and_false, or_false, false_or, exists_false, Evl.rLenS, rSum, wipe, tYes, exists_eq, exists_eq', rIxL, rIxT, rIxS, exists_and_right, gt_iff_lt, not_true_eq_false, not_false_eq_true, Bool.not_true, Bool.not_false, decide_eq_true_eq, Nat.reduceSub, Nat.reduceAdd, List.append_assoc, tChain, tDIn, tDNotIn, sDDel, tAug, ipI]
            refine ⟨_, .inl (sq_l hM8), ?_⟩
            rw [List.length_map, M1]
            exact q'
          · rintro o i' H' no hi' ⟨js, hjs, jl1, jl2, jl3, k9'⟩
            obtain ⟨s', es', sm'⟩ := Mget i' hi'
            try simp (maxSteps := 1000000) only [tSeq, tIfS, tTest, tOp, tUn, tCB, tCons, tNil, tVar, tC, rI0, rI, rU, rEq, rNe, tRet, tRetN, tAsg, gName, gSub, tBM, tBM0, tNext, tB, tNot, tAnd, tOr, tIf, tCall, tDrop, tBreak, tCont, L2.start, tDGet, sDPut, tTup, tLst, tDNewK, tRevL, rCat, rAppend, rPop, rSetL, tAndV, tOrV, tNotV, tSl, tPart, tNoPart, tM1, gTup, gCons, gNil, cxK, cxnK, List.map_cons, List.map_nil, List.length_cons, List.length_nil, List.replicate, List.cons_append, List.nil_append, List.append_nil, List.set_cons_zero, List.set_cons_succ, List.getElem?_cons_zero, List.getElem?_cons_succ, Option.some.injEq, V.ref.injEq, V.int.injEq, V.str.injEq, V.bl.injEq, V.ty.injEq, exists_eq_left', exists_eq_left, exists_and_left, List.cons.injEq, and_true, true_and, sc_ii, sc_ss, sc_bb, sc_ni, sc_in, sc_is, sc_si, sc_nn, decide_true, decide_false, reduceCtorEq, Bool.false_eq_true, if_true, if_false, ite_true, ite_false, exists_const, eq_self, false_and, and_false, or_false, false_or, exists_false, Evl.rLenS, rSum, wipe, tYes, exists_eq, exists_eq', rIxL, rIxT, rIxS, exists_and_right, gt_iff_lt, not_true_eq_false, not_false_eq_true, Bool.not_true, Bool.not_false, decide_eq_true_eq, Nat.reduceSub, Nat.reduceAdd, List.append_assoc, tChain, tDIn, tDNotIn, sDDel, tAug, ipI]
            refine ⟨_, sq_l (k9' _ _ not0 hM8), .int (s' : Nat), atI_nat (by rw [List.getElem?_map, es']; rfl), rfl, ?_⟩
            by_cases e : s' = s0
            · rw [if_pos (by rw [e])]
              refine ⟨_, hjs, smallL (by rw [List.length_map]; omega), js ++ [i'], by rw [upd_same, List.map_append]; rfl, by rw [List.length_append, List.length_singleton]; omega, fun x hx => ?_, fun k s' _ _ _ => by simp, k9'.wr no⟩
              rcases List.mem_append.mp hx with hx | hx
              · exact jl2 x hx
              · rw [List.mem_singleton.mp hx]; exact hi'
            · rw [if_neg (fun z => e (by injection z with z; omega))]
              refine ⟨js, hjs, by omega, jl2, fun k s'' hk ek e2 => ?_, k9'⟩
              by_cases z : k = i'
              · subst z
                rw [es'] at ek
                cases ek
                exact absurd e2 e
              · exact jl3 k s'' (by omega) ek e2
          · rintro o H' no ⟨js, hjs, jl1, jl2, jl3, k9'⟩
            have jne : js ≠ [] := by
              have hin := hLM s0 s0m
              obtain ⟨k, ek⟩ := List.getElem?_of_mem hin
              exact jl3 k _ (by rw [← M1]; exact (List.getElem?_eq_some_iff.mp ek).1) ek rfl
            have jpos : 0 < js.length := List.length_pos_iff.mpr jne
            have uz : zs.length * O.length ≤ zs.length * (2 * m) := Nat.mul_le_mul (Nat.le_refl _) O3
            rw [Nat.mul_comm zs.length (2 * m)] at uz
            rw [List.length_map]
            obtain ⟨v, evv, v0, v1, _⟩ := dget (3 * m + zs.length * O.length) (by omega)
            have hsp' := k9' _ _ not0 hsp8
            try simp (maxSteps := 1000000) only [tSeq, tIfS, tTest, tOp, tUn, tCB, tCons, tNil, tVar, tC, rI0, rI, rU, rEq, rNe, tRet, tRetN, tAsg, gName, gSub, tBM, tBM0, tNext, tB, tNot, tAnd, tOr, tIf, tCall, tDrop, tBreak, tCont, L2.start, tDGet, sDPut, tTup, tLst, tDNewK, tRevL, rCat, rAppend, rPop, rSetL, tAndV, tOrV, tNotV, tSl, tPart, tNoPart, tM1, gTup, gCons, gNil, cxK, cxnK, List.map_cons, List.map_nil, List.length_cons, List.length_nil, List.replicate, List.cons_append, List.nil_append, List.append_nil, List.set_cons_zero, List.set_cons_succ, List.getElem?_cons_zero, List.getElem?_cons_succ, Option.some.injEq, V.ref.injEq, V.int.injEq, V.str.injEq, V.bl.injEq, V.ty.injEq, exists_eq_left', exists_eq_left, exists_and_left, List.cons.injEq, and_true, true_and, sc_ii, sc_ss, sc_bb, sc_ni, sc_in, sc_is, sc_si, sc_nn, decide_true, decide_false, reduceCtorEq, Bool.false_eq_true, if_true, if_false, ite_true, ite_false, exists_const, eq_self, false_and, and_false, or_false, false_or, exists_false, Evl.rLenS, rSum, wipe, tYes, exists_eq, exists_eq', rIxL, rIxT, rIxS, exists_and_right, gt_iff_lt, not_true_eq_false, not_false_eq_true, Bool.not_true, Bool.not_false, decide_eq_true_eq, Nat.reduceSub, Nat.reduceAdd, List.append_assoc, tChain, tDIn, tDNotIn, sDDel, tAug, ipI]
            refine ⟨_, sq_l hsp', _, dV evv, ?_⟩
            try simp (maxSteps := 1000000) only [tSeq, tIfS, tTest, tOp, tUn, tCB, tCons, tNil, tVar, tC, rI0, rI, rU, rEq, rNe, tRet, tRetN, tAsg, gName, gSub, tBM, tBM0, tNext, tB, tNot, tAnd, tOr, tIf, tCall, tDrop, tBreak, tCont, L2.start, tDGet, sDPut, tTup, tLst, tDNewK, tRevL, rCat, rAppend, rPop, rSetL, tAndV, tOrV, tNotV, tSl, tPart, tNoPart, tM1, gTup, gCons, gNil, cxK, cxnK, List.map_cons, List.map_nil, List.length_cons, List.length_nil, List.replicate, List.cons_append, List.nil_append, List.append_nil, List.set_cons_zero, List.set_cons_succ, List.getElem?_cons_zero, List.getElem?_cons_succ, Option.some.injEq, V.ref.injEq, V.int.injEq, V.str.injEq, V.bl.injEq, V.ty.injEq, exists_eq_left', exists_eq_left, exists_and_left, List.cons.injEq, and_true, true_and, sc_ii, sc_ss, sc_bb, sc_ni, sc_in, sc_is, sc_si, sc_nn, decide_true, decide_false, reduceCtorEq, Bool.false_eq_true, if_true, if_false, ite_true, ite_false, exists_const, eq_self, false_and, and_false, or_false, false_or, exists_false, Evl.rLenS, rSum, wipe, tYes, exists_eq, exists_eq', rIxL, rIxT, rIxS, exists_and_right, gt_iff_lt, not_true_eq_false, not_false_eq_true, Bool.not_true, Bool.not_false, decide_eq_true_eq, Nat.reduceSub, Nat.reduceAdd, List.append_assoc, tChain, tDIn, tDNotIn, sDDel, tAug, ipI, rIv_int]
            refine ⟨_, .inl (sq_l hjs), ?_⟩
            rw [List.length_map]
            have mn := Int.emod_nonneg v (show ((js.length : Nat) : Int) ≠ 0 by omega)
            have ml := Int.emod_lt_of_pos v (show (0 : Int) < (js.length : Nat) by omega)
            have ej := List.getElem?_eq_getElem (l := js) (i := (v % ((js.length : Nat) : Int)).toNat) (by omega)
            generalize js[(v % ((js.length : Nat) : Int)).toNat] = y at ej
            have yn := jl2 y (List.mem_of_getElem? ej)
            have three : (3 : Nat) ≤ sizeLine := by rw [sizeLine_eq]; decide
            refine ⟨by omega, _, sq_l hjs, .int (y : Nat), atI_of mn (by rw [List.getElem?_map, ej]; rfl), three, fun p np => ?_⟩
            have kp := (Kp.new np : Kp [] H' (upd H' p (.lst [.ref r, .int (y : Nat), .ref xl])))
            exact q p r xl O.length y c' _ (noneB (k08.trans k9') np) upd_same ((hrw8.kp k9').kp kp) hb8 (by omega) (by omega) yn ((k08.trans k9').trans kp)
end
end My

set_option Elab.async false
set_option linter.all false
set_option maxRecDepth 100000
set_option maxHeartbeats 4000000
namespace My
open PySem L2 NdefX StX
abbrev s_law_least : Stmt := top 39
theorem sc_law_least : FnScope ["_law_rows_here", "_law_names_here", "_law_start", "_law_told", "_law_pair", "_law_name", "_law_size", "_law_blocks", "_law_state"] ["_law_rows_here", "_law_names_here", "_law_start", "_law_told"] (defScope s_law_least) := ⟨rfl, rfl, rfl, by decide +kernel, rfl, by decide +kernel, by decide +kernel⟩
structure BtLe (mg : Str → Option Value) : Prop where
  b_len : mg "len" = none
  b_set : mg "set" = none
  b_list : mg "list" = none
  b_range : mg "range" = none
theorem dpNats {K : PySem.W.Frag} {H : Hp} : ∀ g : List Nat, DpAll K H (g.map fun x => V.int (x : Nat)) (g.map fun x => PyData.int (x : Nat))
  | [] => .nil
  | x :: g => .cons (.int _) (dpNats g)
theorem fit_int {i : Int} : Fit (.int i) := by
  refine ⟨?_, by show PyData.depth (.int i) ≤ 60; simp [PyData.depth]⟩
  show (PyData.canLay0 (.int i) && decide (PyData.depth (.int i) ≤ 64)) = true
  simp [PyData.canLay0, PyData.depth]
theorem shNats (g : List Nat) : SeqAt.shaped (.list (g.map fun x => PyData.int (x : Nat))) = true := (fitL fun d hd => by
  obtain ⟨z, hz, rfl⟩ := List.mem_map.mp hd
  exact fit_int).1
theorem ded_self : ∀ l : List Int, l.Nodup → dedI l = l := by
  intro l
  refine snocInd (p := fun l => l.Nodup → dedI l = l) (fun _ => rfl) (fun l x ih => ?_) l
  intro nd
  have nd' := List.nodup_append.mp nd
  rw [dedI_snoc, ih nd'.1, if_neg]
  intro h
  exact nd'.2.2 x h x List.mem_cons_self rfl
section
variable {P : Program} {w : World} {K : PySem.W.Frag} {mg : Str → Option Value} {base : Heap}
def spLLeast : Sp := fun vs H Q _ => ∃ (rd nl ld : Addr) (m s0 : Nat) (zs : List Str) (c : Str → Nat → Int × Int), vs = [.ref rd, .ref nl, .int (s0 : Nat), .ref ld] ∧ RwAt H rd zs m c ∧ H nl = some (.lst (zs.map V.str)) ∧ zs.Nodup ∧ zs ≠ [] ∧ zs.length ≤ 6 ∧ CellB zs m 10 c ∧ 1 ≤ m ∧ m ≤ 100 ∧ s0 < m ∧ RwAt H ld zs (leadT zs c m s0).length (cellT zs c m s0) ∧ ∀ H', Kp [] H H' → Q (.bl true) H'
theorem ok_law_least {f : Addr} {fd : FuncData} (D : Df K mg "_law_least" s_law_least ["_law_rows_here", "_law_names_here", "_law_start", "_law_told"] f fd) (T : BtLe mg) {fp : Addr} {fdp : FuncData} (D_law_pairs : Df K mg "_law_pairs" s_law_pairs ["_law_rows_here", "_law_last", "_law_names_here", "_law_start"] fp fdp) (G_law_pairs : FnOk P w K mg base CX0 1 fp fdp ["_law_rows_here", "_law_last", "_law_names_here", "_law_start"] spPairs) {fc : Addr} {fdc : FuncData} (D_law_classes : Df K mg "_law_classes" s_law_classes ["_law_names_here", "_law_rows_here"] fc fdc) (G_law_classes : FnOk P w K mg base CX0 1 fc fdc ["_law_names_here", "_law_rows_here"] spLCls) {fb : Addr} {fdb : FuncData} (D_law_breadth : Df K mg "_law_breadth" s_law_breadth ["_law_rows_here", "_law_names_here", "_law_start"] fb fdb) (G_law_breadth : FnOk P w K mg base CX0 1 fb fdb ["_law_rows_here", "_law_names_here", "_law_start"] spBreadth) : FnOk P w K mg base CX0 2 f fd ["_law_rows_here", "_law_names_here", "_law_start", "_law_told"] spLLeast := by
  refine D.F.ok sc_law_least (fun vs H Q E h => ?_) (fun cdv A outer s H vs Q E hr h => ?_)
  · obtain ⟨rd, nl, ld, m, s0, zs, c, rfl, _⟩ := h
    rfl
  · obtain ⟨rd, nl, ld, m, s0, zs, c, rfl, hrw, hn, nd, zne, z6, hb, m1, m100, s0m, hlw, q⟩ := h
    have hu := hu_of hr
    refine ⟨_, (pss_cons (ps_for PassesOwn.never rfl (pi_list (pe_call G_law_pairs (hr.mono (by decide)) rfl D_law_pairs.g D_law_pairs.F.kp D_law_pairs.b .nil pass0 (pa_cons (pv 0) (pa_cons (pv 3) (pa_cons (pv 1) (pa_cons (pe_tup (pa_cons (pv 2) (pa_cons pe_int pa_nil))) pa_nil)))))) (pg_name (i := 4) sc_law_least.nd rfl (Or.inl rfl)) (pss_one (ps_for PassesOwn.never rfl (pi_list (pv 1)) (pg_name (i := 5) sc_law_least.nd rfl (Or.inl rfl)) (pss_one (ps_if (pt_cmpR op_ne (pe_ix (r := rIxT K) ix_tup (pe_ix (r := rIxL K) ix_list (pe_dget hu (pv 0) (pv 5) (fun _ _ => rfl)) (pe_ix (r := rIxT K) ix_tup (pv 4) pe_int (fun _ _ => rfl)) (fun _ _ => rfl)) pe_int (fun _ _ => rfl)) (pe_ix (r := rIxT K) ix_tup (pe_ix (r := rIxL K) ix_list (pe_dget hu (pv 3) (pv 5) (fun _ _ => rfl)) (pe_ix (r := rIxT K) ix_tup (pv 4) pe_int (fun _ _ => rfl)) (fun _ _ => rfl)) pe_int (fun _ _ => rfl)) (nomark _)) (pss_one (ps_ret pe_bl)) pss_nil)))))
      (pss_cons (ps_set (i := 6) sc_law_least.nd rfl (Or.inl rfl) (pe_callB (id := "len") (r := Evl.rLenS K) call_len_seq (by rfl) T.b_len PySem.boot_len (pa_cons (pe_dget hu (pv 3) (pe_ix (r := rIxL K) ix_list (pv 1) pe_int (fun _ _ => rfl)) (fun _ _ => rfl)) pa_nil)))
      (pss_cons (ps_if (pt_cmpR op_ne (pe_lenSetA rfl T.b_len rfl T.b_set (pe_call G_law_classes (hr.mono (by decide)) rfl D_law_classes.g D_law_classes.F.kp D_law_classes.b .nil pass0 (pa_cons (pv 1) (pa_cons (pv 3) pa_nil)))) (pv 6) (nomark _)) (pss_one (ps_ret pe_bl)) pss_nil)
      (pss_cons (ps_set (i := 7) sc_law_least.nd rfl (Or.inr rfl) (pe_call G_law_classes (hr.mono (by decide)) rfl D_law_classes.g D_law_classes.F.kp D_law_classes.b .nil pass0 (pa_cons (pv 1) (pa_cons (pv 0) pa_nil))))
      (pss_cons (ps_if (pt_cmpR op_ne (pe_lenSetA rfl T.b_len rfl T.b_set (pe_lc (own := [("_law_state", 8)]) (g := (gName 8)) (tt := tYes) rfl sc_law_least.nd (pi_list (pe_call G_law_breadth (hr.mono (by decide)) rfl D_law_breadth.g D_law_breadth.F.kp D_law_breadth.b .nil pass0 (pa_cons (pv 0) (pa_cons (pv 1) (pa_cons (pv 2) pa_nil))))) (blkOk_by (N := ["_law_rows_here", "_law_names_here", "_law_start", "_law_told", "_law_pair", "_law_name", "_law_size", "_law_blocks", "_law_state"]) (sc := defScope s_law_least) (by decide +kernel)) (fun _ _ _ _ _ => (pg_name (i := 8) sc_law_least.nd rfl (Or.inl rfl))) (fun _ _ _ _ _ => pts_nil) (fun _ _ _ _ _ => (pe_ix (r := rIxL K) ix_list (pv 7) (pv 8) (fun _ _ => rfl))))) (pv 6) (nomark _)) (pss_one (ps_ret pe_bl)) pss_nil)
      (pss_one (ps_ret (pe_cmpR (op_eqD hr.units) (pe_call G_law_breadth (hr.mono (by decide)) rfl D_law_breadth.g D_law_breadth.F.kp D_law_breadth.b .nil pass0 (pa_cons (pv 3) (pa_cons (pv 1) (pa_cons pe_int pa_nil)))) (pe_listRg rfl (by rfl) T.b_list (prg_1 (by rfl) T.b_range (pv 6))) (nomark _))))))))), ?_⟩
    have hN : Nx zs m c := hb.toNx
    have h0 : ∀ z ∈ zs, ∀ s, s < m → 0 ≤ (c z s).2 := fun z hz s hs => (hb z hz s hs).2.1
    have hL : LeF zs c m s0 (fndC zs c s0 m) := ⟨hN, s0m, rfl⟩
    have bL := hL.bnd
    have hN2 : Nx zs (leadT zs c m s0).length (cellT zs c m s0) := hL.nx2
    have h02 : ∀ z ∈ zs, ∀ s, s < (leadT zs c m s0).length → 0 ≤ (cellT zs c m s0 z s).2 := fun z hz s hs => by
      show (0 : Int) ≤ ((numC _ _ _ : Nat) : Int)
      omega
    have b1 : 1 ≤ (leadT zs c m s0).length := bL.1
    have b2 : (leadT zs c m s0).length ≤ 100 := Nat.le_trans bL.2 m100
    try simp (maxSteps := 1000000) only [tSeq, tIfS, tTest, tOp, tUn, tCB, tCons, tNil, tVar, tC, rI0, rI, rU, rEq, rNe, tRet, tRetN, tAsg, gName, gSub, tBM, tBM0, tNext, tB, tNot, tAnd, tOr, tIf, tCall, tDrop, tBreak, tCont, L2.start, tDGet, sDPut, tTup, tLst, tDNewK, tRevL, rCat, rAppend, rPop, rSetL, tAndV, tOrV, tNotV, tSl, tPart, tNoPart, tM1, gTup, gCons, gNil, cxK, cxnK, List.map_cons, List.map_nil, List.length_cons, List.length_nil, List.replicate, List.cons_append, List.nil_append, List.append_nil, List.set_cons_zero, List.set_cons_succ, List.getElem?_cons_zero, List.getElem?_cons_succ, Option.some.injEq, V.ref.injEq, V.int.injEq, V.str.injEq, V.bl.injEq, V.ty.injEq, exists_eq_left', exists_eq_left, exists_and_left, List.cons.injEq, and_true, true_and, sc_ii, sc_ss, sc_bb, sc_ni, sc_in, sc_is, sc_si, sc_nn, decide_true, decide_false, reduceCtorEq, Bool.false_eq_true, if_true, if_false, ite_true, ite_false, exists_const, eq_self, false_and, and_false, or_false, false_or, exists_false, Evl.rLenS, rSum, wipe, tYes, exists_eq, exists_eq', rIxL, rIxT, rIxS, exists_and_right, gt_iff_lt, not_true_eq_false, not_false_eq_true, Bool.not_true, Bool.not_false, decide_eq_true_eq, Nat.reduceSub, Nat.reduceAdd, List.append_assoc, tChain, tDIn, tDNotIn, sDDel, tAug, ipI]
    obtain ⟨z0, r0, ez0⟩ : ∃ z r, zs = z :: r := by
      cases zs with
      | nil => exact absurd rfl zne
      | cons z r => exact ⟨z, r, rfl⟩
    have hz0 : z0 ∈ zs := by rw [ez0]; simp
    refine forLD (fun l H' => ∃ ps, H' l = some (.lst ps) ∧ PrsAt H' (numC (Eqc zs c m) (fndC zs c s0 m)) ps (fndC zs c s0 m) ∧ Kp [] H H') (fun R hR => ?_) fun l H1 ⟨ps, hl, hps, k1⟩ => ?_
    · try simp (maxSteps := 1000000) only [tSeq, tIfS, tTest, tOp, tUn, tCB, tCons, tNil, tVar, tC, rI0, rI, rU, rEq, rNe, tRet, tRetN, tAsg, gName, gSub, tBM, tBM0, tNext, tB, tNot, tAnd, tOr, tIf, tCall, tDrop, tBreak, tCont, L2.start, tDGet, sDPut, tTup, tLst, tDNewK, tRevL, rCat, rAppend, rPop, rSetL, tAndV, tOrV, tNotV, tSl, tPart, tNoPart, tM1, gTup, gCons, gNil, cxK, cxnK, List.map_cons, List.map_nil, List.length_cons, List.length_nil, List.replicate, List.cons_append, List.nil_append, List.append_nil, List.set_cons_zero, List.set_cons_succ, List.getElem?_cons_zero, List.getElem?_cons_succ, Option.some.injEq, V.ref.injEq, V.int.injEq, V.str.injEq, V.bl.injEq, V.ty.injEq, exists_eq_left', exists_eq_left, exists_and_left, List.cons.injEq, and_true, true_and, sc_ii, sc_ss, sc_bb, sc_ni, sc_in, sc_is, sc_si, sc_nn, decide_true, decide_false, reduceCtorEq, Bool.false_eq_true, if_true, if_false, ite_true, ite_false, exists_const, eq_self, false_and, and_false, or_false, false_or, exists_false, Evl.rLenS, rSum, wipe, tYes, exists_eq, exists_eq', rIxL, rIxT, rIxS, exists_and_right, gt_iff_lt, not_true_eq_false, not_false_eq_true, Bool.not_true, Bool.not_false, decide_eq_true_eq, Nat.reduceSub, Nat.reduceAdd, List.append_assoc, tChain, tDIn, tDNotIn, sDDel, tAug, ipI]
      refine ⟨by rw [sizeLine_eq]; decide, fun st nst => ?_⟩
      have kst := (Kp.new nst : Kp [] H (upd H st (.tup [.int (s0 : Nat), .int 0])))
      refine ⟨rd, ld, nl, st, m, (leadT zs c m s0).length, s0, zs, c, cellT zs c m s0, numC (Eqc zs c m) (fndC zs c s0 m), rfl, hrw.kp kst, hlw.kp kst, kst _ _ not0 hn, nd, by rw [upd_same, hL.num0]; rfl, hN, h0, s0m, m100, fun s hs => ⟨num_lt eqc_eqv hs, fun z hz => ?_⟩, fun l ps H' nl' hl hps k => hR l H' ⟨ps, hl, hps, kst.trans k⟩⟩
      have := hL.ans hs hz
      show (leastC (Eqc zs c m) (fndC zs c s0 m) c z (numC (Eqc zs c m) (fndC zs c s0 m) s)).2 = _
      rw [this]
    refine ⟨l, rfl, ⟨_, sq_l hl⟩, for_list (K := K) (a := l) (xs := ps) (fun i σ H' => (∃ c4 c5 : Option V, σ = [some (.ref rd), some (.ref nl), some (.int (s0 : Nat)), some (.ref ld), c4, c5, none, none, none]) ∧ Kp [] H1 H') ⟨⟨_, _, rfl⟩, Kp.refl [] _⟩ (fun i σ H' _ h => h.2.ls not0 (sq_l hl)) ?_ ?_⟩
    · rintro i x σ H2 hx ⟨⟨c4, c5, rfl⟩, k12⟩
      have il : i < (fndC zs c s0 m).length := by rw [← hps.1]; exact (List.getElem?_eq_some_iff.mp hx).1
      have es := List.getElem?_eq_getElem il
      obtain ⟨pp, epp, hpp⟩ := hps.2 i _ es
      rw [hx] at epp
      cases epp
      generalize (fndC zs c s0 m)[i] = s' at es hpp
      have sin := List.mem_of_getElem? es
      have sm := hL.in' sin
      try simp (maxSteps := 1000000) only [tSeq, tIfS, tTest, tOp, tUn, tCB, tCons, tNil, tVar, tC, rI0, rI, rU, rEq, rNe, tRet, tRetN, tAsg, gName, gSub, tBM, tBM0, tNext, tB, tNot, tAnd, tOr, tIf, tCall, tDrop, tBreak, tCont, L2.start, tDGet, sDPut, tTup, tLst, tDNewK, tRevL, rCat, rAppend, rPop, rSetL, tAndV, tOrV, tNotV, tSl, tPart, tNoPart, tM1, gTup, gCons, gNil, cxK, cxnK, List.map_cons, List.map_nil, List.length_cons, List.length_nil, List.replicate, List.cons_append, List.nil_append, List.append_nil, List.set_cons_zero, List.set_cons_succ, List.getElem?_cons_zero, List.getElem?_cons_succ, Option.some.injEq, V.ref.injEq, V.int.injEq, V.str.injEq, V.bl.injEq, V.ty.injEq, exists_eq_left', exists_eq_left, exists_and_left, List.cons.injEq, and_true, true_and, sc_ii, sc_ss, sc_bb, sc_ni, sc_in, sc_is, sc_si, sc_nn, decide_true, decide_false, reduceCtorEq, Bool.false_eq_true, if_true, if_false, ite_true, ite_false, exists_const, eq_self, false_and, and_false, or_false, false_or, exists_false, Evl.rLenS, rSum, wipe, tYes, exists_eq, exists_eq', rIxL, rIxT, rIxS, exists_and_right, gt_iff_lt, not_true_eq_false, not_false_eq_true, Bool.not_true, Bool.not_false, decide_eq_true_eq, Nat.reduceSub, Nat.reduceAdd, List.append_assoc, tChain, tDIn, tDNotIn, sDDel, tAug, ipI]
      have hn2 := (k1.trans k12) _ _ not0 hn
      refine ⟨.ref nl, rfl, nl, rfl, ⟨_, sq_l hn2⟩, for_list (K := K) (a := nl) (xs := zs.map V.str) (fun j σ H' => (∃ c5 : Option V, σ = [some (.ref rd), some (.ref nl), some (.int (s0 : Nat)), some (.ref ld), some (.ref pp), c5, none, none, none]) ∧ Kp [] H1 H') ⟨⟨_, rfl⟩, k12⟩ (fun j σ H' _ h => (k1.trans h.2).ls not0 (sq_l hn)) ?_ ?_⟩
      · rintro j x σ H3 hx ⟨⟨c5, rfl⟩, k13⟩
        obtain ⟨z, ez, rfl⟩ : ∃ z, zs[j]? = some z ∧ V.str z = x := by
          rw [List.getElem?_map] at hx
          cases e : zs[j]? with
          | none => rw [e] at hx; cases hx
          | some z => rw [e] at hx; exact ⟨z, rfl, Option.some.inj hx⟩
        have hz : z ∈ zs := List.mem_of_getElem? ez
        have k03 := k1.trans k13
        obtain ⟨kv, l3, xs, hd3, ev3, hl3, hc3⟩ := (hrw.kp k03).get nd hz
        obtain ⟨pr, epr, hpr⟩ := hc3.2 s' sm
        obtain ⟨kv', l3', xs', hd3', ev3', hl3', hc3'⟩ := (hlw.kp k03).get nd hz
        obtain ⟨pr', epr', hpr'⟩ := hc3'.2 (numC (Eqc zs c m) (fndC zs c s0 m) s') (num_lt eqc_eqv sin)
        have hpp3 := k13 _ _ not0 hpp
        have ea : (cellT zs c m s0 z (numC (Eqc zs c m) (fndC zs c s0 m) s')).1 = (c z s').1 := by
          have := hL.ans sin hz
          show (leastC (Eqc zs c m) (fndC zs c s0 m) c z (numC (Eqc zs c m) (fndC zs c s0 m) s')).1 = _
          rw [this]
        rw [ea] at hpr'
        try simp (maxSteps := 1000000) only [tSeq, tIfS, tTest, tOp, tUn, tCB, tCons, tNil, tVar, tC, rI0, rI, rU, rEq, rNe, tRet, tRetN, tAsg, gName, gSub, tBM, tBM0, tNext, tB, tNot, tAnd, tOr, tIf, tCall, tDrop, tBreak, tCont, L2.start, tDGet, sDPut, tTup, tLst, tDNewK, tRevL, rCat, rAppend, rPop, rSetL, tAndV, tOrV, tNotV, tSl, tPart, tNoPart, tM1, gTup, gCons, gNil, cxK, cxnK, List.map_cons, List.map_nil, List.length_cons, List.length_nil, List.replicate, List.cons_append, List.nil_append, List.append_nil, List.set_cons_zero, List.set_cons_succ, List.getElem?_cons_zero, List.getElem?_cons_succ, Option.some.injEq, V.ref.injEq, V.int.injEq, V.str.injEq, V.bl.injEq, V.ty.injEq, exists_eq_left', exists_eq_left, exists_and_left, List.cons.injEq, and_true, true_and, sc_ii, sc_ss, sc_bb, sc_ni, sc_in, sc_is, sc_si, sc_nn, decide_true, decide_false, reduceCtorEq, Bool.false_eq_true, if_true, if_false, ite_true, ite_false, exists_const, eq_self, false_and, and_false, or_false, false_or, exists_false, Evl.rLenS, rSum, wipe, tYes, exists_eq, exists_eq', rIxL, rIxT, rIxS, exists_and_right, gt_iff_lt, not_true_eq_false, not_false_eq_true, Bool.not_true, Bool.not_false, decide_eq_true_eq, Nat.reduceSub, Nat.reduceAdd, List.append_assoc, tChain, tDIn, tDNotIn, sDDel, tAug, ipI]
        refine ⟨_, ev3 ▸ DGet.k (k := Sum.inr z) hd3, _, sq_t hpp3, .int (s' : Nat), rfl, l3, rfl, xs, _, rfl, sq_l hl3, .ref pr, atI_nat epr, pr, rfl, _, sq_t hpr, .int (c z s').1, rfl,
          _, ev3' ▸ DGet.k (k := Sum.inr z) hd3', _, sq_t hpp3, .int (numC (Eqc zs c m) (fndC zs c s0 m) s' : Nat), rfl, l3', rfl, xs', _, rfl, sq_l hl3', .ref pr', atI_nat epr', pr', rfl, _, sq_t hpr', .int (c z s').1, rfl, rfl, ?_⟩
        rw [decide_eq_true rfl, if_neg (by decide)]
        exact k13
      · rintro σ H3 ⟨⟨c5, rfl⟩, k13⟩
        exact ⟨⟨_, _, rfl⟩, k13⟩
    · rintro σ H2 ⟨⟨c4, c5, rfl⟩, k12⟩
      have k02 := k1.trans k12
      obtain ⟨kvs, l2, xs, hd2, ev2, hl2, hc2⟩ := (hlw.kp k02).get nd hz0
      have hn2 := k02 _ _ not0 hn
      try simp (maxSteps := 1000000) only [tSeq, tIfS, tTest, tOp, tUn, tCB, tCons, tNil, tVar, tC, rI0, rI, rU, rEq, rNe, tRet, tRetN, tAsg, gName, gSub, tBM, tBM0, tNext, tB, tNot, tAnd, tOr, tIf, tCall, tDrop, tBreak, tCont, L2.start, tDGet, sDPut, tTup, tLst, tDNewK, tRevL, rCat, rAppend, rPop, rSetL, tAndV, tOrV, tNotV, tSl, tPart, tNoPart, tM1, gTup, gCons, gNil, cxK, cxnK, List.map_cons, List.map_nil, List.length_cons, List.length_nil, List.replicate, List.cons_append, List.nil_append, List.append_nil, List.set_cons_zero, List.set_cons_succ, List.getElem?_cons_zero, List.getElem?_cons_succ, Option.some.injEq, V.ref.injEq, V.int.injEq, V.str.injEq, V.bl.injEq, V.ty.injEq, exists_eq_left', exists_eq_left, exists_and_left, List.cons.injEq, and_true, true_and, sc_ii, sc_ss, sc_bb, sc_ni, sc_in, sc_is, sc_si, sc_nn, decide_true, decide_false, reduceCtorEq, Bool.false_eq_true, if_true, if_false, ite_true, ite_false, exists_const, eq_self, false_and, and_false, or_false, false_or, exists_false, Evl.rLenS, rSum, wipe, tYes, exists_eq, exists_eq', rIxL, rIxT, rIxS, exists_and_right, gt_iff_lt, not_true_eq_false, not_false_eq_true, Bool.not_true, Bool.not_false, decide_eq_true_eq, Nat.reduceSub, Nat.reduceAdd, List.append_assoc, tChain, tDIn, tDNotIn, sDDel, tAug, ipI, tLenSetA]
      refine ⟨_, sq_l hn2, .str z0, atI_of (by decide) (by rw [ez0]; rfl), _, ev2 ▸ DGet.k (k := Sum.inr z0) hd2, l2, rfl, xs, .inl (sq_l hl2), ?_⟩
      rw [hc2.1]
      refine ⟨nl, ld, (leadT zs c m s0).length, zs, cellT zs c m s0, rfl, hlw.kp k02, hn2, nd, zne, z6, hN2, h02, b1, b2, fun l3 b H3 nl3 blen hbk hl3 k3 => ?_⟩
      have emV : ∀ g : List Nat, (g.map fun x => V.int (x : Nat)) = (g.map fun x => ((x : Nat) : Int)).map V.int := fun g => by rw [List.map_map]; rfl
      have hl3' := hl3
      rw [emV] at hl3'
      have bnd : (b.map fun x => ((x : Nat) : Int)).Nodup := by
        refine List.pairwise_map.mpr (List.pairwise_iff_getElem.mpr fun i j hi hj hij e => ?_)
        have e2 : b.getD i 0 = b.getD j 0 := by
          rw [List.getD_eq_getElem?_getD, List.getD_eq_getElem?_getD, List.getElem?_eq_getElem hi, List.getElem?_eq_getElem hj]
          show b[i] = b[j]
          omega
        have := hL.apart (a := i) (b := j) (show i < (leadT zs c m s0).length by omega) (show j < (leadT zs c m s0).length by omega) ((hbk i j (by omega) (by omega)).mp e2)
        omega
      refine ⟨l3, rfl, _, sq_l hl3', by rw [List.length_map, blen]; omega, ?_⟩
      rw [ded_self _ bnd, List.length_map, blen, decide_eq_true rfl, if_neg (by decide)]
      have k03 := k02.trans k3
      have hn3 := k03 _ _ not0 hn
      refine ⟨nl, rd, m, zs, c, rfl, hrw.kp k03, hn3, nd, zne, z6, hN, h0, m1, m100, fun l4 b' H4 nl4 blen' hbk' hl4 k4 => ?_⟩
      have k04 := k03.trans k4
      try simp (maxSteps := 1000000) only [tSeq, tIfS, tTest, tOp, tUn, tCB, tCons, tNil, tVar, tC, rI0, rI, rU, rEq, rNe, tRet, tRetN, tAsg, gName, gSub, tBM, tBM0, tNext, tB, tNot, tAnd, tOr, tIf, tCall, tDrop, tBreak, tCont, L2.start, tDGet, sDPut, tTup, tLst, tDNewK, tRevL, rCat, rAppend, rPop, rSetL, tAndV, tOrV, tNotV, tSl, tPart, tNoPart, tM1, gTup, gCons, gNil, cxK, cxnK, List.map_cons, List.map_nil, List.length_cons, List.length_nil, List.replicate, List.cons_append, List.nil_append, List.append_nil, List.set_cons_zero, List.set_cons_succ, List.getElem?_cons_zero, List.getElem?_cons_succ, Option.some.injEq, V.ref.injEq, V.int.injEq, V.str.injEq, V.bl.injEq, V.ty.injEq, exists_eq_left', exists_eq_left, exists_and_left, List.cons.injEq, and_true, true_and, sc_ii, sc_ss, sc_bb, sc_ni, sc_in, sc_is, sc_si, sc_nn, decide_true, decide_false, reduceCtorEq, Bool.false_eq_true, if_true, if_false, ite_true, ite_false, exists_const, eq_self, false_and, and_false, or_false, false_or, exists_false, Evl.rLenS, rSum, wipe, tYes, exists_eq, exists_eq', rIxL, rIxT, rIxS, exists_and_right, gt_iff_lt, not_true_eq_false, not_false_eq_true, Bool.not_true, Bool.not_false, decide_eq_true_eq, Nat.reduceSub, Nat.reduceAdd, List.append_assoc, tChain, tDIn, tDNotIn, sDDel, tAug, ipI]
      refine lcL (fun a H' => H' a = some (.lst ((fndC zs c s0 m).map fun x => V.int (x : Nat))) ∧ Kp [] H4 H') (fun R hR => ?_) fun a5 H5 ⟨ha5, k5⟩ => ?_
      · try simp (maxSteps := 1000000) only [tSeq, tIfS, tTest, tOp, tUn, tCB, tCons, tNil, tVar, tC, rI0, rI, rU, rEq, rNe, tRet, tRetN, tAsg, gName, gSub, tBM, tBM0, tNext, tB, tNot, tAnd, tOr, tIf, tCall, tDrop, tBreak, tCont, L2.start, tDGet, sDPut, tTup, tLst, tDNewK, tRevL, rCat, rAppend, rPop, rSetL, tAndV, tOrV, tNotV, tSl, tPart, tNoPart, tM1, gTup, gCons, gNil, cxK, cxnK, List.map_cons, List.map_nil, List.length_cons, List.length_nil, List.replicate, List.cons_append, List.nil_append, List.append_nil, List.set_cons_zero, List.set_cons_succ, List.getElem?_cons_zero, List.getElem?_cons_succ, Option.some.injEq, V.ref.injEq, V.int.injEq, V.str.injEq, V.bl.injEq, V.ty.injEq, exists_eq_left', exists_eq_left, exists_and_left, List.cons.injEq, and_true, true_and, sc_ii, sc_ss, sc_bb, sc_ni, sc_in, sc_is, sc_si, sc_nn, decide_true, decide_false, reduceCtorEq, Bool.false_eq_true, if_true, if_false, ite_true, ite_false, exists_const, eq_self, false_and, and_false, or_false, false_or, exists_false, Evl.rLenS, rSum, wipe, tYes, exists_eq, exists_eq', rIxL, rIxT, rIxS, exists_and_right, gt_iff_lt, not_true_eq_false, not_false_eq_true, Bool.not_true, Bool.not_false, decide_eq_true_eq, Nat.reduceSub, Nat.reduceAdd, List.append_assoc, tChain, tDIn, tDNotIn, sDDel, tAug, ipI]
        exact ⟨rd, nl, m, s0, zs, c, rfl, hrw.kp k04, k04 _ _ not0 hn, nd, hN, h0, s0m, m100, fun l H' _ hl' k' => hR l H' ⟨hl', k'⟩⟩
      have hl5 := k5 _ _ not0 hl4
      refine ⟨a5, rfl, ⟨_, sq_l ha5⟩, fun D1 nD1 => lc_list (K := K) (a := a5) (xs := (fndC zs c s0 m).map fun x => V.int (x : Nat)) (fun i H' => H' D1 = some (.lst ((((fndC zs c s0 m).take i).map fun s => b'.getD s 0).map fun x => V.int (x : Nat))) ∧ Kp [] H5 H') ⟨upd_same, Kp.new nD1⟩ (fun i H' _ h => h.2.ls not0 (sq_l ha5)) ?_ ?_⟩
      · rintro i x H6 hx ⟨hD, k56⟩
        obtain ⟨s', es, rfl⟩ : ∃ s', (fndC zs c s0 m)[i]? = some s' ∧ V.int (s' : Nat) = x := by
          rw [List.getElem?_map] at hx
          cases e : (fndC zs c s0 m)[i]? with
          | none => rw [e] at hx; cases hx
          | some z => rw [e] at hx; exact ⟨z, rfl, Option.some.inj hx⟩
        have sm := hL.in' (List.mem_of_getElem? es)
        try simp (maxSteps := 1000000) only [tSeq, tIfS, tTest, tOp, tUn, tCB, tCons, tNil, tVar, tC, rI0, rI, rU, rEq, rNe, tRet, tRetN, tAsg, gName, gSub, tBM, tBM0, tNext, tB, tNot, tAnd, tOr, tIf, tCall, tDrop, tBreak, tCont, L2.start, tDGet, sDPut, tTup, tLst, tDNewK, tRevL, rCat, rAppend, rPop, rSetL, tAndV, tOrV, tNotV, tSl, tPart, tNoPart, tM1, gTup, gCons, gNil, cxK, cxnK, List.map_cons, List.map_nil, List.length_cons, List.length_nil, List.replicate, List.cons_append, List.nil_append, List.append_nil, List.set_cons_zero, List.set_cons_succ, List.getElem?_cons_zero, List.getElem?_cons_succ, Option.some.injEq, V.ref.injEq, V.int.injEq, V.str.injEq, V.bl.injEq, V.ty.injEq, exists_eq_left', exists_eq_left, exists_and_left, List.cons.injEq, and_true, true_and, sc_ii, sc_ss, sc_bb, sc_ni, sc_in, sc_is, sc_si, sc_nn, decide_true, decide_false, reduceCtorEq, Bool.false_eq_true, if_true, if_false, ite_true, ite_false, exists_const, eq_self, false_and, and_false, or_false, false_or, exists_false, Evl.rLenS, rSum, wipe, tYes, exists_eq, exists_eq', rIxL, rIxT, rIxS, exists_and_right, gt_iff_lt, not_true_eq_false, not_false_eq_true, Bool.not_true, Bool.not_false, decide_eq_true_eq, Nat.reduceSub, Nat.reduceAdd, List.append_assoc, tChain, tDIn, tDNotIn, sDDel, tAug, ipI]
        have lf := hL.len
        have li : i < (fndC zs c s0 m).length := (List.getElem?_eq_some_iff.mp es).1
        refine ⟨_, sq_l (k56 _ _ not0 hl5), .int (b'.getD s' 0 : Nat), atI_nat (csAt (by omega)), _, hD, smallL (by rw [List.length_map, List.length_map, List.length_take]; omega), ?_, k56.wr nD1⟩
        rw [upd_same, take_snoc es, List.map_append, List.map_append]
        rfl
      · rintro H6 ⟨hD, k56⟩
        rw [List.length_map, List.take_length] at hD
        try simp (maxSteps := 1000000) only [tSeq, tIfS, tTest, tOp, tUn, tCB, tCons, tNil, tVar, tC, rI0, rI, rU, rEq, rNe, tRet, tRetN, tAsg, gName, gSub, tBM, tBM0, tNext, tB, tNot, tAnd, tOr, tIf, tCall, tDrop, tBreak, tCont, L2.start, tDGet, sDPut, tTup, tLst, tDNewK, tRevL, rCat, rAppend, rPop, rSetL, tAndV, tOrV, tNotV, tSl, tPart, tNoPart, tM1, gTup, gCons, gNil, cxK, cxnK, List.map_cons, List.map_nil, List.length_cons, List.length_nil, List.replicate, List.cons_append, List.nil_append, List.append_nil, List.set_cons_zero, List.set_cons_succ, List.getElem?_cons_zero, List.getElem?_cons_succ, Option.some.injEq, V.ref.injEq, V.int.injEq, V.str.injEq, V.bl.injEq, V.ty.injEq, exists_eq_left', exists_eq_left, exists_and_left, List.cons.injEq, and_true, true_and, sc_ii, sc_ss, sc_bb, sc_ni, sc_in, sc_is, sc_si, sc_nn, decide_true, decide_false, reduceCtorEq, Bool.false_eq_true, if_true, if_false, ite_true, ite_false, exists_const, eq_self, false_and, and_false, or_false, false_or, exists_false, Evl.rLenS, rSum, wipe, tYes, exists_eq, exists_eq', rIxL, rIxT, rIxS, exists_and_right, gt_iff_lt, not_true_eq_false, not_false_eq_true, Bool.not_true, Bool.not_false, decide_eq_true_eq, Nat.reduceSub, Nat.reduceAdd, List.append_assoc, tChain, tDIn, tDNotIn, sDDel, tAug, ipI]
        have hD' := hD
        rw [emV] at hD'
        have lf := hL.len
        obtain ⟨cnt, _⟩ := count_lead (fun s => b'.getD s 0) (eqc_eqv (zs := zs) (c := c) (m := m)) (fndC zs c s0 m) fun s hs t ht => hbk' s t (hL.in' hs) (hL.in' ht)
        refine ⟨_, sq_l hD', by rw [List.length_map, List.length_map]; omega, ?_⟩
        have cnt' : (dedI (((fndC zs c s0 m).map fun s => b'.getD s 0).map fun x => ((x : Nat) : Int))).length = (leadT zs c m s0).length := cnt
        rw [cnt', decide_eq_true rfl, if_neg (by decide)]
        have k06 := (k04.trans k5).trans k56
        refine ⟨ld, nl, (leadT zs c m s0).length, 0, zs, cellT zs c m s0, rfl, hlw.kp k06, k06 _ _ not0 hn, nd, hN2, h02, b1, b2, fun l7 H7 nl7 hl7 k7 => ?_⟩
        have oa : fndC zs (cellT zs c m s0) 0 (leadT zs c m s0).length = List.range (leadT zs c m s0).length := hL.order_all
        rw [oa] at hl7
        try simp (maxSteps := 1000000) only [tSeq, tIfS, tTest, tOp, tUn, tCB, tCons, tNil, tVar, tC, rI0, rI, rU, rEq, rNe, tRet, tRetN, tAsg, gName, gSub, tBM, tBM0, tNext, tB, tNot, tAnd, tOr, tIf, tCall, tDrop, tBreak, tCont, L2.start, tDGet, sDPut, tTup, tLst, tDNewK, tRevL, rCat, rAppend, rPop, rSetL, tAndV, tOrV, tNotV, tSl, tPart, tNoPart, tM1, gTup, gCons, gNil, cxK, cxnK, List.map_cons, List.map_nil, List.length_cons, List.length_nil, List.replicate, List.cons_append, List.nil_append, List.append_nil, List.set_cons_zero, List.set_cons_succ, List.getElem?_cons_zero, List.getElem?_cons_succ, Option.some.injEq, V.ref.injEq, V.int.injEq, V.str.injEq, V.bl.injEq, V.ty.injEq, exists_eq_left', exists_eq_left, exists_and_left, List.cons.injEq, and_true, true_and, sc_ii, sc_ss, sc_bb, sc_ni, sc_in, sc_is, sc_si, sc_nn, decide_true, decide_false, reduceCtorEq, Bool.false_eq_true, if_true, if_false, ite_true, ite_false, exists_const, eq_self, false_and, and_false, or_false, false_or, exists_false, Evl.rLenS, rSum, wipe, tYes, exists_eq, exists_eq', rIxL, rIxT, rIxS, exists_and_right, gt_iff_lt, not_true_eq_false, not_false_eq_true, Bool.not_true, Bool.not_false, decide_eq_true_eq, Nat.reduceSub, Nat.reduceAdd, List.append_assoc, tChain, tDIn, tDNotIn, sDDel, tAug, ipI, tLstRg, tRg1]
        refine ⟨RgOk.of_le (by decide) (by omega) (by decide) (by omega), fun q9 nq9 => ?_⟩
        have erg : rgV 0 ((leadT zs c m s0).length : Nat) = (List.range (leadT zs c m s0).length).map fun x => V.int (x : Nat) := by
          unfold rgV
          rw [Int.sub_zero, Int.toNat_natCast]
          refine List.map_congr_left fun i _ => ?_
          rw [Int.zero_add]
        rw [erg]
        have k9 := (Kp.new nq9 : Kp [] H7 (upd H7 q9 (.lst ((List.range (leadT zs c m s0).length).map fun x => V.int (x : Nat)))))
        have sh := shNats (List.range (leadT zs c m s0).length)
        refine ⟨_, _, .lst (sq_l (k9 _ _ not0 hl7)) (dpNats _), .lst (sq_l upd_same) (dpNats _), sh, sh, ?_⟩
        rw [SeqAt.eqv_refl _ (SeqAt.canLay_of_shaped sh)]
        exact q _ ((k06.trans k7).trans k9)
end
end My

set_option Elab.async false
set_option linter.all false
set_option maxRecDepth 100000
set_option maxHeartbeats 4000000
namespace My
open PySem L2 NdefX StX
abbrev s_law : Stmt := top 40
theorem sc_law : FnScope ["_law_script", "_law_d", "_law_names_here", "_law_rows_here", "_law_start", "_law_made", "_law_table", "_law_small", "_law_told"] ["_law_script"] (defScope s_law) := ⟨rfl, rfl, rfl, by decide +kernel, rfl, by decide +kernel, by decide +kernel⟩
structure BtZ (mg : Str → Option Value) : Prop where
  b_int : mg "int" = none
  b_len : mg "len" = none
def spLaw (K : PySem.W.Frag) : Sp := fun vs H Q _ => ∃ (a : Addr) (ns : List Int), vs = [.ref a] ∧ SqL K H a (ns.map V.int) ∧ ns.length ≤ 63 ∧ ∀ H', Kp [] H H' → Q (.bl true) H'
/-- ahead of the tables -/
def TlPre (σ : L2.St) (H : Hp) : Prop := ∃ (c0 c1 c5 : Option V) (nl rd : Addr) (m s0 : Nat) (zs : List Str) (c : Str → Nat → Int × Int), σ = [c0, c1, some (.ref nl), some (.ref rd), some (.int (s0 : Nat)), c5, none, none, none] ∧ RwAt H rd zs m c ∧ H nl = some (.lst (zs.map V.str)) ∧ zs.Nodup ∧ zs ≠ [] ∧ zs.length ≤ 6 ∧ (∀ z ∈ zs, nameS z = true) ∧ CellB zs m 10 c ∧ 1 ≤ m ∧ m ≤ 100 ∧ s0 < m
theorem dpCells {K : PySem.W.Frag} {H : Hp} {f : Nat → Int × Int} : ∀ {k : Nat} {xs : List V}, Cells f xs k H → DpAll K H xs ((List.range k).map fun i => cellD (f i)) := fun {k xs} h => by
  have q := h.dq
  exact DqAll.dp q
theorem alikeR {K : PySem.W.Frag} {H : Hp} {a b : Addr} {zs : List Str} {m : Nat} {c c' : Str → Nat → Int × Int} (ha : RwAt H a zs m c) (hb : RwAt H b zs m c') (e : ∀ z ∈ zs, ∀ s, s < m → c z s = c' z s) (nd : zs.Nodup) : AlikeD K H (.ref a) (.ref b) := by
  have hb := hb.congr (c' := c) fun z hz s hs => (e z hz s hs).symm
  obtain ⟨ks, hka, hla, hva⟩ := id ha
  obtain ⟨ls, hkb, hlb, _⟩ := id hb
  refine ⟨a, b, ks, ls, rfl, rfl, hka, hkb, by omega, fun p hp => ?_⟩
  obtain ⟨i, ei⟩ := List.getElem?_of_mem hp
  have il : i < zs.length := by rw [← hla]; exact (List.getElem?_eq_some_iff.mp ei).1
  have ez : zs[i]? = some zs[i] := List.getElem?_eq_getElem il
  generalize zs[i] = z at ez
  obtain ⟨l, xs, e1, hl, hc⟩ := hva i z ez
  rw [ei] at e1
  cases e1
  obtain ⟨kv, l', xs', hd', ev', hl', hc'⟩ := hb.get nd (List.mem_of_getElem? ez)
  rw [hkb] at hd'
  cases hd'
  have sh : ∀ d ∈ (List.range m).map (fun i => cellD (c z i)), Fit d := fun d hd => by
    obtain ⟨j, _, rfl⟩ := List.mem_map.mp hd
    refine ⟨(fitL (ds := [.int (c z j).1, .int (c z j).2]) fun d hd => ?_).2, ?_⟩
    · rcases List.mem_cons.mp hd with rfl | hd
      · exact fit_int
      · rw [List.mem_singleton.mp hd]; exact fit_int
    · show PyData.depth (cellD (c z j)) ≤ 60
      simp [cellD, PyData.depth, PyData.depthAll]
  refine ⟨.ref l', .list ((List.range m).map fun i => cellD (c z i)), ev', .lst (sq_l hl) (dpCells hc), .lst (sq_l hl') (dpCells hc'), (fitL sh).1, ?_⟩
  have : PyData.depthAll ((List.range m).map fun i => cellD (c z i)) ≤ 50 := by
    have g : ∀ l : List Nat, PyData.depthAll (l.map fun i => cellD (c z i)) ≤ 50 := fun l => by
      induction l with
      | nil => exact Nat.zero_le _
      | cons x r ih =>
        show max (PyData.depth (cellD (c z x))) (PyData.depthAll (r.map fun i => cellD (c z i))) ≤ 50
        have : PyData.depth (cellD (c z x)) ≤ 50 := by simp [cellD, PyData.depth, PyData.depthAll]
        omega
    exact g _
  show PyData.depthAll _ + 1 ≤ 60
  omega
section
variable {P : Program} {w : World} {K : PySem.W.Frag} {mg : Str → Option Value} {base : Heap}
theorem ok_law {f : Addr} {fd : FuncData} (D : Df K mg "law" s_law ["_law_script"] f fd) (T : BtZ mg)
    {TC BT fI : Addr} {fdI : FuncData} (C : TbC K mg TC) (M_Table : Mk K TC fI) (bI_Table : Binds K fdI ["self", "rows", "first"] []) (G_Table_init : FnOk P w K mg base (L2.CX P w) 6 fI fdI ["self", "rows", "first"] (spTI TC BT))
    {g1 : Addr} {gd1 : FuncData} (D_law_draws : Df K mg "_law_draws" s_law_draws ["_law_script", "_law_at", "_law_bounds"] g1 gd1) (G_law_draws : FnOk P w K mg base CX0 2 g1 gd1 ["_law_script", "_law_at", "_law_bounds"] (spDraws K))
    {g2 : Addr} {gd2 : FuncData} (D_law_names : Df K mg "_law_names" s_law_names ["_law_script", "_law_at", "_law_many"] g2 gd2) (G_law_names : FnOk P w K mg base CX0 3 g2 gd2 ["_law_script", "_law_at", "_law_many"] (spNames K))
    {f1 : Addr} {fd1 : FuncData} (D_law_rows : Df K mg "_law_rows" s_law_rows ["_law_script", "_law_at", "_law_names_here", "_law_size", "_law_most"] f1 fd1) (G_law_rows : FnOk P w K mg base CX0 3 f1 fd1 ["_law_script", "_law_at", "_law_names_here", "_law_size", "_law_most"] (spRows K))
    {f2 : Addr} {fd2 : FuncData} (D_law_copy : Df K mg "_law_copy" s_law_copy ["_law_names_here", "_law_rows_here"] f2 fd2) (G_law_copy : FnOk P w K mg base CX0 1 f2 fd2 ["_law_names_here", "_law_rows_here"] spCopy)
    {f3 : Addr} {fd3 : FuncData} (D_law_copies : Df K mg "_law_copies" s_law_copies ["_law_script", "_law_at", "_law_names_here", "_law_rows_here", "_law_start"] f3 fd3) (G_law_copies : FnOk P w K mg base CX0 3 f3 fd3 ["_law_script", "_law_at", "_law_names_here", "_law_rows_here", "_law_start"] (spCopies K))
    {f4 : Addr} {fd4 : FuncData} (D_law_long : Df K mg "_law_long" s_law_long ["_law_names_here", "_law_d"] f4 fd4) (G_law_long : FnOk P w K mg base CX0 1 f4 fd4 ["_law_names_here", "_law_d"] spLong)
    {f5 : Addr} {fd5 : FuncData} (D_law_tells : Df K mg "_law_tells" s_law_tells ["_law_table", "_law_names_here", "_law_rows_here", "_law_start"] f5 fd5) (G_law_tells : FnOk P w K mg base CX0 6 f5 fd5 ["_law_table", "_law_names_here", "_law_rows_here", "_law_start"] (spTells TC))
    {f6 : Addr} {fd6 : FuncData} (D_law_read : Df K mg "_law_read" s_law_read ["_law_table", "_law_names_here"] f6 fd6) (G_law_read : FnOk P w K mg base CX0 6 f6 fd6 ["_law_table", "_law_names_here"] (spRead TC))
    {f7 : Addr} {fd7 : FuncData} (D_law_least : Df K mg "_law_least" s_law_least ["_law_rows_here", "_law_names_here", "_law_start", "_law_told"] f7 fd7) (G_law_least : FnOk P w K mg base CX0 2 f7 fd7 ["_law_rows_here", "_law_names_here", "_law_start", "_law_told"] spLLeast)
    {f8 : Addr} {fd8 : FuncData} (D_least : Df K mg "least" s_least ["table"] f8 fd8) (G_least : FnOk P w K mg base CX0 8 f8 fd8 ["table"] (spLeast TC)) : FnOk P w K mg base CX0 13 f fd ["_law_script"] (spLaw K) := by
  refine D.F.ok sc_law (fun vs H Q E h => ?_) (fun cdv A outer s H vs Q E hr h => ?_)
  · obtain ⟨_, _, rfl, _⟩ := h
    rfl
  · obtain ⟨a, ns, rfl, hS, hl, q⟩ := h
    have hu := hu_of hr
    obtain ⟨t, ht, hq⟩ : ∃ t, PSs (cxOf CX0 P w K mg base ["_law_script", "_law_d", "_law_names_here", "_law_rows_here", "_law_start", "_law_made", "_law_table", "_law_small", "_law_told"] "law" (defScope s_law) f cdv A outer s H E).nox ((defBody s_law).drop 6) t ∧ ∀ σ H9, TlPre σ H9 → Kp [] H H9 → t { nx := fun _ H' => Q .non H', rt := Q } σ H9 := by
      refine ⟨_, (pss_cons (ps_set (i := 6) sc_law.nd rfl (Or.inl rfl) (pe_make M_Table G_Table_init (hr.mono (by decide)) rfl C.k bI_Table .nil passL (pa_cons (pe_call G_law_copy (hr.mono (by decide)) rfl D_law_copy.g D_law_copy.F.kp D_law_copy.b .nil pass0 (pa_cons (pv 2) (pa_cons (pv 3) pa_nil))) (pa_cons (pv 4) pa_nil))))
      (pss_cons (ps_set (i := 7) sc_law.nd rfl (Or.inl rfl) (pe_call G_least (hr.mono (by decide)) rfl D_least.g D_least.F.kp D_least.b .nil pass0 (pa_cons (pv 6) pa_nil)))
      (pss_cons (ps_set (i := 8) sc_law.nd rfl (Or.inl rfl) (pe_call G_law_read (hr.mono (by decide)) rfl D_law_read.g D_law_read.F.kp D_law_read.b .nil pass0 (pa_cons (pv 7) (pa_cons (pv 2) pa_nil))))
      (pss_cons (ps_if (PW.pt (pw_or (pt_cmpR op_isN (pv 8) pe_non (nomark _)) (pw_or1 (pt_not (pt_val (pe_call G_law_least (hr.mono (by decide)) rfl D_law_least.g D_law_least.F.kp D_law_least.b .nil pass0 (pa_cons (pv 3) (pa_cons (pv 2) (pa_cons (pv 4) (pa_cons (pv 8) pa_nil)))))))))) (pss_one (ps_ret pe_bl)) pss_nil)
      (pss_cons (ps_if (PW.pt (pw_or (pt_cmpR (op_neDk hr.units) (pe_call G_law_read (hr.mono (by decide)) rfl D_law_read.g D_law_read.F.kp D_law_read.b .nil pass0 (pa_cons (pe_call G_least (hr.mono (by decide)) rfl D_least.g D_least.F.kp D_least.b .nil pass0 (pa_cons (pv 7) pa_nil)) (pa_cons (pv 2) pa_nil))) (pv 8) (nomark _)) (pw_or1 (pt_cmpR (op_neDk hr.units) (pe_call G_law_read (hr.mono (by decide)) rfl D_law_read.g D_law_read.F.kp D_law_read.b .nil pass0 (pa_cons (pv 7) (pa_cons (pv 2) pa_nil))) (pv 8) (nomark _))))) (pss_one (ps_ret pe_bl)) pss_nil)
      (pss_one (ps_ret (pe_and (pe_call G_law_tells (hr.mono (by decide)) rfl D_law_tells.g D_law_tells.F.kp D_law_tells.b .nil pass0 (pa_cons (pv 6) (pa_cons (pv 2) (pa_cons (pv 3) (pa_cons (pv 4) pa_nil))))) (pe_one (pe_cmpR (op_eqDk hr.units) (pe_call G_law_read (hr.mono (by decide)) rfl D_law_read.g D_law_read.F.kp D_law_read.b .nil pass0 (pa_cons (pe_call G_least (hr.mono (by decide)) rfl D_least.g D_least.F.kp D_least.b .nil pass0 (pa_cons (pv 6) pa_nil)) (pa_cons (pv 2) pa_nil))) (pv 8) (nomark _))))))))))), ?_⟩
      rintro σ H1 ⟨c0, c1, c5, nl, rd, m, s0, zs, c, rfl, hrw, hn, nd, zne, z6, nm, hb, m1, m100, s0m⟩ k1
      try simp (maxSteps := 1000000) only [tSeq, tIfS, tTest, tOp, tUn, tCB, tCons, tNil, tVar, tC, rI0, rI, rU, rEq, rNe, tRet, tRetN, tAsg, gName, gSub, tBM, tBM0, tNext, tB, tNot, tAnd, tOr, tIf, tCall, tDrop, tBreak, tCont, L2.start, tDGet, sDPut, tTup, tLst, tDNewK, tRevL, rCat, rAppend, rPop, rSetL, tAndV, tOrV, tNotV, tSl, tPart, tNoPart, tM1, gTup, gCons, gNil, cxK, cxnK, List.map_cons, List.map_nil, List.length_cons, List.length_nil, List.replicate, List.cons_append, List.nil_append, List.append_nil, List.set_cons_zero, List.set_cons_succ, List.getElem?_cons_zero, List.getElem?_cons_succ, Option.some.injEq, V.ref.injEq, V.int.injEq, V.str.injEq, V.bl.injEq, V.ty.injEq, exists_eq_left', exists_eq_left, exists_and_left, List.cons.injEq, and_true, true_and, sc_ii, sc_ss, sc_bb, sc_ni, sc_in, sc_is, sc_si, sc_nn, decide_true, decide_false, reduceCtorEq, Bool.false_eq_true, if_true, if_false, ite_true, ite_false, exists_const, eq_self, false_and, and_false, or_false, false_or, exists_false, Evl.rLenS, rSum, wipe, tYes, exists_eq, exists_eq', rIxL, rIxT, rIxS, exists_and_right, gt_iff_lt, not_true_eq_false, not_false_eq_true, Bool.not_true, Bool.not_false, decide_eq_true_eq, Nat.reduceSub, Nat.reduceAdd, List.append_assoc, tChain, tDIn, tDNotIn, sDDel, tAug, ipI, tMake]
      have hL : LeF zs c m s0 (fndC zs c s0 m) := ⟨hb.toNx, s0m, rfl⟩
      have bL := hL.bnd
      have n1 : 1 ≤ (leadT zs c m s0).length := bL.1
      have n100 : (leadT zs c m s0).length ≤ 100 := Nat.le_trans bL.2 m100
      have oa : fndC zs (cellT zs c m s0) 0 (leadT zs c m s0).length = List.range (leadT zs c m s0).length := hL.order_all
      have ls := least_self (zs := zs) (c := cellT zs c m s0) (n := (leadT zs c m s0).length) hL.nx2 (fun z hz s hs => (by show (0 : Int) ≤ ((numC _ _ _ : Nat) : Int); omega)) (fun s t hs ht e => hL.apart hs ht e)
      have l2 : (leadT zs (cellT zs c m s0) (leadT zs c m s0).length 0).length = (leadT zs c m s0).length := by
        show (leadC _ (fndC zs (cellT zs c m s0) 0 (leadT zs c m s0).length)).length = _
        rw [oa, ls.1, List.length_range]
      have c2 : ∀ z ∈ zs, ∀ k, k < (leadT zs c m s0).length → cellT zs (cellT zs c m s0) (leadT zs c m s0).length 0 z k = cellT zs c m s0 z k := fun z hz k hk => by
        show leastC _ (fndC zs (cellT zs c m s0) 0 (leadT zs c m s0).length) _ z k = _
        rw [oa]
        exact ls.2 z hz k hk
      refine ⟨nl, rd, m, zs, c, rfl, hn, nd, by omega, hrw, fun p1 H2 np1 hp1 k2 => ?_⟩
      intro t1 dt1 nt1 ndt1 ne1
      refine mk_tab hp1 hb nd zne z6 nm m1 m100 (by omega) (by omega) nt1 ndt1 ne1.symm fun H3 hT k3 => ⟨rfl, ?_⟩
      have k13 := k2.trans k3
      refine ⟨t1, m, s0, zs, c, rfl, hT, fun t2 H4 nt2 hT2 k4 => ?_⟩
      have k14 := k13.trans k4
      refine ⟨t2, nl, _, zs, _, rfl, hT2, k14 _ _ not0 hn, fun r2 H5 nr2 hr2 k5 => ?_⟩
      have k15 := k14.trans k5
      dsimp only
      rw [if_neg (fun z => by cases z)]
      refine ⟨rd, nl, r2, m, s0, zs, c, rfl, hrw.kp k15, k15 _ _ not0 hn, nd, zne, z6, hb, m1, m100, s0m, hr2, fun H6 k6 => ⟨true, rfl, ?_⟩⟩
      rw [if_neg (by decide)]
      have k16 := k15.trans k6
      have hT26 := (hT2.kp k5).kp k6
      refine ⟨t2, _, 0, zs, _, rfl, hT26, fun t3 H7 nt3 hT3 k7 => ?_⟩
      have k17 := k16.trans k7
      rw [l2] at hT3
      refine ⟨t3, nl, _, zs, _, rfl, hT3, k17 _ _ not0 hn, fun r3 H8 nr3 hr3 k8 => ?_⟩
      have k18 := k17.trans k8
      have k58 := (k6.trans k7).trans k8
      refine ⟨alikeR hr3 (hr2.kp k58) c2 nd, false, rfl, ?_⟩
      rw [if_neg (by decide)]
      have hT28 := (hT26.kp k7).kp k8
      refine ⟨t2, nl, _, zs, _, rfl, hT28, k18 _ _ not0 hn, fun r4 H9 nr4 hr4 k9 => ?_⟩
      have k19 := k18.trans k9
      refine ⟨alikeR hr4 (hr2.kp (k58.trans k9)) (fun _ _ _ _ => rfl) nd, false, rfl, ?_⟩
      rw [if_neg (by decide)]
      have hT9 := hT.kp ((k4.trans (k5.trans k58)).trans k9)
      refine ⟨t1, nl, rd, m, s0, zs, c, rfl, hT9, k19 _ _ not0 hn, hrw.kp k19, fun HA kA => ⟨true, rfl, ?_⟩⟩
      rw [if_pos rfl]
      have k1A := k19.trans kA
      refine ⟨t1, m, s0, zs, c, rfl, hT9.kp kA, fun t5 HB nt5 hT5 kB => ?_⟩
      have k1B := k1A.trans kB
      refine ⟨t5, nl, _, zs, _, rfl, hT5, k1B _ _ not0 hn, fun r5 HC nr5 hr5 kC => ?_⟩
      have k1C := k1B.trans kC
      exact ⟨alikeR hr5 (hr2.kp ((((k58.trans k9).trans kA).trans kB).trans kC)) (fun _ _ _ _ => rfl) nd, q HC (k1.trans k1C)⟩
    refine ⟨_, (pss_cons (ps_set (i := 1) sc_law.nd rfl (Or.inl rfl) (pe_call G_law_draws (hr.mono (by decide)) rfl D_law_draws.g D_law_draws.F.kp D_law_draws.b .nil pass0 (pa_cons (pv 0) (pa_cons pe_int (pa_cons (pe_lst (pa_cons pe_int (pa_cons pe_int (pa_cons pe_int (pa_cons pe_int (pa_cons pe_int (pa_cons pe_int (pa_cons pe_int (pa_cons pe_int (pa_cons pe_int pa_nil)))))))))) pa_nil)))))
      (pss_cons (ps_set (i := 2) sc_law.nd rfl (Or.inl rfl) (pe_call G_law_names (hr.mono (by decide)) rfl D_law_names.g D_law_names.F.kp D_law_names.b .nil pass0 (pa_cons (pv 0) (pa_cons pe_int (pa_cons (pe_ix (r := rIxL K) ix_list (pe_lst (pa_cons (pe_op op_add pe_int (pe_ix (r := rIxL K) ix_list (pv 1) pe_int (fun _ _ => rfl))) (pa_cons pe_int pa_nil))) (pe_callTy (T := "int") (r := rIv) call_int1 (by rfl) T.b_int (by decide +kernel) (pa_cons (pe_cmpR op_eq (pe_ix (r := rIxL K) ix_list (pv 1) pe_int (fun _ _ => rfl)) pe_int (nomark _)) pa_nil)) (fun _ _ => rfl)) pa_nil)))))
      (pss_cons (ps_set (i := 3) sc_law.nd rfl (Or.inl rfl) (pe_call G_law_rows (hr.mono (by decide)) rfl D_law_rows.g D_law_rows.F.kp D_law_rows.b .nil pass0 (pa_cons (pv 0) (pa_cons pe_int (pa_cons (pv 2) (pa_cons (pe_op op_add pe_int (pe_ix (r := rIxL K) ix_list (pv 1) pe_int (fun _ _ => rfl))) (pa_cons (pe_ix (r := rIxL K) ix_list (pe_lst (pa_cons pe_int (pa_cons pe_int (pa_cons pe_int (pa_cons pe_int pa_nil))))) (pe_ix (r := rIxL K) ix_list (pv 1) pe_int (fun _ _ => rfl)) (fun _ _ => rfl)) pa_nil)))))))
      (pss_cons (ps_set (i := 4) sc_law.nd rfl (Or.inl rfl) (pe_op op_mod (pe_callTy (T := "int") (r := rIv) call_int1 (by rfl) T.b_int (by decide +kernel) (pa_cons (pe_ix (r := rIxL K) ix_list (pv 1) pe_int (fun _ _ => rfl)) pa_nil)) (pe_op op_add pe_int (pe_ix (r := rIxL K) ix_list (pv 1) pe_int (fun _ _ => rfl)))))
      (pss_cons (ps_if (PW.pt (pw_or (pt_cmpR op_eq (pe_ix (r := rIxL K) ix_list (pv 1) pe_int (fun _ _ => rfl)) pe_int (nomark _)) (pw_or1 (pt_cmpR op_eq (pe_ix (r := rIxL K) ix_list (pv 1) pe_int (fun _ _ => rfl)) pe_int (nomark _))))) (pss_cons (ps_set (i := 5) sc_law.nd rfl (Or.inl rfl) (pe_call G_law_copies (hr.mono (by decide)) rfl D_law_copies.g D_law_copies.F.kp D_law_copies.b .nil pass0 (pa_cons (pv 0) (pa_cons pe_int (pa_cons (pv 2) (pa_cons (pv 3) (pa_cons (pv 4) pa_nil)))))))
      (pss_cons (ps_set (i := 3) sc_law.nd rfl (Or.inl rfl) (pe_ix (r := rIxL K) ix_list (pv 5) pe_int (fun _ _ => rfl)))
      (pss_one (ps_set (i := 4) sc_law.nd rfl (Or.inl rfl) (pe_ix (r := rIxL K) ix_list (pv 5) pe_int (fun _ _ => rfl)))))) pss_nil)
      (pss_cons (ps_if (pt_cmpR op_gt (pe_ix (r := rIxL K) ix_list (pv 1) pe_int (fun _ _ => rfl)) pe_int (nomark _)) (pss_cons (ps_set (i := 2) sc_law.nd rfl (Or.inl rfl) (pe_slice sl_list (pv 2) po_none (po_some pe_int)))
      (pss_cons (ps_set (i := 3) sc_law.nd rfl (Or.inl rfl) (pe_call G_law_long (hr.mono (by decide)) rfl D_law_long.g D_law_long.F.kp D_law_long.b .nil pass0 (pa_cons (pv 2) (pa_cons (pv 1) pa_nil))))
      (pss_one (ps_set (i := 4) sc_law.nd rfl (Or.inl rfl) (pe_op op_mod (pe_callTy (T := "int") (r := rIv) call_int1 (by rfl) T.b_int (by decide +kernel) (pa_cons (pe_ix (r := rIxL K) ix_list (pv 1) pe_int (fun _ _ => rfl)) pa_nil)) (pe_callB (id := "len") (r := Evl.rLenS K) call_len_seq (by rfl) T.b_len PySem.boot_len (pa_cons (pe_dget hu (pv 3) (pe_ix (r := rIxL K) ix_list (pv 2) pe_int (fun _ _ => rfl)) (fun _ _ => rfl)) pa_nil))))))) pss_nil)
      ht)))))), ?_⟩
    try simp (maxSteps := 1000000) only [tSeq, tTest, tOp, tUn, tCB, tCons, tNil, tVar, tC, rI0, rI, rU, rEq, rNe, tRet, tRetN, tAsg, gName, gSub, tBM, tBM0, tNext, tB, tNot, tAnd, tOr, tIf, tCall, tDrop, tBreak, tCont, L2.start, tDGet, sDPut, tTup, tLst, tDNewK, tRevL, rCat, rAppend, rPop, rSetL, tAndV, tOrV, tNotV, tSl, tPart, tNoPart, tM1, gTup, gCons, gNil, cxK, cxnK, List.map_cons, List.map_nil, List.length_cons, List.length_nil, List.replicate, List.cons_append, List.nil_append, List.append_nil, List.set_cons_zero, List.set_cons_succ, List.getElem?_cons_zero, List.getElem?_cons_succ, Option.some.injEq, V.ref.injEq, V.int.injEq, V.str.injEq, V.bl.injEq, V.ty.injEq, exists_eq_left', exists_eq_left, exists_and_left, List.cons.injEq, and_true, true_and, sc_ii, sc_ss, sc_bb, sc_ni, sc_in, sc_is, sc_si, sc_nn, decide_true, decide_false, reduceCtorEq, Bool.false_eq_true, if_true, if_false, ite_true, ite_false, exists_const, eq_self, false_and, and_false, or_false, false_or, exists_false, Evl.rLenS, rSum, wipe, tYes, exists_eq, exists_eq', rIxL, rIxT, rIxS, exists_and_right, gt_iff_lt, not_true_eq_false, not_false_eq_true, Bool.not_true, Bool.not_false, decide_eq_true_eq, Nat.reduceSub, Nat.reduceAdd, List.append_assoc, tChain, tDIn, tDNotIn, sDDel, tAug, ipI, rIv_int, rIv_bl]
    refine ⟨by rw [sizeLine_eq]; decide, fun p np => ?_⟩
    have kp := (Kp.new np : Kp [] H (upd H p (.lst [.int 3, .int 6, .int 60, .int 4, .int 8, .int 100, .int 10, .int 3, .int 8])))
    refine ⟨a, p, 0, ns, [3, 6, 60, 4, 8, 100, 10, 3, 8], rfl, ⟨kp.ls not0 hS, hl⟩, by decide, upd_same, by decide, by decide, fun dl ds H1 ndl hdl hd k1 => ?_⟩
    have k01 := kp.trans k1
    have dlen : ds.length = 9 := hd.1
    have dd : ∀ (i : Nat) (b : Int), ([3, 6, 60, 4, 8, 100, 10, 3, 8] : List Int)[i]? = some b → ∃ v, ds[i]? = some v ∧ 0 ≤ v ∧ v < b := fun i b e => by
      have hi : i < 9 := (List.getElem?_eq_some_iff.mp e).1
      have e2 := List.getElem?_eq_getElem (l := ds) (i := i) (by omega)
      exact ⟨_, e2, hd.2 i _ _ e2 e⟩
    obtain ⟨d0, e0, l0, u0⟩ := dd 0 3 rfl
    obtain ⟨d1, e1, l1, u1⟩ := dd 1 6 rfl
    obtain ⟨d2, e2, l2, u2⟩ := dd 2 60 rfl
    obtain ⟨d3, e3, l3, u3⟩ := dd 3 4 rfl
    obtain ⟨d4, e4, l4, u4⟩ := dd 4 8 rfl
    obtain ⟨d5, e5, l5, u5⟩ := dd 5 100 rfl
    obtain ⟨d6, e6, l6, u6⟩ := dd 6 10 rfl
    obtain ⟨d7, e7, l7, u7⟩ := dd 7 3 rfl
    obtain ⟨d8, e8, l8, u8⟩ := dd 8 8 rfl
    have dV : ∀ {i : Nat} {v : Int}, ds[i]? = some v → atI (ds.map V.int) ((i : Nat) : Int) = some (.int v) := fun {i v} e => atI_nat (by rw [List.getElem?_map, e]; rfl)
    try simp (maxSteps := 1000000) only [tSeq, tTest, tOp, tUn, tCB, tCons, tNil, tVar, tC, rI0, rI, rU, rEq, rNe, tRet, tRetN, tAsg, gName, gSub, tBM, tBM0, tNext, tB, tNot, tAnd, tOr, tIf, tCall, tDrop, tBreak, tCont, L2.start, tDGet, sDPut, tTup, tLst, tDNewK, tRevL, rCat, rAppend, rPop, rSetL, tAndV, tOrV, tNotV, tSl, tPart, tNoPart, tM1, gTup, gCons, gNil, cxK, cxnK, List.map_cons, List.map_nil, List.length_cons, List.length_nil, List.replicate, List.cons_append, List.nil_append, List.append_nil, List.set_cons_zero, List.set_cons_succ, List.getElem?_cons_zero, List.getElem?_cons_succ, Option.some.injEq, V.ref.injEq, V.int.injEq, V.str.injEq, V.bl.injEq, V.ty.injEq, exists_eq_left', exists_eq_left, exists_and_left, List.cons.injEq, and_true, true_and, sc_ii, sc_ss, sc_bb, sc_ni, sc_in, sc_is, sc_si, sc_nn, decide_true, decide_false, reduceCtorEq, Bool.false_eq_true, if_true, if_false, ite_true, ite_false, exists_const, eq_self, false_and, and_false, or_false, false_or, exists_false, Evl.rLenS, rSum, wipe, tYes, exists_eq, exists_eq', rIxL, rIxT, rIxS, exists_and_right, gt_iff_lt, not_true_eq_false, not_false_eq_true, Bool.not_true, Bool.not_false, decide_eq_true_eq, Nat.reduceSub, Nat.reduceAdd, List.append_assoc, tChain, tDIn, tDNotIn, sDDel, tAug, ipI, rIv_int, rIv_bl]
    refine ⟨_, sq_l hdl, _, dV e0, _, rfl, by rw [sizeLine_eq]; decide, fun p2 np2 => ?_⟩
    have k2 := (Kp.new np2 : Kp [] H1 (upd H1 p2 (.lst [.int (1 + d0), .int 6])))
    refine ⟨_, sq_l (k2 _ _ not0 hdl), _, dV e8, rfl, _, sq_l upd_same, ?_⟩
    obtain ⟨nn, en, nn1, nn6⟩ : ∃ nn : Nat, atI [V.int (1 + d0), V.int 6] (if V.int d8 = V.int 1 then 1 else 0) = some (.int (nn : Nat)) ∧ 1 ≤ nn ∧ nn ≤ 6 := by
      by_cases h : d8 = 1
      · rw [if_pos (by rw [h])]
        exact ⟨6, rfl, by decide, by decide⟩
      · rw [if_neg (fun z => h (by injection z))]
        exact ⟨(1 + d0).toNat, by rw [Int.toNat_of_nonneg (by omega)]; rfl, by omega, by omega⟩
    refine ⟨_, en, a, 1, nn, ns, rfl, ⟨(k01.trans k2).ls not0 hS, hl⟩, by decide, nn1, by omega, fun nl zs H3 nnl hn zl znm znd k3 => ?_⟩
    have k13 := k2.trans k3
    have k03 := k01.trans k13
    try simp (maxSteps := 1000000) only [tSeq, tTest, tOp, tUn, tCB, tCons, tNil, tVar, tC, rI0, rI, rU, rEq, rNe, tRet, tRetN, tAsg, gName, gSub, tBM, tBM0, tNext, tB, tNot, tAnd, tOr, tIf, tCall, tDrop, tBreak, tCont, L2.start, tDGet, sDPut, tTup, tLst, tDNewK, tRevL, rCat, rAppend, rPop, rSetL, tAndV, tOrV, tNotV, tSl, tPart, tNoPart, tM1, gTup, gCons, gNil, cxK, cxnK, List.map_cons, List.map_nil, List.length_cons, List.length_nil, List.replicate, List.cons_append, List.nil_append, List.append_nil, List.set_cons_zero, List.set_cons_succ, List.getElem?_cons_zero, List.getElem?_cons_succ, Option.some.injEq, V.ref.injEq, V.int.injEq, V.str.injEq, V.bl.injEq, V.ty.injEq, exists_eq_left', exists_eq_left, exists_and_left, List.cons.injEq, and_true, true_and, sc_ii, sc_ss, sc_bb, sc_ni, sc_in, sc_is, sc_si, sc_nn, decide_true, decide_false, reduceCtorEq, Bool.false_eq_true, if_true, if_false, ite_true, ite_false, exists_const, eq_self, false_and, and_false, or_false, false_or, exists_false, Evl.rLenS, rSum, wipe, tYes, exists_eq, exists_eq', rIxL, rIxT, rIxS, exists_and_right, gt_iff_lt, not_true_eq_false, not_false_eq_true, Bool.not_true, Bool.not_false, decide_eq_true_eq, Nat.reduceSub, Nat.reduceAdd, List.append_assoc, tChain, tDIn, tDNotIn, sDDel, tAug, ipI, rIv_int, rIv_bl]
    refine ⟨_, sq_l (k13 _ _ not0 hdl), _, dV e1, _, rfl, by rw [sizeLine_eq]; decide, fun p4 np4 => ?_⟩
    have k4 := (Kp.new np4 : Kp [] H3 (upd H3 p4 (.lst [.int 1, .int 2, .int 3, .int 10])))
    have k14 := k13.trans k4
    obtain ⟨mo, emo, mo1, mo10⟩ : ∃ mo : Int, atI [V.int 1, V.int 2, V.int 3, V.int 10] d3 = some (.int mo) ∧ 1 ≤ mo ∧ mo ≤ 10 := by
      rcases (show d3 = 0 ∨ d3 = 1 ∨ d3 = 2 ∨ d3 = 3 by omega) with e | e | e | e <;> subst e
      · exact ⟨1, rfl, by decide, by decide⟩
      · exact ⟨2, rfl, by decide, by decide⟩
      · exact ⟨3, rfl, by decide, by decide⟩
      · exact ⟨10, rfl, by decide, by decide⟩
    obtain ⟨m, rfl⟩ : ∃ m : Nat, d1 = (m : Nat) := ⟨d1.toNat, by omega⟩
    have zne : zs ≠ [] := fun z => by rw [z] at zl; simp at zl; omega
    refine ⟨_, sq_l (k14 _ _ not0 hdl), _, dV e3, _, _, rfl, sq_l upd_same, _, emo, a, nl, 2, 1 + m, mo, ns, zs, by push_cast; rfl, ⟨(k01.trans k14).ls not0 hS, hl⟩, by decide, k4 _ _ not0 hn, znd, by omega, by omega, by omega, mo1, mo10, fun rd c H5 nrd hrw hb0 k5 => ?_⟩
    have hb : CellB zs (1 + m) 10 c := fun z hz s hs => by
      obtain ⟨⟨x1, x2⟩, x3⟩ := hb0 z hz s hs
      exact ⟨⟨x1, by omega⟩, x3⟩
    have k15 := k14.trans k5
    have k05 := k01.trans k15
    have k35 := k4.trans k5
    try simp (maxSteps := 1000000) only [tSeq, tTest, tOp, tUn, tCB, tCons, tNil, tVar, tC, rI0, rI, rU, rEq, rNe, tRet, tRetN, tAsg, gName, gSub, tBM, tBM0, tNext, tB, tNot, tAnd, tOr, tIf, tCall, tDrop, tBreak, tCont, L2.start, tDGet, sDPut, tTup, tLst, tDNewK, tRevL, rCat, rAppend, rPop, rSetL, tAndV, tOrV, tNotV, tSl, tPart, tNoPart, tM1, gTup, gCons, gNil, cxK, cxnK, List.map_cons, List.map_nil, List.length_cons, List.length_nil, List.replicate, List.cons_append, List.nil_append, List.append_nil, List.set_cons_zero, List.set_cons_succ, List.getElem?_cons_zero, List.getElem?_cons_succ, Option.some.injEq, V.ref.injEq, V.int.injEq, V.str.injEq, V.bl.injEq, V.ty.injEq, exists_eq_left', exists_eq_left, exists_and_left, List.cons.injEq, and_true, true_and, sc_ii, sc_ss, sc_bb, sc_ni, sc_in, sc_is, sc_si, sc_nn, decide_true, decide_false, reduceCtorEq, Bool.false_eq_true, if_true, if_false, ite_true, ite_false, exists_const, eq_self, false_and, and_false, or_false, false_or, exists_false, Evl.rLenS, rSum, wipe, tYes, exists_eq, exists_eq', rIxL, rIxT, rIxS, exists_and_right, gt_iff_lt, not_true_eq_false, not_false_eq_true, Bool.not_true, Bool.not_false, decide_eq_true_eq, Nat.reduceSub, Nat.reduceAdd, List.append_assoc, tChain, tDIn, tDNotIn, sDDel, tAug, ipI, rIv_int, rIv_bl]
    refine ⟨_, sq_l (k15 _ _ not0 hdl), _, dV e2, ?_⟩
    try simp (maxSteps := 1000000) only [tSeq, tTest, tOp, tUn, tCB, tCons, tNil, tVar, tC, rI0, rI, rU, rEq, rNe, tRet, tRetN, tAsg, gName, gSub, tBM, tBM0, tNext, tB, tNot, tAnd, tOr, tIf, tCall, tDrop, tBreak, tCont, L2.start, tDGet, sDPut, tTup, tLst, tDNewK, tRevL, rCat, rAppend, rPop, rSetL, tAndV, tOrV, tNotV, tSl, tPart, tNoPart, tM1, gTup, gCons, gNil, cxK, cxnK, List.map_cons, List.map_nil, List.length_cons, List.length_nil, List.replicate, List.cons_append, List.nil_append, List.append_nil, List.set_cons_zero, List.set_cons_succ, List.getElem?_cons_zero, List.getElem?_cons_succ, Option.some.injEq, V.ref.injEq, V.int.injEq, V.str.injEq, V.bl.injEq, V.ty.injEq, exists_eq_left', exists_eq_left, exists_and_left, List.cons.injEq, and_true, true_and, sc_ii, sc_ss, sc_bb, sc_ni, sc_in, sc_is, sc_si, sc_nn, decide_true, decide_false, reduceCtorEq, Bool.false_eq_true, if_true, if_false, ite_true, ite_false, exists_const, eq_self, false_and, and_false, or_false, false_or, exists_false, Evl.rLenS, rSum, wipe, tYes, exists_eq, exists_eq', rIxL, rIxT, rIxS, exists_and_right, gt_iff_lt, not_true_eq_false, not_false_eq_true, Bool.not_true, Bool.not_false, decide_eq_true_eq, Nat.reduceSub, Nat.reduceAdd, List.append_assoc, tChain, tDIn, tDNotIn, sDDel, tAug, ipI, rIv_int, rIv_bl]
    refine ⟨_, sq_l (k15 _ _ not0 hdl), _, dV e1, _, rfl, ?_⟩
    have s00 := Int.emod_nonneg d2 (show (1 + ((m : Nat) : Int)) ≠ 0 by omega)
    have s01 := Int.emod_lt_of_pos d2 (show (0 : Int) < 1 + ((m : Nat) : Int) by omega)
    obtain ⟨s0, es0⟩ : ∃ s0 : Nat, d2 % (1 + ((m : Nat) : Int)) = (s0 : Nat) := ⟨(d2 % (1 + ((m : Nat) : Int))).toNat, by omega⟩
    rw [es0] at s00 s01
    have s0m : s0 < 1 + m := by omega
    refine ⟨by omega, ?_⟩
    rw [es0]
    have hd5 := k15 _ _ not0 hdl
    have hn5 := k35 _ _ not0 hn
    clear hb0 e1 e3 s00 s01 es0 emo en np2 np4
    refine ifs_both (fun σ' H' => ∃ (c5 : Option V) (rd : Addr) (m s0 : Nat) (c : Str → Nat → Int × Int), σ' = [some (.ref a), some (.ref dl), some (.ref nl), some (.ref rd), some (.int (s0 : Nat)), c5, none, none, none] ∧ RwAt H' rd zs m c ∧ CellB zs m 10 c ∧ 1 ≤ m ∧ m ≤ 100 ∧ s0 < m ∧ Kp [] H5 H') (fun Dn hDn => ?_) ?_
    · try simp (maxSteps := 1000000) only [tSeq, tIfS, tTest, tOp, tUn, tCB, tCons, tNil, tVar, tC, rI0, rI, rU, rEq, rNe, tRet, tRetN, tAsg, gName, gSub, tBM, tBM0, tNext, tB, tNot, tAnd, tOr, tIf, tCall, tDrop, tBreak, tCont, L2.start, tDGet, sDPut, tTup, tLst, tDNewK, tRevL, rCat, rAppend, rPop, rSetL, tAndV, tOrV, tNotV, tSl, tPart, tNoPart, tM1, gTup, gCons, gNil, cxK, cxnK, List.map_cons, List.map_nil, List.length_cons, List.length_nil, List.replicate, List.cons_append, List.nil_append, List.append_nil, List.set_cons_zero, List.set_cons_succ, List.getElem?_cons_zero, List.getElem?_cons_succ, Option.some.injEq, V.ref.injEq, V.int.injEq, V.str.injEq, V.bl.injEq, V.ty.injEq, exists_eq_left', exists_eq_left, exists_and_left, List.cons.injEq, and_true, true_and, sc_ii, sc_ss, sc_bb, sc_ni, sc_in, sc_is, sc_si, sc_nn, decide_true, decide_false, reduceCtorEq, Bool.false_eq_true, if_true, if_false, ite_true, ite_false, exists_const, eq_self, false_and, and_false, or_false, false_or, exists_false, Evl.rLenS, rSum, wipe, tYes, exists_eq, exists_eq', rIxL, rIxT, rIxS, exists_and_right, gt_iff_lt, not_true_eq_false, not_false_eq_true, Bool.not_true, Bool.not_false, decide_eq_true_eq, Nat.reduceSub, Nat.reduceAdd, List.append_assoc, tChain, tDIn, tDNotIn, sDDel, tAug, ipI, rIv_int, rIv_bl]
      refine ⟨_, sq_l hd5, _, dV e4, rfl, ?_⟩
      by_cases h4 : d4 = 4
      · rw [if_pos (by rw [h4])]
        refine ⟨a, nl, rd, 3, 1 + m, s0, ns, zs, c, rfl, ⟨k05.ls not0 hS, hl⟩, by decide, hrw, hn5, znd, zne, by omega, hb, by omega, by omega, s0m, fun l r x m' s' c' H' nl' hl' hr' hb' m1' m100' s1' k' => ?_⟩
        exact ⟨l, rfl, _, sq_l hl', _, rfl, l, rfl, _, sq_l hl', _, rfl, hDn _ _ ⟨_, r, m', s', c', rfl, hr', hb', m1', m100', s1', k'⟩⟩
      · rw [if_neg (fun z => h4 (by injection z))]
        refine ⟨_, sq_l hd5, _, dV e4, rfl, ?_⟩
        by_cases h5 : d4 = 5
        · rw [if_pos (by rw [h5])]
          refine ⟨a, nl, rd, 3, 1 + m, s0, ns, zs, c, rfl, ⟨k05.ls not0 hS, hl⟩, by decide, hrw, hn5, znd, zne, by omega, hb, by omega, by omega, s0m, fun l r x m' s' c' H' nl' hl' hr' hb' m1' m100' s1' k' => ?_⟩
          exact ⟨l, rfl, _, sq_l hl', _, rfl, l, rfl, _, sq_l hl', _, rfl, hDn _ _ ⟨_, r, m', s', c', rfl, hr', hb', m1', m100', s1', k'⟩⟩
        · rw [if_neg (fun z => h5 (by injection z))]
          exact hDn _ _ ⟨_, rd, 1 + m, s0, c, rfl, hrw, hb, by omega, by omega, s0m, Kp.refl [] _⟩
    rintro σ' H6 ⟨c5, rd6, m6, s6, c6, rfl, hrw6, hb6, m61, m6100, s6m, k6⟩
    have k16 := k15.trans k6
    have k06 := k05.trans k6
    try simp (maxSteps := 1000000) only [tSeq, tTest, tOp, tUn, tCB, tCons, tNil, tVar, tC, rI0, rI, rU, rEq, rNe, tRet, tRetN, tAsg, gName, gSub, tBM, tBM0, tNext, tB, tNot, tAnd, tOr, tIf, tCall, tDrop, tBreak, tCont, L2.start, tDGet, sDPut, tTup, tLst, tDNewK, tRevL, rCat, rAppend, rPop, rSetL, tAndV, tOrV, tNotV, tSl, tPart, tNoPart, tM1, gTup, gCons, gNil, cxK, cxnK, List.map_cons, List.map_nil, List.length_cons, List.length_nil, List.replicate, List.cons_append, List.nil_append, List.append_nil, List.set_cons_zero, List.set_cons_succ, List.getElem?_cons_zero, List.getElem?_cons_succ, Option.some.injEq, V.ref.injEq, V.int.injEq, V.str.injEq, V.bl.injEq, V.ty.injEq, exists_eq_left', exists_eq_left, exists_and_left, List.cons.injEq, and_true, true_and, sc_ii, sc_ss, sc_bb, sc_ni, sc_in, sc_is, sc_si, sc_nn, decide_true, decide_false, reduceCtorEq, Bool.false_eq_true, if_true, if_false, ite_true, ite_false, exists_const, eq_self, false_and, and_false, or_false, false_or, exists_false, Evl.rLenS, rSum, wipe, tYes, exists_eq, exists_eq', rIxL, rIxT, rIxS, exists_and_right, gt_iff_lt, not_true_eq_false, not_false_eq_true, Bool.not_true, Bool.not_false, decide_eq_true_eq, Nat.reduceSub, Nat.reduceAdd, List.append_assoc, tChain, tDIn, tDNotIn, sDDel, tAug, ipI]
    refine ifs_both (fun σ' H' => TlPre σ' H' ∧ Kp [] H H') (fun Dn hDn => ?_) ?_
    · try simp (maxSteps := 1000000) only [tSeq, tIfS, tTest, tOp, tUn, tCB, tCons, tNil, tVar, tC, rI0, rI, rU, rEq, rNe, tRet, tRetN, tAsg, gName, gSub, tBM, tBM0, tNext, tB, tNot, tAnd, tOr, tIf, tCall, tDrop, tBreak, tCont, L2.start, tDGet, sDPut, tTup, tLst, tDNewK, tRevL, rCat, rAppend, rPop, rSetL, tAndV, tOrV, tNotV, tSl, tPart, tNoPart, tM1, gTup, gCons, gNil, cxK, cxnK, List.map_cons, List.map_nil, List.length_cons, List.length_nil, List.replicate, List.cons_append, List.nil_append, List.append_nil, List.set_cons_zero, List.set_cons_succ, List.getElem?_cons_zero, List.getElem?_cons_succ, Option.some.injEq, V.ref.injEq, V.int.injEq, V.str.injEq, V.bl.injEq, V.ty.injEq, exists_eq_left', exists_eq_left, exists_and_left, List.cons.injEq, and_true, true_and, sc_ii, sc_ss, sc_bb, sc_ni, sc_in, sc_is, sc_si, sc_nn, decide_true, decide_false, reduceCtorEq, Bool.false_eq_true, if_true, if_false, ite_true, ite_false, exists_const, eq_self, false_and, and_false, or_false, false_or, exists_false, Evl.rLenS, rSum, wipe, tYes, exists_eq, exists_eq', rIxL, rIxT, rIxS, exists_and_right, gt_iff_lt, not_true_eq_false, not_false_eq_true, Bool.not_true, Bool.not_false, decide_eq_true_eq, Nat.reduceSub, Nat.reduceAdd, List.append_assoc, tChain, tDIn, tDNotIn, sDDel, tAug, ipI, rIv_int, rIv_bl]
      have hd6 := k16 _ _ not0 hdl
      have hn6 := k6 _ _ not0 hn5
      refine ⟨_, sq_l hd6, _, dV e4, _, rfl, ?_⟩
      by_cases h5 : 5 < d4
      · rw [if_pos h5]
        refine ⟨nl, _, rfl, sq_l hn6, fun pl npl => ?_⟩
        have ec := cut_0j (f := V.str) (ts := zs) (j := 2)
        have ec' : cutV (zs.map V.str) none (some 2) = (zs.take 2).map V.str := ec
        rw [ec']
        have kl := (Kp.new npl : Kp [] H6 (upd H6 pl (.lst ((zs.take 2).map V.str))))
        have k6l := k06.trans kl
        have znd2 : (zs.take 2).Nodup := znd.sublist (List.take_sublist 2 zs)
        have zl2 : (zs.take 2).length ≤ 6 := by rw [List.length_take]; omega
        have zne2 : zs.take 2 ≠ [] := fun z => by
          have := congrArg List.length z
          rw [List.length_take, List.length_nil] at this
          omega
        obtain ⟨mb1, mb2⟩ := longM_bnd (d4 := d4) (d7 := d7) ⟨l5, u5⟩ ⟨l6, u6⟩
        refine ⟨pl, dl, zs.take 2, ds, d4, d5, d6, d7, rfl, upd_same, znd2, zl2, kl _ _ not0 hd6, e4, e5, e6, e7, ⟨l5, u5⟩, ⟨l6, u6⟩, ⟨l7, u7⟩, fun r H7 nr hr7 k7 => ?_⟩
        have hbl := longC_ok (zs := zs.take 2) (m := longM d4 d5 d6 d7) (d4 := d4) (d7 := d7) mb1 ⟨l6, u6⟩
        generalize longM d4 d5 d6 d7 = m7 at *
        obtain ⟨z0, r0, ez0⟩ : ∃ z r, zs.take 2 = z :: r := by
          cases h : zs.take 2 with
          | nil => exact absurd h zne2
          | cons z r => exact ⟨z, r, rfl⟩
        have hz0 : z0 ∈ zs.take 2 := by rw [ez0]; simp
        obtain ⟨kvs, l8, xs, hd8, ev8, hl8, hc8⟩ := hr7.get znd2 hz0
        have hn7 := k7 _ _ not0 (upd_same (H := H6) (a := pl) (o := .lst ((zs.take 2).map V.str)))
        have hd7 := k7 _ _ not0 (kl _ _ not0 hd6)
        refine ⟨_, sq_l hd7, _, dV e2, ?_⟩
        try simp (maxSteps := 1000000) only [tSeq, tIfS, tTest, tOp, tUn, tCB, tCons, tNil, tVar, tC, rI0, rI, rU, rEq, rNe, tRet, tRetN, tAsg, gName, gSub, tBM, tBM0, tNext, tB, tNot, tAnd, tOr, tIf, tCall, tDrop, tBreak, tCont, L2.start, tDGet, sDPut, tTup, tLst, tDNewK, tRevL, rCat, rAppend, rPop, rSetL, tAndV, tOrV, tNotV, tSl, tPart, tNoPart, tM1, gTup, gCons, gNil, cxK, cxnK, List.map_cons, List.map_nil, List.length_cons, List.length_nil, List.replicate, List.cons_append, List.nil_append, List.append_nil, List.set_cons_zero, List.set_cons_succ, List.getElem?_cons_zero, List.getElem?_cons_succ, Option.some.injEq, V.ref.injEq, V.int.injEq, V.str.injEq, V.bl.injEq, V.ty.injEq, exists_eq_left', exists_eq_left, exists_and_left, List.cons.injEq, and_true, true_and, sc_ii, sc_ss, sc_bb, sc_ni, sc_in, sc_is, sc_si, sc_nn, decide_true, decide_false, reduceCtorEq, Bool.false_eq_true, if_true, if_false, ite_true, ite_false, exists_const, eq_self, false_and, and_false, or_false, false_or, exists_false, Evl.rLenS, rSum, wipe, tYes, exists_eq, exists_eq', rIxL, rIxT, rIxS, exists_and_right, gt_iff_lt, not_true_eq_false, not_false_eq_true, Bool.not_true, Bool.not_false, decide_eq_true_eq, Nat.reduceSub, Nat.reduceAdd, List.append_assoc, tChain, tDIn, tDNotIn, sDDel, tAug, ipI, rIv_int, rIv_bl]
        refine ⟨_, sq_l hn7, .str z0, atI_of (by decide) (by rw [ez0]; rfl), _, ev8 ▸ DGet.k (k := Sum.inr z0) hd8, l8, rfl, xs, .inl (sq_l hl8), ?_⟩
        rw [hc8.1]
        have s00 := Int.emod_nonneg d2 (show ((m7 : Nat) : Int) ≠ 0 by omega)
        have s01 := Int.emod_lt_of_pos d2 (show (0 : Int) < ((m7 : Nat) : Int) by omega)
        obtain ⟨s8, es8⟩ : ∃ s8 : Nat, d2 % ((m7 : Nat) : Int) = (s8 : Nat) := ⟨(d2 % ((m7 : Nat) : Int)).toNat, by omega⟩
        rw [es8] at s00 s01 ⊢
        exact ⟨by omega, hDn _ _ ⟨⟨_, _, _, pl, r, m7, s8, zs.take 2, _, rfl, hr7, hn7, znd2, zne2, zl2, fun z hz => znm z (List.mem_of_mem_take hz), hbl, mb1, mb2, by omega⟩, k6l.trans k7⟩⟩
      · rw [if_neg h5]
        exact hDn _ _ ⟨⟨_, _, _, nl, rd6, m6, s6, zs, c6, rfl, hrw6, hn6, znd, zne, by omega, znm, hb6, m61, m6100, s6m⟩, k06⟩
    rintro σ' H7 ⟨h7, k7⟩
    exact hq _ _ h7 k7
end
end My

set_option Elab.async false
set_option linter.all false
set_option maxRecDepth 100000
set_option maxHeartbeats 8000000
namespace My
open PySem L2 NdefX StX
theorem exm_sub {K : PySem.W.Frag} {S D : Addr} {b : Bool} (h1 : PySem.W.subIn K (.ref D) (.type "BaseException") = some true) (h2 : PySem.W.isClsIn K D = true) (h3 : PySem.W.typeIn K (.ref D) = some (.type "type"))
    (h4 : PySem.W.subIn K (.ref S) (.ref D) = some b) : PySem.W.exmOne K (.ref S) (.ref D) = some b := by
  have i2 : (PySem.W.clsIn K D).isSome = true := h2
  unfold PySem.W.exmOne
  simp [PySem.W.kitCls, h1, i2, h3, h4]
theorem kit_self {K : PySem.W.Frag} {S : Addr} : PySem.W.kitOne K (.ref S) (.ref S) = some true := by
  unfold PySem.W.kitOne
  rw [if_pos (beq_self_eq_true _)]
theorem kit_sub {K : PySem.W.Frag} {S D : Addr} {b : Bool} (h1 : ((Value.ref S) == (Value.ref D)) = false) (h2 : PySem.W.isClsIn K D = true) (h3 : PySem.W.typeIn K (.ref D) = some (.type "type")) (h4 : PySem.W.subIn K (.ref S) (.ref D) = some b) : PySem.W.kitOne K (.ref S) (.ref D) = some b := by
  have i2 : (PySem.W.clsIn K D).isSome = true := h2
  unfold PySem.W.kitOne
  rw [h1]
  simp [PySem.W.kitCls, i2, h3, h4]
theorem kit_ty {K : PySem.W.Frag} {S : Addr} {T : String} {b : Bool} (h1 : PySem.W.kitMeta T = true) (h4 : PySem.W.subIn K (.ref S) (.type T) = some b) : PySem.W.kitOne K (.ref S) (.type T) = some b := by
  unfold PySem.W.kitOne
  rw [if_neg (by rw [show ((Value.ref S) == (Value.type T)) = false from beq_eq_false_iff_ne.mpr (fun z => nomatch z)]; exact Bool.false_ne_true)]
  simp [PySem.W.kitCls, h1, h4]
theorem all_mk {l : PySem.W.OpenLaw} {w : World} {K : PySem.W.Frag} {h : Heap} {mg : Str → Option Value} {fa : Addr} (X : K.In h) (G : h.Ns mainGlobals mg) (hfa : mg "law" = some (.ref fa))
    {f0 : Addr}
    {od0 an0 : Option Addr}
    {sl0 : Array (Option Value)}
    {oc0 kV0 dc0 pm0 cd0 ct0 : Value}
    {f1 : Addr}
    {od1 an1 : Option Addr}
    {sl1 : Array (Option Value)}
    {oc1 kV1 dc1 pm1 cd1 ct1 : Value}
    {f2 : Addr}
    {od2 an2 : Option Addr}
    {sl2 : Array (Option Value)}
    {oc2 kV2 dc2 pm2 cd2 ct2 : Value}
    {f3 : Addr}
    {od3 an3 : Option Addr}
    {sl3 : Array (Option Value)}
    {oc3 kV3 dc3 pm3 cd3 ct3 : Value}
    {f4 : Addr}
    {od4 an4 : Option Addr}
    {sl4 : Array (Option Value)}
    {oc4 kV4 dc4 pm4 cd4 ct4 : Value}
    {f5 : Addr}
    {od5 an5 : Option Addr}
    {sl5 : Array (Option Value)}
    {oc5 kV5 dc5 pm5 cd5 ct5 : Value}
    {f6 : Addr}
    {od6 an6 : Option Addr}
    {sl6 : Array (Option Value)}
    {oc6 kV6 dc6 pm6 cd6 ct6 : Value}
    {f7 : Addr}
    {od7 an7 : Option Addr}
    {sl7 : Array (Option Value)}
    {oc7 kV7 dc7 pm7 cd7 ct7 : Value}
    {f8 : Addr}
    {od8 an8 : Option Addr}
    {sl8 : Array (Option Value)}
    {oc8 kV8 dc8 pm8 cd8 ct8 : Value}
    {f9 : Addr}
    {od9 an9 : Option Addr}
    {sl9 : Array (Option Value)}
    {oc9 kV9 dc9 pm9 cd9 ct9 : Value}
    {f10 : Addr}
    {od10 an10 : Option Addr}
    {sl10 : Array (Option Value)}
    {oc10 kV10 dc10 pm10 cd10 ct10 : Value}
    {f11 : Addr}
    {od11 an11 : Option Addr}
    {sl11 : Array (Option Value)}
    {oc11 kV11 dc11 pm11 cd11 ct11 : Value}
    {f12 : Addr}
    {od12 an12 : Option Addr}
    {sl12 : Array (Option Value)}
    {oc12 kV12 dc12 pm12 cd12 ct12 : Value}
    {f13 : Addr}
    {od13 an13 : Option Addr}
    {sl13 : Array (Option Value)}
    {oc13 kV13 dc13 pm13 cd13 ct13 : Value}
    {f14 : Addr}
    {od14 an14 : Option Addr}
    {sl14 : Array (Option Value)}
    {oc14 kV14 dc14 pm14 cd14 ct14 : Value}
    {f15 : Addr}
    {od15 an15 : Option Addr}
    {sl15 : Array (Option Value)}
    {oc15 kV15 dc15 pm15 cd15 ct15 : Value}
    {f16 : Addr}
    {od16 an16 : Option Addr}
    {sl16 : Array (Option Value)}
    {oc16 kV16 dc16 pm16 cd16 ct16 : Value}
    {f17 : Addr}
    {od17 an17 : Option Addr}
    {sl17 : Array (Option Value)}
    {oc17 kV17 dc17 pm17 cd17 ct17 : Value}
    {f18 : Addr}
    {od18 an18 : Option Addr}
    {sl18 : Array (Option Value)}
    {oc18 kV18 dc18 pm18 cd18 ct18 : Value}
    {f19 : Addr}
    {od19 an19 : Option Addr}
    {sl19 : Array (Option Value)}
    {oc19 kV19 dc19 pm19 cd19 ct19 : Value}
    {f20 : Addr}
    {od20 an20 : Option Addr}
    {sl20 : Array (Option Value)}
    {oc20 kV20 dc20 pm20 cd20 ct20 : Value}
    {f21 : Addr}
    {od21 an21 : Option Addr}
    {sl21 : Array (Option Value)}
    {oc21 kV21 dc21 pm21 cd21 ct21 : Value}
    {f22 : Addr}
    {od22 an22 : Option Addr}
    {sl22 : Array (Option Value)}
    {oc22 kV22 dc22 pm22 cd22 ct22 : Value}
    {f23 : Addr}
    {od23 an23 : Option Addr}
    {sl23 : Array (Option Value)}
    {oc23 kV23 dc23 pm23 cd23 ct23 : Value}
    {f24 : Addr}
    {od24 an24 : Option Addr}
    {sl24 : Array (Option Value)}
    {oc24 kV24 dc24 pm24 cd24 ct24 : Value}
    {sL : Str}
    {tL : Tok}
    {tX6 : Tok}
    {tX1 : Tok}
    {BN feN ccN cdaN NN : Addr}
    {nmN qnN fileN : Str}
    {bsN bmN sbN : List Value}
    {snN : List Str}
    {abN : Bool}
    {coN : Option Bool}
    {ddN odN anN cdN ceN : Option Addr}
    {m0N m1N m2N m3N m5N : Option Value}
    {vsN : Array Value}
    {tfN : Tok}
    {slN csN czN : Array (Option Value)}
    {ocN kVN dcN pmN ctN clN cxN : Value}
    {BT feB ccB cdaB NB : Addr}
    {nmB qnB fileB : Str}
    {bsB bmB sbB : List Value}
    {snB : List Str}
    {abB : Bool}
    {coB : Option Bool}
    {ddB odB anB cdB ceB : Option Addr}
    {m0B m1B m2B m3B m5B : Option Value}
    {vsB : Array Value}
    {tfB : Tok}
    {slB csB czB : Array (Option Value)}
    {ocB kVB dcB pmB ctB clB cxB : Value}
    {NO feQ ccQ cdaQ NQ : Addr}
    {nmQ qnQ fileQ : Str}
    {bsQ bmQ sbQ : List Value}
    {snQ : List Str}
    {abQ : Bool}
    {coQ : Option Bool}
    {ddQ odQ anQ cdQ ceQ : Option Addr}
    {m0Q m1Q m2Q m3Q m5Q : Option Value}
    {vsQ : Array Value}
    {tfQ : Tok}
    {slQ csQ czQ : Array (Option Value)}
    {ocQ kVQ dcQ pmQ ctQ clQ cxQ : Value}
    {TC : Addr}
    {TD : Addr}
    {dtD : Option Addr}
    {itsD : Array Value}
    {ntD : Nat}
    {sqD : Array (Option Value)}
    {tcD : Value}
    {tkD : Tok}
    {fTI : Addr}
    {odTI anTI : Option Addr}
    {slTI : Array (Option Value)}
    {ocTI kVTI dcTI pmTI cdTI ctTI : Value}
    {fTN : Addr}
    {odTN anTN : Option Addr}
    {slTN : Array (Option Value)}
    {ocTN kVTN dcTN pmTN cdTN ctTN : Value}
    {fTO : Addr}
    {odTO anTO : Option Addr}
    {slTO : Array (Option Value)}
    {ocTO kVTO dcTO pmTO cdTO ctTO : Value}
    {fTK : Addr}
    {odTK anTK : Option Addr}
    {slTK : Array (Option Value)}
    {ocTK kVTK dcTK pmTK cdTK ctTK : Value}
    (a0 : PySem.W.nsIn K mainGlobals "is_name" = some (some (.ref f0)))
    (l0 : K.lookup f0 = some ⟨oc0, od0, .func (PySem.W.fnOf "is_name" "is_name" (defArgs s_is_name) (defBody s_is_name) (defScope s_is_name) .none kV0 dc0 pm0 an0 cd0 ct0), sl0⟩)
    (c0 : PySem.W.codeIn K cd0 "is_name" = true)
    (k0 : PySem.W.keepIn K (.ref f0) = true)
    (a1 : PySem.W.nsIn K mainGlobals "is_below" = some (some (.ref f1)))
    (l1 : K.lookup f1 = some ⟨oc1, od1, .func (PySem.W.fnOf "is_below" "is_below" (defArgs s_is_below) (defBody s_is_below) (defScope s_is_below) .none kV1 dc1 pm1 an1 cd1 ct1), sl1⟩)
    (c1 : PySem.W.codeIn K cd1 "is_below" = true)
    (k1 : PySem.W.keepIn K (.ref f1) = true)
    (a2 : PySem.W.nsIn K mainGlobals "is_number" = some (some (.ref f2)))
    (l2 : K.lookup f2 = some ⟨oc2, od2, .func (PySem.W.fnOf "is_number" "is_number" (defArgs s_is_number) (defBody s_is_number) (defScope s_is_number) .none kV2 dc2 pm2 an2 cd2 ct2), sl2⟩)
    (c2 : PySem.W.codeIn K cd2 "is_number" = true)
    (k2 : PySem.W.keepIn K (.ref f2) = true)
    (a3 : PySem.W.nsIn K mainGlobals "is_pair" = some (some (.ref f3)))
    (l3 : K.lookup f3 = some ⟨oc3, od3, .func (PySem.W.fnOf "is_pair" "is_pair" (defArgs s_is_pair) (defBody s_is_pair) (defScope s_is_pair) .none kV3 dc3 pm3 an3 cd3 ct3), sl3⟩)
    (c3 : PySem.W.codeIn K cd3 "is_pair" = true)
    (k3 : PySem.W.keepIn K (.ref f3) = true)
    (a4 : PySem.W.nsIn K mainGlobals "is_row" = some (some (.ref f4)))
    (l4 : K.lookup f4 = some ⟨oc4, od4, .func (PySem.W.fnOf "is_row" "is_row" (defArgs s_is_row) (defBody s_is_row) (defScope s_is_row) .none kV4 dc4 pm4 an4 cd4 ct4), sl4⟩)
    (c4 : PySem.W.codeIn K cd4 "is_row" = true)
    (k4 : PySem.W.keepIn K (.ref f4) = true)
    (a5 : PySem.W.nsIn K mainGlobals "check_rows" = some (some (.ref f5)))
    (l5 : K.lookup f5 = some ⟨oc5, od5, .func (PySem.W.fnOf "check_rows" "check_rows" (defArgs s_check_rows) (defBody s_check_rows) (defScope s_check_rows) .none kV5 dc5 pm5 an5 cd5 ct5), sl5⟩)
    (c5 : PySem.W.codeIn K cd5 "check_rows" = true)
    (k5 : PySem.W.keepIn K (.ref f5) = true)
    (a6 : PySem.W.nsIn K mainGlobals "found_states" = some (some (.ref f6)))
    (l6 : K.lookup f6 = some ⟨oc6, od6, .func (PySem.W.fnOf "found_states" "found_states" (defArgs s_found_states) (defBody s_found_states) (defScope s_found_states) .none kV6 dc6 pm6 an6 cd6 ct6), sl6⟩)
    (c6 : PySem.W.codeIn K cd6 "found_states" = true)
    (k6 : PySem.W.keepIn K (.ref f6) = true)
    (a7 : PySem.W.nsIn K mainGlobals "classes_of" = some (some (.ref f7)))
    (l7 : K.lookup f7 = some ⟨oc7, od7, .func (PySem.W.fnOf "classes_of" "classes_of" (defArgs s_classes_of) (defBody s_classes_of) (defScope s_classes_of) .none kV7 dc7 pm7 an7 cd7 ct7), sl7⟩)
    (c7 : PySem.W.codeIn K cd7 "classes_of" = true)
    (k7 : PySem.W.keepIn K (.ref f7) = true)
    (a8 : PySem.W.nsIn K mainGlobals "finer" = some (some (.ref f8)))
    (l8 : K.lookup f8 = some ⟨oc8, od8, .func (PySem.W.fnOf "finer" "finer" (defArgs s_finer) (defBody s_finer) (defScope s_finer) .none kV8 dc8 pm8 an8 cd8 ct8), sl8⟩)
    (c8 : PySem.W.codeIn K cd8 "finer" = true)
    (k8 : PySem.W.keepIn K (.ref f8) = true)
    (a9 : PySem.W.nsIn K mainGlobals "least" = some (some (.ref f9)))
    (l9 : K.lookup f9 = some ⟨oc9, od9, .func (PySem.W.fnOf "least" "least" (defArgs s_least) (defBody s_least) (defScope s_least) .none kV9 dc9 pm9 an9 cd9 ct9), sl9⟩)
    (c9 : PySem.W.codeIn K cd9 "least" = true)
    (k9 : PySem.W.keepIn K (.ref f9) = true)
    (a10 : PySem.W.nsIn K mainGlobals "_law_mixed" = some (some (.ref f10)))
    (l10 : K.lookup f10 = some ⟨oc10, od10, .func (PySem.W.fnOf "_law_mixed" "_law_mixed" (defArgs s_law_mixed) (defBody s_law_mixed) (defScope s_law_mixed) .none kV10 dc10 pm10 an10 cd10 ct10), sl10⟩)
    (c10 : PySem.W.codeIn K cd10 "_law_mixed" = true)
    (k10 : PySem.W.keepIn K (.ref f10) = true)
    (a11 : PySem.W.nsIn K mainGlobals "_law_draws" = some (some (.ref f11)))
    (l11 : K.lookup f11 = some ⟨oc11, od11, .func (PySem.W.fnOf "_law_draws" "_law_draws" (defArgs s_law_draws) (defBody s_law_draws) (defScope s_law_draws) .none kV11 dc11 pm11 an11 cd11 ct11), sl11⟩)
    (c11 : PySem.W.codeIn K cd11 "_law_draws" = true)
    (k11 : PySem.W.keepIn K (.ref f11) = true)
    (a12 : PySem.W.nsIn K mainGlobals "_law_names" = some (some (.ref f12)))
    (l12 : K.lookup f12 = some ⟨oc12, od12, .func (PySem.W.fnOf "_law_names" "_law_names" (defArgs s_law_names) (defBody s_law_names) (defScope s_law_names) .none kV12 dc12 pm12 an12 cd12 ct12), sl12⟩)
    (c12 : PySem.W.codeIn K cd12 "_law_names" = true)
    (k12 : PySem.W.keepIn K (.ref f12) = true)
    (a13 : PySem.W.nsIn K mainGlobals "_law_rows" = some (some (.ref f13)))
    (l13 : K.lookup f13 = some ⟨oc13, od13, .func (PySem.W.fnOf "_law_rows" "_law_rows" (defArgs s_law_rows) (defBody s_law_rows) (defScope s_law_rows) .none kV13 dc13 pm13 an13 cd13 ct13), sl13⟩)
    (c13 : PySem.W.codeIn K cd13 "_law_rows" = true)
    (k13 : PySem.W.keepIn K (.ref f13) = true)
    (a14 : PySem.W.nsIn K mainGlobals "_law_copy" = some (some (.ref f14)))
    (l14 : K.lookup f14 = some ⟨oc14, od14, .func (PySem.W.fnOf "_law_copy" "_law_copy" (defArgs s_law_copy) (defBody s_law_copy) (defScope s_law_copy) .none kV14 dc14 pm14 an14 cd14 ct14), sl14⟩)
    (c14 : PySem.W.codeIn K cd14 "_law_copy" = true)
    (k14 : PySem.W.keepIn K (.ref f14) = true)
    (a15 : PySem.W.nsIn K mainGlobals "_law_is_whole" = some (some (.ref f15)))
    (l15 : K.lookup f15 = some ⟨oc15, od15, .func (PySem.W.fnOf "_law_is_whole" "_law_is_whole" (defArgs s_law_is_whole) (defBody s_law_is_whole) (defScope s_law_is_whole) .none kV15 dc15 pm15 an15 cd15 ct15), sl15⟩)
    (c15 : PySem.W.codeIn K cd15 "_law_is_whole" = true)
    (k15 : PySem.W.keepIn K (.ref f15) = true)
    (a16 : PySem.W.nsIn K mainGlobals "_law_tells" = some (some (.ref f16)))
    (l16 : K.lookup f16 = some ⟨oc16, od16, .func (PySem.W.fnOf "_law_tells" "_law_tells" (defArgs s_law_tells) (defBody s_law_tells) (defScope s_law_tells) .none kV16 dc16 pm16 an16 cd16 ct16), sl16⟩)
    (c16 : PySem.W.codeIn K cd16 "_law_tells" = true)
    (k16 : PySem.W.keepIn K (.ref f16) = true)
    (a17 : PySem.W.nsIn K mainGlobals "_law_copies" = some (some (.ref f17)))
    (l17 : K.lookup f17 = some ⟨oc17, od17, .func (PySem.W.fnOf "_law_copies" "_law_copies" (defArgs s_law_copies) (defBody s_law_copies) (defScope s_law_copies) .none kV17 dc17 pm17 an17 cd17 ct17), sl17⟩)
    (c17 : PySem.W.codeIn K cd17 "_law_copies" = true)
    (k17 : PySem.W.keepIn K (.ref f17) = true)
    (a18 : PySem.W.nsIn K mainGlobals "_law_pairs" = some (some (.ref f18)))
    (l18 : K.lookup f18 = some ⟨oc18, od18, .func (PySem.W.fnOf "_law_pairs" "_law_pairs" (defArgs s_law_pairs) (defBody s_law_pairs) (defScope s_law_pairs) .none kV18 dc18 pm18 an18 cd18 ct18), sl18⟩)
    (c18 : PySem.W.codeIn K cd18 "_law_pairs" = true)
    (k18 : PySem.W.keepIn K (.ref f18) = true)
    (a19 : PySem.W.nsIn K mainGlobals "_law_classes" = some (some (.ref f19)))
    (l19 : K.lookup f19 = some ⟨oc19, od19, .func (PySem.W.fnOf "_law_classes" "_law_classes" (defArgs s_law_classes) (defBody s_law_classes) (defScope s_law_classes) .none kV19 dc19 pm19 an19 cd19 ct19), sl19⟩)
    (c19 : PySem.W.codeIn K cd19 "_law_classes" = true)
    (k19 : PySem.W.keepIn K (.ref f19) = true)
    (a20 : PySem.W.nsIn K mainGlobals "_law_breadth" = some (some (.ref f20)))
    (l20 : K.lookup f20 = some ⟨oc20, od20, .func (PySem.W.fnOf "_law_breadth" "_law_breadth" (defArgs s_law_breadth) (defBody s_law_breadth) (defScope s_law_breadth) .none kV20 dc20 pm20 an20 cd20 ct20), sl20⟩)
    (c20 : PySem.W.codeIn K cd20 "_law_breadth" = true)
    (k20 : PySem.W.keepIn K (.ref f20) = true)
    (a21 : PySem.W.nsIn K mainGlobals "_law_read" = some (some (.ref f21)))
    (l21 : K.lookup f21 = some ⟨oc21, od21, .func (PySem.W.fnOf "_law_read" "_law_read" (defArgs s_law_read) (defBody s_law_read) (defScope s_law_read) .none kV21 dc21 pm21 an21 cd21 ct21), sl21⟩)
    (c21 : PySem.W.codeIn K cd21 "_law_read" = true)
    (k21 : PySem.W.keepIn K (.ref f21) = true)
    (a22 : PySem.W.nsIn K mainGlobals "_law_long" = some (some (.ref f22)))
    (l22 : K.lookup f22 = some ⟨oc22, od22, .func (PySem.W.fnOf "_law_long" "_law_long" (defArgs s_law_long) (defBody s_law_long) (defScope s_law_long) .none kV22 dc22 pm22 an22 cd22 ct22), sl22⟩)
    (c22 : PySem.W.codeIn K cd22 "_law_long" = true)
    (k22 : PySem.W.keepIn K (.ref f22) = true)
    (a23 : PySem.W.nsIn K mainGlobals "_law_least" = some (some (.ref f23)))
    (l23 : K.lookup f23 = some ⟨oc23, od23, .func (PySem.W.fnOf "_law_least" "_law_least" (defArgs s_law_least) (defBody s_law_least) (defScope s_law_least) .none kV23 dc23 pm23 an23 cd23 ct23), sl23⟩)
    (c23 : PySem.W.codeIn K cd23 "_law_least" = true)
    (k23 : PySem.W.keepIn K (.ref f23) = true)
    (a24 : PySem.W.nsIn K mainGlobals "law" = some (some (.ref f24)))
    (l24 : K.lookup f24 = some ⟨oc24, od24, .func (PySem.W.fnOf "law" "law" (defArgs s_law) (defBody s_law) (defScope s_law) .none kV24 dc24 pm24 an24 cd24 ct24), sl24⟩)
    (c24 : PySem.W.codeIn K cd24 "law" = true)
    (k24 : PySem.W.keepIn K (.ref f24) = true)
    (z_isinstance : PySem.W.nsIn K mainGlobals "isinstance" = some none)
    (z_str : PySem.W.nsIn K mainGlobals "str" = some none)
    (z_int : PySem.W.nsIn K mainGlobals "int" = some none)
    (z_bool : PySem.W.nsIn K mainGlobals "bool" = some none)
    (z_tuple : PySem.W.nsIn K mainGlobals "tuple" = some none)
    (z_list : PySem.W.nsIn K mainGlobals "list" = some none)
    (z_set : PySem.W.nsIn K mainGlobals "set" = some none)
    (z_len : PySem.W.nsIn K mainGlobals "len" = some none)
    (z_all : PySem.W.nsIn K mainGlobals "all" = some none)
    (z_abs : PySem.W.nsIn K mainGlobals "abs" = some none)
    (z_range : PySem.W.nsIn K mainGlobals "range" = some none)
    (z_super : PySem.W.nsIn K mainGlobals "super" = some none)
    (gL : PySem.W.nsIn K mainGlobals "LETTERS" = some (some (.str sL tL)))
    (eL : sL = lets)
    (gX6 : PySem.W.nsIn K mainGlobals "MOST_OPERATIONS" = some (some (.int 6 tX6)))
    (gX1 : PySem.W.nsIn K mainGlobals "MOST_STATES" = some (some (.int 100 tX1)))
    (aN : PySem.W.nsIn K mainGlobals "BadNumber" = some (some (.ref BN)))
    (xN : K.lookup BN = some (excClassObj nmN qnN BN NN bsN bmN true snN sbN abN coN ddN m0N m1N m2N m3N m5N "ValueError.__new__"))
    (rN : PySem.HandSPX.refsVE bmN = true)
    (b1N : PySem.W.findIn K (.ref BN) "__setattr__" = some (some (.builtin "object.__setattr__")))
    (q1N : PySem.W.subIn K (.ref BN) (.type "BaseException") = some true)
    (q2N : PySem.W.isClsIn K BN = true)
    (q3N : PySem.W.typeIn K (.ref BN) = some (.type "type"))
    (b4N : PySem.W.keepIn K (.ref BN) = true)
    (b5N : PySem.W.findIn K (.ref BN) "__init__" = some (some (.ref feN)))
    (b6N : PySem.W.typeIn K (.ref feN) = some (.type "function"))
    (lN : K.lookup feN = some ⟨ocN, odN, .func (PySem.W.fnX "__init__" "BadNumber.__init__" (defArgs s_BadNumber_init) (defBody s_BadNumber_init) (defScope s_BadNumber_init) [("__class__", ccN)] .none kVN dcN pmN anN (.ref cdaN) ctN), slN⟩)
    (cN : PySem.W.codeIn K (.ref cdaN) "BadNumber.__init__" = true)
    (kN : PySem.W.keepIn K (.ref feN) = true)
    (eN : K.lookup ccN = some ⟨clN, cdN, .cell (some (.ref BN)), csN⟩)
    (b7N : PySem.W.ks_superIn K BN BN "__init__" = some (some (.builtin "ValueError.__init__")))
    (b8N : PySem.W.subIn K (.ref BN) (.type "ValueError") = some true)
    (b9 : PySem.W.nsIn K cStatics "thirdparty.any" = some none)
    (b14 : (l.prog.main.scope.names.lookup ("super" : Str)).isSome = false)
    (b31 : PySem.W.kitMeta "ValueError" = true)
    (p12 : PySem.W.specialIn K (.builtin "object.__class__") "__get__" = some (some (.builtin "getset_descriptor.__get__")))
    (p13 : PySem.W.takesIn K (.builtin "object.__class__") = some true)
    (b10N : PySem.W.mroIn K BN (.ref BN) = some true)
    (b11N : K.lookup cdaN = some ⟨cxN, ceN, .fields vsN, czN⟩)
    (b12N : vsN[2]? = some (.str fileN tfN))
    (b13N : ((l.prog.main.file : Str) == fileN) = true)
    (b15N : PySem.W.findIn K (.ref BN) "number" = some none)
    (b17N : PySem.W.findIn K (.ref BN) "__getattribute__" = some (some (.builtin "BaseException.__getattribute__")))
    (b18N : PySem.W.findIn K (.ref BN) "__getattr__" = some none)
    (b19N : PySem.W.hasDictIn K BN = true)
    (b25N : PySem.W.findIn K (.ref BN) "__class__" = some (some (.builtin "object.__class__")))
    (b26N : PySem.W.mroIn K BN (.type "object") = some true)
    (aB : PySem.W.nsIn K mainGlobals "BadTable" = some (some (.ref BT)))
    (xB : K.lookup BT = some (excClassObj nmB qnB BT NB bsB bmB true snB sbB abB coB ddB m0B m1B m2B m3B m5B "ValueError.__new__"))
    (rB : PySem.HandSPX.refsVE bmB = true)
    (b1B : PySem.W.findIn K (.ref BT) "__setattr__" = some (some (.builtin "object.__setattr__")))
    (q1B : PySem.W.subIn K (.ref BT) (.type "BaseException") = some true)
    (q2B : PySem.W.isClsIn K BT = true)
    (q3B : PySem.W.typeIn K (.ref BT) = some (.type "type"))
    (b4B : PySem.W.keepIn K (.ref BT) = true)
    (b5B : PySem.W.findIn K (.ref BT) "__init__" = some (some (.ref feB)))
    (b6B : PySem.W.typeIn K (.ref feB) = some (.type "function"))
    (lB : K.lookup feB = some ⟨ocB, odB, .func (PySem.W.fnX "__init__" "BadTable.__init__" (defArgs s_BadTable_init) (defBody s_BadTable_init) (defScope s_BadTable_init) [("__class__", ccB)] .none kVB dcB pmB anB (.ref cdaB) ctB), slB⟩)
    (cB : PySem.W.codeIn K (.ref cdaB) "BadTable.__init__" = true)
    (kB : PySem.W.keepIn K (.ref feB) = true)
    (eB : K.lookup ccB = some ⟨clB, cdB, .cell (some (.ref BT)), csB⟩)
    (b7B : PySem.W.ks_superIn K BT BT "__init__" = some (some (.builtin "ValueError.__init__")))
    (b8B : PySem.W.subIn K (.ref BT) (.type "ValueError") = some true)
    (b10B : PySem.W.mroIn K BT (.ref BT) = some true)
    (b11B : K.lookup cdaB = some ⟨cxB, ceB, .fields vsB, czB⟩)
    (b12B : vsB[2]? = some (.str fileB tfB))
    (b13B : ((l.prog.main.file : Str) == fileB) = true)
    (b15B : PySem.W.findIn K (.ref BT) "name" = some none)
    (b17B : PySem.W.findIn K (.ref BT) "__getattribute__" = some (some (.builtin "BaseException.__getattribute__")))
    (b18B : PySem.W.findIn K (.ref BT) "__getattr__" = some none)
    (b19B : PySem.W.hasDictIn K BT = true)
    (b25B : PySem.W.findIn K (.ref BT) "__class__" = some (some (.builtin "object.__class__")))
    (b26B : PySem.W.mroIn K BT (.type "object") = some true)
    (aQ : PySem.W.nsIn K mainGlobals "NoOperation" = some (some (.ref NO)))
    (xQ : K.lookup NO = some (excClassObj nmQ qnQ NO NQ bsQ bmQ true snQ sbQ abQ coQ ddQ m0Q m1Q m2Q m3Q m5Q "ValueError.__new__"))
    (rQ : PySem.HandSPX.refsVE bmQ = true)
    (b1Q : PySem.W.findIn K (.ref NO) "__setattr__" = some (some (.builtin "object.__setattr__")))
    (q1Q : PySem.W.subIn K (.ref NO) (.type "BaseException") = some true)
    (q2Q : PySem.W.isClsIn K NO = true)
    (q3Q : PySem.W.typeIn K (.ref NO) = some (.type "type"))
    (b4Q : PySem.W.keepIn K (.ref NO) = true)
    (b5Q : PySem.W.findIn K (.ref NO) "__init__" = some (some (.ref feQ)))
    (b6Q : PySem.W.typeIn K (.ref feQ) = some (.type "function"))
    (lQ : K.lookup feQ = some ⟨ocQ, odQ, .func (PySem.W.fnX "__init__" "NoOperation.__init__" (defArgs s_NoOperation_init) (defBody s_NoOperation_init) (defScope s_NoOperation_init) [("__class__", ccQ)] .none kVQ dcQ pmQ anQ (.ref cdaQ) ctQ), slQ⟩)
    (cQ : PySem.W.codeIn K (.ref cdaQ) "NoOperation.__init__" = true)
    (kQ : PySem.W.keepIn K (.ref feQ) = true)
    (eQ : K.lookup ccQ = some ⟨clQ, cdQ, .cell (some (.ref NO)), csQ⟩)
    (b7Q : PySem.W.ks_superIn K NO NO "__init__" = some (some (.builtin "ValueError.__init__")))
    (b8Q : PySem.W.subIn K (.ref NO) (.type "ValueError") = some true)
    (b10Q : PySem.W.mroIn K NO (.ref NO) = some true)
    (b11Q : K.lookup cdaQ = some ⟨cxQ, ceQ, .fields vsQ, czQ⟩)
    (b12Q : vsQ[2]? = some (.str fileQ tfQ))
    (b13Q : ((l.prog.main.file : Str) == fileQ) = true)
    (b15Q : PySem.W.findIn K (.ref NO) "name" = some none)
    (b17Q : PySem.W.findIn K (.ref NO) "__getattribute__" = some (some (.builtin "BaseException.__getattribute__")))
    (b18Q : PySem.W.findIn K (.ref NO) "__getattr__" = some none)
    (b19Q : PySem.W.hasDictIn K NO = true)
    (b25Q : PySem.W.findIn K (.ref NO) "__class__" = some (some (.builtin "object.__class__")))
    (b26Q : PySem.W.mroIn K NO (.type "object") = some true)
    (aT : PySem.W.nsIn K mainGlobals "Table" = some (some (.ref TC)))
    (p1T : PySem.W.plainGet K TC Str.empty = true)
    (p2T : PySem.W.hasDictIn K TC = true)
    (p3T : PySem.W.plainOver K TC = true)
    (p4T : PySem.W.findIn K (.ref TC) "__setattr__" = some (some (.builtin "object.__setattr__")))
    (n0T : PySem.W.findIn K (.ref TC) "size" = some none)
    (n1T : PySem.W.findIn K (.ref TC) "first" = some none)
    (n2T : PySem.W.findIn K (.ref TC) "_rows" = some none)
    (p9T : PySem.W.keepIn K (.ref TC) = true)
    (p5T : PySem.W.makesIn K TC = true)
    (mTI : PySem.W.findIn K (.ref TC) "__init__" = some (some (.ref fTI)))
    (hTI : PySem.W.isFn K (.ref fTI) = true)
    (lTI : K.lookup fTI = some ⟨ocTI, odTI, .func (PySem.W.fnOf "__init__" "Table.__init__" (defArgs s_Table_init) (defBody s_Table_init) (defScope s_Table_init) (.ref TD) kVTI dcTI pmTI anTI cdTI ctTI), slTI⟩)
    (cTI : PySem.W.codeIn K cdTI "Table.__init__" = true)
    (kTI : PySem.W.keepIn K (.ref fTI) = true)
    (mTN : PySem.W.findIn K (.ref TC) "names" = some (some (.ref fTN)))
    (hTN : PySem.W.isFn K (.ref fTN) = true)
    (lTN : K.lookup fTN = some ⟨ocTN, odTN, .func (PySem.W.fnOf "names" "Table.names" (defArgs s_Table_names) (defBody s_Table_names) (defScope s_Table_names) .none kVTN dcTN pmTN anTN cdTN ctTN), slTN⟩)
    (cTN : PySem.W.codeIn K cdTN "Table.names" = true)
    (kTN : PySem.W.keepIn K (.ref fTN) = true)
    (mTO : PySem.W.findIn K (.ref TC) "__call__" = some (some (.ref fTO)))
    (hTO : PySem.W.isFn K (.ref fTO) = true)
    (lTO : K.lookup fTO = some ⟨ocTO, odTO, .func (PySem.W.fnOf "__call__" "Table.__call__" (defArgs s_Table_call) (defBody s_Table_call) (defScope s_Table_call) .none kVTO dcTO pmTO anTO cdTO ctTO), slTO⟩)
    (cTO : PySem.W.codeIn K cdTO "Table.__call__" = true)
    (kTO : PySem.W.keepIn K (.ref fTO) = true)
    (mTK : PySem.W.findIn K (.ref TC) "check_name" = some (some (.ref fTK)))
    (hTK : PySem.W.isFn K (.ref fTK) = true)
    (lTK : K.lookup fTK = some ⟨ocTK, odTK, .func (PySem.W.fnOf "check_name" "Table.check_name" (defArgs s_Table_check_name) (defBody s_Table_check_name) (defScope s_Table_check_name) .none kVTK dcTK pmTK anTK cdTK ctTK), slTK⟩)
    (cTK : PySem.W.codeIn K cdTK "Table.check_name" = true)
    (kTK : PySem.W.keepIn K (.ref fTK) = true)
    (iTO : PySem.W.fnIn K fTO = true)
    (vD : K.lookup TD = some ⟨tcD, dtD, .seq itsD ntD, sqD⟩)
    (uD : itsD = #[.int 0 tkD]) :
    ∃ fd : FuncData, (∀ (s : Shared) (v : Value), BindsTo s fd ⟨[v], []⟩ [("_law_script", v)]) ∧ ∀ base : Heap, K.In base → base.Ns mainGlobals mg → FnOk l.prog w K mg base CX0 13 fa fd ["_law_script"] (spLaw K) := by
  cases hfa.symm.trans (PySem.W.mg_of X G a24)
  subst eL uD
  refine ⟨PySem.W.fnOf "law" "law" (defArgs s_law) (defBody s_law) (defScope s_law) .none kV24 dc24 pm24 an24 cd24 ct24, fun s v => .of_eq rfl, fun base _ _ => ?_⟩
  have T1 : Bt mg tL tX1 tX6 := ⟨(PySem.W.mg_none_of X G z_isinstance), (PySem.W.mg_none_of X G z_str), (PySem.W.mg_none_of X G z_int), (PySem.W.mg_none_of X G z_bool), (PySem.W.mg_none_of X G z_tuple), (PySem.W.mg_none_of X G z_list), (PySem.W.mg_none_of X G z_len), (PySem.W.mg_none_of X G z_all), (PySem.W.mg_of X G gL), (PySem.W.mg_of X G gX1), (PySem.W.mg_of X G gX6)⟩
  have TF_ : BtF mg := ⟨(PySem.W.mg_none_of X G z_len), (PySem.W.mg_none_of X G z_range), (PySem.W.mg_none_of X G z_tuple), (PySem.W.mg_none_of X G z_set)⟩
  have TG : BtG mg := ⟨(PySem.W.mg_none_of X G z_int), (PySem.W.mg_none_of X G z_len), (PySem.W.mg_none_of X G z_abs)⟩
  have TN_ : BtN mg := ⟨(PySem.W.mg_none_of X G z_int), (PySem.W.mg_none_of X G z_len), (PySem.W.mg_none_of X G z_range)⟩
  have TL_ : BtL mg := ⟨(PySem.W.mg_none_of X G z_list)⟩
  have TD_ : BtD mg := ⟨(PySem.W.mg_none_of X G z_len), (PySem.W.mg_none_of X G z_range), (PySem.W.mg_none_of X G z_isinstance), (PySem.W.mg_none_of X G z_list), (PySem.W.mg_none_of X G z_tuple), (PySem.W.mg_none_of X G z_int)⟩
  have TH_ : BtH mg := ⟨(PySem.W.mg_none_of X G z_len)⟩
  have TI_ : BtI mg := ⟨(PySem.W.mg_none_of X G z_len), (PySem.W.mg_none_of X G z_range), (PySem.W.mg_none_of X G z_tuple)⟩
  have TR_ : BtR mg := ⟨(PySem.W.mg_none_of X G z_len), (PySem.W.mg_none_of X G z_range), (PySem.W.mg_none_of X G z_isinstance), (PySem.W.mg_none_of X G z_list), (PySem.W.mg_none_of X G z_tuple), (PySem.W.mg_none_of X G z_int), (PySem.W.mg_none_of X G z_bool)⟩
  have TJ_ : BtJ mg := ⟨(PySem.W.mg_none_of X G z_len), (PySem.W.mg_none_of X G z_range), (PySem.W.mg_none_of X G z_int)⟩
  have TP_ : BtP mg := ⟨(PySem.W.mg_none_of X G z_len), (PySem.W.mg_none_of X G z_range), (PySem.W.mg_none_of X G z_int), (PySem.W.mg_none_of X G z_list)⟩
  have TE_ : BtLe mg := ⟨(PySem.W.mg_none_of X G z_len), (PySem.W.mg_none_of X G z_set), (PySem.W.mg_none_of X G z_list), (PySem.W.mg_none_of X G z_range)⟩
  have TZ_ : BtZ mg := ⟨(PySem.W.mg_none_of X G z_int), (PySem.W.mg_none_of X G z_len)⟩
  have OXN : OexC K BN := ⟨⟨nmN, qnN, NN, bsN, bmN, snN, sbN, abN, coN, ddN, m0N, m1N, m2N, m3N, m5N, xN, rN⟩, b1N, q1N, q3N, b4N⟩
  have ECN : ErrC K BN := ⟨OXN, b7N, b8N, b9, b10N⟩
  have CFN : CodeF K l.prog cdaN := ⟨⟨cxN, ceN, vsN, czN, fileN, tfN, b11N, b12N, b13N⟩, b14⟩
  have FXN : FunX K "__init__" "BadNumber.__init__" s_BadNumber_init feN _ ccN cdaN BN := ⟨⟨ocN, odN, kVN, dcN, pmN, anN, ctN, slN, rfl, lN, cN⟩, ⟨clN, cdN, csN, eN⟩, kN⟩
  have KTN : KitC K BN := ⟨q2N, b17N, b18N, q1N, b25N, p12, p13, b26N⟩
  have GXN := ok_BadNumber_init (P := l.prog) (w := w) (base := base) (mg := mg) (CX := L2.CX l.prog w) (Pf := (fun _ => True)) FXN ECN CFN (PySem.W.mg_none_of X G z_super) b15N
  have ERN : Er1 l.prog w K mg base "BadNumber" "number" BN feN _ ["self", "number"] (fun _ => True) := ⟨(PySem.W.mg_of X G aN), OXN, b5N, b6N, .all fun us hl => match us, hl with | [_, _], _ => rfl, GXN⟩
  have OXB : OexC K BT := ⟨⟨nmB, qnB, NB, bsB, bmB, snB, sbB, abB, coB, ddB, m0B, m1B, m2B, m3B, m5B, xB, rB⟩, b1B, q1B, q3B, b4B⟩
  have ECB : ErrC K BT := ⟨OXB, b7B, b8B, b9, b10B⟩
  have CFB : CodeF K l.prog cdaB := ⟨⟨cxB, ceB, vsB, czB, fileB, tfB, b11B, b12B, b13B⟩, b14⟩
  have FXB : FunX K "__init__" "BadTable.__init__" s_BadTable_init feB _ ccB cdaB BT := ⟨⟨ocB, odB, kVB, dcB, pmB, anB, ctB, slB, rfl, lB, cB⟩, ⟨clB, cdB, csB, eB⟩, kB⟩
  have KTB : KitC K BT := ⟨q2B, b17B, b18B, q1B, b25B, p12, p13, b26B⟩
  have GXB := ok_BadTable_init (P := l.prog) (w := w) (base := base) (mg := mg) (CX := L2.CX l.prog w) (Pf := (fun _ => True)) FXB ECB CFB (PySem.W.mg_none_of X G z_super) b15B
  have ERB : Er1 l.prog w K mg base "BadTable" "name" BT feB _ ["self", "name"] (fun _ => True) := ⟨(PySem.W.mg_of X G aB), OXB, b5B, b6B, .all fun us hl => match us, hl with | [_, _], _ => rfl, GXB⟩
  have OXQ : OexC K NO := ⟨⟨nmQ, qnQ, NQ, bsQ, bmQ, snQ, sbQ, abQ, coQ, ddQ, m0Q, m1Q, m2Q, m3Q, m5Q, xQ, rQ⟩, b1Q, q1Q, q3Q, b4Q⟩
  have ECQ : ErrC K NO := ⟨OXQ, b7Q, b8Q, b9, b10Q⟩
  have CFQ : CodeF K l.prog cdaQ := ⟨⟨cxQ, ceQ, vsQ, czQ, fileQ, tfQ, b11Q, b12Q, b13Q⟩, b14⟩
  have FXQ : FunX K "__init__" "NoOperation.__init__" s_NoOperation_init feQ _ ccQ cdaQ NO := ⟨⟨ocQ, odQ, kVQ, dcQ, pmQ, anQ, ctQ, slQ, rfl, lQ, cQ⟩, ⟨clQ, cdQ, csQ, eQ⟩, kQ⟩
  have KTQ : KitC K NO := ⟨q2Q, b17Q, b18Q, q1Q, b25Q, p12, p13, b26Q⟩
  have GXQ := ok_NoOperation_init (P := l.prog) (w := w) (base := base) (mg := mg) (CX := L2.CX l.prog w) (Pf := (fun _ => True)) FXQ ECQ CFQ (PySem.W.mg_none_of X G z_super) b15Q
  have ERQ : Er1 l.prog w K mg base "NoOperation" "name" NO feQ _ ["self", "name"] (fun _ => True) := ⟨(PySem.W.mg_of X G aQ), OXQ, b5Q, b6Q, .all fun us hl => match us, hl with | [_, _], _ => rfl, GXQ⟩
  have TC_ : TbC K mg TC := ⟨(PySem.W.mg_of X G aT), ⟨p1T, p2T, p3T, p4T⟩, n0T, n1T, n2T⟩
  have F0 := fun_mk (st := s_is_name) l0 c0 k0
  have D0 : Df K mg "is_name" s_is_name ["value"] f0 _ := ⟨F0, PySem.W.mg_of X G a0, F0.binds (ps := ["value"]) fun _ _ _ _ _ _ us hl => match us, hl with | [_], _ => rfl⟩
  have F1 := fun_mk (st := s_is_below) l1 c1 k1
  have D1 : Df K mg "is_below" s_is_below ["value", "bound"] f1 _ := ⟨F1, PySem.W.mg_of X G a1, F1.binds (ps := ["value", "bound"]) fun _ _ _ _ _ _ us hl => match us, hl with | [_, _], _ => rfl⟩
  have F2 := fun_mk (st := s_is_number) l2 c2 k2
  have D2 : Df K mg "is_number" s_is_number ["value"] f2 _ := ⟨F2, PySem.W.mg_of X G a2, F2.binds (ps := ["value"]) fun _ _ _ _ _ _ us hl => match us, hl with | [_], _ => rfl⟩
  have F3 := fun_mk (st := s_is_pair) l3 c3 k3
  have D3 : Df K mg "is_pair" s_is_pair ["pair", "size"] f3 _ := ⟨F3, PySem.W.mg_of X G a3, F3.binds (ps := ["pair", "size"]) fun _ _ _ _ _ _ us hl => match us, hl with | [_, _], _ => rfl⟩
  have F4 := fun_mk (st := s_is_row) l4 c4 k4
  have D4 : Df K mg "is_row" s_is_row ["row"] f4 _ := ⟨F4, PySem.W.mg_of X G a4, F4.binds (ps := ["row"]) fun _ _ _ _ _ _ us hl => match us, hl with | [_], _ => rfl⟩
  have F5 := fun_mk (st := s_check_rows) l5 c5 k5
  have D5 : Df K mg "check_rows" s_check_rows ["rows"] f5 _ := ⟨F5, PySem.W.mg_of X G a5, F5.binds (ps := ["rows"]) fun _ _ _ _ _ _ us hl => match us, hl with | [_], _ => rfl⟩
  have F6 := fun_mk (st := s_found_states) l6 c6 k6
  have D6 : Df K mg "found_states" s_found_states ["table"] f6 _ := ⟨F6, PySem.W.mg_of X G a6, F6.binds (ps := ["table"]) fun _ _ _ _ _ _ us hl => match us, hl with | [_], _ => rfl⟩
  have F7 := fun_mk (st := s_classes_of) l7 c7 k7
  have D7 : Df K mg "classes_of" s_classes_of ["table"] f7 _ := ⟨F7, PySem.W.mg_of X G a7, F7.binds (ps := ["table"]) fun _ _ _ _ _ _ us hl => match us, hl with | [_], _ => rfl⟩
  have F8 := fun_mk (st := s_finer) l8 c8 k8
  have D8 : Df K mg "finer" s_finer ["table", "classes"] f8 _ := ⟨F8, PySem.W.mg_of X G a8, F8.binds (ps := ["table", "classes"]) fun _ _ _ _ _ _ us hl => match us, hl with | [_, _], _ => rfl⟩
  have F9 := fun_mk (st := s_least) l9 c9 k9
  have D9 : Df K mg "least" s_least ["table"] f9 _ := ⟨F9, PySem.W.mg_of X G a9, F9.binds (ps := ["table"]) fun _ _ _ _ _ _ us hl => match us, hl with | [_], _ => rfl⟩
  have F10 := fun_mk (st := s_law_mixed) l10 c10 k10
  have D10 : Df K mg "_law_mixed" s_law_mixed ["_law_cell", "_law_k"] f10 _ := ⟨F10, PySem.W.mg_of X G a10, F10.binds (ps := ["_law_cell", "_law_k"]) fun _ _ _ _ _ _ us hl => match us, hl with | [_, _], _ => rfl⟩
  have F11 := fun_mk (st := s_law_draws) l11 c11 k11
  have D11 : Df K mg "_law_draws" s_law_draws ["_law_script", "_law_at", "_law_bounds"] f11 _ := ⟨F11, PySem.W.mg_of X G a11, F11.binds (ps := ["_law_script", "_law_at", "_law_bounds"]) fun _ _ _ _ _ _ us hl => match us, hl with | [_, _, _], _ => rfl⟩
  have F12 := fun_mk (st := s_law_names) l12 c12 k12
  have D12 : Df K mg "_law_names" s_law_names ["_law_script", "_law_at", "_law_many"] f12 _ := ⟨F12, PySem.W.mg_of X G a12, F12.binds (ps := ["_law_script", "_law_at", "_law_many"]) fun _ _ _ _ _ _ us hl => match us, hl with | [_, _, _], _ => rfl⟩
  have F13 := fun_mk (st := s_law_rows) l13 c13 k13
  have D13 : Df K mg "_law_rows" s_law_rows ["_law_script", "_law_at", "_law_names_here", "_law_size", "_law_most"] f13 _ := ⟨F13, PySem.W.mg_of X G a13, F13.binds (ps := ["_law_script", "_law_at", "_law_names_here", "_law_size", "_law_most"]) fun _ _ _ _ _ _ us hl => match us, hl with | [_, _, _, _, _], _ => rfl⟩
  have F14 := fun_mk (st := s_law_copy) l14 c14 k14
  have D14 : Df K mg "_law_copy" s_law_copy ["_law_names_here", "_law_rows_here"] f14 _ := ⟨F14, PySem.W.mg_of X G a14, F14.binds (ps := ["_law_names_here", "_law_rows_here"]) fun _ _ _ _ _ _ us hl => match us, hl with | [_, _], _ => rfl⟩
  have F15 := fun_mk (st := s_law_is_whole) l15 c15 k15
  have D15 : Df K mg "_law_is_whole" s_law_is_whole ["_law_told", "_law_due"] f15 _ := ⟨F15, PySem.W.mg_of X G a15, F15.binds (ps := ["_law_told", "_law_due"]) fun _ _ _ _ _ _ us hl => match us, hl with | [_, _], _ => rfl⟩
  have F16 := fun_mk (st := s_law_tells) l16 c16 k16
  have D16 : Df K mg "_law_tells" s_law_tells ["_law_table", "_law_names_here", "_law_rows_here", "_law_start"] f16 _ := ⟨F16, PySem.W.mg_of X G a16, F16.binds (ps := ["_law_table", "_law_names_here", "_law_rows_here", "_law_start"]) fun _ _ _ _ _ _ us hl => match us, hl with | [_, _, _, _], _ => rfl⟩
  have F17 := fun_mk (st := s_law_copies) l17 c17 k17
  have D17 : Df K mg "_law_copies" s_law_copies ["_law_script", "_law_at", "_law_names_here", "_law_rows_here", "_law_start"] f17 _ := ⟨F17, PySem.W.mg_of X G a17, F17.binds (ps := ["_law_script", "_law_at", "_law_names_here", "_law_rows_here", "_law_start"]) fun _ _ _ _ _ _ us hl => match us, hl with | [_, _, _, _, _], _ => rfl⟩
  have F18 := fun_mk (st := s_law_pairs) l18 c18 k18
  have D18 : Df K mg "_law_pairs" s_law_pairs ["_law_rows_here", "_law_last", "_law_names_here", "_law_start"] f18 _ := ⟨F18, PySem.W.mg_of X G a18, F18.binds (ps := ["_law_rows_here", "_law_last", "_law_names_here", "_law_start"]) fun _ _ _ _ _ _ us hl => match us, hl with | [_, _, _, _], _ => rfl⟩
  have F19 := fun_mk (st := s_law_classes) l19 c19 k19
  have D19 : Df K mg "_law_classes" s_law_classes ["_law_names_here", "_law_rows_here"] f19 _ := ⟨F19, PySem.W.mg_of X G a19, F19.binds (ps := ["_law_names_here", "_law_rows_here"]) fun _ _ _ _ _ _ us hl => match us, hl with | [_, _], _ => rfl⟩
  have F20 := fun_mk (st := s_law_breadth) l20 c20 k20
  have D20 : Df K mg "_law_breadth" s_law_breadth ["_law_rows_here", "_law_names_here", "_law_start"] f20 _ := ⟨F20, PySem.W.mg_of X G a20, F20.binds (ps := ["_law_rows_here", "_law_names_here", "_law_start"]) fun _ _ _ _ _ _ us hl => match us, hl with | [_, _, _], _ => rfl⟩
  have F21 := fun_mk (st := s_law_read) l21 c21 k21
  have D21 : Df K mg "_law_read" s_law_read ["_law_table", "_law_names_here"] f21 _ := ⟨F21, PySem.W.mg_of X G a21, F21.binds (ps := ["_law_table", "_law_names_here"]) fun _ _ _ _ _ _ us hl => match us, hl with | [_, _], _ => rfl⟩
  have F22 := fun_mk (st := s_law_long) l22 c22 k22
  have D22 : Df K mg "_law_long" s_law_long ["_law_names_here", "_law_d"] f22 _ := ⟨F22, PySem.W.mg_of X G a22, F22.binds (ps := ["_law_names_here", "_law_d"]) fun _ _ _ _ _ _ us hl => match us, hl with | [_, _], _ => rfl⟩
  have F23 := fun_mk (st := s_law_least) l23 c23 k23
  have D23 : Df K mg "_law_least" s_law_least ["_law_rows_here", "_law_names_here", "_law_start", "_law_told"] f23 _ := ⟨F23, PySem.W.mg_of X G a23, F23.binds (ps := ["_law_rows_here", "_law_names_here", "_law_start", "_law_told"]) fun _ _ _ _ _ _ us hl => match us, hl with | [_, _, _, _], _ => rfl⟩
  have F24 := fun_mk (st := s_law) l24 c24 k24
  have D24 : Df K mg "law" s_law ["_law_script"] fa _ := ⟨F24, PySem.W.mg_of X G a24, F24.binds (ps := ["_law_script"]) fun _ _ _ _ _ _ us hl => match us, hl with | [_], _ => rfl⟩
  have FTI : FunD K "__init__" "Table.__init__" (defArgs s_Table_init) (defBody s_Table_init) (defScope s_Table_init) [V.int 0] [] fTI _ := ⟨⟨ocTI, odTI, .ref TD, kVTI, dcTI, pmTI, anTI, cdTI, ctTI, slTI, rfl, lTI, cTI, .inr ⟨fun z => (nomatch z), TD, _, [.int 0 tkD], ntD, rfl, vD, rfl, .cons ⟨_, rfl⟩ .nil⟩, .inl rfl⟩, kTI⟩
  obtain ⟨ds1, hds1, bI⟩ := FTI.binds1 (ps := ["self", "rows", "first"]) 3 1 (fun z => nomatch z) rfl fun T kV doc pm an cdv ct us its h1 h2 => match us, h1, its, h2 with | [_, _, _], _, [_], _ => ⟨_, rfl, rfl⟩
  cases hds1
  have FTN := fun_mk (st := s_Table_names) lTN cTN kTN
  have bTN : Binds K _ ["self"] [] := FTN.binds (ps := ["self"]) fun _ _ _ _ _ _ us hl => match us, hl with | [_], _ => rfl
  have FTO := fun_mk (st := s_Table_call) lTO cTO kTO
  have bTO : Binds K _ ["self", "name", "state"] [] := FTO.binds (ps := ["self", "name", "state"]) fun _ _ _ _ _ _ us hl => match us, hl with | [_, _, _], _ => rfl
  have FTK := fun_mk (st := s_Table_check_name) lTK cTK kTK
  have bTK : Binds K _ ["self", "name"] [] := FTK.binds (ps := ["self", "name"]) fun _ _ _ _ _ _ us hl => match us, hl with | [_, _], _ => rfl
  have MT : Mk K TC fTI := ⟨p5T, mTI, hTI, p9T⟩
  have MEN : Meth K TC _ fTN := ⟨mTN, hTN, kTN⟩
  have MEK : Meth K TC _ fTK := ⟨mTK, hTK, kTK⟩
  have CO : CallO K TC fTO := ⟨mTO, hTO, iTO⟩
  have G0 := ok_is_name (P := l.prog) (w := w) (base := base) D0 T1
  have G1 := ok_is_below (P := l.prog) (w := w) (base := base) D1 T1
  have G2 := ok_is_number (P := l.prog) (w := w) (base := base) D2 T1 D1 G1
  have G3 := ok_is_pair (P := l.prog) (w := w) (base := base) D3 T1 D2 G2 D1 G1
  have G4 := ok_is_row (P := l.prog) (w := w) (base := base) D4 T1 D3 G3
  have G5 := ok_check_rows (P := l.prog) (w := w) (base := base) D5 T1 ERB D0 G0 D4 G4
  have GTI := ok_Table_init (P := l.prog) (w := w) (base := base) FTI T1 TC_ ERB D5 G5 D1 G1
  have GTN := ok_Table_names (P := l.prog) (w := w) (base := base) FTN T1 TC_
  have GTK := ok_Table_check_name (P := l.prog) (w := w) (base := base) FTK T1 TC_ ERQ D0 G0
  have GTO := ok_Table_call (P := l.prog) (w := w) (base := base) FTO T1 TC_ ERN MEK bTK GTK D1 G1
  have G6 := ok_found_states (P := l.prog) (w := w) (base := base) D6 TF_ TC_ MEN bTN GTN CO bTO GTO
  have G8 := ok_finer (P := l.prog) (w := w) (base := base) D8 TF_ TC_ MEN bTN GTN CO bTO GTO
  have G7 := ok_classes_of (P := l.prog) (w := w) (base := base) D7 TF_ TC_ D8 G8
  have G9 := ok_least (P := l.prog) (w := w) (base := base) D9 TF_ TC_ MT bI GTI MEN bTN GTN CO bTO GTO D7 G7 D6 G6
  have G10 := ok_law_mixed (P := l.prog) (w := w) (base := base) D10 TG
  have G11 := ok_law_draws (P := l.prog) (w := w) (base := base) D11 TG D10 G10
  have G12 := ok_law_names (P := l.prog) (w := w) (base := base) D12 TN_ D11 G11
  have G13 := ok_law_rows (P := l.prog) (w := w) (base := base) D13 TN_ D11 G11
  have G14 := ok_law_copy (P := l.prog) (w := w) (base := base) D14 TL_
  have G15 := ok_law_is_whole (P := l.prog) (w := w) (base := base) D15 TN_ (PySem.W.mg_none_of X G z_isinstance) (PySem.W.mg_none_of X G z_bool)
  have G16 := ok_law_tells (P := l.prog) (w := w) (base := base) D16 TD_ TC_ D15 G15 MEN bTN GTN CO bTO GTO
  have G17 := ok_law_copies (P := l.prog) (w := w) (base := base) D17 TP_ D11 G11
  have G18 := ok_law_pairs (P := l.prog) (w := w) (base := base) D18 TH_
  have G19 := ok_law_classes (P := l.prog) (w := w) (base := base) D19 TI_
  have G20 := ok_law_breadth (P := l.prog) (w := w) (base := base) D20 TH_
  have G21 := ok_law_read (P := l.prog) (w := w) (base := base) D21 TR_ TC_ D15 G15 MEN bTN GTN CO bTO GTO
  have G22 := ok_law_long (P := l.prog) (w := w) (base := base) D22 TJ_
  have G23 := ok_law_least (P := l.prog) (w := w) (base := base) D23 TE_ D18 G18 D19 G19 D20 G20
  exact ok_law (P := l.prog) (w := w) (base := base) D24 TZ_ TC_ MT bI GTI D11 G11 D12 G12 D13 G13 D14 G14 D17 G17 D22 G22 D16 G16 D21 G21 D23 G23 D9 G9
theorem walk {l : PySem.W.OpenLaw} {q : Program} {loose : List Str} {XP : (Str → Option Value) → Heap → Prop} {YP : World → Heap → Prop} {d : DefRec} {K : Params → PySem.W.Frag} (hn : l.most = some 63) (hdf : d.params.defaults = [])
    (hY : ∀ (w : World) (h : Heap), YP w h → (K w.params).In h)
    (F : ∀ (w : World) (mg : Str → Option Value) (fa : Addr) (h : Heap), (K w.params).In h → h.Ns mainGlobals mg → mg d.name = some (.ref fa) →
      ∃ fd : FuncData, (∀ (s : Shared) (u : Value), BindsTo s fd ⟨[u], []⟩ [("_law_script", u)]) ∧ ∀ base : Heap, (K w.params).In base → base.Ns mainGlobals mg → FnOk l.prog w (K w.params) mg base CX0 13 fa fd ["_law_script"] (spLaw (K w.params))) :
    PySem.W.WalkO q loose XP YP l.row.toRowW d [] (fun f vs => PySem.call f vs) :=
  L2.walk_of (n := 63) (k := 13) (x := "_law_script") (CX := fun _ => CX0) (sp := fun w => spLaw (K w.params)) hn (by decide) hdf ⟨rfl, by decide, by decide⟩ hY F (fun _ _ a ns hl _ hS => ⟨a, ns, rfl, hS, hl, fun _ _ => rfl⟩) fun _ _ _ _ _ z => z
end My
open PySem PySem.W PyProof.Rows in
set_option maxRecDepth 100000 in
set_option maxHeartbeats 0 in
theorem PySem.Challenge.cw_coretower_k18_whole_least_table_holds : PySem.Challenge.rw_coretower_k18_whole_least_table.Holds := by
  w_on; o_law; k_head; (case hw => w_witness2)
  k_fill
  refine My.walk (l := PySem.Challenge.rw_coretower_k18_whole_least_table) rfl rfl (fun w h Y => PySem.W.kIn_of Y) ?F
  case F =>
    intro w mg fa h KX G hmg
    refine' My.all_mk KX G hmg ?a0 ?l0 ?c0 ?k0 ?a1 ?l1 ?c1 ?k1 ?a2 ?l2 ?c2 ?k2 ?a3 ?l3 ?c3 ?k3 ?a4 ?l4 ?c4 ?k4 ?a5 ?l5 ?c5 ?k5 ?a6 ?l6 ?c6 ?k6 ?a7 ?l7 ?c7 ?k7 ?a8 ?l8 ?c8 ?k8 ?a9 ?l9 ?c9 ?k9 ?a10 ?l10 ?c10 ?k10 ?a11 ?l11 ?c11 ?k11 ?a12 ?l12 ?c12 ?k12 ?a13 ?l13 ?c13 ?k13 ?a14 ?l14 ?c14 ?k14 ?a15 ?l15 ?c15 ?k15 ?a16 ?l16 ?c16 ?k16 ?a17 ?l17 ?c17 ?k17 ?a18 ?l18 ?c18 ?k18 ?a19 ?l19 ?c19 ?k19 ?a20 ?l20 ?c20 ?k20 ?a21 ?l21 ?c21 ?k21 ?a22 ?l22 ?c22 ?k22 ?a23 ?l23 ?c23 ?k23 ?a24 ?l24 ?c24 ?k24 ?z_isinstance ?z_str ?z_int ?z_bool ?z_tuple ?z_list ?z_set ?z_len ?z_all ?z_abs ?z_range ?z_super ?gL ?eL ?gX6 ?gX1 ?aN ?xN ?rN ?b1N ?q1N ?q2N ?q3N ?b4N ?b5N ?b6N ?lN ?cN ?kN ?eN ?b7N ?b8N ?b9 ?b14 ?b31 ?p12 ?p13 ?b10N ?b11N ?b12N ?b13N ?b15N ?b17N ?b18N ?b19N ?b25N ?b26N ?aB ?xB ?rB ?b1B ?q1B ?q2B ?q3B ?b4B ?b5B ?b6B ?lB ?cB ?kB ?eB ?b7B ?b8B ?b10B ?b11B ?b12B ?b13B ?b15B ?b17B ?b18B ?b19B ?b25B ?b26B ?aQ ?xQ ?rQ ?b1Q ?q1Q ?q2Q ?q3Q ?b4Q ?b5Q ?b6Q ?lQ ?cQ ?kQ ?eQ ?b7Q ?b8Q ?b10Q ?b11Q ?b12Q ?b13Q ?b15Q ?b17Q ?b18Q ?b19Q ?b25Q ?b26Q ?aT ?p1T ?p2T ?p3T ?p4T ?n0T ?n1T ?n2T ?p9T ?p5T ?mTI ?hTI ?lTI ?cTI ?kTI ?mTN ?hTN ?lTN ?cTN ?kTN ?mTO ?hTO ?lTO ?cTO ?kTO ?mTK ?hTK ?lTK ?cTK ?kTK ?iTO ?vD ?uD
    (case a0 => k_is)
    (case l0 => k_is)
    (case c0 => k_is)
    (case k0 => k_is)
    (case a1 => k_is)
    (case l1 => k_is)
    (case c1 => k_is)
    (case k1 => k_is)
    (case a2 => k_is)
    (case l2 => k_is)
    (case c2 => k_is)
    (case k2 => k_is)
    (case a3 => k_is)
    (case l3 => k_is)
    (case c3 => k_is)
    (case k3 => k_is)
    (case a4 => k_is)
    (case l4 => k_is)
    (case c4 => k_is)
    (case k4 => k_is)
    (case a5 => k_is)
    (case l5 => k_is)
    (case c5 => k_is)
    (case k5 => k_is)
    (case a6 => k_is)
    (case l6 => k_is)
    (case c6 => k_is)
    (case k6 => k_is)
    (case a7 => k_is)
    (case l7 => k_is)
    (case c7 => k_is)
    (case k7 => k_is)
    (case a8 => k_is)
    (case l8 => k_is)
    (case c8 => k_is)
    (case k8 => k_is)
    (case a9 => k_is)
    (case l9 => k_is)
    (case c9 => k_is)
    (case k9 => k_is)
    (case a10 => k_is)
    (case l10 => k_is)
    (case c10 => k_is)
    (case k10 => k_is)
    (case a11 => k_is)
    (case l11 => k_is)
    (case c11 => k_is)
    (case k11 => k_is)
    (case a12 => k_is)
    (case l12 => k_is)
    (case c12 => k_is)
    (case k12 => k_is)
    (case a13 => k_is)
    (case l13 => k_is)
    (case c13 => k_is)
    (case k13 => k_is)
    (case a14 => k_is)
    (case l14 => k_is)
    (case c14 => k_is)
    (case k14 => k_is)
    (case a15 => k_is)
    (case l15 => k_is)
    (case c15 => k_is)
    (case k15 => k_is)
    (case a16 => k_is)
    (case l16 => k_is)
    (case c16 => k_is)
    (case k16 => k_is)
    (case a17 => k_is)
    (case l17 => k_is)
    (case c17 => k_is)
    (case k17 => k_is)
    (case a18 => k_is)
    (case l18 => k_is)
    (case c18 => k_is)
    (case k18 => k_is)
    (case a19 => k_is)
    (case l19 => k_is)
    (case c19 => k_is)
    (case k19 => k_is)
    (case a20 => k_is)
    (case l20 => k_is)
    (case c20 => k_is)
    (case k20 => k_is)
    (case a21 => k_is)
    (case l21 => k_is)
    (case c21 => k_is)
    (case k21 => k_is)
    (case a22 => k_is)
    (case l22 => k_is)
    (case c22 => k_is)
    (case k22 => k_is)
    (case a23 => k_is)
    (case l23 => k_is)
    (case c23 => k_is)
    (case k23 => k_is)
    (case a24 => k_is)
    (case l24 => k_is)
    (case c24 => k_is)
    (case k24 => k_is)
    (case z_isinstance => k_is)
    (case z_str => k_is)
    (case z_int => k_is)
    (case z_bool => k_is)
    (case z_tuple => k_is)
    (case z_list => k_is)
    (case z_set => k_is)
    (case z_len => k_is)
    (case z_all => k_is)
    (case z_abs => k_is)
    (case z_range => k_is)
    (case z_super => k_is)
    (case gL => k_is)
    (case eL => decide +kernel)
    (case gX6 => k_is)
    (case gX1 => k_is)
    (case aN => k_is)
    (case xN => k_is)
    (case rN => decide +kernel)
    (case b1N => k_is)
    (case q1N => k_is)
    (case q2N => k_is)
    (case q3N => k_is)
    (case b4N => k_is)
    (case b5N => k_is)
    (case b6N => k_is)
    (case lN => k_is)
    (case cN => k_is)
    (case kN => k_is)
    (case eN => k_is)
    (case b7N => ks_is)
    (case b8N => k_is)
    (case b9 => k_is)
    (case b14 => first | rfl | decide +kernel)
    (case b31 => decide +kernel)
    (case p12 => k_is)
    (case p13 => k_is)
    (case b10N => k_is)
    (case b11N => k_is)
    (case b12N => rfl)
    (case b13N => first | rfl | decide +kernel)
    (case b15N => k_is)
    (case b17N => k_is)
    (case b18N => k_is)
    (case b19N => k_is)
    (case b25N => k_is)
    (case b26N => k_is)
    (case aB => k_is)
    (case xB => k_is)
    (case rB => decide +kernel)
    (case b1B => k_is)
    (case q1B => k_is)
    (case q2B => k_is)
    (case q3B => k_is)
    (case b4B => k_is)
    (case b5B => k_is)
    (case b6B => k_is)
    (case lB => k_is)
    (case cB => k_is)
    (case kB => k_is)
    (case eB => k_is)
    (case b7B => ks_is)
    (case b8B => k_is)
    (case b10B => k_is)
    (case b11B => k_is)
    (case b12B => rfl)
    (case b13B => first | rfl | decide +kernel)
    (case b15B => k_is)
    (case b17B => k_is)
    (case b18B => k_is)
    (case b19B => k_is)
    (case b25B => k_is)
    (case b26B => k_is)
    (case aQ => k_is)
    (case xQ => k_is)
    (case rQ => decide +kernel)
    (case b1Q => k_is)
    (case q1Q => k_is)
    (case q2Q => k_is)
    (case q3Q => k_is)
    (case b4Q => k_is)
    (case b5Q => k_is)
    (case b6Q => k_is)
    (case lQ => k_is)
    (case cQ => k_is)
    (case kQ => k_is)
    (case eQ => k_is)
    (case b7Q => ks_is)
    (case b8Q => k_is)
    (case b10Q => k_is)
    (case b11Q => k_is)
    (case b12Q => rfl)
    (case b13Q => first | rfl | decide +kernel)
    (case b15Q => k_is)
    (case b17Q => k_is)
    (case b18Q => k_is)
    (case b19Q => k_is)
    (case b25Q => k_is)
    (case b26Q => k_is)
    (case aT => k_is)
    (case p1T => k_is)
    (case p2T => k_is)
    (case p3T => k_is)
    (case p4T => k_is)
    (case n0T => k_is)
    (case n1T => k_is)
    (case n2T => k_is)
    (case p9T => k_is)
    (case p5T => k_is)
    (case mTI => k_is)
    (case hTI => k_is)
    (case lTI => k_is)
    (case cTI => k_is)
    (case kTI => k_is)
    (case mTN => k_is)
    (case hTN => k_is)
    (case lTN => k_is)
    (case cTN => k_is)
    (case kTN => k_is)
    (case mTO => k_is)
    (case hTO => k_is)
    (case lTO => k_is)
    (case cTO => k_is)
    (case kTO => k_is)
    (case mTK => k_is)
    (case hTK => k_is)
    (case lTK => k_is)
    (case cTK => k_is)
    (case kTK => k_is)
    (case iTO => k_is)
    (case vD => k_is)
    (case uD => exact rfl)

