package client_test

import (
	"fmt"

	"hypostyle/api"
	"hypostyle/client"
	"hypostyle/file"
	"hypostyle/query"
	"hypostyle/roots"
	"hypostyle/serve"
	"hypostyle/tag"
)

// The way of a table through all layers, as README.md shows it.
func Example() {
	table := api.Table{
		Cols: []api.Col{{Name: "year", Type: api.TypeInt}, {Name: "town", Type: api.TypeText, Nullable: true}},
		Rows: 3,
		Data: [][]api.Cell{{{Int: 1999}, {Int: 2004}, {Int: 2011}}, {{Text: "Ulm"}, {Null: true}, {Text: "Bonn"}}},
	}
	b, err := file.Write(table, api.Conf{GroupRows: 1000, PageRows: 1, Encs: []int{api.EncBest, api.EncFront}})
	if err != api.OK {
		fmt.Println("no file:", err)
	}
	root, _ := roots.Of(tag.New(), b)

	q, _ := query.Encode(api.Query{Cols: []int{1, 0}, From: 2, To: 3})
	answer, err := serve.Serve(b, q)
	if err != api.OK {
		fmt.Println("no answer:", err)
	}

	got, err := client.Check(root, q, answer)
	fmt.Println(err == api.OK, got.Cols[0].Name, got.Data[0][0].Text, got.Data[1][0].Int)

	answer[len(answer)-1] ^= 1
	_, err = client.Check(root, q, answer)
	fmt.Println(err == api.ErrSum)
	// Output:
	// true town Bonn 2011
	// true
}
